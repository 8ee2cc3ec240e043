/- Texts that belong together, one behind the other: MayKit, HeadMath, MayMath, RefWireSt, ConvT, RefWireRecB. -/
import Derived.Test.YticdpidngmeebaaD9
/- What the statement WireMay wants beside: a slice of two messages, rows that are kept. -/
namespace Go.Proofs.Yticdpidngmeebaa
open Go.RowKit
set_option linter.unusedVariables false
set_option maxRecDepth 20000

theorem infoM : (Try.prog.info? 25).map (fun i => (i.zero, i.size, i.bytes)) = some (some (.agg zM.toArray), 6, 112) := by kernel_rfl
theorem fill2M (v0 v1 v2 v3 v4 v5 u0 u1 u2 u3 u4 u5 : Value) : Instr.fill (fun i => some (i * 6, 6)) ((Array.range (2 * 6)).map fun j => (zM.toArray)[j % (zM.toArray).size]!) [(0, .agg #[v0, v1, v2, v3, v4, v5]), (1, .agg #[u0, u1, u2, u3, u4, u5])] = some #[v0, v1, v2, v3, v4, v5, u0, u1, u2, u3, u4, u5] := by
  kernel_rfl
theorem run_build2M (v0 v1 v2 v3 v4 v5 u0 u1 u2 u3 u4 u5 : Value) (w : World) : (Instr.buildSlice 43 2 #[(0, .agg #[v0, v1, v2, v3, v4, v5]), (1, .agg #[u0, u1, u2, u3, u4, u5])]).run Try.prog w = .ok (.slice (some ⟨w.heap.size, 0, none⟩) 2 2) (w.alloc (.cells #[v0, v1, v2, v3, v4, v5, u0, u1, u2, u3, u4, u5] 25)) := by
  obtain ⟨i0, hi0, hz0, hz1, hz2⟩ := info_parts infoM
  have hf := fill2M v0 v1 v2 v3 v4 v5 u0 u1 u2 u3 u4 u5
  obtain ⟨Z, hZ⟩ : ∃ Z : Array Value, zM.toArray = Z := ⟨_, rfl⟩
  rw [hZ] at hf
  rw [hZ] at hz0
  have hsz : (sizeOf 25).run Try.prog w = .ok 6 w := by simp [sizeOf, typeInfo, hi0, hz1]
  have hzv : (zeroValue 25).run Try.prog w = .ok (.agg Z) w := by simp [zeroValue, typeInfo, hi0, hz0]
  have hnr : ∀ cs : Array Value, (newRow 25 cs).run Try.prog w = .ok ⟨w.heap.size, 0, none⟩ (w.alloc (.cells cs 25)) := fun cs => by simp [newRow]
  have hu : (underlying 43).run Try.prog w = .ok _ w := run_underlying Try.underlying43 w
  have hfc : Instr.fill (fun i => some (i * 6, 6)) ((Array.range (2 * 6)).map fun j => (Value.agg Z).cells[j % (Value.agg Z).cells.size]!) (#[(0, .agg #[v0, v1, v2, v3, v4, v5]), (1, .agg #[u0, u1, u2, u3, u4, u5])] : Array (Nat × Value)).toList = some #[v0, v1, v2, v3, v4, v5, u0, u1, u2, u3, u4, u5] := hf
  unfold Instr.buildSlice
  simp only [Sem.run_bind, hu, Result.andThen_ok, hsz, if_neg (show ¬ (2 * 6 > 2 ^ 24) by decide), Sem.run_pure, if_neg (show ¬ (2 * 6 = 0) by decide), hzv, hfc, hnr]
theorem build_2M {ops : Array Oper} {rest : List Oper} {op : Oper} {a : Act} {w : World} {Q : Exit → Act → World → Prop} {v0 v1 v2 v3 v4 v5 u0 u1 u2 u3 u4 u5 : Value} (hg : op.guard = none) (x y : Operand) (ho : op.op = .buildSlice 43 2 #[(0, x), (1, y)])
    (hx : a.eval x = .agg #[v0, v1, v2, v3, v4, v5]) (hy : a.eval y = .agg #[u0, u1, u2, u3, u4, u5]) (h : ∀ W, Hid (W = w.alloc (.cells #[v0, v1, v2, v3, v4, v5, u0, u1, u2, u3, u4, u5] 25)) → wpList Try.prog ops Q rest (a.put op.dst (.slice (some ⟨w.heap.size, 0, none⟩) 2 2)) W) : wpList Try.prog ops Q (op :: rest) a w := by
  refine wpList_plain hg fun K hK => ?_
  unfold Oper.wp execOp
  simp only [ho, List.map_toArray, List.map_cons, List.map_nil, hx, hy, Sem.run_bind, run_build2M, Result.andThen_ok]
  exact hK _ _ (h _ (Lib.hid rfl))
theorem wp_build_recS {op : Oper} {a : Act} {w : World} {K : Act → World → Prop} {Q : Exit → Act → World → Prop} {r : Rec} (hl : Hid (r.b.length = 16)) (x : Operand) (ho : op.op = .buildSlice 23 1 #[(0, x)])
    (hx : a.eval x = recV r) (h : K (a.put op.dst (.slice (some ⟨w.heap.size, 0, none⟩) 1 1)) (w.alloc (.cells (recL r).toArray 42))) : op.wp Try.prog a w K Q := by
  unfold Oper.wp execOp
  simp only [ho, List.map_toArray, List.map_cons, List.map_nil, hx, Sem.run_bind, run_buildR r w hl.out, Result.andThen_ok]
  exact h
theorem wp_append_recs {op : Oper} {a : Act} {w : World} {K : Act → World → Prop} {Q : Exit → Act → World → Prop} {base : Nat} {v : Value} {D : List Rec} (hE : Hid (RowR w base v D)) (s x : Operand) (ho : op.op = .call { callee := .builtin .append, args := #[s, x], argTypes := #[23, 23] })
    (hs : a.eval s = v) {G o m c : Nat} (ys : List Rec) (hx : a.eval x = .slice (some ⟨G, o, none⟩) m c) (hm : Hid (m = ys.length)) (hr : Hid (w.rangeAt G o (flatR ys))) (hy : Hid (All16 ys)) (hle : Hid (D.length + ys.length ≤ 100000)) (hbase : Hid (base ≤ w.heap.size))
    (h : ∀ v' w', Hid (RowR w' base v' (D ++ ys)) → Hid (w.grownBy w' v.ownBlock) → Hid (v'.ownBlock = v.ownBlock ∨ v'.ownBlock = some w.heap.size) → K (a.put op.dst v') w') : op.wp Try.prog a w K Q := by
  obtain ⟨i0, hi0, hz0, hz1, hz2⟩ := info_parts infoR
  have hml := hm.out
  have hll := hle.out
  obtain ⟨v', w', hrun, h1, h2, _, h4⟩ := run_append_own_at (P := Try.prog) w base 23 op.type 42 i0 _ 23 96 Try.underlying23 hi0 hz0 hz1 hz2 rfl (by decide) v D.length (flatR D) hE.out.1 ⟨G, o, none⟩ m c (flatR ys) (by rw [flatR_len ys hy.out, hml]) (fun j u hu => by
    have := hr.out j u hu
    have hadd : (⟨G, o, none⟩ : Addr).add j = ⟨G, o + j, none⟩ := by unfold Addr.add; split <;> simp_all
    rw [hadd]
    exact this) (flatR_one ys) (by unfold maxLen; omega) (by omega) hbase.out
  unfold Oper.wp execOp
  simp only [ho, resolve, invoke, builtin, Sem.run_bind, Sem.run_pure, Result.andThen_ok, List.map_toArray, List.map_cons, List.map_nil, hs, hx, hrun]
  refine h v' w' (Lib.hid ⟨?_, ?_⟩) (Lib.hid h2) (Lib.hid h4)
  · rw [List.length_append, flatR_append, ← hml]; exact h1
  · intro e he
    rcases List.mem_append.1 he with he | he
    · exact hE.out.2 e he
    · exact hy.out e he
/-- A message at a place of a block, loaded whole. -/
theorem load_msgO {ops : Array Oper} {rest : List Oper} {op : Oper} {a : Act} {w : World} {Q : Exit → Act → World → Prop} {G o : Nat} {vs : List Value} (hA : Hid (w.rangeAt G o vs)) (hl : vs.length = 6) (x : Operand) (hw : Region.wanted op (yielded ops a.tmps) = true) (ho : op.op = .load 25 x)
    (hx : a.eval x = .pointer (some ⟨G, o, none⟩)) (h : wpList Try.prog ops Q rest (a.put op.dst (.agg vs.toArray)) w) : wpList Try.prog ops Q (op :: rest) a w :=
  wpList_load_row hw 25 x ho G o hx vs _ hA.out Try.underlying25 rfl (by rw [msg_size, hl]) h
theorem RecsAt.keep {w w' : World} {a : Option Addr} {c : Nat} {D : List Rec} (h : RecsAt w a c D) (hk : ∀ x, a = some x → x.block < w.heap.size → w'.heap[x.block]? = w.heap[x.block]?) (hs : w.heap.size ≤ w'.heap.size) : RecsAt w' a c D := by
  obtain ⟨h1, h2, h3, h4⟩ := h
  refine ⟨h1, h2, h3, ?_⟩
  rcases h4 with h4 | ⟨g, o, e, hg, hr⟩
  · exact .inl h4
  · exact .inr ⟨g, o, e, Nat.lt_of_lt_of_le hg hs, fun j u hu => (World.cell?_of_block (w := w) (a := ⟨g, o + j, none⟩) (show w'.heap[g]? = w.heap[g]? from hk ⟨g, o, none⟩ e hg)).trans (hr j u hu)⟩
theorem QusAt.keep {w w' : World} {a : Option Addr} {c : Nat} {D : List Qu} (h : QusAt w a c D) (hk : ∀ x, a = some x → x.block < w.heap.size → w'.heap[x.block]? = w.heap[x.block]?) (hs : w.heap.size ≤ w'.heap.size) : QusAt w' a c D := by
  obtain ⟨h1, h2, h3, h4⟩ := h
  refine ⟨h1, h2, h3, ?_⟩
  rcases h4 with h4 | ⟨g, o, e, hg, hr⟩
  · exact .inl h4
  · exact .inr ⟨g, o, e, Nat.lt_of_lt_of_le hg hs, fun j u hu => (World.cell?_of_block (w := w) (a := ⟨g, o + j, none⟩) (show w'.heap[g]? = w.heap[g]? from hk ⟨g, o, none⟩ e hg)).trans (hr j u hu)⟩
end Go.Proofs.Yticdpidngmeebaa
/- Messages that are made good may be; the first twelve bytes of what is written: plain facts. -/
namespace Go.Proofs.Yticdpidngmeebaa
open Go.RowKit
set_option linter.unusedVariables false
set_option maxRecDepth 20000

theorem word_mask (x : Int) : wordN ((maskN x 65535 : Nat) : Int) = true := by
  have h := (mask_is x 65535 (by decide)).2
  exact decide_eq_true ⟨by omega, by omega⟩
theorem headR_good {nm : ByteArray} {ty : Int} {c t : Int} {f : Int} {b : List Nat} {tg da : ByteArray} (hn : mayN nm = true) (ht : wordN ty = true) (hc : wordN c = true) (h0 : 0 ≤ t) (h1 : t ≤ 2147483647) (hd : da.size ≤ 65535) : headR ⟨nm, ty, c, t, f, b, tg, da⟩ = true := by
  unfold headR
  simp only [hn, ht, hc, decide_eq_true h0, decide_eq_true h1, decide_eq_true hd, Bool.and_self]
theorem goodR_may {r : Rec} (hf : Fit r) : mayR (goodR r) = true := by
  have HGD := good_is r.f r.b hf.1 hf.2.1
  have hn := good_may r.name
  have ht := good_may r.tg
  have hc := word_mask r.cl
  have hm := (mask_is r.ttl 2147483647 (by decide)).2
  have h0 : (0 : Int) ≤ ((maskN r.ttl 2147483647 : Nat) : Int) := by omega
  have h1 : ((maskN r.ttl 2147483647 : Nat) : Int) ≤ 2147483647 := by omega
  have hfw := few_size r.da 20
  have h4 : mayB 4 (b4 (fourB (goodB r.f r.b))) = true := GoodA.may (.four _ (fourB_le' _ HGD.lt))
  have h6 : mapF (goodF r.f) = 6 ∧ mayB 6 (mapB (goodF r.f) (goodB r.f r.b)) = true := by
    have hl : (mapB (goodF r.f) (goodB r.f r.b)).length = 16 := by
      unfold mapB
      split
      · rw [byL_len]; rfl
      · exact HGD.len
    refine ⟨?_, may6 _ hl⟩
    unfold mapF goodF
    split <;> split <;> simp_all
  unfold goodR mayR
  split
  · rw [headR_good hn (by decide) hc h0 h1 (Nat.zero_le _)]
    unfold bodyR
    simp only [h4]
    rfl
  · split
    · rw [headR_good hn (by decide) hc h0 h1 (Nat.zero_le _)]
      unfold bodyR
      simp only [h6.1, h6.2]
      rfl
    · split
      · rw [headR_good hn (by decide) hc h0 h1 (Nat.zero_le _)]
        unfold bodyR
        simp only [ht]
        rfl
      · rw [headR_good hn (by decide) hc h0 h1 (by omega)]
        unfold bodyR
        rfl
theorem goodM_may {m : Msg} (h1 : ∀ r ∈ m.an, Fit r) (h2 : ∀ r ∈ m.au, Fit r) (h3 : ∀ r ∈ m.mo, Fit r) : mayM (goodM m) = true := by
  have ha : ∀ {D : List Rec}, (∀ r ∈ D, Fit r) → (goodRs D).all mayR = true := fun {D} h => by
    rw [List.all_eq_true]
    intro r hr
    obtain ⟨x, hx, rfl⟩ := List.mem_map.1 hr
    exact goodR_may (h x (List.mem_of_mem_take hx))
  have hq : (((m.qs.take 3).map goodQ).all mayQ9) = true := by
    rw [List.all_eq_true]
    intro q hq
    obtain ⟨x, hx, rfl⟩ := List.mem_map.1 hq
    unfold mayQ9 goodQ
    simp only [good_may, word_mask, Bool.and_self]
  unfold mayM goodM
  simp only [ha h1, ha h2, ha h3, hq, word_mask, Bool.and_self]
theorem goodR_room (r : Rec) : Room (goodR r) := by
  have h1 := goodN_small r.name
  have h2 := goodN_small r.tg
  unfold goodR Room
  split
  · exact ⟨by simp only; omega, Nat.zero_le _⟩
  · split
    · exact ⟨by simp only; omega, Nat.zero_le _⟩
    · split
      · exact ⟨by simp only; omega, by simp only; omega⟩
      · exact ⟨by simp only; omega, Nat.zero_le _⟩
theorem goodM_room (m : Msg) : RoomM (goodM m) ∧ Len4 (goodM m) := by
  have hq : ((m.qs.take 3).map goodQ).length ≤ 3 := by rw [List.length_map, List.length_take]; omega
  have l1 := goodRs_len m.an
  have l2 := goodRs_len m.au
  have l3 := goodRs_len m.mo
  have hr : ∀ (D : List Rec), ∀ r ∈ goodRs D, Room r := fun D r hr => by
    obtain ⟨x, _, rfl⟩ := List.mem_map.1 hr
    exact goodR_room x
  refine ⟨⟨fun q hq => ?_, hr _, hr _, hr _, ?_, ?_, ?_, ?_⟩, ⟨?_, ?_, ?_, ?_⟩⟩
  · obtain ⟨x, _, rfl⟩ := List.mem_map.1 hq
    have := goodN_small x.name
    show (goodN x.name).size ≤ 1900000
    omega
  all_goals (unfold goodM; simp only; omega)
theorem qs_pre : ∀ (Q : List Qu) (t : Wst), ∃ x, (Q.foldl qW t).1 = t.1 ++ x
  | [], t => ⟨[], by simp⟩
  | q :: Q, t => by
    obtain ⟨x, hx⟩ := qs_pre Q (qW t q)
    exact ⟨(nmT q.name t.1.length t.2.1 t.2.2).1 ++ (twoL q.ty.toNat ++ twoL q.cl.toNat) ++ x, by rw [List.foldl_cons, hx]; simp only [qW, List.append_assoc]⟩
theorem rs_pre : ∀ (D : List Rec) (t : Wst), ∃ x, (D.foldl rW t).1 = t.1 ++ x
  | [], t => ⟨[], by simp⟩
  | r :: D, t => by
    obtain ⟨x, hx⟩ := rs_pre D (rW t r)
    exact ⟨(nmT r.name t.1.length t.2.1 t.2.2).1 ++ numsR r ++ twoL (daR t r).1.length ++ (daR t r).1 ++ x, by rw [List.foldl_cons, hx]; simp only [rW, List.append_assoc]⟩
theorem wB_pre (m : Msg) : ∃ x, wB m = hdB m ++ x := by
  obtain ⟨x0, h0⟩ := qs_pre m.qs (hdB m, [], [])
  obtain ⟨x1, h1⟩ := rs_pre m.an (m.qs.foldl qW (hdB m, [], []))
  obtain ⟨x2, h2⟩ := rs_pre m.au (m.an.foldl rW (m.qs.foldl qW (hdB m, [], [])))
  obtain ⟨x3, h3⟩ := rs_pre m.mo (m.au.foldl rW (m.an.foldl rW (m.qs.foldl qW (hdB m, [], []))))
  refine ⟨x0 ++ x1 ++ x2 ++ x3, ?_⟩
  unfold wB wM
  rw [h3, h2, h1, h0]
  simp only [List.append_assoc]
def wants (m : Msg) : List Nat := [m.id.toNat, m.fl.toNat, m.qs.length, m.an.length, m.au.length, m.mo.length]
theorem two_val (n : Nat) (h : n ≤ 65535) : (UInt8.ofNat (n / 256)).toNat * 256 + (UInt8.ofNat (n % 256)).toNat = n := by
  rw [UInt8.toNat_ofNat', UInt8.toNat_ofNat', Nat.mod_eq_of_lt (by omega), Nat.mod_eq_of_lt (by omega)]
  omega
theorem hd_len (m : Msg) : (hdB m).length = 12 := rfl
/-- Each two of the first bytes are a number of the head. -/
theorem head_word (m : Msg) (hw : ∀ n ∈ wants m, n ≤ 65535) (i : Nat) (hi : i < 6) (h0 : 2 * i < (wB m).length) (h1 : 2 * i + 1 < (wB m).length) : ((wB m)[2 * i]).toNat * 256 + ((wB m)[2 * i + 1]).toNat = (wants m)[i]'(by show i < 6; exact hi) := by
  obtain ⟨x, hx⟩ := wB_pre m
  have e0 : (wB m)[2 * i] = (hdB m)[2 * i]'(by rw [hd_len]; omega) := by
    simp only [hx]
    rw [List.getElem_append_left]
  have e1 : (wB m)[2 * i + 1] = (hdB m)[2 * i + 1]'(by rw [hd_len]; omega) := by
    simp only [hx]
    rw [List.getElem_append_left]
  rw [e0, e1]
  have k0 := hw m.id.toNat (by simp [wants])
  have k1 := hw m.fl.toNat (by simp [wants])
  have k2 := hw m.qs.length (by simp [wants])
  have k3 := hw m.an.length (by simp [wants])
  have k4 := hw m.au.length (by simp [wants])
  have k5 := hw m.mo.length (by simp [wants])
  match i, hi with
  | 0, _ => exact two_val _ k0
  | 1, _ => exact two_val _ k1
  | 2, _ => exact two_val _ k2
  | 3, _ => exact two_val _ k3
  | 4, _ => exact two_val _ k4
  | 5, _ => exact two_val _ k5
end Go.Proofs.Yticdpidngmeebaa
/- Plain facts of the statement WireMay: messages of few records. -/
namespace Go.Proofs.Yticdpidngmeebaa
open Go.RowKit
set_option linter.unusedVariables false
set_option maxRecDepth 20000

def Few3 (m : Msg) : Prop := m.qs.length ≤ 3 ∧ m.an.length ≤ 4 ∧ m.au.length ≤ 3 ∧ m.mo.length ≤ 3
def Few3s (m : Msg) : Prop := m.qs.length ≤ 3 ∧ m.an.length ≤ 3 ∧ m.au.length ≤ 3 ∧ m.mo.length ≤ 3
theorem Few3s.few {m : Msg} (h : Few3s m) : Few3 m := ⟨h.1, Nat.le_trans h.2.1 (by decide), h.2.2⟩
theorem goodM_lens (m : Msg) : Few3s (goodM m) := ⟨by show ((m.qs.take 3).map goodQ).length ≤ 3; rw [List.length_map, List.length_take]; omega, goodRs_len _, goodRs_len _, goodRs_len _⟩
theorem fewM_room {m : Msg} (hq : ∀ q ∈ m.qs, q.name.size ≤ 1900000) (h1 : ∀ r ∈ m.an, Room r) (h2 : ∀ r ∈ m.au, Room r) (h3 : ∀ r ∈ m.mo, Room r) : RoomM (fewM m) ∧ Len4 (fewM m) ∧ Few3s (fewM m) := by
  have l : ∀ {α : Type} (l : List α), (l.take 3).length ≤ 3 := fun l => by rw [List.length_take]; omega
  refine ⟨⟨fun q hx => hq q (List.mem_of_mem_take hx), fun r hx => h1 r (List.mem_of_mem_take hx), fun r hx => h2 r (List.mem_of_mem_take hx), fun r hx => h3 r (List.mem_of_mem_take hx), ?_, ?_, ?_, ?_⟩, ⟨?_, ?_, ?_, ?_⟩, l _, l _, l _, l _⟩
  all_goals exact Nat.le_trans (l _) (by decide)
/-- A record more. -/
def moreM (m : Msg) (r : Rec) : Msg := ⟨m.id, m.fl, m.qs, m.an ++ [r], m.au, m.mo⟩
theorem moreM_room {m : Msg} {r : Rec} (h : RoomM m) (hs : Few3s m) (hr : Room r) : RoomM (moreM m r) ∧ Len4 (moreM m r) ∧ Few3 (moreM m r) := by
  obtain ⟨q1, q2, q3, q4, q5, q6, q7, q8⟩ := h
  obtain ⟨l1, l2, l3, l4⟩ := hs
  have hl : (m.an ++ [r]).length = m.an.length + 1 := by simp
  refine ⟨⟨q1, fun x hx => ?_, q3, q4, q5, ?_, q7, q8⟩, ⟨?_, ?_, ?_, ?_⟩, l1, ?_, l3, l4⟩
  · rcases List.mem_append.1 hx with hx | hx
    · exact q2 x hx
    · rw [List.mem_singleton.1 hx]; exact hr
  · show (m.an ++ [r]).length ≤ _
    omega
  · show m.qs.length ≤ _
    omega
  · show (m.an ++ [r]).length ≤ _
    omega
  · show m.au.length ≤ _
    omega
  · show m.mo.length ≤ _
    omega
  · show (m.an ++ [r]).length ≤ _
    omega
theorem few3_bulk {m : Msg} (h : Few3 m) : 12 + m.qs.length * 16304 + (m.an.length + m.au.length + m.mo.length) * 81845 ≤ 900000 := by
  obtain ⟨h1, h2, h3, h4⟩ := h
  have h5 := Nat.mul_le_mul_right 16304 h1
  have h6 := Nat.mul_le_mul_right 81845 (show m.an.length + m.au.length + m.mo.length ≤ 10 by omega)
  exact Nat.le_trans (Nat.add_le_add (Nat.add_le_add_left h5 12) h6) (by decide)
theorem range_two {w : World} {A : Nat} {x y : List Value} (h : w.rangeAt A 0 (x ++ y)) : w.rangeAt A 0 x ∧ w.rangeAt A x.length y := by
  refine ⟨fun j u hu => h j u ?_, fun j u hu => ?_⟩
  · rw [List.getElem?_append_left (List.getElem?_eq_some_iff.1 hu).1]; exact hu
  · have := h (x.length + j) u (by rw [List.getElem?_append_right (Nat.le_add_right _ _), Nat.add_sub_cancel_left]; exact hu)
    rwa [Nat.zero_add] at this
theorem range_later {w w' : World} {G o : Nat} {vs : List Value} (h : w.rangeAt G o vs) (hb : Below w.heap.size w w') (hG : G < w.heap.size) : w'.rangeAt G o vs := fun j u hu => (hb.cell (p := ⟨G, o + j, none⟩) hG).trans (h j u hu)
end Go.Proofs.Yticdpidngmeebaa
/- The reference's writer as it stands in a walk of layer 9: its rows, its footprint, and what else is held; contracts of two, put and Name over that. -/
namespace Go.Proofs.Yticdpidngmeebaa
open Go.RowKit
set_option linter.unusedVariables false
set_option maxRecDepth 20000

theorem w_size : (Try.prog.info? 70).map (·.size) = some 3 := by kernel_rfl
abbrev zW : List Value := [.slice none 0 0, .slice none 0 0, .slice none 0 0]
theorem loadVar_W9 {w : World} {G : Nat} {vs : List Value} (h : CellsAt w G vs) (hl : vs.length = 3) : (loadVar 70 ⟨G, 0, none⟩).run Try.prog w = .ok (.agg vs.toArray) w :=
  run_loadVar_mid w G 0 70 vs _ h.range Try.underlying70 rfl (by rw [w_size, hl])
theorem results_W9 {fn : Func} {a : Tmp} {tmps : Array Value} {W : World} {R : Nat} {vs : List Value} (h : fn.results = #[.cell a 70]) (ha : tmps.getD a undef = .pointer (some ⟨R, 0, none⟩)) (hA : CellsAt W R vs) (hl : vs.length = 3) : (results fn tmps).run Try.prog W = .ok (.agg vs.toArray) W := by
  rw [Array.getD_eq_getD_getElem?] at ha
  simp [results, h, ha, asAddr, loadVar_W9 hA hl]
theorem store_W9 {ops : Array Oper} {rest : List Oper} {op : Oper} {a : Act} {w : World} {Q : Exit → Act → World → Prop} {G : Nat} {us vs : List Value} (hA : Hid (CellsAt w G us)) (hu : us.length = 3) (x y : Operand) (hgd : op.guard = none) (ho : op.op = .store 70 x y)
    (hx : a.eval x = .pointer (some ⟨G, 0, none⟩)) (hy : a.eval y = .agg vs.toArray) (hl : vs.length = 3) (h1 : vs.all (fun u => u.oneCell') = true) (h : ∀ W, Hid (W = w.setCells G 0 vs) → Hid (CellsAt W G vs) → wpList Try.prog ops Q rest (a.put op.dst undef) W) : wpList Try.prog ops Q (op :: rest) a w :=
  wpList_store_mid hgd 70 x y ho G 0 vs.toArray hx hy (by rw [List.size_toArray, hl, ← hu]; exact hA.out.there) (by rw [w_size, List.size_toArray, hl]) (all_oneCell_toArray (List.all_eq_true.1 h1)) (h _ (Lib.hid rfl) (Lib.hid (hA.out.stored vs (hl.trans hu.symm))))
theorem load_W9 {ops : Array Oper} {rest : List Oper} {op : Oper} {a : Act} {w : World} {Q : Exit → Act → World → Prop} {G : Nat} {vs : List Value} (hA : Hid (CellsAt w G vs)) (hl : vs.length = 3) (x : Operand) (hw : Region.wanted op (yielded ops a.tmps) = true) (ho : op.op = .load 70 x)
    (hx : a.eval x = .pointer (some ⟨G, 0, none⟩)) (h : wpList Try.prog ops Q rest (a.put op.dst (.agg vs.toArray)) w) : wpList Try.prog ops Q (op :: rest) a w :=
  wpList_load_row hw 70 x ho G 0 hx vs _ hA.out.range Try.underlying70 rfl (by rw [w_size, hl]) h
theorem wp_store_W9 {op : Oper} {a : Act} {w : World} {K : Act → World → Prop} {Q : Exit → Act → World → Prop} {G : Nat} {us vs : List Value} (hA : Hid (CellsAt w G us)) (hu : us.length = 3) (x y : Operand) (ho : op.op = .store 70 x y)
    (hx : a.eval x = .pointer (some ⟨G, 0, none⟩)) (hy : a.eval y = .agg vs.toArray) (hl : vs.length = 3) (h1 : vs.all (fun u => u.oneCell') = true) (h : ∀ W, Hid (W = w.setCells G 0 vs) → Hid (CellsAt W G vs) → K (a.put op.dst undef) W) : op.wp Try.prog a w K Q :=
  wp_store_mid 70 x y ho G 0 vs.toArray hx hy (by rw [List.size_toArray, hl, ← hu]; exact hA.out.there) (by rw [w_size, List.size_toArray, hl]) (all_oneCell_toArray (List.all_eq_true.1 h1)) (h _ (Lib.hid rfl) (Lib.hid (hA.out.stored vs (hl.trans hu.symm))))
/-- Ranges that lie there. -/
def HeldS (L : List (Nat × Nat × List Value)) (w : World) : Prop := ∀ x ∈ L, w.rangeAt x.1 x.2.1 x.2.2
theorem yields_W9 {ops : Array Oper} {op : Oper} {a : Act} {L : List (Nat × Nat × List Value)} {G : Nat} {vs : List Value} (hm : Hid ((G, 0, vs) ∈ L ∧ vs.length = 3)) (hw : Region.wanted op (yielded ops a.tmps) = true) (x : Operand) (ho : op.op = .load 70 x)
    (hx : a.eval x = .pointer (some ⟨G, 0, none⟩)) : YieldsIf Try.prog ops (HeldS L) op (.agg vs.toArray) a :=
  yieldsIf_load_mid hw 70 x ho G 0 hx _ _ (fun w h => h _ hm.out.1) Try.underlying70 rfl (by rw [w_size, hm.out.2])
/-- .. and none of them lies in the footprint. -/
structure Kept (L : List (Nat × Nat × List Value)) (F : List Nat) (w : World) : Prop where
  at0 : HeldS L w
  lt : ∀ x ∈ L, x.1 < w.heap.size
  off : ∀ x ∈ L, x.1 ∉ F
  th : ∀ x ∈ L, w.there x.1 x.2.1 x.2.2.length
section
variable {L : List (Nat × Nat × List Value)} {F F' : List Nat} {w w' : World}
theorem Kept.nil (F : List Nat) (w : World) : Kept [] F w := ⟨fun x hx => (by cases hx), fun x hx => (by cases hx), fun x hx => (by cases hx), fun x hx => (by cases hx)⟩
theorem Kept.cons (h : Kept L F w) {G o : Nat} {vs : List Value} (hr : w.rangeAt G o vs) (ht : w.there G o vs.length) (hG : G < w.heap.size) (hF : G ∉ F) : Kept ((G, o, vs) :: L) F w :=
  ⟨fun x hx => by
    rcases List.mem_cons.1 hx with rfl | hx
    · exact hr
    · exact h.at0 x hx, fun x hx => by
    rcases List.mem_cons.1 hx with rfl | hx
    · exact hG
    · exact h.lt x hx, fun x hx => by
    rcases List.mem_cons.1 hx with rfl | hx
    · exact hF
    · exact h.off x hx, fun x hx => by
    rcases List.mem_cons.1 hx with rfl | hx
    · exact ht
    · exact h.th x hx⟩
theorem Kept.foot (h : Kept L F w) (hf : Foot F F' w w') : Kept L F' w' :=
  ⟨fun x hx => range_foot hf (h.at0 x hx) (h.lt x hx) (h.off x hx), fun x hx => Nat.lt_of_lt_of_le (h.lt x hx) hf.size, fun x hx => hf.out (h.lt x hx) (h.off x hx), fun x hx j hj => by
    have hk := hf.keep x.1 (h.lt x hx) (h.off x hx)
    have := h.th x hx j hj
    rwa [World.cell?_of_block (w := w) (a := ⟨x.1, x.2.1 + j, none⟩) hk, World.frozen?_of_block (w := w) (a := ⟨x.1, x.2.1 + j, none⟩) hk]⟩
theorem Kept.below (h : Kept L F w) (hb : Below w.heap.size w w') : Kept L F w' := h.foot (Foot.ofBelow F hb)
/-- A store into a block that is none of them. -/
theorem Kept.store (h : Kept L F w) {G o : Nat} (hG : ∀ x ∈ L, x.1 ≠ G) (us : List Value) : Kept L F (w.setCells G o us) :=
  ⟨fun x hx => World.rangeAt_setCells_apart (h.at0 x hx) G o us (.inl (hG x hx)), fun x hx => by rw [size_setCells]; exact h.lt x hx, h.off, fun x hx => World.there_setCells (h.th x hx) G o us⟩
theorem Kept.sub (h : Kept L F w) {L' : List (Nat × Nat × List Value)} (hs : ∀ x ∈ L', x ∈ L) : Kept L' F w := ⟨fun x hx => h.at0 x (hs x hx), fun x hx => h.lt x (hs x hx), fun x hx => h.off x (hs x hx), fun x hx => h.th x (hs x hx)⟩
end
/-- The rows of a writer. -/
structure W3 (w : World) (B : Nat) (vB vN vA : Value) (t : Wst) : Prop where
  rb : w.ownsRow B 5 1 vB t.1.length (bys t.1)
  rn : w.ownsRow B 9 1 vN t.2.1.length (t.2.1.map Value.string)
  ra : w.ownsRow B 3 1 vA t.2.2.length (intsL t.2.2)
theorem W3.blk {w : World} {B : Nat} {vB vN vA : Value} {t : Wst} (h : W3 w B vB vN vA t) : ∀ k ∈ blk3 vB vN vA, B ≤ k ∧ k < w.heap.size := fun k hk => by
  rcases mem_blk3.1 hk with e | e | e
  · exact h.rb.lt k e
  · exact h.rn.lt k e
  · exact h.ra.lt k e
theorem W3.keep {w w' : World} {B : Nat} {vB vN vA : Value} {t : Wst} (h : W3 w B vB vN vA t) (hk : ∀ k ∈ blk3 vB vN vA, w'.heap[k]? = w.heap[k]?) : W3 w' B vB vN vA t :=
  ⟨own_kept h.rb (fun g hg => hk g (mem_blk3.2 (.inl hg))), own_kept h.rn (fun g hg => hk g (mem_blk3.2 (.inr (.inl hg)))), own_kept h.ra (fun g hg => hk g (mem_blk3.2 (.inr (.inr hg))))⟩
/-- How a walk stands: begun at w0, with the rows' blocks F0. -/
structure St9 (w0 : World) (B : Nat) (F0 : List Nat) (L : List (Nat × Nat × List Value)) (vB vN vA : Value) (t : Wst) (w : World) : Prop where
  rows : W3 w B vB vN vA t
  foot : Foot F0 (blk3 vB vN vA) w0 w
  kept : Kept L (blk3 vB vN vA) w
  size : B ≤ w.heap.size
section
variable {w0 w w' : World} {B G : Nat} {F0 : List Nat} {L : List (Nat × Nat × List Value)} {vB vN vA : Value} {t : Wst} {us : List Value}
theorem St9.begin (h : W3 w B vB vN vA t) (hB : B ≤ w.heap.size) : St9 w B (blk3 vB vN vA) [] vB vN vA t w := ⟨h, Foot.ofBelow _ (Below.refl _ _), Kept.nil _ _, hB⟩
theorem St9.below (h : St9 w0 B F0 L vB vN vA t w) (hb : Below w.heap.size w w') : St9 w0 B F0 L vB vN vA t w' :=
  ⟨h.rows.keep (fun k hk => hb.block k (h.rows.blk k hk).2), h.foot.trans (Foot.ofBelow _ hb), h.kept.below hb, Nat.le_trans h.size hb.size⟩
theorem St9.drew (h : St9 w0 B F0 L vB vN vA t w) : St9 w0 B F0 L vB vN vA t w.drew := h.below (Below.refl _ _).drew
/-- A new block is held, too. -/
theorem St9.hold (h : St9 w0 B F0 L vB vN vA t w) {o : Nat} {vs : List Value} (hr : w.rangeAt G o vs) (ht : w.there G o vs.length) (hG : G < w.heap.size) (hF : G ∉ blk3 vB vN vA) : St9 w0 B F0 ((G, o, vs) :: L) vB vN vA t w := ⟨h.rows, h.foot, h.kept.cons hr ht hG hF, h.size⟩
theorem St9.alloc (h : St9 w0 B F0 L vB vN vA t w) (vs : List Value) (ty : TypeId) : St9 w0 B F0 ((w.heap.size, 0, vs) :: L) vB vN vA t (w.alloc (.cells vs.toArray ty)) :=
  (h.below ((Below.refl _ _).alloc (Nat.le_refl _) _)).hold (built_new _) (CellsAt.new w ty vs).there (by simp) (fun hk => by have := (h.rows.blk _ hk).2; omega)
theorem St9.sub (h : St9 w0 B F0 L vB vN vA t w) {L' : List (Nat × Nat × List Value)} (hs : ∀ x ∈ L', x ∈ L) : St9 w0 B F0 L' vB vN vA t w := ⟨h.rows, h.foot, h.kept.sub hs, h.size⟩
/-- A store into a block that is none of the rows', nor older than the walk. -/
theorem St9.store (h : St9 w0 B F0 L vB vN vA t w) {o : Nat} (hn : ∀ x ∈ L, x.1 ≠ G) (hF : G ∉ blk3 vB vN vA) (h0 : w0.heap.size ≤ G) (us : List Value) : St9 w0 B F0 L vB vN vA t (w.setCells G o us) := by
  have hb : Below w0.heap.size w (w.setCells G o us) := below_cells h0 _ _ _ (Below.refl _ _)
  refine ⟨h.rows.keep (fun k hk => setCells_block _ _ _ _ _ (fun e => hF (e ▸ hk))), ?_, h.kept.store hn us, by rw [size_setCells]; exact h.size⟩
  refine ⟨hb.os.trans h.foot.os, hb.tape.trans h.foot.tape, hb.output.trans h.foot.output, Nat.le_trans h.foot.size hb.size, fun k hk hn => (setCells_block _ _ _ _ _ (by omega)).trans (h.foot.keep k hk hn), h.foot.new⟩
theorem St9.cells (h : St9 w0 B F0 L vB vN vA t w) {vs : List Value} (hm : (G, 0, vs) ∈ L) : CellsAt w G vs := ⟨h.kept.lt _ hm, h.kept.at0 _ hm, h.kept.th _ hm⟩
/-- A held block, stored whole. -/
theorem St9.set (h : St9 w0 B F0 ((G, 0, us) :: L) vB vN vA t w) (hn : ∀ x ∈ L, x.1 ≠ G) (h0 : w0.heap.size ≤ G) (vs : List Value) (hl : vs.length = us.length) : St9 w0 B F0 ((G, 0, vs) :: L) vB vN vA t (w.setCells G 0 vs) := by
  have hF := h.kept.off _ (List.mem_cons_self ..)
  have hc := (h.cells (List.mem_cons_self ..)).stored vs hl
  exact ((h.sub (fun x hx => List.mem_cons_of_mem _ hx)).store hn hF h0 vs).hold hc.range hc.there hc.lt hF
theorem W3.one (h : W3 w B vB vN vA t) : [vB, vN, vA].all (fun u => u.oneCell') = true := by
  simp only [List.all_cons, List.all_nil, own_oneCell h.rb, own_oneCell h.rn, own_oneCell h.ra, Bool.and_self]
theorem St9.ret (h : St9 w0 B F0 L vB vN vA t w) : PutRet w0 B F0 t.1 t.2.1 t.2.2 (.returned (.agg #[vB, vN, vA])) w := ⟨vB, vN, vA, rfl, h.rows.rb, h.rows.rn, h.rows.ra, h.foot⟩
theorem twoL_len (n : Nat) : (twoL n).length = 2 := rfl
theorem St9.twoc (h : St9 w0 B F0 L vB vN vA t w) {n : Nat} (hn : n ≤ 65535) : Calls Try.prog 34 #[.int .i64 (n : Int)] w fun e w' => e = .returned (.slice (some ⟨w.heap.size, 0, none⟩) 2 2) ∧ BytesIn2 w' (some ⟨w.heap.size, 0, none⟩) 2 (twoL n) ∧ St9 w0 B F0 L vB vN vA t w' := by
  refine (two9_any n w hn).mono ?_
  rintro e w' ⟨h1, h2, h3⟩
  obtain ⟨a, c, h4, h5⟩ := in_own h2
  injection h4 with e1 e2 e3
  subst e1
  subst e3
  exact ⟨h1, h5, h.below h3⟩
theorem St9.more (h : St9 w0 B F0 L vB vN vA t w) {vB' vN' vA' : Value} {t' : Wst} (h1 : W3 w' B vB' vN' vA' t') (h2 : Foot (blk3 vB vN vA) (blk3 vB' vN' vA') w w') : St9 w0 B F0 L vB' vN' vA' t' w' := ⟨h1, h.foot.trans h2, h.kept.foot h2, Nat.le_trans h.size h2.size⟩
theorem St9.putc (h : St9 w0 B F0 L vB vN vA t w) {ad : Option Addr} {c n : Nat} {m : List UInt8} (hm : BytesIn2 w ad c m) (hl : t.1.length + m.length ≤ 1000000000) (hn : m.length = n) :
    Calls Try.prog 33 #[.agg #[vB, vN, vA], .slice ad n c] w fun e w' => ∃ vB' vN' vA', e = .returned (.agg #[vB', vN', vA']) ∧ St9 w0 B F0 L vB' vN' vA' (t.1 ++ m, t.2) w' := by
  subst hn
  refine (put9_any vB vN vA t.1 t.2.1 t.2.2 ad c m w B h.rows.rb h.rows.rn h.rows.ra hm h.size hl).mono ?_
  rintro e w' ⟨b, n, a, h1, h2, h3, h4, h5⟩
  exact ⟨b, n, a, h1, h.more ⟨h2, h3, h4⟩ h5⟩
theorem St9.namec (h : St9 w0 B F0 L vB vN vA t w) {s : ByteArray} (hm : mayN s = true) {K : Nat} (hK : Wok K t) (hk : K ≤ 1000000) :
    Calls Try.prog 35 #[.agg #[vB, vN, vA], .string s] w fun e w' => ∃ vB' vN' vA', e = .returned (.tuple #[.agg #[vB', vN', vA'], .bool true]) ∧ St9 w0 B F0 L vB' vN' vA' (t.1 ++ (nmT s t.1.length t.2.1 t.2.2).1, (nmT s t.1.length t.2.1 t.2.2).2) w' := by
  have hs := may_small hm
  have k1 := hK.len
  have k2 := hK.lns
  have H := refName8_any vB vN vA t.1 t.2.1 t.2.2 s w B h.rows.rb h.rows.rn h.rows.ra h.size hK.two (by omega) (by omega) (fun p hp => by have := hK.sm p hp; omega) hK.low (by omega)
  rw [hm, if_pos rfl, (nmT_is hm t.1.length t.2.1 t.2.2).eq t.1 rfl] at H
  refine H.mono ?_
  rintro e w' ⟨b, n, a, h1, h2, h3, h4, h5⟩
  exact ⟨b, n, a, h1, h.more ⟨h2, h3, h4⟩ h5⟩
end
end Go.Proofs.Yticdpidngmeebaa
/- Bytes made of a text, held. -/
namespace Go.Proofs.Yticdpidngmeebaa
open Go.RowKit
set_option linter.unusedVariables false
set_option maxRecDepth 20000

theorem bytes_of_held {w : World} {G c : Nat} {l : List UInt8} (hr : w.rangeAt G 0 (bys l)) (h1 : l.length ≤ c) (h2 : c ≤ maxLen) : BytesIn2 w (some ⟨G, 0, none⟩) c l :=
  ⟨⟨h1, h2, .inr ⟨_, rfl, fun i hi => by
    have := hr i (.int .u8 ((l[i].toNat : Nat) : Int)) (by unfold bys; rw [List.getElem?_map, List.getElem?_eq_getElem hi]; rfl)
    have hadd : (⟨G, 0, none⟩ : Addr).add i = ⟨G, 0 + i, none⟩ := by unfold Addr.add; split <;> simp_all
    rw [hadd]
    exact this⟩⟩, fun h => by cases h⟩
theorem conv_range (w : World) (s : ByteArray) : (Lib.bytesWorld w 5 s).rangeAt w.heap.size 0 (bys s.data.toList) := fun j u hu => by
  rw [Nat.zero_add]
  exact conv_cells w s j u hu
theorem conv_there (w : World) (s : ByteArray) : (Lib.bytesWorld w 5 s).there w.heap.size 0 (bys s.data.toList).length := fun j hj => by
  have hc := conv_range w s j _ (List.getElem?_eq_getElem hj)
  have h0 := hc
  refine ⟨by rw [hc]; rfl, ?_⟩
  unfold World.cell? at hc
  have hb := Lib.bytesWorld_at_new w 5 s
  simp only [hb] at hc
  have hlt : 0 + j < (Lib.bytesCells w 5 s).size := by
    apply Classical.byContradiction
    intro h
    rw [Nat.zero_add] at h hc

    exact h (Array.getElem?_eq_some_iff.1 hc).1
  unfold World.frozen?
  simp only [hb]
  simp
  omega
theorem St9.conv {w0 w : World} {B : Nat} {F0 : List Nat} {L : List (Nat × Nat × List Value)} {vB vN vA : Value} {t : Wst} (h : St9 w0 B F0 L vB vN vA t w) (s : ByteArray) : St9 w0 B F0 ((w.heap.size, 0, bys s.data.toList) :: L) vB vN vA t (Lib.bytesWorld w 5 s) :=
  (h.below (conv_below w s)).hold (conv_range w s) (conv_there w s) (by rw [Lib.bytesWorld_size]; omega) (fun hk => by have := (h.rows.blk _ hk).2; omega)
/-- A text turned into bytes: where they lie, and what is held then. -/
theorem St9.conv_ex {w0 w : World} {B : Nat} {F0 : List Nat} {g : Nat × Nat × List Value} {L : List (Nat × Nat × List Value)} {vB vN vA : Value} {t : Wst} (h : St9 w0 B F0 (g :: L) vB vN vA t w) (s : ByteArray) (hs : s.size ≤ maxLen) :
    ∃ (P : Nat) (V : World) (c : Nat), (convert 9 27 (.string s)).run Try.prog w = .ok (.slice (some ⟨P, 0, none⟩) s.size c) V ∧ s.size ≤ c ∧ c ≤ maxLen ∧ P ≠ g.1 ∧ St9 w0 B F0 (g :: (P, 0, bys s.data.toList) :: L) vB vN vA t V ∧ Below w.heap.size w V :=
  ⟨_, _, _, Lib.run_convert_string_bytes (P := Try.prog) w 9 27 5 s Try.underlying9 Try.underlying27 Try.underlying5, grownCap_ge _ _ _ _, grownCap_le_maxLen _ _ _ _ hs, Nat.ne_of_gt (h.kept.lt _ (List.mem_cons_self ..)), (h.conv s).sub (fun x hx => by
    simp only [List.mem_cons] at hx ⊢
    rcases hx with h | h | h <;> simp [h]), conv_below w s⟩
/-- A new writer's box: where it lies, and what is held then. -/
theorem St9.alloc_ex {w0 w : World} {B : Nat} {F0 : List Nat} {L : List (Nat × Nat × List Value)} {vB vN vA : Value} {t : Wst} (h : St9 w0 B F0 L vB vN vA t w) :
    ∃ (P : Nat) (V : World), w.heap.size = P ∧ w.alloc (.cells #[.slice none 0 0, .slice none 0 0, .slice none 0 0] 70) = V ∧ (∀ x ∈ L, x.1 ≠ P) ∧ w0.heap.size ≤ P ∧ St9 w0 B F0 ((P, 0, zW) :: L) vB vN vA t V ∧ Below w.heap.size w V :=
  ⟨_, _, rfl, rfl, fun x hx => Nat.ne_of_lt (h.kept.lt x hx), h.foot.size, h.alloc zW _, (Below.refl _ _).alloc (Nat.le_refl _) _⟩
theorem own_some {w : World} {B n : Nat} {t : TypeId} {z : Nat} {v : Value} {xs : List Value} (h : w.ownsRow B t z v n xs) (hn : 0 < n) : ∃ g c, v = .slice (some ⟨g, 0, none⟩) n c := by
  rcases h.2 with ⟨_, e⟩ | ⟨g, cap, cur, e, _⟩
  · omega
  · exact ⟨g, cap, e⟩
/-- A byte of the rows turned. -/
theorem St9.setB {w0 w : World} {B g n c i : Nat} {F0 : List Nat} {L : List (Nat × Nat × List Value)} {vN vA : Value} {t : Wst} (h : St9 w0 B F0 L (.slice (some ⟨g, 0, none⟩) n c) vN vA t w) (x : UInt8) (hi : i < t.1.length) :
    St9 w0 B F0 L (.slice (some ⟨g, 0, none⟩) n c) vN vA (t.1.set i x, t.2) (w.setCell ⟨g, i, none⟩ (.int .u8 (x.toNat : Int))) ∧ w.frozen? ⟨g, i, none⟩ = false ∧ ∃ v, w.cell? ⟨g, i, none⟩ = some v := by
  obtain ⟨h1, h2, h3⟩ := own_setB h.rows.rb i x hi
  have hg : ∀ k, k ≠ g → (w.setCell ⟨g, i, none⟩ (.int .u8 (x.toNat : Int))).heap[k]? = w.heap[k]? := fun k hk => heap_setCell_other _ _ _ _ hk
  have hgm : g ∈ blk3 (.slice (some ⟨g, 0, none⟩) n c) vN vA := mem_blk3.2 (.inl rfl)
  have hsz : (w.setCell ⟨g, i, none⟩ (.int .u8 (x.toNat : Int))).heap.size = w.heap.size := by simp
  refine ⟨⟨⟨h1, own_kept h.rows.rn (fun k hk => hg k (fun e => own_types h.rows.rb h.rows.rn (by decide) g rfl (e ▸ hk))), own_kept h.rows.ra (fun k hk => hg k (fun e => own_types h.rows.rb h.rows.ra (by decide) g rfl (e ▸ hk)))⟩, ?_, ?_, by rw [hsz]; exact h.size⟩, h2, h3⟩
  · have hb : Below 0 w (w.setCell ⟨g, i, none⟩ (.int .u8 (x.toNat : Int))) := (Below.refl 0 w).setCell (p := ⟨g, i, none⟩) (Nat.zero_le _) _
    refine ⟨hb.os.trans h.foot.os, hb.tape.trans h.foot.tape, hb.output.trans h.foot.output, by rw [hsz]; exact h.foot.size, fun k hk hn => (hg k (fun e => ?_)).trans (h.foot.keep k hk hn), h.foot.new⟩
    subst e
    rcases h.foot.new k hgm with e | e
    · exact hn e
    · omega
  · have hne : ∀ x ∈ L, x.1 ≠ g := fun x hx e => h.kept.off x hx (e ▸ hgm)
    exact ⟨fun y hy j u hu => (World.cell?_of_block (a := ⟨y.1, y.2.1 + j, none⟩) (hg _ (hne y hy))).trans (h.kept.at0 y hy j u hu), fun y hy => by rw [hsz]; exact h.kept.lt y hy, h.kept.off, fun y hy j hj => by
      have := h.kept.th y hy j hj
      rwa [World.cell?_of_block (w := w) (a := ⟨y.1, y.2.1 + j, none⟩) (hg _ (hne y hy)), World.frozen?_of_block (w := w) (a := ⟨y.1, y.2.1 + j, none⟩) (hg _ (hne y hy))]⟩
theorem two_cells {w : World} {P c : Nat} {n : Nat} (h : BytesIn2 w (some ⟨P, 0, none⟩) c (twoL n)) : w.cell? ⟨P, 0, none⟩ = some (.int .u8 ((UInt8.ofNat (n / 256)).toNat : Int)) ∧ w.cell? ⟨P, 1, none⟩ = some (.int .u8 ((UInt8.ofNat (n % 256)).toNat : Int)) := by
  obtain ⟨⟨_, _, h3⟩, _⟩ := h
  rcases h3 with h3 | ⟨x, e, h3⟩
  · cases h3
  · cases e
    have e0 := h3 0 (by rw [twoL_len]; decide)
    have e1 := h3 1 (by rw [twoL_len]; decide)
    exact ⟨e0, e1⟩
end Go.Proofs.Yticdpidngmeebaa
/- Contract of the reference's record of layer 9 (walks/RefWireRecB.py prints this text). -/
namespace Go.Proofs.Yticdpidngmeebaa
open Go.RowKit Go.Maps
set_option linter.unusedVariables false
set_option maxRecDepth 20000

/-- Which ranges a region holds. -/
theorem heldS_mem {L : List (Nat × Nat × List Value)} {w : World} {G o : Nat} {vs : List Value} (h : HeldS L w) (hm : (G, o, vs) ∈ L) : w.rangeAt G o vs := h _ hm
theorem rec_cells {w : World} {G : Nat} {r : Rec} (h : w.rangeAt G 0 (recL r)) (h16 : r.b.length = 16) : w.cell? ⟨G, 0, none⟩ = some (.string r.name) ∧ w.cell? ⟨G, 1, none⟩ = some (.int .i64 r.ty) ∧ w.cell? ⟨G, 2, none⟩ = some (.int .i64 r.cl) ∧ w.cell? ⟨G, 3, none⟩ = some (.int .i64 r.ttl) ∧ w.rangeAt G 4 (addrL r.f r.b) ∧ w.cell? ⟨G, 21, none⟩ = some (.string r.tg) ∧ w.cell? ⟨G, 22, none⟩ = some (.string r.da) := by
  have := rec_parts h h16
  have h1 := this.ty
  have h2 := this.cl
  have h3 := this.ttl
  have h4 := this.addr
  have h5 := this.tg
  have h6 := this.da
  rw [Nat.zero_add] at h1 h2 h3 h4 h5 h6
  exact ⟨this.name, h1, h2, h3, h4, h5, h6⟩
theorem load_W9r {ops : Array Oper} {rest : List Oper} {op : Oper} {a : Act} {w : World} {Q : Exit → Act → World → Prop} {G : Nat} {vs : List Value} (hA : Hid (w.rangeAt G 0 vs)) (hl : vs.length = 3) (x : Operand) (hw : Region.wanted op (yielded ops a.tmps) = true) (ho : op.op = .load 70 x)
    (hx : a.eval x = .pointer (some ⟨G, 0, none⟩)) (h : wpList Try.prog ops Q rest (a.put op.dst (.agg vs.toArray)) w) : wpList Try.prog ops Q (op :: rest) a w :=
  wpList_load_row hw 70 x ho G 0 hx vs _ hA.out Try.underlying70 rfl (by rw [w_size, hl]) h
theorem daR_1 {t : Wst} {r : Rec} (h : r.ty = 1) : daR t r = (byB (r.b.take 4), (nmT r.name t.1.length t.2.1 t.2.2).2) := by unfold daR daT; rw [if_pos h]
theorem daR_28 {t : Wst} {r : Rec} (h : r.ty = 28) : daR t r = (byB r.b, (nmT r.name t.1.length t.2.1 t.2.2).2) := by unfold daR daT; rw [if_neg (by omega), if_pos h]
theorem daR_5 {t : Wst} {r : Rec} (h : r.ty = 5) : daR t r = nmT r.tg (atR t r) (nmT r.name t.1.length t.2.1 t.2.2).2.1 (nmT r.name t.1.length t.2.1 t.2.2).2.2 := by unfold daR daT; rw [if_neg (by omega), if_neg (by omega), if_pos h]
theorem daR_o {t : Wst} {r : Rec} (h1 : r.ty ≠ 1) (h2 : r.ty ≠ 28) (h3 : r.ty ≠ 5) : daR t r = (r.da.data.toList, (nmT r.name t.1.length t.2.1 t.2.2).2) := by unfold daR daT; rw [if_neg h1, if_neg h2, if_neg h3]
set_option maxRecDepth 100000 in
set_option maxHeartbeats 8000000 in
theorem refRec9W_any (vB vN vA : Value) (t : Wst) (KN : Nat) (r : Rec) (w : World) (B : Nat) (h : W3 w B vB vN vA t) (hB : B ≤ w.heap.size) (hK : Wok KN t) (hk : KN ≤ 900000) (hm : mayR r = true) (hfit : Fit r) :
    Calls Try.prog 36 #[.agg #[vB, vN, vA], recV r] w (PutRet w B (blk3 vB vN vA) (rW t r).1 (rW t r).2.1 (rW t r).2.2) := by
  have MR := mayRec hm
  have H16 := Lib.hid hfit.1
  have HLT := Lib.hid hfit.2.1
  obtain ⟨nm, ty, cl, ttl, f, b, tg, da⟩ := r
  obtain ⟨ty, rfl⟩ : ∃ n : Nat, ty = (n : Int) := ⟨ty.toNat, by have := MR.ty; simp only at this; omega⟩
  obtain ⟨cl, rfl⟩ : ∃ n : Nat, cl = (n : Int) := ⟨cl.toNat, by have := MR.cl; simp only at this; omega⟩
  obtain ⟨ttl, rfl⟩ : ∃ n : Nat, ttl = (n : Int) := ⟨ttl.toNat, by have := MR.ttl; simp only at this; omega⟩
  have hty : ty ≤ 65535 := by have := MR.ty.2; simp only at this; omega
  have hcl : cl ≤ 65535 := by have := MR.cl.2; simp only at this; omega
  have htt : ttl ≤ 2147483647 := by have := MR.ttl.2; simp only at this; omega
  have hda : da.size ≤ 65535 := MR.da
  have HNUM : Hid (ty ≤ 65535 ∧ cl ≤ 65535 ∧ ttl ≤ 2147483647 ∧ da.size ≤ 65535) := Lib.hid ⟨hty, hcl, htt, hda⟩
  have HNM : Hid (mayN nm = true) := Lib.hid MR.name
  have HTG : Hid (ty = 5 → mayN tg = true) := Lib.hid (fun e => MR.tg (by simp only; omega))
  have HK := Lib.hid hK
  have HKK := Lib.hid hk
  obtain ⟨r, hr⟩ : ∃ r : Rec, (⟨nm, (ty : Int), (cl : Int), (ttl : Int), f, b, tg, da⟩ : Rec) = r := ⟨_, rfl⟩
  have HR := Lib.hid hr.symm
  have HRC : ∀ (V : World) (G : Nat), V.rangeAt G 0 (recL r) → V.cell? ⟨G, 0, none⟩ = some (.string nm) ∧ V.cell? ⟨G, 1, none⟩ = some (.int .i64 (ty : Int)) ∧ V.cell? ⟨G, 2, none⟩ = some (.int .i64 (cl : Int)) ∧ V.cell? ⟨G, 3, none⟩ = some (.int .i64 (ttl : Int)) ∧ V.rangeAt G 4 (addrL f b) ∧ V.cell? ⟨G, 21, none⟩ = some (.string tg) ∧ V.cell? ⟨G, 22, none⟩ = some (.string da) := fun V G hv => by
    rw [← hr] at hv
    exact rec_cells hv H16.out
  replace HRC := Lib.hid HRC
  rw [hr]
  obtain ⟨vr, hvr⟩ : ∃ vr, recL r = vr := ⟨_, rfl⟩
  rw [hvr] at HRC
  have hrv : recV r = .agg vr.toArray := by rw [← hvr]; rfl
  rw [hrv]
  have HS0 : Hid (St9 w B (blk3 vB vN vA) [(w.heap.size + 1 + 1, 0, zW), (w.heap.size + 1, 0, vr), (w.heap.size, 0, [vB, vN, vA])] vB vN vA t (((w.alloc (.cells [vB, vN, vA].toArray 70)).alloc (.cells vr.toArray 42)).alloc (.cells zW.toArray 70))) := Lib.hid (by
    have := (((St9.begin h hB).alloc [vB, vN, vA] 70).alloc vr 42).alloc zW 70
    simpa using this)
  obtain ⟨G0, hG0⟩ : ∃ G, w.heap.size = G := ⟨_, rfl⟩
  have HG0 := Lib.hid hG0
  obtain ⟨W, hW⟩ : ∃ W, ((w.alloc (.cells #[vB, vN, vA] 70)).alloc (.cells vr.toArray 42)).alloc (.cells #[.slice none 0 0, .slice none 0 0, .slice none 0 0] 70) = W := ⟨_, rfl⟩
  have HS : Hid (St9 w B (blk3 vB vN vA) [(w.heap.size + 1 + 1, 0, zW), (w.heap.size + 1, 0, vr), (w.heap.size, 0, [vB, vN, vA])] vB vN vA t W) := Lib.hid (by rw [← hW]; exact HS0.out)
  have hsz : W.heap.size = w.heap.size + 1 + 1 + 1 := by rw [← hW]; simp
  have HSZ := Lib.hid hsz
  rw [hG0] at HS HSZ
  clear h hB hK hk hm hfit MR hr hvr hrv hty hcl htt hda HS0 hsz
  go_enter Try.func36, Try.ntmps36
  go_upto_region 1 with fail
  try rw [hW]
  clear hW
  try rw [hG0]
  clear hG0
  have HL0 := Lib.hid (HS.out.cells (G := G0) (vs := [vB, vN, vA]) (by simp)).range
  have cn := (HRC.out W (G0 + 1) (HS.out.cells (G := G0 + 1) (vs := vr) (by simp)).range).1
  go_wp2_with (refine load_W9r HL0 rfl _ rfl rfl rfl ?_)
  refine (HS.out.namec HNM.out HK.out (by have := HKK.out; omega)).mono ?_
  rintro e w1 ⟨b1, n1, a1, rfl, hs1⟩
  have HNT := Lib.hid (nmT_is HNM.out t.1.length t.2.1 t.2.2)
  have HK1 := Lib.hid (HK.out.nm HNM.out)
  obtain ⟨T1, hT1⟩ : ∃ T : Wst, (t.1 ++ (nmT nm t.1.length t.2.1 t.2.2).1, (nmT nm t.1.length t.2.1 t.2.2).2) = T := ⟨_, rfl⟩
  have HT1 := Lib.hid hT1.symm
  rw [hT1] at hs1 HK1
  have HSZ1 : Hid (W.heap.size ≤ w1.heap.size) := Lib.hid (by have := (hs1.kept.lt _ (List.mem_cons_self ..)); have := HSZ.out; simp only at *; omega)
  have HS1 := Lib.hid (hs1.alloc zW 70)
  have HOW := hs1.rows.one
  clear hs1 hT1 HL0 cn HS HNT
  have HZ : Hid (CellsAt (w1.alloc (.cells zW.toArray 70)) w1.heap.size zW) := Lib.hid (CellsAt.new _ _ _)
  go_upto_region 2 with (have HZ2 := HZ; refine store_W9 HZ2 rfl _ _ rfl rfl rfl rfl rfl HOW (fun W2 HW2 HX2 => ?_); clear HZ)
  have HS2 : Hid (St9 w B (blk3 vB vN vA) [(w1.heap.size, 0, [b1, n1, a1]), (G0 + 1 + 1, 0, zW), (G0 + 1, 0, vr), (G0, 0, [vB, vN, vA])] b1 n1 a1 T1 W2) := Lib.hid (by
    rw [HW2.out]
    refine HS1.out.set (fun x hx => ?_) (by have := HSZ1.out; have := HSZ.out; have := HG0.out; omega) _ rfl
    have h1 := HSZ1.out
    have h2 := HSZ.out
    simp at hx
    rcases hx with rfl | rfl | rfl <;> (simp only; omega))
  have HG5 : Hid (G0 + 1 + 1 < w1.heap.size) := Lib.hid (by have := HSZ1.out; have := HSZ.out; omega)
  generalize w1.heap.size = G5 at *
  clear HS1 HW2 HX2 HZ2 HSZ1 HOW
  obtain ⟨L2, hL2⟩ : ∃ L2 : List (Nat × Nat × List Value), [(G5, 0, [b1, n1, a1]), (G0 + 1, 0, vr)] = L2 := ⟨_, rfl⟩
  have HS : Hid (St9 w B (blk3 vB vN vA) ((G0, 0, [vB, vN, vA]) :: (G0 + 1 + 1, 0, zW) :: L2) b1 n1 a1 T1 W2.drew) := Lib.hid (HS2.out.sub (fun x hx => by rcases List.mem_cons.1 hx with rfl | hx; (exact by simp); rcases List.mem_cons.1 hx with rfl | hx; (exact by simp); (rw [← hL2] at hx; simp at hx; rcases hx with rfl | rfl <;> simp))).drew
  have HI5 : Hid ((G5, 0, [b1, n1, a1]) ∈ L2 ∧ [b1, n1, a1].length = 3) := Lib.hid ⟨by rw [← hL2]; simp, rfl⟩
  have HI1 : Hid ((G0 + 1, 0, vr) ∈ L2) := Lib.hid (by rw [← hL2]; simp)
  have HN0 : Hid (∀ x ∈ L2, x.1 ≠ G0 ∧ x.1 ≠ G0 + 1 + 1) := Lib.hid (fun x hx => by have := HG5.out; rw [← hL2] at hx; simp at hx; rcases hx with rfl | rfl <;> (simp only; omega))
  have HSS : Hid (∀ us V, HeldS ((G0, 0, us) :: (G0 + 1 + 1, 0, zW) :: L2) V → HeldS L2 V) := Lib.hid (fun us V hv x hx => hv x (List.mem_cons_of_mem _ (List.mem_cons_of_mem _ hx)))
  have C1 : Hid (∀ V, HeldS L2 V → V.cell? ⟨G0 + 1, 1, none⟩ = some (.int .i64 (ty : Int))) := Lib.hid (fun V hv => (HRC.out V _ (hv _ HI1.out)).2.1)
  have C2 : Hid (∀ V, HeldS L2 V → V.cell? ⟨G0 + 1, 2, none⟩ = some (.int .i64 (cl : Int))) := Lib.hid (fun V hv => (HRC.out V _ (hv _ HI1.out)).2.2.1)
  have C3 : Hid (∀ V, HeldS L2 V → V.cell? ⟨G0 + 1, 3, none⟩ = some (.int .i64 (ttl : Int))) := Lib.hid (fun V hv => (HRC.out V _ (hv _ HI1.out)).2.2.2.1)
  have HKL : Hid (T1.1.length ≤ 917000) := Lib.hid (by have := HK1.out.len; have := HKK.out; omega)
  clear hL2 HS2
  refine wp_region_noPanic ?_
  refine wp_region_held_drew (S := HeldS L2) (by kernel_rfl) (HSS.out _ _ HS.out.kept.at0) (fun hHeld => ?_)
  generalize W2.drew = U at *
  refine wpAnyH_take (i := 0) rfl (by kernel_rfl) (by kernel_rfl) (by kernel_rfl) (fun _ _ _ h => h) (yields_W9 HI5 (by rfl) _ rfl rfl) (by assumption) ?_
  try simp only [Act.put, List.getElem_toArray, List.getElem_cons_zero, List.setIfInBounds_toArray, List.set_cons_zero, List.set_cons_succ]
  refine wpAnyH_take (i := 1) (v := ?_) rfl (by kernel_rfl) (by kernel_rfl) (by kernel_rfl) (fun _ _ _ h => h) (Or.inl ⟨by rfl, ?_⟩) (by assumption) ?_
  rotate_left
  · (intro w hSw; go_simp; try (with_reducible rfl))
  try simp only [Act.put, List.getElem_toArray, List.getElem_cons_zero, List.getElem_cons_succ, List.setIfInBounds_toArray, List.set_cons_zero, List.set_cons_succ]
  refine wpAnyH_take (i := 2) (v := ?_) rfl (by kernel_rfl) (by kernel_rfl) (by kernel_rfl) (fun _ _ _ h => h) (Or.inl ⟨by rfl, ?_⟩) (by assumption) ?_
  rotate_left
  · (intro w hSw; have hc0 := C1.out w hSw; go_simp; try (with_reducible rfl))
  try simp only [Act.put, List.getElem_toArray, List.getElem_cons_zero, List.getElem_cons_succ, List.setIfInBounds_toArray, List.set_cons_zero, List.set_cons_succ]
  refine wpAnyH_take (i := 5) (v := ?_) rfl (by kernel_rfl) (by kernel_rfl) (by kernel_rfl) (fun _ _ _ h => h) (Or.inl ⟨by rfl, ?_⟩) (by assumption) ?_
  rotate_left
  · (intro w hSw; go_simp; try (with_reducible rfl))
  try simp only [Act.put, List.getElem_toArray, List.getElem_cons_zero, List.getElem_cons_succ, List.setIfInBounds_toArray, List.set_cons_zero, List.set_cons_succ]
  refine wpAnyH_take (i := 6) (v := ?_) rfl (by kernel_rfl) (by kernel_rfl) (by kernel_rfl) (fun _ _ _ h => h) (Or.inl ⟨by rfl, ?_⟩) (by assumption) ?_
  rotate_left
  · (intro w hSw; have hc0 := C2.out w hSw; go_simp; try (with_reducible rfl))
  try simp only [Act.put, List.getElem_toArray, List.getElem_cons_zero, List.getElem_cons_succ, List.setIfInBounds_toArray, List.set_cons_zero, List.set_cons_succ]
  refine wpAnyH_take (i := 9) (v := ?_) rfl (by kernel_rfl) (by kernel_rfl) (by kernel_rfl) (fun _ _ _ h => h) (Or.inl ⟨by rfl, ?_⟩) (by assumption) ?_
  rotate_left
  · (intro w hSw; go_simp; try (with_reducible rfl))
  try simp only [Act.put, List.getElem_toArray, List.getElem_cons_zero, List.getElem_cons_succ, List.setIfInBounds_toArray, List.set_cons_zero, List.set_cons_succ]
  refine wpAnyH_take (i := 10) (v := ?_) rfl (by kernel_rfl) (by kernel_rfl) (by kernel_rfl) (fun _ _ _ h => h) (Or.inl ⟨by rfl, ?_⟩) (by assumption) ?_
  rotate_left
  · (intro w hSw; have hc0 := C3.out w hSw; go_simp; try (with_reducible rfl))
  try simp only [Act.put, List.getElem_toArray, List.getElem_cons_zero, List.getElem_cons_succ, List.setIfInBounds_toArray, List.set_cons_zero, List.set_cons_succ]
  refine wpAnyH_take (i := 11) (v := ?_) rfl (by kernel_rfl) (by kernel_rfl) (by kernel_rfl) (fun _ _ _ h => h) (Or.inl ⟨by rfl, ?_⟩) (by assumption) ?_
  rotate_left
  · (intro w hSw; go_simp; try (with_reducible rfl))
  try simp only [Act.put, List.getElem_toArray, List.getElem_cons_zero, List.getElem_cons_succ, List.setIfInBounds_toArray, List.set_cons_zero, List.set_cons_succ]
  refine wpAnyH_take (i := 14) (v := ?_) rfl (by kernel_rfl) (by kernel_rfl) (by kernel_rfl) (fun _ _ _ h => h) (Or.inl ⟨by rfl, ?_⟩) (by assumption) ?_
  rotate_left
  · (intro w hSw; go_simp; try (with_reducible rfl))
  try simp only [Act.put, List.getElem_toArray, List.getElem_cons_zero, List.getElem_cons_succ, List.setIfInBounds_toArray, List.set_cons_zero, List.set_cons_succ]
  refine wpAnyH_take (i := 15) (v := ?_) rfl (by kernel_rfl) (by kernel_rfl) (by kernel_rfl) (fun _ _ _ h => h) (Or.inl ⟨by rfl, ?_⟩) (by assumption) ?_
  rotate_left
  · (intro w hSw; have hc0 := C3.out w hSw; go_simp; try (with_reducible rfl))
  try simp only [Act.put, List.getElem_toArray, List.getElem_cons_zero, List.getElem_cons_succ, List.setIfInBounds_toArray, List.set_cons_zero, List.set_cons_succ]
  refine wpAnyH_take (i := 16) (v := ?_) rfl (by kernel_rfl) (by kernel_rfl) (by kernel_rfl) (fun _ _ _ h => h) (Or.inl ⟨by rfl, ?_⟩) (by assumption) ?_
  rotate_left
  · (intro w hSw; go_simp; try (with_reducible rfl))
  try simp only [Act.put, List.getElem_toArray, List.getElem_cons_zero, List.getElem_cons_succ, List.setIfInBounds_toArray, List.set_cons_zero, List.set_cons_succ]
  obtain ⟨q1, hq1⟩ : ∃ q, IntKind.i64.wrap ((ttl : Int) / 65536) = q := ⟨_, rfl⟩
  obtain ⟨q2, hq2⟩ : ∃ q, (ttl : Int).tmod 65536 = q := ⟨_, rfl⟩
  rw [hq1, hq2]
  have HQ1 : Hid (((ttl / 65536 : Nat) : Int) = q1) := Lib.hid (by rw [← hq1]; have := HNUM.out; rw [IntKind.wrap_i64]; omega)
  have HQ2 : Hid (((ttl % 65536 : Nat) : Int) = q2) := Lib.hid (by rw [← hq2]; rfl)
  clear hq1 hq2
  have HTW := Lib.hid (HS.out.twoc (n := ty) (by have := HNUM.out; omega))
  refine wpAnyH_ready (rs := [3]) (by kernel_rfl) (by simp) ?_
  refine AllReadyH.cons rfl (fun K hK => ?_) AllReadyH.nil
  go_simp
  refine HTW.out.mono ?_
  rintro e wt3 ⟨rfl, hm, hs⟩
  have HM := Lib.hid hm
  replace HS := Lib.hid hs
  clear hm hs HTW
  go_wp2_with fail
  refine hK.out _ _ (HSS.out _ _ HS.out.kept.at0) (fun hHeldt3 => ?_)
  clear hK K
  try simp only [Act.put, List.getElem_toArray, List.getElem_cons_zero, List.getElem_cons_succ, List.setIfInBounds_toArray, List.set_cons_zero, List.set_cons_succ]
  refine wpAnyH_ready (rs := [4]) (by kernel_rfl) (by simp) ?_
  refine AllReadyH.cons rfl (fun K hK => ?_) AllReadyH.nil
  go_simp
  refine (HS.out.putc HM.out (by (try simp only [List.length_append]); (try simp only [twoL_len]); have := HKL.out; omega) rfl).mono ?_
  rintro e wp4 ⟨b4, n4, a4, rfl, hs⟩
  replace HS := Lib.hid hs
  clear hs HM
  go_wp2_with fail
  refine hK.out _ _ (HSS.out _ _ HS.out.kept.at0) (fun hHeldp4 => ?_)
  clear hK K
  try simp only [Act.put, List.getElem_toArray, List.getElem_cons_zero, List.getElem_cons_succ, List.setIfInBounds_toArray, List.set_cons_zero, List.set_cons_succ]
  have HTW := Lib.hid (HS.out.twoc (n := cl) (by have := HNUM.out; omega))
  refine wpAnyH_ready (rs := [7]) (by kernel_rfl) (by simp) ?_
  refine AllReadyH.cons rfl (fun K hK => ?_) AllReadyH.nil
  go_simp
  refine HTW.out.mono ?_
  rintro e wt7 ⟨rfl, hm, hs⟩
  have HM := Lib.hid hm
  replace HS := Lib.hid hs
  clear hm hs HTW
  go_wp2_with fail
  refine hK.out _ _ (HSS.out _ _ HS.out.kept.at0) (fun hHeldt7 => ?_)
  clear hK K
  try simp only [Act.put, List.getElem_toArray, List.getElem_cons_zero, List.getElem_cons_succ, List.setIfInBounds_toArray, List.set_cons_zero, List.set_cons_succ]
  refine wpAnyH_ready (rs := [8]) (by kernel_rfl) (by simp) ?_
  refine AllReadyH.cons rfl (fun K hK => ?_) AllReadyH.nil
  go_simp
  refine (HS.out.putc HM.out (by (try simp only [List.length_append]); (try simp only [twoL_len]); have := HKL.out; omega) rfl).mono ?_
  rintro e wp8 ⟨b8, n8, a8, rfl, hs⟩
  replace HS := Lib.hid hs
  clear hs HM
  go_wp2_with fail
  refine hK.out _ _ (HSS.out _ _ HS.out.kept.at0) (fun hHeldp8 => ?_)
  clear hK K
  try simp only [Act.put, List.getElem_toArray, List.getElem_cons_zero, List.getElem_cons_succ, List.setIfInBounds_toArray, List.set_cons_zero, List.set_cons_succ]
  have HTW := Lib.hid (HS.out.twoc (n := ttl / 65536) (by have := HNUM.out; omega))
  rw [show ((ttl / 65536 : Nat) : Int) = q1 by exact HQ1.out] at HTW
  refine wpAnyH_ready (rs := [12]) (by kernel_rfl) (by simp) ?_
  refine AllReadyH.cons rfl (fun K hK => ?_) AllReadyH.nil
  go_simp
  refine HTW.out.mono ?_
  rintro e wt12 ⟨rfl, hm, hs⟩
  have HM := Lib.hid hm
  replace HS := Lib.hid hs
  clear hm hs HTW
  go_wp2_with fail
  refine hK.out _ _ (HSS.out _ _ HS.out.kept.at0) (fun hHeldt12 => ?_)
  clear hK K
  try simp only [Act.put, List.getElem_toArray, List.getElem_cons_zero, List.getElem_cons_succ, List.setIfInBounds_toArray, List.set_cons_zero, List.set_cons_succ]
  refine wpAnyH_ready (rs := [13]) (by kernel_rfl) (by simp) ?_
  refine AllReadyH.cons rfl (fun K hK => ?_) AllReadyH.nil
  go_simp
  refine (HS.out.putc HM.out (by (try simp only [List.length_append]); (try simp only [twoL_len]); have := HKL.out; omega) rfl).mono ?_
  rintro e wp13 ⟨b13, n13, a13, rfl, hs⟩
  replace HS := Lib.hid hs
  clear hs HM
  go_wp2_with fail
  refine hK.out _ _ (HSS.out _ _ HS.out.kept.at0) (fun hHeldp13 => ?_)
  clear hK K
  try simp only [Act.put, List.getElem_toArray, List.getElem_cons_zero, List.getElem_cons_succ, List.setIfInBounds_toArray, List.set_cons_zero, List.set_cons_succ]
  have HTW := Lib.hid (HS.out.twoc (n := ttl % 65536) (by omega))
  rw [show ((ttl % 65536 : Nat) : Int) = q2 by exact HQ2.out] at HTW
  refine wpAnyH_ready (rs := [17]) (by kernel_rfl) (by simp) ?_
  refine AllReadyH.cons rfl (fun K hK => ?_) AllReadyH.nil
  go_simp
  refine HTW.out.mono ?_
  rintro e wt17 ⟨rfl, hm, hs⟩
  have HM := Lib.hid hm
  replace HS := Lib.hid hs
  clear hm hs HTW
  go_wp2_with fail
  refine hK.out _ _ (HSS.out _ _ HS.out.kept.at0) (fun hHeldt17 => ?_)
  clear hK K
  try simp only [Act.put, List.getElem_toArray, List.getElem_cons_zero, List.getElem_cons_succ, List.setIfInBounds_toArray, List.set_cons_zero, List.set_cons_succ]
  refine wpAnyH_ready (rs := [18]) (by kernel_rfl) (by simp) ?_
  refine AllReadyH.cons rfl (fun K hK => ?_) AllReadyH.nil
  go_simp
  refine (HS.out.putc HM.out (by (try simp only [List.length_append]); (try simp only [twoL_len]); have := HKL.out; omega) rfl).mono ?_
  rintro e wp18 ⟨b18, n18, a18, rfl, hs⟩
  replace HS := Lib.hid hs
  clear hs HM
  go_wp2_with fail
  refine hK.out _ _ (HSS.out _ _ HS.out.kept.at0) (fun hHeldp18 => ?_)
  clear hK K
  try simp only [Act.put, List.getElem_toArray, List.getElem_cons_zero, List.getElem_cons_succ, List.setIfInBounds_toArray, List.set_cons_zero, List.set_cons_succ]
  refine wpAnyH_ready (rs := [19]) (by kernel_rfl) (by simp) ?_
  refine ready_one rfl rfl (fun K hK => ?_)
  have HC0 := Lib.hid (HS.out.cells (List.mem_cons_self ..))
  refine wp_store_W9 HC0 rfl _ _ rfl rfl rfl rfl HS.out.rows.one (fun Va HV HVC => ?_)
  replace HS := HS.out.set (fun x hx => by rcases List.mem_cons.1 hx with rfl | hx; (simp only; omega); exact (HN0.out x hx).1) (by have := HG0.out; omega) [b18, n18, a18] rfl
  rw [← HV.out] at HS
  replace HS := Lib.hid HS
  refine hK.out _ _ (HSS.out _ _ HS.out.kept.at0) (fun hHelda => ?_)
  clear hK K HC0 HV
  try simp only [Act.put, List.getElem_toArray, List.getElem_cons_zero, List.getElem_cons_succ]
  refine wpAnyH_done (by kernel_rfl) ?_ _
  refine NoPanic.normal ?_
  obtain ⟨T2, hT2⟩ : ∃ T : Wst, (T1.1 ++ twoL ty ++ twoL cl ++ twoL (ttl / 65536) ++ twoL (ttl % 65536), T1.2) = T := ⟨_, rfl⟩
  have HK2 := Lib.hid ((((HK1.out.put (twoL ty)).put (twoL cl)).put (twoL (ttl / 65536))).put (twoL (ttl % 65536)))
  have HT2 := Lib.hid hT2.symm
  obtain ⟨L4, hL4⟩ : ∃ L4, (G0, 0, [b18, n18, a18]) :: L2 = L4 := ⟨_, rfl⟩
  replace HS : Hid (St9 w B (blk3 vB vN vA) ((G0 + 1 + 1, 0, zW) :: L4) b18 n18 a18 T2 Va) := Lib.hid (by
    have := HS.out
    rw [hT2] at this
    refine this.sub (fun x hx => ?_)
    rw [← hL4] at hx
    rcases List.mem_cons.1 hx with rfl | hx
    · simp
    · rcases List.mem_cons.1 hx with rfl | hx
      · simp
      · simp [hx])
  replace HK2 : Hid (Wok (KN + 16300 + 2 + 2 + 2 + 2) T2) := Lib.hid (by have := HK2.out; simp only [twoL_len] at this; rw [hT2] at this; exact this)
  have HI0 : Hid ((G0, 0, [b18, n18, a18]) ∈ L4 ∧ [b18, n18, a18].length = 3) := Lib.hid ⟨by rw [← hL4]; simp, rfl⟩
  replace HI1 : Hid ((G0 + 1, 0, vr) ∈ L4) := Lib.hid (by rw [← hL4]; exact List.mem_cons_of_mem _ HI1.out)
  replace HN0 : Hid (∀ x ∈ L4, x.1 ≠ G0 + 1 + 1) := Lib.hid (fun x hx => by rw [← hL4] at hx; rcases List.mem_cons.1 hx with rfl | hx; (simp only; omega); exact (HN0.out x hx).2)
  replace HSS : Hid (∀ us V, HeldS ((G0 + 1 + 1, 0, us) :: L4) V → HeldS L4 V) := Lib.hid (fun us V hv x hx => hv x (List.mem_cons_of_mem _ hx))
  replace HRC : Hid (∀ V, HeldS L4 V → V.cell? ⟨G0 + 1, 1, none⟩ = some (.int .i64 (ty : Int)) ∧ V.rangeAt (G0 + 1) 4 (addrL f b) ∧ V.cell? ⟨G0 + 1, 21, none⟩ = some (.string tg) ∧ V.cell? ⟨G0 + 1, 22, none⟩ = some (.string da)) := Lib.hid (fun V hv => by
    have := HRC.out V _ (hv _ HI1.out)
    exact ⟨this.2.1, this.2.2.2.2.1, this.2.2.2.2.2.1, this.2.2.2.2.2.2⟩)
  replace HKL : Hid (T2.1.length ≤ 917000) := Lib.hid (by have := HK2.out.len; have := HKK.out; omega)
  have HRW : Hid (∀ d : Wst, daR t r = d → rW t r = (T2.1 ++ twoL d.1.length ++ d.1, d.2)) := Lib.hid (fun d hd => by
    unfold rW
    rw [hd, ← hT2, HT1.out, HR.out]
    simp only [numsR, Int.toNat_natCast, List.append_assoc])
  have HAT : Hid (atR t r = T2.1.length + 2 ∧ (nmT r.name t.1.length t.2.1 t.2.2).2 = T2.2) := Lib.hid (by
    rw [← hT2, HT1.out, HR.out]
    refine ⟨?_, rfl⟩
    unfold atR
    simp only [List.length_append, twoL_len] <;> omega)
  clear hT2 hL4 C1 C2 C3 HI5 hHeld hHelda hHeldt3 hHeldp4 hHeldt7 hHeldp8 hHeldt12 hHeldp13 hHeldt17 hHeldp18 HVC
  have ht := (HRC.out Va (HSS.out _ _ HS.out.kept.at0)).1
  by_cases t1 : ty = 1
  · have tb1 : ((ty : Int) == 1) = true := by rw [t1]; rfl
    go_upto_region 4 with fail
    clear ht
    replace HS := Lib.hid HS.out.drew
    refine wp_region_noPanic ?_
    refine wp_region_held_drew (S := HeldS L4) (by kernel_rfl) (HSS.out _ _ HS.out.kept.at0) (fun hHeld => ?_)
    generalize Va.drew = U4 at *
    have CSL : Hid (∀ V, HeldS L4 V → (Instr.sliceAt 38 (.pointer (some ⟨G0 + 1, 5, none⟩)) none (some (.int .i64 (IntKind.i64.wrap 4))) none).run Try.prog V = .ok (.slice (some ⟨G0 + 1, 5, none⟩) 4 16) V) := Lib.hid (fun V _ => by kernel_rfl)
    have HBL : Hid ((byB (b.take 4)).length = 4) := Lib.hid (by rw [byB_len, List.length_take, H16.out]; rfl)
    refine wpAnyH_take (i := 0) rfl (by kernel_rfl) (by kernel_rfl) (by kernel_rfl) (fun _ _ _ h => h) (yields_W9 HI0 (by rfl) _ rfl rfl) (by assumption) ?_
    try simp only [Act.put, List.getElem_toArray, List.getElem_cons_zero, List.setIfInBounds_toArray, List.set_cons_zero, List.set_cons_succ]
    refine wpAnyH_take (i := 3) (v := ?_) rfl (by kernel_rfl) (by kernel_rfl) (by kernel_rfl) (fun _ _ _ h => h) (Or.inl ⟨by rfl, ?_⟩) (by assumption) ?_
    rotate_left
    · (intro w hSw; go_simp; try (with_reducible rfl))
    try simp only [Act.put, List.getElem_toArray, List.getElem_cons_zero, List.getElem_cons_succ, List.setIfInBounds_toArray, List.set_cons_zero, List.set_cons_succ]
    refine wpAnyH_take (i := 4) (v := ?_) rfl (by kernel_rfl) (by kernel_rfl) (by kernel_rfl) (fun _ _ _ h => h) (Or.inl ⟨by rfl, ?_⟩) (by assumption) ?_
    rotate_left
    · (intro w hSw; go_simp; try (with_reducible rfl))
    try simp only [Act.put, List.getElem_toArray, List.getElem_cons_zero, List.getElem_cons_succ, List.setIfInBounds_toArray, List.set_cons_zero, List.set_cons_succ]
    refine wpAnyH_take (i := 5) (v := ?_) rfl (by kernel_rfl) (by kernel_rfl) (by kernel_rfl) (fun _ _ _ h => h) (Or.inl ⟨by rfl, ?_⟩) (by assumption) ?_
    rotate_left
    · (intro w hSw; have hc0 := CSL.out w hSw; go_simp; try (with_reducible rfl))
    try simp only [Act.put, List.getElem_toArray, List.getElem_cons_zero, List.getElem_cons_succ, List.setIfInBounds_toArray, List.set_cons_zero, List.set_cons_succ]
    have HTW := Lib.hid (HS.out.twoc (n := 4) (by decide))
    rw [show ((4 : Nat) : Int) = (4 : Int) by rfl] at HTW
    refine wpAnyH_ready (rs := [1]) (by kernel_rfl) (by simp) ?_
    refine AllReadyH.cons rfl (fun K hK => ?_) AllReadyH.nil
    go_simp
    refine HTW.out.mono ?_
    rintro e wtd1 ⟨rfl, hm, hs⟩
    have HM := Lib.hid hm
    replace HS := Lib.hid hs
    clear hm hs HTW
    go_wp2_with fail
    refine hK.out _ _ (HSS.out _ _ HS.out.kept.at0) (fun hHeldtd1 => ?_)
    clear hK K
    try simp only [Act.put, List.getElem_toArray, List.getElem_cons_zero, List.getElem_cons_succ, List.setIfInBounds_toArray, List.set_cons_zero, List.set_cons_succ]
    refine wpAnyH_ready (rs := [2]) (by kernel_rfl) (by simp) ?_
    refine AllReadyH.cons rfl (fun K hK => ?_) AllReadyH.nil
    go_simp
    refine (HS.out.putc HM.out (by (try simp only [List.length_append]); (try simp only [twoL_len]); have := HKL.out; omega) rfl).mono ?_
    rintro e wpd2 ⟨bd2, nd2, ad2, rfl, hs⟩
    replace HS := Lib.hid hs
    clear hs HM
    go_wp2_with fail
    refine hK.out _ _ (HSS.out _ _ HS.out.kept.at0) (fun hHeldpd2 => ?_)
    clear hK K
    try simp only [Act.put, List.getElem_toArray, List.getElem_cons_zero, List.getElem_cons_succ, List.setIfInBounds_toArray, List.set_cons_zero, List.set_cons_succ]
    have hbm := addr_bytes (HRC.out _ hHeldpd2).2.1 H16.out HLT.out 4 (by omega)
    have HM := Lib.hid hbm
    clear hbm
    refine wpAnyH_ready (rs := [6]) (by kernel_rfl) (by simp) ?_
    refine AllReadyH.cons rfl (fun K hK => ?_) AllReadyH.nil
    go_simp
    refine (HS.out.putc HM.out (by (try simp only [List.length_append]); (try simp only [twoL_len]); (try simp only [HBL.out]); have := HKL.out; omega) HBL.out).mono ?_
    rintro e w6 ⟨b6, n6, a6, rfl, hs⟩
    replace HS := Lib.hid hs
    clear hs HM
    go_wp2_with fail
    refine hK.out _ _ (HSS.out _ _ HS.out.kept.at0) (fun hHeldd6 => ?_)
    clear hK K
    try simp only [Act.put, List.getElem_toArray, List.getElem_cons_zero, List.getElem_cons_succ, List.setIfInBounds_toArray, List.set_cons_zero, List.set_cons_succ]
    refine wpAnyH_ready (rs := [7]) (by kernel_rfl) (by simp) ?_
    refine ready_one rfl rfl (fun K hK => ?_)
    have HC0 := Lib.hid (HS.out.cells (List.mem_cons_self ..))
    refine wp_store_W9 HC0 rfl _ _ rfl rfl rfl rfl HS.out.rows.one (fun Vz HV HVC => ?_)
    replace HS := HS.out.set HN0.out (by have := HG0.out; omega) [b6, n6, a6] rfl
    rw [← HV.out] at HS
    replace HS := Lib.hid HS
    refine hK.out _ _ (HSS.out _ _ HS.out.kept.at0) (fun hHeldz => ?_)
    clear hK K HC0 HV
    try simp only [Act.put, List.getElem_toArray, List.getElem_cons_zero, List.getElem_cons_succ]
    refine wpAnyH_done (by kernel_rfl) ?_ _
    refine NoPanic.normal ?_
    go_wp2_with fail
    have hrw := HRW.out (byB (b.take 4), T2.2) (by rw [daR_1 (by rw [HR.out]; simp only; omega), HAT.out.2, HR.out])
    refine bodyPost_ret (results_W9 Try.results36 rfl HVC.out rfl) rfl ?_
    have h2 := HS.out.ret
    rw [hrw]
    simp only [HBL.out]
    exact h2
  · have tb1 : ((ty : Int) == 1) = false := by rw [beq_eq_false_iff_ne]; omega
    by_cases t2 : ty = 28
    · have tb2 : ((ty : Int) == 28) = true := by rw [t2]; rfl
      go_upto_region 6 with fail
      clear ht
      replace HS := Lib.hid HS.out.drew
      refine wp_region_noPanic ?_
      refine wp_region_held_drew (S := HeldS L4) (by kernel_rfl) (HSS.out _ _ HS.out.kept.at0) (fun hHeld => ?_)
      generalize Va.drew = U4 at *
      have CSL : Hid (∀ V, HeldS L4 V → (Instr.sliceAt 38 (.pointer (some ⟨G0 + 1, 5, none⟩)) none none none).run Try.prog V = .ok (.slice (some ⟨G0 + 1, 5, none⟩) 16 16) V) := Lib.hid (fun V _ => by kernel_rfl)
      have HBL : Hid ((byB b).length = 16) := Lib.hid (by rw [byB_len, H16.out])
      refine wpAnyH_take (i := 0) rfl (by kernel_rfl) (by kernel_rfl) (by kernel_rfl) (fun _ _ _ h => h) (yields_W9 HI0 (by rfl) _ rfl rfl) (by assumption) ?_
      try simp only [Act.put, List.getElem_toArray, List.getElem_cons_zero, List.setIfInBounds_toArray, List.set_cons_zero, List.set_cons_succ]
      refine wpAnyH_take (i := 3) (v := ?_) rfl (by kernel_rfl) (by kernel_rfl) (by kernel_rfl) (fun _ _ _ h => h) (Or.inl ⟨by rfl, ?_⟩) (by assumption) ?_
      rotate_left
      · (intro w hSw; go_simp; try (with_reducible rfl))
      try simp only [Act.put, List.getElem_toArray, List.getElem_cons_zero, List.getElem_cons_succ, List.setIfInBounds_toArray, List.set_cons_zero, List.set_cons_succ]
      refine wpAnyH_take (i := 4) (v := ?_) rfl (by kernel_rfl) (by kernel_rfl) (by kernel_rfl) (fun _ _ _ h => h) (Or.inl ⟨by rfl, ?_⟩) (by assumption) ?_
      rotate_left
      · (intro w hSw; go_simp; try (with_reducible rfl))
      try simp only [Act.put, List.getElem_toArray, List.getElem_cons_zero, List.getElem_cons_succ, List.setIfInBounds_toArray, List.set_cons_zero, List.set_cons_succ]
      refine wpAnyH_take (i := 5) (v := ?_) rfl (by kernel_rfl) (by kernel_rfl) (by kernel_rfl) (fun _ _ _ h => h) (Or.inl ⟨by rfl, ?_⟩) (by assumption) ?_
      rotate_left
      · (intro w hSw; have hc0 := CSL.out w hSw; go_simp; try (with_reducible rfl))
      try simp only [Act.put, List.getElem_toArray, List.getElem_cons_zero, List.getElem_cons_succ, List.setIfInBounds_toArray, List.set_cons_zero, List.set_cons_succ]
      have HTW := Lib.hid (HS.out.twoc (n := 16) (by decide))
      rw [show ((16 : Nat) : Int) = (16 : Int) by rfl] at HTW
      refine wpAnyH_ready (rs := [1]) (by kernel_rfl) (by simp) ?_
      refine AllReadyH.cons rfl (fun K hK => ?_) AllReadyH.nil
      go_simp
      refine HTW.out.mono ?_
      rintro e wtd1 ⟨rfl, hm, hs⟩
      have HM := Lib.hid hm
      replace HS := Lib.hid hs
      clear hm hs HTW
      go_wp2_with fail
      refine hK.out _ _ (HSS.out _ _ HS.out.kept.at0) (fun hHeldtd1 => ?_)
      clear hK K
      try simp only [Act.put, List.getElem_toArray, List.getElem_cons_zero, List.getElem_cons_succ, List.setIfInBounds_toArray, List.set_cons_zero, List.set_cons_succ]
      refine wpAnyH_ready (rs := [2]) (by kernel_rfl) (by simp) ?_
      refine AllReadyH.cons rfl (fun K hK => ?_) AllReadyH.nil
      go_simp
      refine (HS.out.putc HM.out (by (try simp only [List.length_append]); (try simp only [twoL_len]); have := HKL.out; omega) rfl).mono ?_
      rintro e wpd2 ⟨bd2, nd2, ad2, rfl, hs⟩
      replace HS := Lib.hid hs
      clear hs HM
      go_wp2_with fail
      refine hK.out _ _ (HSS.out _ _ HS.out.kept.at0) (fun hHeldpd2 => ?_)
      clear hK K
      try simp only [Act.put, List.getElem_toArray, List.getElem_cons_zero, List.getElem_cons_succ, List.setIfInBounds_toArray, List.set_cons_zero, List.set_cons_succ]
      have hbm := addr_bytes (HRC.out _ hHeldpd2).2.1 H16.out HLT.out 16 (by omega)
      rw [List.take_of_length_le (by rw [H16.out]; exact Nat.le_refl _)] at hbm
      have HM := Lib.hid hbm
      clear hbm
      refine wpAnyH_ready (rs := [6]) (by kernel_rfl) (by simp) ?_
      refine AllReadyH.cons rfl (fun K hK => ?_) AllReadyH.nil
      go_simp
      refine (HS.out.putc HM.out (by (try simp only [List.length_append]); (try simp only [twoL_len]); (try simp only [HBL.out]); have := HKL.out; omega) HBL.out).mono ?_
      rintro e w6 ⟨b6, n6, a6, rfl, hs⟩
      replace HS := Lib.hid hs
      clear hs HM
      go_wp2_with fail
      refine hK.out _ _ (HSS.out _ _ HS.out.kept.at0) (fun hHeldd6 => ?_)
      clear hK K
      try simp only [Act.put, List.getElem_toArray, List.getElem_cons_zero, List.getElem_cons_succ, List.setIfInBounds_toArray, List.set_cons_zero, List.set_cons_succ]
      refine wpAnyH_ready (rs := [7]) (by kernel_rfl) (by simp) ?_
      refine ready_one rfl rfl (fun K hK => ?_)
      have HC0 := Lib.hid (HS.out.cells (List.mem_cons_self ..))
      refine wp_store_W9 HC0 rfl _ _ rfl rfl rfl rfl HS.out.rows.one (fun Vz HV HVC => ?_)
      replace HS := HS.out.set HN0.out (by have := HG0.out; omega) [b6, n6, a6] rfl
      rw [← HV.out] at HS
      replace HS := Lib.hid HS
      refine hK.out _ _ (HSS.out _ _ HS.out.kept.at0) (fun hHeldz => ?_)
      clear hK K HC0 HV
      try simp only [Act.put, List.getElem_toArray, List.getElem_cons_zero, List.getElem_cons_succ]
      refine wpAnyH_done (by kernel_rfl) ?_ _
      refine NoPanic.normal ?_
      go_wp2_with fail
      have hrw := HRW.out (byB b, T2.2) (by rw [daR_28 (by rw [HR.out]; simp only; omega), HAT.out.2, HR.out])
      refine bodyPost_ret (results_W9 Try.results36 rfl HVC.out rfl) rfl ?_
      have h2 := HS.out.ret
      rw [hrw]
      simp only [HBL.out]
      exact h2
    · have tb2 : ((ty : Int) == 28) = false := by rw [beq_eq_false_iff_ne]; omega
      by_cases t3 : ty = 5
      · have tb3 : ((ty : Int) != 5) = false := by rw [t3]; rfl
        obtain ⟨xb, yb, hxb⟩ := own_slice HS.out.rows.rb
        subst hxb
        have c0 : Va.cell? ⟨G0, 0, none⟩ = some (.slice xb T2.1.length yb) := (HSS.out _ _ HS.out.kept.at0) _ HI0.out.1 0 _ rfl
        have HTGM : Hid (mayN tg = true) := Lib.hid (HTG.out t3)
        have HTY : Hid (ty = 5) := Lib.hid t3
        have HKN : Hid (Wok (KN + 16310) (T2.1 ++ twoL 0, T2.2)) := Lib.hid ((HK2.out.put (twoL 0)).wider (by simp only [twoL_len]; omega))
        have CT : Hid (∀ V, HeldS L4 V → V.cell? ⟨G0 + 1, 21, none⟩ = some (.string tg)) := Lib.hid (fun V hv => (HRC.out V hv).2.2.1)
        go_upto_region 10 with fail
        clear c0 ht t1 t2 t3 tb1 tb2 tb3
        go_cut [8, 9] from 73 (fun s8 s9 wx => ∃ (P : Nat) (b10 n10 a10 : Value), s8 = .pointer (some ⟨P, 0, none⟩) ∧ s9 = .bool true ∧ Hid ((∀ x ∈ (G0 + 1 + 1, 0, zW) :: L4, x.1 ≠ P) ∧ w.heap.size ≤ P) ∧ Hid (St9 w B (blk3 vB vN vA) ((P, 0, [b10, n10, a10]) :: (G0 + 1 + 1, 0, zW) :: L4) b10 n10 a10 (T2.1 ++ twoL 0 ++ (nmT tg (T2.1 ++ twoL 0).length T2.2.1 T2.2.2).1, (nmT tg (T2.1 ++ twoL 0).length T2.2.1 T2.2.2).2) wx))
        case first =>
          replace HS := Lib.hid HS.out.drew
          refine wp_region_noPanic ?_
          refine wp_region_held_drew (S := HeldS L4) (by kernel_rfl) (HSS.out _ _ HS.out.kept.at0) (fun hHeld => ?_)
          generalize Va.drew = U10 at *
          refine wpAnyH_take (i := 0) rfl (by kernel_rfl) (by kernel_rfl) (by kernel_rfl) (fun _ _ _ h => h) (yields_W9 HI0 (by rfl) _ rfl rfl) (by assumption) ?_
          try simp only [Act.put, List.getElem_toArray, List.getElem_cons_zero, List.setIfInBounds_toArray, List.set_cons_zero, List.set_cons_succ]
          refine wpAnyH_take (i := 3) (v := ?_) rfl (by kernel_rfl) (by kernel_rfl) (by kernel_rfl) (fun _ _ _ h => h) (Or.inl ⟨by rfl, ?_⟩) (by assumption) ?_
          rotate_left
          · (intro w hSw; go_simp; try (with_reducible rfl))
          try simp only [Act.put, List.getElem_toArray, List.getElem_cons_zero, List.getElem_cons_succ, List.setIfInBounds_toArray, List.set_cons_zero, List.set_cons_succ]
          refine wpAnyH_take (i := 4) (v := ?_) rfl (by kernel_rfl) (by kernel_rfl) (by kernel_rfl) (fun _ _ _ h => h) (Or.inl ⟨by rfl, ?_⟩) (by assumption) ?_
          rotate_left
          · (intro w hSw; have hc0 := CT.out w hSw; go_simp; try (with_reducible rfl))
          try simp only [Act.put, List.getElem_toArray, List.getElem_cons_zero, List.getElem_cons_succ, List.setIfInBounds_toArray, List.set_cons_zero, List.set_cons_succ]
          refine wpAnyH_ready (rs := [1, 9]) (by kernel_rfl) (by simp) ?_
          refine AllReadyH.cons rfl (fun K hK => ?_) (ready_one rfl rfl (fun K hK => ?_))
          · have HTW := Lib.hid (HS.out.twoc (n := 0) (by decide))
            rw [show ((0 : Nat) : Int) = (0 : Int) by rfl] at HTW
            go_simp
            refine HTW.out.mono ?_
            rintro e wtg1 ⟨rfl, hm, hs⟩
            have HM := Lib.hid hm
            replace HS := Lib.hid hs
            clear hm hs HTW
            go_wp2_with fail
            refine hK.out _ _ (HSS.out _ _ HS.out.kept.at0) (fun hHeldtg1 => ?_)
            clear hK K
            try simp only [Act.put, List.getElem_toArray, List.getElem_cons_zero, List.getElem_cons_succ, List.setIfInBounds_toArray, List.set_cons_zero, List.set_cons_succ]
            refine wpAnyH_ready (rs := [2, 9]) (by kernel_rfl) (by simp) ?_
            refine AllReadyH.cons rfl (fun K hK => ?_) (ready_one rfl rfl (fun K hK => ?_))
            · go_simp
              refine (HS.out.putc HM.out (by (try simp only [List.length_append]); (try simp only [twoL_len]); have := HKL.out; omega) rfl).mono ?_
              rintro e wpg2 ⟨bg2, ng2, ag2, rfl, hs⟩
              replace HS := Lib.hid hs
              clear hs HM
              go_wp2_with fail
              refine hK.out _ _ (HSS.out _ _ HS.out.kept.at0) (fun hHeldpg2 => ?_)
              clear hK K
              try simp only [Act.put, List.getElem_toArray, List.getElem_cons_zero, List.getElem_cons_succ, List.setIfInBounds_toArray, List.set_cons_zero, List.set_cons_succ]
              refine wpAnyH_ready (rs := [5, 9]) (by kernel_rfl) (by simp) ?_
              refine AllReadyH.cons rfl (fun K hK => ?_) (ready_one rfl rfl (fun K hK => ?_))
              · go_simp
                refine (HS.out.namec HTGM.out (K := KN + 16310) HKN.out (by have := HKK.out; omega)).mono ?_
                rintro e wnd ⟨b10, n10, a10, rfl, hs⟩
                replace HS := Lib.hid hs
                clear hs
                go_wp2_with fail
                refine hK.out _ _ (HSS.out _ _ HS.out.kept.at0) (fun hHeldnd => ?_)
                clear hK K
                try simp only [Act.put, List.getElem_toArray, List.getElem_cons_zero, List.getElem_cons_succ, List.setIfInBounds_toArray, List.set_cons_zero, List.set_cons_succ]
                refine wpAnyH_take (i := 6) (v := ?_) rfl (by kernel_rfl) (by kernel_rfl) (by kernel_rfl) (fun _ _ _ h => h) (Or.inl ⟨by rfl, ?_⟩) (by assumption) ?_
                rotate_left
                · (intro w hSw; go_simp; try (with_reducible rfl))
                try simp only [Act.put, List.getElem_toArray, List.getElem_cons_zero, List.getElem_cons_succ, List.setIfInBounds_toArray, List.set_cons_zero, List.set_cons_succ]
                refine wpAnyH_take (i := 7) (v := ?_) rfl (by kernel_rfl) (by kernel_rfl) (by kernel_rfl) (fun _ _ _ h => h) (Or.inl ⟨by rfl, ?_⟩) (by assumption) ?_
                rotate_left
                · (intro w hSw; go_simp; try (with_reducible rfl))
                try simp only [Act.put, List.getElem_toArray, List.getElem_cons_zero, List.getElem_cons_succ, List.setIfInBounds_toArray, List.set_cons_zero, List.set_cons_succ]
                refine wpAnyH_take (i := 8) (v := ?_) rfl (by kernel_rfl) (by kernel_rfl) (by kernel_rfl) (fun _ _ _ h => h) (Or.inl ⟨by rfl, ?_⟩) (by assumption) ?_
                rotate_left
                · (intro w hSw; go_simp; try (with_reducible rfl))
                try simp only [Act.put, List.getElem_toArray, List.getElem_cons_zero, List.getElem_cons_succ, List.setIfInBounds_toArray, List.set_cons_zero, List.set_cons_succ]
                refine wpAnyH_ready (rs := [9]) (by kernel_rfl) (by simp) ?_
                refine ready_one rfl rfl (fun K hK => ?_)
                obtain ⟨P, Wa, hP, hWa, hn1, hn2, hal, hbl⟩ := HS.out.alloc_ex
                have HNP : Hid ((∀ x ∈ (G0 + 1 + 1, 0, zW) :: L4, x.1 ≠ P) ∧ w.heap.size ≤ P) := Lib.hid ⟨hn1, hn2⟩
                replace HS := Lib.hid hal
                clear hn1 hn2 hal hbl
                go_wp2_with fail
                try rw [hWa]
                try rw [hP]
                replace HSS : Hid (∀ us V, HeldS ((P, 0, us) :: (G0 + 1 + 1, 0, zW) :: L4) V → HeldS L4 V) := Lib.hid (fun us V hv x hx => hv x (List.mem_cons_of_mem _ (List.mem_cons_of_mem _ hx)))
                refine hK.out _ _ (HSS.out _ _ HS.out.kept.at0) (fun hHeldad => ?_)
                clear hK K hWa hP
                try simp only [Act.put, List.getElem_toArray, List.getElem_cons_zero, List.getElem_cons_succ, List.setIfInBounds_toArray, List.set_cons_zero, List.set_cons_succ]
                refine wpAnyH_ready (rs := [10]) (by kernel_rfl) (by simp) ?_
                refine ready_one rfl rfl (fun K hK => ?_)
                have HC0 := Lib.hid (HS.out.cells (List.mem_cons_self ..))
                refine wp_store_W9 HC0 rfl _ _ rfl rfl rfl rfl HS.out.rows.one (fun Vy HV HVC => ?_)
                replace HS := HS.out.set HNP.out.1 HNP.out.2 [b10, n10, a10] rfl
                rw [← HV.out] at HS
                replace HS := Lib.hid HS
                refine hK.out _ _ (HSS.out _ _ HS.out.kept.at0) (fun hHeldy => ?_)
                clear hK K HC0 HV
                try simp only [Act.put, List.getElem_toArray, List.getElem_cons_zero, List.getElem_cons_succ]
                refine wpAnyH_take (i := 11) (v := ?_) rfl (by kernel_rfl) (by kernel_rfl) (by kernel_rfl) (fun _ _ _ h => h) (Or.inl ⟨by rfl, ?_⟩) (by assumption) ?_
                rotate_left
                · (intro w hSw; go_simp; try (with_reducible rfl))
                try simp only [Act.put, List.getElem_toArray, List.getElem_cons_zero, List.getElem_cons_succ, List.setIfInBounds_toArray, List.set_cons_zero, List.set_cons_succ]
                refine wpAnyH_done (by kernel_rfl) ?_ _
                refine NoPanic.normal ?_
                go_wp2_with fail
                go_meet
                case rel => exact ⟨P, b10, n10, a10, rfl, rfl, HNP, HS⟩
              · obtain ⟨P, Wa, hP, hWa, hn1, hn2, hal, hbl⟩ := HS.out.alloc_ex
                have HNP : Hid ((∀ x ∈ (G0 + 1 + 1, 0, zW) :: L4, x.1 ≠ P) ∧ w.heap.size ≤ P) := Lib.hid ⟨hn1, hn2⟩
                replace HS := Lib.hid hal
                clear hn1 hn2 hal hbl
                go_wp2_with fail
                try rw [hWa]
                try rw [hP]
                replace HSS : Hid (∀ us V, HeldS ((P, 0, us) :: (G0 + 1 + 1, 0, zW) :: L4) V → HeldS L4 V) := Lib.hid (fun us V hv x hx => hv x (List.mem_cons_of_mem _ (List.mem_cons_of_mem _ hx)))
                refine hK.out _ _ (HSS.out _ _ HS.out.kept.at0) (fun hHeldac => ?_)
                clear hK K hWa hP
                try simp only [Act.put, List.getElem_toArray, List.getElem_cons_zero, List.getElem_cons_succ, List.setIfInBounds_toArray, List.set_cons_zero, List.set_cons_succ]
                refine wpAnyH_ready (rs := [5]) (by kernel_rfl) (by simp) ?_
                refine AllReadyH.cons rfl (fun K hK => ?_) AllReadyH.nil
                go_simp
                refine (HS.out.namec HTGM.out (K := KN + 16310) HKN.out (by have := HKK.out; omega)).mono ?_
                rintro e wnc ⟨b10, n10, a10, rfl, hs⟩
                replace HS := Lib.hid hs
                clear hs
                go_wp2_with fail
                refine hK.out _ _ (HSS.out _ _ HS.out.kept.at0) (fun hHeldnc => ?_)
                clear hK K
                try simp only [Act.put, List.getElem_toArray, List.getElem_cons_zero, List.getElem_cons_succ, List.setIfInBounds_toArray, List.set_cons_zero, List.set_cons_succ]
                refine wpAnyH_take (i := 6) (v := ?_) rfl (by kernel_rfl) (by kernel_rfl) (by kernel_rfl) (fun _ _ _ h => h) (Or.inl ⟨by rfl, ?_⟩) (by assumption) ?_
                rotate_left
                · (intro w hSw; go_simp; try (with_reducible rfl))
                try simp only [Act.put, List.getElem_toArray, List.getElem_cons_zero, List.getElem_cons_succ, List.setIfInBounds_toArray, List.set_cons_zero, List.set_cons_succ]
                refine wpAnyH_take (i := 7) (v := ?_) rfl (by kernel_rfl) (by kernel_rfl) (by kernel_rfl) (fun _ _ _ h => h) (Or.inl ⟨by rfl, ?_⟩) (by assumption) ?_
                rotate_left
                · (intro w hSw; go_simp; try (with_reducible rfl))
                try simp only [Act.put, List.getElem_toArray, List.getElem_cons_zero, List.getElem_cons_succ, List.setIfInBounds_toArray, List.set_cons_zero, List.set_cons_succ]
                refine wpAnyH_take (i := 8) (v := ?_) rfl (by kernel_rfl) (by kernel_rfl) (by kernel_rfl) (fun _ _ _ h => h) (Or.inl ⟨by rfl, ?_⟩) (by assumption) ?_
                rotate_left
                · (intro w hSw; go_simp; try (with_reducible rfl))
                try simp only [Act.put, List.getElem_toArray, List.getElem_cons_zero, List.getElem_cons_succ, List.setIfInBounds_toArray, List.set_cons_zero, List.set_cons_succ]
                refine wpAnyH_ready (rs := [10]) (by kernel_rfl) (by simp) ?_
                refine ready_one rfl rfl (fun K hK => ?_)
                have HC0 := Lib.hid (HS.out.cells (List.mem_cons_self ..))
                refine wp_store_W9 HC0 rfl _ _ rfl rfl rfl rfl HS.out.rows.one (fun Vy HV HVC => ?_)
                replace HS := HS.out.set HNP.out.1 HNP.out.2 [b10, n10, a10] rfl
                rw [← HV.out] at HS
                replace HS := Lib.hid HS
                refine hK.out _ _ (HSS.out _ _ HS.out.kept.at0) (fun hHeldy => ?_)
                clear hK K HC0 HV
                try simp only [Act.put, List.getElem_toArray, List.getElem_cons_zero, List.getElem_cons_succ]
                refine wpAnyH_take (i := 11) (v := ?_) rfl (by kernel_rfl) (by kernel_rfl) (by kernel_rfl) (fun _ _ _ h => h) (Or.inl ⟨by rfl, ?_⟩) (by assumption) ?_
                rotate_left
                · (intro w hSw; go_simp; try (with_reducible rfl))
                try simp only [Act.put, List.getElem_toArray, List.getElem_cons_zero, List.getElem_cons_succ, List.setIfInBounds_toArray, List.set_cons_zero, List.set_cons_succ]
                refine wpAnyH_done (by kernel_rfl) ?_ _
                refine NoPanic.normal ?_
                go_wp2_with fail
                go_meet
                case rel => exact ⟨P, b10, n10, a10, rfl, rfl, HNP, HS⟩
            · obtain ⟨P, Wa, hP, hWa, hn1, hn2, hal, hbl⟩ := HS.out.alloc_ex
              have HNP : Hid ((∀ x ∈ (G0 + 1 + 1, 0, zW) :: L4, x.1 ≠ P) ∧ w.heap.size ≤ P) := Lib.hid ⟨hn1, hn2⟩
              replace HS := Lib.hid hal
              replace HM := Lib.hid (HM.out.below hbl)
              clear hn1 hn2 hal hbl
              go_wp2_with fail
              try rw [hWa]
              try rw [hP]
              replace HSS : Hid (∀ us V, HeldS ((P, 0, us) :: (G0 + 1 + 1, 0, zW) :: L4) V → HeldS L4 V) := Lib.hid (fun us V hv x hx => hv x (List.mem_cons_of_mem _ (List.mem_cons_of_mem _ hx)))
              refine hK.out _ _ (HSS.out _ _ HS.out.kept.at0) (fun hHeldab => ?_)
              clear hK K hWa hP
              try simp only [Act.put, List.getElem_toArray, List.getElem_cons_zero, List.getElem_cons_succ, List.setIfInBounds_toArray, List.set_cons_zero, List.set_cons_succ]
              refine wpAnyH_ready (rs := [2]) (by kernel_rfl) (by simp) ?_
              refine AllReadyH.cons rfl (fun K hK => ?_) AllReadyH.nil
              go_simp
              refine (HS.out.putc HM.out (by (try simp only [List.length_append]); (try simp only [twoL_len]); have := HKL.out; omega) rfl).mono ?_
              rintro e wpg2 ⟨bg2, ng2, ag2, rfl, hs⟩
              replace HS := Lib.hid hs
              clear hs HM
              go_wp2_with fail
              refine hK.out _ _ (HSS.out _ _ HS.out.kept.at0) (fun hHeldpg2 => ?_)
              clear hK K
              try simp only [Act.put, List.getElem_toArray, List.getElem_cons_zero, List.getElem_cons_succ, List.setIfInBounds_toArray, List.set_cons_zero, List.set_cons_succ]
              refine wpAnyH_ready (rs := [5]) (by kernel_rfl) (by simp) ?_
              refine AllReadyH.cons rfl (fun K hK => ?_) AllReadyH.nil
              go_simp
              refine (HS.out.namec HTGM.out (K := KN + 16310) HKN.out (by have := HKK.out; omega)).mono ?_
              rintro e wnb ⟨b10, n10, a10, rfl, hs⟩
              replace HS := Lib.hid hs
              clear hs
              go_wp2_with fail
              refine hK.out _ _ (HSS.out _ _ HS.out.kept.at0) (fun hHeldnb => ?_)
              clear hK K
              try simp only [Act.put, List.getElem_toArray, List.getElem_cons_zero, List.getElem_cons_succ, List.setIfInBounds_toArray, List.set_cons_zero, List.set_cons_succ]
              refine wpAnyH_take (i := 6) (v := ?_) rfl (by kernel_rfl) (by kernel_rfl) (by kernel_rfl) (fun _ _ _ h => h) (Or.inl ⟨by rfl, ?_⟩) (by assumption) ?_
              rotate_left
              · (intro w hSw; go_simp; try (with_reducible rfl))
              try simp only [Act.put, List.getElem_toArray, List.getElem_cons_zero, List.getElem_cons_succ, List.setIfInBounds_toArray, List.set_cons_zero, List.set_cons_succ]
              refine wpAnyH_take (i := 7) (v := ?_) rfl (by kernel_rfl) (by kernel_rfl) (by kernel_rfl) (fun _ _ _ h => h) (Or.inl ⟨by rfl, ?_⟩) (by assumption) ?_
              rotate_left
              · (intro w hSw; go_simp; try (with_reducible rfl))
              try simp only [Act.put, List.getElem_toArray, List.getElem_cons_zero, List.getElem_cons_succ, List.setIfInBounds_toArray, List.set_cons_zero, List.set_cons_succ]
              refine wpAnyH_take (i := 8) (v := ?_) rfl (by kernel_rfl) (by kernel_rfl) (by kernel_rfl) (fun _ _ _ h => h) (Or.inl ⟨by rfl, ?_⟩) (by assumption) ?_
              rotate_left
              · (intro w hSw; go_simp; try (with_reducible rfl))
              try simp only [Act.put, List.getElem_toArray, List.getElem_cons_zero, List.getElem_cons_succ, List.setIfInBounds_toArray, List.set_cons_zero, List.set_cons_succ]
              refine wpAnyH_ready (rs := [10]) (by kernel_rfl) (by simp) ?_
              refine ready_one rfl rfl (fun K hK => ?_)
              have HC0 := Lib.hid (HS.out.cells (List.mem_cons_self ..))
              refine wp_store_W9 HC0 rfl _ _ rfl rfl rfl rfl HS.out.rows.one (fun Vy HV HVC => ?_)
              replace HS := HS.out.set HNP.out.1 HNP.out.2 [b10, n10, a10] rfl
              rw [← HV.out] at HS
              replace HS := Lib.hid HS
              refine hK.out _ _ (HSS.out _ _ HS.out.kept.at0) (fun hHeldy => ?_)
              clear hK K HC0 HV
              try simp only [Act.put, List.getElem_toArray, List.getElem_cons_zero, List.getElem_cons_succ]
              refine wpAnyH_take (i := 11) (v := ?_) rfl (by kernel_rfl) (by kernel_rfl) (by kernel_rfl) (fun _ _ _ h => h) (Or.inl ⟨by rfl, ?_⟩) (by assumption) ?_
              rotate_left
              · (intro w hSw; go_simp; try (with_reducible rfl))
              try simp only [Act.put, List.getElem_toArray, List.getElem_cons_zero, List.getElem_cons_succ, List.setIfInBounds_toArray, List.set_cons_zero, List.set_cons_succ]
              refine wpAnyH_done (by kernel_rfl) ?_ _
              refine NoPanic.normal ?_
              go_wp2_with fail
              go_meet
              case rel => exact ⟨P, b10, n10, a10, rfl, rfl, HNP, HS⟩
          · obtain ⟨P, Wa, hP, hWa, hn1, hn2, hal, hbl⟩ := HS.out.alloc_ex
            have HNP : Hid ((∀ x ∈ (G0 + 1 + 1, 0, zW) :: L4, x.1 ≠ P) ∧ w.heap.size ≤ P) := Lib.hid ⟨hn1, hn2⟩
            replace HS := Lib.hid hal
            clear hn1 hn2 hal hbl
            go_wp2_with fail
            try rw [hWa]
            try rw [hP]
            replace HSS : Hid (∀ us V, HeldS ((P, 0, us) :: (G0 + 1 + 1, 0, zW) :: L4) V → HeldS L4 V) := Lib.hid (fun us V hv x hx => hv x (List.mem_cons_of_mem _ (List.mem_cons_of_mem _ hx)))
            refine hK.out _ _ (HSS.out _ _ HS.out.kept.at0) (fun hHeldaa => ?_)
            clear hK K hWa hP
            try simp only [Act.put, List.getElem_toArray, List.getElem_cons_zero, List.getElem_cons_succ, List.setIfInBounds_toArray, List.set_cons_zero, List.set_cons_succ]
            have HTW := Lib.hid (HS.out.twoc (n := 0) (by decide))
            rw [show ((0 : Nat) : Int) = (0 : Int) by rfl] at HTW
            refine wpAnyH_ready (rs := [1]) (by kernel_rfl) (by simp) ?_
            refine AllReadyH.cons rfl (fun K hK => ?_) AllReadyH.nil
            go_simp
            refine HTW.out.mono ?_
            rintro e wtg1 ⟨rfl, hm, hs⟩
            have HM := Lib.hid hm
            replace HS := Lib.hid hs
            clear hm hs HTW
            go_wp2_with fail
            refine hK.out _ _ (HSS.out _ _ HS.out.kept.at0) (fun hHeldtg1 => ?_)
            clear hK K
            try simp only [Act.put, List.getElem_toArray, List.getElem_cons_zero, List.getElem_cons_succ, List.setIfInBounds_toArray, List.set_cons_zero, List.set_cons_succ]
            refine wpAnyH_ready (rs := [2]) (by kernel_rfl) (by simp) ?_
            refine AllReadyH.cons rfl (fun K hK => ?_) AllReadyH.nil
            go_simp
            refine (HS.out.putc HM.out (by (try simp only [List.length_append]); (try simp only [twoL_len]); have := HKL.out; omega) rfl).mono ?_
            rintro e wpg2 ⟨bg2, ng2, ag2, rfl, hs⟩
            replace HS := Lib.hid hs
            clear hs HM
            go_wp2_with fail
            refine hK.out _ _ (HSS.out _ _ HS.out.kept.at0) (fun hHeldpg2 => ?_)
            clear hK K
            try simp only [Act.put, List.getElem_toArray, List.getElem_cons_zero, List.getElem_cons_succ, List.setIfInBounds_toArray, List.set_cons_zero, List.set_cons_succ]
            refine wpAnyH_ready (rs := [5]) (by kernel_rfl) (by simp) ?_
            refine AllReadyH.cons rfl (fun K hK => ?_) AllReadyH.nil
            go_simp
            refine (HS.out.namec HTGM.out (K := KN + 16310) HKN.out (by have := HKK.out; omega)).mono ?_
            rintro e wna ⟨b10, n10, a10, rfl, hs⟩
            replace HS := Lib.hid hs
            clear hs
            go_wp2_with fail
            refine hK.out _ _ (HSS.out _ _ HS.out.kept.at0) (fun hHeldna => ?_)
            clear hK K
            try simp only [Act.put, List.getElem_toArray, List.getElem_cons_zero, List.getElem_cons_succ, List.setIfInBounds_toArray, List.set_cons_zero, List.set_cons_succ]
            refine wpAnyH_take (i := 6) (v := ?_) rfl (by kernel_rfl) (by kernel_rfl) (by kernel_rfl) (fun _ _ _ h => h) (Or.inl ⟨by rfl, ?_⟩) (by assumption) ?_
            rotate_left
            · (intro w hSw; go_simp; try (with_reducible rfl))
            try simp only [Act.put, List.getElem_toArray, List.getElem_cons_zero, List.getElem_cons_succ, List.setIfInBounds_toArray, List.set_cons_zero, List.set_cons_succ]
            refine wpAnyH_take (i := 7) (v := ?_) rfl (by kernel_rfl) (by kernel_rfl) (by kernel_rfl) (fun _ _ _ h => h) (Or.inl ⟨by rfl, ?_⟩) (by assumption) ?_
            rotate_left
            · (intro w hSw; go_simp; try (with_reducible rfl))
            try simp only [Act.put, List.getElem_toArray, List.getElem_cons_zero, List.getElem_cons_succ, List.setIfInBounds_toArray, List.set_cons_zero, List.set_cons_succ]
            refine wpAnyH_take (i := 8) (v := ?_) rfl (by kernel_rfl) (by kernel_rfl) (by kernel_rfl) (fun _ _ _ h => h) (Or.inl ⟨by rfl, ?_⟩) (by assumption) ?_
            rotate_left
            · (intro w hSw; go_simp; try (with_reducible rfl))
            try simp only [Act.put, List.getElem_toArray, List.getElem_cons_zero, List.getElem_cons_succ, List.setIfInBounds_toArray, List.set_cons_zero, List.set_cons_succ]
            refine wpAnyH_ready (rs := [10]) (by kernel_rfl) (by simp) ?_
            refine ready_one rfl rfl (fun K hK => ?_)
            have HC0 := Lib.hid (HS.out.cells (List.mem_cons_self ..))
            refine wp_store_W9 HC0 rfl _ _ rfl rfl rfl rfl HS.out.rows.one (fun Vy HV HVC => ?_)
            replace HS := HS.out.set HNP.out.1 HNP.out.2 [b10, n10, a10] rfl
            rw [← HV.out] at HS
            replace HS := Lib.hid HS
            refine hK.out _ _ (HSS.out _ _ HS.out.kept.at0) (fun hHeldy => ?_)
            clear hK K HC0 HV
            try simp only [Act.put, List.getElem_toArray, List.getElem_cons_zero, List.getElem_cons_succ]
            refine wpAnyH_take (i := 11) (v := ?_) rfl (by kernel_rfl) (by kernel_rfl) (by kernel_rfl) (fun _ _ _ h => h) (Or.inl ⟨by rfl, ?_⟩) (by assumption) ?_
            rotate_left
            · (intro w hSw; go_simp; try (with_reducible rfl))
            try simp only [Act.put, List.getElem_toArray, List.getElem_cons_zero, List.getElem_cons_succ, List.setIfInBounds_toArray, List.set_cons_zero, List.set_cons_succ]
            refine wpAnyH_done (by kernel_rfl) ?_ _
            refine NoPanic.normal ?_
            go_wp2_with fail
            go_meet
            case rel => exact ⟨P, b10, n10, a10, rfl, rfl, HNP, HS⟩
        case rest =>
          obtain ⟨P, b10, n10, a10, rfl, rfl, HNP, HS⟩ := hcut
          have HBN : Hid ((nmT tg (T2.1 ++ twoL 0).length T2.2.1 T2.2.2).1.length ≤ 16300) := Lib.hid (nmT_is HTGM.out _ _ _).len
          obtain ⟨T3, hT3⟩ : ∃ T : Wst, (T2.1 ++ twoL 0 ++ (nmT tg (T2.1 ++ twoL 0).length T2.2.1 T2.2.2).1, (nmT tg (T2.1 ++ twoL 0).length T2.2.1 T2.2.2).2) = T := ⟨_, rfl⟩
          rw [hT3] at HS
          have HS0 := HS
          have HT3 := Lib.hid hT3.symm
          have hl3 : T3.1.length = T2.1.length + 2 + (nmT tg (T2.1 ++ twoL 0).length T2.2.1 T2.2.2).1.length := by rw [← hT3]; simp only [List.length_append, twoL_len]
          obtain ⟨ln, hln⟩ : ∃ ln, (nmT tg (T2.1 ++ twoL 0).length T2.2.1 T2.2.2).1.length = ln := ⟨_, rfl⟩
          rw [hln] at hl3 HBN
          have HLN := Lib.hid hln
          obtain ⟨g, yc, hxc⟩ := own_some HS.out.rows.rb (by omega)
          subst hxc
          obtain ⟨N3, hN3⟩ : ∃ N, T3.1.length = N := ⟨_, rfl⟩
          rw [hN3] at HS HS0 hl3
          have HN3 := Lib.hid hN3
          have c0 : wc.cell? ⟨P, 0, none⟩ = some (.slice (some ⟨g, 0, none⟩) N3 yc) := HS.out.kept.at0 _ (List.mem_cons_self ..) 0 _ rfl
          have HL3 := Lib.hid hl3
          clear hT3 hln hN3
          obtain ⟨N2, hN2⟩ : ∃ N, T2.1.length = N := ⟨_, rfl⟩
          have HN2 := Lib.hid hN2
          rw [hN2]
          rw [hN2] at HL3 hl3
          clear hN2 hl3
          have HTW := Lib.hid (HS.out.twoc (n := ln) (by have := HBN.out; omega))
          rw [show ((ln : Nat) : Int) = wrap64 (wrap64 ((N3 : Int) - (N2 : Int)) - 2) by (have h1 := HL3.out; have h2 := HBN.out; have h3 := HKL.out; have h4 := HN2.out; simp only [wrap64]; omega)] at HTW
          go_wp2_with fail
          refine HTW.out.mono ?_
          rintro e wn ⟨rfl, hm, hs⟩
          obtain ⟨z0, z1⟩ := two_cells hm
          have HS := Lib.hid hs
          have hPn : wc.heap.size ≠ g := (Nat.ne_of_lt (HS0.out.rows.rb.lt g rfl).2).symm
          clear hm hs HTW
          obtain ⟨Pn, hpn⟩ : ∃ Pn, wc.heap.size = Pn := ⟨_, rfl⟩
          rw [hpn] at z0 z1 hPn
          try rw [hpn]
          clear hpn HS0 c0
          obtain ⟨x0, hx0⟩ : ∃ x, UInt8.ofNat (ln / 256) = x := ⟨_, rfl⟩
          obtain ⟨x1, hx1⟩ : ∃ x, UInt8.ofNat (ln % 256) = x := ⟨_, rfl⟩
          rw [hx0] at z0
          rw [hx1] at z1
          have HX01 := Lib.hid (And.intro hx0 hx1)
          clear hx0 hx1
          have hPg : P ≠ g := fun e => HS.out.kept.off _ (List.mem_cons_self ..) (by simp only; rw [e]; exact mem_blk3.2 (.inl rfl))
          obtain ⟨S, hS⟩ : ∃ S : World → Prop, (fun V : World => V.cell? ⟨P, 0, none⟩ = some (.slice (some ⟨g, 0, none⟩) N3 yc) ∧ V.cell? ⟨Pn, 0, none⟩ = some (.int .u8 (x0.toNat : Int)) ∧ V.cell? ⟨Pn, 1, none⟩ = some (.int .u8 (x1.toNat : Int))) = S := ⟨_, rfl⟩
          have D0 : Hid (∀ V, S V → V.cell? ⟨P, 0, none⟩ = some (.slice (some ⟨g, 0, none⟩) N3 yc)) := Lib.hid (fun V h => by rw [← hS] at h; exact h.1)
          have D1 : Hid (∀ V, S V → V.cell? ⟨Pn, 0, none⟩ = some (.int .u8 (x0.toNat : Int))) := Lib.hid (fun V h => by rw [← hS] at h; exact h.2.1)
          have D2 : Hid (∀ V, S V → V.cell? ⟨Pn, 1, none⟩ = some (.int .u8 (x1.toNat : Int))) := Lib.hid (fun V h => by rw [← hS] at h; exact h.2.2)
          have HSG : Hid (∀ V, S V → ∀ i v, S (V.setCell ⟨g, i, none⟩ v)) := Lib.hid (fun V h i v => by
            rw [← hS] at h ⊢
            exact ⟨(World.cell?_setCell_other _ _ _ _ (by intro e; injection e with e1 _ _; exact hPg e1.symm)).trans h.1, (World.cell?_setCell_other _ _ _ _ (by intro e; injection e with e1 _ _; exact hPn e1.symm)).trans h.2.1, (World.cell?_setCell_other _ _ _ _ (by intro e; injection e with e1 _ _; exact hPn e1.symm)).trans h.2.2⟩)
          have HSD : Hid (∀ V, S V → S V.drew) := Lib.hid (fun V h => by rw [← hS] at h ⊢; exact h)
          have hSd : S wn.drew := by rw [← hS]; exact ⟨HS.out.kept.at0 _ (List.mem_cons_self ..) 0 _ rfl, z0, z1⟩
          clear hS z0 z1 hPg hPn
          have hb1 : (0 : Int) ≤ (N2 : Int) := by omega
          have hb2 : (N2 : Int) < (N3 : Int) := by have := HL3.out; omega
          obtain ⟨M2, hM2⟩ : ∃ M, N2 + 1 = M := ⟨_, rfl⟩
          have HM2 := Lib.hid hM2
          have hw2 : IntKind.i64.wrap ((N2 : Int) + 1) = (M2 : Int) := by have h1 := HN2.out; have h2 := HKL.out; rw [IntKind.wrap_i64]; omega
          have hb3 : (0 : Int) ≤ (M2 : Int) := by omega
          have hb4 : (M2 : Int) < (N3 : Int) := by have := HL3.out; omega
          clear hM2
          have HS := Lib.hid HS.out.drew
          go_upto_region 12 with fail
          refine wp_region_noPanic ?_
          refine wp_region_held_drew (S := S) (by kernel_rfl) hSd (fun hHeld => ?_)
          obtain ⟨U12, hU12⟩ : ∃ U, wn.drew = U := ⟨_, rfl⟩
          rw [hU12] at HS hHeld ⊢
          clear hSd hU12
          refine wpAnyH_take (i := 0) (v := ?_) rfl (by kernel_rfl) (by kernel_rfl) (by kernel_rfl) (fun _ _ _ h => h) (Or.inl ⟨by rfl, ?_⟩) (by assumption) ?_
          rotate_left
          · (intro w hSw; go_simp; try (with_reducible rfl))
          try simp only [Act.put, List.getElem_toArray, List.getElem_cons_zero, List.setIfInBounds_toArray, List.set_cons_zero, List.set_cons_succ]
          refine wpAnyH_take (i := 1) (v := ?_) rfl (by kernel_rfl) (by kernel_rfl) (by kernel_rfl) (fun _ _ _ h => h) (Or.inl ⟨by rfl, ?_⟩) (by assumption) ?_
          rotate_left
          · (intro w hSw; have hc0 := D0.out w hSw; go_simp; try (with_reducible rfl))
          try simp only [Act.put, List.getElem_toArray, List.getElem_cons_zero, List.getElem_cons_succ, List.setIfInBounds_toArray, List.set_cons_zero, List.set_cons_succ]
          refine wpAnyH_take (i := 2) (v := ?_) rfl (by kernel_rfl) (by kernel_rfl) (by kernel_rfl) (fun _ _ _ h => h) (Or.inl ⟨by rfl, ?_⟩) (by assumption) ?_
          rotate_left
          · (intro w hSw; go_simp; try (with_reducible rfl))
          try simp only [Act.put, List.getElem_toArray, List.getElem_cons_zero, List.getElem_cons_succ, List.setIfInBounds_toArray, List.set_cons_zero, List.set_cons_succ]
          refine wpAnyH_take (i := 3) (v := ?_) rfl (by kernel_rfl) (by kernel_rfl) (by kernel_rfl) (fun _ _ _ h => h) (Or.inl ⟨by rfl, ?_⟩) (by assumption) ?_
          rotate_left
          · (intro w hSw; go_simp; try (with_reducible rfl))
          try simp only [Act.put, List.getElem_toArray, List.getElem_cons_zero, List.getElem_cons_succ, List.setIfInBounds_toArray, List.set_cons_zero, List.set_cons_succ]
          refine wpAnyH_take (i := 4) (v := ?_) rfl (by kernel_rfl) (by kernel_rfl) (by kernel_rfl) (fun _ _ _ h => h) (Or.inl ⟨by rfl, ?_⟩) (by assumption) ?_
          rotate_left
          · (intro w hSw; go_simp; try (with_reducible rfl))
          try simp only [Act.put, List.getElem_toArray, List.getElem_cons_zero, List.getElem_cons_succ, List.setIfInBounds_toArray, List.set_cons_zero, List.set_cons_succ]
          refine wpAnyH_take (i := 5) (v := ?_) rfl (by kernel_rfl) (by kernel_rfl) (by kernel_rfl) (fun _ _ _ h => h) (Or.inl ⟨by rfl, ?_⟩) (by assumption) ?_
          rotate_left
          · (intro w hSw; have hc0 := D1.out w hSw; go_simp; try (with_reducible rfl))
          try simp only [Act.put, List.getElem_toArray, List.getElem_cons_zero, List.getElem_cons_succ, List.setIfInBounds_toArray, List.set_cons_zero, List.set_cons_succ]
          refine wpAnyH_take (i := 6) (v := ?_) rfl (by kernel_rfl) (by kernel_rfl) (by kernel_rfl) (fun _ _ _ h => h) (Or.inl ⟨by rfl, ?_⟩) (by assumption) ?_
          rotate_left
          · (intro w hSw; go_simp; try (with_reducible rfl))
          try simp only [Act.put, List.getElem_toArray, List.getElem_cons_zero, List.getElem_cons_succ, List.setIfInBounds_toArray, List.set_cons_zero, List.set_cons_succ]
          obtain ⟨hs2, hf2, vv, hc2⟩ := HS.out.setB (i := N2) x0 (by rw [HN3.out]; have := HL3.out; omega)
          have HS2 := Lib.hid hs2
          clear hs2
          refine wpAnyH_ready (rs := [7]) (by kernel_rfl) (by simp) ?_
          refine ready_one rfl rfl (fun K hK => ?_)
          go_wp2_with fail
          refine hK.out _ _ (HSG.out _ hHeld _ _) (fun hHeld2 => ?_)
          clear hK K hf2 hc2
          try simp only [Act.put, List.getElem_toArray, List.getElem_cons_zero, List.getElem_cons_succ]
          refine wpAnyH_done (by kernel_rfl) ?_ _
          refine NoPanic.normal ?_
          obtain ⟨V12, hV12⟩ : ∃ V, U12.setCell ⟨g, N2, none⟩ (.int .u8 (x0.toNat : Int)) = V := ⟨_, rfl⟩
          rw [hV12] at HS2 hHeld2
          try rw [hV12]
          clear hV12 hHeld D1 hb1 hb2
          replace HS2 := Lib.hid HS2.out.drew
          have hSd : S V12.drew := HSD.out _ hHeld2
          go_upto_region 13 with fail
          refine wp_region_noPanic ?_
          refine wp_region_held_drew (S := S) (by kernel_rfl) hSd (fun hHeld => ?_)
          obtain ⟨U13, hU13⟩ : ∃ U, V12.drew = U := ⟨_, rfl⟩
          rw [hU13] at HS2 hHeld ⊢
          clear hSd hU13 hHeld2
          refine wpAnyH_take (i := 0) (v := ?_) rfl (by kernel_rfl) (by kernel_rfl) (by kernel_rfl) (fun _ _ _ h => h) (Or.inl ⟨by rfl, ?_⟩) (by assumption) ?_
          rotate_left
          · (intro w hSw; go_simp; try (with_reducible rfl))
          try simp only [Act.put, List.getElem_toArray, List.getElem_cons_zero, List.setIfInBounds_toArray, List.set_cons_zero, List.set_cons_succ]
          refine wpAnyH_take (i := 1) (v := ?_) rfl (by kernel_rfl) (by kernel_rfl) (by kernel_rfl) (fun _ _ _ h => h) (Or.inl ⟨by rfl, ?_⟩) (by assumption) ?_
          rotate_left
          · (intro w hSw; have hc0 := D0.out w hSw; go_simp; try (with_reducible rfl))
          try simp only [Act.put, List.getElem_toArray, List.getElem_cons_zero, List.getElem_cons_succ, List.setIfInBounds_toArray, List.set_cons_zero, List.set_cons_succ]
          refine wpAnyH_take (i := 2) (v := ?_) rfl (by kernel_rfl) (by kernel_rfl) (by kernel_rfl) (fun _ _ _ h => h) (Or.inl ⟨by rfl, ?_⟩) (by assumption) ?_
          rotate_left
          · (intro w hSw; go_simp; try (with_reducible rfl))
          try simp only [Act.put, List.getElem_toArray, List.getElem_cons_zero, List.getElem_cons_succ, List.setIfInBounds_toArray, List.set_cons_zero, List.set_cons_succ]
          refine wpAnyH_take (i := 3) (v := ?_) rfl (by kernel_rfl) (by kernel_rfl) (by kernel_rfl) (fun _ _ _ h => h) (Or.inl ⟨by rfl, ?_⟩) (by assumption) ?_
          rotate_left
          · (intro w hSw; go_simp; try (with_reducible rfl))
          try simp only [Act.put, List.getElem_toArray, List.getElem_cons_zero, List.getElem_cons_succ, List.setIfInBounds_toArray, List.set_cons_zero, List.set_cons_succ]
          refine wpAnyH_take (i := 4) (v := ?_) rfl (by kernel_rfl) (by kernel_rfl) (by kernel_rfl) (fun _ _ _ h => h) (Or.inl ⟨by rfl, ?_⟩) (by assumption) ?_
          rotate_left
          · (intro w hSw; go_simp; try (with_reducible rfl))
          try simp only [Act.put, List.getElem_toArray, List.getElem_cons_zero, List.getElem_cons_succ, List.setIfInBounds_toArray, List.set_cons_zero, List.set_cons_succ]
          refine wpAnyH_take (i := 5) (v := ?_) rfl (by kernel_rfl) (by kernel_rfl) (by kernel_rfl) (fun _ _ _ h => h) (Or.inl ⟨by rfl, ?_⟩) (by assumption) ?_
          rotate_left
          · (intro w hSw; go_simp; try (with_reducible rfl))
          try simp only [Act.put, List.getElem_toArray, List.getElem_cons_zero, List.getElem_cons_succ, List.setIfInBounds_toArray, List.set_cons_zero, List.set_cons_succ]
          refine wpAnyH_take (i := 6) (v := ?_) rfl (by kernel_rfl) (by kernel_rfl) (by kernel_rfl) (fun _ _ _ h => h) (Or.inl ⟨by rfl, ?_⟩) (by assumption) ?_
          rotate_left
          · (intro w hSw; have hc0 := D2.out w hSw; go_simp; try (with_reducible rfl))
          try simp only [Act.put, List.getElem_toArray, List.getElem_cons_zero, List.getElem_cons_succ, List.setIfInBounds_toArray, List.set_cons_zero, List.set_cons_succ]
          refine wpAnyH_take (i := 7) (v := ?_) rfl (by kernel_rfl) (by kernel_rfl) (by kernel_rfl) (fun _ _ _ h => h) (Or.inl ⟨by rfl, ?_⟩) (by assumption) ?_
          rotate_left
          · (intro w hSw; go_simp; try (with_reducible rfl))
          try simp only [Act.put, List.getElem_toArray, List.getElem_cons_zero, List.getElem_cons_succ, List.setIfInBounds_toArray, List.set_cons_zero, List.set_cons_succ]
          obtain ⟨hs3, hf3, vv3, hc3⟩ := HS2.out.setB (i := M2) x1 (by simp only [List.length_set]; rw [HN3.out]; have := HL3.out; have := HM2.out; omega)
          have HS3 := Lib.hid hs3
          clear hs3
          refine wpAnyH_ready (rs := [8]) (by kernel_rfl) (by simp) ?_
          refine ready_one rfl rfl (fun K hK => ?_)
          go_wp2_with fail
          refine hK.out _ _ (HSG.out _ hHeld _ _) (fun hHeld3 => ?_)
          clear hK K hf3 hc3
          try simp only [Act.put, List.getElem_toArray, List.getElem_cons_zero, List.getElem_cons_succ]
          refine wpAnyH_done (by kernel_rfl) ?_ _
          refine NoPanic.normal ?_
          obtain ⟨V13, hV13⟩ : ∃ V, U13.setCell ⟨g, M2, none⟩ (.int .u8 (x1.toNat : Int)) = V := ⟨_, rfl⟩
          rw [hV13] at HS3 hHeld3
          try rw [hV13]
          clear hV13 hHeld hHeld3 D0 D2 HSG HSD hb3 hb4 hw2
          have HLP := Lib.hid (HS3.out.kept.at0 _ (List.mem_cons_self ..))
          replace HS := Lib.hid (HS3.out.sub (L' := (G0 + 1 + 1, 0, zW) :: L4) (fun x hx => List.mem_cons_of_mem _ hx))
          have HC2 := Lib.hid (HS.out.cells (List.mem_cons_self ..))
          have HOW := HS.out.rows.one
          clear HS2 HS3
          go_wp2_with (first | refine load_W9r HLP rfl _ rfl rfl rfl ?_ | (refine store_W9 HC2 rfl _ _ rfl rfl rfl rfl rfl HOW (fun V14 HV HVC => ?_)))
          replace HS := HS.out.set HN0.out (by have := HG0.out; omega) [.slice (some ⟨g, 0, none⟩) N3 yc, n10, a10] rfl
          rw [← HV.out] at HS
          have hd : daR t r = (nmT tg (T2.1 ++ twoL 0).length T2.2.1 T2.2.2) := by
            rw [daR_5 (by rw [HR.out]; simp only; have := HTY.out; omega), HAT.out.1, HAT.out.2, HR.out, List.length_append, twoL_len]
          have hfin : rW t r = ((T3.1.set N2 x0).set M2 x1, T3.2) := by
            rw [HRW.out _ hd, HLN.out, ← HX01.out.1, ← HX01.out.2, HT3.out, ← HM2.out, ← HN2.out]
            have h := patch_mid T2.1 (nmT tg (T2.1 ++ twoL 0).length T2.2.1 T2.2.2).1 ln
            unfold patch at h
            rw [← h]
            rfl
          refine bodyPost_ret (results_W9 Try.results36 rfl HVC.out rfl) rfl ?_
          rw [hfin]
          exact HS.ret
      · have tb3 : ((ty : Int) != 5) = true := by rw [bne_iff_ne]; omega
        go_upto_region 8 with fail
        clear ht
        replace HS := Lib.hid HS.out.drew
        refine wp_region_noPanic ?_
        refine wp_region_held_drew (S := HeldS L4) (by kernel_rfl) (HSS.out _ _ HS.out.kept.at0) (fun hHeld => ?_)
        generalize Va.drew = U8 at *
        have CD : Hid (∀ V, HeldS L4 V → V.cell? ⟨G0 + 1, 22, none⟩ = some (.string da)) := Lib.hid (fun V hv => (HRC.out V hv).2.2.2)
        refine wpAnyH_take (i := 0) rfl (by kernel_rfl) (by kernel_rfl) (by kernel_rfl) (fun _ _ _ h => h) (yields_W9 HI0 (by rfl) _ rfl rfl) (by assumption) ?_
        try simp only [Act.put, List.getElem_toArray, List.getElem_cons_zero, List.setIfInBounds_toArray, List.set_cons_zero, List.set_cons_succ]
        refine wpAnyH_take (i := 1) (v := ?_) rfl (by kernel_rfl) (by kernel_rfl) (by kernel_rfl) (fun _ _ _ h => h) (Or.inl ⟨by rfl, ?_⟩) (by assumption) ?_
        rotate_left
        · (intro w hSw; go_simp; try (with_reducible rfl))
        try simp only [Act.put, List.getElem_toArray, List.getElem_cons_zero, List.getElem_cons_succ, List.setIfInBounds_toArray, List.set_cons_zero, List.set_cons_succ]
        refine wpAnyH_take (i := 2) (v := ?_) rfl (by kernel_rfl) (by kernel_rfl) (by kernel_rfl) (fun _ _ _ h => h) (Or.inl ⟨by rfl, ?_⟩) (by assumption) ?_
        rotate_left
        · (intro w hSw; have hc0 := CD.out w hSw; go_simp; try (with_reducible rfl))
        try simp only [Act.put, List.getElem_toArray, List.getElem_cons_zero, List.getElem_cons_succ, List.setIfInBounds_toArray, List.set_cons_zero, List.set_cons_succ]
        refine wpAnyH_take (i := 3) (v := ?_) rfl (by kernel_rfl) (by kernel_rfl) (by kernel_rfl) (fun _ _ _ h => h) (Or.inl ⟨by rfl, ?_⟩) (by assumption) ?_
        rotate_left
        · (intro w hSw; go_simp; try (with_reducible rfl))
        try simp only [Act.put, List.getElem_toArray, List.getElem_cons_zero, List.getElem_cons_succ, List.setIfInBounds_toArray, List.set_cons_zero, List.set_cons_succ]
        refine wpAnyH_take (i := 6) (v := ?_) rfl (by kernel_rfl) (by kernel_rfl) (by kernel_rfl) (fun _ _ _ h => h) (Or.inl ⟨by rfl, ?_⟩) (by assumption) ?_
        rotate_left
        · (intro w hSw; go_simp; try (with_reducible rfl))
        try simp only [Act.put, List.getElem_toArray, List.getElem_cons_zero, List.getElem_cons_succ, List.setIfInBounds_toArray, List.set_cons_zero, List.set_cons_succ]
        refine wpAnyH_take (i := 7) (v := ?_) rfl (by kernel_rfl) (by kernel_rfl) (by kernel_rfl) (fun _ _ _ h => h) (Or.inl ⟨by rfl, ?_⟩) (by assumption) ?_
        rotate_left
        · (intro w hSw; have hc0 := CD.out w hSw; go_simp; try (with_reducible rfl))
        try simp only [Act.put, List.getElem_toArray, List.getElem_cons_zero, List.getElem_cons_succ, List.setIfInBounds_toArray, List.set_cons_zero, List.set_cons_succ]
        refine wpAnyH_ready (rs := [4, 8]) (by kernel_rfl) (by simp) ?_
        refine AllReadyH.cons rfl (fun K hK => ?_) (ready_one rfl rfl (fun K hK => ?_))
        · have HTW := Lib.hid (HS.out.twoc (n := da.size) (by have := HNUM.out; omega))
          go_simp
          refine HTW.out.mono ?_
          rintro e wte4 ⟨rfl, hm, hs⟩
          have HM := Lib.hid hm
          replace HS := Lib.hid hs
          clear hm hs HTW
          go_wp2_with fail
          refine hK.out _ _ (HSS.out _ _ HS.out.kept.at0) (fun hHeldte4 => ?_)
          clear hK K
          try simp only [Act.put, List.getElem_toArray, List.getElem_cons_zero, List.getElem_cons_succ, List.setIfInBounds_toArray, List.set_cons_zero, List.set_cons_succ]
          refine wpAnyH_ready (rs := [5, 8]) (by kernel_rfl) (by simp) ?_
          refine AllReadyH.cons rfl (fun K hK => ?_) (ready_one rfl rfl (fun K hK => ?_))
          · go_simp
            refine (HS.out.putc HM.out (by (try simp only [List.length_append]); (try simp only [twoL_len]); have := HKL.out; omega) rfl).mono ?_
            rintro e wpe5 ⟨be5, ne5, ae5, rfl, hs⟩
            replace HS := Lib.hid hs
            clear hs HM
            go_wp2_with fail
            refine hK.out _ _ (HSS.out _ _ HS.out.kept.at0) (fun hHeldpe5 => ?_)
            clear hK K
            try simp only [Act.put, List.getElem_toArray, List.getElem_cons_zero, List.getElem_cons_succ, List.setIfInBounds_toArray, List.set_cons_zero, List.set_cons_succ]
            refine wpAnyH_ready (rs := [8]) (by kernel_rfl) (by simp) ?_
            refine ready_one rfl rfl (fun K hK => ?_)
            obtain ⟨P, Wcc, capc, hconv, hcap1, hcap2, hPn, hcv, hbl⟩ := HS.out.conv_ex da (by have := HNUM.out.2.2.2; unfold maxLen; omega)
            have HCAP : Hid (da.size ≤ capc ∧ capc ≤ maxLen) := Lib.hid ⟨hcap1, hcap2⟩
            replace HS := Lib.hid hcv
            replace HN0 : Hid (∀ x ∈ (P, 0, bys da.data.toList) :: L4, x.1 ≠ G0 + 1 + 1) := Lib.hid (fun x hx => by rcases List.mem_cons.1 hx with rfl | hx; (exact hPn); exact HN0.out x hx)
            replace HSS : Hid (∀ us V, HeldS ((G0 + 1 + 1, 0, us) :: (P, 0, bys da.data.toList) :: L4) V → HeldS L4 V) := Lib.hid (fun us V hv x hx => hv x (List.mem_cons_of_mem _ (List.mem_cons_of_mem _ hx)))
            clear hcap1 hcap2 hPn hcv hbl
            go_wp2_with fail
            refine hK.out _ _ (HSS.out _ _ HS.out.kept.at0) (fun hHeldcc => ?_)
            clear hK K hconv
            try simp only [Act.put, List.getElem_toArray, List.getElem_cons_zero, List.getElem_cons_succ, List.setIfInBounds_toArray, List.set_cons_zero, List.set_cons_succ]
            have HM := Lib.hid (bytes_of_held (c := capc) (HS.out.kept.at0 (P, 0, bys da.data.toList) (by simp)) (by rw [data_size]; exact HCAP.out.1) HCAP.out.2)
            refine wpAnyH_ready (rs := [9]) (by kernel_rfl) (by simp) ?_
            refine AllReadyH.cons rfl (fun K hK => ?_) AllReadyH.nil
            go_simp
            refine (HS.out.putc HM.out (by (try simp only [List.length_append]); (try simp only [twoL_len]); (try simp only [data_size]); have := HKL.out; have := HNUM.out; omega) (data_size da)).mono ?_
            rintro e w9 ⟨b9, n9, a9, rfl, hs⟩
            replace HS := Lib.hid hs
            clear hs HM
            go_wp2_with fail
            refine hK.out _ _ (HSS.out _ _ HS.out.kept.at0) (fun hHeldd9 => ?_)
            clear hK K
            try simp only [Act.put, List.getElem_toArray, List.getElem_cons_zero, List.getElem_cons_succ, List.setIfInBounds_toArray, List.set_cons_zero, List.set_cons_succ]
            refine wpAnyH_ready (rs := [10]) (by kernel_rfl) (by simp) ?_
            refine ready_one rfl rfl (fun K hK => ?_)
            have HC0 := Lib.hid (HS.out.cells (List.mem_cons_self ..))
            refine wp_store_W9 HC0 rfl _ _ rfl rfl rfl rfl HS.out.rows.one (fun Vz HV HVC => ?_)
            replace HS := HS.out.set HN0.out (by have := HG0.out; omega) [b9, n9, a9] rfl
            rw [← HV.out] at HS
            replace HS := Lib.hid HS
            refine hK.out _ _ (HSS.out _ _ HS.out.kept.at0) (fun hHeldz => ?_)
            clear hK K HC0 HV
            try simp only [Act.put, List.getElem_toArray, List.getElem_cons_zero, List.getElem_cons_succ]
            refine wpAnyH_done (by kernel_rfl) ?_ _
            refine NoPanic.normal ?_
            go_wp2_with fail
            have hrw := HRW.out (da.data.toList, T2.2) (by rw [daR_o (by rw [HR.out]; simp only; omega) (by rw [HR.out]; simp only; omega) (by rw [HR.out]; simp only; omega), HAT.out.2, HR.out])
            refine bodyPost_ret (results_W9 Try.results36 rfl HVC.out rfl) rfl ?_
            have h2 := HS.out.ret
            rw [hrw]
            simp only [data_size]
            exact h2
          · obtain ⟨P, Wcb, capc, hconv, hcap1, hcap2, hPn, hcv, hbl⟩ := HS.out.conv_ex da (by have := HNUM.out.2.2.2; unfold maxLen; omega)
            have HCAP : Hid (da.size ≤ capc ∧ capc ≤ maxLen) := Lib.hid ⟨hcap1, hcap2⟩
            replace HS := Lib.hid hcv
            replace HN0 : Hid (∀ x ∈ (P, 0, bys da.data.toList) :: L4, x.1 ≠ G0 + 1 + 1) := Lib.hid (fun x hx => by rcases List.mem_cons.1 hx with rfl | hx; (exact hPn); exact HN0.out x hx)
            replace HSS : Hid (∀ us V, HeldS ((G0 + 1 + 1, 0, us) :: (P, 0, bys da.data.toList) :: L4) V → HeldS L4 V) := Lib.hid (fun us V hv x hx => hv x (List.mem_cons_of_mem _ (List.mem_cons_of_mem _ hx)))
            replace HM := Lib.hid (HM.out.below hbl)
            clear hcap1 hcap2 hPn hcv hbl
            go_wp2_with fail
            refine hK.out _ _ (HSS.out _ _ HS.out.kept.at0) (fun hHeldcb => ?_)
            clear hK K hconv
            try simp only [Act.put, List.getElem_toArray, List.getElem_cons_zero, List.getElem_cons_succ, List.setIfInBounds_toArray, List.set_cons_zero, List.set_cons_succ]
            refine wpAnyH_ready (rs := [5]) (by kernel_rfl) (by simp) ?_
            refine AllReadyH.cons rfl (fun K hK => ?_) AllReadyH.nil
            go_simp
            refine (HS.out.putc HM.out (by (try simp only [List.length_append]); (try simp only [twoL_len]); have := HKL.out; omega) rfl).mono ?_
            rintro e wpe5 ⟨be5, ne5, ae5, rfl, hs⟩
            replace HS := Lib.hid hs
            clear hs HM
            go_wp2_with fail
            refine hK.out _ _ (HSS.out _ _ HS.out.kept.at0) (fun hHeldpe5 => ?_)
            clear hK K
            try simp only [Act.put, List.getElem_toArray, List.getElem_cons_zero, List.getElem_cons_succ, List.setIfInBounds_toArray, List.set_cons_zero, List.set_cons_succ]
            have HM := Lib.hid (bytes_of_held (c := capc) (HS.out.kept.at0 (P, 0, bys da.data.toList) (by simp)) (by rw [data_size]; exact HCAP.out.1) HCAP.out.2)
            refine wpAnyH_ready (rs := [9]) (by kernel_rfl) (by simp) ?_
            refine AllReadyH.cons rfl (fun K hK => ?_) AllReadyH.nil
            go_simp
            refine (HS.out.putc HM.out (by (try simp only [List.length_append]); (try simp only [twoL_len]); (try simp only [data_size]); have := HKL.out; have := HNUM.out; omega) (data_size da)).mono ?_
            rintro e w9 ⟨b9, n9, a9, rfl, hs⟩
            replace HS := Lib.hid hs
            clear hs HM
            go_wp2_with fail
            refine hK.out _ _ (HSS.out _ _ HS.out.kept.at0) (fun hHeldd9 => ?_)
            clear hK K
            try simp only [Act.put, List.getElem_toArray, List.getElem_cons_zero, List.getElem_cons_succ, List.setIfInBounds_toArray, List.set_cons_zero, List.set_cons_succ]
            refine wpAnyH_ready (rs := [10]) (by kernel_rfl) (by simp) ?_
            refine ready_one rfl rfl (fun K hK => ?_)
            have HC0 := Lib.hid (HS.out.cells (List.mem_cons_self ..))
            refine wp_store_W9 HC0 rfl _ _ rfl rfl rfl rfl HS.out.rows.one (fun Vz HV HVC => ?_)
            replace HS := HS.out.set HN0.out (by have := HG0.out; omega) [b9, n9, a9] rfl
            rw [← HV.out] at HS
            replace HS := Lib.hid HS
            refine hK.out _ _ (HSS.out _ _ HS.out.kept.at0) (fun hHeldz => ?_)
            clear hK K HC0 HV
            try simp only [Act.put, List.getElem_toArray, List.getElem_cons_zero, List.getElem_cons_succ]
            refine wpAnyH_done (by kernel_rfl) ?_ _
            refine NoPanic.normal ?_
            go_wp2_with fail
            have hrw := HRW.out (da.data.toList, T2.2) (by rw [daR_o (by rw [HR.out]; simp only; omega) (by rw [HR.out]; simp only; omega) (by rw [HR.out]; simp only; omega), HAT.out.2, HR.out])
            refine bodyPost_ret (results_W9 Try.results36 rfl HVC.out rfl) rfl ?_
            have h2 := HS.out.ret
            rw [hrw]
            simp only [data_size]
            exact h2
        · obtain ⟨P, Wca, capc, hconv, hcap1, hcap2, hPn, hcv, hbl⟩ := HS.out.conv_ex da (by have := HNUM.out.2.2.2; unfold maxLen; omega)
          have HCAP : Hid (da.size ≤ capc ∧ capc ≤ maxLen) := Lib.hid ⟨hcap1, hcap2⟩
          replace HS := Lib.hid hcv
          replace HN0 : Hid (∀ x ∈ (P, 0, bys da.data.toList) :: L4, x.1 ≠ G0 + 1 + 1) := Lib.hid (fun x hx => by rcases List.mem_cons.1 hx with rfl | hx; (exact hPn); exact HN0.out x hx)
          replace HSS : Hid (∀ us V, HeldS ((G0 + 1 + 1, 0, us) :: (P, 0, bys da.data.toList) :: L4) V → HeldS L4 V) := Lib.hid (fun us V hv x hx => hv x (List.mem_cons_of_mem _ (List.mem_cons_of_mem _ hx)))
          clear hcap1 hcap2 hPn hcv hbl
          go_wp2_with fail
          refine hK.out _ _ (HSS.out _ _ HS.out.kept.at0) (fun hHeldca => ?_)
          clear hK K hconv
          try simp only [Act.put, List.getElem_toArray, List.getElem_cons_zero, List.getElem_cons_succ, List.setIfInBounds_toArray, List.set_cons_zero, List.set_cons_succ]
          have HTW := Lib.hid (HS.out.twoc (n := da.size) (by have := HNUM.out; omega))
          refine wpAnyH_ready (rs := [4]) (by kernel_rfl) (by simp) ?_
          refine AllReadyH.cons rfl (fun K hK => ?_) AllReadyH.nil
          go_simp
          refine HTW.out.mono ?_
          rintro e wte4 ⟨rfl, hm, hs⟩
          have HM := Lib.hid hm
          replace HS := Lib.hid hs
          clear hm hs HTW
          go_wp2_with fail
          refine hK.out _ _ (HSS.out _ _ HS.out.kept.at0) (fun hHeldte4 => ?_)
          clear hK K
          try simp only [Act.put, List.getElem_toArray, List.getElem_cons_zero, List.getElem_cons_succ, List.setIfInBounds_toArray, List.set_cons_zero, List.set_cons_succ]
          refine wpAnyH_ready (rs := [5]) (by kernel_rfl) (by simp) ?_
          refine AllReadyH.cons rfl (fun K hK => ?_) AllReadyH.nil
          go_simp
          refine (HS.out.putc HM.out (by (try simp only [List.length_append]); (try simp only [twoL_len]); have := HKL.out; omega) rfl).mono ?_
          rintro e wpe5 ⟨be5, ne5, ae5, rfl, hs⟩
          replace HS := Lib.hid hs
          clear hs HM
          go_wp2_with fail
          refine hK.out _ _ (HSS.out _ _ HS.out.kept.at0) (fun hHeldpe5 => ?_)
          clear hK K
          try simp only [Act.put, List.getElem_toArray, List.getElem_cons_zero, List.getElem_cons_succ, List.setIfInBounds_toArray, List.set_cons_zero, List.set_cons_succ]
          have HM := Lib.hid (bytes_of_held (c := capc) (HS.out.kept.at0 (P, 0, bys da.data.toList) (by simp)) (by rw [data_size]; exact HCAP.out.1) HCAP.out.2)
          refine wpAnyH_ready (rs := [9]) (by kernel_rfl) (by simp) ?_
          refine AllReadyH.cons rfl (fun K hK => ?_) AllReadyH.nil
          go_simp
          refine (HS.out.putc HM.out (by (try simp only [List.length_append]); (try simp only [twoL_len]); (try simp only [data_size]); have := HKL.out; have := HNUM.out; omega) (data_size da)).mono ?_
          rintro e w9 ⟨b9, n9, a9, rfl, hs⟩
          replace HS := Lib.hid hs
          clear hs HM
          go_wp2_with fail
          refine hK.out _ _ (HSS.out _ _ HS.out.kept.at0) (fun hHeldd9 => ?_)
          clear hK K
          try simp only [Act.put, List.getElem_toArray, List.getElem_cons_zero, List.getElem_cons_succ, List.setIfInBounds_toArray, List.set_cons_zero, List.set_cons_succ]
          refine wpAnyH_ready (rs := [10]) (by kernel_rfl) (by simp) ?_
          refine ready_one rfl rfl (fun K hK => ?_)
          have HC0 := Lib.hid (HS.out.cells (List.mem_cons_self ..))
          refine wp_store_W9 HC0 rfl _ _ rfl rfl rfl rfl HS.out.rows.one (fun Vz HV HVC => ?_)
          replace HS := HS.out.set HN0.out (by have := HG0.out; omega) [b9, n9, a9] rfl
          rw [← HV.out] at HS
          replace HS := Lib.hid HS
          refine hK.out _ _ (HSS.out _ _ HS.out.kept.at0) (fun hHeldz => ?_)
          clear hK K HC0 HV
          try simp only [Act.put, List.getElem_toArray, List.getElem_cons_zero, List.getElem_cons_succ]
          refine wpAnyH_done (by kernel_rfl) ?_ _
          refine NoPanic.normal ?_
          go_wp2_with fail
          have hrw := HRW.out (da.data.toList, T2.2) (by rw [daR_o (by rw [HR.out]; simp only; omega) (by rw [HR.out]; simp only; omega) (by rw [HR.out]; simp only; omega), HAT.out.2, HR.out])
          refine bodyPost_ret (results_W9 Try.results36 rfl HVC.out rfl) rfl ?_
          have h2 := HS.out.ret
          rw [hrw]
          simp only [data_size]
          exact h2
end Go.Proofs.Yticdpidngmeebaa
