/- Texts that belong together, one behind the other: RefFind8, RefName8, RefNameSt, RefNameFin, RefNameAny, RefWire1, RefWireRec, RefWireMay, EqRec, RefWireMay2. -/
import Derived.Test.YticdpidngmeebaaF1
/- Contract of the reference's find of layer 8. -/
namespace Go.Proofs.Yticdpidngmeebaa
open Go.RowKit
set_option linter.unusedVariables false
set_option maxRecDepth 20000

/-- Numbers, ats cells. -/
def intsL (l : List Nat) : List Value := l.map fun n => Value.int .i64 ((n : Nat) : Int)
theorem Try.infoInt8 : (Try.prog.info? 3).map (fun i => (i.zero, i.size, i.bytes)) = some (some (.int .i64 0), 1, 8) := by kernel_rfl
/-- Where a name first began. -/
def find8 : List ByteArray → List Nat → ByteArray → Option Nat
  | n :: ns, a :: ats, x => if n = x then some a else find8 ns ats x
  | _, _, _ => none
theorem find8_at : ∀ (ns : List ByteArray) (ats : List Nat) (x : ByteArray) (k : Nat) (h : k < ns.length) (h2 : k < ats.length), ns[k] = x → (∀ j (hj : j < ns.length), j < k → ns[j] ≠ x) → find8 ns ats x = some ats[k]
  | [], _, _, _, h, _, _, _ => absurd h (by simp)
  | _ :: _, [], _, _, _, h2, _, _ => absurd h2 (by simp)
  | n :: ns, a :: ats, x, 0, _, _, he, _ => by unfold find8; rw [if_pos (show n = x from he)]; rfl
  | n :: ns, a :: ats, x, k + 1, h, h2, he, hn => by
    unfold find8
    rw [if_neg (show ¬ n = x from hn 0 (by simp) (by omega))]
    exact find8_at ns ats x k (by simpa using h) (by simpa using h2) he (fun j hj hk => hn (j + 1) (by simpa using hj) (by omega))
theorem find8_none : ∀ (ns : List ByteArray) (ats : List Nat) (x : ByteArray), (∀ j (hj : j < ns.length), ns[j] ≠ x) → find8 ns ats x = none
  | [], _, _, _ => by unfold find8; rfl
  | _ :: _, [], _, _ => by unfold find8; rfl
  | n :: ns, a :: ats, x, h => by
    unfold find8
    rw [if_neg (show ¬ n = x from h 0 (by simp))]
    exact find8_none ns ats x (fun j hj => h (j + 1) (by simpa using hj))
theorem find8_mem : ∀ (ns : List ByteArray) (ats : List Nat) (x : ByteArray) (n : Nat), find8 ns ats x = some n → n ∈ ats
  | [], _, _, _, h => by unfold find8 at h; cases h
  | _ :: _, [], _, _, h => by unfold find8 at h; cases h
  | m :: ns, a :: ats, x, n, h => by
    unfold find8 at h
    split at h
    · cases h; simp
    · exact List.mem_cons_of_mem _ (find8_mem ns ats x n h)
/-- A row of one's own of numbers, read. -/
theorem own_nums {w : World} {B : Nat} {v : Value} {l : List Nat} (h : w.ownsRow B 3 1 v l.length (intsL l)) : ∃ a c, v = .slice a l.length c ∧ (l.length = 0 ∨ ∃ g, a = some ⟨g, 0, none⟩ ∧ g < w.heap.size ∧ ∀ k (hk : k < l.length), w.cell? ⟨g, k, none⟩ = some (.int .i64 ((l[k] : Nat) : Int))) := by
  rcases h.2 with ⟨e1, e2⟩ | ⟨g, cap, cur, e1, e2, e3, e4, e5, e6, e7⟩
  · exact ⟨none, 0, by rw [e1, e2], .inl e2⟩
  · refine ⟨_, cap, e1, .inr ⟨g, rfl, ?_, fun k hk => ?_⟩⟩
    · apply Classical.byContradiction
      intro h
      rw [Array.getElem?_eq_none (by omega)] at e3
      cases e3
    · subst e1
      rw [World.ownsRow.cellAt h k (by omega)]
      unfold intsL
      simp [hk]
set_option maxRecDepth 100000 in
set_option maxHeartbeats 2000000 in
theorem refFind8_any (vB vN vA : Value) (ns : List ByteArray) (ats : List Nat) (x : ByteArray) (B B2 : Nat) (w : World) (hN : w.ownsRow B 9 1 vN ns.length (ns.map Value.string)) (hA : w.ownsRow B2 3 1 vA ats.length (intsL ats)) (hl : ats.length = ns.length) (hn : ns.length ≤ 2000000) (hsm : ∀ p ∈ ns, p.size ≤ 2000000) (hx : x.size ≤ 2000000) :
    Calls Try.prog 62 #[.agg #[vB, vN, vA], .string x] w fun e w' => e = .returned (.int .i64 (nxI (find8 ns ats x))) ∧ Below w.heap.size w w' := by
  obtain ⟨W, hW⟩ : ∃ W, w.alloc (.cells #[vB, vN, vA] 70) = W := ⟨_, rfl⟩
  have HB : Hid (Below w.heap.size w W) := Lib.hid (by rw [← hW]; exact (Below.refl _ _).alloc (Nat.le_refl _) _)
  have hc1 : W.cell? ⟨w.heap.size, 1, none⟩ = some vN := by rw [← hW, World.cell?_alloc_new]; rfl
  have hc2 : W.cell? ⟨w.heap.size, 2, none⟩ = some vA := by rw [← hW, World.cell?_alloc_new]; rfl
  obtain ⟨aN, cN, rfl, hrN⟩ := own_RowS (own_below8 hN HB.out)
  obtain ⟨aA, cA, rfl, hrA⟩ := own_nums (own_below8 hA HB.out)
  rw [hl] at hc2 hW ⊢
  have HRN := Lib.hid hrN
  have HRA := Lib.hid hrA
  have HSM := Lib.hid hsm
  have HLN := Lib.hid hl
  have HAT := Lib.hid (find8_at ns ats x)
  have HNO := Lib.hid (find8_none ns ats x)
  generalize find8 ns ats x = R at *
  obtain ⟨N, hNn⟩ : ∃ N, ns.length = N := ⟨_, rfl⟩
  have HNN := Lib.hid hNn
  rw [hNn] at hn hc1 hc2 hW ⊢
  clear hN hA hl hsm hrN hrA hNn
  go_enter Try.func62, Try.ntmps62
  go_upto_region 1 with fail
  first | rw [hW] | skip
  clear hW
  go_wp2_with fail
  go_loop [5] (fun i => ∃ k : Nat, k ≤ N ∧ i = .int .i64 (k : Int) ∧ Hid (∀ j (hj : j < ns.length), j < k → ns[j] ≠ x)) (fun i => N - (intOf i).toNat)
  case atStart => exact ⟨0, Nat.zero_le _, rfl, Lib.hid (fun j hj h => absurd h (by omega))⟩
  case round =>
    obtain ⟨k, hk, rfl, HO⟩ := hrel
    by_cases hkN : k < N
    · have hd : decide ((k : Int) < (N : Int)) = true := decide_eq_true (by omega)
      have hdn : decide (k < N) = true := decide_eq_true hkN
      have hkl : k < ns.length := by rw [HNN.out]; exact hkN
      have hka : k < ats.length := by rw [HLN.out]; exact hkl
      rcases HRN.out with hrow | h0
      · rcases hrow with ⟨_, _, h0⟩ | ⟨g, rfl, h⟩
        · rw [h0] at hkl; exact absurd hkl (by simp)
        rcases HRA.out with h0 | ⟨g2, rfl, _, h2⟩
        · omega
        have hcN := h.cells k hkl
        rw [List.getD_eq_getElem?_getD, List.getElem?_eq_getElem hkl] at hcN
        have hcA := h2 k hka
        have hz := HSM.out _ (List.getElem_mem hkl)
        have HAK : Hid (ns[k] = x → R = some ats[k]) := Lib.hid (fun e => HAT.out k hkl hka e HO.out)
        have HO2 : Hid (ns[k] ≠ x → ∀ j (hj : j < ns.length), j < k + 1 → ns[j] ≠ x) := Lib.hid (fun e j hj hjk => by
          by_cases h : j < k
          · exact HO.out j hj h
          · obtain rfl : j = k := by omega
            exact e)
        simp only [Option.getD_some] at hcN
        generalize ns[k] = p at *
        generalize ats[k] = q at *
        have hb1 : (0 : Int) ≤ (k : Int) := by omega
        have hb2 : (k : Int) < (N : Int) := by omega
        clear h h2 hkl hka HRN HRA HAT
        by_cases he : p = x
        · have hbe : (p.toList == x.toList) = true := by rw [he]; simp
          have ER := HAK.out he
          subst ER
          subst he
          clear HAK HO2 HO
          go_wp2_with fail
          go_ret
          exact ⟨rfl, HB.out⟩
        · have hbe : (p.toList == x.toList) = false := by
            rw [beq_eq_false_iff_ne]
            intro h
            rw [ByteArray.toList_eq, ByteArray.toList_eq] at h
            exact he (ByteArray.ext (Array.ext' h))
          have HO3 := Lib.hid (HO2.out he)
          clear HAK HO2 HO he
          go_wp2_with fail
          go_round
          case rel => exact ⟨k + 1, by omega, by go_num, HO3⟩
          case measure => simp [intOf]; omega
      · rw [h0] at hkl; exact absurd hkl (by simp)
    · obtain rfl : k = N := by omega
      have hd : decide ((k : Int) < (k : Int)) = false := by simp
      have ER := HNO.out (fun j hj => HO.out j hj (by rw [← HNN.out]; exact hj))
      subst ER
      clear HO HNO HAT HRN HRA
      go_wp2_with fail
      go_ret
      exact ⟨rfl, HB.out⟩
end Go.Proofs.Yticdpidngmeebaa
/- The reference's Name of layer 8: what it tells; rows kept beside appends. -/
namespace Go.Proofs.Yticdpidngmeebaa
open Go.RowKit
set_option linter.unusedVariables false
set_option maxRecDepth 20000

/-- What is written when a name is, from its i-th label on: the bytes, the names, their places. -/
def nm8 (s : ByteArray) (L : List ByteArray) : Nat → Nat → List UInt8 → List ByteArray → List Nat → List UInt8 × List ByteArray × List Nat
  | 0, _, l, ns, ats => (l, ns, ats)
  | f + 1, i, l, ns, ats =>
    if L.length ≤ i then (l ++ [0], ns, ats) else
    match find8 ns ats (restB s i) with
    | some n => (l ++ [UInt8.ofNat (192 + n / 256), UInt8.ofNat (n % 256)], ns, ats)
    | none => nm8 s L f (i + 1) (l ++ labL (L.getD i ⟨#[]⟩)) (if l.length < 16384 then ns ++ [restB s i] else ns) (if l.length < 16384 then ats ++ [l.length] else ats)
/-- A row of one's own stays where another block turned. -/
theorem own_kept {w w' : World} {B : Nat} {t : TypeId} {z : Nat} {v : Value} {n : Nat} {xs : List Value} (h : w.ownsRow B t z v n xs) (hk : ∀ g, v.ownBlock = some g → w'.heap[g]? = w.heap[g]?) : w'.ownsRow B t z v n xs := by
  obtain ⟨h1, h2⟩ := h
  refine ⟨h1, ?_⟩
  rcases h2 with h2 | ⟨g, cap, cur, e1, e2, e3, e4⟩
  · exact .inl h2
  · exact .inr ⟨g, cap, cur, e1, e2, (hk g (by rw [e1]; rfl)).trans e3, e4⟩
/-- Rows of other types lie in other blocks. -/
theorem own_types {w : World} {B B2 : Nat} {t t2 : TypeId} {z z2 : Nat} {v v2 : Value} {n n2 : Nat} {xs xs2 : List Value} (h : w.ownsRow B t z v n xs) (h2 : w.ownsRow B2 t2 z2 v2 n2 xs2) (ht : t ≠ t2) (g : Nat) (hg : v.ownBlock = some g) : v2.ownBlock ≠ some g := by
  intro hg2
  rcases h.2 with ⟨rfl, _⟩ | ⟨a, cap, cur, rfl, _, e3, _⟩
  · cases hg
  · rcases h2.2 with ⟨rfl, _⟩ | ⟨a2, cap2, cur2, rfl, _, e32, _⟩
    · cases hg2
    · cases hg
      cases hg2
      rw [e3] at e32
      cases e32
      exact ht rfl
theorem own_grown {w w' : World} {B B2 : Nat} {t t2 : TypeId} {z z2 : Nat} {v v2 : Value} {n n2 : Nat} {xs xs2 : List Value} (h : w.ownsRow B t z v n xs) (h2 : w.ownsRow B2 t2 z2 v2 n2 xs2) (ht : t ≠ t2) (hg : w.grownBy w' v.ownBlock) : w'.ownsRow B2 t2 z2 v2 n2 xs2 :=
  own_kept h2 (fun g hg2 => hg.block g (h2.lt g hg2).2 (fun e => own_types h h2 ht g e.symm hg2))
/-- The boxed W, and the three rows in it. -/
structure WBox (w : World) (b : Nat) (vB vN vA : Value) : Prop where
  c0 : w.cell? ⟨b, 0, none⟩ = some vB
  c1 : w.cell? ⟨b, 1, none⟩ = some vN
  c2 : w.cell? ⟨b, 2, none⟩ = some vA
  f0 : w.frozen? ⟨b, 0, none⟩ = false
  f1 : w.frozen? ⟨b, 1, none⟩ = false
  f2 : w.frozen? ⟨b, 2, none⟩ = false
theorem WBox.lt {w : World} {b : Nat} {vB vN vA : Value} (h : WBox w b vB vN vA) : b < w.heap.size := World.block_lt_of_cell? w ⟨b, 0, none⟩ h.c0
theorem WBox.kept {w w' : World} {b : Nat} {vB vN vA : Value} (h : WBox w b vB vN vA) (hk : w'.heap[b]? = w.heap[b]?) : WBox w' b vB vN vA :=
  ⟨(World.cell?_of_block (a := ⟨b, 0, none⟩) hk).trans h.c0, (World.cell?_of_block (a := ⟨b, 1, none⟩) hk).trans h.c1, (World.cell?_of_block (a := ⟨b, 2, none⟩) hk).trans h.c2, (World.frozen?_of_block (a := ⟨b, 0, none⟩) hk).trans h.f0, (World.frozen?_of_block (a := ⟨b, 1, none⟩) hk).trans h.f1, (World.frozen?_of_block (a := ⟨b, 2, none⟩) hk).trans h.f2⟩
theorem WBox.new (w : World) (vB vN vA : Value) : WBox (w.alloc (.cells #[vB, vN, vA] 70)) w.heap.size vB vN vA := by
  refine ⟨?_, ?_, ?_, ?_, ?_, ?_⟩
  · rw [World.cell?_alloc_new]; rfl
  · rw [World.cell?_alloc_new]; rfl
  · rw [World.cell?_alloc_new]; rfl
  · exact World.frozen?_alloc_new _ _ _ _
  · exact World.frozen?_alloc_new _ _ _ _
  · exact World.frozen?_alloc_new _ _ _ _
theorem WBox.set0 {w : World} {b : Nat} {vB vN vA : Value} (h : WBox w b vB vN vA) (v : Value) : WBox (w.setCell ⟨b, 0, none⟩ v) b v vN vA :=
  ⟨World.cell?_setCell_same _ _ _ h.c0, (World.cell?_setCell_other _ _ _ _ (by intro h; injection h; omega)).trans h.c1, (World.cell?_setCell_other _ _ _ _ (by intro h; injection h; omega)).trans h.c2, by rw [World.frozen?_setCell]; exact h.f0, by rw [World.frozen?_setCell]; exact h.f1, by rw [World.frozen?_setCell]; exact h.f2⟩
theorem WBox.set1 {w : World} {b : Nat} {vB vN vA : Value} (h : WBox w b vB vN vA) (v : Value) : WBox (w.setCell ⟨b, 1, none⟩ v) b vB v vA :=
  ⟨(World.cell?_setCell_other _ _ _ _ (by intro h; injection h; omega)).trans h.c0, World.cell?_setCell_same _ _ _ h.c1, (World.cell?_setCell_other _ _ _ _ (by intro h; injection h; omega)).trans h.c2, by rw [World.frozen?_setCell]; exact h.f0, by rw [World.frozen?_setCell]; exact h.f1, by rw [World.frozen?_setCell]; exact h.f2⟩
theorem WBox.set2 {w : World} {b : Nat} {vB vN vA : Value} (h : WBox w b vB vN vA) (v : Value) : WBox (w.setCell ⟨b, 2, none⟩ v) b vB vN v :=
  ⟨(World.cell?_setCell_other _ _ _ _ (by intro h; injection h; omega)).trans h.c0, (World.cell?_setCell_other _ _ _ _ (by intro h; injection h; omega)).trans h.c1, World.cell?_setCell_same _ _ _ h.c2, by rw [World.frozen?_setCell]; exact h.f0, by rw [World.frozen?_setCell]; exact h.f1, by rw [World.frozen?_setCell]; exact h.f2⟩
end Go.Proofs.Yticdpidngmeebaa
/- What the reference's Name of layer 8 holds on its way: kept beside its calls and its appends. -/
namespace Go.Proofs.Yticdpidngmeebaa
open Go.RowKit
set_option linter.unusedVariables false
set_option maxRecDepth 20000

/-- A number behind a row of numbers of one's own. -/
theorem wp_append_num {op : Oper} {a : Act} {w : World} {K : Act → World → Prop} {Q : Exit → Act → World → Prop} {B G c : Nat} {v : Value} {l : List Nat} {p : Nat} (hown : Hid (w.ownsRow B 3 1 v l.length (intsL l))) (hm : Hid (w.cell? ⟨G, 0, none⟩ = some (.int .i64 (p : Int)))) (hn : Hid (l.length ≤ 2000000 ∧ B ≤ w.heap.size)) (sl x : Operand)
    (ho : op.op = .call { callee := .builtin .append, args := #[sl, x], argTypes := #[56, 56] }) (hs : a.eval sl = v) (hx : a.eval x = .slice (some ⟨G, 0, none⟩) 1 c)
    (h : ∀ v' w', Hid (w'.ownsRow B 3 1 v' (l ++ [p]).length (intsL (l ++ [p]))) → Hid (w.grownBy w' v.ownBlock) → Hid (Foot v.ownBlock.toList v'.ownBlock.toList w w') → K (a.put op.dst v') w') : op.wp Try.prog a w K Q := by
  obtain ⟨i0, hi0, hz0, hz1, hz2⟩ := info_parts Try.infoInt8
  obtain ⟨hn1, hn2⟩ := hn.out
  obtain ⟨v', w', hr, h2, h3, _, h5⟩ := run_append_own_at (P := Try.prog) w B 56 op.type 3 i0 _ 1 8 Try.underlying56 hi0 hz0 hz1 hz2 rfl (by decide) v l.length (intsL l) hown.out ⟨G, 0, none⟩ 1 c [.int .i64 (p : Int)] rfl (fun j u hu => by
      match j, hu with
      | 0, hu => rw [add_none, hm.out]; exact hu
      | j + 1, hu => simp at hu) (fun u hu => by rw [List.mem_singleton.1 hu]; rfl) (by unfold maxLen; omega) (by omega) hn2
  unfold Oper.wp execOp
  simp only [ho, resolve, invoke, builtin, Sem.run_bind, Sem.run_pure, Result.andThen_ok, List.map_toArray, List.map_cons, List.map_nil, hs, hx, hr]
  refine h v' w' (Lib.hid ?_) (Lib.hid h3) (Lib.hid (Foot.ofGrown h3 (h5.imp id (fun e g hg => by rw [e] at hg; cases hg; exact Nat.le_refl _))))
  simpa [intsL] using h2
abbrev nilS : Value := .slice none 0 0
def blk3 (vB vN vA : Value) : List Nat := vB.ownBlock.toList ++ vN.ownBlock.toList ++ vA.ownBlock.toList
theorem mem_blk3 {vB vN vA : Value} {k : Nat} : k ∈ blk3 vB vN vA ↔ vB.ownBlock = some k ∨ vN.ownBlock = some k ∨ vA.ownBlock = some k := by simp [blk3]
structure NSt (w : World) (B S0 : Nat) (F0 : List Nat) (aL : Option Addr) (cL : Nat) (L : List ByteArray) (wr : World) (vB vN vA : Value) (l : List UInt8) (ns : List ByteArray) (ats : List Nat) : Prop where
  box : WBox wr w.heap.size vB vN vA
  res : WBox wr (w.heap.size + 1) nilS nilS nilS
  rb : wr.ownsRow B 5 1 vB l.length (bys l)
  rn : wr.ownsRow B 9 1 vN ns.length (ns.map Value.string)
  ra : wr.ownsRow B 3 1 vA ats.length (intsL ats)
  lab : RowS wr aL cL L
  foot : Foot F0 (blk3 vB vN vA) w wr
  away : ∀ k ∈ blk3 vB vN vA, k < w.heap.size ∨ S0 ≤ k
  sz : S0 ≤ wr.heap.size
  base : B ≤ w.heap.size
  two : w.heap.size + 1 < S0
  fresh : ∀ g, aL = some ⟨g, 0, none⟩ → w.heap.size + 1 < g ∧ g < S0
theorem RowS.kept {w w' : World} {a : Option Addr} {c : Nat} {l : List ByteArray} (h : RowS w a c l) (hs : w.heap.size ≤ w'.heap.size) (hk : ∀ g, a = some ⟨g, 0, none⟩ → w'.heap[g]? = w.heap[g]?) : RowS w' a c l := by
  rcases h with h | ⟨g, e, h⟩
  · exact .inl h
  · exact .inr ⟨g, e, h.len, h.cap, h.capm, Nat.lt_of_lt_of_le h.lt hs, fun i hi => (World.cell?_of_block (a := ⟨g, i, none⟩) (hk g e)).trans (h.cells i hi)⟩
section
variable {w : World} {B S0 : Nat} {F0 : List Nat} {aL : Option Addr} {cL : Nat} {L : List ByteArray} {wr wr' : World} {vB vN vA : Value} {l : List UInt8} {ns : List ByteArray} {ats : List Nat}
theorem NSt.below (h : NSt w B S0 F0 aL cL L wr vB vN vA l ns ats) (hb : Below wr.heap.size wr wr') : NSt w B S0 F0 aL cL L wr' vB vN vA l ns ats :=
  ⟨h.box.kept (hb.block _ h.box.lt), h.res.kept (hb.block _ h.res.lt), own_below8 h.rb hb, own_below8 h.rn hb, own_below8 h.ra hb, h.lab.below hb, h.foot.trans (Foot.ofBelow _ hb), h.away, Nat.le_trans h.sz hb.size, h.base, h.two, h.fresh⟩
theorem NSt.put0 (h : NSt w B S0 F0 aL cL L wr vB vN vA l ns ats) {v' : Value} {l' : List UInt8} (hown : wr'.ownsRow B 5 1 v' l'.length (bys l')) (hg : wr.grownBy wr' vB.ownBlock) (hf : Foot vB.ownBlock.toList v'.ownBlock.toList wr wr') :
    NSt w B S0 F0 aL cL L (wr'.setCell ⟨w.heap.size, 0, none⟩ v') v' vN vA l' ns ats := by
  have hme : ∀ k, vB.ownBlock = some k → k < w.heap.size ∨ S0 ≤ k := fun k hk => h.away k (mem_blk3.2 (.inl hk))
  have hnew : ∀ k, v'.ownBlock = some k → vB.ownBlock = some k ∨ wr.heap.size ≤ k := fun k hk => (hf.new k (by rw [hk]; simp)).imp (fun e => by simpa using e) id
  have h2 := h.two
  have hsz := h.sz
  have hset : ∀ k, k ≠ w.heap.size → (wr'.setCell ⟨w.heap.size, 0, none⟩ v').heap[k]? = wr'.heap[k]? := fun k hk => Below.heap_setCell wr' ⟨w.heap.size, 0, none⟩ v' k hk
  have hold : ∀ k, k < wr.heap.size → vB.ownBlock ≠ some k → k ≠ w.heap.size → (wr'.setCell ⟨w.heap.size, 0, none⟩ v').heap[k]? = wr.heap[k]? := fun k h1 h3 h4 => (hset k h4).trans (hg.block k h1 (fun e => h3 e.symm))
  have hssz : (wr'.setCell ⟨w.heap.size, 0, none⟩ v').heap.size = wr'.heap.size := by simp [World.setCell]
  refine ⟨?_, ?_, ?_, ?_, ?_, ?_, ?_, ?_, ?_, h.base, h.two, h.fresh⟩
  · exact (h.box.kept (hg.block _ h.box.lt (fun e => by rcases hme _ e.symm with e | e <;> omega))).set0 v'
  · exact h.res.kept (hold _ h.res.lt (fun e => by rcases hme _ e with e | e <;> omega) (by omega))
  · exact own_kept hown (fun k hk => hset k (fun e => by
      subst e
      rcases hnew _ hk with e | e
      · rcases hme _ e with e | e <;> omega
      · omega))
  · exact own_kept (own_grown h.rb h.rn (by decide) hg) (fun k hk => hset k (fun e => by
      subst e
      rcases h.away _ (mem_blk3.2 (.inr (.inl hk))) with e | e <;> omega))
  · exact own_kept (own_grown h.rb h.ra (by decide) hg) (fun k hk => hset k (fun e => by
      subst e
      rcases h.away _ (mem_blk3.2 (.inr (.inr hk))) with e | e <;> omega))
  · refine h.lab.kept (by rw [hssz]; exact hg.size) (fun g hgL => ?_)
    have h3 := h.fresh g hgL
    exact hold g (by omega) (fun e => by rcases hme _ e with e | e <;> omega) (by omega)
  · refine ⟨hg.os.trans h.foot.os, hg.tape.trans h.foot.tape, hg.output.trans h.foot.output, by rw [hssz]; exact Nat.le_trans h.foot.size hg.size, fun k hk hn => ?_, fun k hk => ?_⟩
    · refine (hold k (Nat.lt_of_lt_of_le hk h.foot.size) (fun e => ?_) (by omega)).trans (h.foot.keep k hk hn)
      rcases h.foot.new k (mem_blk3.2 (.inl e)) with e | e
      · exact hn e
      · omega
    · rcases mem_blk3.1 hk with e | e | e
      · rcases hnew k e with e | e
        · exact h.foot.new k (mem_blk3.2 (.inl e))
        · exact .inr (Nat.le_trans h.foot.size e)
      · exact h.foot.new k (mem_blk3.2 (.inr (.inl e)))
      · exact h.foot.new k (mem_blk3.2 (.inr (.inr e)))
  · intro k hk
    rcases mem_blk3.1 hk with e | e | e
    · rcases hnew k e with e | e
      · exact hme k e
      · exact .inr (by omega)
    · exact h.away k (mem_blk3.2 (.inr (.inl e)))
    · exact h.away k (mem_blk3.2 (.inr (.inr e)))
  · rw [hssz]; exact Nat.le_trans h.sz hg.size
theorem NSt.put1 (h : NSt w B S0 F0 aL cL L wr vB vN vA l ns ats) {v' : Value} {ns' : List ByteArray} (hown : wr'.ownsRow B 9 1 v' ns'.length (ns'.map Value.string)) (hg : wr.grownBy wr' vN.ownBlock) (hf : Foot vN.ownBlock.toList v'.ownBlock.toList wr wr') :
    NSt w B S0 F0 aL cL L (wr'.setCell ⟨w.heap.size, 1, none⟩ v') vB v' vA l ns' ats := by
  have hme : ∀ k, vN.ownBlock = some k → k < w.heap.size ∨ S0 ≤ k := fun k hk => h.away k (mem_blk3.2 (.inr (.inl hk)))
  have hnew : ∀ k, v'.ownBlock = some k → vN.ownBlock = some k ∨ wr.heap.size ≤ k := fun k hk => (hf.new k (by rw [hk]; simp)).imp (fun e => by simpa using e) id
  have h2 := h.two
  have hsz := h.sz
  have hset : ∀ k, k ≠ w.heap.size → (wr'.setCell ⟨w.heap.size, 1, none⟩ v').heap[k]? = wr'.heap[k]? := fun k hk => Below.heap_setCell wr' ⟨w.heap.size, 1, none⟩ v' k hk
  have hold : ∀ k, k < wr.heap.size → vN.ownBlock ≠ some k → k ≠ w.heap.size → (wr'.setCell ⟨w.heap.size, 1, none⟩ v').heap[k]? = wr.heap[k]? := fun k h1 h3 h4 => (hset k h4).trans (hg.block k h1 (fun e => h3 e.symm))
  have hssz : (wr'.setCell ⟨w.heap.size, 1, none⟩ v').heap.size = wr'.heap.size := by simp [World.setCell]
  refine ⟨?_, ?_, ?_, ?_, ?_, ?_, ?_, ?_, ?_, h.base, h.two, h.fresh⟩
  · exact (h.box.kept (hg.block _ h.box.lt (fun e => by rcases hme _ e.symm with e | e <;> omega))).set1 v'
  · exact h.res.kept (hold _ h.res.lt (fun e => by rcases hme _ e with e | e <;> omega) (by omega))
  · exact own_kept (own_grown h.rn h.rb (by decide) hg) (fun k hk => hset k (fun e => by
      subst e
      rcases h.away _ (mem_blk3.2 (.inl hk)) with e | e <;> omega))
  · exact own_kept hown (fun k hk => hset k (fun e => by
      subst e
      rcases hnew _ hk with e | e
      · rcases hme _ e with e | e <;> omega
      · omega))
  · exact own_kept (own_grown h.rn h.ra (by decide) hg) (fun k hk => hset k (fun e => by
      subst e
      rcases h.away _ (mem_blk3.2 (.inr (.inr hk))) with e | e <;> omega))
  · refine h.lab.kept (by rw [hssz]; exact hg.size) (fun g hgL => ?_)
    have h3 := h.fresh g hgL
    exact hold g (by omega) (fun e => by rcases hme _ e with e | e <;> omega) (by omega)
  · refine ⟨hg.os.trans h.foot.os, hg.tape.trans h.foot.tape, hg.output.trans h.foot.output, by rw [hssz]; exact Nat.le_trans h.foot.size hg.size, fun k hk hn => ?_, fun k hk => ?_⟩
    · refine (hold k (Nat.lt_of_lt_of_le hk h.foot.size) (fun e => ?_) (by omega)).trans (h.foot.keep k hk hn)
      rcases h.foot.new k (mem_blk3.2 (.inr (.inl e))) with e | e
      · exact hn e
      · omega
    · rcases mem_blk3.1 hk with e | e | e
      · exact h.foot.new k (mem_blk3.2 (.inl e))
      · rcases hnew k e with e | e
        · exact h.foot.new k (mem_blk3.2 (.inr (.inl e)))
        · exact .inr (Nat.le_trans h.foot.size e)
      · exact h.foot.new k (mem_blk3.2 (.inr (.inr e)))
  · intro k hk
    rcases mem_blk3.1 hk with e | e | e
    · exact h.away k (mem_blk3.2 (.inl e))
    · rcases hnew k e with e | e
      · exact hme k e
      · exact .inr (by omega)
    · exact h.away k (mem_blk3.2 (.inr (.inr e)))
  · rw [hssz]; exact Nat.le_trans h.sz hg.size
theorem NSt.put2 (h : NSt w B S0 F0 aL cL L wr vB vN vA l ns ats) {v' : Value} {ats' : List Nat} (hown : wr'.ownsRow B 3 1 v' ats'.length (intsL ats')) (hg : wr.grownBy wr' vA.ownBlock) (hf : Foot vA.ownBlock.toList v'.ownBlock.toList wr wr') :
    NSt w B S0 F0 aL cL L (wr'.setCell ⟨w.heap.size, 2, none⟩ v') vB vN v' l ns ats' := by
  have hme : ∀ k, vA.ownBlock = some k → k < w.heap.size ∨ S0 ≤ k := fun k hk => h.away k (mem_blk3.2 (.inr (.inr hk)))
  have hnew : ∀ k, v'.ownBlock = some k → vA.ownBlock = some k ∨ wr.heap.size ≤ k := fun k hk => (hf.new k (by rw [hk]; simp)).imp (fun e => by simpa using e) id
  have h2 := h.two
  have hsz := h.sz
  have hset : ∀ k, k ≠ w.heap.size → (wr'.setCell ⟨w.heap.size, 2, none⟩ v').heap[k]? = wr'.heap[k]? := fun k hk => Below.heap_setCell wr' ⟨w.heap.size, 2, none⟩ v' k hk
  have hold : ∀ k, k < wr.heap.size → vA.ownBlock ≠ some k → k ≠ w.heap.size → (wr'.setCell ⟨w.heap.size, 2, none⟩ v').heap[k]? = wr.heap[k]? := fun k h1 h3 h4 => (hset k h4).trans (hg.block k h1 (fun e => h3 e.symm))
  have hssz : (wr'.setCell ⟨w.heap.size, 2, none⟩ v').heap.size = wr'.heap.size := by simp [World.setCell]
  refine ⟨?_, ?_, ?_, ?_, ?_, ?_, ?_, ?_, ?_, h.base, h.two, h.fresh⟩
  · exact (h.box.kept (hg.block _ h.box.lt (fun e => by rcases hme _ e.symm with e | e <;> omega))).set2 v'
  · exact h.res.kept (hold _ h.res.lt (fun e => by rcases hme _ e with e | e <;> omega) (by omega))
  · exact own_kept (own_grown h.ra h.rb (by decide) hg) (fun k hk => hset k (fun e => by
      subst e
      rcases h.away _ (mem_blk3.2 (.inl hk)) with e | e <;> omega))
  · exact own_kept (own_grown h.ra h.rn (by decide) hg) (fun k hk => hset k (fun e => by
      subst e
      rcases h.away _ (mem_blk3.2 (.inr (.inl hk))) with e | e <;> omega))
  · exact own_kept hown (fun k hk => hset k (fun e => by
      subst e
      rcases hnew _ hk with e | e
      · rcases hme _ e with e | e <;> omega
      · omega))
  · refine h.lab.kept (by rw [hssz]; exact hg.size) (fun g hgL => ?_)
    have h3 := h.fresh g hgL
    exact hold g (by omega) (fun e => by rcases hme _ e with e | e <;> omega) (by omega)
  · refine ⟨hg.os.trans h.foot.os, hg.tape.trans h.foot.tape, hg.output.trans h.foot.output, by rw [hssz]; exact Nat.le_trans h.foot.size hg.size, fun k hk hn => ?_, fun k hk => ?_⟩
    · refine (hold k (Nat.lt_of_lt_of_le hk h.foot.size) (fun e => ?_) (by omega)).trans (h.foot.keep k hk hn)
      rcases h.foot.new k (mem_blk3.2 (.inr (.inr e))) with e | e
      · exact hn e
      · omega
    · rcases mem_blk3.1 hk with e | e | e
      · exact h.foot.new k (mem_blk3.2 (.inl e))
      · exact h.foot.new k (mem_blk3.2 (.inr (.inl e)))
      · rcases hnew k e with e | e
        · exact h.foot.new k (mem_blk3.2 (.inr (.inr e)))
        · exact .inr (Nat.le_trans h.foot.size e)
  · intro k hk
    rcases mem_blk3.1 hk with e | e | e
    · exact h.away k (mem_blk3.2 (.inl e))
    · exact h.away k (mem_blk3.2 (.inr (.inl e)))
    · rcases hnew k e with e | e
      · exact hme k e
      · exact .inr (by omega)
  · rw [hssz]; exact Nat.le_trans h.sz hg.size
end
/-- Labels, with where its row lies. -/
theorem refLabels_new (s : ByteArray) (w : World) (hs : s.size ≤ 2000000) :
    Calls Try.prog 52 #[.string s] w fun e w' => ∃ a c, e = .returned (.slice a (labelsB s).length c) ∧ RowS w' a c (labelsB s) ∧ (∀ g, a = some ⟨g, 0, none⟩ → w.heap.size ≤ g ∧ g < w'.heap.size) ∧ Below w.heap.size w w' := by
  by_cases h0 : s.size = 0
  · have he := isEmpty_true s h0
    have HE : Hid (labelsB s = []) := Lib.hid (by unfold labelsB; rw [if_pos h0])
    rw [HE.out]
    clear hs h0
    go_enter Try.func52, Try.ntmps52
    go_wp2_with fail
    go_ret
    exact ⟨none, 0, rfl, .inl ⟨rfl, rfl, rfl⟩, (fun g hg => by cases hg), Below.refl _ _⟩
  · have he := isEmpty_false s (by omega)
    have HE : Hid (labelsB s = pieces s 46) := Lib.hid (by unfold labelsB; rw [if_neg h0])
    have HSP := Lib.hid (refSplit_row s 46 w hs)
    rw [HE.out]
    generalize pieces s 46 = l at *
    clear hs h0 HE
    go_enter Try.func52, Try.ntmps52
    go_wp2_with fail
    refine HSP.out.mono ?_
    rintro e w1 ⟨g, c, rfl, hg, hr, hb⟩
    have HR := Lib.hid hr
    have HB := Lib.hid hb
    have HG := Lib.hid hg
    clear hr hb hg HSP
    go_wp2_with fail
    go_ret
    exact ⟨_, _, rfl, .inr ⟨g, rfl, HR.out⟩, (fun g2 hg2 => by cases hg2; exact ⟨HG.out, HR.out.lt⟩), HB.out⟩
end Go.Proofs.Yticdpidngmeebaa
/- What the reference's Name of layer 8 hands back: its cells laid, all else kept. -/
namespace Go.Proofs.Yticdpidngmeebaa
open Go.RowKit
set_option linter.unusedVariables false
set_option maxRecDepth 20000

/-- What Name hands back. -/
def NameRet (w : World) (B : Nat) (F0 : List Nat) (m : Bool) (R : List UInt8 × List ByteArray × List Nat) (e : Ending) (w' : World) : Prop :=
  ∃ vB vN vA, e = .returned (.tuple #[.agg #[vB, vN, vA], .bool m]) ∧ w'.ownsRow B 5 1 vB R.1.length (bys R.1) ∧ w'.ownsRow B 9 1 vN R.2.1.length (R.2.1.map Value.string) ∧ w'.ownsRow B 3 1 vA R.2.2.length (intsL R.2.2) ∧ Foot F0 (blk3 vB vN vA) w w'
theorem own_slice {w : World} {B : Nat} {t : TypeId} {z : Nat} {v : Value} {n : Nat} {xs : List Value} (h : w.ownsRow B t z v n xs) : ∃ a c, v = .slice a n c := by
  rcases h.2 with ⟨h1, h2⟩ | ⟨g, cap, cur, h1, _⟩
  · exact ⟨none, 0, by rw [h1, h2]⟩
  · exact ⟨_, _, h1⟩
theorem cells_new8 (w : World) (l : List Value) (t : TypeId) : ∀ j u, l[j]? = some u → (w.alloc (.cells l.toArray t)).cell? ⟨w.heap.size, j, none⟩ = some u := by
  intro j u h
  simp [World.cell?_alloc_new, h]
theorem WBox.range {w : World} {b : Nat} {vB vN vA : Value} (h : WBox w b vB vN vA) : w.rangeAt b 0 [vB, vN, vA] := by
  intro j u hu
  match j, hu with
  | 0, hu => cases hu; exact h.c0
  | 1, hu => cases hu; exact h.c1
  | 2, hu => cases hu; exact h.c2
  | j + 3, hu => simp at hu
theorem loadVar_W {w : World} {b : Nat} {vB vN vA : Value} (h : WBox w b vB vN vA) : (loadVar 70 ⟨b, 0, none⟩).run Try.prog w = .ok (.agg #[vB, vN, vA]) w :=
  run_loadVar_mid w b 0 70 [vB, vN, vA] _ h.range Try.underlying70 rfl (by kernel_rfl)
theorem results_W {fn : Func} {a t : Tmp} {tmps : Array Value} {W : World} {b : Nat} {vB vN vA : Value} (h : fn.results = #[.cell a 70, .tmp t]) (ha : tmps.getD a undef = .pointer (some ⟨b, 0, none⟩)) (hA : WBox W b vB vN vA) : (results fn tmps).run Try.prog W = .ok (.tuple #[.agg #[vB, vN, vA], tmps.getD t undef]) W := by
  rw [Array.getD_eq_getD_getElem?] at ha
  simp [results, h, ha, asAddr, loadVar_W hA]
/-- The result's cells laid: all else stays. -/
theorem name_laid {w wr : World} {B : Nat} {F0 : List Nat} {m : Bool} {vB vN vA : Value} {l : List UInt8} {ns : List ByteArray} {ats : List Nat} (rb : wr.ownsRow B 5 1 vB l.length (bys l)) (rn : wr.ownsRow B 9 1 vN ns.length (ns.map Value.string)) (ra : wr.ownsRow B 3 1 vA ats.length (intsL ats)) (foot : Foot F0 (blk3 vB vN vA) w wr) (away : ∀ k ∈ blk3 vB vN vA, k ≠ w.heap.size + 1) :
    NameRet w B F0 m (l, ns, ats) (.returned (.tuple #[.agg #[vB, vN, vA], .bool m])) (((wr.setCell ⟨w.heap.size + 1, 0, none⟩ vB).setCell ⟨w.heap.size + 1, 1, none⟩ vN).setCell ⟨w.heap.size + 1, 2, none⟩ vA) := by
  have hset : ∀ k, k ≠ w.heap.size + 1 → (((wr.setCell ⟨w.heap.size + 1, 0, none⟩ vB).setCell ⟨w.heap.size + 1, 1, none⟩ vN).setCell ⟨w.heap.size + 1, 2, none⟩ vA).heap[k]? = wr.heap[k]? := fun k hk => by
    rw [Below.heap_setCell _ ⟨w.heap.size + 1, 2, none⟩ vA k hk, Below.heap_setCell _ ⟨w.heap.size + 1, 1, none⟩ vN k hk, Below.heap_setCell _ ⟨w.heap.size + 1, 0, none⟩ vB k hk]
  refine ⟨vB, vN, vA, rfl, own_kept rb (fun k hk => hset k (away k (mem_blk3.2 (.inl hk)))), own_kept rn (fun k hk => hset k (away k (mem_blk3.2 (.inr (.inl hk))))), own_kept ra (fun k hk => hset k (away k (mem_blk3.2 (.inr (.inr hk))))), foot.os, foot.tape, foot.output, ?_, fun k hk hn => (hset k (by omega)).trans (foot.keep k hk hn), foot.new⟩
  simp only [World.setCell, Array.size_modify]
  exact foot.size
theorem WBox.laid {w : World} {b : Nat} {v0 v1 v2 : Value} (h : WBox w b v0 v1 v2) (vB vN vA : Value) : WBox (((w.setCell ⟨b, 0, none⟩ vB).setCell ⟨b, 1, none⟩ vN).setCell ⟨b, 2, none⟩ vA) b vB vN vA := ((h.set0 vB).set1 vN).set2 vA
end Go.Proofs.Yticdpidngmeebaa
/- Contract of the reference's Name of layer 8. -/
namespace Go.Proofs.Yticdpidngmeebaa
open Go.RowKit
set_option linter.unusedVariables false
set_option maxRecDepth 20000

theorem bys_two {A C : Nat} (hA : A ≤ 63) (hC : C < 256) : bys [UInt8.ofNat (192 + A), UInt8.ofNat C] = [.int .u8 (192 + (A : Int)), .int .u8 (C : Int)] := by
  unfold bys
  simp only [List.map_cons, List.map_nil, UInt8.toNat_ofNat']
  rw [Nat.mod_eq_of_lt (by omega), Nat.mod_eq_of_lt (by omega)]
  simp
/-- One operation alone may come up, and it is wanted. -/
theorem ready_one {P : Program} {md : Region.Mode} {ops : Array Oper} {Q : Exit → Act → World → Prop} {S : World → Prop} {fuel : Nat} {listed : Array Bool} {a : Act} {w : World} {i : Nat} {o : Oper} (ho : ops[i]? = some o) (hw : Region.wanted o (yielded ops a.tmps) = true)
    (h : ∀ K' : Act → World → Prop, Shut (∀ a w, S w → (S w → wpAnyH P md ops Q S fuel (listed.setIfInBounds i true) a w) → K' a w) → Oper.wp P o a w K' Q) : AllReadyH P md ops Q S fuel listed a w [i] :=
  AllReadyH.cons ho (fun K hK => by rw [if_pos hw]; exact h K hK) AllReadyH.nil
theorem bys_one (p : ByteArray) : bys [UInt8.ofNat p.size] = [.int .u8 ((p.size : Int) % 256)] := by
  unfold bys
  simp only [List.map_cons, List.map_nil, UInt8.toNat_ofNat']
  simp
theorem ptr_two (n : Nat) (h : n < 16384) : ∃ mm : List UInt8, mm.length = 2 ∧ [UInt8.ofNat (192 + n / 256), UInt8.ofNat (n % 256)] = mm ∧ bys mm = [.int .u8 (192 + (n : Int) / 256), .int .u8 ((n : Int) % 256)] := by
  refine ⟨_, rfl, rfl, ?_⟩
  rw [bys_two (by omega) (by omega)]
  rfl
set_option maxRecDepth 100000 in
set_option maxHeartbeats 4000000 in
theorem refName8_any (vB vN vA : Value) (l : List UInt8) (ns : List ByteArray) (ats : List Nat) (s : ByteArray) (w : World) (B : Nat) (hb : w.ownsRow B 5 1 vB l.length (bys l)) (hn : w.ownsRow B 9 1 vN ns.length (ns.map Value.string)) (ha : w.ownsRow B 3 1 vA ats.length (intsL ats)) (hB : B ≤ w.heap.size) (hlen : ats.length = ns.length) (hl : l.length ≤ 1000000) (hns : ns.length ≤ 1000000) (hsm : ∀ p ∈ ns, p.size ≤ 2000000) (hat : ∀ a ∈ ats, a < 16384) (hs : s.size ≤ 900) :
    Calls Try.prog 35 #[.agg #[vB, vN, vA], .string s] w (NameRet w B (blk3 vB vN vA) (mayN s) (if mayN s = true then nm8 s (labelsB s) ((labelsB s).length + 1) 0 l ns ats else (l, ns, ats))) := by
  obtain ⟨aB, cB, rfl⟩ := own_slice hb
  obtain ⟨aN, cN, rfl⟩ := own_slice hn
  obtain ⟨aA, cA, rfl⟩ := own_slice ha
  have HLEN := Lib.hid hlen
  have HMA := fun W => Lib.hid (refMay8_any s W (by omega))
  have HLA := fun W => Lib.hid (refLabels_new s W (by omega))
  have hln := labels_len s
  have hlb := labels_small s
  obtain ⟨W, hW⟩ : ∃ W, (w.alloc (.cells #[.slice aB l.length cB, .slice aN ns.length cN, .slice aA ats.length cA] 70)).alloc (.cells #[.slice none 0 0, .slice none 0 0, .slice none 0 0] 70) = W := ⟨_, rfl⟩
  have hb0 : Below w.heap.size w W := by rw [← hW]; exact ((Below.refl _ _).alloc (Nat.le_refl _) _).alloc (by simp) _
  have HB0 := Lib.hid hb0
  have hsz0 : W.heap.size = w.heap.size + 2 := by rw [← hW]; simp
  have HBX : Hid (WBox W w.heap.size (.slice aB l.length cB) (.slice aN ns.length cN) (.slice aA ats.length cA)) := Lib.hid (by rw [← hW]; exact (WBox.new w _ _ _).kept (((Below.refl _ _).alloc (Nat.le_refl _) _).block _ (WBox.new w _ _ _).lt))
  have HRX : Hid (WBox W (w.heap.size + 1) nilS nilS nilS) := Lib.hid (by
    have := WBox.new (w.alloc (.cells #[.slice aB l.length cB, .slice aN ns.length cN, .slice aA ats.length cA] 70)) nilS nilS nilS
    rw [World.size_alloc] at this
    rw [← hW]; exact this)
  have HRB := Lib.hid (own_below8 hb hb0)
  have HRN := Lib.hid (own_below8 hn hb0)
  have HRA := Lib.hid (own_below8 ha hb0)
  have HFB : Hid (∀ k ∈ blk3 (.slice aB l.length cB) (.slice aN ns.length cN) (.slice aA ats.length cA), k < w.heap.size) := Lib.hid (fun k hk => by
    rcases mem_blk3.1 hk with e | e | e
    · exact (hb.lt k e).2
    · exact (hn.lt k e).2
    · exact (ha.lt k e).2)
  obtain ⟨F0, hF0⟩ : ∃ F0, blk3 (.slice aB l.length cB) (.slice aN ns.length cN) (.slice aA ats.length cA) = F0 := ⟨_, rfl⟩
  have HF0 := Lib.hid hF0
  rw [hF0]
  obtain ⟨m, hm⟩ : ∃ m, mayN s = m := ⟨_, rfl⟩
  rw [hm] at HMA ⊢
  obtain ⟨R, hR⟩ : ∃ R, (if m = true then nm8 s (labelsB s) ((labelsB s).length + 1) 0 l ns ats else (l, ns, ats)) = R := ⟨_, rfl⟩
  have HR := Lib.hid hR
  rw [hR]
  clear hlen hF0 hR hm hb hn ha
  have HWW := Lib.hid hW
  clear hW
  go_enter Try.func35, Try.ntmps35
  go_upto_region 1 with fail
  rw [HWW.out]
  clear HWW
  go_wp2_with fail
  refine (HMA _).out.mono ?_
  rintro e w0 ⟨rfl, hbm⟩
  have hb1 := chain hb0 hbm
  have HB1 := Lib.hid hb1
  have HBX1 := Lib.hid (HBX.out.kept (hbm.block _ HBX.out.lt))
  have HRX1 := Lib.hid (HRX.out.kept (hbm.block _ HRX.out.lt))
  have HNB := Lib.hid (own_below8 HRB.out hbm)
  have HNN := Lib.hid (own_below8 HRN.out hbm)
  have HNA := Lib.hid (own_below8 HRA.out hbm)
  have hs1 := hbm.size
  clear hbm HBX HRX HMA HRB HRN HRA HB0 hb0
  cases m with
  | false =>
    rw [if_neg (by decide)] at HR
    have ER := HR.out
    subst ER
    have hc0 := HBX1.out.c0
    have hc1 := HBX1.out.c1
    have hc2 := HBX1.out.c2
    have hd0 := HRX1.out.c0
    have hd1 := HRX1.out.c1
    have hd2 := HRX1.out.c2
    have he0 := HRX1.out.f0
    have he1 := HRX1.out.f1
    have he2 := HRX1.out.f2
    have HE := Lib.hid (name_laid (m := false) HNB.out HNN.out HNA.out (show Foot F0 (blk3 (.slice aB l.length cB) (.slice aN ns.length cN) (.slice aA ats.length cA)) w w0 by rw [HF0.out]; exact Foot.ofBelow F0 hb1) (fun k hk => by have := HFB.out k hk; omega))
    have HX := Lib.hid (HRX1.out.laid (.slice aB l.length cB) (.slice aN ns.length cN) (.slice aA ats.length cA))
    clear HLA
    go_wp2_with fail
    refine bodyPost_ret (results_W Try.results35 rfl HX.out) rfl ?_
    exact HE.out
  | true =>
    rw [if_pos rfl] at HR
    clear hs1
    go_wp2_with fail
    refine (HLA _).out.mono ?_
    rintro e w1 ⟨aL, cL, rfl, hrL, hfr, hbl⟩
    have HST : Hid (NSt w B w1.heap.size F0 aL cL (labelsB s) w1 (.slice aB l.length cB) (.slice aN ns.length cN) (.slice aA ats.length cA) l ns ats) := Lib.hid ⟨HBX1.out.kept (hbl.block _ HBX1.out.lt), HRX1.out.kept (hbl.block _ HRX1.out.lt), own_below8 HNB.out hbl, own_below8 HNN.out hbl, own_below8 HNA.out hbl, hrL, by rw [HF0.out]; exact Foot.ofBelow F0 (chain hb1 hbl), (fun k hk => .inl (HFB.out k hk)), Nat.le_refl _, hB, by have := HRX1.out.lt; have := hbl.size; omega, fun g hg => by have := hfr g hg; have := HRX1.out.lt; omega⟩
    have HLS : Hid (∀ p ∈ labelsB s, p.size ≤ 900) := Lib.hid (fun p hp => Nat.le_trans (hlb p hp) hs)
    have HRE := fun k W hk => Lib.hid (refRest_any s k W hs hk)
    have HRZ := Lib.hid (fun k => rest_small s k hs)
    obtain ⟨N, hN⟩ : ∃ N, (labelsB s).length = N := ⟨_, rfl⟩
    have HN := Lib.hid hN
    rw [hN] at hln HR ⊢
    have HSM := Lib.hid hsm
    have HAT := Lib.hid hat
    obtain ⟨S0, hS0⟩ : ∃ S0, w1.heap.size = S0 := ⟨_, rfl⟩
    rw [hS0] at HST
    clear hrL hfr hbl HLA HBX1 HRX1 HNB HNN HNA HB1 hb1 hN hsm hat hlb hS0 HF0 HFB
    generalize labelsB s = L at *
    go_wp2_with fail
    go_loopw [8] (fun s8 wr => ∃ (i f : Nat) (l : List UInt8) (ns : List ByteArray) (ats : List Nat) (vB vN vA : Value), i ≤ N ∧ N + 1 ≤ i + f ∧ s8 = .int .i64 (i : Int) ∧ l.length ≤ 1000000 + i * 1000 ∧ ns.length ≤ 1000000 + i ∧ Hid (ats.length = ns.length) ∧ Hid (∀ p ∈ ns, p.size ≤ 2000000) ∧ Hid (∀ a ∈ ats, a < 16384) ∧ Hid (NSt w B S0 F0 aL cL L wr vB vN vA l ns ats) ∧ Hid (nm8 s L f i l ns ats = R)) (fun s8 _ => N - (intOf s8).toNat)
    case atStart => exact ⟨0, N + 1, l, ns, ats, _, _, _, Nat.zero_le _, by omega, rfl, by omega, by omega, HLEN, HSM, HAT, HST, HR⟩
    case round =>
      clear HST HR HSM HAT HLEN
      obtain ⟨i, f0, l, ns, ats, vB, vN, vA, hi, hif, rfl, hl, hns, HLEN, HSM, HAT, HST, HR⟩ := hrel
      obtain ⟨aB, cB, rfl⟩ := own_slice HST.out.rb
      obtain ⟨aN, cN, rfl⟩ := own_slice HST.out.rn
      obtain ⟨aA, cA, rfl⟩ := own_slice HST.out.ra
      obtain ⟨f, rfl⟩ : ∃ f, f0 = f + 1 := ⟨f0 - 1, by omega⟩
      unfold nm8 at HR
      rw [HN.out] at HR
      by_cases hiN : i < N
      · have hd : decide ((i : Int) < (N : Int)) = true := decide_eq_true (by omega)
        have hdn : decide (i < N) = true := decide_eq_true hiN
        rw [if_neg (by omega)] at HR
        go_wp2_with fail
        refine (HRE i _ (by omega)).out.mono ?_
        rintro e w2 ⟨rfl, hb2⟩
        have HS2 := Lib.hid (HST.out.below hb2)
        have hrz := HRZ.out i
        have HFI := Lib.hid (refFind8_any (.slice aB l.length cB) (.slice aN ns.length cN) (.slice aA ats.length cA) ns ats (restB s i) B B w2 HS2.out.rn HS2.out.ra HLEN.out (by omega) HSM.out hrz)
        have HMEM := Lib.hid (fun n (h : find8 ns ats (restB s i) = some n) => HAT.out n (find8_mem ns ats (restB s i) n h))
        generalize find8 ns ats (restB s i) = fr at *
        generalize restB s i = rest at *
        have hc0 := HS2.out.box.c0
        have hc1 := HS2.out.box.c1
        have hc2 := HS2.out.box.c2
        clear hb2 HST HRE HRZ
        rcases fr with _ | n
        · rw [show nxI none = -1 from rfl] at HFI
          go_wp2_with fail
          refine HFI.out.mono ?_
          rintro e w3 ⟨rfl, hb3⟩
          have HS3 := Lib.hid (HS2.out.below hb3)
          clear hb3 HFI HS2 hc0 hc1 hc2 HMEM
          try simp only at HR
          by_cases h16 : l.length < 16384
          · rw [if_pos h16, if_pos h16] at HR
            have hd13 : decide ((l.length : Int) < 16384) = true := decide_eq_true (by omega)
            have hd13n : decide (l.length < 16384) = true := decide_eq_true h16
            have HSx := Lib.hid (HS3.out.below (wr' := w3.alloc (.cells #[.string rest] 9)) ((Below.refl _ _).alloc (Nat.le_refl _) _))
            have HO1 := Lib.hid HSx.out.rn
            have HC1 : Hid ((w3.alloc (.cells #[.string rest] 9)).cell? ⟨w3.heap.size, 0, none⟩ = some (.string rest)) := Lib.hid (by rw [World.cell?_alloc_new]; rfl)
            have HN1 : Hid (ns.length ≤ 2000000 ∧ B ≤ (w3.alloc (.cells #[.string rest] 9)).heap.size) := Lib.hid ⟨by omega, by have := HSx.out.base; have := HSx.out.sz; have := HSx.out.two; omega⟩
            have hc0 := HS3.out.box.c0
            have hc1 := HS3.out.box.c1
            go_upto_region 15 with (at_builtin; refine wpList_plain rfl (fun K hK => wp_append_str (p := rest) HO1 HC1 HN1 _ _ rfl rfl rfl (fun v2 w4 HOw HGw HFw => hK _ _ ?_)); obtain ⟨nz, hnz⟩ : ∃ nz, ns ++ [rest] = nz := ⟨_, rfl⟩; rw [hnz] at HOw; have HNZ := Lib.hid hnz; clear hnz; obtain ⟨a2, c2, hv2⟩ := own_slice HOw.out; subst hv2; have hb4 := HSx.out.box.kept (w' := w4) (HGw.out.block _ HSx.out.box.lt (fun e => by have := HSx.out.two; rcases HSx.out.away _ (mem_blk3.2 (.inr (.inl e.symm))) with e | e <;> omega)); have hcc := hb4.c1; have hcf := hb4.f1)
            have HS4 := Lib.hid (HSx.out.put1 HOw.out HGw.out HFw.out)
            clear HSx HO1 HC1 HN1 HOw HGw HFw hb4 hcc hcf hc0 hc1 HS3
            generalize (w4.setCell ⟨w.heap.size, 1, none⟩ (.slice a2 nz.length c2)) = V4 at *
            have HSx := Lib.hid (HS4.out.below (wr' := V4.alloc (.cells #[.int .i64 (l.length : Int)] 3)) ((Below.refl _ _).alloc (Nat.le_refl _) _))
            have HO1 := Lib.hid HSx.out.ra
            have HC1 : Hid ((V4.alloc (.cells #[.int .i64 (l.length : Int)] 3)).cell? ⟨V4.heap.size, 0, none⟩ = some (.int .i64 ((l.length : Nat) : Int))) := Lib.hid (by rw [World.cell?_alloc_new]; rfl)
            have HN1 : Hid (ats.length ≤ 2000000 ∧ B ≤ (V4.alloc (.cells #[.int .i64 (l.length : Int)] 3)).heap.size) := Lib.hid ⟨by have := HLEN.out; omega, by have := HSx.out.base; have := HSx.out.sz; have := HSx.out.two; omega⟩
            have hc0 := HS4.out.box.c0
            have hc2 := HS4.out.box.c2
            go_upto_region 16 with (at_builtin; refine wpList_plain rfl (fun K hK => wp_append_num (p := l.length) HO1 HC1 HN1 _ _ rfl rfl rfl (fun v3 w5 HOw HGw HFw => hK _ _ ?_)); obtain ⟨az, haz⟩ : ∃ az, ats ++ [l.length] = az := ⟨_, rfl⟩; rw [haz] at HOw; have HAZ := Lib.hid haz; clear haz; obtain ⟨a3, c3, hv3⟩ := own_slice HOw.out; subst hv3; have hb4 := HSx.out.box.kept (w' := w5) (HGw.out.block _ HSx.out.box.lt (fun e => by have := HSx.out.two; rcases HSx.out.away _ (mem_blk3.2 (.inr (.inr e.symm))) with e | e <;> omega)); have hcc := hb4.c2; have hcf := hb4.f2)
            have HS5 := Lib.hid (HSx.out.put2 HOw.out HGw.out HFw.out)
            clear HSx HO1 HC1 HN1 HOw HGw HFw hb4 hcc hcf hc0 hc2 HS4
            generalize (w5.setCell ⟨w.heap.size, 2, none⟩ (.slice a3 az.length c3)) = V5 at *
            rw [HNZ.out, HAZ.out] at HR
            have HL2 : Hid (az.length = nz.length) := Lib.hid (by rw [← HAZ.out, ← HNZ.out]; simp [HLEN.out])
            have HSM2 : Hid (∀ p ∈ nz, p.size ≤ 2000000) := Lib.hid (fun p hp => by
              rw [← HNZ.out] at hp
              rcases List.mem_append.1 hp with hp | hp
              · exact HSM.out p hp
              · rw [List.mem_singleton.1 hp]; exact hrz)
            have HAT2 : Hid (∀ a ∈ az, a < 16384) := Lib.hid (fun a ha => by
              rw [← HAZ.out] at ha
              rcases List.mem_append.1 ha with ha | ha
              · exact HAT.out a ha
              · rw [List.mem_singleton.1 ha]; exact h16)
            have hns2 : nz.length ≤ 1000000 + (i + 1) := by rw [← HNZ.out]; simp; omega
            clear HNZ HAZ HLEN HSM HAT
            obtain ⟨gL, hgL, hcL⟩ : ∃ gL, aL = some ⟨gL, 0, none⟩ ∧ V5.cell? ⟨gL, i, none⟩ = some (.string (L.getD i ⟨#[]⟩)) := by
              rcases HS5.out.lab with ⟨_, _, h0⟩ | ⟨g, rfl, h⟩
              · rw [h0] at HN; have := HN.out; simp at this; omega
              · exact ⟨g, rfl, h.cells i (by rw [HN.out]; exact hiN)⟩
            subst hgL
            have hfr := HS5.out.fresh gL rfl
            have hzp : (L.getD i ⟨#[]⟩).size ≤ 900 := getD_small HLS.out i
            generalize L.getD i ⟨#[]⟩ = p at *
            obtain ⟨S, hS⟩ : ∃ S : World → Prop, (fun W => W.cell? ⟨gL, i, none⟩ = some (.string p)) = S := ⟨_, rfl⟩
            have CL : Hid (∀ w', S w' → w'.cell? ⟨gL, i, none⟩ = some (.string p)) := Lib.hid (fun w' h => by rw [← hS] at h; exact h)
            have HSk : Hid (∀ A A', S A → A'.heap[gL]? = A.heap[gL]? → S A') := Lib.hid (fun A A' h hk => by rw [← hS] at h ⊢; exact (World.cell?_of_block (a := ⟨gL, i, none⟩) hk).trans h)
            have HSD : Hid (S V5.drew) := Lib.hid (by rw [← hS]; exact hcL)
            have HS5d := Lib.hid (HS5.out.below (Below.refl _ _).drew)
            have hb1 : (0 : Int) ≤ (i : Int) := by omega
            have hb2 : (i : Int) < (N : Int) := by omega
            clear hS hcL HS5
            refine wp_region_noPanic ?_
            refine wp_region_held_drew (S := S) (by kernel_rfl) HSD.out (fun hHeld => ?_)
            generalize V5.drew = V at *
            have HSx := Lib.hid (HS5d.out.below (wr' := V.alloc (.cells #[.int .u8 ((p.size : Int) % 256)] 5)) ((Below.refl _ _).alloc (Nat.le_refl _) _))
            have HO1 := Lib.hid HSx.out.rb
            have HC1 : Hid (∀ j u, (bys [UInt8.ofNat p.size])[j]? = some u → (V.alloc (.cells #[.int .u8 ((p.size : Int) % 256)] 5)).cell? ⟨V.heap.size, j, none⟩ = some u) := Lib.hid (fun j u hu => cells_new8 V [.int .u8 ((p.size : Int) % 256)] 5 j u (by rw [← bys_one]; exact hu))
            have HN1 : Hid (l.length + ([UInt8.ofNat p.size] : List UInt8).length ≤ 1000000000 ∧ B ≤ (V.alloc (.cells #[.int .u8 ((p.size : Int) % 256)] 5)).heap.size) := Lib.hid ⟨by simp; omega, by have := HSx.out.base; have := HSx.out.sz; have := HSx.out.two; omega⟩
            have hSx := HSk.out V (V.alloc (.cells #[.int .u8 ((p.size : Int) % 256)] 5)) HSD.out (((Below.refl _ _).alloc (Nat.le_refl _) _).block gL (by have := HS5d.out.sz; omega))
            have hc0 := HS5d.out.box.c0
            have hx0 := HSx.out.box.c0
            clear HS5d
            refine wpAnyH_take (i := 0) (v := ?_) rfl (by kernel_rfl) (by kernel_rfl) (by kernel_rfl) (fun _ _ _ h => h) (Or.inl ⟨by rfl, ?_⟩) (by assumption) ?_
            rotate_left
            · (intro w hSw; go_simp; try (with_reducible rfl))
            try simp only [Act.put, List.getElem_toArray, List.getElem_cons_zero, List.setIfInBounds_toArray, List.set_cons_zero, List.set_cons_succ]
            refine wpAnyH_take (i := 2) (v := ?_) rfl (by kernel_rfl) (by kernel_rfl) (by kernel_rfl) (fun _ _ _ h => h) (Or.inl ⟨by rfl, ?_⟩) (by assumption) ?_
            rotate_left
            · (intro w hSw; go_simp; try (with_reducible rfl))
            try simp only [Act.put, List.getElem_toArray, List.getElem_cons_zero, List.getElem_cons_succ, List.setIfInBounds_toArray, List.set_cons_zero, List.set_cons_succ]
            refine wpAnyH_take (i := 3) (v := ?_) rfl (by kernel_rfl) (by kernel_rfl) (by kernel_rfl) (fun _ _ _ h => h) (Or.inl ⟨by rfl, ?_⟩) (by assumption) ?_
            rotate_left
            · (intro w hSw; go_simp; try (with_reducible rfl))
            try simp only [Act.put, List.getElem_toArray, List.getElem_cons_zero, List.getElem_cons_succ, List.setIfInBounds_toArray, List.set_cons_zero, List.set_cons_succ]
            refine wpAnyH_take (i := 4) (v := ?_) rfl (by kernel_rfl) (by kernel_rfl) (by kernel_rfl) (fun _ _ _ h => h) (Or.inl ⟨by rfl, ?_⟩) (by assumption) ?_
            rotate_left
            · (intro w hSw; go_simp; try (with_reducible rfl))
            try simp only [Act.put, List.getElem_toArray, List.getElem_cons_zero, List.getElem_cons_succ, List.setIfInBounds_toArray, List.set_cons_zero, List.set_cons_succ]
            refine wpAnyH_take (i := 5) (v := ?_) rfl (by kernel_rfl) (by kernel_rfl) (by kernel_rfl) (fun _ _ _ h => h) (Or.inl ⟨by rfl, ?_⟩) (by assumption) ?_
            rotate_left
            · (intro w hSw; have hc0 := CL.out w hSw; go_simp; try (with_reducible rfl))
            try simp only [Act.put, List.getElem_toArray, List.getElem_cons_zero, List.getElem_cons_succ, List.setIfInBounds_toArray, List.set_cons_zero, List.set_cons_succ]
            refine wpAnyH_take (i := 6) (v := ?_) rfl (by kernel_rfl) (by kernel_rfl) (by kernel_rfl) (fun _ _ _ h => h) (Or.inl ⟨by rfl, ?_⟩) (by assumption) ?_
            rotate_left
            · (intro w hSw; go_simp; try (with_reducible rfl))
            try simp only [Act.put, List.getElem_toArray, List.getElem_cons_zero, List.getElem_cons_succ, List.setIfInBounds_toArray, List.set_cons_zero, List.set_cons_succ]
            refine wpAnyH_take (i := 7) (v := ?_) rfl (by kernel_rfl) (by kernel_rfl) (by kernel_rfl) (fun _ _ _ h => h) (Or.inl ⟨by rfl, ?_⟩) (by assumption) ?_
            rotate_left
            · (intro w hSw; go_simp; try (with_reducible rfl))
            try simp only [Act.put, List.getElem_toArray, List.getElem_cons_zero, List.getElem_cons_succ, List.setIfInBounds_toArray, List.set_cons_zero, List.set_cons_succ]
            refine wpAnyH_ready (rs := [1, 8]) (by kernel_rfl) (by simp) ?_
            refine AllReadyH.cons rfl (fun K hK => ?_) (ready_one rfl rfl (fun K hK => ?_))
            · rw [if_pos (by rfl)]
              go_wp2_with fail
              refine hK.out _ _ hHeld (fun hHeld1 => ?_)
              clear hK K
              try simp only [Act.put, List.getElem_toArray, List.getElem_cons_zero, List.getElem_cons_succ, List.setIfInBounds_toArray, List.set_cons_zero, List.set_cons_succ]
              refine wpAnyH_ready (rs := [8]) (by kernel_rfl) (by simp) ?_
              refine ready_one rfl rfl (fun K hK => ?_)
              go_wp2_with fail
              refine hK.out _ _ hSx (fun hHeld2 => ?_)
              clear hK K
              try simp only [Act.put, List.getElem_toArray, List.getElem_cons_zero, List.getElem_cons_succ, List.setIfInBounds_toArray, List.set_cons_zero, List.set_cons_succ]
              refine wpAnyH_ready (rs := [9]) (by kernel_rfl) (by simp) ?_
              refine ready_one rfl rfl (fun K hK => ?_)
              refine wp_append_bytes (m := [UInt8.ofNat p.size]) HO1 HC1 HN1 _ _ rfl rfl rfl (fun v6 w6 HOw HGw HFw => ?_)
              obtain ⟨lz, hlz⟩ : ∃ lz, l ++ [UInt8.ofNat p.size] = lz := ⟨_, rfl⟩
              rw [hlz] at HOw
              have HLZ := Lib.hid hlz
              clear hlz
              obtain ⟨a6, c6, hv6⟩ := own_slice HOw.out
              subst hv6
              have hb6 := HSx.out.box.kept (w' := w6) (HGw.out.block _ HSx.out.box.lt (fun e => by have := HSx.out.two; rcases HSx.out.away _ (mem_blk3.2 (.inl e.symm)) with e | e <;> omega))
              have hcc := hb6.c0
              have hcf := hb6.f0
              have hS6 := HSk.out _ w6 hSx (HGw.out.block gL (Nat.lt_of_lt_of_le hfr.2 HSx.out.sz) (fun e => by rcases HSx.out.away _ (mem_blk3.2 (.inl e.symm)) with e | e <;> omega))
              refine hK.out _ _ hS6 (fun hHeld6 => ?_)
              clear hK K
              try simp only [Act.put, List.getElem_toArray, List.getElem_cons_zero, List.getElem_cons_succ, List.setIfInBounds_toArray, List.set_cons_zero, List.set_cons_succ]
              have HS6 := Lib.hid (HSx.out.put0 HOw.out HGw.out HFw.out)
              refine wpAnyH_take (i := 10) (v := ?_) rfl (by kernel_rfl) (by kernel_rfl) (by kernel_rfl) (fun _ _ _ h => h) (Or.inl ⟨by rfl, ?_⟩) (by assumption) ?_
              rotate_left
              · (intro w hSw; go_simp; try (with_reducible rfl))
              try simp only [Act.put, List.getElem_toArray, List.getElem_cons_zero, List.getElem_cons_succ, List.setIfInBounds_toArray, List.set_cons_zero, List.set_cons_succ]
              have hS7 := HSk.out _ (w6.setCell ⟨w.heap.size, 0, none⟩ (.slice a6 lz.length c6)) hS6 (Below.heap_setCell w6 ⟨w.heap.size, 0, none⟩ _ gL (show gL ≠ w.heap.size by omega))
              refine wpAnyH_ready (rs := [11]) (by kernel_rfl) (by simp) ?_
              refine ready_one rfl rfl (fun K hK => ?_)
              go_wp2_with fail
              refine hK.out _ _ hS7 (fun hHeld7 => ?_)
              clear hK K HO1 HC1 HN1 HOw HGw HFw hb6 hcc hcf HSx
              try simp only [Act.put, List.getElem_toArray, List.getElem_cons_zero, List.getElem_cons_succ]
              refine wpAnyH_done (by kernel_rfl) ?_ _
              refine NoPanic.normal ?_
              generalize (w6.setCell ⟨w.heap.size, 0, none⟩ (.slice a6 lz.length c6)) = V6 at *
              have HLZ2 : Hid (lz.length = l.length + 1) := Lib.hid (by rw [← HLZ.out]; simp)
              have HS6d := Lib.hid (HS6.out.below (Below.refl _ _).drew)
              have HSD7 : Hid (S V6.drew) := Lib.hid (HSk.out V6 V6.drew hS7 rfl)
              clear HS6 hS7
              go_wp2_with fail
              refine wp_region_noPanic ?_
              refine wp_region_held_drew (S := S) (by kernel_rfl) HSD7.out (fun hHeld8 => ?_)
              generalize V6.drew = V7 at *
              have hc7 := HS6d.out.box.c0
              have HO7 := Lib.hid HS6d.out.rb
              have HN7 : Hid (lz.length + p.size ≤ 1000000000 ∧ B ≤ V7.heap.size) := Lib.hid ⟨by have := HLZ2.out; omega, by have := HS6d.out.base; have := HS6d.out.sz; have := HS6d.out.two; omega⟩
              refine wpAnyH_take (i := 0) (v := ?_) rfl (by kernel_rfl) (by kernel_rfl) (by kernel_rfl) (fun _ _ _ h => h) (Or.inl ⟨by rfl, ?_⟩) (by assumption) ?_
              rotate_left
              · (intro w hSw; go_simp; try (with_reducible rfl))
              try simp only [Act.put, List.getElem_toArray, List.getElem_cons_zero, List.setIfInBounds_toArray, List.set_cons_zero, List.set_cons_succ]
              refine wpAnyH_take (i := 2) (v := ?_) rfl (by kernel_rfl) (by kernel_rfl) (by kernel_rfl) (fun _ _ _ h => h) (Or.inl ⟨by rfl, ?_⟩) (by assumption) ?_
              rotate_left
              · (intro w hSw; go_simp; try (with_reducible rfl))
              try simp only [Act.put, List.getElem_toArray, List.getElem_cons_zero, List.getElem_cons_succ, List.setIfInBounds_toArray, List.set_cons_zero, List.set_cons_succ]
              refine wpAnyH_take (i := 3) (v := ?_) rfl (by kernel_rfl) (by kernel_rfl) (by kernel_rfl) (fun _ _ _ h => h) (Or.inl ⟨by rfl, ?_⟩) (by assumption) ?_
              rotate_left
              · (intro w hSw; go_simp; try (with_reducible rfl))
              try simp only [Act.put, List.getElem_toArray, List.getElem_cons_zero, List.getElem_cons_succ, List.setIfInBounds_toArray, List.set_cons_zero, List.set_cons_succ]
              refine wpAnyH_take (i := 4) (v := ?_) rfl (by kernel_rfl) (by kernel_rfl) (by kernel_rfl) (fun _ _ _ h => h) (Or.inl ⟨by rfl, ?_⟩) (by assumption) ?_
              rotate_left
              · (intro w hSw; go_simp; try (with_reducible rfl))
              try simp only [Act.put, List.getElem_toArray, List.getElem_cons_zero, List.getElem_cons_succ, List.setIfInBounds_toArray, List.set_cons_zero, List.set_cons_succ]
              refine wpAnyH_take (i := 5) (v := ?_) rfl (by kernel_rfl) (by kernel_rfl) (by kernel_rfl) (fun _ _ _ h => h) (Or.inl ⟨by rfl, ?_⟩) (by assumption) ?_
              rotate_left
              · (intro w hSw; have hc0 := CL.out w hSw; go_simp; try (with_reducible rfl))
              try simp only [Act.put, List.getElem_toArray, List.getElem_cons_zero, List.getElem_cons_succ, List.setIfInBounds_toArray, List.set_cons_zero, List.set_cons_succ]
              refine wpAnyH_ready (rs := [1]) (by kernel_rfl) (by simp) ?_
              refine AllReadyH.cons rfl (fun K hK => ?_) AllReadyH.nil
              rw [if_pos (by rfl)]
              go_wp2_with fail
              refine hK.out _ _ HSD7.out (fun hHeld9 => ?_)
              clear hK K
              try simp only [Act.put, List.getElem_toArray, List.getElem_cons_zero, List.getElem_cons_succ, List.setIfInBounds_toArray, List.set_cons_zero, List.set_cons_succ]
              refine wpAnyH_ready (rs := [6]) (by kernel_rfl) (by simp) ?_
              refine ready_one rfl rfl (fun K hK => ?_)
              refine wp_append_text (s := p) HO7 HN7 _ _ rfl rfl rfl (fun v8 w8 HOw HGw HFw => ?_)
              obtain ⟨ly, hly⟩ : ∃ ly, lz ++ p.data.toList = ly := ⟨_, rfl⟩
              rw [hly] at HOw
              have HLY := Lib.hid hly
              clear hly
              obtain ⟨a8, c8, hv8⟩ := own_slice HOw.out
              subst hv8
              have hb8 := HS6d.out.box.kept (w' := w8) (HGw.out.block _ HS6d.out.box.lt (fun e => by have := HS6d.out.two; rcases HS6d.out.away _ (mem_blk3.2 (.inl e.symm)) with e | e <;> omega))
              have hcc := hb8.c0
              have hcf := hb8.f0
              have hS8 := HSk.out _ w8 HSD7.out (HGw.out.block gL (Nat.lt_of_lt_of_le hfr.2 HS6d.out.sz) (fun e => by rcases HS6d.out.away _ (mem_blk3.2 (.inl e.symm)) with e | e <;> omega))
              refine hK.out _ _ hS8 (fun hHelda => ?_)
              clear hK K
              try simp only [Act.put, List.getElem_toArray, List.getElem_cons_zero, List.getElem_cons_succ, List.setIfInBounds_toArray, List.set_cons_zero, List.set_cons_succ]
              have HS8 := Lib.hid (HS6d.out.put0 HOw.out HGw.out HFw.out)
              have hS9 := HSk.out _ (w8.setCell ⟨w.heap.size, 0, none⟩ (.slice a8 ly.length c8)) hS8 (Below.heap_setCell w8 ⟨w.heap.size, 0, none⟩ _ gL (show gL ≠ w.heap.size by omega))
              refine wpAnyH_take (i := 7) (v := ?_) rfl (by kernel_rfl) (by kernel_rfl) (by kernel_rfl) (fun _ _ _ h => h) (Or.inl ⟨by rfl, ?_⟩) (by assumption) ?_
              rotate_left
              · (intro w hSw; go_simp; try (with_reducible rfl))
              try simp only [Act.put, List.getElem_toArray, List.getElem_cons_zero, List.getElem_cons_succ, List.setIfInBounds_toArray, List.set_cons_zero, List.set_cons_succ]
              refine wpAnyH_ready (rs := [8]) (by kernel_rfl) (by simp) ?_
              refine ready_one rfl rfl (fun K hK => ?_)
              go_wp2_with fail
              refine hK.out _ _ hS9 (fun hHeldb => ?_)
              clear hK K HO7 HN7 HOw HGw HFw hb8 hcc hcf HS6d hc7
              try simp only [Act.put, List.getElem_toArray, List.getElem_cons_zero, List.getElem_cons_succ]
              refine wpAnyH_done (by kernel_rfl) ?_ _
              refine NoPanic.normal ?_
              generalize (w8.setCell ⟨w.heap.size, 0, none⟩ (.slice a8 ly.length c8)) = V8 at *
              have HRf : Hid (nm8 s L f (i + 1) ly nz az = R) := Lib.hid (by rw [← HLY.out, ← HLZ.out, List.append_assoc]; exact HR.out)
              have hlyl : ly.length ≤ 1000000 + (i + 1) * 1000 := by
                have e : p.data.toList.length = p.size := Array.length_toList
                rw [← HLY.out, List.length_append, e, HLZ2.out]
                omega
              clear HR HLY HLZ HLZ2 HSD7 HSk CL
              go_wp2_with fail
              go_roundw
              case rel => exact ⟨i + 1, f, ly, nz, az, _, _, _, by omega, by omega, by go_num, hlyl, hns2, HL2, HSM2, HAT2, HS8, HRf⟩
              case measure => simp [intOf]; omega
            · go_wp2_with fail
              refine hK.out _ _ hSx (fun hHeld1 => ?_)
              clear hK K
              try simp only [Act.put, List.getElem_toArray, List.getElem_cons_zero, List.getElem_cons_succ, List.setIfInBounds_toArray, List.set_cons_zero, List.set_cons_succ]
              generalize (V.alloc (.cells #[.int .u8 ((p.size : Int) % 256)] 5)) = X at *
              generalize V.heap.size = GX at *
              refine wpAnyH_ready (rs := [1]) (by kernel_rfl) (by simp) ?_
              refine AllReadyH.cons rfl (fun K hK => ?_) AllReadyH.nil
              rw [if_pos (by rfl)]
              go_wp2_with fail
              refine hK.out _ _ hSx (fun hHeld2 => ?_)
              clear hK K
              try simp only [Act.put, List.getElem_toArray, List.getElem_cons_zero, List.getElem_cons_succ, List.setIfInBounds_toArray, List.set_cons_zero, List.set_cons_succ]
              refine wpAnyH_ready (rs := [9]) (by kernel_rfl) (by simp) ?_
              refine ready_one rfl rfl (fun K hK => ?_)
              refine wp_append_bytes (m := [UInt8.ofNat p.size]) HO1 HC1 HN1 _ _ rfl rfl rfl (fun v6 w6 HOw HGw HFw => ?_)
              obtain ⟨lz, hlz⟩ : ∃ lz, l ++ [UInt8.ofNat p.size] = lz := ⟨_, rfl⟩
              rw [hlz] at HOw
              have HLZ := Lib.hid hlz
              clear hlz
              obtain ⟨a6, c6, hv6⟩ := own_slice HOw.out
              subst hv6
              have hb6 := HSx.out.box.kept (w' := w6) (HGw.out.block _ HSx.out.box.lt (fun e => by have := HSx.out.two; rcases HSx.out.away _ (mem_blk3.2 (.inl e.symm)) with e | e <;> omega))
              have hcc := hb6.c0
              have hcf := hb6.f0
              have hS6 := HSk.out _ w6 hSx (HGw.out.block gL (Nat.lt_of_lt_of_le hfr.2 HSx.out.sz) (fun e => by rcases HSx.out.away _ (mem_blk3.2 (.inl e.symm)) with e | e <;> omega))
              refine hK.out _ _ hS6 (fun hHeld6 => ?_)
              clear hK K
              try simp only [Act.put, List.getElem_toArray, List.getElem_cons_zero, List.getElem_cons_succ, List.setIfInBounds_toArray, List.set_cons_zero, List.set_cons_succ]
              have HS6 := Lib.hid (HSx.out.put0 HOw.out HGw.out HFw.out)
              refine wpAnyH_take (i := 10) (v := ?_) rfl (by kernel_rfl) (by kernel_rfl) (by kernel_rfl) (fun _ _ _ h => h) (Or.inl ⟨by rfl, ?_⟩) (by assumption) ?_
              rotate_left
              · (intro w hSw; go_simp; try (with_reducible rfl))
              try simp only [Act.put, List.getElem_toArray, List.getElem_cons_zero, List.getElem_cons_succ, List.setIfInBounds_toArray, List.set_cons_zero, List.set_cons_succ]
              have hS7 := HSk.out _ (w6.setCell ⟨w.heap.size, 0, none⟩ (.slice a6 lz.length c6)) hS6 (Below.heap_setCell w6 ⟨w.heap.size, 0, none⟩ _ gL (show gL ≠ w.heap.size by omega))
              refine wpAnyH_ready (rs := [11]) (by kernel_rfl) (by simp) ?_
              refine ready_one rfl rfl (fun K hK => ?_)
              go_wp2_with fail
              refine hK.out _ _ hS7 (fun hHeld7 => ?_)
              clear hK K HO1 HC1 HN1 HOw HGw HFw hb6 hcc hcf HSx
              try simp only [Act.put, List.getElem_toArray, List.getElem_cons_zero, List.getElem_cons_succ]
              refine wpAnyH_done (by kernel_rfl) ?_ _
              refine NoPanic.normal ?_
              generalize (w6.setCell ⟨w.heap.size, 0, none⟩ (.slice a6 lz.length c6)) = V6 at *
              have HLZ2 : Hid (lz.length = l.length + 1) := Lib.hid (by rw [← HLZ.out]; simp)
              have HS6d := Lib.hid (HS6.out.below (Below.refl _ _).drew)
              have HSD7 : Hid (S V6.drew) := Lib.hid (HSk.out V6 V6.drew hS7 rfl)
              clear HS6 hS7
              go_wp2_with fail
              refine wp_region_noPanic ?_
              refine wp_region_held_drew (S := S) (by kernel_rfl) HSD7.out (fun hHeld8 => ?_)
              generalize V6.drew = V7 at *
              have hc7 := HS6d.out.box.c0
              have HO7 := Lib.hid HS6d.out.rb
              have HN7 : Hid (lz.length + p.size ≤ 1000000000 ∧ B ≤ V7.heap.size) := Lib.hid ⟨by have := HLZ2.out; omega, by have := HS6d.out.base; have := HS6d.out.sz; have := HS6d.out.two; omega⟩
              refine wpAnyH_take (i := 0) (v := ?_) rfl (by kernel_rfl) (by kernel_rfl) (by kernel_rfl) (fun _ _ _ h => h) (Or.inl ⟨by rfl, ?_⟩) (by assumption) ?_
              rotate_left
              · (intro w hSw; go_simp; try (with_reducible rfl))
              try simp only [Act.put, List.getElem_toArray, List.getElem_cons_zero, List.setIfInBounds_toArray, List.set_cons_zero, List.set_cons_succ]
              refine wpAnyH_take (i := 2) (v := ?_) rfl (by kernel_rfl) (by kernel_rfl) (by kernel_rfl) (fun _ _ _ h => h) (Or.inl ⟨by rfl, ?_⟩) (by assumption) ?_
              rotate_left
              · (intro w hSw; go_simp; try (with_reducible rfl))
              try simp only [Act.put, List.getElem_toArray, List.getElem_cons_zero, List.getElem_cons_succ, List.setIfInBounds_toArray, List.set_cons_zero, List.set_cons_succ]
              refine wpAnyH_take (i := 3) (v := ?_) rfl (by kernel_rfl) (by kernel_rfl) (by kernel_rfl) (fun _ _ _ h => h) (Or.inl ⟨by rfl, ?_⟩) (by assumption) ?_
              rotate_left
              · (intro w hSw; go_simp; try (with_reducible rfl))
              try simp only [Act.put, List.getElem_toArray, List.getElem_cons_zero, List.getElem_cons_succ, List.setIfInBounds_toArray, List.set_cons_zero, List.set_cons_succ]
              refine wpAnyH_take (i := 4) (v := ?_) rfl (by kernel_rfl) (by kernel_rfl) (by kernel_rfl) (fun _ _ _ h => h) (Or.inl ⟨by rfl, ?_⟩) (by assumption) ?_
              rotate_left
              · (intro w hSw; go_simp; try (with_reducible rfl))
              try simp only [Act.put, List.getElem_toArray, List.getElem_cons_zero, List.getElem_cons_succ, List.setIfInBounds_toArray, List.set_cons_zero, List.set_cons_succ]
              refine wpAnyH_take (i := 5) (v := ?_) rfl (by kernel_rfl) (by kernel_rfl) (by kernel_rfl) (fun _ _ _ h => h) (Or.inl ⟨by rfl, ?_⟩) (by assumption) ?_
              rotate_left
              · (intro w hSw; have hc0 := CL.out w hSw; go_simp; try (with_reducible rfl))
              try simp only [Act.put, List.getElem_toArray, List.getElem_cons_zero, List.getElem_cons_succ, List.setIfInBounds_toArray, List.set_cons_zero, List.set_cons_succ]
              refine wpAnyH_ready (rs := [1]) (by kernel_rfl) (by simp) ?_
              refine AllReadyH.cons rfl (fun K hK => ?_) AllReadyH.nil
              rw [if_pos (by rfl)]
              go_wp2_with fail
              refine hK.out _ _ HSD7.out (fun hHeld9 => ?_)
              clear hK K
              try simp only [Act.put, List.getElem_toArray, List.getElem_cons_zero, List.getElem_cons_succ, List.setIfInBounds_toArray, List.set_cons_zero, List.set_cons_succ]
              refine wpAnyH_ready (rs := [6]) (by kernel_rfl) (by simp) ?_
              refine ready_one rfl rfl (fun K hK => ?_)
              refine wp_append_text (s := p) HO7 HN7 _ _ rfl rfl rfl (fun v8 w8 HOw HGw HFw => ?_)
              obtain ⟨ly, hly⟩ : ∃ ly, lz ++ p.data.toList = ly := ⟨_, rfl⟩
              rw [hly] at HOw
              have HLY := Lib.hid hly
              clear hly
              obtain ⟨a8, c8, hv8⟩ := own_slice HOw.out
              subst hv8
              have hb8 := HS6d.out.box.kept (w' := w8) (HGw.out.block _ HS6d.out.box.lt (fun e => by have := HS6d.out.two; rcases HS6d.out.away _ (mem_blk3.2 (.inl e.symm)) with e | e <;> omega))
              have hcc := hb8.c0
              have hcf := hb8.f0
              have hS8 := HSk.out _ w8 HSD7.out (HGw.out.block gL (Nat.lt_of_lt_of_le hfr.2 HS6d.out.sz) (fun e => by rcases HS6d.out.away _ (mem_blk3.2 (.inl e.symm)) with e | e <;> omega))
              refine hK.out _ _ hS8 (fun hHelda => ?_)
              clear hK K
              try simp only [Act.put, List.getElem_toArray, List.getElem_cons_zero, List.getElem_cons_succ, List.setIfInBounds_toArray, List.set_cons_zero, List.set_cons_succ]
              have HS8 := Lib.hid (HS6d.out.put0 HOw.out HGw.out HFw.out)
              have hS9 := HSk.out _ (w8.setCell ⟨w.heap.size, 0, none⟩ (.slice a8 ly.length c8)) hS8 (Below.heap_setCell w8 ⟨w.heap.size, 0, none⟩ _ gL (show gL ≠ w.heap.size by omega))
              refine wpAnyH_take (i := 7) (v := ?_) rfl (by kernel_rfl) (by kernel_rfl) (by kernel_rfl) (fun _ _ _ h => h) (Or.inl ⟨by rfl, ?_⟩) (by assumption) ?_
              rotate_left
              · (intro w hSw; go_simp; try (with_reducible rfl))
              try simp only [Act.put, List.getElem_toArray, List.getElem_cons_zero, List.getElem_cons_succ, List.setIfInBounds_toArray, List.set_cons_zero, List.set_cons_succ]
              refine wpAnyH_ready (rs := [8]) (by kernel_rfl) (by simp) ?_
              refine ready_one rfl rfl (fun K hK => ?_)
              go_wp2_with fail
              refine hK.out _ _ hS9 (fun hHeldb => ?_)
              clear hK K HO7 HN7 HOw HGw HFw hb8 hcc hcf HS6d hc7
              try simp only [Act.put, List.getElem_toArray, List.getElem_cons_zero, List.getElem_cons_succ]
              refine wpAnyH_done (by kernel_rfl) ?_ _
              refine NoPanic.normal ?_
              generalize (w8.setCell ⟨w.heap.size, 0, none⟩ (.slice a8 ly.length c8)) = V8 at *
              have HRf : Hid (nm8 s L f (i + 1) ly nz az = R) := Lib.hid (by rw [← HLY.out, ← HLZ.out, List.append_assoc]; exact HR.out)
              have hlyl : ly.length ≤ 1000000 + (i + 1) * 1000 := by
                have e : p.data.toList.length = p.size := Array.length_toList
                rw [← HLY.out, List.length_append, e, HLZ2.out]
                omega
              clear HR HLY HLZ HLZ2 HSD7 HSk CL
              go_wp2_with fail
              go_roundw
              case rel => exact ⟨i + 1, f, ly, nz, az, _, _, _, by omega, by omega, by go_num, hlyl, hns2, HL2, HSM2, HAT2, HS8, HRf⟩
              case measure => simp [intOf]; omega
          · rw [if_neg h16, if_neg h16] at HR
            have hd13 : decide ((l.length : Int) < 16384) = false := decide_eq_false (by omega)
            have hd13n : decide (l.length < 16384) = false := decide_eq_false h16
            have hq0 := HS3.out.box.c0
            go_upto_region 16 with fail
            clear hq0
            obtain ⟨gL, hgL, hcL⟩ : ∃ gL, aL = some ⟨gL, 0, none⟩ ∧ w3.cell? ⟨gL, i, none⟩ = some (.string (L.getD i ⟨#[]⟩)) := by
              rcases HS3.out.lab with ⟨_, _, h0⟩ | ⟨g, rfl, h⟩
              · rw [h0] at HN; have := HN.out; simp at this; omega
              · exact ⟨g, rfl, h.cells i (by rw [HN.out]; exact hiN)⟩
            subst hgL
            have hfr := HS3.out.fresh gL rfl
            have hzp : (L.getD i ⟨#[]⟩).size ≤ 900 := getD_small HLS.out i
            generalize L.getD i ⟨#[]⟩ = p at *
            obtain ⟨S, hS⟩ : ∃ S : World → Prop, (fun W => W.cell? ⟨gL, i, none⟩ = some (.string p)) = S := ⟨_, rfl⟩
            have CL : Hid (∀ w', S w' → w'.cell? ⟨gL, i, none⟩ = some (.string p)) := Lib.hid (fun w' h => by rw [← hS] at h; exact h)
            have HSk : Hid (∀ A A', S A → A'.heap[gL]? = A.heap[gL]? → S A') := Lib.hid (fun A A' h hk => by rw [← hS] at h ⊢; exact (World.cell?_of_block (a := ⟨gL, i, none⟩) hk).trans h)
            have HSD : Hid (S w3.drew) := Lib.hid (by rw [← hS]; exact hcL)
            have HS5d := Lib.hid (HS3.out.below (Below.refl _ _).drew)
            have hb1 : (0 : Int) ≤ (i : Int) := by omega
            have hb2 : (i : Int) < (N : Int) := by omega
            clear hS hcL HS3
            refine wp_region_noPanic ?_
            refine wp_region_held_drew (S := S) (by kernel_rfl) HSD.out (fun hHeld => ?_)
            generalize w3.drew = V at *
            have HSx := Lib.hid (HS5d.out.below (wr' := V.alloc (.cells #[.int .u8 ((p.size : Int) % 256)] 5)) ((Below.refl _ _).alloc (Nat.le_refl _) _))
            have HO1 := Lib.hid HSx.out.rb
            have HC1 : Hid (∀ j u, (bys [UInt8.ofNat p.size])[j]? = some u → (V.alloc (.cells #[.int .u8 ((p.size : Int) % 256)] 5)).cell? ⟨V.heap.size, j, none⟩ = some u) := Lib.hid (fun j u hu => cells_new8 V [.int .u8 ((p.size : Int) % 256)] 5 j u (by rw [← bys_one]; exact hu))
            have HN1 : Hid (l.length + ([UInt8.ofNat p.size] : List UInt8).length ≤ 1000000000 ∧ B ≤ (V.alloc (.cells #[.int .u8 ((p.size : Int) % 256)] 5)).heap.size) := Lib.hid ⟨by simp; omega, by have := HSx.out.base; have := HSx.out.sz; have := HSx.out.two; omega⟩
            have hSx := HSk.out V (V.alloc (.cells #[.int .u8 ((p.size : Int) % 256)] 5)) HSD.out (((Below.refl _ _).alloc (Nat.le_refl _) _).block gL (by have := HS5d.out.sz; omega))
            have hc0 := HS5d.out.box.c0
            have hx0 := HSx.out.box.c0
            clear HS5d
            refine wpAnyH_take (i := 0) (v := ?_) rfl (by kernel_rfl) (by kernel_rfl) (by kernel_rfl) (fun _ _ _ h => h) (Or.inl ⟨by rfl, ?_⟩) (by assumption) ?_
            rotate_left
            · (intro w hSw; go_simp; try (with_reducible rfl))
            try simp only [Act.put, List.getElem_toArray, List.getElem_cons_zero, List.setIfInBounds_toArray, List.set_cons_zero, List.set_cons_succ]
            refine wpAnyH_take (i := 2) (v := ?_) rfl (by kernel_rfl) (by kernel_rfl) (by kernel_rfl) (fun _ _ _ h => h) (Or.inl ⟨by rfl, ?_⟩) (by assumption) ?_
            rotate_left
            · (intro w hSw; go_simp; try (with_reducible rfl))
            try simp only [Act.put, List.getElem_toArray, List.getElem_cons_zero, List.getElem_cons_succ, List.setIfInBounds_toArray, List.set_cons_zero, List.set_cons_succ]
            refine wpAnyH_take (i := 3) (v := ?_) rfl (by kernel_rfl) (by kernel_rfl) (by kernel_rfl) (fun _ _ _ h => h) (Or.inl ⟨by rfl, ?_⟩) (by assumption) ?_
            rotate_left
            · (intro w hSw; go_simp; try (with_reducible rfl))
            try simp only [Act.put, List.getElem_toArray, List.getElem_cons_zero, List.getElem_cons_succ, List.setIfInBounds_toArray, List.set_cons_zero, List.set_cons_succ]
            refine wpAnyH_take (i := 4) (v := ?_) rfl (by kernel_rfl) (by kernel_rfl) (by kernel_rfl) (fun _ _ _ h => h) (Or.inl ⟨by rfl, ?_⟩) (by assumption) ?_
            rotate_left
            · (intro w hSw; go_simp; try (with_reducible rfl))
            try simp only [Act.put, List.getElem_toArray, List.getElem_cons_zero, List.getElem_cons_succ, List.setIfInBounds_toArray, List.set_cons_zero, List.set_cons_succ]
            refine wpAnyH_take (i := 5) (v := ?_) rfl (by kernel_rfl) (by kernel_rfl) (by kernel_rfl) (fun _ _ _ h => h) (Or.inl ⟨by rfl, ?_⟩) (by assumption) ?_
            rotate_left
            · (intro w hSw; have hc0 := CL.out w hSw; go_simp; try (with_reducible rfl))
            try simp only [Act.put, List.getElem_toArray, List.getElem_cons_zero, List.getElem_cons_succ, List.setIfInBounds_toArray, List.set_cons_zero, List.set_cons_succ]
            refine wpAnyH_take (i := 6) (v := ?_) rfl (by kernel_rfl) (by kernel_rfl) (by kernel_rfl) (fun _ _ _ h => h) (Or.inl ⟨by rfl, ?_⟩) (by assumption) ?_
            rotate_left
            · (intro w hSw; go_simp; try (with_reducible rfl))
            try simp only [Act.put, List.getElem_toArray, List.getElem_cons_zero, List.getElem_cons_succ, List.setIfInBounds_toArray, List.set_cons_zero, List.set_cons_succ]
            refine wpAnyH_take (i := 7) (v := ?_) rfl (by kernel_rfl) (by kernel_rfl) (by kernel_rfl) (fun _ _ _ h => h) (Or.inl ⟨by rfl, ?_⟩) (by assumption) ?_
            rotate_left
            · (intro w hSw; go_simp; try (with_reducible rfl))
            try simp only [Act.put, List.getElem_toArray, List.getElem_cons_zero, List.getElem_cons_succ, List.setIfInBounds_toArray, List.set_cons_zero, List.set_cons_succ]
            refine wpAnyH_ready (rs := [1, 8]) (by kernel_rfl) (by simp) ?_
            refine AllReadyH.cons rfl (fun K hK => ?_) (ready_one rfl rfl (fun K hK => ?_))
            · rw [if_pos (by rfl)]
              go_wp2_with fail
              refine hK.out _ _ hHeld (fun hHeld1 => ?_)
              clear hK K
              try simp only [Act.put, List.getElem_toArray, List.getElem_cons_zero, List.getElem_cons_succ, List.setIfInBounds_toArray, List.set_cons_zero, List.set_cons_succ]
              refine wpAnyH_ready (rs := [8]) (by kernel_rfl) (by simp) ?_
              refine ready_one rfl rfl (fun K hK => ?_)
              go_wp2_with fail
              refine hK.out _ _ hSx (fun hHeld2 => ?_)
              clear hK K
              try simp only [Act.put, List.getElem_toArray, List.getElem_cons_zero, List.getElem_cons_succ, List.setIfInBounds_toArray, List.set_cons_zero, List.set_cons_succ]
              refine wpAnyH_ready (rs := [9]) (by kernel_rfl) (by simp) ?_
              refine ready_one rfl rfl (fun K hK => ?_)
              refine wp_append_bytes (m := [UInt8.ofNat p.size]) HO1 HC1 HN1 _ _ rfl rfl rfl (fun v6 w6 HOw HGw HFw => ?_)
              obtain ⟨lz, hlz⟩ : ∃ lz, l ++ [UInt8.ofNat p.size] = lz := ⟨_, rfl⟩
              rw [hlz] at HOw
              have HLZ := Lib.hid hlz
              clear hlz
              obtain ⟨a6, c6, hv6⟩ := own_slice HOw.out
              subst hv6
              have hb6 := HSx.out.box.kept (w' := w6) (HGw.out.block _ HSx.out.box.lt (fun e => by have := HSx.out.two; rcases HSx.out.away _ (mem_blk3.2 (.inl e.symm)) with e | e <;> omega))
              have hcc := hb6.c0
              have hcf := hb6.f0
              have hS6 := HSk.out _ w6 hSx (HGw.out.block gL (Nat.lt_of_lt_of_le hfr.2 HSx.out.sz) (fun e => by rcases HSx.out.away _ (mem_blk3.2 (.inl e.symm)) with e | e <;> omega))
              refine hK.out _ _ hS6 (fun hHeld6 => ?_)
              clear hK K
              try simp only [Act.put, List.getElem_toArray, List.getElem_cons_zero, List.getElem_cons_succ, List.setIfInBounds_toArray, List.set_cons_zero, List.set_cons_succ]
              have HS6 := Lib.hid (HSx.out.put0 HOw.out HGw.out HFw.out)
              refine wpAnyH_take (i := 10) (v := ?_) rfl (by kernel_rfl) (by kernel_rfl) (by kernel_rfl) (fun _ _ _ h => h) (Or.inl ⟨by rfl, ?_⟩) (by assumption) ?_
              rotate_left
              · (intro w hSw; go_simp; try (with_reducible rfl))
              try simp only [Act.put, List.getElem_toArray, List.getElem_cons_zero, List.getElem_cons_succ, List.setIfInBounds_toArray, List.set_cons_zero, List.set_cons_succ]
              have hS7 := HSk.out _ (w6.setCell ⟨w.heap.size, 0, none⟩ (.slice a6 lz.length c6)) hS6 (Below.heap_setCell w6 ⟨w.heap.size, 0, none⟩ _ gL (show gL ≠ w.heap.size by omega))
              refine wpAnyH_ready (rs := [11]) (by kernel_rfl) (by simp) ?_
              refine ready_one rfl rfl (fun K hK => ?_)
              go_wp2_with fail
              refine hK.out _ _ hS7 (fun hHeld7 => ?_)
              clear hK K HO1 HC1 HN1 HOw HGw HFw hb6 hcc hcf HSx
              try simp only [Act.put, List.getElem_toArray, List.getElem_cons_zero, List.getElem_cons_succ]
              refine wpAnyH_done (by kernel_rfl) ?_ _
              refine NoPanic.normal ?_
              generalize (w6.setCell ⟨w.heap.size, 0, none⟩ (.slice a6 lz.length c6)) = V6 at *
              have HLZ2 : Hid (lz.length = l.length + 1) := Lib.hid (by rw [← HLZ.out]; simp)
              have HS6d := Lib.hid (HS6.out.below (Below.refl _ _).drew)
              have HSD7 : Hid (S V6.drew) := Lib.hid (HSk.out V6 V6.drew hS7 rfl)
              clear HS6 hS7
              go_wp2_with fail
              refine wp_region_noPanic ?_
              refine wp_region_held_drew (S := S) (by kernel_rfl) HSD7.out (fun hHeld8 => ?_)
              generalize V6.drew = V7 at *
              have hc7 := HS6d.out.box.c0
              have HO7 := Lib.hid HS6d.out.rb
              have HN7 : Hid (lz.length + p.size ≤ 1000000000 ∧ B ≤ V7.heap.size) := Lib.hid ⟨by have := HLZ2.out; omega, by have := HS6d.out.base; have := HS6d.out.sz; have := HS6d.out.two; omega⟩
              refine wpAnyH_take (i := 0) (v := ?_) rfl (by kernel_rfl) (by kernel_rfl) (by kernel_rfl) (fun _ _ _ h => h) (Or.inl ⟨by rfl, ?_⟩) (by assumption) ?_
              rotate_left
              · (intro w hSw; go_simp; try (with_reducible rfl))
              try simp only [Act.put, List.getElem_toArray, List.getElem_cons_zero, List.setIfInBounds_toArray, List.set_cons_zero, List.set_cons_succ]
              refine wpAnyH_take (i := 2) (v := ?_) rfl (by kernel_rfl) (by kernel_rfl) (by kernel_rfl) (fun _ _ _ h => h) (Or.inl ⟨by rfl, ?_⟩) (by assumption) ?_
              rotate_left
              · (intro w hSw; go_simp; try (with_reducible rfl))
              try simp only [Act.put, List.getElem_toArray, List.getElem_cons_zero, List.getElem_cons_succ, List.setIfInBounds_toArray, List.set_cons_zero, List.set_cons_succ]
              refine wpAnyH_take (i := 3) (v := ?_) rfl (by kernel_rfl) (by kernel_rfl) (by kernel_rfl) (fun _ _ _ h => h) (Or.inl ⟨by rfl, ?_⟩) (by assumption) ?_
              rotate_left
              · (intro w hSw; go_simp; try (with_reducible rfl))
              try simp only [Act.put, List.getElem_toArray, List.getElem_cons_zero, List.getElem_cons_succ, List.setIfInBounds_toArray, List.set_cons_zero, List.set_cons_succ]
              refine wpAnyH_take (i := 4) (v := ?_) rfl (by kernel_rfl) (by kernel_rfl) (by kernel_rfl) (fun _ _ _ h => h) (Or.inl ⟨by rfl, ?_⟩) (by assumption) ?_
              rotate_left
              · (intro w hSw; go_simp; try (with_reducible rfl))
              try simp only [Act.put, List.getElem_toArray, List.getElem_cons_zero, List.getElem_cons_succ, List.setIfInBounds_toArray, List.set_cons_zero, List.set_cons_succ]
              refine wpAnyH_take (i := 5) (v := ?_) rfl (by kernel_rfl) (by kernel_rfl) (by kernel_rfl) (fun _ _ _ h => h) (Or.inl ⟨by rfl, ?_⟩) (by assumption) ?_
              rotate_left
              · (intro w hSw; have hc0 := CL.out w hSw; go_simp; try (with_reducible rfl))
              try simp only [Act.put, List.getElem_toArray, List.getElem_cons_zero, List.getElem_cons_succ, List.setIfInBounds_toArray, List.set_cons_zero, List.set_cons_succ]
              refine wpAnyH_ready (rs := [1]) (by kernel_rfl) (by simp) ?_
              refine AllReadyH.cons rfl (fun K hK => ?_) AllReadyH.nil
              rw [if_pos (by rfl)]
              go_wp2_with fail
              refine hK.out _ _ HSD7.out (fun hHeld9 => ?_)
              clear hK K
              try simp only [Act.put, List.getElem_toArray, List.getElem_cons_zero, List.getElem_cons_succ, List.setIfInBounds_toArray, List.set_cons_zero, List.set_cons_succ]
              refine wpAnyH_ready (rs := [6]) (by kernel_rfl) (by simp) ?_
              refine ready_one rfl rfl (fun K hK => ?_)
              refine wp_append_text (s := p) HO7 HN7 _ _ rfl rfl rfl (fun v8 w8 HOw HGw HFw => ?_)
              obtain ⟨ly, hly⟩ : ∃ ly, lz ++ p.data.toList = ly := ⟨_, rfl⟩
              rw [hly] at HOw
              have HLY := Lib.hid hly
              clear hly
              obtain ⟨a8, c8, hv8⟩ := own_slice HOw.out
              subst hv8
              have hb8 := HS6d.out.box.kept (w' := w8) (HGw.out.block _ HS6d.out.box.lt (fun e => by have := HS6d.out.two; rcases HS6d.out.away _ (mem_blk3.2 (.inl e.symm)) with e | e <;> omega))
              have hcc := hb8.c0
              have hcf := hb8.f0
              have hS8 := HSk.out _ w8 HSD7.out (HGw.out.block gL (Nat.lt_of_lt_of_le hfr.2 HS6d.out.sz) (fun e => by rcases HS6d.out.away _ (mem_blk3.2 (.inl e.symm)) with e | e <;> omega))
              refine hK.out _ _ hS8 (fun hHelda => ?_)
              clear hK K
              try simp only [Act.put, List.getElem_toArray, List.getElem_cons_zero, List.getElem_cons_succ, List.setIfInBounds_toArray, List.set_cons_zero, List.set_cons_succ]
              have HS8 := Lib.hid (HS6d.out.put0 HOw.out HGw.out HFw.out)
              have hS9 := HSk.out _ (w8.setCell ⟨w.heap.size, 0, none⟩ (.slice a8 ly.length c8)) hS8 (Below.heap_setCell w8 ⟨w.heap.size, 0, none⟩ _ gL (show gL ≠ w.heap.size by omega))
              refine wpAnyH_take (i := 7) (v := ?_) rfl (by kernel_rfl) (by kernel_rfl) (by kernel_rfl) (fun _ _ _ h => h) (Or.inl ⟨by rfl, ?_⟩) (by assumption) ?_
              rotate_left
              · (intro w hSw; go_simp; try (with_reducible rfl))
              try simp only [Act.put, List.getElem_toArray, List.getElem_cons_zero, List.getElem_cons_succ, List.setIfInBounds_toArray, List.set_cons_zero, List.set_cons_succ]
              refine wpAnyH_ready (rs := [8]) (by kernel_rfl) (by simp) ?_
              refine ready_one rfl rfl (fun K hK => ?_)
              go_wp2_with fail
              refine hK.out _ _ hS9 (fun hHeldb => ?_)
              clear hK K HO7 HN7 HOw HGw HFw hb8 hcc hcf HS6d hc7
              try simp only [Act.put, List.getElem_toArray, List.getElem_cons_zero, List.getElem_cons_succ]
              refine wpAnyH_done (by kernel_rfl) ?_ _
              refine NoPanic.normal ?_
              generalize (w8.setCell ⟨w.heap.size, 0, none⟩ (.slice a8 ly.length c8)) = V8 at *
              have HRf : Hid (nm8 s L f (i + 1) ly ns ats = R) := Lib.hid (by rw [← HLY.out, ← HLZ.out, List.append_assoc]; exact HR.out)
              have hlyl : ly.length ≤ 1000000 + (i + 1) * 1000 := by
                have e : p.data.toList.length = p.size := Array.length_toList
                rw [← HLY.out, List.length_append, e, HLZ2.out]
                omega
              clear HR HLY HLZ HLZ2 HSD7 HSk CL
              go_wp2_with fail
              go_roundw
              case rel => exact ⟨i + 1, f, ly, ns, ats, _, _, _, by omega, by omega, by go_num, hlyl, by omega, HLEN, HSM, HAT, HS8, HRf⟩
              case measure => simp [intOf]; omega
            · go_wp2_with fail
              refine hK.out _ _ hSx (fun hHeld1 => ?_)
              clear hK K
              try simp only [Act.put, List.getElem_toArray, List.getElem_cons_zero, List.getElem_cons_succ, List.setIfInBounds_toArray, List.set_cons_zero, List.set_cons_succ]
              generalize (V.alloc (.cells #[.int .u8 ((p.size : Int) % 256)] 5)) = X at *
              generalize V.heap.size = GX at *
              refine wpAnyH_ready (rs := [1]) (by kernel_rfl) (by simp) ?_
              refine AllReadyH.cons rfl (fun K hK => ?_) AllReadyH.nil
              rw [if_pos (by rfl)]
              go_wp2_with fail
              refine hK.out _ _ hSx (fun hHeld2 => ?_)
              clear hK K
              try simp only [Act.put, List.getElem_toArray, List.getElem_cons_zero, List.getElem_cons_succ, List.setIfInBounds_toArray, List.set_cons_zero, List.set_cons_succ]
              refine wpAnyH_ready (rs := [9]) (by kernel_rfl) (by simp) ?_
              refine ready_one rfl rfl (fun K hK => ?_)
              refine wp_append_bytes (m := [UInt8.ofNat p.size]) HO1 HC1 HN1 _ _ rfl rfl rfl (fun v6 w6 HOw HGw HFw => ?_)
              obtain ⟨lz, hlz⟩ : ∃ lz, l ++ [UInt8.ofNat p.size] = lz := ⟨_, rfl⟩
              rw [hlz] at HOw
              have HLZ := Lib.hid hlz
              clear hlz
              obtain ⟨a6, c6, hv6⟩ := own_slice HOw.out
              subst hv6
              have hb6 := HSx.out.box.kept (w' := w6) (HGw.out.block _ HSx.out.box.lt (fun e => by have := HSx.out.two; rcases HSx.out.away _ (mem_blk3.2 (.inl e.symm)) with e | e <;> omega))
              have hcc := hb6.c0
              have hcf := hb6.f0
              have hS6 := HSk.out _ w6 hSx (HGw.out.block gL (Nat.lt_of_lt_of_le hfr.2 HSx.out.sz) (fun e => by rcases HSx.out.away _ (mem_blk3.2 (.inl e.symm)) with e | e <;> omega))
              refine hK.out _ _ hS6 (fun hHeld6 => ?_)
              clear hK K
              try simp only [Act.put, List.getElem_toArray, List.getElem_cons_zero, List.getElem_cons_succ, List.setIfInBounds_toArray, List.set_cons_zero, List.set_cons_succ]
              have HS6 := Lib.hid (HSx.out.put0 HOw.out HGw.out HFw.out)
              refine wpAnyH_take (i := 10) (v := ?_) rfl (by kernel_rfl) (by kernel_rfl) (by kernel_rfl) (fun _ _ _ h => h) (Or.inl ⟨by rfl, ?_⟩) (by assumption) ?_
              rotate_left
              · (intro w hSw; go_simp; try (with_reducible rfl))
              try simp only [Act.put, List.getElem_toArray, List.getElem_cons_zero, List.getElem_cons_succ, List.setIfInBounds_toArray, List.set_cons_zero, List.set_cons_succ]
              have hS7 := HSk.out _ (w6.setCell ⟨w.heap.size, 0, none⟩ (.slice a6 lz.length c6)) hS6 (Below.heap_setCell w6 ⟨w.heap.size, 0, none⟩ _ gL (show gL ≠ w.heap.size by omega))
              refine wpAnyH_ready (rs := [11]) (by kernel_rfl) (by simp) ?_
              refine ready_one rfl rfl (fun K hK => ?_)
              go_wp2_with fail
              refine hK.out _ _ hS7 (fun hHeld7 => ?_)
              clear hK K HO1 HC1 HN1 HOw HGw HFw hb6 hcc hcf HSx
              try simp only [Act.put, List.getElem_toArray, List.getElem_cons_zero, List.getElem_cons_succ]
              refine wpAnyH_done (by kernel_rfl) ?_ _
              refine NoPanic.normal ?_
              generalize (w6.setCell ⟨w.heap.size, 0, none⟩ (.slice a6 lz.length c6)) = V6 at *
              have HLZ2 : Hid (lz.length = l.length + 1) := Lib.hid (by rw [← HLZ.out]; simp)
              have HS6d := Lib.hid (HS6.out.below (Below.refl _ _).drew)
              have HSD7 : Hid (S V6.drew) := Lib.hid (HSk.out V6 V6.drew hS7 rfl)
              clear HS6 hS7
              go_wp2_with fail
              refine wp_region_noPanic ?_
              refine wp_region_held_drew (S := S) (by kernel_rfl) HSD7.out (fun hHeld8 => ?_)
              generalize V6.drew = V7 at *
              have hc7 := HS6d.out.box.c0
              have HO7 := Lib.hid HS6d.out.rb
              have HN7 : Hid (lz.length + p.size ≤ 1000000000 ∧ B ≤ V7.heap.size) := Lib.hid ⟨by have := HLZ2.out; omega, by have := HS6d.out.base; have := HS6d.out.sz; have := HS6d.out.two; omega⟩
              refine wpAnyH_take (i := 0) (v := ?_) rfl (by kernel_rfl) (by kernel_rfl) (by kernel_rfl) (fun _ _ _ h => h) (Or.inl ⟨by rfl, ?_⟩) (by assumption) ?_
              rotate_left
              · (intro w hSw; go_simp; try (with_reducible rfl))
              try simp only [Act.put, List.getElem_toArray, List.getElem_cons_zero, List.setIfInBounds_toArray, List.set_cons_zero, List.set_cons_succ]
              refine wpAnyH_take (i := 2) (v := ?_) rfl (by kernel_rfl) (by kernel_rfl) (by kernel_rfl) (fun _ _ _ h => h) (Or.inl ⟨by rfl, ?_⟩) (by assumption) ?_
              rotate_left
              · (intro w hSw; go_simp; try (with_reducible rfl))
              try simp only [Act.put, List.getElem_toArray, List.getElem_cons_zero, List.getElem_cons_succ, List.setIfInBounds_toArray, List.set_cons_zero, List.set_cons_succ]
              refine wpAnyH_take (i := 3) (v := ?_) rfl (by kernel_rfl) (by kernel_rfl) (by kernel_rfl) (fun _ _ _ h => h) (Or.inl ⟨by rfl, ?_⟩) (by assumption) ?_
              rotate_left
              · (intro w hSw; go_simp; try (with_reducible rfl))
              try simp only [Act.put, List.getElem_toArray, List.getElem_cons_zero, List.getElem_cons_succ, List.setIfInBounds_toArray, List.set_cons_zero, List.set_cons_succ]
              refine wpAnyH_take (i := 4) (v := ?_) rfl (by kernel_rfl) (by kernel_rfl) (by kernel_rfl) (fun _ _ _ h => h) (Or.inl ⟨by rfl, ?_⟩) (by assumption) ?_
              rotate_left
              · (intro w hSw; go_simp; try (with_reducible rfl))
              try simp only [Act.put, List.getElem_toArray, List.getElem_cons_zero, List.getElem_cons_succ, List.setIfInBounds_toArray, List.set_cons_zero, List.set_cons_succ]
              refine wpAnyH_take (i := 5) (v := ?_) rfl (by kernel_rfl) (by kernel_rfl) (by kernel_rfl) (fun _ _ _ h => h) (Or.inl ⟨by rfl, ?_⟩) (by assumption) ?_
              rotate_left
              · (intro w hSw; have hc0 := CL.out w hSw; go_simp; try (with_reducible rfl))
              try simp only [Act.put, List.getElem_toArray, List.getElem_cons_zero, List.getElem_cons_succ, List.setIfInBounds_toArray, List.set_cons_zero, List.set_cons_succ]
              refine wpAnyH_ready (rs := [1]) (by kernel_rfl) (by simp) ?_
              refine AllReadyH.cons rfl (fun K hK => ?_) AllReadyH.nil
              rw [if_pos (by rfl)]
              go_wp2_with fail
              refine hK.out _ _ HSD7.out (fun hHeld9 => ?_)
              clear hK K
              try simp only [Act.put, List.getElem_toArray, List.getElem_cons_zero, List.getElem_cons_succ, List.setIfInBounds_toArray, List.set_cons_zero, List.set_cons_succ]
              refine wpAnyH_ready (rs := [6]) (by kernel_rfl) (by simp) ?_
              refine ready_one rfl rfl (fun K hK => ?_)
              refine wp_append_text (s := p) HO7 HN7 _ _ rfl rfl rfl (fun v8 w8 HOw HGw HFw => ?_)
              obtain ⟨ly, hly⟩ : ∃ ly, lz ++ p.data.toList = ly := ⟨_, rfl⟩
              rw [hly] at HOw
              have HLY := Lib.hid hly
              clear hly
              obtain ⟨a8, c8, hv8⟩ := own_slice HOw.out
              subst hv8
              have hb8 := HS6d.out.box.kept (w' := w8) (HGw.out.block _ HS6d.out.box.lt (fun e => by have := HS6d.out.two; rcases HS6d.out.away _ (mem_blk3.2 (.inl e.symm)) with e | e <;> omega))
              have hcc := hb8.c0
              have hcf := hb8.f0
              have hS8 := HSk.out _ w8 HSD7.out (HGw.out.block gL (Nat.lt_of_lt_of_le hfr.2 HS6d.out.sz) (fun e => by rcases HS6d.out.away _ (mem_blk3.2 (.inl e.symm)) with e | e <;> omega))
              refine hK.out _ _ hS8 (fun hHelda => ?_)
              clear hK K
              try simp only [Act.put, List.getElem_toArray, List.getElem_cons_zero, List.getElem_cons_succ, List.setIfInBounds_toArray, List.set_cons_zero, List.set_cons_succ]
              have HS8 := Lib.hid (HS6d.out.put0 HOw.out HGw.out HFw.out)
              have hS9 := HSk.out _ (w8.setCell ⟨w.heap.size, 0, none⟩ (.slice a8 ly.length c8)) hS8 (Below.heap_setCell w8 ⟨w.heap.size, 0, none⟩ _ gL (show gL ≠ w.heap.size by omega))
              refine wpAnyH_take (i := 7) (v := ?_) rfl (by kernel_rfl) (by kernel_rfl) (by kernel_rfl) (fun _ _ _ h => h) (Or.inl ⟨by rfl, ?_⟩) (by assumption) ?_
              rotate_left
              · (intro w hSw; go_simp; try (with_reducible rfl))
              try simp only [Act.put, List.getElem_toArray, List.getElem_cons_zero, List.getElem_cons_succ, List.setIfInBounds_toArray, List.set_cons_zero, List.set_cons_succ]
              refine wpAnyH_ready (rs := [8]) (by kernel_rfl) (by simp) ?_
              refine ready_one rfl rfl (fun K hK => ?_)
              go_wp2_with fail
              refine hK.out _ _ hS9 (fun hHeldb => ?_)
              clear hK K HO7 HN7 HOw HGw HFw hb8 hcc hcf HS6d hc7
              try simp only [Act.put, List.getElem_toArray, List.getElem_cons_zero, List.getElem_cons_succ]
              refine wpAnyH_done (by kernel_rfl) ?_ _
              refine NoPanic.normal ?_
              generalize (w8.setCell ⟨w.heap.size, 0, none⟩ (.slice a8 ly.length c8)) = V8 at *
              have HRf : Hid (nm8 s L f (i + 1) ly ns ats = R) := Lib.hid (by rw [← HLY.out, ← HLZ.out, List.append_assoc]; exact HR.out)
              have hlyl : ly.length ≤ 1000000 + (i + 1) * 1000 := by
                have e : p.data.toList.length = p.size := Array.length_toList
                rw [← HLY.out, List.length_append, e, HLZ2.out]
                omega
              clear HR HLY HLZ HLZ2 HSD7 HSk CL
              go_wp2_with fail
              go_roundw
              case rel => exact ⟨i + 1, f, ly, ns, ats, _, _, _, by omega, by omega, by go_num, hlyl, by omega, HLEN, HSM, HAT, HS8, HRf⟩
              case measure => simp [intOf]; omega
        · rw [show nxI (some n) = (n : Int) from rfl] at HFI
          have hn := HMEM.out n rfl
          go_wp2_with fail
          refine HFI.out.mono ?_
          rintro e w3 ⟨rfl, hb3⟩
          have HS3 := Lib.hid (HS2.out.below hb3)
          clear hb3 HFI HS2 hc0 hc1 hc2
          try simp only at HR
          have hd10 : decide ((0 : Int) ≤ (n : Int)) = true := decide_eq_true (by omega)
          obtain ⟨mm, hm2, hmm, hbm⟩ := ptr_two n hn
          rw [hmm] at HR
          have HBM := Lib.hid hbm
          have HM2 := Lib.hid hm2
          have ER := HR.out.symm
          subst ER
          clear HMEM HR hmm hbm hm2
          have HSx := Lib.hid (HS3.out.below (wr' := w3.alloc (.cells #[.int .u8 (192 + (n : Int) / 256), .int .u8 ((n : Int) % 256)] 5)) ((Below.refl _ _).alloc (Nat.le_refl _) _))
          have HO1 := Lib.hid HSx.out.rb
          have HC1 : Hid (∀ j u, (bys mm)[j]? = some u → (w3.alloc (.cells #[.int .u8 (192 + (n : Int) / 256), .int .u8 ((n : Int) % 256)] 5)).cell? ⟨w3.heap.size, j, none⟩ = some u) := Lib.hid (fun j u hu => cells_new8 w3 [.int .u8 (192 + (n : Int) / 256), .int .u8 ((n : Int) % 256)] 5 j u (by rw [← HBM.out]; exact hu))
          have HN1 : Hid (l.length + mm.length ≤ 1000000000 ∧ B ≤ (w3.alloc (.cells #[.int .u8 (192 + (n : Int) / 256), .int .u8 ((n : Int) % 256)] 5)).heap.size) := Lib.hid ⟨by have := HM2.out; omega, by have := HSx.out.base; have := HSx.out.sz; have := HSx.out.two; omega⟩
          have hc0 := HS3.out.box.c0
          go_upto_region 12 with (at_builtin; refine wpList_plain rfl (fun K hK => wp_append_bytes (m := mm) HO1 HC1 HN1 _ _ rfl rfl (by rw [HM2.out]; rfl) (fun v2 w4 HOw HGw HFw => hK _ _ ?_)); obtain ⟨lz, hlz⟩ : ∃ lz, l ++ mm = lz := ⟨_, rfl⟩; rw [hlz] at HOw; have HLZ := Lib.hid hlz; clear hlz; obtain ⟨a2, c2, hv2⟩ := own_slice HOw.out; subst hv2; have hb4 := HSx.out.box.kept (w' := w4) (HGw.out.block _ HSx.out.box.lt (fun e => by have := HSx.out.two; rcases HSx.out.away _ (mem_blk3.2 (.inl e.symm)) with e | e <;> omega)); have hcc := hb4.c0; have hcf := hb4.f0)
          have HSz := Lib.hid (HSx.out.put0 HOw.out HGw.out HFw.out)
          clear HSx HO1 HC1 HN1 HOw HGw HFw hb4 hcc hcf hc0 HS3
          generalize (w4.setCell ⟨w.heap.size, 0, none⟩ (.slice a2 lz.length c2)) = V at *
          have hc0 := HSz.out.box.c0
          have hc1 := HSz.out.box.c1
          have hc2 := HSz.out.box.c2
          have hd0 := HSz.out.res.c0
          have hd1 := HSz.out.res.c1
          have hd2 := HSz.out.res.c2
          have he0 := HSz.out.res.f0
          have he1 := HSz.out.res.f1
          have he2 := HSz.out.res.f2
          have HE := Lib.hid (name_laid (m := true) HSz.out.rb HSz.out.rn HSz.out.ra HSz.out.foot (fun k hk => by have := HSz.out.two; rcases HSz.out.away k hk with e | e <;> omega))
          have HX := Lib.hid (HSz.out.res.laid (.slice a2 lz.length c2) (.slice aN ns.length cN) (.slice aA ats.length cA))
          go_wp2_with fail
          try simp only [Exit.inBlock, Exit.then]
          refine bodyPost_ret (results_W Try.results35 rfl HX.out) rfl ?_
          rw [HLZ.out]
          exact HE.out
      · have hd : decide ((i : Int) < (N : Int)) = false := decide_eq_false (by omega)
        have hdn : decide (i < N) = false := decide_eq_false hiN
        rw [if_pos (by omega)] at HR
        have ER := HR.out
        subst ER
        have HS3 := HST
        clear HST
        have HSx := Lib.hid (HS3.out.below (wr' := wr.alloc (.cells #[.int .u8 0] 5)) ((Below.refl _ _).alloc (Nat.le_refl _) _))
        have HO1 := Lib.hid HSx.out.rb
        have HC1 : Hid (∀ j u, (bys [0])[j]? = some u → (wr.alloc (.cells #[.int .u8 0] 5)).cell? ⟨wr.heap.size, j, none⟩ = some u) := Lib.hid (fun j u hu => cells_new8 wr [.int .u8 0] 5 j u hu)
        have HN1 : Hid (l.length + ([0] : List UInt8).length ≤ 1000000000 ∧ B ≤ (wr.alloc (.cells #[.int .u8 0] 5)).heap.size) := Lib.hid ⟨by simp; omega, by have := HSx.out.base; have := HSx.out.sz; have := HSx.out.two; omega⟩
        have hc0 := HS3.out.box.c0
        go_upto_region 19 with (at_builtin; refine wpList_plain rfl (fun K hK => wp_append_bytes (m := [0]) HO1 HC1 HN1 _ _ rfl rfl rfl (fun v2 w4 HOw HGw HFw => hK _ _ ?_)); obtain ⟨lz, hlz⟩ : ∃ lz, l ++ [0] = lz := ⟨_, rfl⟩; rw [hlz] at HOw; have HLZ := Lib.hid hlz; clear hlz; obtain ⟨a2, c2, hv2⟩ := own_slice HOw.out; subst hv2; have hb4 := HSx.out.box.kept (w' := w4) (HGw.out.block _ HSx.out.box.lt (fun e => by have := HSx.out.two; rcases HSx.out.away _ (mem_blk3.2 (.inl e.symm)) with e | e <;> omega)); have hcc := hb4.c0; have hcf := hb4.f0)
        have HSz := Lib.hid (HSx.out.put0 HOw.out HGw.out HFw.out)
        clear HSx HO1 HC1 HN1 HOw HGw HFw hb4 hcc hcf hc0 HS3
        generalize (w4.setCell ⟨w.heap.size, 0, none⟩ (.slice a2 lz.length c2)) = V at *
        have hc0 := HSz.out.box.c0
        have hc1 := HSz.out.box.c1
        have hc2 := HSz.out.box.c2
        have hd0 := HSz.out.res.c0
        have hd1 := HSz.out.res.c1
        have hd2 := HSz.out.res.c2
        have he0 := HSz.out.res.f0
        have he1 := HSz.out.res.f1
        have he2 := HSz.out.res.f2
        have HE := Lib.hid (name_laid (m := true) HSz.out.rb HSz.out.rn HSz.out.ra HSz.out.foot (fun k hk => by have := HSz.out.two; rcases HSz.out.away k hk with e | e <;> omega))
        have HX := Lib.hid (HSz.out.res.laid (.slice a2 lz.length c2) (.slice aN ns.length cN) (.slice aA ats.length cA))
        go_wp2_with fail
        try simp only [Exit.inBlock, Exit.then]
        refine bodyPost_ret (results_W Try.results35 rfl HX.out) rfl ?_
        rw [HLZ.out]
        exact HE.out
end Go.Proofs.Yticdpidngmeebaa
/- Contracts of the reference's layer 9: word, two, num, put. -/
namespace Go.Proofs.Yticdpidngmeebaa
open Go.RowKit
set_option linter.unusedVariables false
set_option maxRecDepth 20000

def wordN (n : Int) : Bool := decide (0 ≤ n ∧ n ≤ 65535)
/-- A number's two bytes. -/
def twoL (n : Nat) : List UInt8 := [UInt8.ofNat (n / 256), UInt8.ofNat (n % 256)]
theorem bys_twoL (n : Nat) (h : n ≤ 65535) : bys (twoL n) = [.int .u8 ((n : Int) / 256), .int .u8 ((n : Int) % 256)] := by
  unfold bys twoL
  simp only [List.map_cons, List.map_nil, UInt8.toNat_ofNat']
  rw [Nat.mod_eq_of_lt (by omega), Nat.mod_eq_of_lt (by omega)]
  simp
theorem own_cells2 (w : World) (l : List UInt8) (h : l.length ≤ maxLen) : (w.alloc (.cells (bys l).toArray 5)).ownsRow w.heap.size 5 1 (.slice (some ⟨w.heap.size, 0, none⟩) l.length l.length) l.length (bys l) :=
  ⟨by rw [bys_length, Nat.mul_one], .inr ⟨w.heap.size, l.length, (bys l).toArray, rfl, Nat.le_refl _, by show (w.heap.push _)[w.heap.size]? = _; simp, Nat.le_refl _, h, by simp [bys_length], by simp [bys_length, List.take_of_length_le]⟩⟩
theorem two9_any (n : Nat) (w : World) (h : n ≤ 65535) : Calls Try.prog 34 #[.int .i64 (n : Int)] w fun e w' => e = .returned (.slice (some ⟨w.heap.size, 0, none⟩) 2 2) ∧ w'.ownsRow w.heap.size 5 1 (.slice (some ⟨w.heap.size, 0, none⟩) 2 2) (twoL n).length (bys (twoL n)) ∧ Below w.heap.size w w' := by
  have HO := Lib.hid (own_cells2 w (twoL n) (by show (2 : Nat) ≤ maxLen; unfold maxLen; omega))
  rw [bys_twoL n h] at HO
  have HB : Hid (Below w.heap.size w (w.alloc (.cells #[.int .u8 ((n : Int) / 256), .int .u8 ((n : Int) % 256)] 5))) := Lib.hid ((Below.refl _ _).alloc (Nat.le_refl _) _)
  rw [bys_twoL n h]
  have hn1 : (n : Int) / 256 < 256 := by omega
  go_enter Try.func34, Try.ntmps34
  go_wp2_with fail
  go_ret
  exact ⟨rfl, HO.out, HB.out⟩
/-- A number of so many bytes. -/
def numV (bs : List UInt8) (at0 : Nat) : Nat → Nat
  | 0 => 0
  | k + 1 => numV bs at0 k * 256 + (bs.getD (at0 + k) 0).toNat
def numOk (bs : List UInt8) (at0 n : Nat) : Bool := decide (n = 0 ∨ at0 + n ≤ bs.length)
def numR (bs : List UInt8) (at0 n : Nat) : Nat := if numOk bs at0 n = true then numV bs at0 n else 0
/-- What put hands back. -/
def PutRet (w : World) (B : Nat) (F0 : List Nat) (l : List UInt8) (ns : List ByteArray) (ats : List Nat) (e : Ending) (w' : World) : Prop :=
  ∃ vB vN vA, e = .returned (.agg #[vB, vN, vA]) ∧ w'.ownsRow B 5 1 vB l.length (bys l) ∧ w'.ownsRow B 9 1 vN ns.length (ns.map Value.string) ∧ w'.ownsRow B 3 1 vA ats.length (intsL ats) ∧ Foot F0 (blk3 vB vN vA) w w'
theorem results_W1 {fn : Func} {a : Tmp} {tmps : Array Value} {W : World} {b : Nat} {vB vN vA : Value} (h : fn.results = #[.cell a 70]) (ha : tmps.getD a undef = .pointer (some ⟨b, 0, none⟩)) (hA : WBox W b vB vN vA) : (results fn tmps).run Try.prog W = .ok (.agg #[vB, vN, vA]) W := by
  rw [Array.getD_eq_getD_getElem?] at ha
  simp [results, h, ha, asAddr, loadVar_W hA]
/-- A box's cell stored behind an append: the rows and their footprint. -/
theorem put_laid {w V w4 : World} {B b r : Nat} {uB uN uA v2 : Value} {l l2 : List UInt8} {ns : List ByteArray} {ats : List Nat} (hwV : Below w.heap.size w V) (hb : w.heap.size ≤ b) (hr : w.heap.size ≤ r) (rb : w.ownsRow B 5 1 uB l.length (bys l)) (rn : w.ownsRow B 9 1 uN ns.length (ns.map Value.string)) (ra : w.ownsRow B 3 1 uA ats.length (intsL ats)) (ho : w4.ownsRow B 5 1 v2 l2.length (bys l2)) (hg : V.grownBy w4 uB.ownBlock) (hf : Foot uB.ownBlock.toList v2.ownBlock.toList V w4) (hbV : b < V.heap.size) (hrV : r < V.heap.size) (v0 v1 v3 v4 : Value) :
    PutRet w B (blk3 uB uN uA) l2 ns ats (.returned (.agg #[v2, uN, uA])) ((((w4.setCell ⟨b, 0, none⟩ v0).setCell ⟨r, 0, none⟩ v1).setCell ⟨r, 1, none⟩ v3).setCell ⟨r, 2, none⟩ v4) := by
  have hbl : ∀ k, uB.ownBlock = some k → k < w.heap.size := fun k hk => (rb.lt k hk).2
  have hnew : ∀ k, v2.ownBlock = some k → uB.ownBlock = some k ∨ V.heap.size ≤ k := fun k hk => (hf.new k (by rw [hk]; simp)).imp (fun e => by simpa using e) id
  have hset : ∀ k, k ≠ b → k ≠ r → ((((w4.setCell ⟨b, 0, none⟩ v0).setCell ⟨r, 0, none⟩ v1).setCell ⟨r, 1, none⟩ v3).setCell ⟨r, 2, none⟩ v4).heap[k]? = w4.heap[k]? := fun k h1 h2 => by
    rw [Below.heap_setCell _ ⟨r, 2, none⟩ v4 k h2, Below.heap_setCell _ ⟨r, 1, none⟩ v3 k h2, Below.heap_setCell _ ⟨r, 0, none⟩ v1 k h2, Below.heap_setCell _ ⟨b, 0, none⟩ v0 k h1]
  have hold : ∀ k, k < w.heap.size → uB.ownBlock ≠ some k → ((((w4.setCell ⟨b, 0, none⟩ v0).setCell ⟨r, 0, none⟩ v1).setCell ⟨r, 1, none⟩ v3).setCell ⟨r, 2, none⟩ v4).heap[k]? = w.heap[k]? := fun k h1 h2 => by
    rw [hset k (by omega) (by omega), hg.block k (Nat.lt_of_lt_of_le h1 hwV.size) (fun e => h2 e.symm), hwV.block k h1]
  refine ⟨v2, uN, uA, rfl, own_kept ho (fun k hk => hset k (fun e => ?_) (fun e => ?_)), own_kept rn (fun k hk => hold k (rn.lt k hk).2 (fun e => own_types rb rn (by decide) k e hk)), own_kept ra (fun k hk => hold k (ra.lt k hk).2 (fun e => own_types rb ra (by decide) k e hk)), ?_⟩
  · subst e
    rcases hnew _ hk with e | e
    · have := hbl _ e; omega
    · omega
  · subst e
    rcases hnew _ hk with e | e
    · have := hbl _ e; omega
    · omega
  · refine ⟨hg.os.trans hwV.os, hg.tape.trans hwV.tape, hg.output.trans hwV.output, ?_, fun k hk hn => hold k hk (fun e => hn (mem_blk3.2 (.inl e))), fun k hk => ?_⟩
    · simp only [World.setCell, Array.size_modify]
      exact Nat.le_trans hwV.size hg.size
    · rcases mem_blk3.1 hk with e | e | e
      · rcases hnew k e with e | e
        · exact .inl (mem_blk3.2 (.inl e))
        · exact .inr (Nat.le_trans hwV.size e)
      · exact .inl (mem_blk3.2 (.inr (.inl e)))
      · exact .inl (mem_blk3.2 (.inr (.inr e)))
set_option maxRecDepth 100000 in
set_option maxHeartbeats 2000000 in
theorem put9_any (uB uN uA : Value) (l : List UInt8) (ns : List ByteArray) (ats : List Nat) (ad : Option Addr) (c : Nat) (m : List UInt8) (w : World) (B : Nat) (rb : w.ownsRow B 5 1 uB l.length (bys l)) (rn : w.ownsRow B 9 1 uN ns.length (ns.map Value.string)) (ra : w.ownsRow B 3 1 uA ats.length (intsL ats)) (hm : BytesIn2 w ad c m) (hB : B ≤ w.heap.size) (hl : l.length + m.length ≤ 1000000000) :
    Calls Try.prog 33 #[.agg #[uB, uN, uA], .slice ad m.length c] w (PutRet w B (blk3 uB uN uA) (l ++ m) ns ats) := by
  obtain ⟨aB, cB, rfl⟩ := own_slice rb
  obtain ⟨aN, cN, rfl⟩ := own_slice rn
  obtain ⟨aA, cA, rfl⟩ := own_slice ra
  obtain ⟨V, hV⟩ : ∃ V, (w.alloc (.cells #[.slice aB l.length cB, .slice aN ns.length cN, .slice aA ats.length cA] 70)).alloc (.cells #[.slice none 0 0, .slice none 0 0, .slice none 0 0] 70) = V := ⟨_, rfl⟩
  have hb0 : Below w.heap.size w V := by rw [← hV]; exact ((Below.refl _ _).alloc (Nat.le_refl _) _).alloc (by simp) _
  have HWV := Lib.hid hb0
  have HSV : Hid (V.heap.size = w.heap.size + 1 + 1) := Lib.hid (by rw [← hV]; simp)
  have HBX : Hid (WBox V w.heap.size (.slice aB l.length cB) (.slice aN ns.length cN) (.slice aA ats.length cA)) := Lib.hid (by rw [← hV]; exact (WBox.new w _ _ _).kept (((Below.refl _ _).alloc (Nat.le_refl _) _).block _ (by simp)))
  have HRX : Hid (WBox V (w.heap.size + 1) nilS nilS nilS) := Lib.hid (by
    rw [← hV]
    have := WBox.new (w.alloc (.cells #[.slice aB l.length cB, .slice aN ns.length cN, .slice aA ats.length cA] 70)) nilS nilS nilS
    rw [show (w.alloc (.cells #[.slice aB l.length cB, .slice aN ns.length cN, .slice aA ats.length cA] 70)).heap.size = w.heap.size + 1 by simp] at this
    exact this)
  have HO1 := Lib.hid (own_below8 rb hb0)
  have HM1 := Lib.hid (hm.below hb0)
  have HN1 : Hid (l.length + m.length ≤ 1000000000 ∧ B ≤ V.heap.size) := Lib.hid ⟨hl, Nat.le_trans hB hb0.size⟩
  have HRB := Lib.hid rb
  have HRN := Lib.hid rn
  have HRA := Lib.hid ra
  have hc0 := HBX.out.c0
  obtain ⟨M, hM⟩ : ∃ M, m.length = M := ⟨_, rfl⟩
  have HMM := Lib.hid hM
  rw [hM]
  clear rb rn ra hm hb0 hl hM
  go_enter Try.func33, Try.ntmps33
  go_upto_region 1 with fail
  try rw [hV]
  clear hV
  go_upto_region 2 with (at_builtin; refine wpList_plain rfl (fun K hK => wp_append_in (l := l) (m := m) HO1 HM1 HN1 _ _ rfl rfl (by rw [HMM.out]; rfl) (fun v2 w4 HOw HGw HFw => hK _ _ ?_)); obtain ⟨lz, hlz⟩ : ∃ lz, l ++ m = lz := ⟨_, rfl⟩; rw [hlz] at HOw; have HLZ := Lib.hid hlz; clear hlz; obtain ⟨a2, c2, hv2⟩ := own_slice HOw.out; subst hv2; have hG4 := HGw.out.block w.heap.size HBX.out.lt (fun e => by have := (HRB.out.lt _ e.symm).2; omega); have hR4 := HGw.out.block (w.heap.size + 1) HRX.out.lt (fun e => by have := (HRB.out.lt _ e.symm).2; omega); have hb4 := HBX.out.kept hG4; have hr4 := HRX.out.kept hR4; have hcc := hb4.c0; have hcf := hb4.f0; clear hG4 hR4)
  have HE := Lib.hid (fun v0 v1 v3 v4 => put_laid HWV.out (Nat.le_refl _) (Nat.le_succ _) HRB.out HRN.out HRA.out HOw.out HGw.out HFw.out HBX.out.lt HRX.out.lt v0 v1 v3 v4)
  have hb5 := hb4.set0 (.slice a2 lz.length c2)
  have hr5 := hr4.kept (w' := w4.setCell ⟨w.heap.size, 0, none⟩ (.slice a2 lz.length c2)) (Below.heap_setCell w4 ⟨w.heap.size, 0, none⟩ _ (w.heap.size + 1) (show w.heap.size + 1 ≠ w.heap.size by omega))
  obtain ⟨W5, hW5⟩ : ∃ W5, w4.setCell ⟨w.heap.size, 0, none⟩ (.slice a2 lz.length c2) = W5 := ⟨_, rfl⟩
  have HE2 := Lib.hid (fun v1 v3 v4 => HE.out (.slice a2 lz.length c2) v1 v3 v4)
  rw [hW5] at hb5 hr5 HE2
  try rw [hW5]
  have hd0 := hb5.c0
  have hd1 := hb5.c1
  have hd2 := hb5.c2
  have he0 := hr5.c0
  have he1 := hr5.c1
  have he2 := hr5.c2
  have hf0 := hr5.f0
  have hf1 := hr5.f1
  have hf2 := hr5.f2
  have HX := Lib.hid (hr5.laid (.slice a2 lz.length c2) (.slice aN ns.length cN) (.slice aA ats.length cA))
  clear HE hb5 hr5 hb4 hr4 hcc hcf hW5 HOw HGw HFw
  go_wp2_with fail
  refine bodyPost_ret (results_W1 Try.results33 rfl HX.out) rfl ?_
  rw [HLZ.out]
  exact HE2.out _ _ _
end Go.Proofs.Yticdpidngmeebaa
/- Contract of the reference's Record of layer 9. -/
namespace Go.Proofs.Yticdpidngmeebaa
open Go.RowKit
set_option linter.unusedVariables false
set_option maxRecDepth 20000

def zB : List Nat := List.replicate 16 0
def headR (r : Rec) : Bool := mayN r.name && wordN r.ty && wordN r.cl && decide (0 ≤ r.ttl) && decide (r.ttl ≤ 2147483647) && decide (r.da.size ≤ 65535)
def bodyR (r : Rec) : Bool :=
  if r.ty = 1 then mayB r.f r.b && decide (r.f = 4) && decide (r.tg.size = 0) && decide (r.da.size = 0)
  else if r.ty = 28 then mayB r.f r.b && decide (r.f = 6) && decide (r.tg.size = 0) && decide (r.da.size = 0)
  else if r.ty = 5 then mayN r.tg && decide (r.f = 0 ∧ r.b = zB) && decide (r.da.size = 0)
  else decide (r.f = 0 ∧ r.b = zB) && decide (r.tg.size = 0)
def mayR (r : Rec) : Bool := headR r && bodyR r
end Go.Proofs.Yticdpidngmeebaa
/- Contracts of the reference's records and May of layer 9; messages and what was asked, in memory. -/
namespace Go.Proofs.Yticdpidngmeebaa
open Go.RowKit
set_option linter.unusedVariables false
set_option maxRecDepth 20000

def Room (r : Rec) : Prop := r.name.size ≤ 1900000 ∧ r.tg.size ≤ 1900000
/-- What was asked: 3 cells. -/
structure Qu where
  name : ByteArray
  ty : Int
  cl : Int
deriving DecidableEq
def quL (q : Qu) : List Value := [Value.string q.name, .int .i64 q.ty, .int .i64 q.cl]
def quV (q : Qu) : Value := .agg (quL q).toArray
def FitQ (q : Qu) : Prop := (Lit.int .i64 q.ty).wf = true ∧ (Lit.int .i64 q.cl).wf = true ∧ q.name.size ≤ maxLen
def QusAt (w : World) (a : Option Addr) (cap : Nat) (D : List Qu) : Prop :=
  D.length ≤ cap ∧ cap ≤ maxLen ∧ (∀ q ∈ D, FitQ q) ∧ (D.length = 0 ∨ ∃ g o, a = some ⟨g, o, none⟩ ∧ g < w.heap.size ∧ w.rangeAt g o (D.flatMap quL))
theorem QusAt.below {w w' : World} {a : Option Addr} {cap : Nat} {D : List Qu} (h : QusAt w a cap D) (hb : Below w.heap.size w w') : QusAt w' a cap D := by
  obtain ⟨h1, h2, h3, h4⟩ := h
  refine ⟨h1, h2, h3, ?_⟩
  rcases h4 with h4 | ⟨g, o, e, hg, hr⟩
  · exact .inl h4
  · exact .inr ⟨g, o, e, Nat.lt_of_lt_of_le hg hb.size, fun j u hu => (hb.cell (p := ⟨g, o + j, none⟩) hg).trans (hr j u hu)⟩
theorem QusAt.at {w : World} {a : Option Addr} {cap : Nat} {D : List Qu} (h : QusAt w a cap D) (k : Nat) (hk : k < D.length) : ∃ g o, a = some ⟨g, o, none⟩ ∧ g < w.heap.size ∧ w.cell? ⟨g, o + k * 3, none⟩ = some (.string D[k].name) ∧ w.cell? ⟨g, o + k * 3 + 1, none⟩ = some (.int .i64 D[k].ty) ∧ w.cell? ⟨g, o + k * 3 + 2, none⟩ = some (.int .i64 D[k].cl) := by
  obtain ⟨h1, h2, h3, h4⟩ := h
  rcases h4 with h4 | ⟨g, o, e, hg, hr⟩
  · omega
  · have := range_at hr (S := 3) (fun d hd => rfl) k hk
    exact ⟨g, o, e, hg, this 0 _ rfl, this 1 _ rfl, this 2 _ rfl⟩
/-- A message: its parts. -/
structure Msg where
  id : Int
  fl : Int
  qs : List Qu
  an : List Rec
  au : List Rec
  mo : List Rec
deriving DecidableEq
/-- Where its rows lie. -/
structure MsgIn (w : World) (m : Msg) (aq a1 a2 a3 : Option Addr) (cq c1 c2 c3 : Nat) : Prop where
  qs : QusAt w aq cq m.qs
  an : RecsAt w a1 c1 m.an
  au : RecsAt w a2 c2 m.au
  mo : RecsAt w a3 c3 m.mo
theorem MsgIn.below {w w' : World} {m : Msg} {aq a1 a2 a3 : Option Addr} {cq c1 c2 c3 : Nat} (h : MsgIn w m aq a1 a2 a3 cq c1 c2 c3) (hb : Below w.heap.size w w') : MsgIn w' m aq a1 a2 a3 cq c1 c2 c3 := ⟨h.qs.below hb, h.an.below hb, h.au.below hb, h.mo.below hb⟩
def msgV (m : Msg) (aq a1 a2 a3 : Option Addr) (cq c1 c2 c3 : Nat) : Value := .agg #[.int .i64 m.id, .int .i64 m.fl, .slice aq m.qs.length cq, .slice a1 m.an.length c1, .slice a2 m.au.length c2, .slice a3 m.mo.length c3]
def mayQ9 (q : Qu) : Bool := mayN q.name && wordN q.ty && wordN q.cl
def mayM (m : Msg) : Bool := m.qs.all mayQ9 && wordN m.id && wordN m.fl && m.an.all mayR && m.au.all mayR && m.mo.all mayR
end Go.Proofs.Yticdpidngmeebaa
/- Records and questions compared. -/
namespace Go.Proofs.Yticdpidngmeebaa
open Go.RowKit
set_option linter.unusedVariables false
set_option maxRecDepth 20000

theorem eqF_nil (P : Program) (W : World) (D : Nat) (X Y : Array Value) : (Op.eqFields D X Y []).run P W = .ok true W := by simp [Op.eqFields]
theorem eqF_cons (P : Program) (W : World) (D : Nat) (X Y : Array Value) (f : Field) (fs : List Field) (a b : Value) (r s : Bool) (hn : f.name ≠ "_")
    (h1 : (part f.type X f.offset).run P W = .ok a W) (h2 : (part f.type Y f.offset).run P W = .ok b W) (h3 : (Op.equalIn D f.type a b).run P W = .ok r W) (h4 : (Op.eqFields D X Y fs).run P W = .ok s W) :
    (Op.eqFields D X Y (f :: fs)).run P W = .ok (r && s) W := by
  simp only [Op.eqFields, ne_eq, hn, not_false_eq_true, if_true, Sem.run_bind, h1, h2, h3, Result.andThen_ok, Sem.run_ite, Sem.run_pure]
  cases r
  · rfl
  · simpa using h4
theorem plainK_str : Try.prog.plainKey 9 = true := by kernel_rfl
theorem str_eq (a b : ByteArray) : (a.toList == b.toList) = decide (a = b) := by
  rw [Bool.eq_iff_iff, beq_iff_eq, decide_eq_true_iff]
  constructor
  · intro h
    rw [ByteArray.toList_eq, ByteArray.toList_eq] at h
    exact bytes_ext h
  · intro h; rw [h]
theorem eqS (d : Nat) (a b : ByteArray) (W : World) : (Op.equalIn (d + 1) 9 (.string a) (.string b)).run Try.prog W = .ok (decide (a = b)) W := by
  rw [run_equalIn_string (P := Try.prog) W d 9 a b Try.underlying9, str_eq]
theorem eqI (d : Nat) (a b : Int) (W : World) : (Op.equalIn (d + 1) 3 (.int .i64 a) (.int .i64 b)).run Try.prog W = .ok (decide (a = b)) W := by
  rw [run_equalIn_int (P := Try.prog) W d 3 .i64 .i64 a b Try.underlying3]
  congr 1
theorem rec_cell (r : Rec) (h16 : r.b.length = 16) : (recL r).toArray[0]? = some (.string r.name) ∧ (recL r).toArray[1]? = some (.int .i64 r.ty) ∧ (recL r).toArray[2]? = some (.int .i64 r.cl) ∧ (recL r).toArray[3]? = some (.int .i64 r.ttl) ∧ (recL r).toArray[21]? = some (.string r.tg) ∧ (recL r).toArray[22]? = some (.string r.da) := by
  have hl := addrL_len r.f r.b h16
  refine ⟨rfl, rfl, rfl, rfl, ?_, ?_⟩
  · rw [List.getElem?_toArray]
    unfold recL
    rw [List.getElem?_append_right (by simp [hl])]
    simp [hl]
  · rw [List.getElem?_toArray]
    unfold recL
    rw [List.getElem?_append_right (by simp [hl])]
    simp [hl]
theorem part_recA (W : World) (r : Rec) (h16 : r.b.length = 16) : (part 40 (recL r).toArray 4).run Try.prog W = .ok (addrV r.f r.b) W := by
  obtain ⟨i, hi, hs⟩ : ∃ i, Try.prog.info? 40 = some i ∧ i.size = 17 := ⟨_, rfl, by kernel_rfl⟩
  have h2 : (isAgg 40).run Try.prog W = .ok true W := by
    unfold isAgg
    rw [Sem.run_bind, run_underlying Try.underlying40 W]
    simp
  have h3 : (sizeOf 40).run Try.prog W = .ok 17 W := by simp [sizeOf, typeInfo, hi, hs]
  simp only [part, Sem.run_bind, h2, Result.andThen_ok, if_true, h3, Sem.run_pure]
  rw [addrV_L]
  congr 2
  apply Array.ext'
  simp only [Array.toList_extract, List.extract_eq_take_drop]
  show ((recL r).drop 4).take 17 = addrL r.f r.b
  have e : (recL r).drop 4 = addrL r.f r.b ++ [.string r.tg, .string r.da] := by unfold recL; rfl
  rw [e, List.take_append_of_le_length (by rw [addrL_len r.f r.b h16]; exact Nat.le_refl _), List.take_of_length_le (by rw [addrL_len r.f r.b h16]; exact Nat.le_refl _)]
theorem rec_fields : Try.prog.fieldsOf 42 = #[{ name := "Name", type := 9, offset := 0, embedded := false, tag := "", pkgPath := "", byteOffset := 0 }, { name := "Type", type := 3, offset := 1, embedded := false, tag := "", pkgPath := "", byteOffset := 16 }, { name := "Class", type := 3, offset := 2, embedded := false, tag := "", pkgPath := "", byteOffset := 24 }, { name := "Ttl", type := 3, offset := 3, embedded := false, tag := "", pkgPath := "", byteOffset := 32 }, { name := "Addr", type := 40, offset := 4, embedded := false, tag := "", pkgPath := "", byteOffset := 40 }, { name := "Target", type := 9, offset := 21, embedded := false, tag := "", pkgPath := "", byteOffset := 64 }, { name := "Data", type := 9, offset := 22, embedded := false, tag := "", pkgPath := "", byteOffset := 80 }] := by simp only [Program.fieldsOf, Try.underlying42]
theorem and7 (r s : Rec) : (decide (r.name = s.name) && (decide (r.ty = s.ty) && (decide (r.cl = s.cl) && (decide (r.ttl = s.ttl) && (decide (r.f = s.f ∧ r.b = s.b) && (decide (r.tg = s.tg) && (decide (r.da = s.da) && true))))))) = decide (r = s) := by
  rw [Bool.eq_iff_iff]
  simp only [Bool.and_eq_true, decide_eq_true_iff, Bool.and_true]
  cases r
  cases s
  simp only [Rec.mk.injEq]
  constructor
  · rintro ⟨h1, h2, h3, h4, ⟨h5, h6⟩, h7, h8⟩
    exact ⟨h1, h2, h3, h4, h5, h6, h7, h8⟩
  · rintro ⟨h1, h2, h3, h4, h5, h6, h7, h8⟩
    exact ⟨h1, h2, h3, h4, ⟨h5, h6⟩, h7, h8⟩
theorem eq_rec_at (d : Nat) (r s : Rec) (W : World) (hr : r.b.length = 16) (hs : s.b.length = 16) : (Op.equalIn (d + 4) 42 (recV r) (recV s)).run Try.prog W = .ok (decide (r = s)) W := by
  have hf := rec_fields
  have st : (Op.equalIn (d + 4) 42 (recV r) (recV s)).run Try.prog W = (Op.eqFields (d + 3) (recL r).toArray (recL s).toArray (Try.prog.fieldsOf 42).toList).run Try.prog W :=
    run_equalIn_struct W (d + 3) _ _ _ (by simp only [Program.fieldsOf, Try.underlying42]) Try.stoodInHeld42
  obtain ⟨r0, r1, r2, r3, r5, r6⟩ := rec_cell r hr
  obtain ⟨s0, s1, s2, s3, s5, s6⟩ := rec_cell s hs
  rw [st, hf, ← and7]
  refine eqF_cons _ _ _ _ _ _ _ _ _ _ _ (by decide) (run_part_plain W plainK_str r0) (run_part_plain W plainK_str s0) (eqS (d + 2) _ _ W) ?_
  refine eqF_cons _ _ _ _ _ _ _ _ _ _ _ (by decide) (run_part_plain W plainK_int r1) (run_part_plain W plainK_int s1) (eqI (d + 2) _ _ W) ?_
  refine eqF_cons _ _ _ _ _ _ _ _ _ _ _ (by decide) (run_part_plain W plainK_int r2) (run_part_plain W plainK_int s2) (eqI (d + 2) _ _ W) ?_
  refine eqF_cons _ _ _ _ _ _ _ _ _ _ _ (by decide) (run_part_plain W plainK_int r3) (run_part_plain W plainK_int s3) (eqI (d + 2) _ _ W) ?_
  refine eqF_cons _ _ _ _ _ _ _ _ _ _ _ (by decide) (part_recA W r hr) (part_recA W s hs) (eq_addr_at d _ _ _ _ W hr hs) ?_
  refine eqF_cons _ _ _ _ _ _ _ _ _ _ _ (by decide) (run_part_plain W plainK_str r5) (run_part_plain W plainK_str s5) (eqS (d + 2) _ _ W) ?_
  exact eqF_cons _ _ _ _ _ _ _ _ _ _ _ (by decide) (run_part_plain W plainK_str r6) (run_part_plain W plainK_str s6) (eqS (d + 2) _ _ W) (eqF_nil _ _ _ _ _)
theorem run_neq_rec (r s : Rec) (W : World) (hr : r.b.length = 16) (hs : s.b.length = 16) : (binOp .neq 42 (recV r) (recV s)).run Try.prog W = .ok (.bool (!decide (r = s))) W := by
  have h := eq_rec_at 9996 r s W hr hs
  unfold recV at h ⊢
  rw [run_neq_struct, h]
  rfl
theorem guard_rec (op : BinOp) (x y : Operand) (r s : Rec) (W : World) : (eqGuard op 42 x y (recV r) (recV s)).run Try.prog W = .ok () W := run_eqGuard_agg _ _ _ _ _ _ _ Try.eqGuardType42
theorem qu_fields : Try.prog.fieldsOf 51 = #[{ name := "Name", type := 9, offset := 0, embedded := false, tag := "", pkgPath := "", byteOffset := 0 }, { name := "Type", type := 3, offset := 1, embedded := false, tag := "", pkgPath := "", byteOffset := 16 }, { name := "Class", type := 3, offset := 2, embedded := false, tag := "", pkgPath := "", byteOffset := 24 }] := by simp only [Program.fieldsOf, Try.underlying51]
theorem and3 (r s : Qu) : (decide (r.name = s.name) && (decide (r.ty = s.ty) && (decide (r.cl = s.cl) && true))) = decide (r = s) := by
  rw [Bool.eq_iff_iff]
  simp only [Bool.and_eq_true, decide_eq_true_iff, Bool.and_true]
  cases r
  cases s
  simp only [Qu.mk.injEq]
theorem eq_qu_at (d : Nat) (r s : Qu) (W : World) : (Op.equalIn (d + 4) 51 (quV r) (quV s)).run Try.prog W = .ok (decide (r = s)) W := by
  have hf := qu_fields
  have st : (Op.equalIn (d + 4) 51 (quV r) (quV s)).run Try.prog W = (Op.eqFields (d + 3) (quL r).toArray (quL s).toArray (Try.prog.fieldsOf 51).toList).run Try.prog W :=
    run_equalIn_struct W (d + 3) _ _ _ (by simp only [Program.fieldsOf, Try.underlying51]) Try.stoodInHeld51
  rw [st, hf, ← and3]
  refine eqF_cons _ _ _ _ _ _ _ _ _ _ _ (by decide) (run_part_plain W plainK_str rfl) (run_part_plain W plainK_str rfl) (eqS (d + 2) _ _ W) ?_
  refine eqF_cons _ _ _ _ _ _ _ _ _ _ _ (by decide) (run_part_plain W plainK_int rfl) (run_part_plain W plainK_int rfl) (eqI (d + 2) _ _ W) ?_
  exact eqF_cons _ _ _ _ _ _ _ _ _ _ _ (by decide) (run_part_plain W plainK_int rfl) (run_part_plain W plainK_int rfl) (eqI (d + 2) _ _ W) (eqF_nil _ _ _ _ _)
theorem run_neq_qu (r s : Qu) (W : World) : (binOp .neq 51 (quV r) (quV s)).run Try.prog W = .ok (.bool (!decide (r = s))) W := by
  have h := eq_qu_at 9996 r s W
  unfold quV at h ⊢
  rw [run_neq_struct, h]
  rfl
theorem guard_qu (op : BinOp) (x y : Operand) (r s : Qu) (W : World) : (eqGuard op 51 x y (quV r) (quV s)).run Try.prog W = .ok () W := run_eqGuard_agg _ _ _ _ _ _ _ Try.eqGuardType51
end Go.Proofs.Yticdpidngmeebaa
/- Contract of the reference's May of layer 9. -/
namespace Go.Proofs.Yticdpidngmeebaa
open Go.RowKit
set_option linter.unusedVariables false
set_option maxRecDepth 20000

/-- A boxed message. -/
structure MBox (w : World) (G : Nat) (v0 v1 v2 v3 v4 v5 : Value) : Prop where
  c0 : w.cell? ⟨G, 0, none⟩ = some v0
  c1 : w.cell? ⟨G, 1, none⟩ = some v1
  c2 : w.cell? ⟨G, 2, none⟩ = some v2
  c3 : w.cell? ⟨G, 3, none⟩ = some v3
  c4 : w.cell? ⟨G, 4, none⟩ = some v4
  c5 : w.cell? ⟨G, 5, none⟩ = some v5
theorem MBox.below {w w' : World} {G : Nat} {v0 v1 v2 v3 v4 v5 : Value} (h : MBox w G v0 v1 v2 v3 v4 v5) (hb : Below w.heap.size w w') : MBox w' G v0 v1 v2 v3 v4 v5 := by
  have hlt : G < w.heap.size := World.block_lt_of_cell? w ⟨G, 0, none⟩ h.c0
  exact ⟨(hb.cell (p := ⟨G, 0, none⟩) hlt).trans h.c0, (hb.cell (p := ⟨G, 1, none⟩) hlt).trans h.c1, (hb.cell (p := ⟨G, 2, none⟩) hlt).trans h.c2, (hb.cell (p := ⟨G, 3, none⟩) hlt).trans h.c3, (hb.cell (p := ⟨G, 4, none⟩) hlt).trans h.c4, (hb.cell (p := ⟨G, 5, none⟩) hlt).trans h.c5⟩
theorem MBox.new (w : World) (t : TypeId) (v0 v1 v2 v3 v4 v5 : Value) : MBox (w.alloc (.cells #[v0, v1, v2, v3, v4, v5] t)) w.heap.size v0 v1 v2 v3 v4 v5 := by
  refine ⟨?_, ?_, ?_, ?_, ?_, ?_⟩ <;> (rw [World.cell?_alloc_new]; rfl)
def RoomM (m : Msg) : Prop := (∀ q ∈ m.qs, q.name.size ≤ 1900000) ∧ (∀ r ∈ m.an, Room r) ∧ (∀ r ∈ m.au, Room r) ∧ (∀ r ∈ m.mo, Room r) ∧ m.qs.length ≤ 1000000 ∧ m.an.length ≤ 1000000 ∧ m.au.length ≤ 1000000 ∧ m.mo.length ≤ 1000000
end Go.Proofs.Yticdpidngmeebaa
