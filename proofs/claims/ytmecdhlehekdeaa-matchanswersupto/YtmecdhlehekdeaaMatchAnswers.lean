/- The law MatchAnswers, where what it reads is of bulk at most 1048576: which messages answer a query is told as the reference tells it, whatever the query, the server and the message; and what answers it, with one thing turned. Condition: bulk at most 1048576. -/
import Derived.Test.YtmecdhlehekdeaaB6
import Derived.Test.YtmecdhlehekdeaaRows
import Derived.ProofKit
import Derived.Deep.Cut
import Derived.Deep.RegionHeld3
import Derived.OpenShut
import Derived.ShutString
import Derived.ChangeOld
import Derived.Below
import Derived.JoinedCond
namespace Go.Proofs.Ytmecdhlehekdeaa.matchAnswers
open Go.ChangeShapes Go.WideShapes Go.ChangeAt Go.RowKit
open Go.ChangeMaps (open_string shut_string)
set_option linter.unusedVariables false
set_option maxRecDepth 20000
set_option linter.unusedSimpArgs false

theorem own : ownKnob Try.prog.godebug = none := by kernel_rfl

theorem qus_ofM {w : World} {g : Nat} {u : Qu} (h : CellsAt w g (quL u)) (hf : FitQ u) : QusAt w (some ⟨g, 0, none⟩) 1 [u] :=
  ⟨Nat.le_refl _, by decide, (fun x hx => by rw [List.mem_singleton.1 hx]; exact hf), Or.inr ⟨_, 0, rfl, h.lt, by
    have := h.range
    intro j v hv
    exact this j v (by simpa using hv)⟩⟩
theorem RowQ.cellsAtM {w : World} {B g : Nat} {u : Qu} (h : RowQ w B (.slice (some ⟨g, 0, none⟩) 1 1) [u]) : CellsAt w g (quL u) := by
  obtain ⟨h1, h2⟩ := h
  rcases h2 with ⟨h2, _⟩ | ⟨g', cap, cur, hv, hg, hh, h3, h4, h5, h6⟩
  · cases h2
  · cases hv
    have hsz : cur.size = 3 := by simpa using h5
    have hl : cur.toList = quL u := by
      have e : flatQ [u] = quL u := List.append_nil _
      rw [e] at h6
      rw [← h6, List.take_of_length_le]
      have : cur.toList.length = 3 := by simpa using hsz
      simp at this ⊢
      omega
    have hc : ∀ j, cur[j]? = (quL u)[j]? := fun j => by rw [← hl, Array.getElem?_toList]
    refine ⟨(Array.getElem?_eq_some_iff.1 hh).1, fun j v hv => ?_, fun j hj => ⟨?_, ?_⟩⟩
    · rw [Nat.zero_add, cell_of_row w g j cur _ _ hh, hc]; exact hv
    · rw [Nat.zero_add, cell_of_row w g j cur _ _ hh, hc, List.getElem?_eq_getElem hj]; rfl
    · unfold World.frozen?; rw [Nat.zero_add]; simp [hh]
theorem wp_append_quM {op : Oper} {a : Act} {w : World} {K : Act → World → Prop} {Q : Exit → Act → World → Prop} {base : Nat} {v : Value} {D : List Qu} (hE : Hid (RowQ w base v D)) (s x : Operand) (ho : op.op = .call { callee := .builtin .append, args := #[s, x], argTypes := #[24, 24] })
    (hs : a.eval s = v) {G o m c : Nat} (ys : List Qu) (hx : a.eval x = .slice (some ⟨G, o, none⟩) m c) (hm : Hid (m = ys.length)) (hr : Hid (w.rangeAt G o (flatQ ys))) (hle : Hid (D.length + ys.length ≤ 100000)) (hbase : Hid (base ≤ w.heap.size))
    (h : ∀ v' w', Hid (RowQ w' base v' (D ++ ys)) → Hid (w.grownBy w' v.ownBlock) → Hid (v'.ownBlock = v.ownBlock ∨ v'.ownBlock = some w.heap.size) → K (a.put op.dst v') w') : op.wp Try.prog a w K Q := by
  obtain ⟨i0, hi0, hz0, hz1, hz2⟩ := info_parts infoQ
  have hml := hm.out
  have hll := hle.out
  obtain ⟨v', w', hrun, h1, h2, _, h4⟩ := run_append_own_at (P := Try.prog) w base 24 op.type 35 i0 _ 3 32 Try.underlying24 hi0 hz0 hz1 hz2 rfl (by decide) v D.length (flatQ D) hE.out ⟨G, o, none⟩ m c (flatQ ys) (by rw [flatQ_len ys, hml]) (fun j u hu => by
    have := hr.out j u hu
    have hadd : (⟨G, o, none⟩ : Addr).add j = ⟨G, o + j, none⟩ := by unfold Addr.add; split <;> simp_all
    rw [hadd]
    exact this) (flatQ_one ys) (by unfold maxLen; omega) (by omega) hbase.out
  unfold Oper.wp execOp
  simp only [ho, resolve, invoke, builtin, Sem.run_bind, Sem.run_pure, Result.andThen_ok, List.map_toArray, List.map_cons, List.map_nil, hs, hx, hrun]
  refine h v' w' (Lib.hid ?_) (Lib.hid h2) (Lib.hid h4)
  unfold RowQ
  rw [List.length_append, flatQ_append, ← hml]; exact h1
theorem RowQ.keptM {w w' : World} {B : Nat} {v : Value} {D : List Qu} (h : RowQ w B v D) (hk : ∀ g, v.ownBlock = some g → w'.heap[g]? = w.heap[g]?) : RowQ w' B v D := by
  obtain ⟨h1, h2⟩ := h
  refine ⟨h1, ?_⟩
  rcases h2 with h2 | ⟨g, cap, cur, e1, e2, e3, e4⟩
  · exact .inl h2
  · exact .inr ⟨g, cap, cur, e1, e2, (hk g (by rw [e1]; rfl)).trans e3, e4⟩
theorem CellsAt.keepM {w w' : World} {G : Nat} {vs : List Value} (h : CellsAt w G vs) (hk : w'.heap[G]? = w.heap[G]?) (hs : w.heap.size ≤ w'.heap.size) : CellsAt w' G vs :=
  ⟨Nat.lt_of_lt_of_le h.lt hs, fun j u hu => by rw [World.cell?_of_block (w := w) (a := ⟨G, 0 + j, none⟩) hk]; exact h.range j u hu, fun j hj => by
    rw [World.cell?_of_block (w := w) (a := ⟨G, 0 + j, none⟩) hk, World.frozen?_of_block (w := w) (a := ⟨G, 0 + j, none⟩) hk]; exact h.there j hj⟩
theorem flag_33152 : flagOk 33152 = true := by kernel_rfl
theorem like_self (s : ByteArray) : likeB s s = true := by rw [likeB_iff]
theorem ans_forge (q : Qry) (s : Int) (L : List Rec) : ansP q s (forgeM q L) = decide (q.sv = s) := by
  unfold ansP forgeM
  simp only [flag_33152, ansQ, like_self, decide_true, Bool.and_true]
set_option maxRecDepth 100000 in
set_option maxHeartbeats 8000000 in
theorem walk (q : Qry) (sv : Int) (m : Msg) (aq a1 a2 a3 : Option Addr) (cq c1 c2 c3 : Nat) (z n : Int) (w : World) (hq : QryGot q 1048576) (ws : (Lit.int .i64 sv).wf = true) (hm : MsgGot w m aq a1 a2 a3 cq c1 c2 c3 1048576) (wz : (Lit.int .i64 z).wf = true) (wn : (Lit.int .i64 n).wf = true) :
    Calls Try.prog 3 #[qryV q, .int .i64 sv, msgV m aq a1 a2 a3 cq c1 c2 c3, .int .i64 z, .int .i64 n] w fun e w' => e = .returned (.bool true) ∧ Below w.heap.size w w' := by
  have hnm : q.nm.size ≤ 2000000 := Nat.le_trans hq.nm (by decide)
  have HNM : Hid (q.nm.size ≤ 1048576) := Lib.hid hq.nm
  have HFQ : Hid (FitQ ⟨q.nm, q.ty, 1⟩) := Lib.hid ⟨hq.ty, (by decide : (Lit.int .i64 1).wf = true), hq.nx⟩
  have HWN := Lib.hid wn
  have HAS := fun W => Lib.hid (pack_as q W)
  have HFO := fun W => Lib.hid (refForge11_any q none 0 [] W (RecsAt.none0 W))
  have HAR := fun W => Lib.hid (around_any z 7 W wz (by decide) (by decide))
  have HK7 := aroundN_lt z 7 (by decide)
  generalize aroundN z 7 = k at *
  have HLV := fun W => Lib.hid (lives11_any W)
  have HA0 := fun W (h : QusAt W aq cq m.qs) => Lib.hid (answers11_any q sv m aq a1 a2 a3 cq c1 c2 c3 W h hnm (fun u hu => Nat.le_trans (hm.qs.room u hu) (by decide)))
  have HB0 := fun W (h : QusAt W aq cq m.qs) => Lib.hid (refAnswers11_any q sv m aq a1 a2 a3 cq c1 c2 c3 W h hnm (fun u hu => Nat.le_trans (hm.qs.room u hu) (by decide)))
  have HAN := fun (s id fl : Int) (QL : List Qu) (ad : Option Addr) (cc : Nat) W (h : QusAt W ad cc QL) (hn : ∀ u ∈ QL, u.name.size ≤ 2000000) => Lib.hid (answers11_any q s ⟨id, fl, QL, [], [], []⟩ ad none none none cc 0 0 0 W h hnm hn)
  have HBN := fun (s id fl : Int) (QL : List Qu) (ad : Option Addr) (cc : Nat) W (h : QusAt W ad cc QL) (hn : ∀ u ∈ QL, u.name.size ≤ 2000000) => Lib.hid (refAnswers11_any q s ⟨id, fl, QL, [], [], []⟩ ad none none none cc 0 0 0 W h hnm hn)
  have HOW : Hid (ansP q q.sv ⟨q.id, 33152, [⟨q.nm, q.ty, 1⟩], [], [], []⟩ = true) := Lib.hid (by have := ans_forge q q.sv []; simpa [forgeM] using this)
  have HQM := Lib.hid hm.qs.at0
  have HFV : Hid (∀ g, msgV (forgeM q []) (some ⟨g, 0, none⟩) none none none 1 0 0 0 = .agg #[.int .i64 q.id, .int .i64 33152, .slice (some ⟨g, 0, none⟩) 1 1, .slice none 0 0, .slice none 0 0, .slice none 0 0]) := Lib.hid (fun _ => rfl)
  have HMV : Hid (∀ id fl QL ad cc, msgV ⟨id, fl, QL, [], [], []⟩ ad none none none cc 0 0 0 = .agg #[.int .i64 id, .int .i64 fl, .slice ad QL.length cc, .slice none 0 0, .slice none 0 0, .slice none 0 0]) := Lib.hid (fun _ _ _ _ _ => rfl)
  simp only [HMV.out] at HAN HBN
  unfold msgV at HA0 HB0 ⊢
  generalize m.qs.length = n0 at *
  generalize m.an.length = n1 at *
  generalize m.au.length = n2 at *
  generalize m.mo.length = n3 at *
  generalize ansP q sv m = r0 at *
  generalize m.id = mid at *
  generalize m.fl = mfl at *
  generalize hqs : m.qs = Q0 at *
  clear hqs hm hq ws wz wn hnm HMV
  obtain ⟨qid, qnm, qty, qsv⟩ := q
  unfold qryV at *
  simp only at HAS HFO HA0 HB0 HAN HBN HOW HFV HFQ HNM ⊢
  obtain ⟨W0, hW0⟩ : ∃ W0, (w.alloc (.cells #[.int .i64 qid, .string qnm, .int .i64 qty, .int .i64 qsv] 23)).alloc (.cells #[.int .i64 mid, .int .i64 mfl, .slice aq n0 cq, .slice a1 n1 c1, .slice a2 n2 c2, .slice a3 n3 c3] 27) = W0 := ⟨_, rfl⟩
  have hb0 : Below w.heap.size w W0.drew := by rw [← hW0]; exact (((Below.refl _ _).alloc (Nat.le_refl _) _).alloc (by simp) _).drew
  have HB1 := Lib.hid hb0
  have HQ1 : Hid (CellsAt W0.drew w.heap.size [.int .i64 qid, .string qnm, .int .i64 qty, .int .i64 qsv]) := Lib.hid (by
    rw [← hW0]; exact ((CellsAt.new w 23 [.int .i64 qid, .string qnm, .int .i64 qty, .int .i64 qsv]).below ((Below.refl _ _).alloc (Nat.le_refl _) _)).below (Below.refl _ _).drew)
  have HM1 : Hid (CellsAt W0.drew (w.heap.size + 1) [.int .i64 mid, .int .i64 mfl, .slice aq n0 cq, .slice a1 n1 c1, .slice a2 n2 c2, .slice a3 n3 c3]) := Lib.hid (by
    have := CellsAt.new (w.alloc (.cells #[.int .i64 qid, .string qnm, .int .i64 qty, .int .i64 qsv] 23)) 27 [.int .i64 mid, .int .i64 mfl, .slice aq n0 cq, .slice a1 n1 c1, .slice a2 n2 c2, .slice a3 n3 c3]
    rw [World.size_alloc] at this
    have h2 := this.below (Below.refl _ _).drew
    rw [← hW0]; exact h2)
  have HU1 := Lib.hid (HQM.out.below hb0)
  go_enter Try.func3, Try.ntmps3
  go_upto_region 1 with fail
  try rw [hW0]
  clear hW0 hb0 HQM
  have hsQ : (Try.prog.info? 23).map (·.size) = some ([.int .i64 qid, .string qnm, .int .i64 qty, .int .i64 qsv] : List Value).length := by kernel_rfl
  have hsM : (Try.prog.info? 27).map (·.size) = some ([.int .i64 mid, .int .i64 mfl, .slice aq n0 cq, .slice a1 n1 c1, .slice a2 n2 c2, .slice a3 n3 c3] : List Value).length := by kernel_rfl
  obtain ⟨S, hS⟩ : ∃ S : World → Prop, (fun U => U.rangeAt w.heap.size 0 [.int .i64 qid, .string qnm, .int .i64 qty, .int .i64 qsv] ∧ U.rangeAt (w.heap.size + 1) 0 [.int .i64 mid, .int .i64 mfl, .slice aq n0 cq, .slice a1 n1 c1, .slice a2 n2 c2, .slice a3 n3 c3]) = S := ⟨_, rfl⟩
  have C1 : Hid (∀ w', S w' → w'.rangeAt w.heap.size 0 [.int .i64 qid, .string qnm, .int .i64 qty, .int .i64 qsv]) := Lib.hid (fun w' h => by rw [← hS] at h; exact h.1)
  have C2 : Hid (∀ w', S w' → w'.rangeAt (w.heap.size + 1) 0 [.int .i64 mid, .int .i64 mfl, .slice aq n0 cq, .slice a1 n1 c1, .slice a2 n2 c2, .slice a3 n3 c3]) := Lib.hid (fun w' h => by rw [← hS] at h; exact h.2)
  have HSI : Hid (∀ U, Below W0.drew.heap.size W0.drew U → S U) := Lib.hid (fun U h => by rw [← hS]; exact ⟨(HQ1.out.below h).range, (HM1.out.below h).range⟩)
  clear hS HM1
  refine wp_region_noPanic ?_
  refine wp_region_held_drew (S := S) (by kernel_rfl) (HSI.out _ (Below.refl _ _)) (fun hHeld => ?_)
  generalize W0.drew = V at *
  refine wpAnyH_take (i := 0) rfl (by kernel_rfl) (by kernel_rfl) (by kernel_rfl) (fun _ _ _ h => h) (yields_row C1 Try.underlying23 rfl hsQ (by rfl) _ rfl rfl) (by assumption) ?_
  try simp only [Act.put, List.getElem_toArray, List.getElem_cons_zero, List.setIfInBounds_toArray, List.set_cons_zero, List.set_cons_succ]
  refine wpAnyH_take (i := 1) (v := ?_) rfl (by kernel_rfl) (by kernel_rfl) (by kernel_rfl) (fun _ _ _ h => h) (Or.inl ⟨by rfl, ?_⟩) (by assumption) ?_
  rotate_left
  · (intro w hSw; go_simp; try (with_reducible rfl))
  try simp only [Act.put, List.getElem_toArray, List.getElem_cons_zero, List.getElem_cons_succ, List.setIfInBounds_toArray, List.set_cons_zero, List.set_cons_succ]
  refine wpAnyH_take (i := 2) rfl (by kernel_rfl) (by kernel_rfl) (by kernel_rfl) (fun _ _ _ h => h) (yields_row C2 Try.underlying27 rfl hsM (by rfl) _ rfl rfl) (by assumption) ?_
  try simp only [Act.put, List.getElem_toArray, List.getElem_cons_zero, List.getElem_cons_succ, List.setIfInBounds_toArray, List.set_cons_zero, List.set_cons_succ]
  refine wpAnyH_take (i := 4) rfl (by kernel_rfl) (by kernel_rfl) (by kernel_rfl) (fun _ _ _ h => h) (yields_row C1 Try.underlying23 rfl hsQ (by rfl) _ rfl rfl) (by assumption) ?_
  try simp only [Act.put, List.getElem_toArray, List.getElem_cons_zero, List.getElem_cons_succ, List.setIfInBounds_toArray, List.set_cons_zero, List.set_cons_succ]
  refine wpAnyH_take (i := 6) (v := ?_) rfl (by kernel_rfl) (by kernel_rfl) (by kernel_rfl) (fun _ _ _ h => h) (Or.inl ⟨by rfl, ?_⟩) (by assumption) ?_
  rotate_left
  · (intro w hSw; go_simp; try (with_reducible rfl))
  try simp only [Act.put, List.getElem_toArray, List.getElem_cons_zero, List.getElem_cons_succ, List.setIfInBounds_toArray, List.set_cons_zero, List.set_cons_succ]
  refine wpAnyH_take (i := 7) rfl (by kernel_rfl) (by kernel_rfl) (by kernel_rfl) (fun _ _ _ h => h) (yields_row C2 Try.underlying27 rfl hsM (by rfl) _ rfl rfl) (by assumption) ?_
  try simp only [Act.put, List.getElem_toArray, List.getElem_cons_zero, List.getElem_cons_succ, List.setIfInBounds_toArray, List.set_cons_zero, List.set_cons_succ]
  refine wpAnyH_ready (rs := [3]) (by kernel_rfl) (by simp) ?_
  refine ready_one rfl rfl (fun K hK => ?_)
  go_simp
  refine (HA0 V HU1.out).out.mono ?_
  rintro e w1 ⟨rfl, hb1⟩
  have HG1 := Lib.hid hb1
  have HU2 := Lib.hid (HU1.out.below hb1)
  clear hb1 HA0 HU1
  go_wp2_with fail
  refine hK.out _ _ (HSI.out _ HG1.out) (fun hHeld3 => ?_)
  clear hK K
  try simp only [Act.put, List.getElem_toArray, List.getElem_cons_zero, List.getElem_cons_succ, List.setIfInBounds_toArray, List.set_cons_zero, List.set_cons_succ]
  refine wpAnyH_ready (rs := [5]) (by kernel_rfl) (by simp) ?_
  refine ready_one rfl rfl (fun K hK => ?_)
  go_simp
  refine (HAS w1).out.mono ?_
  rintro e w2 ⟨rfl, hb2⟩
  have HG2 := Lib.hid (chain HG1.out hb2)
  have HU3 := Lib.hid (HU2.out.below hb2)
  clear hb2 HU2
  go_wp2_with fail
  refine hK.out _ _ (HSI.out _ HG2.out) (fun hHeld5 => ?_)
  clear hK K
  try simp only [Act.put, List.getElem_toArray, List.getElem_cons_zero, List.getElem_cons_succ, List.setIfInBounds_toArray, List.set_cons_zero, List.set_cons_succ]
  refine wpAnyH_ready (rs := [8]) (by kernel_rfl) (by simp) ?_
  refine ready_one rfl rfl (fun K hK => ?_)
  go_simp
  refine (HB0 w2 HU3.out).out.mono ?_
  rintro e w3 ⟨rfl, hb3⟩
  have HG3 := Lib.hid (chain HG2.out hb3)
  clear hb3 HB0 HU3
  go_wp2_with fail
  refine hK.out _ _ (HSI.out _ HG3.out) (fun hHeld8 => ?_)
  clear hK K
  try simp only [Act.put, List.getElem_toArray, List.getElem_cons_zero, List.getElem_cons_succ, List.setIfInBounds_toArray, List.set_cons_zero, List.set_cons_succ]
  have hne : (r0 != r0) = false := by simp
  refine wpAnyH_take (i := 9) (v := ?_) rfl (by kernel_rfl) (by kernel_rfl) (by kernel_rfl) (fun _ _ _ h => h) (Or.inl ⟨by rfl, ?_⟩) (by assumption) ?_
  rotate_left
  · (intro w hSw; go_simp; try (with_reducible rfl))
  try simp only [Act.put, List.getElem_toArray, List.getElem_cons_zero, List.getElem_cons_succ, List.setIfInBounds_toArray, List.set_cons_zero, List.set_cons_succ]
  refine wpAnyH_done (by kernel_rfl) ?_ _
  refine NoPanic.normal ?_
  clear hHeld hHeld3 hHeld5 hHeld8 C1 C2 HSI hne
  have HB3 : Hid (Below w.heap.size w w3) := Lib.hid (chain HB1.out HG3.out)
  have HQ3 := Lib.hid (HQ1.out.below HG3.out)
  clear HQ1 HB1 HG1 HG2 HG3 hsM
  have q0 := HQ3.out.cell 0 _ rfl
  have q1 := HQ3.out.cell 1 _ rfl
  have q2 := HQ3.out.cell 2 _ rfl
  have q3 := HQ3.out.cell 3 _ rfl
  go_wp2_with fail
  refine (HAS w3).out.mono ?_
  rintro e w4 ⟨rfl, hb4⟩
  have HB4 := Lib.hid (chain HB3.out hb4)
  have HQ4 := Lib.hid (HQ3.out.below hb4)
  clear hb4 HB3 HQ3 q0 q1 q2 q3
  go_wp2_with fail
  refine (HFO w4).out.mono ?_
  rintro e w5 ⟨g, rfl, hg4, hrq, _, hb5⟩
  rw [HFV.out]
  have HB5 := Lib.hid (chain HB4.out hb5)
  have HQ5 := Lib.hid (HQ4.out.below hb5)
  have HRQ := Lib.hid hrq
  have HGL : Hid (w.heap.size < g) := Lib.hid (Nat.lt_of_lt_of_le HQ4.out.lt hg4)
  clear hb5 hrq hg4 HB4 HQ4 HFO HFV
  go_upto_region 4 with fail
  obtain ⟨W6, hW6⟩ : ∃ W6, w5.alloc (.cells #[.int .i64 qid, .int .i64 33152, .slice (some ⟨g, 0, none⟩) 1 1, .slice none 0 0, .slice none 0 0, .slice none 0 0] 27) = W6 := ⟨_, rfl⟩
  have hb6 : Below w5.heap.size w5 W6 := by rw [← hW6]; exact (Below.refl _ _).alloc (Nat.le_refl _) _
  have HO6 : Hid (CellsAt W6 w5.heap.size [.int .i64 qid, .int .i64 33152, .slice (some ⟨g, 0, none⟩) 1 1, .slice none 0 0, .slice none 0 0, .slice none 0 0]) := Lib.hid (by rw [← hW6]; exact CellsAt.new w5 27 [.int .i64 qid, .int .i64 33152, .slice (some ⟨g, 0, none⟩) 1 1, .slice none 0 0, .slice none 0 0, .slice none 0 0])
  have HQ6 := Lib.hid (HQ5.out.below hb6)
  have HB6 : Hid (Below w.heap.size w W6) := Lib.hid (chain HB5.out hb6)
  have HR6 := Lib.hid (HRQ.out.below hb6)
  have HGM : Hid (g < w5.heap.size) := Lib.hid (RowQ.cellsAtM HRQ.out).lt
  try rw [hW6]
  clear hW6 hb6 HQ5 HB5 HRQ
  obtain ⟨M, hM⟩ : ∃ M, w5.heap.size = M := ⟨_, rfl⟩
  rw [hM] at HO6 HGM
  try rw [hM]
  clear hM
  have q0 := HQ6.out.cell 0 _ rfl
  have q1 := HQ6.out.cell 1 _ rfl
  have q2 := HQ6.out.cell 2 _ rfl
  have q3 := HQ6.out.cell 3 _ rfl
  have o0 := HO6.out.cell 0 _ rfl
  have o1 := HO6.out.cell 1 _ rfl
  have o2 := HO6.out.cell 2 _ rfl
  have o3 := HO6.out.cell 3 _ rfl
  have o4 := HO6.out.cell 4 _ rfl
  have o5 := HO6.out.cell 5 _ rfl
  have HQU := Lib.hid (qus_ofM (RowQ.cellsAtM HR6.out) HFQ.out)
  have HNS : Hid (∀ u ∈ ([⟨qnm, qty, 1⟩] : List Qu), u.name.size ≤ 2000000) := Lib.hid (fun u hu => by rw [List.mem_singleton.1 hu]; have := HNM.out; show qnm.size ≤ _; omega)
  have HA4 := HAN qsv qid 33152 [⟨qnm, qty, 1⟩] (some ⟨g, 0, none⟩) 1 W6 HQU.out HNS.out
  rw [HOW.out] at HA4
  go_wp2_with fail
  refine HA4.out.mono ?_
  rintro e w7 ⟨rfl, hb7⟩
  have HO7 := Lib.hid (HO6.out.below hb7)
  have HQ7 := Lib.hid (HQ6.out.below hb7)
  have HB7 := Lib.hid (chain HB6.out hb7)
  have HR7 := Lib.hid (HR6.out.below hb7)
  clear hb7 HO6 HQ6 HB6 HR6 HQU HNS HA4 HOW q0 q1 q2 q3 o0 o1 o2 o3 o4 o5
  have q3 := HQ7.out.cell 3 _ rfl
  go_wp2_with fail
  refine (HAR w7).out.mono ?_
  rintro e wq ⟨rfl, hwq⟩
  obtain rfl : w7 = wq := hwq
  clear HAR q3
  have HC7 := Lib.hid (RowQ.cellsAtM HR7.out)
  have o0 := HO7.out.cell 0 _ rfl
  have o1 := HO7.out.cell 1 _ rfl
  have o2 := HO7.out.cell 2 _ rfl
  have f0 := HO7.out.live 0 (by simp)
  have f1 := HO7.out.live 1 (by simp)
  have f2 := HO7.out.live 2 (by simp)
  have g0 := HC7.out.cell 0 _ rfl
  have g1 := HC7.out.cell 1 _ rfl
  have g2 := HC7.out.cell 2 _ rfl
  have e0 := HC7.out.live 0 (by simp [quL])
  have e1 := HC7.out.live 1 (by simp [quL])
  have e2 := HC7.out.live 2 (by simp [quL])
  have hgm := HGM.out
  have hgl := HGL.out
  have hwm : w.heap.size < M := by omega
  have hk : k = 0 ∨ k = 1 ∨ k = 2 ∨ k = 3 ∨ k = 4 ∨ k = 5 ∨ k = 6 := by omega
  clear HK7 hsQ
  rcases hk with rfl | rfl | rfl | rfl | rfl | rfl | rfl
  · go_upto_region 21 with fail
    have hd := (Below.refl (w7.setCell ⟨M, 0, none⟩ (.int .i64 n)).heap.size (w7.setCell ⟨M, 0, none⟩ (.int .i64 n))).drew
    have HO9 : Hid (CellsAt (w7.setCell ⟨M, 0, none⟩ (.int .i64 n)).drew M [.int .i64 n, .int .i64 33152, .slice (some ⟨g, 0, none⟩) 1 1, .slice none 0 0, .slice none 0 0, .slice none 0 0]) := Lib.hid (CellsAt.below (w := w7.setCell ⟨M, 0, none⟩ (.int .i64 n)) (HO7.out.set 0 _ (by simp)) hd)
    have HQ9 : Hid (CellsAt (w7.setCell ⟨M, 0, none⟩ (.int .i64 n)).drew w.heap.size [.int .i64 qid, .string qnm, .int .i64 qty, .int .i64 qsv]) := Lib.hid (CellsAt.below (w := w7.setCell ⟨M, 0, none⟩ (.int .i64 n)) (HQ7.out.other (by omega) _ _) hd)
    have HU9 : Hid (QusAt (w7.setCell ⟨M, 0, none⟩ (.int .i64 n)).drew (some ⟨g, 0, none⟩) 1 [⟨qnm, qty, 1⟩]) := Lib.hid (QusAt.below (w := w7.setCell ⟨M, 0, none⟩ (.int .i64 n)) (qus_ofM (HC7.out.other (by omega) _ _) HFQ.out) hd)
    have HB9 : Hid (Below w.heap.size w (w7.setCell ⟨M, 0, none⟩ (.int .i64 n)).drew) := Lib.hid (Below.drew (HB7.out.setCell (Nat.le_of_lt hwm) _))
    have HN9 : Hid (∀ u ∈ ([⟨qnm, qty, 1⟩] : List Qu), u.name.size ≤ 2000000) := Lib.hid ((fun u hu => by rw [List.mem_singleton.1 hu]; have := HNM.out; show qnm.size ≤ _; omega))
    clear hd HO7 HQ7 HR7 HC7 HB7
    try clear o0 o1 o2 f0 f1 f2 g0 g1 g2 e0 e1 e2
    have HA9 := fun W h => HAN qsv n 33152 [⟨qnm, qty, 1⟩] (some ⟨g, 0, none⟩) 1 W h HN9.out
    have HC9 := fun W h => HBN qsv n 33152 [⟨qnm, qty, 1⟩] (some ⟨g, 0, none⟩) 1 W h HN9.out
    generalize ansP ⟨qid, qnm, qty, qsv⟩ qsv ⟨n, 33152, [⟨qnm, qty, 1⟩], [], [], []⟩ = r9 at *
    have hnn : ([⟨qnm, qty, 1⟩] : List Qu).length = 1 := rfl
    rw [hnn] at HA9 HC9
    generalize ([⟨qnm, qty, 1⟩] : List Qu) = QQ at *
    generalize (w7.setCell ⟨M, 0, none⟩ (.int .i64 n)) = WX at *
    clear HAN HBN hnn
    have hsQ : (Try.prog.info? 23).map (·.size) = some ([.int .i64 qid, .string qnm, .int .i64 qty, .int .i64 qsv] : List Value).length := by kernel_rfl
    have hsM : (Try.prog.info? 27).map (·.size) = some ([.int .i64 n, .int .i64 33152, .slice (some ⟨g, 0, none⟩) 1 1, .slice none 0 0, .slice none 0 0, .slice none 0 0] : List Value).length := by kernel_rfl
    obtain ⟨S, hS⟩ : ∃ S : World → Prop, (fun U => U.rangeAt w.heap.size 0 [.int .i64 qid, .string qnm, .int .i64 qty, .int .i64 qsv] ∧ U.rangeAt M 0 [.int .i64 n, .int .i64 33152, .slice (some ⟨g, 0, none⟩) 1 1, .slice none 0 0, .slice none 0 0, .slice none 0 0]) = S := ⟨_, rfl⟩
    have C1 : Hid (∀ w', S w' → w'.rangeAt w.heap.size 0 [.int .i64 qid, .string qnm, .int .i64 qty, .int .i64 qsv]) := Lib.hid (fun w' h => by rw [← hS] at h; exact h.1)
    have C2 : Hid (∀ w', S w' → w'.rangeAt M 0 [.int .i64 n, .int .i64 33152, .slice (some ⟨g, 0, none⟩) 1 1, .slice none 0 0, .slice none 0 0, .slice none 0 0]) := Lib.hid (fun w' h => by rw [← hS] at h; exact h.2)
    have HSI : Hid (∀ U, Below WX.drew.heap.size WX.drew U → S U) := Lib.hid (fun U h => by rw [← hS]; exact ⟨(HQ9.out.below h).range, (HO9.out.below h).range⟩)
    clear hS HQ9 HO9
    refine wp_region_noPanic ?_
    refine wp_region_held_drew (S := S) (by kernel_rfl) (HSI.out _ (Below.refl _ _)) (fun hHeld => ?_)
    generalize WX.drew = V at *
    refine wpAnyH_take (i := 0) rfl (by kernel_rfl) (by kernel_rfl) (by kernel_rfl) (fun _ _ _ h => h) (yields_row C1 Try.underlying23 rfl hsQ (by rfl) _ rfl rfl) (by assumption) ?_
    try simp only [Act.put, List.getElem_toArray, List.getElem_cons_zero, List.setIfInBounds_toArray, List.set_cons_zero, List.set_cons_succ]
    refine wpAnyH_take (i := 1) (v := ?_) rfl (by kernel_rfl) (by kernel_rfl) (by kernel_rfl) (fun _ _ _ h => h) (Or.inl ⟨by rfl, ?_⟩) (by assumption) ?_
    rotate_left
    · (intro w hSw; go_simp; try (with_reducible rfl))
    try simp only [Act.put, List.getElem_toArray, List.getElem_cons_zero, List.getElem_cons_succ, List.setIfInBounds_toArray, List.set_cons_zero, List.set_cons_succ]
    refine wpAnyH_take (i := 2) rfl (by kernel_rfl) (by kernel_rfl) (by kernel_rfl) (fun _ _ _ h => h) (yields_row C2 Try.underlying27 rfl hsM (by rfl) _ rfl rfl) (by assumption) ?_
    try simp only [Act.put, List.getElem_toArray, List.getElem_cons_zero, List.getElem_cons_succ, List.setIfInBounds_toArray, List.set_cons_zero, List.set_cons_succ]
    refine wpAnyH_take (i := 4) rfl (by kernel_rfl) (by kernel_rfl) (by kernel_rfl) (fun _ _ _ h => h) (yields_row C1 Try.underlying23 rfl hsQ (by rfl) _ rfl rfl) (by assumption) ?_
    try simp only [Act.put, List.getElem_toArray, List.getElem_cons_zero, List.getElem_cons_succ, List.setIfInBounds_toArray, List.set_cons_zero, List.set_cons_succ]
    refine wpAnyH_take (i := 6) (v := ?_) rfl (by kernel_rfl) (by kernel_rfl) (by kernel_rfl) (fun _ _ _ h => h) (Or.inl ⟨by rfl, ?_⟩) (by assumption) ?_
    rotate_left
    · (intro w hSw; go_simp; try (with_reducible rfl))
    try simp only [Act.put, List.getElem_toArray, List.getElem_cons_zero, List.getElem_cons_succ, List.setIfInBounds_toArray, List.set_cons_zero, List.set_cons_succ]
    refine wpAnyH_take (i := 7) rfl (by kernel_rfl) (by kernel_rfl) (by kernel_rfl) (fun _ _ _ h => h) (yields_row C2 Try.underlying27 rfl hsM (by rfl) _ rfl rfl) (by assumption) ?_
    try simp only [Act.put, List.getElem_toArray, List.getElem_cons_zero, List.getElem_cons_succ, List.setIfInBounds_toArray, List.set_cons_zero, List.set_cons_succ]
    refine wpAnyH_ready (rs := [3]) (by kernel_rfl) (by simp) ?_
    refine ready_one rfl rfl (fun K hK => ?_)
    go_simp
    refine (HA9 V HU9.out).out.mono ?_
    rintro e w11 ⟨rfl, hb11⟩
    have HG1 := Lib.hid hb11
    clear hb11 HA9
    go_wp2_with fail
    refine hK.out _ _ (HSI.out _ HG1.out) (fun hHeld3 => ?_)
    clear hK K
    try simp only [Act.put, List.getElem_toArray, List.getElem_cons_zero, List.getElem_cons_succ, List.setIfInBounds_toArray, List.set_cons_zero, List.set_cons_succ]
    refine wpAnyH_ready (rs := [5]) (by kernel_rfl) (by simp) ?_
    refine ready_one rfl rfl (fun K hK => ?_)
    go_simp
    refine (HAS w11).out.mono ?_
    rintro e w12 ⟨rfl, hb12⟩
    have HG2 := Lib.hid (chain HG1.out hb12)
    have HU2 := Lib.hid (HU9.out.below HG2.out)
    clear hb12 HAS
    go_wp2_with fail
    refine hK.out _ _ (HSI.out _ HG2.out) (fun hHeld5 => ?_)
    clear hK K
    try simp only [Act.put, List.getElem_toArray, List.getElem_cons_zero, List.getElem_cons_succ, List.setIfInBounds_toArray, List.set_cons_zero, List.set_cons_succ]
    refine wpAnyH_ready (rs := [8]) (by kernel_rfl) (by simp) ?_
    refine ready_one rfl rfl (fun K hK => ?_)
    go_simp
    refine (HC9 w12 HU2.out).out.mono ?_
    rintro e w13 ⟨rfl, hb13⟩
    have HG3 := Lib.hid (chain HG2.out hb13)
    clear hb13 HC9 HU2
    go_wp2_with fail
    refine hK.out _ _ (HSI.out _ HG3.out) (fun hHeld8 => ?_)
    clear hK K
    try simp only [Act.put, List.getElem_toArray, List.getElem_cons_zero, List.getElem_cons_succ, List.setIfInBounds_toArray, List.set_cons_zero, List.set_cons_succ]
    have heq : (r9 == r9) = true := by simp
    refine wpAnyH_take (i := 9) (v := ?_) rfl (by kernel_rfl) (by kernel_rfl) (by kernel_rfl) (fun _ _ _ h => h) (Or.inl ⟨by rfl, ?_⟩) (by assumption) ?_
    rotate_left
    · (intro w hSw; go_simp; try (with_reducible rfl))
    try simp only [Act.put, List.getElem_toArray, List.getElem_cons_zero, List.getElem_cons_succ, List.setIfInBounds_toArray, List.set_cons_zero, List.set_cons_succ]
    refine wpAnyH_take (i := 10) (v := ?_) rfl (by kernel_rfl) (by kernel_rfl) (by kernel_rfl) (fun _ _ _ h => h) (Or.inl ⟨by rfl, ?_⟩) (by assumption) ?_
    rotate_left
    · (intro w hSw; go_simp; try (with_reducible rfl))
    try simp only [Act.put, List.getElem_toArray, List.getElem_cons_zero, List.getElem_cons_succ, List.setIfInBounds_toArray, List.set_cons_zero, List.set_cons_succ]
    clear heq
    refine wpAnyH_ready (rs := [11]) (by kernel_rfl) (by simp) ?_
    refine ready_one rfl rfl (fun K hK => ?_)
    go_simp
    refine (HLV w13).out.mono ?_
    rintro e w14 ⟨rfl, hb14⟩
    have HG4 := Lib.hid (chain HG3.out hb14)
    clear hb14 HLV
    go_wp2_with fail
    refine hK.out _ _ (HSI.out _ HG4.out) (fun hHeld11 => ?_)
    clear hK K
    try simp only [Act.put, List.getElem_toArray, List.getElem_cons_zero, List.getElem_cons_succ, List.setIfInBounds_toArray, List.set_cons_zero, List.set_cons_succ]
    refine wpAnyH_take (i := 12) (v := ?_) rfl (by kernel_rfl) (by kernel_rfl) (by kernel_rfl) (fun _ _ _ h => h) (Or.inl ⟨by rfl, ?_⟩) (by assumption) ?_
    rotate_left
    · (intro w hSw; go_simp; try (with_reducible rfl))
    try simp only [Act.put, List.getElem_toArray, List.getElem_cons_zero, List.getElem_cons_succ, List.setIfInBounds_toArray, List.set_cons_zero, List.set_cons_succ]
    refine wpAnyH_take (i := 13) (v := ?_) rfl (by kernel_rfl) (by kernel_rfl) (by kernel_rfl) (fun _ _ _ h => h) (Or.inl ⟨by rfl, ?_⟩) (by assumption) ?_
    rotate_left
    · (intro w hSw; go_simp; try (with_reducible rfl))
    try simp only [Act.put, List.getElem_toArray, List.getElem_cons_zero, List.getElem_cons_succ, List.setIfInBounds_toArray, List.set_cons_zero, List.set_cons_succ]
    refine wpAnyH_done (by kernel_rfl) ?_ _
    refine NoPanic.normal ?_
    clear hHeld hHeld3 hHeld5 hHeld8 hHeld11 C1 C2 HSI
    go_wp2_with fail
    go_ret
    exact ⟨rfl, chain HB9.out HG4.out⟩
  · go_upto_region 21 with fail
    have hd := (Below.refl (w7.setCell ⟨M, 1, none⟩ (.int .i64 n)).heap.size (w7.setCell ⟨M, 1, none⟩ (.int .i64 n))).drew
    have HO9 : Hid (CellsAt (w7.setCell ⟨M, 1, none⟩ (.int .i64 n)).drew M [.int .i64 qid, .int .i64 n, .slice (some ⟨g, 0, none⟩) 1 1, .slice none 0 0, .slice none 0 0, .slice none 0 0]) := Lib.hid (CellsAt.below (w := w7.setCell ⟨M, 1, none⟩ (.int .i64 n)) (HO7.out.set 1 _ (by simp)) hd)
    have HQ9 : Hid (CellsAt (w7.setCell ⟨M, 1, none⟩ (.int .i64 n)).drew w.heap.size [.int .i64 qid, .string qnm, .int .i64 qty, .int .i64 qsv]) := Lib.hid (CellsAt.below (w := w7.setCell ⟨M, 1, none⟩ (.int .i64 n)) (HQ7.out.other (by omega) _ _) hd)
    have HU9 : Hid (QusAt (w7.setCell ⟨M, 1, none⟩ (.int .i64 n)).drew (some ⟨g, 0, none⟩) 1 [⟨qnm, qty, 1⟩]) := Lib.hid (QusAt.below (w := w7.setCell ⟨M, 1, none⟩ (.int .i64 n)) (qus_ofM (HC7.out.other (by omega) _ _) HFQ.out) hd)
    have HB9 : Hid (Below w.heap.size w (w7.setCell ⟨M, 1, none⟩ (.int .i64 n)).drew) := Lib.hid (Below.drew (HB7.out.setCell (Nat.le_of_lt hwm) _))
    have HN9 : Hid (∀ u ∈ ([⟨qnm, qty, 1⟩] : List Qu), u.name.size ≤ 2000000) := Lib.hid ((fun u hu => by rw [List.mem_singleton.1 hu]; have := HNM.out; show qnm.size ≤ _; omega))
    clear hd HO7 HQ7 HR7 HC7 HB7
    try clear o0 o1 o2 f0 f1 f2 g0 g1 g2 e0 e1 e2
    have HA9 := fun W h => HAN qsv qid n [⟨qnm, qty, 1⟩] (some ⟨g, 0, none⟩) 1 W h HN9.out
    have HC9 := fun W h => HBN qsv qid n [⟨qnm, qty, 1⟩] (some ⟨g, 0, none⟩) 1 W h HN9.out
    generalize ansP ⟨qid, qnm, qty, qsv⟩ qsv ⟨qid, n, [⟨qnm, qty, 1⟩], [], [], []⟩ = r9 at *
    have hnn : ([⟨qnm, qty, 1⟩] : List Qu).length = 1 := rfl
    rw [hnn] at HA9 HC9
    generalize ([⟨qnm, qty, 1⟩] : List Qu) = QQ at *
    generalize (w7.setCell ⟨M, 1, none⟩ (.int .i64 n)) = WX at *
    clear HAN HBN hnn
    have hsQ : (Try.prog.info? 23).map (·.size) = some ([.int .i64 qid, .string qnm, .int .i64 qty, .int .i64 qsv] : List Value).length := by kernel_rfl
    have hsM : (Try.prog.info? 27).map (·.size) = some ([.int .i64 qid, .int .i64 n, .slice (some ⟨g, 0, none⟩) 1 1, .slice none 0 0, .slice none 0 0, .slice none 0 0] : List Value).length := by kernel_rfl
    obtain ⟨S, hS⟩ : ∃ S : World → Prop, (fun U => U.rangeAt w.heap.size 0 [.int .i64 qid, .string qnm, .int .i64 qty, .int .i64 qsv] ∧ U.rangeAt M 0 [.int .i64 qid, .int .i64 n, .slice (some ⟨g, 0, none⟩) 1 1, .slice none 0 0, .slice none 0 0, .slice none 0 0]) = S := ⟨_, rfl⟩
    have C1 : Hid (∀ w', S w' → w'.rangeAt w.heap.size 0 [.int .i64 qid, .string qnm, .int .i64 qty, .int .i64 qsv]) := Lib.hid (fun w' h => by rw [← hS] at h; exact h.1)
    have C2 : Hid (∀ w', S w' → w'.rangeAt M 0 [.int .i64 qid, .int .i64 n, .slice (some ⟨g, 0, none⟩) 1 1, .slice none 0 0, .slice none 0 0, .slice none 0 0]) := Lib.hid (fun w' h => by rw [← hS] at h; exact h.2)
    have HSI : Hid (∀ U, Below WX.drew.heap.size WX.drew U → S U) := Lib.hid (fun U h => by rw [← hS]; exact ⟨(HQ9.out.below h).range, (HO9.out.below h).range⟩)
    clear hS HQ9 HO9
    refine wp_region_noPanic ?_
    refine wp_region_held_drew (S := S) (by kernel_rfl) (HSI.out _ (Below.refl _ _)) (fun hHeld => ?_)
    generalize WX.drew = V at *
    refine wpAnyH_take (i := 0) rfl (by kernel_rfl) (by kernel_rfl) (by kernel_rfl) (fun _ _ _ h => h) (yields_row C1 Try.underlying23 rfl hsQ (by rfl) _ rfl rfl) (by assumption) ?_
    try simp only [Act.put, List.getElem_toArray, List.getElem_cons_zero, List.setIfInBounds_toArray, List.set_cons_zero, List.set_cons_succ]
    refine wpAnyH_take (i := 1) (v := ?_) rfl (by kernel_rfl) (by kernel_rfl) (by kernel_rfl) (fun _ _ _ h => h) (Or.inl ⟨by rfl, ?_⟩) (by assumption) ?_
    rotate_left
    · (intro w hSw; go_simp; try (with_reducible rfl))
    try simp only [Act.put, List.getElem_toArray, List.getElem_cons_zero, List.getElem_cons_succ, List.setIfInBounds_toArray, List.set_cons_zero, List.set_cons_succ]
    refine wpAnyH_take (i := 2) rfl (by kernel_rfl) (by kernel_rfl) (by kernel_rfl) (fun _ _ _ h => h) (yields_row C2 Try.underlying27 rfl hsM (by rfl) _ rfl rfl) (by assumption) ?_
    try simp only [Act.put, List.getElem_toArray, List.getElem_cons_zero, List.getElem_cons_succ, List.setIfInBounds_toArray, List.set_cons_zero, List.set_cons_succ]
    refine wpAnyH_take (i := 4) rfl (by kernel_rfl) (by kernel_rfl) (by kernel_rfl) (fun _ _ _ h => h) (yields_row C1 Try.underlying23 rfl hsQ (by rfl) _ rfl rfl) (by assumption) ?_
    try simp only [Act.put, List.getElem_toArray, List.getElem_cons_zero, List.getElem_cons_succ, List.setIfInBounds_toArray, List.set_cons_zero, List.set_cons_succ]
    refine wpAnyH_take (i := 6) (v := ?_) rfl (by kernel_rfl) (by kernel_rfl) (by kernel_rfl) (fun _ _ _ h => h) (Or.inl ⟨by rfl, ?_⟩) (by assumption) ?_
    rotate_left
    · (intro w hSw; go_simp; try (with_reducible rfl))
    try simp only [Act.put, List.getElem_toArray, List.getElem_cons_zero, List.getElem_cons_succ, List.setIfInBounds_toArray, List.set_cons_zero, List.set_cons_succ]
    refine wpAnyH_take (i := 7) rfl (by kernel_rfl) (by kernel_rfl) (by kernel_rfl) (fun _ _ _ h => h) (yields_row C2 Try.underlying27 rfl hsM (by rfl) _ rfl rfl) (by assumption) ?_
    try simp only [Act.put, List.getElem_toArray, List.getElem_cons_zero, List.getElem_cons_succ, List.setIfInBounds_toArray, List.set_cons_zero, List.set_cons_succ]
    refine wpAnyH_ready (rs := [3]) (by kernel_rfl) (by simp) ?_
    refine ready_one rfl rfl (fun K hK => ?_)
    go_simp
    refine (HA9 V HU9.out).out.mono ?_
    rintro e w11 ⟨rfl, hb11⟩
    have HG1 := Lib.hid hb11
    clear hb11 HA9
    go_wp2_with fail
    refine hK.out _ _ (HSI.out _ HG1.out) (fun hHeld3 => ?_)
    clear hK K
    try simp only [Act.put, List.getElem_toArray, List.getElem_cons_zero, List.getElem_cons_succ, List.setIfInBounds_toArray, List.set_cons_zero, List.set_cons_succ]
    refine wpAnyH_ready (rs := [5]) (by kernel_rfl) (by simp) ?_
    refine ready_one rfl rfl (fun K hK => ?_)
    go_simp
    refine (HAS w11).out.mono ?_
    rintro e w12 ⟨rfl, hb12⟩
    have HG2 := Lib.hid (chain HG1.out hb12)
    have HU2 := Lib.hid (HU9.out.below HG2.out)
    clear hb12 HAS
    go_wp2_with fail
    refine hK.out _ _ (HSI.out _ HG2.out) (fun hHeld5 => ?_)
    clear hK K
    try simp only [Act.put, List.getElem_toArray, List.getElem_cons_zero, List.getElem_cons_succ, List.setIfInBounds_toArray, List.set_cons_zero, List.set_cons_succ]
    refine wpAnyH_ready (rs := [8]) (by kernel_rfl) (by simp) ?_
    refine ready_one rfl rfl (fun K hK => ?_)
    go_simp
    refine (HC9 w12 HU2.out).out.mono ?_
    rintro e w13 ⟨rfl, hb13⟩
    have HG3 := Lib.hid (chain HG2.out hb13)
    clear hb13 HC9 HU2
    go_wp2_with fail
    refine hK.out _ _ (HSI.out _ HG3.out) (fun hHeld8 => ?_)
    clear hK K
    try simp only [Act.put, List.getElem_toArray, List.getElem_cons_zero, List.getElem_cons_succ, List.setIfInBounds_toArray, List.set_cons_zero, List.set_cons_succ]
    have heq : (r9 == r9) = true := by simp
    refine wpAnyH_take (i := 9) (v := ?_) rfl (by kernel_rfl) (by kernel_rfl) (by kernel_rfl) (fun _ _ _ h => h) (Or.inl ⟨by rfl, ?_⟩) (by assumption) ?_
    rotate_left
    · (intro w hSw; go_simp; try (with_reducible rfl))
    try simp only [Act.put, List.getElem_toArray, List.getElem_cons_zero, List.getElem_cons_succ, List.setIfInBounds_toArray, List.set_cons_zero, List.set_cons_succ]
    refine wpAnyH_take (i := 10) (v := ?_) rfl (by kernel_rfl) (by kernel_rfl) (by kernel_rfl) (fun _ _ _ h => h) (Or.inl ⟨by rfl, ?_⟩) (by assumption) ?_
    rotate_left
    · (intro w hSw; go_simp; try (with_reducible rfl))
    try simp only [Act.put, List.getElem_toArray, List.getElem_cons_zero, List.getElem_cons_succ, List.setIfInBounds_toArray, List.set_cons_zero, List.set_cons_succ]
    clear heq
    refine wpAnyH_ready (rs := [11]) (by kernel_rfl) (by simp) ?_
    refine ready_one rfl rfl (fun K hK => ?_)
    go_simp
    refine (HLV w13).out.mono ?_
    rintro e w14 ⟨rfl, hb14⟩
    have HG4 := Lib.hid (chain HG3.out hb14)
    clear hb14 HLV
    go_wp2_with fail
    refine hK.out _ _ (HSI.out _ HG4.out) (fun hHeld11 => ?_)
    clear hK K
    try simp only [Act.put, List.getElem_toArray, List.getElem_cons_zero, List.getElem_cons_succ, List.setIfInBounds_toArray, List.set_cons_zero, List.set_cons_succ]
    refine wpAnyH_take (i := 12) (v := ?_) rfl (by kernel_rfl) (by kernel_rfl) (by kernel_rfl) (fun _ _ _ h => h) (Or.inl ⟨by rfl, ?_⟩) (by assumption) ?_
    rotate_left
    · (intro w hSw; go_simp; try (with_reducible rfl))
    try simp only [Act.put, List.getElem_toArray, List.getElem_cons_zero, List.getElem_cons_succ, List.setIfInBounds_toArray, List.set_cons_zero, List.set_cons_succ]
    refine wpAnyH_take (i := 13) (v := ?_) rfl (by kernel_rfl) (by kernel_rfl) (by kernel_rfl) (fun _ _ _ h => h) (Or.inl ⟨by rfl, ?_⟩) (by assumption) ?_
    rotate_left
    · (intro w hSw; go_simp; try (with_reducible rfl))
    try simp only [Act.put, List.getElem_toArray, List.getElem_cons_zero, List.getElem_cons_succ, List.setIfInBounds_toArray, List.set_cons_zero, List.set_cons_succ]
    refine wpAnyH_done (by kernel_rfl) ?_ _
    refine NoPanic.normal ?_
    clear hHeld hHeld3 hHeld5 hHeld8 hHeld11 C1 C2 HSI
    go_wp2_with fail
    go_ret
    exact ⟨rfl, chain HB9.out HG4.out⟩
  · go_upto_region 21 with fail
    have hd := (Below.refl (w7.setCell ⟨g, 1, none⟩ (.int .i64 n)).heap.size (w7.setCell ⟨g, 1, none⟩ (.int .i64 n))).drew
    have HO9 : Hid (CellsAt (w7.setCell ⟨g, 1, none⟩ (.int .i64 n)).drew M [.int .i64 qid, .int .i64 33152, .slice (some ⟨g, 0, none⟩) 1 1, .slice none 0 0, .slice none 0 0, .slice none 0 0]) := Lib.hid (CellsAt.below (w := w7.setCell ⟨g, 1, none⟩ (.int .i64 n)) (HO7.out.other (by omega) _ _) hd)
    have HQ9 : Hid (CellsAt (w7.setCell ⟨g, 1, none⟩ (.int .i64 n)).drew w.heap.size [.int .i64 qid, .string qnm, .int .i64 qty, .int .i64 qsv]) := Lib.hid (CellsAt.below (w := w7.setCell ⟨g, 1, none⟩ (.int .i64 n)) (HQ7.out.other (by omega) _ _) hd)
    have HU9 : Hid (QusAt (w7.setCell ⟨g, 1, none⟩ (.int .i64 n)).drew (some ⟨g, 0, none⟩) 1 [⟨qnm, n, 1⟩]) := Lib.hid (QusAt.below (w := w7.setCell ⟨g, 1, none⟩ (.int .i64 n)) (qus_ofM (u := ⟨qnm, n, 1⟩) (HC7.out.set 1 _ (by simp [quL])) ⟨HWN.out, HFQ.out.2.1, HFQ.out.2.2⟩) hd)
    have HB9 : Hid (Below w.heap.size w (w7.setCell ⟨g, 1, none⟩ (.int .i64 n)).drew) := Lib.hid (Below.drew (HB7.out.setCell (Nat.le_of_lt hgl) _))
    have HN9 : Hid (∀ u ∈ ([⟨qnm, n, 1⟩] : List Qu), u.name.size ≤ 2000000) := Lib.hid ((fun u hu => by rw [List.mem_singleton.1 hu]; have := HNM.out; show qnm.size ≤ _; omega))
    clear hd HO7 HQ7 HR7 HC7 HB7
    try clear o0 o1 o2 f0 f1 f2 g0 g1 g2 e0 e1 e2
    have HA9 := fun W h => HAN qsv qid 33152 [⟨qnm, n, 1⟩] (some ⟨g, 0, none⟩) 1 W h HN9.out
    have HC9 := fun W h => HBN qsv qid 33152 [⟨qnm, n, 1⟩] (some ⟨g, 0, none⟩) 1 W h HN9.out
    generalize ansP ⟨qid, qnm, qty, qsv⟩ qsv ⟨qid, 33152, [⟨qnm, n, 1⟩], [], [], []⟩ = r9 at *
    have hnn : ([⟨qnm, n, 1⟩] : List Qu).length = 1 := rfl
    rw [hnn] at HA9 HC9
    generalize ([⟨qnm, n, 1⟩] : List Qu) = QQ at *
    generalize (w7.setCell ⟨g, 1, none⟩ (.int .i64 n)) = WX at *
    clear HAN HBN hnn
    have hsQ : (Try.prog.info? 23).map (·.size) = some ([.int .i64 qid, .string qnm, .int .i64 qty, .int .i64 qsv] : List Value).length := by kernel_rfl
    have hsM : (Try.prog.info? 27).map (·.size) = some ([.int .i64 qid, .int .i64 33152, .slice (some ⟨g, 0, none⟩) 1 1, .slice none 0 0, .slice none 0 0, .slice none 0 0] : List Value).length := by kernel_rfl
    obtain ⟨S, hS⟩ : ∃ S : World → Prop, (fun U => U.rangeAt w.heap.size 0 [.int .i64 qid, .string qnm, .int .i64 qty, .int .i64 qsv] ∧ U.rangeAt M 0 [.int .i64 qid, .int .i64 33152, .slice (some ⟨g, 0, none⟩) 1 1, .slice none 0 0, .slice none 0 0, .slice none 0 0]) = S := ⟨_, rfl⟩
    have C1 : Hid (∀ w', S w' → w'.rangeAt w.heap.size 0 [.int .i64 qid, .string qnm, .int .i64 qty, .int .i64 qsv]) := Lib.hid (fun w' h => by rw [← hS] at h; exact h.1)
    have C2 : Hid (∀ w', S w' → w'.rangeAt M 0 [.int .i64 qid, .int .i64 33152, .slice (some ⟨g, 0, none⟩) 1 1, .slice none 0 0, .slice none 0 0, .slice none 0 0]) := Lib.hid (fun w' h => by rw [← hS] at h; exact h.2)
    have HSI : Hid (∀ U, Below WX.drew.heap.size WX.drew U → S U) := Lib.hid (fun U h => by rw [← hS]; exact ⟨(HQ9.out.below h).range, (HO9.out.below h).range⟩)
    clear hS HQ9 HO9
    refine wp_region_noPanic ?_
    refine wp_region_held_drew (S := S) (by kernel_rfl) (HSI.out _ (Below.refl _ _)) (fun hHeld => ?_)
    generalize WX.drew = V at *
    refine wpAnyH_take (i := 0) rfl (by kernel_rfl) (by kernel_rfl) (by kernel_rfl) (fun _ _ _ h => h) (yields_row C1 Try.underlying23 rfl hsQ (by rfl) _ rfl rfl) (by assumption) ?_
    try simp only [Act.put, List.getElem_toArray, List.getElem_cons_zero, List.setIfInBounds_toArray, List.set_cons_zero, List.set_cons_succ]
    refine wpAnyH_take (i := 1) (v := ?_) rfl (by kernel_rfl) (by kernel_rfl) (by kernel_rfl) (fun _ _ _ h => h) (Or.inl ⟨by rfl, ?_⟩) (by assumption) ?_
    rotate_left
    · (intro w hSw; go_simp; try (with_reducible rfl))
    try simp only [Act.put, List.getElem_toArray, List.getElem_cons_zero, List.getElem_cons_succ, List.setIfInBounds_toArray, List.set_cons_zero, List.set_cons_succ]
    refine wpAnyH_take (i := 2) rfl (by kernel_rfl) (by kernel_rfl) (by kernel_rfl) (fun _ _ _ h => h) (yields_row C2 Try.underlying27 rfl hsM (by rfl) _ rfl rfl) (by assumption) ?_
    try simp only [Act.put, List.getElem_toArray, List.getElem_cons_zero, List.getElem_cons_succ, List.setIfInBounds_toArray, List.set_cons_zero, List.set_cons_succ]
    refine wpAnyH_take (i := 4) rfl (by kernel_rfl) (by kernel_rfl) (by kernel_rfl) (fun _ _ _ h => h) (yields_row C1 Try.underlying23 rfl hsQ (by rfl) _ rfl rfl) (by assumption) ?_
    try simp only [Act.put, List.getElem_toArray, List.getElem_cons_zero, List.getElem_cons_succ, List.setIfInBounds_toArray, List.set_cons_zero, List.set_cons_succ]
    refine wpAnyH_take (i := 6) (v := ?_) rfl (by kernel_rfl) (by kernel_rfl) (by kernel_rfl) (fun _ _ _ h => h) (Or.inl ⟨by rfl, ?_⟩) (by assumption) ?_
    rotate_left
    · (intro w hSw; go_simp; try (with_reducible rfl))
    try simp only [Act.put, List.getElem_toArray, List.getElem_cons_zero, List.getElem_cons_succ, List.setIfInBounds_toArray, List.set_cons_zero, List.set_cons_succ]
    refine wpAnyH_take (i := 7) rfl (by kernel_rfl) (by kernel_rfl) (by kernel_rfl) (fun _ _ _ h => h) (yields_row C2 Try.underlying27 rfl hsM (by rfl) _ rfl rfl) (by assumption) ?_
    try simp only [Act.put, List.getElem_toArray, List.getElem_cons_zero, List.getElem_cons_succ, List.setIfInBounds_toArray, List.set_cons_zero, List.set_cons_succ]
    refine wpAnyH_ready (rs := [3]) (by kernel_rfl) (by simp) ?_
    refine ready_one rfl rfl (fun K hK => ?_)
    go_simp
    refine (HA9 V HU9.out).out.mono ?_
    rintro e w11 ⟨rfl, hb11⟩
    have HG1 := Lib.hid hb11
    clear hb11 HA9
    go_wp2_with fail
    refine hK.out _ _ (HSI.out _ HG1.out) (fun hHeld3 => ?_)
    clear hK K
    try simp only [Act.put, List.getElem_toArray, List.getElem_cons_zero, List.getElem_cons_succ, List.setIfInBounds_toArray, List.set_cons_zero, List.set_cons_succ]
    refine wpAnyH_ready (rs := [5]) (by kernel_rfl) (by simp) ?_
    refine ready_one rfl rfl (fun K hK => ?_)
    go_simp
    refine (HAS w11).out.mono ?_
    rintro e w12 ⟨rfl, hb12⟩
    have HG2 := Lib.hid (chain HG1.out hb12)
    have HU2 := Lib.hid (HU9.out.below HG2.out)
    clear hb12 HAS
    go_wp2_with fail
    refine hK.out _ _ (HSI.out _ HG2.out) (fun hHeld5 => ?_)
    clear hK K
    try simp only [Act.put, List.getElem_toArray, List.getElem_cons_zero, List.getElem_cons_succ, List.setIfInBounds_toArray, List.set_cons_zero, List.set_cons_succ]
    refine wpAnyH_ready (rs := [8]) (by kernel_rfl) (by simp) ?_
    refine ready_one rfl rfl (fun K hK => ?_)
    go_simp
    refine (HC9 w12 HU2.out).out.mono ?_
    rintro e w13 ⟨rfl, hb13⟩
    have HG3 := Lib.hid (chain HG2.out hb13)
    clear hb13 HC9 HU2
    go_wp2_with fail
    refine hK.out _ _ (HSI.out _ HG3.out) (fun hHeld8 => ?_)
    clear hK K
    try simp only [Act.put, List.getElem_toArray, List.getElem_cons_zero, List.getElem_cons_succ, List.setIfInBounds_toArray, List.set_cons_zero, List.set_cons_succ]
    have heq : (r9 == r9) = true := by simp
    refine wpAnyH_take (i := 9) (v := ?_) rfl (by kernel_rfl) (by kernel_rfl) (by kernel_rfl) (fun _ _ _ h => h) (Or.inl ⟨by rfl, ?_⟩) (by assumption) ?_
    rotate_left
    · (intro w hSw; go_simp; try (with_reducible rfl))
    try simp only [Act.put, List.getElem_toArray, List.getElem_cons_zero, List.getElem_cons_succ, List.setIfInBounds_toArray, List.set_cons_zero, List.set_cons_succ]
    refine wpAnyH_take (i := 10) (v := ?_) rfl (by kernel_rfl) (by kernel_rfl) (by kernel_rfl) (fun _ _ _ h => h) (Or.inl ⟨by rfl, ?_⟩) (by assumption) ?_
    rotate_left
    · (intro w hSw; go_simp; try (with_reducible rfl))
    try simp only [Act.put, List.getElem_toArray, List.getElem_cons_zero, List.getElem_cons_succ, List.setIfInBounds_toArray, List.set_cons_zero, List.set_cons_succ]
    clear heq
    refine wpAnyH_ready (rs := [11]) (by kernel_rfl) (by simp) ?_
    refine ready_one rfl rfl (fun K hK => ?_)
    go_simp
    refine (HLV w13).out.mono ?_
    rintro e w14 ⟨rfl, hb14⟩
    have HG4 := Lib.hid (chain HG3.out hb14)
    clear hb14 HLV
    go_wp2_with fail
    refine hK.out _ _ (HSI.out _ HG4.out) (fun hHeld11 => ?_)
    clear hK K
    try simp only [Act.put, List.getElem_toArray, List.getElem_cons_zero, List.getElem_cons_succ, List.setIfInBounds_toArray, List.set_cons_zero, List.set_cons_succ]
    refine wpAnyH_take (i := 12) (v := ?_) rfl (by kernel_rfl) (by kernel_rfl) (by kernel_rfl) (fun _ _ _ h => h) (Or.inl ⟨by rfl, ?_⟩) (by assumption) ?_
    rotate_left
    · (intro w hSw; go_simp; try (with_reducible rfl))
    try simp only [Act.put, List.getElem_toArray, List.getElem_cons_zero, List.getElem_cons_succ, List.setIfInBounds_toArray, List.set_cons_zero, List.set_cons_succ]
    refine wpAnyH_take (i := 13) (v := ?_) rfl (by kernel_rfl) (by kernel_rfl) (by kernel_rfl) (fun _ _ _ h => h) (Or.inl ⟨by rfl, ?_⟩) (by assumption) ?_
    rotate_left
    · (intro w hSw; go_simp; try (with_reducible rfl))
    try simp only [Act.put, List.getElem_toArray, List.getElem_cons_zero, List.getElem_cons_succ, List.setIfInBounds_toArray, List.set_cons_zero, List.set_cons_succ]
    refine wpAnyH_done (by kernel_rfl) ?_ _
    refine NoPanic.normal ?_
    clear hHeld hHeld3 hHeld5 hHeld8 hHeld11 C1 C2 HSI
    go_wp2_with fail
    go_ret
    exact ⟨rfl, chain HB9.out HG4.out⟩
  · go_upto_region 21 with fail
    have hd := (Below.refl (w7.setCell ⟨g, 2, none⟩ (.int .i64 n)).heap.size (w7.setCell ⟨g, 2, none⟩ (.int .i64 n))).drew
    have HO9 : Hid (CellsAt (w7.setCell ⟨g, 2, none⟩ (.int .i64 n)).drew M [.int .i64 qid, .int .i64 33152, .slice (some ⟨g, 0, none⟩) 1 1, .slice none 0 0, .slice none 0 0, .slice none 0 0]) := Lib.hid (CellsAt.below (w := w7.setCell ⟨g, 2, none⟩ (.int .i64 n)) (HO7.out.other (by omega) _ _) hd)
    have HQ9 : Hid (CellsAt (w7.setCell ⟨g, 2, none⟩ (.int .i64 n)).drew w.heap.size [.int .i64 qid, .string qnm, .int .i64 qty, .int .i64 qsv]) := Lib.hid (CellsAt.below (w := w7.setCell ⟨g, 2, none⟩ (.int .i64 n)) (HQ7.out.other (by omega) _ _) hd)
    have HU9 : Hid (QusAt (w7.setCell ⟨g, 2, none⟩ (.int .i64 n)).drew (some ⟨g, 0, none⟩) 1 [⟨qnm, qty, n⟩]) := Lib.hid (QusAt.below (w := w7.setCell ⟨g, 2, none⟩ (.int .i64 n)) (qus_ofM (u := ⟨qnm, qty, n⟩) (HC7.out.set 2 _ (by simp [quL])) ⟨HFQ.out.1, HWN.out, HFQ.out.2.2⟩) hd)
    have HB9 : Hid (Below w.heap.size w (w7.setCell ⟨g, 2, none⟩ (.int .i64 n)).drew) := Lib.hid (Below.drew (HB7.out.setCell (Nat.le_of_lt hgl) _))
    have HN9 : Hid (∀ u ∈ ([⟨qnm, qty, n⟩] : List Qu), u.name.size ≤ 2000000) := Lib.hid ((fun u hu => by rw [List.mem_singleton.1 hu]; have := HNM.out; show qnm.size ≤ _; omega))
    clear hd HO7 HQ7 HR7 HC7 HB7
    try clear o0 o1 o2 f0 f1 f2 g0 g1 g2 e0 e1 e2
    have HA9 := fun W h => HAN qsv qid 33152 [⟨qnm, qty, n⟩] (some ⟨g, 0, none⟩) 1 W h HN9.out
    have HC9 := fun W h => HBN qsv qid 33152 [⟨qnm, qty, n⟩] (some ⟨g, 0, none⟩) 1 W h HN9.out
    generalize ansP ⟨qid, qnm, qty, qsv⟩ qsv ⟨qid, 33152, [⟨qnm, qty, n⟩], [], [], []⟩ = r9 at *
    have hnn : ([⟨qnm, qty, n⟩] : List Qu).length = 1 := rfl
    rw [hnn] at HA9 HC9
    generalize ([⟨qnm, qty, n⟩] : List Qu) = QQ at *
    generalize (w7.setCell ⟨g, 2, none⟩ (.int .i64 n)) = WX at *
    clear HAN HBN hnn
    have hsQ : (Try.prog.info? 23).map (·.size) = some ([.int .i64 qid, .string qnm, .int .i64 qty, .int .i64 qsv] : List Value).length := by kernel_rfl
    have hsM : (Try.prog.info? 27).map (·.size) = some ([.int .i64 qid, .int .i64 33152, .slice (some ⟨g, 0, none⟩) 1 1, .slice none 0 0, .slice none 0 0, .slice none 0 0] : List Value).length := by kernel_rfl
    obtain ⟨S, hS⟩ : ∃ S : World → Prop, (fun U => U.rangeAt w.heap.size 0 [.int .i64 qid, .string qnm, .int .i64 qty, .int .i64 qsv] ∧ U.rangeAt M 0 [.int .i64 qid, .int .i64 33152, .slice (some ⟨g, 0, none⟩) 1 1, .slice none 0 0, .slice none 0 0, .slice none 0 0]) = S := ⟨_, rfl⟩
    have C1 : Hid (∀ w', S w' → w'.rangeAt w.heap.size 0 [.int .i64 qid, .string qnm, .int .i64 qty, .int .i64 qsv]) := Lib.hid (fun w' h => by rw [← hS] at h; exact h.1)
    have C2 : Hid (∀ w', S w' → w'.rangeAt M 0 [.int .i64 qid, .int .i64 33152, .slice (some ⟨g, 0, none⟩) 1 1, .slice none 0 0, .slice none 0 0, .slice none 0 0]) := Lib.hid (fun w' h => by rw [← hS] at h; exact h.2)
    have HSI : Hid (∀ U, Below WX.drew.heap.size WX.drew U → S U) := Lib.hid (fun U h => by rw [← hS]; exact ⟨(HQ9.out.below h).range, (HO9.out.below h).range⟩)
    clear hS HQ9 HO9
    refine wp_region_noPanic ?_
    refine wp_region_held_drew (S := S) (by kernel_rfl) (HSI.out _ (Below.refl _ _)) (fun hHeld => ?_)
    generalize WX.drew = V at *
    refine wpAnyH_take (i := 0) rfl (by kernel_rfl) (by kernel_rfl) (by kernel_rfl) (fun _ _ _ h => h) (yields_row C1 Try.underlying23 rfl hsQ (by rfl) _ rfl rfl) (by assumption) ?_
    try simp only [Act.put, List.getElem_toArray, List.getElem_cons_zero, List.setIfInBounds_toArray, List.set_cons_zero, List.set_cons_succ]
    refine wpAnyH_take (i := 1) (v := ?_) rfl (by kernel_rfl) (by kernel_rfl) (by kernel_rfl) (fun _ _ _ h => h) (Or.inl ⟨by rfl, ?_⟩) (by assumption) ?_
    rotate_left
    · (intro w hSw; go_simp; try (with_reducible rfl))
    try simp only [Act.put, List.getElem_toArray, List.getElem_cons_zero, List.getElem_cons_succ, List.setIfInBounds_toArray, List.set_cons_zero, List.set_cons_succ]
    refine wpAnyH_take (i := 2) rfl (by kernel_rfl) (by kernel_rfl) (by kernel_rfl) (fun _ _ _ h => h) (yields_row C2 Try.underlying27 rfl hsM (by rfl) _ rfl rfl) (by assumption) ?_
    try simp only [Act.put, List.getElem_toArray, List.getElem_cons_zero, List.getElem_cons_succ, List.setIfInBounds_toArray, List.set_cons_zero, List.set_cons_succ]
    refine wpAnyH_take (i := 4) rfl (by kernel_rfl) (by kernel_rfl) (by kernel_rfl) (fun _ _ _ h => h) (yields_row C1 Try.underlying23 rfl hsQ (by rfl) _ rfl rfl) (by assumption) ?_
    try simp only [Act.put, List.getElem_toArray, List.getElem_cons_zero, List.getElem_cons_succ, List.setIfInBounds_toArray, List.set_cons_zero, List.set_cons_succ]
    refine wpAnyH_take (i := 6) (v := ?_) rfl (by kernel_rfl) (by kernel_rfl) (by kernel_rfl) (fun _ _ _ h => h) (Or.inl ⟨by rfl, ?_⟩) (by assumption) ?_
    rotate_left
    · (intro w hSw; go_simp; try (with_reducible rfl))
    try simp only [Act.put, List.getElem_toArray, List.getElem_cons_zero, List.getElem_cons_succ, List.setIfInBounds_toArray, List.set_cons_zero, List.set_cons_succ]
    refine wpAnyH_take (i := 7) rfl (by kernel_rfl) (by kernel_rfl) (by kernel_rfl) (fun _ _ _ h => h) (yields_row C2 Try.underlying27 rfl hsM (by rfl) _ rfl rfl) (by assumption) ?_
    try simp only [Act.put, List.getElem_toArray, List.getElem_cons_zero, List.getElem_cons_succ, List.setIfInBounds_toArray, List.set_cons_zero, List.set_cons_succ]
    refine wpAnyH_ready (rs := [3]) (by kernel_rfl) (by simp) ?_
    refine ready_one rfl rfl (fun K hK => ?_)
    go_simp
    refine (HA9 V HU9.out).out.mono ?_
    rintro e w11 ⟨rfl, hb11⟩
    have HG1 := Lib.hid hb11
    clear hb11 HA9
    go_wp2_with fail
    refine hK.out _ _ (HSI.out _ HG1.out) (fun hHeld3 => ?_)
    clear hK K
    try simp only [Act.put, List.getElem_toArray, List.getElem_cons_zero, List.getElem_cons_succ, List.setIfInBounds_toArray, List.set_cons_zero, List.set_cons_succ]
    refine wpAnyH_ready (rs := [5]) (by kernel_rfl) (by simp) ?_
    refine ready_one rfl rfl (fun K hK => ?_)
    go_simp
    refine (HAS w11).out.mono ?_
    rintro e w12 ⟨rfl, hb12⟩
    have HG2 := Lib.hid (chain HG1.out hb12)
    have HU2 := Lib.hid (HU9.out.below HG2.out)
    clear hb12 HAS
    go_wp2_with fail
    refine hK.out _ _ (HSI.out _ HG2.out) (fun hHeld5 => ?_)
    clear hK K
    try simp only [Act.put, List.getElem_toArray, List.getElem_cons_zero, List.getElem_cons_succ, List.setIfInBounds_toArray, List.set_cons_zero, List.set_cons_succ]
    refine wpAnyH_ready (rs := [8]) (by kernel_rfl) (by simp) ?_
    refine ready_one rfl rfl (fun K hK => ?_)
    go_simp
    refine (HC9 w12 HU2.out).out.mono ?_
    rintro e w13 ⟨rfl, hb13⟩
    have HG3 := Lib.hid (chain HG2.out hb13)
    clear hb13 HC9 HU2
    go_wp2_with fail
    refine hK.out _ _ (HSI.out _ HG3.out) (fun hHeld8 => ?_)
    clear hK K
    try simp only [Act.put, List.getElem_toArray, List.getElem_cons_zero, List.getElem_cons_succ, List.setIfInBounds_toArray, List.set_cons_zero, List.set_cons_succ]
    have heq : (r9 == r9) = true := by simp
    refine wpAnyH_take (i := 9) (v := ?_) rfl (by kernel_rfl) (by kernel_rfl) (by kernel_rfl) (fun _ _ _ h => h) (Or.inl ⟨by rfl, ?_⟩) (by assumption) ?_
    rotate_left
    · (intro w hSw; go_simp; try (with_reducible rfl))
    try simp only [Act.put, List.getElem_toArray, List.getElem_cons_zero, List.getElem_cons_succ, List.setIfInBounds_toArray, List.set_cons_zero, List.set_cons_succ]
    refine wpAnyH_take (i := 10) (v := ?_) rfl (by kernel_rfl) (by kernel_rfl) (by kernel_rfl) (fun _ _ _ h => h) (Or.inl ⟨by rfl, ?_⟩) (by assumption) ?_
    rotate_left
    · (intro w hSw; go_simp; try (with_reducible rfl))
    try simp only [Act.put, List.getElem_toArray, List.getElem_cons_zero, List.getElem_cons_succ, List.setIfInBounds_toArray, List.set_cons_zero, List.set_cons_succ]
    clear heq
    refine wpAnyH_ready (rs := [11]) (by kernel_rfl) (by simp) ?_
    refine ready_one rfl rfl (fun K hK => ?_)
    go_simp
    refine (HLV w13).out.mono ?_
    rintro e w14 ⟨rfl, hb14⟩
    have HG4 := Lib.hid (chain HG3.out hb14)
    clear hb14 HLV
    go_wp2_with fail
    refine hK.out _ _ (HSI.out _ HG4.out) (fun hHeld11 => ?_)
    clear hK K
    try simp only [Act.put, List.getElem_toArray, List.getElem_cons_zero, List.getElem_cons_succ, List.setIfInBounds_toArray, List.set_cons_zero, List.set_cons_succ]
    refine wpAnyH_take (i := 12) (v := ?_) rfl (by kernel_rfl) (by kernel_rfl) (by kernel_rfl) (fun _ _ _ h => h) (Or.inl ⟨by rfl, ?_⟩) (by assumption) ?_
    rotate_left
    · (intro w hSw; go_simp; try (with_reducible rfl))
    try simp only [Act.put, List.getElem_toArray, List.getElem_cons_zero, List.getElem_cons_succ, List.setIfInBounds_toArray, List.set_cons_zero, List.set_cons_succ]
    refine wpAnyH_take (i := 13) (v := ?_) rfl (by kernel_rfl) (by kernel_rfl) (by kernel_rfl) (fun _ _ _ h => h) (Or.inl ⟨by rfl, ?_⟩) (by assumption) ?_
    rotate_left
    · (intro w hSw; go_simp; try (with_reducible rfl))
    try simp only [Act.put, List.getElem_toArray, List.getElem_cons_zero, List.getElem_cons_succ, List.setIfInBounds_toArray, List.set_cons_zero, List.set_cons_succ]
    refine wpAnyH_done (by kernel_rfl) ?_ _
    refine NoPanic.normal ?_
    clear hHeld hHeld3 hHeld5 hHeld8 hHeld11 C1 C2 HSI
    go_wp2_with fail
    go_ret
    exact ⟨rfl, chain HB9.out HG4.out⟩
  · go_upto_region 18 with fail
    have hdd := (Below.refl w7.heap.size w7).drew
    have HO8 : Hid (CellsAt w7.drew M [.int .i64 qid, .int .i64 33152, .slice (some ⟨g, 0, none⟩) 1 1, .slice none 0 0, .slice none 0 0, .slice none 0 0]) := Lib.hid (HO7.out.below hdd)
    have HQ8 : Hid (CellsAt w7.drew w.heap.size [.int .i64 qid, .string qnm, .int .i64 qty, .int .i64 qsv]) := Lib.hid (HQ7.out.below hdd)
    have HC8 : Hid (CellsAt w7.drew g (quL ⟨qnm, qty, 1⟩)) := Lib.hid (HC7.out.below hdd)
    have HR8 : Hid (RowQ w7.drew g (.slice (some ⟨g, 0, none⟩) 1 1) [⟨qnm, qty, 1⟩]) := Lib.hid (HR7.out.below hdd)
    have HB8 : Hid (Below w.heap.size w w7.drew) := Lib.hid (HB7.out.drew)
    clear hdd HO7 HQ7 HR7 HC7 HB7 o0 o1 o2 f0 f1 f2 g0 g1 g2 e0 e1 e2
    have HO7 := HO8
    have HQ7 := HQ8
    have HC7 := HC8
    have HR7 := HR8
    have HB7 := HB8
    clear HO8 HQ8 HC8 HR8 HB8
    obtain ⟨S, hS⟩ : ∃ S : World → Prop, (fun U => U.cell? ⟨M, 2, none⟩ = some (.slice (some ⟨g, 0, none⟩) 1 1)) = S := ⟨_, rfl⟩
    have C1 : Hid (∀ w', S w' → w'.cell? ⟨M, 2, none⟩ = some (.slice (some ⟨g, 0, none⟩) 1 1)) := Lib.hid (fun w' h => by rw [← hS] at h; exact h)
    have HSI : Hid (∀ U, CellsAt U M [.int .i64 qid, .int .i64 33152, .slice (some ⟨g, 0, none⟩) 1 1, .slice none 0 0, .slice none 0 0, .slice none 0 0] → S U) := Lib.hid (fun U h => by rw [← hS]; exact h.cell 2 _ rfl)
    clear hS
    refine wp_region_noPanic ?_
    refine wp_region_held_drew (S := S) (by kernel_rfl) (HSI.out _ HO7.out) (fun hHeld => ?_)
    generalize w7.drew = V at *
    refine wpAnyH_take (i := 0) (v := ?_) rfl (by kernel_rfl) (by kernel_rfl) (by kernel_rfl) (fun _ _ _ h => h) (Or.inl ⟨by rfl, ?_⟩) (by assumption) ?_
    rotate_left
    · (intro w hSw; go_simp; try (with_reducible rfl))
    try simp only [Act.put, List.getElem_toArray, List.getElem_cons_zero, List.setIfInBounds_toArray, List.set_cons_zero, List.set_cons_succ]
    refine wpAnyH_take (i := 1) (v := ?_) rfl (by kernel_rfl) (by kernel_rfl) (by kernel_rfl) (fun _ _ _ h => h) (Or.inl ⟨by rfl, ?_⟩) (by assumption) ?_
    rotate_left
    · (intro w hSw; have hc0 := C1.out w hSw; go_simp; try (with_reducible rfl))
    try simp only [Act.put, List.getElem_toArray, List.getElem_cons_zero, List.getElem_cons_succ, List.setIfInBounds_toArray, List.set_cons_zero, List.set_cons_succ]
    refine wpAnyH_take (i := 2) (v := ?_) rfl (by kernel_rfl) (by kernel_rfl) (by kernel_rfl) (fun _ _ _ h => h) (Or.inl ⟨by rfl, ?_⟩) (by assumption) ?_
    rotate_left
    · (intro w hSw; go_simp; try (with_reducible rfl))
    try simp only [Act.put, List.getElem_toArray, List.getElem_cons_zero, List.getElem_cons_succ, List.setIfInBounds_toArray, List.set_cons_zero, List.set_cons_succ]
    refine wpAnyH_take (i := 3) (v := ?_) rfl (by kernel_rfl) (by kernel_rfl) (by kernel_rfl) (fun _ _ _ h => h) (Or.inl ⟨by rfl, ?_⟩) (by assumption) ?_
    rotate_left
    · (intro w hSw; have hc0 := C1.out w hSw; go_simp; try (with_reducible rfl))
    try simp only [Act.put, List.getElem_toArray, List.getElem_cons_zero, List.getElem_cons_succ, List.setIfInBounds_toArray, List.set_cons_zero, List.set_cons_succ]
    refine wpAnyH_take (i := 4) (v := ?_) rfl (by kernel_rfl) (by kernel_rfl) (by kernel_rfl) (fun _ _ _ h => h) (Or.inl ⟨by rfl, ?_⟩) (by assumption) ?_
    rotate_left
    · (intro w hSw; go_simp; try (with_reducible rfl))
    try simp only [Act.put, List.getElem_toArray, List.getElem_cons_zero, List.getElem_cons_succ, List.setIfInBounds_toArray, List.set_cons_zero, List.set_cons_succ]
    refine wpAnyH_take (i := 5) (v := ?_) rfl (by kernel_rfl) (by kernel_rfl) (by kernel_rfl) (fun _ _ _ h => h) (Or.inl ⟨by rfl, ?_⟩) (by assumption) ?_
    rotate_left
    · (intro w hSw; go_simp; try (with_reducible rfl))
    try simp only [Act.put, List.getElem_toArray, List.getElem_cons_zero, List.getElem_cons_succ, List.setIfInBounds_toArray, List.set_cons_zero, List.set_cons_succ]
    refine wpAnyH_ready (rs := [6]) (by kernel_rfl) (by simp) ?_
    refine ready_one rfl rfl (fun K hK => ?_)
    have g0 := HC7.out.cell 0 _ rfl
    go_wp2_with fail
    refine hK.out _ V (HSI.out _ HO7.out) (fun hHeld6 => ?_)
    clear hK K
    try simp only [Act.put, List.getElem_toArray, List.getElem_cons_zero, List.getElem_cons_succ, List.setIfInBounds_toArray, List.set_cons_zero, List.set_cons_succ]
    have hno : ¬ (9223372036854775807 < qnm.size + 1) := by have := HNM.out; omega
    refine wpAnyH_take (i := 7) (v := ?_) rfl (by kernel_rfl) (by kernel_rfl) (by kernel_rfl) (fun _ _ _ h => h) (Or.inl ⟨by rfl, ?_⟩) (by assumption) ?_
    rotate_left
    · (intro w hSw; go_simp; try (with_reducible rfl))
    try simp only [Act.put, List.getElem_toArray, List.getElem_cons_zero, List.getElem_cons_succ, List.setIfInBounds_toArray, List.set_cons_zero, List.set_cons_succ]
    refine wpAnyH_take (i := 8) (v := ?_) rfl (by kernel_rfl) (by kernel_rfl) (by kernel_rfl) (fun _ _ _ h => h) (Or.inl ⟨by rfl, ?_⟩) (by assumption) ?_
    rotate_left
    · (intro w hSw; go_simp; try (with_reducible rfl))
    try simp only [Act.put, List.getElem_toArray, List.getElem_cons_zero, List.getElem_cons_succ, List.setIfInBounds_toArray, List.set_cons_zero, List.set_cons_succ]
    refine wpAnyH_take (i := 9) (v := ?_) rfl (by kernel_rfl) (by kernel_rfl) (by kernel_rfl) (fun _ _ _ h => h) (Or.inl ⟨by rfl, ?_⟩) (by assumption) ?_
    rotate_left
    · (intro w hSw; go_simp; try (with_reducible rfl))
    try simp only [Act.put, List.getElem_toArray, List.getElem_cons_zero, List.getElem_cons_succ, List.setIfInBounds_toArray, List.set_cons_zero, List.set_cons_succ]
    refine wpAnyH_ready (rs := [10]) (by kernel_rfl) (by simp) ?_
    refine ready_one rfl rfl (fun K hK => ?_)
    have e0 := HC7.out.live 0 (by simp [quL])
    go_wp2_with fail
    refine hK.out _ _ (HSI.out _ (CellsAt.other HO7.out (by omega : g ≠ M) _ _)) (fun hHeld10 => ?_)
    clear hK K
    try simp only [Act.put, List.getElem_toArray, List.getElem_cons_zero, List.getElem_cons_succ, List.setIfInBounds_toArray, List.set_cons_zero, List.set_cons_succ]
    refine wpAnyH_done (by kernel_rfl) ?_ _
    refine NoPanic.normal ?_
    clear hHeld hHeld6 hHeld10 C1 HSI g0 e0 S
    go_upto_region 21 with fail
    have hd := (Below.refl (V.setCell ⟨g, 0, none⟩ (.string (qnm ++ ⟨#[120]⟩))).heap.size (V.setCell ⟨g, 0, none⟩ (.string (qnm ++ ⟨#[120]⟩)))).drew
    have HO9 : Hid (CellsAt (V.setCell ⟨g, 0, none⟩ (.string (qnm ++ ⟨#[120]⟩))).drew M [.int .i64 qid, .int .i64 33152, .slice (some ⟨g, 0, none⟩) 1 1, .slice none 0 0, .slice none 0 0, .slice none 0 0]) := Lib.hid (CellsAt.below (w := V.setCell ⟨g, 0, none⟩ (.string (qnm ++ ⟨#[120]⟩))) (HO7.out.other (by omega) _ _) hd)
    have HQ9 : Hid (CellsAt (V.setCell ⟨g, 0, none⟩ (.string (qnm ++ ⟨#[120]⟩))).drew w.heap.size [.int .i64 qid, .string qnm, .int .i64 qty, .int .i64 qsv]) := Lib.hid (CellsAt.below (w := V.setCell ⟨g, 0, none⟩ (.string (qnm ++ ⟨#[120]⟩))) (HQ7.out.other (by omega) _ _) hd)
    have HU9 : Hid (QusAt (V.setCell ⟨g, 0, none⟩ (.string (qnm ++ ⟨#[120]⟩))).drew (some ⟨g, 0, none⟩) 1 [⟨(qnm ++ ⟨#[120]⟩), qty, 1⟩]) := Lib.hid (QusAt.below (w := V.setCell ⟨g, 0, none⟩ (.string (qnm ++ ⟨#[120]⟩))) (qus_ofM (u := ⟨(qnm ++ ⟨#[120]⟩), qty, 1⟩) (HC7.out.set 0 _ (by simp [quL])) ⟨HFQ.out.1, HFQ.out.2.1, by have := HNM.out; show (qnm ++ ⟨#[120]⟩).size ≤ maxLen; rw [ByteArray.size_append]; show qnm.size + 1 ≤ maxLen; unfold maxLen; omega⟩) hd)
    have HB9 : Hid (Below w.heap.size w (V.setCell ⟨g, 0, none⟩ (.string (qnm ++ ⟨#[120]⟩))).drew) := Lib.hid (Below.drew (HB7.out.setCell (Nat.le_of_lt hgl) _))
    have HN9 : Hid (∀ u ∈ ([⟨(qnm ++ ⟨#[120]⟩), qty, 1⟩] : List Qu), u.name.size ≤ 2000000) := Lib.hid ((fun u hu => by rw [List.mem_singleton.1 hu]; have := HNM.out; show (qnm ++ ⟨#[120]⟩).size ≤ _; rw [ByteArray.size_append]; show qnm.size + 1 ≤ _; omega))
    clear hd HO7 HQ7 HR7 HC7 HB7
    try clear o0 o1 o2 f0 f1 f2 g0 g1 g2 e0 e1 e2
    have HA9 := fun W h => HAN qsv qid 33152 [⟨(qnm ++ ⟨#[120]⟩), qty, 1⟩] (some ⟨g, 0, none⟩) 1 W h HN9.out
    have HC9 := fun W h => HBN qsv qid 33152 [⟨(qnm ++ ⟨#[120]⟩), qty, 1⟩] (some ⟨g, 0, none⟩) 1 W h HN9.out
    generalize ansP ⟨qid, qnm, qty, qsv⟩ qsv ⟨qid, 33152, [⟨(qnm ++ ⟨#[120]⟩), qty, 1⟩], [], [], []⟩ = r9 at *
    have hnn : ([⟨(qnm ++ ⟨#[120]⟩), qty, 1⟩] : List Qu).length = 1 := rfl
    rw [hnn] at HA9 HC9
    generalize ([⟨(qnm ++ ⟨#[120]⟩), qty, 1⟩] : List Qu) = QQ at *
    generalize (V.setCell ⟨g, 0, none⟩ (.string (qnm ++ ⟨#[120]⟩))) = WX at *
    clear HAN HBN hnn
    have hsQ : (Try.prog.info? 23).map (·.size) = some ([.int .i64 qid, .string qnm, .int .i64 qty, .int .i64 qsv] : List Value).length := by kernel_rfl
    have hsM : (Try.prog.info? 27).map (·.size) = some ([.int .i64 qid, .int .i64 33152, .slice (some ⟨g, 0, none⟩) 1 1, .slice none 0 0, .slice none 0 0, .slice none 0 0] : List Value).length := by kernel_rfl
    obtain ⟨S, hS⟩ : ∃ S : World → Prop, (fun U => U.rangeAt w.heap.size 0 [.int .i64 qid, .string qnm, .int .i64 qty, .int .i64 qsv] ∧ U.rangeAt M 0 [.int .i64 qid, .int .i64 33152, .slice (some ⟨g, 0, none⟩) 1 1, .slice none 0 0, .slice none 0 0, .slice none 0 0]) = S := ⟨_, rfl⟩
    have C1 : Hid (∀ w', S w' → w'.rangeAt w.heap.size 0 [.int .i64 qid, .string qnm, .int .i64 qty, .int .i64 qsv]) := Lib.hid (fun w' h => by rw [← hS] at h; exact h.1)
    have C2 : Hid (∀ w', S w' → w'.rangeAt M 0 [.int .i64 qid, .int .i64 33152, .slice (some ⟨g, 0, none⟩) 1 1, .slice none 0 0, .slice none 0 0, .slice none 0 0]) := Lib.hid (fun w' h => by rw [← hS] at h; exact h.2)
    have HSI : Hid (∀ U, Below WX.drew.heap.size WX.drew U → S U) := Lib.hid (fun U h => by rw [← hS]; exact ⟨(HQ9.out.below h).range, (HO9.out.below h).range⟩)
    clear hS HQ9 HO9
    refine wp_region_noPanic ?_
    refine wp_region_held_drew (S := S) (by kernel_rfl) (HSI.out _ (Below.refl _ _)) (fun hHeld => ?_)
    generalize WX.drew = V at *
    refine wpAnyH_take (i := 0) rfl (by kernel_rfl) (by kernel_rfl) (by kernel_rfl) (fun _ _ _ h => h) (yields_row C1 Try.underlying23 rfl hsQ (by rfl) _ rfl rfl) (by assumption) ?_
    try simp only [Act.put, List.getElem_toArray, List.getElem_cons_zero, List.setIfInBounds_toArray, List.set_cons_zero, List.set_cons_succ]
    refine wpAnyH_take (i := 1) (v := ?_) rfl (by kernel_rfl) (by kernel_rfl) (by kernel_rfl) (fun _ _ _ h => h) (Or.inl ⟨by rfl, ?_⟩) (by assumption) ?_
    rotate_left
    · (intro w hSw; go_simp; try (with_reducible rfl))
    try simp only [Act.put, List.getElem_toArray, List.getElem_cons_zero, List.getElem_cons_succ, List.setIfInBounds_toArray, List.set_cons_zero, List.set_cons_succ]
    refine wpAnyH_take (i := 2) rfl (by kernel_rfl) (by kernel_rfl) (by kernel_rfl) (fun _ _ _ h => h) (yields_row C2 Try.underlying27 rfl hsM (by rfl) _ rfl rfl) (by assumption) ?_
    try simp only [Act.put, List.getElem_toArray, List.getElem_cons_zero, List.getElem_cons_succ, List.setIfInBounds_toArray, List.set_cons_zero, List.set_cons_succ]
    refine wpAnyH_take (i := 4) rfl (by kernel_rfl) (by kernel_rfl) (by kernel_rfl) (fun _ _ _ h => h) (yields_row C1 Try.underlying23 rfl hsQ (by rfl) _ rfl rfl) (by assumption) ?_
    try simp only [Act.put, List.getElem_toArray, List.getElem_cons_zero, List.getElem_cons_succ, List.setIfInBounds_toArray, List.set_cons_zero, List.set_cons_succ]
    refine wpAnyH_take (i := 6) (v := ?_) rfl (by kernel_rfl) (by kernel_rfl) (by kernel_rfl) (fun _ _ _ h => h) (Or.inl ⟨by rfl, ?_⟩) (by assumption) ?_
    rotate_left
    · (intro w hSw; go_simp; try (with_reducible rfl))
    try simp only [Act.put, List.getElem_toArray, List.getElem_cons_zero, List.getElem_cons_succ, List.setIfInBounds_toArray, List.set_cons_zero, List.set_cons_succ]
    refine wpAnyH_take (i := 7) rfl (by kernel_rfl) (by kernel_rfl) (by kernel_rfl) (fun _ _ _ h => h) (yields_row C2 Try.underlying27 rfl hsM (by rfl) _ rfl rfl) (by assumption) ?_
    try simp only [Act.put, List.getElem_toArray, List.getElem_cons_zero, List.getElem_cons_succ, List.setIfInBounds_toArray, List.set_cons_zero, List.set_cons_succ]
    refine wpAnyH_ready (rs := [3]) (by kernel_rfl) (by simp) ?_
    refine ready_one rfl rfl (fun K hK => ?_)
    go_simp
    refine (HA9 V HU9.out).out.mono ?_
    rintro e w11 ⟨rfl, hb11⟩
    have HG1 := Lib.hid hb11
    clear hb11 HA9
    go_wp2_with fail
    refine hK.out _ _ (HSI.out _ HG1.out) (fun hHeld3 => ?_)
    clear hK K
    try simp only [Act.put, List.getElem_toArray, List.getElem_cons_zero, List.getElem_cons_succ, List.setIfInBounds_toArray, List.set_cons_zero, List.set_cons_succ]
    refine wpAnyH_ready (rs := [5]) (by kernel_rfl) (by simp) ?_
    refine ready_one rfl rfl (fun K hK => ?_)
    go_simp
    refine (HAS w11).out.mono ?_
    rintro e w12 ⟨rfl, hb12⟩
    have HG2 := Lib.hid (chain HG1.out hb12)
    have HU2 := Lib.hid (HU9.out.below HG2.out)
    clear hb12 HAS
    go_wp2_with fail
    refine hK.out _ _ (HSI.out _ HG2.out) (fun hHeld5 => ?_)
    clear hK K
    try simp only [Act.put, List.getElem_toArray, List.getElem_cons_zero, List.getElem_cons_succ, List.setIfInBounds_toArray, List.set_cons_zero, List.set_cons_succ]
    refine wpAnyH_ready (rs := [8]) (by kernel_rfl) (by simp) ?_
    refine ready_one rfl rfl (fun K hK => ?_)
    go_simp
    refine (HC9 w12 HU2.out).out.mono ?_
    rintro e w13 ⟨rfl, hb13⟩
    have HG3 := Lib.hid (chain HG2.out hb13)
    clear hb13 HC9 HU2
    go_wp2_with fail
    refine hK.out _ _ (HSI.out _ HG3.out) (fun hHeld8 => ?_)
    clear hK K
    try simp only [Act.put, List.getElem_toArray, List.getElem_cons_zero, List.getElem_cons_succ, List.setIfInBounds_toArray, List.set_cons_zero, List.set_cons_succ]
    have heq : (r9 == r9) = true := by simp
    refine wpAnyH_take (i := 9) (v := ?_) rfl (by kernel_rfl) (by kernel_rfl) (by kernel_rfl) (fun _ _ _ h => h) (Or.inl ⟨by rfl, ?_⟩) (by assumption) ?_
    rotate_left
    · (intro w hSw; go_simp; try (with_reducible rfl))
    try simp only [Act.put, List.getElem_toArray, List.getElem_cons_zero, List.getElem_cons_succ, List.setIfInBounds_toArray, List.set_cons_zero, List.set_cons_succ]
    refine wpAnyH_take (i := 10) (v := ?_) rfl (by kernel_rfl) (by kernel_rfl) (by kernel_rfl) (fun _ _ _ h => h) (Or.inl ⟨by rfl, ?_⟩) (by assumption) ?_
    rotate_left
    · (intro w hSw; go_simp; try (with_reducible rfl))
    try simp only [Act.put, List.getElem_toArray, List.getElem_cons_zero, List.getElem_cons_succ, List.setIfInBounds_toArray, List.set_cons_zero, List.set_cons_succ]
    clear heq
    refine wpAnyH_ready (rs := [11]) (by kernel_rfl) (by simp) ?_
    refine ready_one rfl rfl (fun K hK => ?_)
    go_simp
    refine (HLV w13).out.mono ?_
    rintro e w14 ⟨rfl, hb14⟩
    have HG4 := Lib.hid (chain HG3.out hb14)
    clear hb14 HLV
    go_wp2_with fail
    refine hK.out _ _ (HSI.out _ HG4.out) (fun hHeld11 => ?_)
    clear hK K
    try simp only [Act.put, List.getElem_toArray, List.getElem_cons_zero, List.getElem_cons_succ, List.setIfInBounds_toArray, List.set_cons_zero, List.set_cons_succ]
    refine wpAnyH_take (i := 12) (v := ?_) rfl (by kernel_rfl) (by kernel_rfl) (by kernel_rfl) (fun _ _ _ h => h) (Or.inl ⟨by rfl, ?_⟩) (by assumption) ?_
    rotate_left
    · (intro w hSw; go_simp; try (with_reducible rfl))
    try simp only [Act.put, List.getElem_toArray, List.getElem_cons_zero, List.getElem_cons_succ, List.setIfInBounds_toArray, List.set_cons_zero, List.set_cons_succ]
    refine wpAnyH_take (i := 13) (v := ?_) rfl (by kernel_rfl) (by kernel_rfl) (by kernel_rfl) (fun _ _ _ h => h) (Or.inl ⟨by rfl, ?_⟩) (by assumption) ?_
    rotate_left
    · (intro w hSw; go_simp; try (with_reducible rfl))
    try simp only [Act.put, List.getElem_toArray, List.getElem_cons_zero, List.getElem_cons_succ, List.setIfInBounds_toArray, List.set_cons_zero, List.set_cons_succ]
    refine wpAnyH_done (by kernel_rfl) ?_ _
    refine NoPanic.normal ?_
    clear hHeld hHeld3 hHeld5 hHeld8 hHeld11 C1 C2 HSI
    go_wp2_with fail
    go_ret
    exact ⟨rfl, chain HB9.out HG4.out⟩
  · go_upto_region 20 with fail
    have hdd := (Below.refl w7.heap.size w7).drew
    have HO8 : Hid (CellsAt w7.drew M [.int .i64 qid, .int .i64 33152, .slice (some ⟨g, 0, none⟩) 1 1, .slice none 0 0, .slice none 0 0, .slice none 0 0]) := Lib.hid (HO7.out.below hdd)
    have HQ8 : Hid (CellsAt w7.drew w.heap.size [.int .i64 qid, .string qnm, .int .i64 qty, .int .i64 qsv]) := Lib.hid (HQ7.out.below hdd)
    have HC8 : Hid (CellsAt w7.drew g (quL ⟨qnm, qty, 1⟩)) := Lib.hid (HC7.out.below hdd)
    have HR8 : Hid (RowQ w7.drew g (.slice (some ⟨g, 0, none⟩) 1 1) [⟨qnm, qty, 1⟩]) := Lib.hid (HR7.out.below hdd)
    have HB8 : Hid (Below w.heap.size w w7.drew) := Lib.hid (HB7.out.drew)
    clear hdd HO7 HQ7 HR7 HC7 HB7 o0 o1 o2 f0 f1 f2 g0 g1 g2 e0 e1 e2
    have HO7 := HO8
    have HQ7 := HQ8
    have HC7 := HC8
    have HR7 := HR8
    have HB7 := HB8
    clear HO8 HQ8 HC8 HR8 HB8
    have o2 := HO7.out.cell 2 _ rfl
    have g0 := HC7.out.cell 0 _ rfl
    have g1 := HC7.out.cell 1 _ rfl
    have g2 := HC7.out.cell 2 _ rfl
    refine wp_region_noPanic ?_
    obtain ⟨S, HS⟩ : ∃ S : World → Prop, ∀ U, S U := ⟨fun _ => True, fun _ => trivial⟩
    refine wp_region_held_drew (S := S) (by kernel_rfl) (HS _) (fun hHeld => ?_)
    generalize w7.drew = V at *
    refine wpAnyH_take (i := 0) (v := ?_) rfl (by kernel_rfl) (by kernel_rfl) (by kernel_rfl) (fun _ _ _ h => h) (Or.inl ⟨by rfl, ?_⟩) (by assumption) ?_
    rotate_left
    · (intro w hSw; go_simp; try (with_reducible rfl))
    try simp only [Act.put, List.getElem_toArray, List.getElem_cons_zero, List.setIfInBounds_toArray, List.set_cons_zero, List.set_cons_succ]
    refine wpAnyH_take (i := 2) (v := ?_) rfl (by kernel_rfl) (by kernel_rfl) (by kernel_rfl) (fun _ _ _ h => h) (Or.inl ⟨by rfl, ?_⟩) (by assumption) ?_
    rotate_left
    · (intro w hSw; go_simp; try (with_reducible rfl))
    try simp only [Act.put, List.getElem_toArray, List.getElem_cons_zero, List.getElem_cons_succ, List.setIfInBounds_toArray, List.set_cons_zero, List.set_cons_succ]
    refine wpAnyH_ready (rs := [1, 3]) (by kernel_rfl) (by simp) ?_
    refine AllReadyH.cons rfl (fun K hK => ?_) (ready_one rfl rfl (fun K hK => ?_))
    · rw [if_pos (by rfl)]
      go_wp2_with fail
      refine hK.out _ _ (HS _) (fun hHeld1 => ?_)
      clear hK K
      try simp only [Act.put, List.getElem_toArray, List.getElem_cons_zero, List.getElem_cons_succ, List.setIfInBounds_toArray, List.set_cons_zero, List.set_cons_succ]
      refine wpAnyH_ready (rs := [3]) (by kernel_rfl) (by simp) ?_
      refine ready_one rfl rfl (fun K hK => ?_)
      go_wp2_with fail
      refine hK.out _ _ (HS _) (fun hHeld3 => ?_)
      clear hK K
      try simp only [Act.put, List.getElem_toArray, List.getElem_cons_zero, List.getElem_cons_succ, List.setIfInBounds_toArray, List.set_cons_zero, List.set_cons_succ]
      refine wpAnyH_take (i := 4) (v := ?_) rfl (by kernel_rfl) (by kernel_rfl) (by kernel_rfl) (fun _ _ _ h => h) (Or.inl ⟨by rfl, ?_⟩) (by assumption) ?_
      rotate_left
      · (intro w hSw; go_simp; try (with_reducible rfl))
      try simp only [Act.put, List.getElem_toArray, List.getElem_cons_zero, List.getElem_cons_succ, List.setIfInBounds_toArray, List.set_cons_zero, List.set_cons_succ]
      refine wpAnyH_ready (rs := [5]) (by kernel_rfl) (by simp) ?_
      refine ready_one rfl rfl (fun K hK => ?_)
      go_wp2_with fail
      refine hK.out _ _ (HS _) (fun hHeld5 => ?_)
      clear hK K
      try simp only [Act.put, List.getElem_toArray, List.getElem_cons_zero, List.getElem_cons_succ, List.setIfInBounds_toArray, List.set_cons_zero, List.set_cons_succ]
      refine wpAnyH_ready (rs := [6]) (by kernel_rfl) (by simp) ?_
      refine ready_one rfl rfl (fun K hK => ?_)
      refine wp_build_quM (q := ⟨qnm, qty, 1⟩) _ rfl rfl (fun W6 HW6 => ?_)
      have hb6 : Below V.heap.size V W6 := by rw [HW6.out]; exact (Below.refl _ _).alloc (Nat.le_refl _) _
      have HX6 : Hid (W6.rangeAt V.heap.size 0 (flatQ [⟨qnm, qty, 1⟩])) := Lib.hid (by have := built_new (w := V) (cs := quL ⟨qnm, qty, 1⟩) 35; rw [HW6.out]; simpa [flatQ] using this)
      have HB6' := Lib.hid hb6
      have HM6 := Lib.hid (HO7.out.below hb6)
      have m2 := HM6.out.cell 2 _ rfl
      clear HW6 hb6
      refine hK.out _ _ (HS _) (fun hHeld6 => ?_)
      clear hK K
      try simp only [Act.put, List.getElem_toArray, List.getElem_cons_zero, List.getElem_cons_succ, List.setIfInBounds_toArray, List.set_cons_zero, List.set_cons_succ]
      refine wpAnyH_ready (rs := [7]) (by kernel_rfl) (by simp) ?_
      refine ready_one rfl rfl (fun K hK => ?_)
      have HL7 : Hid (([⟨qnm, qty, 1⟩] : List Qu).length + ([⟨qnm, qty, 1⟩] : List Qu).length ≤ 100000) := Lib.hid (by simp)
      have HS7 : Hid (g ≤ W6.heap.size) := Lib.hid (by have h1 := HC7.out.lt; have h2 := HB6'.out.size; omega)
      have HE7 : Hid (RowQ W6 g (.slice (some ⟨g, 0, none⟩) 1 1) [⟨qnm, qty, 1⟩]) := Lib.hid (HR7.out.below HB6'.out)
      refine wp_append_quM HE7 _ _ rfl rfl [⟨qnm, qty, 1⟩] rfl (Lib.hid rfl) HX6 HL7 HS7 (fun v8 w8 HO8 HG8 HF8 => ?_)
      have hm8 : w8.heap[M]? = W6.heap[M]? := HG8.out.block M HM6.out.lt (fun e => by have e2 : M = g := Option.some.inj e; omega)
      have hq8 : w8.heap[w.heap.size]? = W6.heap[w.heap.size]? := HG8.out.block w.heap.size (HQ7.out.below HB6'.out).lt (fun e => by have e2 : w.heap.size = g := Option.some.inj e; omega)
      have HM8 := Lib.hid (CellsAt.keepM HM6.out hm8 HG8.out.size)
      have HQ8 := Lib.hid (CellsAt.keepM (HQ7.out.below HB6'.out) hq8 HG8.out.size)
      have HB8 : Hid (Below w.heap.size w w8) := Lib.hid (Below.grown (chain HB7.out HB6'.out) HG8.out (by have h1 := HQ7.out.lt; have h2 := HB6'.out.size; omega) (fun j hj => by have e2 : g = j := Option.some.inj hj; omega))
      have HN8 : Hid (∀ k, v8.ownBlock = some k → k ≠ M) := Lib.hid (fun k hk => by
        rcases HF8.out with h | h
        · have e2 : g = k := Option.some.inj (h.symm.trans hk); omega
        · have e2 : W6.heap.size = k := Option.some.inj (h.symm.trans hk); have := HM6.out.lt; omega)
      obtain ⟨x8, y8, hv8⟩ := own_slice (show w8.ownsRow _ _ _ v8 _ _ from HO8.out)
      have hl8 : ([⟨qnm, qty, 1⟩] ++ [⟨qnm, qty, 1⟩] : List Qu).length = 2 := rfl
      rw [hl8] at hv8
      subst hv8
      have m8 := HM8.out.live 2 (by simp)
      have m9 := HM8.out.cell 2 _ rfl
      refine hK.out _ _ (HS _) (fun hHeld7 => ?_)
      clear hK K m2
      try simp only [Act.put, List.getElem_toArray, List.getElem_cons_zero, List.getElem_cons_succ, List.setIfInBounds_toArray, List.set_cons_zero, List.set_cons_succ]
      refine wpAnyH_take (i := 8) (v := ?_) rfl (by kernel_rfl) (by kernel_rfl) (by kernel_rfl) (fun _ _ _ h => h) (Or.inl ⟨by rfl, ?_⟩) (by assumption) ?_
      rotate_left
      · (intro w hSw; go_simp; try (with_reducible rfl))
      try simp only [Act.put, List.getElem_toArray, List.getElem_cons_zero, List.getElem_cons_succ, List.setIfInBounds_toArray, List.set_cons_zero, List.set_cons_succ]
      refine wpAnyH_ready (rs := [9]) (by kernel_rfl) (by simp) ?_
      refine ready_one rfl rfl (fun K hK => ?_)
      go_wp2_with fail
      refine hK.out _ _ (HS _) (fun hHeld9 => ?_)
      clear hK K
      try simp only [Act.put, List.getElem_toArray, List.getElem_cons_zero, List.getElem_cons_succ, List.setIfInBounds_toArray, List.set_cons_zero, List.set_cons_succ]
      refine wpAnyH_done (by kernel_rfl) ?_ _
      refine NoPanic.normal ?_
      have HR9 : Hid (RowQ (w8.setCell ⟨M, 2, none⟩ (.slice x8 2 y8)) g (.slice x8 2 y8) [⟨qnm, qty, 1⟩, ⟨qnm, qty, 1⟩]) := Lib.hid (RowQ.keptM HO8.out (fun k hk => heap_setCell_otherM _ _ _ _ _ (HN8.out k hk)))
      obtain ⟨x9, y9, he9, HU9'⟩ := HR9.out.qus (fun r hr => by
        have : r = ⟨qnm, qty, 1⟩ := by simpa using hr
        rw [this]; exact HFQ.out)
      obtain ⟨rfl, rfl⟩ : x8 = x9 ∧ y8 = y9 := by injection he9 with h1 h2 h3; exact ⟨h1, h3⟩
      clear he9 HO8 HG8 HF8 HN8 HR9 HE7 HX6 HB6' HM6 HS7 HL7 hm8 hq8 hl8 m8 m9
      go_upto_region 21 with fail
      have hd := (Below.refl (w8.setCell ⟨M, 2, none⟩ (.slice x8 2 y8)).heap.size (w8.setCell ⟨M, 2, none⟩ (.slice x8 2 y8))).drew
      have HO9 : Hid (CellsAt (w8.setCell ⟨M, 2, none⟩ (.slice x8 2 y8)).drew M [.int .i64 qid, .int .i64 33152, .slice x8 2 y8, .slice none 0 0, .slice none 0 0, .slice none 0 0]) := Lib.hid (CellsAt.below (w := w8.setCell ⟨M, 2, none⟩ (.slice x8 2 y8)) (HM8.out.set 2 _ (by simp)) hd)
      have HQ9 : Hid (CellsAt (w8.setCell ⟨M, 2, none⟩ (.slice x8 2 y8)).drew w.heap.size [.int .i64 qid, .string qnm, .int .i64 qty, .int .i64 qsv]) := Lib.hid (CellsAt.below (w := w8.setCell ⟨M, 2, none⟩ (.slice x8 2 y8)) (HQ8.out.other (by omega) _ _) hd)
      have HU9 : Hid (QusAt (w8.setCell ⟨M, 2, none⟩ (.slice x8 2 y8)).drew x8 y8 [⟨qnm, qty, 1⟩, ⟨qnm, qty, 1⟩]) := Lib.hid (QusAt.below (w := w8.setCell ⟨M, 2, none⟩ (.slice x8 2 y8)) (HU9') hd)
      have HB9 : Hid (Below w.heap.size w (w8.setCell ⟨M, 2, none⟩ (.slice x8 2 y8)).drew) := Lib.hid (Below.drew (HB8.out.setCell (Nat.le_of_lt hwm) _))
      have HN9 : Hid (∀ u ∈ ([⟨qnm, qty, 1⟩, ⟨qnm, qty, 1⟩] : List Qu), u.name.size ≤ 2000000) := Lib.hid ((fun u hu => by have e : u = ⟨qnm, qty, 1⟩ := (by simpa using hu); rw [e]; have := HNM.out; show qnm.size ≤ _; omega))
      clear hd HO7 HQ7 HR7 HC7 HB7
      try clear o0 o1 o2 f0 f1 f2 g0 g1 g2 e0 e1 e2
      have HA9 := fun W h => HAN qsv qid 33152 [⟨qnm, qty, 1⟩, ⟨qnm, qty, 1⟩] x8 y8 W h HN9.out
      have HC9 := fun W h => HBN qsv qid 33152 [⟨qnm, qty, 1⟩, ⟨qnm, qty, 1⟩] x8 y8 W h HN9.out
      generalize ansP ⟨qid, qnm, qty, qsv⟩ qsv ⟨qid, 33152, [⟨qnm, qty, 1⟩, ⟨qnm, qty, 1⟩], [], [], []⟩ = r9 at *
      have hnn : ([⟨qnm, qty, 1⟩, ⟨qnm, qty, 1⟩] : List Qu).length = 2 := rfl
      rw [hnn] at HA9 HC9
      generalize ([⟨qnm, qty, 1⟩, ⟨qnm, qty, 1⟩] : List Qu) = QQ at *
      generalize (w8.setCell ⟨M, 2, none⟩ (.slice x8 2 y8)) = WX at *
      clear HAN HBN hnn
      have hsQ : (Try.prog.info? 23).map (·.size) = some ([.int .i64 qid, .string qnm, .int .i64 qty, .int .i64 qsv] : List Value).length := by kernel_rfl
      have hsM : (Try.prog.info? 27).map (·.size) = some ([.int .i64 qid, .int .i64 33152, .slice x8 2 y8, .slice none 0 0, .slice none 0 0, .slice none 0 0] : List Value).length := by kernel_rfl
      obtain ⟨S, hS⟩ : ∃ S : World → Prop, (fun U => U.rangeAt w.heap.size 0 [.int .i64 qid, .string qnm, .int .i64 qty, .int .i64 qsv] ∧ U.rangeAt M 0 [.int .i64 qid, .int .i64 33152, .slice x8 2 y8, .slice none 0 0, .slice none 0 0, .slice none 0 0]) = S := ⟨_, rfl⟩
      have C1 : Hid (∀ w', S w' → w'.rangeAt w.heap.size 0 [.int .i64 qid, .string qnm, .int .i64 qty, .int .i64 qsv]) := Lib.hid (fun w' h => by rw [← hS] at h; exact h.1)
      have C2 : Hid (∀ w', S w' → w'.rangeAt M 0 [.int .i64 qid, .int .i64 33152, .slice x8 2 y8, .slice none 0 0, .slice none 0 0, .slice none 0 0]) := Lib.hid (fun w' h => by rw [← hS] at h; exact h.2)
      have HSI : Hid (∀ U, Below WX.drew.heap.size WX.drew U → S U) := Lib.hid (fun U h => by rw [← hS]; exact ⟨(HQ9.out.below h).range, (HO9.out.below h).range⟩)
      clear hS HQ9 HO9
      refine wp_region_noPanic ?_
      refine wp_region_held_drew (S := S) (by kernel_rfl) (HSI.out _ (Below.refl _ _)) (fun hHeld => ?_)
      generalize WX.drew = V at *
      refine wpAnyH_take (i := 0) rfl (by kernel_rfl) (by kernel_rfl) (by kernel_rfl) (fun _ _ _ h => h) (yields_row C1 Try.underlying23 rfl hsQ (by rfl) _ rfl rfl) (by assumption) ?_
      try simp only [Act.put, List.getElem_toArray, List.getElem_cons_zero, List.setIfInBounds_toArray, List.set_cons_zero, List.set_cons_succ]
      refine wpAnyH_take (i := 1) (v := ?_) rfl (by kernel_rfl) (by kernel_rfl) (by kernel_rfl) (fun _ _ _ h => h) (Or.inl ⟨by rfl, ?_⟩) (by assumption) ?_
      rotate_left
      · (intro w hSw; go_simp; try (with_reducible rfl))
      try simp only [Act.put, List.getElem_toArray, List.getElem_cons_zero, List.getElem_cons_succ, List.setIfInBounds_toArray, List.set_cons_zero, List.set_cons_succ]
      refine wpAnyH_take (i := 2) rfl (by kernel_rfl) (by kernel_rfl) (by kernel_rfl) (fun _ _ _ h => h) (yields_row C2 Try.underlying27 rfl hsM (by rfl) _ rfl rfl) (by assumption) ?_
      try simp only [Act.put, List.getElem_toArray, List.getElem_cons_zero, List.getElem_cons_succ, List.setIfInBounds_toArray, List.set_cons_zero, List.set_cons_succ]
      refine wpAnyH_take (i := 4) rfl (by kernel_rfl) (by kernel_rfl) (by kernel_rfl) (fun _ _ _ h => h) (yields_row C1 Try.underlying23 rfl hsQ (by rfl) _ rfl rfl) (by assumption) ?_
      try simp only [Act.put, List.getElem_toArray, List.getElem_cons_zero, List.getElem_cons_succ, List.setIfInBounds_toArray, List.set_cons_zero, List.set_cons_succ]
      refine wpAnyH_take (i := 6) (v := ?_) rfl (by kernel_rfl) (by kernel_rfl) (by kernel_rfl) (fun _ _ _ h => h) (Or.inl ⟨by rfl, ?_⟩) (by assumption) ?_
      rotate_left
      · (intro w hSw; go_simp; try (with_reducible rfl))
      try simp only [Act.put, List.getElem_toArray, List.getElem_cons_zero, List.getElem_cons_succ, List.setIfInBounds_toArray, List.set_cons_zero, List.set_cons_succ]
      refine wpAnyH_take (i := 7) rfl (by kernel_rfl) (by kernel_rfl) (by kernel_rfl) (fun _ _ _ h => h) (yields_row C2 Try.underlying27 rfl hsM (by rfl) _ rfl rfl) (by assumption) ?_
      try simp only [Act.put, List.getElem_toArray, List.getElem_cons_zero, List.getElem_cons_succ, List.setIfInBounds_toArray, List.set_cons_zero, List.set_cons_succ]
      refine wpAnyH_ready (rs := [3]) (by kernel_rfl) (by simp) ?_
      refine ready_one rfl rfl (fun K hK => ?_)
      go_simp
      refine (HA9 V HU9.out).out.mono ?_
      rintro e w11 ⟨rfl, hb11⟩
      have HG1 := Lib.hid hb11
      clear hb11 HA9
      go_wp2_with fail
      refine hK.out _ _ (HSI.out _ HG1.out) (fun hHeld3 => ?_)
      clear hK K
      try simp only [Act.put, List.getElem_toArray, List.getElem_cons_zero, List.getElem_cons_succ, List.setIfInBounds_toArray, List.set_cons_zero, List.set_cons_succ]
      refine wpAnyH_ready (rs := [5]) (by kernel_rfl) (by simp) ?_
      refine ready_one rfl rfl (fun K hK => ?_)
      go_simp
      refine (HAS w11).out.mono ?_
      rintro e w12 ⟨rfl, hb12⟩
      have HG2 := Lib.hid (chain HG1.out hb12)
      have HU2 := Lib.hid (HU9.out.below HG2.out)
      clear hb12 HAS
      go_wp2_with fail
      refine hK.out _ _ (HSI.out _ HG2.out) (fun hHeld5 => ?_)
      clear hK K
      try simp only [Act.put, List.getElem_toArray, List.getElem_cons_zero, List.getElem_cons_succ, List.setIfInBounds_toArray, List.set_cons_zero, List.set_cons_succ]
      refine wpAnyH_ready (rs := [8]) (by kernel_rfl) (by simp) ?_
      refine ready_one rfl rfl (fun K hK => ?_)
      go_simp
      refine (HC9 w12 HU2.out).out.mono ?_
      rintro e w13 ⟨rfl, hb13⟩
      have HG3 := Lib.hid (chain HG2.out hb13)
      clear hb13 HC9 HU2
      go_wp2_with fail
      refine hK.out _ _ (HSI.out _ HG3.out) (fun hHeld8 => ?_)
      clear hK K
      try simp only [Act.put, List.getElem_toArray, List.getElem_cons_zero, List.getElem_cons_succ, List.setIfInBounds_toArray, List.set_cons_zero, List.set_cons_succ]
      have heq : (r9 == r9) = true := by simp
      refine wpAnyH_take (i := 9) (v := ?_) rfl (by kernel_rfl) (by kernel_rfl) (by kernel_rfl) (fun _ _ _ h => h) (Or.inl ⟨by rfl, ?_⟩) (by assumption) ?_
      rotate_left
      · (intro w hSw; go_simp; try (with_reducible rfl))
      try simp only [Act.put, List.getElem_toArray, List.getElem_cons_zero, List.getElem_cons_succ, List.setIfInBounds_toArray, List.set_cons_zero, List.set_cons_succ]
      refine wpAnyH_take (i := 10) (v := ?_) rfl (by kernel_rfl) (by kernel_rfl) (by kernel_rfl) (fun _ _ _ h => h) (Or.inl ⟨by rfl, ?_⟩) (by assumption) ?_
      rotate_left
      · (intro w hSw; go_simp; try (with_reducible rfl))
      try simp only [Act.put, List.getElem_toArray, List.getElem_cons_zero, List.getElem_cons_succ, List.setIfInBounds_toArray, List.set_cons_zero, List.set_cons_succ]
      clear heq
      refine wpAnyH_ready (rs := [11]) (by kernel_rfl) (by simp) ?_
      refine ready_one rfl rfl (fun K hK => ?_)
      go_simp
      refine (HLV w13).out.mono ?_
      rintro e w14 ⟨rfl, hb14⟩
      have HG4 := Lib.hid (chain HG3.out hb14)
      clear hb14 HLV
      go_wp2_with fail
      refine hK.out _ _ (HSI.out _ HG4.out) (fun hHeld11 => ?_)
      clear hK K
      try simp only [Act.put, List.getElem_toArray, List.getElem_cons_zero, List.getElem_cons_succ, List.setIfInBounds_toArray, List.set_cons_zero, List.set_cons_succ]
      refine wpAnyH_take (i := 12) (v := ?_) rfl (by kernel_rfl) (by kernel_rfl) (by kernel_rfl) (fun _ _ _ h => h) (Or.inl ⟨by rfl, ?_⟩) (by assumption) ?_
      rotate_left
      · (intro w hSw; go_simp; try (with_reducible rfl))
      try simp only [Act.put, List.getElem_toArray, List.getElem_cons_zero, List.getElem_cons_succ, List.setIfInBounds_toArray, List.set_cons_zero, List.set_cons_succ]
      refine wpAnyH_take (i := 13) (v := ?_) rfl (by kernel_rfl) (by kernel_rfl) (by kernel_rfl) (fun _ _ _ h => h) (Or.inl ⟨by rfl, ?_⟩) (by assumption) ?_
      rotate_left
      · (intro w hSw; go_simp; try (with_reducible rfl))
      try simp only [Act.put, List.getElem_toArray, List.getElem_cons_zero, List.getElem_cons_succ, List.setIfInBounds_toArray, List.set_cons_zero, List.set_cons_succ]
      refine wpAnyH_done (by kernel_rfl) ?_ _
      refine NoPanic.normal ?_
      clear hHeld hHeld3 hHeld5 hHeld8 hHeld11 C1 C2 HSI
      go_wp2_with fail
      go_ret
      exact ⟨rfl, chain HB9.out HG4.out⟩
    · go_wp2_with fail
      refine hK.out _ _ (HS _) (fun hHeld3 => ?_)
      clear hK K
      try simp only [Act.put, List.getElem_toArray, List.getElem_cons_zero, List.getElem_cons_succ, List.setIfInBounds_toArray, List.set_cons_zero, List.set_cons_succ]
      refine wpAnyH_take (i := 4) (v := ?_) rfl (by kernel_rfl) (by kernel_rfl) (by kernel_rfl) (fun _ _ _ h => h) (Or.inl ⟨by rfl, ?_⟩) (by assumption) ?_
      rotate_left
      · (intro w hSw; go_simp; try (with_reducible rfl))
      try simp only [Act.put, List.getElem_toArray, List.getElem_cons_zero, List.getElem_cons_succ, List.setIfInBounds_toArray, List.set_cons_zero, List.set_cons_succ]
      refine wpAnyH_ready (rs := [1, 5]) (by kernel_rfl) (by simp) ?_
      refine AllReadyH.cons rfl (fun K hK => ?_) (ready_one rfl rfl (fun K hK => ?_))
      · rw [if_pos (by rfl)]
        go_wp2_with fail
        refine hK.out _ _ (HS _) (fun hHeld1 => ?_)
        clear hK K
        try simp only [Act.put, List.getElem_toArray, List.getElem_cons_zero, List.getElem_cons_succ, List.setIfInBounds_toArray, List.set_cons_zero, List.set_cons_succ]
        refine wpAnyH_ready (rs := [5]) (by kernel_rfl) (by simp) ?_
        refine ready_one rfl rfl (fun K hK => ?_)
        go_wp2_with fail
        refine hK.out _ _ (HS _) (fun hHeld5 => ?_)
        clear hK K
        try simp only [Act.put, List.getElem_toArray, List.getElem_cons_zero, List.getElem_cons_succ, List.setIfInBounds_toArray, List.set_cons_zero, List.set_cons_succ]
        refine wpAnyH_ready (rs := [6]) (by kernel_rfl) (by simp) ?_
        refine ready_one rfl rfl (fun K hK => ?_)
        refine wp_build_quM (q := ⟨qnm, qty, 1⟩) _ rfl rfl (fun W6 HW6 => ?_)
        have hb6 : Below V.heap.size V W6 := by rw [HW6.out]; exact (Below.refl _ _).alloc (Nat.le_refl _) _
        have HX6 : Hid (W6.rangeAt V.heap.size 0 (flatQ [⟨qnm, qty, 1⟩])) := Lib.hid (by have := built_new (w := V) (cs := quL ⟨qnm, qty, 1⟩) 35; rw [HW6.out]; simpa [flatQ] using this)
        have HB6' := Lib.hid hb6
        have HM6 := Lib.hid (HO7.out.below hb6)
        have m2 := HM6.out.cell 2 _ rfl
        clear HW6 hb6
        refine hK.out _ _ (HS _) (fun hHeld6 => ?_)
        clear hK K
        try simp only [Act.put, List.getElem_toArray, List.getElem_cons_zero, List.getElem_cons_succ, List.setIfInBounds_toArray, List.set_cons_zero, List.set_cons_succ]
        refine wpAnyH_ready (rs := [7]) (by kernel_rfl) (by simp) ?_
        refine ready_one rfl rfl (fun K hK => ?_)
        have HL7 : Hid (([⟨qnm, qty, 1⟩] : List Qu).length + ([⟨qnm, qty, 1⟩] : List Qu).length ≤ 100000) := Lib.hid (by simp)
        have HS7 : Hid (g ≤ W6.heap.size) := Lib.hid (by have h1 := HC7.out.lt; have h2 := HB6'.out.size; omega)
        have HE7 : Hid (RowQ W6 g (.slice (some ⟨g, 0, none⟩) 1 1) [⟨qnm, qty, 1⟩]) := Lib.hid (HR7.out.below HB6'.out)
        refine wp_append_quM HE7 _ _ rfl rfl [⟨qnm, qty, 1⟩] rfl (Lib.hid rfl) HX6 HL7 HS7 (fun v8 w8 HO8 HG8 HF8 => ?_)
        have hm8 : w8.heap[M]? = W6.heap[M]? := HG8.out.block M HM6.out.lt (fun e => by have e2 : M = g := Option.some.inj e; omega)
        have hq8 : w8.heap[w.heap.size]? = W6.heap[w.heap.size]? := HG8.out.block w.heap.size (HQ7.out.below HB6'.out).lt (fun e => by have e2 : w.heap.size = g := Option.some.inj e; omega)
        have HM8 := Lib.hid (CellsAt.keepM HM6.out hm8 HG8.out.size)
        have HQ8 := Lib.hid (CellsAt.keepM (HQ7.out.below HB6'.out) hq8 HG8.out.size)
        have HB8 : Hid (Below w.heap.size w w8) := Lib.hid (Below.grown (chain HB7.out HB6'.out) HG8.out (by have h1 := HQ7.out.lt; have h2 := HB6'.out.size; omega) (fun j hj => by have e2 : g = j := Option.some.inj hj; omega))
        have HN8 : Hid (∀ k, v8.ownBlock = some k → k ≠ M) := Lib.hid (fun k hk => by
          rcases HF8.out with h | h
          · have e2 : g = k := Option.some.inj (h.symm.trans hk); omega
          · have e2 : W6.heap.size = k := Option.some.inj (h.symm.trans hk); have := HM6.out.lt; omega)
        obtain ⟨x8, y8, hv8⟩ := own_slice (show w8.ownsRow _ _ _ v8 _ _ from HO8.out)
        have hl8 : ([⟨qnm, qty, 1⟩] ++ [⟨qnm, qty, 1⟩] : List Qu).length = 2 := rfl
        rw [hl8] at hv8
        subst hv8
        have m8 := HM8.out.live 2 (by simp)
        have m9 := HM8.out.cell 2 _ rfl
        refine hK.out _ _ (HS _) (fun hHeld7 => ?_)
        clear hK K m2
        try simp only [Act.put, List.getElem_toArray, List.getElem_cons_zero, List.getElem_cons_succ, List.setIfInBounds_toArray, List.set_cons_zero, List.set_cons_succ]
        refine wpAnyH_take (i := 8) (v := ?_) rfl (by kernel_rfl) (by kernel_rfl) (by kernel_rfl) (fun _ _ _ h => h) (Or.inl ⟨by rfl, ?_⟩) (by assumption) ?_
        rotate_left
        · (intro w hSw; go_simp; try (with_reducible rfl))
        try simp only [Act.put, List.getElem_toArray, List.getElem_cons_zero, List.getElem_cons_succ, List.setIfInBounds_toArray, List.set_cons_zero, List.set_cons_succ]
        refine wpAnyH_ready (rs := [9]) (by kernel_rfl) (by simp) ?_
        refine ready_one rfl rfl (fun K hK => ?_)
        go_wp2_with fail
        refine hK.out _ _ (HS _) (fun hHeld9 => ?_)
        clear hK K
        try simp only [Act.put, List.getElem_toArray, List.getElem_cons_zero, List.getElem_cons_succ, List.setIfInBounds_toArray, List.set_cons_zero, List.set_cons_succ]
        refine wpAnyH_done (by kernel_rfl) ?_ _
        refine NoPanic.normal ?_
        have HR9 : Hid (RowQ (w8.setCell ⟨M, 2, none⟩ (.slice x8 2 y8)) g (.slice x8 2 y8) [⟨qnm, qty, 1⟩, ⟨qnm, qty, 1⟩]) := Lib.hid (RowQ.keptM HO8.out (fun k hk => heap_setCell_otherM _ _ _ _ _ (HN8.out k hk)))
        obtain ⟨x9, y9, he9, HU9'⟩ := HR9.out.qus (fun r hr => by
          have : r = ⟨qnm, qty, 1⟩ := by simpa using hr
          rw [this]; exact HFQ.out)
        obtain ⟨rfl, rfl⟩ : x8 = x9 ∧ y8 = y9 := by injection he9 with h1 h2 h3; exact ⟨h1, h3⟩
        clear he9 HO8 HG8 HF8 HN8 HR9 HE7 HX6 HB6' HM6 HS7 HL7 hm8 hq8 hl8 m8 m9
        go_upto_region 21 with fail
        have hd := (Below.refl (w8.setCell ⟨M, 2, none⟩ (.slice x8 2 y8)).heap.size (w8.setCell ⟨M, 2, none⟩ (.slice x8 2 y8))).drew
        have HO9 : Hid (CellsAt (w8.setCell ⟨M, 2, none⟩ (.slice x8 2 y8)).drew M [.int .i64 qid, .int .i64 33152, .slice x8 2 y8, .slice none 0 0, .slice none 0 0, .slice none 0 0]) := Lib.hid (CellsAt.below (w := w8.setCell ⟨M, 2, none⟩ (.slice x8 2 y8)) (HM8.out.set 2 _ (by simp)) hd)
        have HQ9 : Hid (CellsAt (w8.setCell ⟨M, 2, none⟩ (.slice x8 2 y8)).drew w.heap.size [.int .i64 qid, .string qnm, .int .i64 qty, .int .i64 qsv]) := Lib.hid (CellsAt.below (w := w8.setCell ⟨M, 2, none⟩ (.slice x8 2 y8)) (HQ8.out.other (by omega) _ _) hd)
        have HU9 : Hid (QusAt (w8.setCell ⟨M, 2, none⟩ (.slice x8 2 y8)).drew x8 y8 [⟨qnm, qty, 1⟩, ⟨qnm, qty, 1⟩]) := Lib.hid (QusAt.below (w := w8.setCell ⟨M, 2, none⟩ (.slice x8 2 y8)) (HU9') hd)
        have HB9 : Hid (Below w.heap.size w (w8.setCell ⟨M, 2, none⟩ (.slice x8 2 y8)).drew) := Lib.hid (Below.drew (HB8.out.setCell (Nat.le_of_lt hwm) _))
        have HN9 : Hid (∀ u ∈ ([⟨qnm, qty, 1⟩, ⟨qnm, qty, 1⟩] : List Qu), u.name.size ≤ 2000000) := Lib.hid ((fun u hu => by have e : u = ⟨qnm, qty, 1⟩ := (by simpa using hu); rw [e]; have := HNM.out; show qnm.size ≤ _; omega))
        clear hd HO7 HQ7 HR7 HC7 HB7
        try clear o0 o1 o2 f0 f1 f2 g0 g1 g2 e0 e1 e2
        have HA9 := fun W h => HAN qsv qid 33152 [⟨qnm, qty, 1⟩, ⟨qnm, qty, 1⟩] x8 y8 W h HN9.out
        have HC9 := fun W h => HBN qsv qid 33152 [⟨qnm, qty, 1⟩, ⟨qnm, qty, 1⟩] x8 y8 W h HN9.out
        generalize ansP ⟨qid, qnm, qty, qsv⟩ qsv ⟨qid, 33152, [⟨qnm, qty, 1⟩, ⟨qnm, qty, 1⟩], [], [], []⟩ = r9 at *
        have hnn : ([⟨qnm, qty, 1⟩, ⟨qnm, qty, 1⟩] : List Qu).length = 2 := rfl
        rw [hnn] at HA9 HC9
        generalize ([⟨qnm, qty, 1⟩, ⟨qnm, qty, 1⟩] : List Qu) = QQ at *
        generalize (w8.setCell ⟨M, 2, none⟩ (.slice x8 2 y8)) = WX at *
        clear HAN HBN hnn
        have hsQ : (Try.prog.info? 23).map (·.size) = some ([.int .i64 qid, .string qnm, .int .i64 qty, .int .i64 qsv] : List Value).length := by kernel_rfl
        have hsM : (Try.prog.info? 27).map (·.size) = some ([.int .i64 qid, .int .i64 33152, .slice x8 2 y8, .slice none 0 0, .slice none 0 0, .slice none 0 0] : List Value).length := by kernel_rfl
        obtain ⟨S, hS⟩ : ∃ S : World → Prop, (fun U => U.rangeAt w.heap.size 0 [.int .i64 qid, .string qnm, .int .i64 qty, .int .i64 qsv] ∧ U.rangeAt M 0 [.int .i64 qid, .int .i64 33152, .slice x8 2 y8, .slice none 0 0, .slice none 0 0, .slice none 0 0]) = S := ⟨_, rfl⟩
        have C1 : Hid (∀ w', S w' → w'.rangeAt w.heap.size 0 [.int .i64 qid, .string qnm, .int .i64 qty, .int .i64 qsv]) := Lib.hid (fun w' h => by rw [← hS] at h; exact h.1)
        have C2 : Hid (∀ w', S w' → w'.rangeAt M 0 [.int .i64 qid, .int .i64 33152, .slice x8 2 y8, .slice none 0 0, .slice none 0 0, .slice none 0 0]) := Lib.hid (fun w' h => by rw [← hS] at h; exact h.2)
        have HSI : Hid (∀ U, Below WX.drew.heap.size WX.drew U → S U) := Lib.hid (fun U h => by rw [← hS]; exact ⟨(HQ9.out.below h).range, (HO9.out.below h).range⟩)
        clear hS HQ9 HO9
        refine wp_region_noPanic ?_
        refine wp_region_held_drew (S := S) (by kernel_rfl) (HSI.out _ (Below.refl _ _)) (fun hHeld => ?_)
        generalize WX.drew = V at *
        refine wpAnyH_take (i := 0) rfl (by kernel_rfl) (by kernel_rfl) (by kernel_rfl) (fun _ _ _ h => h) (yields_row C1 Try.underlying23 rfl hsQ (by rfl) _ rfl rfl) (by assumption) ?_
        try simp only [Act.put, List.getElem_toArray, List.getElem_cons_zero, List.setIfInBounds_toArray, List.set_cons_zero, List.set_cons_succ]
        refine wpAnyH_take (i := 1) (v := ?_) rfl (by kernel_rfl) (by kernel_rfl) (by kernel_rfl) (fun _ _ _ h => h) (Or.inl ⟨by rfl, ?_⟩) (by assumption) ?_
        rotate_left
        · (intro w hSw; go_simp; try (with_reducible rfl))
        try simp only [Act.put, List.getElem_toArray, List.getElem_cons_zero, List.getElem_cons_succ, List.setIfInBounds_toArray, List.set_cons_zero, List.set_cons_succ]
        refine wpAnyH_take (i := 2) rfl (by kernel_rfl) (by kernel_rfl) (by kernel_rfl) (fun _ _ _ h => h) (yields_row C2 Try.underlying27 rfl hsM (by rfl) _ rfl rfl) (by assumption) ?_
        try simp only [Act.put, List.getElem_toArray, List.getElem_cons_zero, List.getElem_cons_succ, List.setIfInBounds_toArray, List.set_cons_zero, List.set_cons_succ]
        refine wpAnyH_take (i := 4) rfl (by kernel_rfl) (by kernel_rfl) (by kernel_rfl) (fun _ _ _ h => h) (yields_row C1 Try.underlying23 rfl hsQ (by rfl) _ rfl rfl) (by assumption) ?_
        try simp only [Act.put, List.getElem_toArray, List.getElem_cons_zero, List.getElem_cons_succ, List.setIfInBounds_toArray, List.set_cons_zero, List.set_cons_succ]
        refine wpAnyH_take (i := 6) (v := ?_) rfl (by kernel_rfl) (by kernel_rfl) (by kernel_rfl) (fun _ _ _ h => h) (Or.inl ⟨by rfl, ?_⟩) (by assumption) ?_
        rotate_left
        · (intro w hSw; go_simp; try (with_reducible rfl))
        try simp only [Act.put, List.getElem_toArray, List.getElem_cons_zero, List.getElem_cons_succ, List.setIfInBounds_toArray, List.set_cons_zero, List.set_cons_succ]
        refine wpAnyH_take (i := 7) rfl (by kernel_rfl) (by kernel_rfl) (by kernel_rfl) (fun _ _ _ h => h) (yields_row C2 Try.underlying27 rfl hsM (by rfl) _ rfl rfl) (by assumption) ?_
        try simp only [Act.put, List.getElem_toArray, List.getElem_cons_zero, List.getElem_cons_succ, List.setIfInBounds_toArray, List.set_cons_zero, List.set_cons_succ]
        refine wpAnyH_ready (rs := [3]) (by kernel_rfl) (by simp) ?_
        refine ready_one rfl rfl (fun K hK => ?_)
        go_simp
        refine (HA9 V HU9.out).out.mono ?_
        rintro e w11 ⟨rfl, hb11⟩
        have HG1 := Lib.hid hb11
        clear hb11 HA9
        go_wp2_with fail
        refine hK.out _ _ (HSI.out _ HG1.out) (fun hHeld3 => ?_)
        clear hK K
        try simp only [Act.put, List.getElem_toArray, List.getElem_cons_zero, List.getElem_cons_succ, List.setIfInBounds_toArray, List.set_cons_zero, List.set_cons_succ]
        refine wpAnyH_ready (rs := [5]) (by kernel_rfl) (by simp) ?_
        refine ready_one rfl rfl (fun K hK => ?_)
        go_simp
        refine (HAS w11).out.mono ?_
        rintro e w12 ⟨rfl, hb12⟩
        have HG2 := Lib.hid (chain HG1.out hb12)
        have HU2 := Lib.hid (HU9.out.below HG2.out)
        clear hb12 HAS
        go_wp2_with fail
        refine hK.out _ _ (HSI.out _ HG2.out) (fun hHeld5 => ?_)
        clear hK K
        try simp only [Act.put, List.getElem_toArray, List.getElem_cons_zero, List.getElem_cons_succ, List.setIfInBounds_toArray, List.set_cons_zero, List.set_cons_succ]
        refine wpAnyH_ready (rs := [8]) (by kernel_rfl) (by simp) ?_
        refine ready_one rfl rfl (fun K hK => ?_)
        go_simp
        refine (HC9 w12 HU2.out).out.mono ?_
        rintro e w13 ⟨rfl, hb13⟩
        have HG3 := Lib.hid (chain HG2.out hb13)
        clear hb13 HC9 HU2
        go_wp2_with fail
        refine hK.out _ _ (HSI.out _ HG3.out) (fun hHeld8 => ?_)
        clear hK K
        try simp only [Act.put, List.getElem_toArray, List.getElem_cons_zero, List.getElem_cons_succ, List.setIfInBounds_toArray, List.set_cons_zero, List.set_cons_succ]
        have heq : (r9 == r9) = true := by simp
        refine wpAnyH_take (i := 9) (v := ?_) rfl (by kernel_rfl) (by kernel_rfl) (by kernel_rfl) (fun _ _ _ h => h) (Or.inl ⟨by rfl, ?_⟩) (by assumption) ?_
        rotate_left
        · (intro w hSw; go_simp; try (with_reducible rfl))
        try simp only [Act.put, List.getElem_toArray, List.getElem_cons_zero, List.getElem_cons_succ, List.setIfInBounds_toArray, List.set_cons_zero, List.set_cons_succ]
        refine wpAnyH_take (i := 10) (v := ?_) rfl (by kernel_rfl) (by kernel_rfl) (by kernel_rfl) (fun _ _ _ h => h) (Or.inl ⟨by rfl, ?_⟩) (by assumption) ?_
        rotate_left
        · (intro w hSw; go_simp; try (with_reducible rfl))
        try simp only [Act.put, List.getElem_toArray, List.getElem_cons_zero, List.getElem_cons_succ, List.setIfInBounds_toArray, List.set_cons_zero, List.set_cons_succ]
        clear heq
        refine wpAnyH_ready (rs := [11]) (by kernel_rfl) (by simp) ?_
        refine ready_one rfl rfl (fun K hK => ?_)
        go_simp
        refine (HLV w13).out.mono ?_
        rintro e w14 ⟨rfl, hb14⟩
        have HG4 := Lib.hid (chain HG3.out hb14)
        clear hb14 HLV
        go_wp2_with fail
        refine hK.out _ _ (HSI.out _ HG4.out) (fun hHeld11 => ?_)
        clear hK K
        try simp only [Act.put, List.getElem_toArray, List.getElem_cons_zero, List.getElem_cons_succ, List.setIfInBounds_toArray, List.set_cons_zero, List.set_cons_succ]
        refine wpAnyH_take (i := 12) (v := ?_) rfl (by kernel_rfl) (by kernel_rfl) (by kernel_rfl) (fun _ _ _ h => h) (Or.inl ⟨by rfl, ?_⟩) (by assumption) ?_
        rotate_left
        · (intro w hSw; go_simp; try (with_reducible rfl))
        try simp only [Act.put, List.getElem_toArray, List.getElem_cons_zero, List.getElem_cons_succ, List.setIfInBounds_toArray, List.set_cons_zero, List.set_cons_succ]
        refine wpAnyH_take (i := 13) (v := ?_) rfl (by kernel_rfl) (by kernel_rfl) (by kernel_rfl) (fun _ _ _ h => h) (Or.inl ⟨by rfl, ?_⟩) (by assumption) ?_
        rotate_left
        · (intro w hSw; go_simp; try (with_reducible rfl))
        try simp only [Act.put, List.getElem_toArray, List.getElem_cons_zero, List.getElem_cons_succ, List.setIfInBounds_toArray, List.set_cons_zero, List.set_cons_succ]
        refine wpAnyH_done (by kernel_rfl) ?_ _
        refine NoPanic.normal ?_
        clear hHeld hHeld3 hHeld5 hHeld8 hHeld11 C1 C2 HSI
        go_wp2_with fail
        go_ret
        exact ⟨rfl, chain HB9.out HG4.out⟩
      · go_wp2_with fail
        refine hK.out _ _ (HS _) (fun hHeld5 => ?_)
        clear hK K
        try simp only [Act.put, List.getElem_toArray, List.getElem_cons_zero, List.getElem_cons_succ, List.setIfInBounds_toArray, List.set_cons_zero, List.set_cons_succ]
        refine wpAnyH_ready (rs := [1, 6]) (by kernel_rfl) (by simp) ?_
        refine AllReadyH.cons rfl (fun K hK => ?_) (ready_one rfl rfl (fun K hK => ?_))
        · rw [if_pos (by rfl)]
          go_wp2_with fail
          refine hK.out _ _ (HS _) (fun hHeld1 => ?_)
          clear hK K
          try simp only [Act.put, List.getElem_toArray, List.getElem_cons_zero, List.getElem_cons_succ, List.setIfInBounds_toArray, List.set_cons_zero, List.set_cons_succ]
          refine wpAnyH_ready (rs := [6]) (by kernel_rfl) (by simp) ?_
          refine ready_one rfl rfl (fun K hK => ?_)
          refine wp_build_quM (q := ⟨qnm, qty, 1⟩) _ rfl rfl (fun W6 HW6 => ?_)
          have hb6 : Below V.heap.size V W6 := by rw [HW6.out]; exact (Below.refl _ _).alloc (Nat.le_refl _) _
          have HX6 : Hid (W6.rangeAt V.heap.size 0 (flatQ [⟨qnm, qty, 1⟩])) := Lib.hid (by have := built_new (w := V) (cs := quL ⟨qnm, qty, 1⟩) 35; rw [HW6.out]; simpa [flatQ] using this)
          have HB6' := Lib.hid hb6
          have HM6 := Lib.hid (HO7.out.below hb6)
          have m2 := HM6.out.cell 2 _ rfl
          clear HW6 hb6
          refine hK.out _ _ (HS _) (fun hHeld6 => ?_)
          clear hK K
          try simp only [Act.put, List.getElem_toArray, List.getElem_cons_zero, List.getElem_cons_succ, List.setIfInBounds_toArray, List.set_cons_zero, List.set_cons_succ]
          refine wpAnyH_ready (rs := [7]) (by kernel_rfl) (by simp) ?_
          refine ready_one rfl rfl (fun K hK => ?_)
          have HL7 : Hid (([⟨qnm, qty, 1⟩] : List Qu).length + ([⟨qnm, qty, 1⟩] : List Qu).length ≤ 100000) := Lib.hid (by simp)
          have HS7 : Hid (g ≤ W6.heap.size) := Lib.hid (by have h1 := HC7.out.lt; have h2 := HB6'.out.size; omega)
          have HE7 : Hid (RowQ W6 g (.slice (some ⟨g, 0, none⟩) 1 1) [⟨qnm, qty, 1⟩]) := Lib.hid (HR7.out.below HB6'.out)
          refine wp_append_quM HE7 _ _ rfl rfl [⟨qnm, qty, 1⟩] rfl (Lib.hid rfl) HX6 HL7 HS7 (fun v8 w8 HO8 HG8 HF8 => ?_)
          have hm8 : w8.heap[M]? = W6.heap[M]? := HG8.out.block M HM6.out.lt (fun e => by have e2 : M = g := Option.some.inj e; omega)
          have hq8 : w8.heap[w.heap.size]? = W6.heap[w.heap.size]? := HG8.out.block w.heap.size (HQ7.out.below HB6'.out).lt (fun e => by have e2 : w.heap.size = g := Option.some.inj e; omega)
          have HM8 := Lib.hid (CellsAt.keepM HM6.out hm8 HG8.out.size)
          have HQ8 := Lib.hid (CellsAt.keepM (HQ7.out.below HB6'.out) hq8 HG8.out.size)
          have HB8 : Hid (Below w.heap.size w w8) := Lib.hid (Below.grown (chain HB7.out HB6'.out) HG8.out (by have h1 := HQ7.out.lt; have h2 := HB6'.out.size; omega) (fun j hj => by have e2 : g = j := Option.some.inj hj; omega))
          have HN8 : Hid (∀ k, v8.ownBlock = some k → k ≠ M) := Lib.hid (fun k hk => by
            rcases HF8.out with h | h
            · have e2 : g = k := Option.some.inj (h.symm.trans hk); omega
            · have e2 : W6.heap.size = k := Option.some.inj (h.symm.trans hk); have := HM6.out.lt; omega)
          obtain ⟨x8, y8, hv8⟩ := own_slice (show w8.ownsRow _ _ _ v8 _ _ from HO8.out)
          have hl8 : ([⟨qnm, qty, 1⟩] ++ [⟨qnm, qty, 1⟩] : List Qu).length = 2 := rfl
          rw [hl8] at hv8
          subst hv8
          have m8 := HM8.out.live 2 (by simp)
          have m9 := HM8.out.cell 2 _ rfl
          refine hK.out _ _ (HS _) (fun hHeld7 => ?_)
          clear hK K m2
          try simp only [Act.put, List.getElem_toArray, List.getElem_cons_zero, List.getElem_cons_succ, List.setIfInBounds_toArray, List.set_cons_zero, List.set_cons_succ]
          refine wpAnyH_take (i := 8) (v := ?_) rfl (by kernel_rfl) (by kernel_rfl) (by kernel_rfl) (fun _ _ _ h => h) (Or.inl ⟨by rfl, ?_⟩) (by assumption) ?_
          rotate_left
          · (intro w hSw; go_simp; try (with_reducible rfl))
          try simp only [Act.put, List.getElem_toArray, List.getElem_cons_zero, List.getElem_cons_succ, List.setIfInBounds_toArray, List.set_cons_zero, List.set_cons_succ]
          refine wpAnyH_ready (rs := [9]) (by kernel_rfl) (by simp) ?_
          refine ready_one rfl rfl (fun K hK => ?_)
          go_wp2_with fail
          refine hK.out _ _ (HS _) (fun hHeld9 => ?_)
          clear hK K
          try simp only [Act.put, List.getElem_toArray, List.getElem_cons_zero, List.getElem_cons_succ, List.setIfInBounds_toArray, List.set_cons_zero, List.set_cons_succ]
          refine wpAnyH_done (by kernel_rfl) ?_ _
          refine NoPanic.normal ?_
          have HR9 : Hid (RowQ (w8.setCell ⟨M, 2, none⟩ (.slice x8 2 y8)) g (.slice x8 2 y8) [⟨qnm, qty, 1⟩, ⟨qnm, qty, 1⟩]) := Lib.hid (RowQ.keptM HO8.out (fun k hk => heap_setCell_otherM _ _ _ _ _ (HN8.out k hk)))
          obtain ⟨x9, y9, he9, HU9'⟩ := HR9.out.qus (fun r hr => by
            have : r = ⟨qnm, qty, 1⟩ := by simpa using hr
            rw [this]; exact HFQ.out)
          obtain ⟨rfl, rfl⟩ : x8 = x9 ∧ y8 = y9 := by injection he9 with h1 h2 h3; exact ⟨h1, h3⟩
          clear he9 HO8 HG8 HF8 HN8 HR9 HE7 HX6 HB6' HM6 HS7 HL7 hm8 hq8 hl8 m8 m9
          go_upto_region 21 with fail
          have hd := (Below.refl (w8.setCell ⟨M, 2, none⟩ (.slice x8 2 y8)).heap.size (w8.setCell ⟨M, 2, none⟩ (.slice x8 2 y8))).drew
          have HO9 : Hid (CellsAt (w8.setCell ⟨M, 2, none⟩ (.slice x8 2 y8)).drew M [.int .i64 qid, .int .i64 33152, .slice x8 2 y8, .slice none 0 0, .slice none 0 0, .slice none 0 0]) := Lib.hid (CellsAt.below (w := w8.setCell ⟨M, 2, none⟩ (.slice x8 2 y8)) (HM8.out.set 2 _ (by simp)) hd)
          have HQ9 : Hid (CellsAt (w8.setCell ⟨M, 2, none⟩ (.slice x8 2 y8)).drew w.heap.size [.int .i64 qid, .string qnm, .int .i64 qty, .int .i64 qsv]) := Lib.hid (CellsAt.below (w := w8.setCell ⟨M, 2, none⟩ (.slice x8 2 y8)) (HQ8.out.other (by omega) _ _) hd)
          have HU9 : Hid (QusAt (w8.setCell ⟨M, 2, none⟩ (.slice x8 2 y8)).drew x8 y8 [⟨qnm, qty, 1⟩, ⟨qnm, qty, 1⟩]) := Lib.hid (QusAt.below (w := w8.setCell ⟨M, 2, none⟩ (.slice x8 2 y8)) (HU9') hd)
          have HB9 : Hid (Below w.heap.size w (w8.setCell ⟨M, 2, none⟩ (.slice x8 2 y8)).drew) := Lib.hid (Below.drew (HB8.out.setCell (Nat.le_of_lt hwm) _))
          have HN9 : Hid (∀ u ∈ ([⟨qnm, qty, 1⟩, ⟨qnm, qty, 1⟩] : List Qu), u.name.size ≤ 2000000) := Lib.hid ((fun u hu => by have e : u = ⟨qnm, qty, 1⟩ := (by simpa using hu); rw [e]; have := HNM.out; show qnm.size ≤ _; omega))
          clear hd HO7 HQ7 HR7 HC7 HB7
          try clear o0 o1 o2 f0 f1 f2 g0 g1 g2 e0 e1 e2
          have HA9 := fun W h => HAN qsv qid 33152 [⟨qnm, qty, 1⟩, ⟨qnm, qty, 1⟩] x8 y8 W h HN9.out
          have HC9 := fun W h => HBN qsv qid 33152 [⟨qnm, qty, 1⟩, ⟨qnm, qty, 1⟩] x8 y8 W h HN9.out
          generalize ansP ⟨qid, qnm, qty, qsv⟩ qsv ⟨qid, 33152, [⟨qnm, qty, 1⟩, ⟨qnm, qty, 1⟩], [], [], []⟩ = r9 at *
          have hnn : ([⟨qnm, qty, 1⟩, ⟨qnm, qty, 1⟩] : List Qu).length = 2 := rfl
          rw [hnn] at HA9 HC9
          generalize ([⟨qnm, qty, 1⟩, ⟨qnm, qty, 1⟩] : List Qu) = QQ at *
          generalize (w8.setCell ⟨M, 2, none⟩ (.slice x8 2 y8)) = WX at *
          clear HAN HBN hnn
          have hsQ : (Try.prog.info? 23).map (·.size) = some ([.int .i64 qid, .string qnm, .int .i64 qty, .int .i64 qsv] : List Value).length := by kernel_rfl
          have hsM : (Try.prog.info? 27).map (·.size) = some ([.int .i64 qid, .int .i64 33152, .slice x8 2 y8, .slice none 0 0, .slice none 0 0, .slice none 0 0] : List Value).length := by kernel_rfl
          obtain ⟨S, hS⟩ : ∃ S : World → Prop, (fun U => U.rangeAt w.heap.size 0 [.int .i64 qid, .string qnm, .int .i64 qty, .int .i64 qsv] ∧ U.rangeAt M 0 [.int .i64 qid, .int .i64 33152, .slice x8 2 y8, .slice none 0 0, .slice none 0 0, .slice none 0 0]) = S := ⟨_, rfl⟩
          have C1 : Hid (∀ w', S w' → w'.rangeAt w.heap.size 0 [.int .i64 qid, .string qnm, .int .i64 qty, .int .i64 qsv]) := Lib.hid (fun w' h => by rw [← hS] at h; exact h.1)
          have C2 : Hid (∀ w', S w' → w'.rangeAt M 0 [.int .i64 qid, .int .i64 33152, .slice x8 2 y8, .slice none 0 0, .slice none 0 0, .slice none 0 0]) := Lib.hid (fun w' h => by rw [← hS] at h; exact h.2)
          have HSI : Hid (∀ U, Below WX.drew.heap.size WX.drew U → S U) := Lib.hid (fun U h => by rw [← hS]; exact ⟨(HQ9.out.below h).range, (HO9.out.below h).range⟩)
          clear hS HQ9 HO9
          refine wp_region_noPanic ?_
          refine wp_region_held_drew (S := S) (by kernel_rfl) (HSI.out _ (Below.refl _ _)) (fun hHeld => ?_)
          generalize WX.drew = V at *
          refine wpAnyH_take (i := 0) rfl (by kernel_rfl) (by kernel_rfl) (by kernel_rfl) (fun _ _ _ h => h) (yields_row C1 Try.underlying23 rfl hsQ (by rfl) _ rfl rfl) (by assumption) ?_
          try simp only [Act.put, List.getElem_toArray, List.getElem_cons_zero, List.setIfInBounds_toArray, List.set_cons_zero, List.set_cons_succ]
          refine wpAnyH_take (i := 1) (v := ?_) rfl (by kernel_rfl) (by kernel_rfl) (by kernel_rfl) (fun _ _ _ h => h) (Or.inl ⟨by rfl, ?_⟩) (by assumption) ?_
          rotate_left
          · (intro w hSw; go_simp; try (with_reducible rfl))
          try simp only [Act.put, List.getElem_toArray, List.getElem_cons_zero, List.getElem_cons_succ, List.setIfInBounds_toArray, List.set_cons_zero, List.set_cons_succ]
          refine wpAnyH_take (i := 2) rfl (by kernel_rfl) (by kernel_rfl) (by kernel_rfl) (fun _ _ _ h => h) (yields_row C2 Try.underlying27 rfl hsM (by rfl) _ rfl rfl) (by assumption) ?_
          try simp only [Act.put, List.getElem_toArray, List.getElem_cons_zero, List.getElem_cons_succ, List.setIfInBounds_toArray, List.set_cons_zero, List.set_cons_succ]
          refine wpAnyH_take (i := 4) rfl (by kernel_rfl) (by kernel_rfl) (by kernel_rfl) (fun _ _ _ h => h) (yields_row C1 Try.underlying23 rfl hsQ (by rfl) _ rfl rfl) (by assumption) ?_
          try simp only [Act.put, List.getElem_toArray, List.getElem_cons_zero, List.getElem_cons_succ, List.setIfInBounds_toArray, List.set_cons_zero, List.set_cons_succ]
          refine wpAnyH_take (i := 6) (v := ?_) rfl (by kernel_rfl) (by kernel_rfl) (by kernel_rfl) (fun _ _ _ h => h) (Or.inl ⟨by rfl, ?_⟩) (by assumption) ?_
          rotate_left
          · (intro w hSw; go_simp; try (with_reducible rfl))
          try simp only [Act.put, List.getElem_toArray, List.getElem_cons_zero, List.getElem_cons_succ, List.setIfInBounds_toArray, List.set_cons_zero, List.set_cons_succ]
          refine wpAnyH_take (i := 7) rfl (by kernel_rfl) (by kernel_rfl) (by kernel_rfl) (fun _ _ _ h => h) (yields_row C2 Try.underlying27 rfl hsM (by rfl) _ rfl rfl) (by assumption) ?_
          try simp only [Act.put, List.getElem_toArray, List.getElem_cons_zero, List.getElem_cons_succ, List.setIfInBounds_toArray, List.set_cons_zero, List.set_cons_succ]
          refine wpAnyH_ready (rs := [3]) (by kernel_rfl) (by simp) ?_
          refine ready_one rfl rfl (fun K hK => ?_)
          go_simp
          refine (HA9 V HU9.out).out.mono ?_
          rintro e w11 ⟨rfl, hb11⟩
          have HG1 := Lib.hid hb11
          clear hb11 HA9
          go_wp2_with fail
          refine hK.out _ _ (HSI.out _ HG1.out) (fun hHeld3 => ?_)
          clear hK K
          try simp only [Act.put, List.getElem_toArray, List.getElem_cons_zero, List.getElem_cons_succ, List.setIfInBounds_toArray, List.set_cons_zero, List.set_cons_succ]
          refine wpAnyH_ready (rs := [5]) (by kernel_rfl) (by simp) ?_
          refine ready_one rfl rfl (fun K hK => ?_)
          go_simp
          refine (HAS w11).out.mono ?_
          rintro e w12 ⟨rfl, hb12⟩
          have HG2 := Lib.hid (chain HG1.out hb12)
          have HU2 := Lib.hid (HU9.out.below HG2.out)
          clear hb12 HAS
          go_wp2_with fail
          refine hK.out _ _ (HSI.out _ HG2.out) (fun hHeld5 => ?_)
          clear hK K
          try simp only [Act.put, List.getElem_toArray, List.getElem_cons_zero, List.getElem_cons_succ, List.setIfInBounds_toArray, List.set_cons_zero, List.set_cons_succ]
          refine wpAnyH_ready (rs := [8]) (by kernel_rfl) (by simp) ?_
          refine ready_one rfl rfl (fun K hK => ?_)
          go_simp
          refine (HC9 w12 HU2.out).out.mono ?_
          rintro e w13 ⟨rfl, hb13⟩
          have HG3 := Lib.hid (chain HG2.out hb13)
          clear hb13 HC9 HU2
          go_wp2_with fail
          refine hK.out _ _ (HSI.out _ HG3.out) (fun hHeld8 => ?_)
          clear hK K
          try simp only [Act.put, List.getElem_toArray, List.getElem_cons_zero, List.getElem_cons_succ, List.setIfInBounds_toArray, List.set_cons_zero, List.set_cons_succ]
          have heq : (r9 == r9) = true := by simp
          refine wpAnyH_take (i := 9) (v := ?_) rfl (by kernel_rfl) (by kernel_rfl) (by kernel_rfl) (fun _ _ _ h => h) (Or.inl ⟨by rfl, ?_⟩) (by assumption) ?_
          rotate_left
          · (intro w hSw; go_simp; try (with_reducible rfl))
          try simp only [Act.put, List.getElem_toArray, List.getElem_cons_zero, List.getElem_cons_succ, List.setIfInBounds_toArray, List.set_cons_zero, List.set_cons_succ]
          refine wpAnyH_take (i := 10) (v := ?_) rfl (by kernel_rfl) (by kernel_rfl) (by kernel_rfl) (fun _ _ _ h => h) (Or.inl ⟨by rfl, ?_⟩) (by assumption) ?_
          rotate_left
          · (intro w hSw; go_simp; try (with_reducible rfl))
          try simp only [Act.put, List.getElem_toArray, List.getElem_cons_zero, List.getElem_cons_succ, List.setIfInBounds_toArray, List.set_cons_zero, List.set_cons_succ]
          clear heq
          refine wpAnyH_ready (rs := [11]) (by kernel_rfl) (by simp) ?_
          refine ready_one rfl rfl (fun K hK => ?_)
          go_simp
          refine (HLV w13).out.mono ?_
          rintro e w14 ⟨rfl, hb14⟩
          have HG4 := Lib.hid (chain HG3.out hb14)
          clear hb14 HLV
          go_wp2_with fail
          refine hK.out _ _ (HSI.out _ HG4.out) (fun hHeld11 => ?_)
          clear hK K
          try simp only [Act.put, List.getElem_toArray, List.getElem_cons_zero, List.getElem_cons_succ, List.setIfInBounds_toArray, List.set_cons_zero, List.set_cons_succ]
          refine wpAnyH_take (i := 12) (v := ?_) rfl (by kernel_rfl) (by kernel_rfl) (by kernel_rfl) (fun _ _ _ h => h) (Or.inl ⟨by rfl, ?_⟩) (by assumption) ?_
          rotate_left
          · (intro w hSw; go_simp; try (with_reducible rfl))
          try simp only [Act.put, List.getElem_toArray, List.getElem_cons_zero, List.getElem_cons_succ, List.setIfInBounds_toArray, List.set_cons_zero, List.set_cons_succ]
          refine wpAnyH_take (i := 13) (v := ?_) rfl (by kernel_rfl) (by kernel_rfl) (by kernel_rfl) (fun _ _ _ h => h) (Or.inl ⟨by rfl, ?_⟩) (by assumption) ?_
          rotate_left
          · (intro w hSw; go_simp; try (with_reducible rfl))
          try simp only [Act.put, List.getElem_toArray, List.getElem_cons_zero, List.getElem_cons_succ, List.setIfInBounds_toArray, List.set_cons_zero, List.set_cons_succ]
          refine wpAnyH_done (by kernel_rfl) ?_ _
          refine NoPanic.normal ?_
          clear hHeld hHeld3 hHeld5 hHeld8 hHeld11 C1 C2 HSI
          go_wp2_with fail
          go_ret
          exact ⟨rfl, chain HB9.out HG4.out⟩
        · refine wp_build_quM (q := ⟨qnm, qty, 1⟩) _ rfl rfl (fun W6 HW6 => ?_)
          have hb6 : Below V.heap.size V W6 := by rw [HW6.out]; exact (Below.refl _ _).alloc (Nat.le_refl _) _
          have HX6 : Hid (W6.rangeAt V.heap.size 0 (flatQ [⟨qnm, qty, 1⟩])) := Lib.hid (by have := built_new (w := V) (cs := quL ⟨qnm, qty, 1⟩) 35; rw [HW6.out]; simpa [flatQ] using this)
          have HB6' := Lib.hid hb6
          have HM6 := Lib.hid (HO7.out.below hb6)
          have m2 := HM6.out.cell 2 _ rfl
          clear HW6 hb6
          refine hK.out _ _ (HS _) (fun hHeld6 => ?_)
          clear hK K
          try simp only [Act.put, List.getElem_toArray, List.getElem_cons_zero, List.getElem_cons_succ, List.setIfInBounds_toArray, List.set_cons_zero, List.set_cons_succ]
          refine wpAnyH_ready (rs := [1]) (by kernel_rfl) (by simp) ?_
          refine ready_one rfl rfl (fun K hK => ?_)
          go_wp2_with fail
          refine hK.out _ _ (HS _) (fun hHeld1 => ?_)
          clear hK K
          try simp only [Act.put, List.getElem_toArray, List.getElem_cons_zero, List.getElem_cons_succ, List.setIfInBounds_toArray, List.set_cons_zero, List.set_cons_succ]
          refine wpAnyH_ready (rs := [7]) (by kernel_rfl) (by simp) ?_
          refine ready_one rfl rfl (fun K hK => ?_)
          have HL7 : Hid (([⟨qnm, qty, 1⟩] : List Qu).length + ([⟨qnm, qty, 1⟩] : List Qu).length ≤ 100000) := Lib.hid (by simp)
          have HS7 : Hid (g ≤ W6.heap.size) := Lib.hid (by have h1 := HC7.out.lt; have h2 := HB6'.out.size; omega)
          have HE7 : Hid (RowQ W6 g (.slice (some ⟨g, 0, none⟩) 1 1) [⟨qnm, qty, 1⟩]) := Lib.hid (HR7.out.below HB6'.out)
          refine wp_append_quM HE7 _ _ rfl rfl [⟨qnm, qty, 1⟩] rfl (Lib.hid rfl) HX6 HL7 HS7 (fun v8 w8 HO8 HG8 HF8 => ?_)
          have hm8 : w8.heap[M]? = W6.heap[M]? := HG8.out.block M HM6.out.lt (fun e => by have e2 : M = g := Option.some.inj e; omega)
          have hq8 : w8.heap[w.heap.size]? = W6.heap[w.heap.size]? := HG8.out.block w.heap.size (HQ7.out.below HB6'.out).lt (fun e => by have e2 : w.heap.size = g := Option.some.inj e; omega)
          have HM8 := Lib.hid (CellsAt.keepM HM6.out hm8 HG8.out.size)
          have HQ8 := Lib.hid (CellsAt.keepM (HQ7.out.below HB6'.out) hq8 HG8.out.size)
          have HB8 : Hid (Below w.heap.size w w8) := Lib.hid (Below.grown (chain HB7.out HB6'.out) HG8.out (by have h1 := HQ7.out.lt; have h2 := HB6'.out.size; omega) (fun j hj => by have e2 : g = j := Option.some.inj hj; omega))
          have HN8 : Hid (∀ k, v8.ownBlock = some k → k ≠ M) := Lib.hid (fun k hk => by
            rcases HF8.out with h | h
            · have e2 : g = k := Option.some.inj (h.symm.trans hk); omega
            · have e2 : W6.heap.size = k := Option.some.inj (h.symm.trans hk); have := HM6.out.lt; omega)
          obtain ⟨x8, y8, hv8⟩ := own_slice (show w8.ownsRow _ _ _ v8 _ _ from HO8.out)
          have hl8 : ([⟨qnm, qty, 1⟩] ++ [⟨qnm, qty, 1⟩] : List Qu).length = 2 := rfl
          rw [hl8] at hv8
          subst hv8
          have m8 := HM8.out.live 2 (by simp)
          have m9 := HM8.out.cell 2 _ rfl
          refine hK.out _ _ (HS _) (fun hHeld7 => ?_)
          clear hK K m2
          try simp only [Act.put, List.getElem_toArray, List.getElem_cons_zero, List.getElem_cons_succ, List.setIfInBounds_toArray, List.set_cons_zero, List.set_cons_succ]
          refine wpAnyH_take (i := 8) (v := ?_) rfl (by kernel_rfl) (by kernel_rfl) (by kernel_rfl) (fun _ _ _ h => h) (Or.inl ⟨by rfl, ?_⟩) (by assumption) ?_
          rotate_left
          · (intro w hSw; go_simp; try (with_reducible rfl))
          try simp only [Act.put, List.getElem_toArray, List.getElem_cons_zero, List.getElem_cons_succ, List.setIfInBounds_toArray, List.set_cons_zero, List.set_cons_succ]
          refine wpAnyH_ready (rs := [9]) (by kernel_rfl) (by simp) ?_
          refine ready_one rfl rfl (fun K hK => ?_)
          go_wp2_with fail
          refine hK.out _ _ (HS _) (fun hHeld9 => ?_)
          clear hK K
          try simp only [Act.put, List.getElem_toArray, List.getElem_cons_zero, List.getElem_cons_succ, List.setIfInBounds_toArray, List.set_cons_zero, List.set_cons_succ]
          refine wpAnyH_done (by kernel_rfl) ?_ _
          refine NoPanic.normal ?_
          have HR9 : Hid (RowQ (w8.setCell ⟨M, 2, none⟩ (.slice x8 2 y8)) g (.slice x8 2 y8) [⟨qnm, qty, 1⟩, ⟨qnm, qty, 1⟩]) := Lib.hid (RowQ.keptM HO8.out (fun k hk => heap_setCell_otherM _ _ _ _ _ (HN8.out k hk)))
          obtain ⟨x9, y9, he9, HU9'⟩ := HR9.out.qus (fun r hr => by
            have : r = ⟨qnm, qty, 1⟩ := by simpa using hr
            rw [this]; exact HFQ.out)
          obtain ⟨rfl, rfl⟩ : x8 = x9 ∧ y8 = y9 := by injection he9 with h1 h2 h3; exact ⟨h1, h3⟩
          clear he9 HO8 HG8 HF8 HN8 HR9 HE7 HX6 HB6' HM6 HS7 HL7 hm8 hq8 hl8 m8 m9
          go_upto_region 21 with fail
          have hd := (Below.refl (w8.setCell ⟨M, 2, none⟩ (.slice x8 2 y8)).heap.size (w8.setCell ⟨M, 2, none⟩ (.slice x8 2 y8))).drew
          have HO9 : Hid (CellsAt (w8.setCell ⟨M, 2, none⟩ (.slice x8 2 y8)).drew M [.int .i64 qid, .int .i64 33152, .slice x8 2 y8, .slice none 0 0, .slice none 0 0, .slice none 0 0]) := Lib.hid (CellsAt.below (w := w8.setCell ⟨M, 2, none⟩ (.slice x8 2 y8)) (HM8.out.set 2 _ (by simp)) hd)
          have HQ9 : Hid (CellsAt (w8.setCell ⟨M, 2, none⟩ (.slice x8 2 y8)).drew w.heap.size [.int .i64 qid, .string qnm, .int .i64 qty, .int .i64 qsv]) := Lib.hid (CellsAt.below (w := w8.setCell ⟨M, 2, none⟩ (.slice x8 2 y8)) (HQ8.out.other (by omega) _ _) hd)
          have HU9 : Hid (QusAt (w8.setCell ⟨M, 2, none⟩ (.slice x8 2 y8)).drew x8 y8 [⟨qnm, qty, 1⟩, ⟨qnm, qty, 1⟩]) := Lib.hid (QusAt.below (w := w8.setCell ⟨M, 2, none⟩ (.slice x8 2 y8)) (HU9') hd)
          have HB9 : Hid (Below w.heap.size w (w8.setCell ⟨M, 2, none⟩ (.slice x8 2 y8)).drew) := Lib.hid (Below.drew (HB8.out.setCell (Nat.le_of_lt hwm) _))
          have HN9 : Hid (∀ u ∈ ([⟨qnm, qty, 1⟩, ⟨qnm, qty, 1⟩] : List Qu), u.name.size ≤ 2000000) := Lib.hid ((fun u hu => by have e : u = ⟨qnm, qty, 1⟩ := (by simpa using hu); rw [e]; have := HNM.out; show qnm.size ≤ _; omega))
          clear hd HO7 HQ7 HR7 HC7 HB7
          try clear o0 o1 o2 f0 f1 f2 g0 g1 g2 e0 e1 e2
          have HA9 := fun W h => HAN qsv qid 33152 [⟨qnm, qty, 1⟩, ⟨qnm, qty, 1⟩] x8 y8 W h HN9.out
          have HC9 := fun W h => HBN qsv qid 33152 [⟨qnm, qty, 1⟩, ⟨qnm, qty, 1⟩] x8 y8 W h HN9.out
          generalize ansP ⟨qid, qnm, qty, qsv⟩ qsv ⟨qid, 33152, [⟨qnm, qty, 1⟩, ⟨qnm, qty, 1⟩], [], [], []⟩ = r9 at *
          have hnn : ([⟨qnm, qty, 1⟩, ⟨qnm, qty, 1⟩] : List Qu).length = 2 := rfl
          rw [hnn] at HA9 HC9
          generalize ([⟨qnm, qty, 1⟩, ⟨qnm, qty, 1⟩] : List Qu) = QQ at *
          generalize (w8.setCell ⟨M, 2, none⟩ (.slice x8 2 y8)) = WX at *
          clear HAN HBN hnn
          have hsQ : (Try.prog.info? 23).map (·.size) = some ([.int .i64 qid, .string qnm, .int .i64 qty, .int .i64 qsv] : List Value).length := by kernel_rfl
          have hsM : (Try.prog.info? 27).map (·.size) = some ([.int .i64 qid, .int .i64 33152, .slice x8 2 y8, .slice none 0 0, .slice none 0 0, .slice none 0 0] : List Value).length := by kernel_rfl
          obtain ⟨S, hS⟩ : ∃ S : World → Prop, (fun U => U.rangeAt w.heap.size 0 [.int .i64 qid, .string qnm, .int .i64 qty, .int .i64 qsv] ∧ U.rangeAt M 0 [.int .i64 qid, .int .i64 33152, .slice x8 2 y8, .slice none 0 0, .slice none 0 0, .slice none 0 0]) = S := ⟨_, rfl⟩
          have C1 : Hid (∀ w', S w' → w'.rangeAt w.heap.size 0 [.int .i64 qid, .string qnm, .int .i64 qty, .int .i64 qsv]) := Lib.hid (fun w' h => by rw [← hS] at h; exact h.1)
          have C2 : Hid (∀ w', S w' → w'.rangeAt M 0 [.int .i64 qid, .int .i64 33152, .slice x8 2 y8, .slice none 0 0, .slice none 0 0, .slice none 0 0]) := Lib.hid (fun w' h => by rw [← hS] at h; exact h.2)
          have HSI : Hid (∀ U, Below WX.drew.heap.size WX.drew U → S U) := Lib.hid (fun U h => by rw [← hS]; exact ⟨(HQ9.out.below h).range, (HO9.out.below h).range⟩)
          clear hS HQ9 HO9
          refine wp_region_noPanic ?_
          refine wp_region_held_drew (S := S) (by kernel_rfl) (HSI.out _ (Below.refl _ _)) (fun hHeld => ?_)
          generalize WX.drew = V at *
          refine wpAnyH_take (i := 0) rfl (by kernel_rfl) (by kernel_rfl) (by kernel_rfl) (fun _ _ _ h => h) (yields_row C1 Try.underlying23 rfl hsQ (by rfl) _ rfl rfl) (by assumption) ?_
          try simp only [Act.put, List.getElem_toArray, List.getElem_cons_zero, List.setIfInBounds_toArray, List.set_cons_zero, List.set_cons_succ]
          refine wpAnyH_take (i := 1) (v := ?_) rfl (by kernel_rfl) (by kernel_rfl) (by kernel_rfl) (fun _ _ _ h => h) (Or.inl ⟨by rfl, ?_⟩) (by assumption) ?_
          rotate_left
          · (intro w hSw; go_simp; try (with_reducible rfl))
          try simp only [Act.put, List.getElem_toArray, List.getElem_cons_zero, List.getElem_cons_succ, List.setIfInBounds_toArray, List.set_cons_zero, List.set_cons_succ]
          refine wpAnyH_take (i := 2) rfl (by kernel_rfl) (by kernel_rfl) (by kernel_rfl) (fun _ _ _ h => h) (yields_row C2 Try.underlying27 rfl hsM (by rfl) _ rfl rfl) (by assumption) ?_
          try simp only [Act.put, List.getElem_toArray, List.getElem_cons_zero, List.getElem_cons_succ, List.setIfInBounds_toArray, List.set_cons_zero, List.set_cons_succ]
          refine wpAnyH_take (i := 4) rfl (by kernel_rfl) (by kernel_rfl) (by kernel_rfl) (fun _ _ _ h => h) (yields_row C1 Try.underlying23 rfl hsQ (by rfl) _ rfl rfl) (by assumption) ?_
          try simp only [Act.put, List.getElem_toArray, List.getElem_cons_zero, List.getElem_cons_succ, List.setIfInBounds_toArray, List.set_cons_zero, List.set_cons_succ]
          refine wpAnyH_take (i := 6) (v := ?_) rfl (by kernel_rfl) (by kernel_rfl) (by kernel_rfl) (fun _ _ _ h => h) (Or.inl ⟨by rfl, ?_⟩) (by assumption) ?_
          rotate_left
          · (intro w hSw; go_simp; try (with_reducible rfl))
          try simp only [Act.put, List.getElem_toArray, List.getElem_cons_zero, List.getElem_cons_succ, List.setIfInBounds_toArray, List.set_cons_zero, List.set_cons_succ]
          refine wpAnyH_take (i := 7) rfl (by kernel_rfl) (by kernel_rfl) (by kernel_rfl) (fun _ _ _ h => h) (yields_row C2 Try.underlying27 rfl hsM (by rfl) _ rfl rfl) (by assumption) ?_
          try simp only [Act.put, List.getElem_toArray, List.getElem_cons_zero, List.getElem_cons_succ, List.setIfInBounds_toArray, List.set_cons_zero, List.set_cons_succ]
          refine wpAnyH_ready (rs := [3]) (by kernel_rfl) (by simp) ?_
          refine ready_one rfl rfl (fun K hK => ?_)
          go_simp
          refine (HA9 V HU9.out).out.mono ?_
          rintro e w11 ⟨rfl, hb11⟩
          have HG1 := Lib.hid hb11
          clear hb11 HA9
          go_wp2_with fail
          refine hK.out _ _ (HSI.out _ HG1.out) (fun hHeld3 => ?_)
          clear hK K
          try simp only [Act.put, List.getElem_toArray, List.getElem_cons_zero, List.getElem_cons_succ, List.setIfInBounds_toArray, List.set_cons_zero, List.set_cons_succ]
          refine wpAnyH_ready (rs := [5]) (by kernel_rfl) (by simp) ?_
          refine ready_one rfl rfl (fun K hK => ?_)
          go_simp
          refine (HAS w11).out.mono ?_
          rintro e w12 ⟨rfl, hb12⟩
          have HG2 := Lib.hid (chain HG1.out hb12)
          have HU2 := Lib.hid (HU9.out.below HG2.out)
          clear hb12 HAS
          go_wp2_with fail
          refine hK.out _ _ (HSI.out _ HG2.out) (fun hHeld5 => ?_)
          clear hK K
          try simp only [Act.put, List.getElem_toArray, List.getElem_cons_zero, List.getElem_cons_succ, List.setIfInBounds_toArray, List.set_cons_zero, List.set_cons_succ]
          refine wpAnyH_ready (rs := [8]) (by kernel_rfl) (by simp) ?_
          refine ready_one rfl rfl (fun K hK => ?_)
          go_simp
          refine (HC9 w12 HU2.out).out.mono ?_
          rintro e w13 ⟨rfl, hb13⟩
          have HG3 := Lib.hid (chain HG2.out hb13)
          clear hb13 HC9 HU2
          go_wp2_with fail
          refine hK.out _ _ (HSI.out _ HG3.out) (fun hHeld8 => ?_)
          clear hK K
          try simp only [Act.put, List.getElem_toArray, List.getElem_cons_zero, List.getElem_cons_succ, List.setIfInBounds_toArray, List.set_cons_zero, List.set_cons_succ]
          have heq : (r9 == r9) = true := by simp
          refine wpAnyH_take (i := 9) (v := ?_) rfl (by kernel_rfl) (by kernel_rfl) (by kernel_rfl) (fun _ _ _ h => h) (Or.inl ⟨by rfl, ?_⟩) (by assumption) ?_
          rotate_left
          · (intro w hSw; go_simp; try (with_reducible rfl))
          try simp only [Act.put, List.getElem_toArray, List.getElem_cons_zero, List.getElem_cons_succ, List.setIfInBounds_toArray, List.set_cons_zero, List.set_cons_succ]
          refine wpAnyH_take (i := 10) (v := ?_) rfl (by kernel_rfl) (by kernel_rfl) (by kernel_rfl) (fun _ _ _ h => h) (Or.inl ⟨by rfl, ?_⟩) (by assumption) ?_
          rotate_left
          · (intro w hSw; go_simp; try (with_reducible rfl))
          try simp only [Act.put, List.getElem_toArray, List.getElem_cons_zero, List.getElem_cons_succ, List.setIfInBounds_toArray, List.set_cons_zero, List.set_cons_succ]
          clear heq
          refine wpAnyH_ready (rs := [11]) (by kernel_rfl) (by simp) ?_
          refine ready_one rfl rfl (fun K hK => ?_)
          go_simp
          refine (HLV w13).out.mono ?_
          rintro e w14 ⟨rfl, hb14⟩
          have HG4 := Lib.hid (chain HG3.out hb14)
          clear hb14 HLV
          go_wp2_with fail
          refine hK.out _ _ (HSI.out _ HG4.out) (fun hHeld11 => ?_)
          clear hK K
          try simp only [Act.put, List.getElem_toArray, List.getElem_cons_zero, List.getElem_cons_succ, List.setIfInBounds_toArray, List.set_cons_zero, List.set_cons_succ]
          refine wpAnyH_take (i := 12) (v := ?_) rfl (by kernel_rfl) (by kernel_rfl) (by kernel_rfl) (fun _ _ _ h => h) (Or.inl ⟨by rfl, ?_⟩) (by assumption) ?_
          rotate_left
          · (intro w hSw; go_simp; try (with_reducible rfl))
          try simp only [Act.put, List.getElem_toArray, List.getElem_cons_zero, List.getElem_cons_succ, List.setIfInBounds_toArray, List.set_cons_zero, List.set_cons_succ]
          refine wpAnyH_take (i := 13) (v := ?_) rfl (by kernel_rfl) (by kernel_rfl) (by kernel_rfl) (fun _ _ _ h => h) (Or.inl ⟨by rfl, ?_⟩) (by assumption) ?_
          rotate_left
          · (intro w hSw; go_simp; try (with_reducible rfl))
          try simp only [Act.put, List.getElem_toArray, List.getElem_cons_zero, List.getElem_cons_succ, List.setIfInBounds_toArray, List.set_cons_zero, List.set_cons_succ]
          refine wpAnyH_done (by kernel_rfl) ?_ _
          refine NoPanic.normal ?_
          clear hHeld hHeld3 hHeld5 hHeld8 hHeld11 C1 C2 HSI
          go_wp2_with fail
          go_ret
          exact ⟨rfl, chain HB9.out HG4.out⟩
  · go_upto_region 21 with fail
    have hd := (Below.refl (w7).heap.size (w7)).drew
    have HO9 : Hid (CellsAt (w7).drew M [.int .i64 qid, .int .i64 33152, .slice (some ⟨g, 0, none⟩) 1 1, .slice none 0 0, .slice none 0 0, .slice none 0 0]) := Lib.hid (CellsAt.below (w := w7) (HO7.out) hd)
    have HQ9 : Hid (CellsAt (w7).drew w.heap.size [.int .i64 qid, .string qnm, .int .i64 qty, .int .i64 qsv]) := Lib.hid (CellsAt.below (w := w7) (HQ7.out) hd)
    have HU9 : Hid (QusAt (w7).drew (some ⟨g, 0, none⟩) 1 [⟨qnm, qty, 1⟩]) := Lib.hid (QusAt.below (w := w7) (qus_ofM HC7.out HFQ.out) hd)
    have HB9 : Hid (Below w.heap.size w (w7).drew) := Lib.hid (Below.drew (HB7.out))
    have HN9 : Hid (∀ u ∈ ([⟨qnm, qty, 1⟩] : List Qu), u.name.size ≤ 2000000) := Lib.hid ((fun u hu => by rw [List.mem_singleton.1 hu]; have := HNM.out; show qnm.size ≤ _; omega))
    clear hd HO7 HQ7 HR7 HC7 HB7
    try clear o0 o1 o2 f0 f1 f2 g0 g1 g2 e0 e1 e2
    have HA9 := fun W h => HAN n qid 33152 [⟨qnm, qty, 1⟩] (some ⟨g, 0, none⟩) 1 W h HN9.out
    have HC9 := fun W h => HBN n qid 33152 [⟨qnm, qty, 1⟩] (some ⟨g, 0, none⟩) 1 W h HN9.out
    generalize ansP ⟨qid, qnm, qty, qsv⟩ n ⟨qid, 33152, [⟨qnm, qty, 1⟩], [], [], []⟩ = r9 at *
    have hnn : ([⟨qnm, qty, 1⟩] : List Qu).length = 1 := rfl
    rw [hnn] at HA9 HC9
    generalize ([⟨qnm, qty, 1⟩] : List Qu) = QQ at *
    generalize (w7) = WX at *
    clear HAN HBN hnn
    have hsQ : (Try.prog.info? 23).map (·.size) = some ([.int .i64 qid, .string qnm, .int .i64 qty, .int .i64 qsv] : List Value).length := by kernel_rfl
    have hsM : (Try.prog.info? 27).map (·.size) = some ([.int .i64 qid, .int .i64 33152, .slice (some ⟨g, 0, none⟩) 1 1, .slice none 0 0, .slice none 0 0, .slice none 0 0] : List Value).length := by kernel_rfl
    obtain ⟨S, hS⟩ : ∃ S : World → Prop, (fun U => U.rangeAt w.heap.size 0 [.int .i64 qid, .string qnm, .int .i64 qty, .int .i64 qsv] ∧ U.rangeAt M 0 [.int .i64 qid, .int .i64 33152, .slice (some ⟨g, 0, none⟩) 1 1, .slice none 0 0, .slice none 0 0, .slice none 0 0]) = S := ⟨_, rfl⟩
    have C1 : Hid (∀ w', S w' → w'.rangeAt w.heap.size 0 [.int .i64 qid, .string qnm, .int .i64 qty, .int .i64 qsv]) := Lib.hid (fun w' h => by rw [← hS] at h; exact h.1)
    have C2 : Hid (∀ w', S w' → w'.rangeAt M 0 [.int .i64 qid, .int .i64 33152, .slice (some ⟨g, 0, none⟩) 1 1, .slice none 0 0, .slice none 0 0, .slice none 0 0]) := Lib.hid (fun w' h => by rw [← hS] at h; exact h.2)
    have HSI : Hid (∀ U, Below WX.drew.heap.size WX.drew U → S U) := Lib.hid (fun U h => by rw [← hS]; exact ⟨(HQ9.out.below h).range, (HO9.out.below h).range⟩)
    clear hS HQ9 HO9
    refine wp_region_noPanic ?_
    refine wp_region_held_drew (S := S) (by kernel_rfl) (HSI.out _ (Below.refl _ _)) (fun hHeld => ?_)
    generalize WX.drew = V at *
    refine wpAnyH_take (i := 0) rfl (by kernel_rfl) (by kernel_rfl) (by kernel_rfl) (fun _ _ _ h => h) (yields_row C1 Try.underlying23 rfl hsQ (by rfl) _ rfl rfl) (by assumption) ?_
    try simp only [Act.put, List.getElem_toArray, List.getElem_cons_zero, List.setIfInBounds_toArray, List.set_cons_zero, List.set_cons_succ]
    refine wpAnyH_take (i := 1) (v := ?_) rfl (by kernel_rfl) (by kernel_rfl) (by kernel_rfl) (fun _ _ _ h => h) (Or.inl ⟨by rfl, ?_⟩) (by assumption) ?_
    rotate_left
    · (intro w hSw; go_simp; try (with_reducible rfl))
    try simp only [Act.put, List.getElem_toArray, List.getElem_cons_zero, List.getElem_cons_succ, List.setIfInBounds_toArray, List.set_cons_zero, List.set_cons_succ]
    refine wpAnyH_take (i := 2) rfl (by kernel_rfl) (by kernel_rfl) (by kernel_rfl) (fun _ _ _ h => h) (yields_row C2 Try.underlying27 rfl hsM (by rfl) _ rfl rfl) (by assumption) ?_
    try simp only [Act.put, List.getElem_toArray, List.getElem_cons_zero, List.getElem_cons_succ, List.setIfInBounds_toArray, List.set_cons_zero, List.set_cons_succ]
    refine wpAnyH_take (i := 4) rfl (by kernel_rfl) (by kernel_rfl) (by kernel_rfl) (fun _ _ _ h => h) (yields_row C1 Try.underlying23 rfl hsQ (by rfl) _ rfl rfl) (by assumption) ?_
    try simp only [Act.put, List.getElem_toArray, List.getElem_cons_zero, List.getElem_cons_succ, List.setIfInBounds_toArray, List.set_cons_zero, List.set_cons_succ]
    refine wpAnyH_take (i := 6) (v := ?_) rfl (by kernel_rfl) (by kernel_rfl) (by kernel_rfl) (fun _ _ _ h => h) (Or.inl ⟨by rfl, ?_⟩) (by assumption) ?_
    rotate_left
    · (intro w hSw; go_simp; try (with_reducible rfl))
    try simp only [Act.put, List.getElem_toArray, List.getElem_cons_zero, List.getElem_cons_succ, List.setIfInBounds_toArray, List.set_cons_zero, List.set_cons_succ]
    refine wpAnyH_take (i := 7) rfl (by kernel_rfl) (by kernel_rfl) (by kernel_rfl) (fun _ _ _ h => h) (yields_row C2 Try.underlying27 rfl hsM (by rfl) _ rfl rfl) (by assumption) ?_
    try simp only [Act.put, List.getElem_toArray, List.getElem_cons_zero, List.getElem_cons_succ, List.setIfInBounds_toArray, List.set_cons_zero, List.set_cons_succ]
    refine wpAnyH_ready (rs := [3]) (by kernel_rfl) (by simp) ?_
    refine ready_one rfl rfl (fun K hK => ?_)
    go_simp
    refine (HA9 V HU9.out).out.mono ?_
    rintro e w11 ⟨rfl, hb11⟩
    have HG1 := Lib.hid hb11
    clear hb11 HA9
    go_wp2_with fail
    refine hK.out _ _ (HSI.out _ HG1.out) (fun hHeld3 => ?_)
    clear hK K
    try simp only [Act.put, List.getElem_toArray, List.getElem_cons_zero, List.getElem_cons_succ, List.setIfInBounds_toArray, List.set_cons_zero, List.set_cons_succ]
    refine wpAnyH_ready (rs := [5]) (by kernel_rfl) (by simp) ?_
    refine ready_one rfl rfl (fun K hK => ?_)
    go_simp
    refine (HAS w11).out.mono ?_
    rintro e w12 ⟨rfl, hb12⟩
    have HG2 := Lib.hid (chain HG1.out hb12)
    have HU2 := Lib.hid (HU9.out.below HG2.out)
    clear hb12 HAS
    go_wp2_with fail
    refine hK.out _ _ (HSI.out _ HG2.out) (fun hHeld5 => ?_)
    clear hK K
    try simp only [Act.put, List.getElem_toArray, List.getElem_cons_zero, List.getElem_cons_succ, List.setIfInBounds_toArray, List.set_cons_zero, List.set_cons_succ]
    refine wpAnyH_ready (rs := [8]) (by kernel_rfl) (by simp) ?_
    refine ready_one rfl rfl (fun K hK => ?_)
    go_simp
    refine (HC9 w12 HU2.out).out.mono ?_
    rintro e w13 ⟨rfl, hb13⟩
    have HG3 := Lib.hid (chain HG2.out hb13)
    clear hb13 HC9 HU2
    go_wp2_with fail
    refine hK.out _ _ (HSI.out _ HG3.out) (fun hHeld8 => ?_)
    clear hK K
    try simp only [Act.put, List.getElem_toArray, List.getElem_cons_zero, List.getElem_cons_succ, List.setIfInBounds_toArray, List.set_cons_zero, List.set_cons_succ]
    have heq : (r9 == r9) = true := by simp
    refine wpAnyH_take (i := 9) (v := ?_) rfl (by kernel_rfl) (by kernel_rfl) (by kernel_rfl) (fun _ _ _ h => h) (Or.inl ⟨by rfl, ?_⟩) (by assumption) ?_
    rotate_left
    · (intro w hSw; go_simp; try (with_reducible rfl))
    try simp only [Act.put, List.getElem_toArray, List.getElem_cons_zero, List.getElem_cons_succ, List.setIfInBounds_toArray, List.set_cons_zero, List.set_cons_succ]
    refine wpAnyH_take (i := 10) (v := ?_) rfl (by kernel_rfl) (by kernel_rfl) (by kernel_rfl) (fun _ _ _ h => h) (Or.inl ⟨by rfl, ?_⟩) (by assumption) ?_
    rotate_left
    · (intro w hSw; go_simp; try (with_reducible rfl))
    try simp only [Act.put, List.getElem_toArray, List.getElem_cons_zero, List.getElem_cons_succ, List.setIfInBounds_toArray, List.set_cons_zero, List.set_cons_succ]
    clear heq
    refine wpAnyH_ready (rs := [11]) (by kernel_rfl) (by simp) ?_
    refine ready_one rfl rfl (fun K hK => ?_)
    go_simp
    refine (HLV w13).out.mono ?_
    rintro e w14 ⟨rfl, hb14⟩
    have HG4 := Lib.hid (chain HG3.out hb14)
    clear hb14 HLV
    go_wp2_with fail
    refine hK.out _ _ (HSI.out _ HG4.out) (fun hHeld11 => ?_)
    clear hK K
    try simp only [Act.put, List.getElem_toArray, List.getElem_cons_zero, List.getElem_cons_succ, List.setIfInBounds_toArray, List.set_cons_zero, List.set_cons_succ]
    refine wpAnyH_take (i := 12) (v := ?_) rfl (by kernel_rfl) (by kernel_rfl) (by kernel_rfl) (fun _ _ _ h => h) (Or.inl ⟨by rfl, ?_⟩) (by assumption) ?_
    rotate_left
    · (intro w hSw; go_simp; try (with_reducible rfl))
    try simp only [Act.put, List.getElem_toArray, List.getElem_cons_zero, List.getElem_cons_succ, List.setIfInBounds_toArray, List.set_cons_zero, List.set_cons_succ]
    refine wpAnyH_take (i := 13) (v := ?_) rfl (by kernel_rfl) (by kernel_rfl) (by kernel_rfl) (fun _ _ _ h => h) (Or.inl ⟨by rfl, ?_⟩) (by assumption) ?_
    rotate_left
    · (intro w hSw; go_simp; try (with_reducible rfl))
    try simp only [Act.put, List.getElem_toArray, List.getElem_cons_zero, List.getElem_cons_succ, List.setIfInBounds_toArray, List.set_cons_zero, List.set_cons_succ]
    refine wpAnyH_done (by kernel_rfl) ?_ _
    refine NoPanic.normal ?_
    clear hHeld hHeld3 hHeld5 hHeld8 hHeld11 C1 C2 HSI
    go_wp2_with fail
    go_ret
    exact ⟨rfl, chain HB9.out HG4.out⟩

theorem contract (H : Type) (enc : TypeId × Value → H) (W : World) (base : Nat) (args : Array Value) (ds gs : List (DataW H)) (before : List MemPlace)
    (hval0 : ∀ (j : Nat) t v, Try.f3.params[j]? = some t → args[j]? = some v → Value.okWide Try.prog W .any base t v)
    (hW : DataW.Whole enc Try.prog Try.f3.params.toList Rows.matchAnswersSpec.vars false W args.toList ds gs before) (hk : Rows.uptoSmall H (ds ++ gs) = true) :
    Calls Try.prog 3 args W fun e W' => ∃ v, e = .returned v ∧ Rows.matchAnswersSpec.post enc Try.prog Try.f3 false true false false W args v W' := by
  have hkb : ∀ d ∈ ds, Rows.uptoBulk d ≤ 1048576 := fun d hd => Nat.le_trans (bulk_mem (List.mem_append_left _ hd)) (of_decide_eq_true hk)
  clear hk
  have hval : ∀ (j : Nat) t v, Try.f3.params[j]? = some t → args[j]? = some v → Value.okWide Try.prog W .any base t v := hval0
  have hW' := hW
  obtain ⟨p, q, hA0, hV, rfl, hfz, hnd⟩ := hW
  have hA : DataW.TrodAll enc Try.prog W 0 (fun _ => true) true Try.f3.params.toList args.toList ds p := hA0
  rw [Try.params3] at hA hval
  obtain ⟨v0, vs0, d0, ds0, p0, q0, hargs, rfl, rfl, h0, r0⟩ := trodAll_cons hA
  obtain ⟨v1, vs1, d1, ds1, p1, q1, rfl, rfl, rfl, h1, r1⟩ := trodAll_cons r0
  obtain ⟨v2, vs2, d2, ds2, p2, q2, rfl, rfl, rfl, h2, r2⟩ := trodAll_cons r1
  obtain ⟨v3, vs3, d3, ds3, p3, q3, rfl, rfl, rfl, h3, r3⟩ := trodAll_cons r2
  obtain ⟨v4, vs4, d4, ds4, p4, q4, rfl, rfl, rfl, h4, r4⟩ := trodAll_cons r3
  obtain ⟨rfl, rfl, rfl⟩ := trodAll_nil r4
  obtain rfl : args = #[v0, v1, v2, v3, v4] := by cases args; simp_all
  obtain ⟨rfl, rfl⟩ := trodVars_none hV
  have k0 := h0
  have lt0 : ∀ x ∈ p0, x.block < W.heap.size := by obtain ⟨m, hm⟩ := k0; exact DataW.trod_lt m _ _ _ hm
  obtain ⟨q0, rfl, w0⟩ := open_qry (hval 0 23 v0 rfl rfl) h0
  replace w0 := w0.wider (hkb d0 (by simp))
  obtain ⟨a1, rfl, rfl, rfl, w1⟩ := open_int Try.underlying3 (hval 1 3 v1 rfl rfl) h1
  have k2 := h2
  have lt2 : ∀ x ∈ p2, x.block < W.heap.size := by obtain ⟨m, hm⟩ := k2; exact DataW.trod_lt m _ _ _ hm
  obtain ⟨m2, xq2, xa2, xb2, xc2, yq2, ya2, yb2, yc2, rfl, w2⟩ := open_msg (hval 2 27 v2 rfl rfl) h2
  replace w2 := w2.wider (hkb d2 (by simp))
  obtain ⟨a3, rfl, rfl, rfl, w3⟩ := open_int Try.underlying3 (hval 3 3 v3 rfl rfl) h3
  obtain ⟨a4, rfl, rfl, rfl, w4⟩ := open_int Try.underlying3 (hval 4 3 v4 rfl rfl) h4
  clear hA0 hval0
  refine (walk q0 a1 m2 xq2 xa2 xb2 xc2 yq2 ya2 yb2 yc2 a3 a4 W w0 w1 w2 w3 w4).mono fun e W' ⟨he, bel⟩ => ?_
  subst he
  exact ⟨_, rfl, _, _, _, [], _, [], hW', trodAll_mk1 (shut_bool Try.underlying4 _), (trodAll_cons_mk (Below.trod laidOut (by kernel_rfl) (of_decide_eq_true (by kernel_rfl)) k0 bel lt0) (trodAll_cons_mk (shut_int Try.underlying3 w1) (trodAll_cons_mk (Below.trod laidOut (by kernel_rfl) (of_decide_eq_true (by kernel_rfl)) k2 bel lt2) (trodAll_cons_mk (shut_int Try.underlying3 w3) (trodAll_cons_mk (shut_int Try.underlying3 w4) trodAll_mk0))))), rfl, bel.frame _, fun h => by cases h⟩

set_option maxRecDepth 100000 in
theorem lifted (os : Os) (started : os.Started) (H : Type) (enc : TypeId × Value → H) (F : Stop.Interp) :
    ReturnsInHanded {} Try.checked os 3 .any ((Rows.OpenSpec.upto Rows.matchAnswersSpec).pre6 enc Try.prog Try.f3 Rows.matchAnswersUptoRow.domain false) (((Rows.OpenSpec.upto Rows.matchAnswersSpec).at F).post enc Try.prog Try.f3 false true false false) := by
  refine returnsInHanded_of_cond (C := Try.checked) (s := Rows.OpenSpec.upto Rows.matchAnswersSpec) (k := Rows.uptoSmall) rfl own started (by kernel_rfl) Try.func3
    (OpenSpec.witness (enc := enc) (C := Try.checked) (s := Rows.OpenSpec.upto Rows.matchAnswersSpec) (k := Rows.uptoSmall) rfl false ⟨#[], #[.agg #[.int .i64 0, .string ByteArray.empty, .int .i64 0, .int .i64 0], .int .i64 0, .agg #[.int .i64 0, .int .i64 0, .slice none 0 0, .slice none 0 0, .slice none 0 0, .slice none 0 0], .int .i64 0, .int .i64 0], []⟩ 8 (by kernel_rfl) (by kernel_rfl) (by kernel_rfl)
      (x := ([.agg [.lit (.int .i64 0), .lit (.string []), .lit (.int .i64 0), .lit (.int .i64 0)], .lit (.int .i64 0), .agg [.lit (.int .i64 0), .lit (.int .i64 0), .nil, .nil, .nil, .nil], .lit (.int .i64 0), .lit (.int .i64 0)], [], [])) (by kernel_rfl) rfl (by kernel_rfl)) ?_
  intro W base args ds gs before hval hW _ hk _
  exact contract H enc W base args ds gs before hval hW hk

theorem proved : Rows.MatchAnswersUptoSaid :=
  OpenClaim.holds_of_cond 3 Try.f3 rfl rfl rfl rfl rfl rfl rfl ⟨rfl, rfl, rfl, rfl, rfl⟩ rfl rfl rfl rfl rfl (by kernel_rfl) Try.func3 (by kernel_rfl)
    (of_decide_eq_true (by kernel_rfl)) (by unfold Func.isWrapper; first | (rw [if_pos (by decide +kernel)]; kernel_rfl) | (rw [if_neg (by decide +kernel)]; exact ⟨rfl, rfl⟩))
    (fun os started H enc _ F => lifted os started H enc F)
#print axioms proved
end Go.Proofs.Ytmecdhlehekdeaa.matchAnswers
