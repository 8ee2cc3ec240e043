/- Texts that belong together, one behind the other: RefWireWrite, LabParts, LabReadMath. -/
import Derived.Test.YticdpidngmeebaaF7
import Derived.Deep.CutRange
import Derived.Laws.BitsLemmas
/- Contract of the reference's Write of layer 9 (walks/RefWireWrite.py prints this text). -/
namespace Go.Proofs.Yticdpidngmeebaa
open Go.RowKit
set_option linter.unusedVariables false
set_option maxRecDepth 20000
set_option linter.unusedSimpArgs false

theorem wp_load_W9 {op : Oper} {a : Act} {w : World} {K : Act → World → Prop} {Q : Exit → Act → World → Prop} {G : Nat} {vs : List Value} (hA : Hid (CellsAt w G vs)) (hl : vs.length = 3) (x : Operand) (ho : op.op = .load 70 x)
    (hx : a.eval x = .pointer (some ⟨G, 0, none⟩)) (h : K (a.put op.dst (.agg vs.toArray)) w) : op.wp Try.prog a w K Q :=
  wp_load_mid 70 x ho G 0 hx vs _ hA.out.range Try.underlying70 rfl (by rw [w_size, hl]) h
/-- Of several operations that may come up, the first one is wanted. -/
theorem ready_one_two {P : Program} {md : Region.Mode} {ops : Array Oper} {Q : Exit → Act → World → Prop} {S : World → Prop} {fuel : Nat} {listed : Array Bool} {a : Act} {w : World} {i : Nat} {rs : List Nat} {o : Oper} (ho : ops[i]? = some o) (hw : Region.wanted o (yielded ops a.tmps) = true)
    (h : ∀ K' : Act → World → Prop, Shut (∀ a w, S w → (S w → wpAnyH P md ops Q S fuel (listed.setIfInBounds i true) a w) → K' a w) → Oper.wp P o a w K' Q) (hs : AllReadyH P md ops Q S fuel listed a w rs) : AllReadyH P md ops Q S fuel listed a w (i :: rs) :=
  AllReadyH.cons ho (fun K hK => by rw [if_pos hw]; exact h K hK) hs
theorem Wok.qs {K : Nat} : ∀ (D : List Qu) (t : Wst), Wok K t → (∀ q ∈ D, mayQ9 q = true) → Wok (K + D.length * 16304) (D.foldl qW t)
  | [], t, h, _ => h.wider (by simp)
  | q :: D, t, h, hm => by
    have h1 := h.q (hm q (List.mem_cons_self ..))
    rw [List.foldl_cons]
    exact (Wok.qs (K := K + 16304) D _ h1 (fun x hx => hm x (List.mem_cons_of_mem _ hx))).wider (by rw [List.length_cons]; omega)
theorem Wok.rs : ∀ (D : List Rec) (K : Nat) (t : Wst), Wok K t → (∀ r ∈ D, mayR r = true) → (∀ r ∈ D, Fit r) → Wok (K + D.length * 81845) (D.foldl rW t)
  | [], _, t, h, _, _ => h.wider (by simp)
  | r :: D, K, t, h, hm, hf => by
    have h1 := (h.r (hm r (List.mem_cons_self ..)) (hf r (List.mem_cons_self ..)).1).1
    rw [List.foldl_cons]
    exact (Wok.rs D (K + 81845) _ h1 (fun x hx => hm x (List.mem_cons_of_mem _ hx)) (fun x hx => hf x (List.mem_cons_of_mem _ hx))).wider (by rw [List.length_cons]; omega)
/-- The W in a box, loaded under any S that holds it. -/
theorem yields_W9S {ops : Array Oper} {S : World → Prop} {op : Oper} {a : Act} {G : Nat} {vs : List Value} (hS : Hid (∀ V, S V → V.rangeAt G 0 vs)) (hl : vs.length = 3) (hw : Region.wanted op (yielded ops a.tmps) = true) (x : Operand) (ho : op.op = .load 70 x)
    (hx : a.eval x = .pointer (some ⟨G, 0, none⟩)) : YieldsIf Try.prog ops S op (.agg vs.toArray) a :=
  yieldsIf_load_mid hw 70 x ho G 0 hx _ _ (fun w h => hS.out w h) Try.underlying70 rfl (by rw [w_size, hl])
/-- The three lists of records that a message has, and what lies ahead of each. -/
def lists9 (m : Msg) : List (List Rec) := [m.an, m.au, m.mo]
def pre9 (m : Msg) (k : Nat) : List Rec := ((lists9 m).take k).flatten
theorem pre9_succ (m : Msg) (k : Nat) (D : List Rec) (h : (lists9 m)[k]? = some D) : pre9 m (k + 1) = pre9 m k ++ D := by
  unfold pre9
  rw [List.take_add_one, h]
  simp
theorem pre9_mem (m : Msg) (k : Nat) (D : List Rec) (h : (lists9 m)[k]? = some D) (j : Nat) : (∀ P : Rec → Prop, (∀ r ∈ m.an, P r) → (∀ r ∈ m.au, P r) → (∀ r ∈ m.mo, P r) → ∀ r ∈ pre9 m k ++ D.take j, P r) ∧ (pre9 m k ++ D.take j).length ≤ m.an.length + m.au.length + m.mo.length := by
  have hk : k < 3 := (List.getElem?_eq_some_iff.1 h).1
  have hl : (D.take j).length ≤ D.length := by rw [List.length_take]; omega
  match k, hk with
  | 0, _ =>
    cases h
    refine ⟨fun P h1 h2 h3 r hr => ?_, ?_⟩
    · simp only [pre9, lists9, List.take_zero, List.flatten_nil, List.nil_append] at hr
      exact h1 r (List.mem_of_mem_take hr)
    · simp only [pre9, lists9, List.take_zero, List.flatten_nil, List.nil_append]
      omega
  | 1, _ =>
    cases h
    refine ⟨fun P h1 h2 h3 r hr => ?_, ?_⟩
    · simp [pre9, lists9] at hr
      rcases hr with hr | hr
      · exact h1 r hr
      · exact h2 r (List.mem_of_mem_take hr)
    · simp [pre9, lists9]
      omega
  | 2, _ =>
    cases h
    refine ⟨fun P h1 h2 h3 r hr => ?_, ?_⟩
    · simp [pre9, lists9] at hr
      rcases hr with hr | hr | hr
      · exact h1 r hr
      · exact h2 r hr
      · exact h3 r (List.mem_of_mem_take hr)
    · simp [pre9, lists9]
      omega
theorem pre9_whole (m : Msg) : (pre9 m 3).foldl rW (m.qs.foldl qW (hdB m, [], [])) = wM m := by
  simp [pre9, lists9, wM, List.foldl_append]
set_option maxRecDepth 100000 in
set_option maxHeartbeats 8000000 in
theorem refWrite9_any (m : Msg) (aq a1 a2 a3 : Option Addr) (cq c1 c2 c3 : Nat) (w : World) (hM : MsgIn w m aq a1 a2 a3 cq c1 c2 c3) (hmm : mayM m = true) (hl : Len4 m)
    (hk : 12 + m.qs.length * 16304 + (m.an.length + m.au.length + m.mo.length) * 81845 ≤ 900000) :
    Calls Try.prog 12 #[msgV m aq a1 a2 a3 cq c1 c2 c3] w fun e w' => ∃ v', e = .returned v' ∧ w'.ownsRow w.heap.size 5 1 v' (wB m).length (bys (wB m)) ∧ Below w.heap.size w w' := by
  unfold msgV
  have hpa := mayM_parts hmm
  obtain ⟨idn, hid⟩ : ∃ n : Nat, m.id = (n : Int) := ⟨m.id.toNat, by have := hpa.2.1; omega⟩
  obtain ⟨fln, hfl⟩ : ∃ n : Nat, m.fl = (n : Int) := ⟨m.fl.toNat, by have := hpa.2.2.1; omega⟩
  obtain ⟨n0, h0⟩ : ∃ n, m.qs.length = n := ⟨_, rfl⟩
  obtain ⟨n1, h1⟩ : ∃ n, m.an.length = n := ⟨_, rfl⟩
  obtain ⟨n2, h2⟩ : ∃ n, m.au.length = n := ⟨_, rfl⟩
  obtain ⟨n3, h3⟩ : ∃ n, m.mo.length = n := ⟨_, rfl⟩
  have HNS : Hid (m.qs.length = n0 ∧ m.an.length = n1 ∧ m.au.length = n2 ∧ m.mo.length = n3) := Lib.hid ⟨h0, h1, h2, h3⟩
  have HNB : Hid (idn ≤ 65535 ∧ fln ≤ 65535 ∧ n0 ≤ 65535 ∧ n1 ≤ 65535 ∧ n2 ≤ 65535 ∧ n3 ≤ 65535) := Lib.hid ⟨by have := hpa.2.1; omega, by have := hpa.2.2.1; omega, h0 ▸ hl.1, h1 ▸ hl.2.1, h2 ▸ hl.2.2.1, h3 ▸ hl.2.2.2⟩
  have HIF : Hid (m.id = (idn : Int) ∧ m.fl = (fln : Int)) := Lib.hid ⟨hid, hfl⟩
  have HPA := Lib.hid hpa
  have HMI := Lib.hid hM
  have HKM := Lib.hid hk
  rw [hid, hfl, h0, h1, h2, h3]
  clear hpa hid hfl h0 h1 h2 h3 hM hk hmm hl
  obtain ⟨mc, hmc⟩ : ∃ mc : List Value, [.int .i64 (idn : Int), .int .i64 (fln : Int), .slice aq n0 cq, .slice a1 n1 c1, .slice a2 n2 c2, .slice a3 n3 c3] = mc := ⟨_, rfl⟩
  have HS0 : Hid (St9 w w.heap.size [] [(w.heap.size + 1, 0, zW), (w.heap.size, 0, [.int .i64 (idn : Int), .int .i64 (fln : Int), .slice aq n0 cq, .slice a1 n1 c1, .slice a2 n2 c2, .slice a3 n3 c3])] (.slice none 0 0) (.slice none 0 0) (.slice none 0 0) ([], [], []) ((w.alloc (.cells #[.int .i64 (idn : Int), .int .i64 (fln : Int), .slice aq n0 cq, .slice a1 n1 c1, .slice a2 n2 c2, .slice a3 n3 c3] 25)).alloc (.cells #[.slice none 0 0, .slice none 0 0, .slice none 0 0] 70))) := Lib.hid (by
    have := ((St9.begin (w := w) (B := w.heap.size) (vB := .slice none 0 0) (vN := .slice none 0 0) (vA := .slice none 0 0) (t := ([], [], [])) ⟨World.ownsRow_nil _ _ _ _, World.ownsRow_nil _ _ _ _, World.ownsRow_nil _ _ _ _⟩ (Nat.le_refl _)).alloc [.int .i64 (idn : Int), .int .i64 (fln : Int), .slice aq n0 cq, .slice a1 n1 c1, .slice a2 n2 c2, .slice a3 n3 c3] 25).alloc zW 70
    simpa [blk3, Value.ownBlock] using this)
  obtain ⟨W, hW⟩ : ∃ W, (w.alloc (.cells #[.int .i64 (idn : Int), .int .i64 (fln : Int), .slice aq n0 cq, .slice a1 n1 c1, .slice a2 n2 c2, .slice a3 n3 c3] 25)).alloc (.cells #[.slice none 0 0, .slice none 0 0, .slice none 0 0] 70) = W := ⟨_, rfl⟩
  rw [hW, hmc] at HS0
  obtain ⟨G, hG⟩ : ∃ G, w.heap.size = G := ⟨_, rfl⟩
  have HG := Lib.hid hG
  rw [hG] at HS0
  have HMC : Hid (∀ V : World, V.rangeAt G 0 mc → V.cell? ⟨G, 0, none⟩ = some (.int .i64 (idn : Int)) ∧ V.cell? ⟨G, 1, none⟩ = some (.int .i64 (fln : Int)) ∧ V.cell? ⟨G, 2, none⟩ = some (.slice aq n0 cq) ∧ V.cell? ⟨G, 3, none⟩ = some (.slice a1 n1 c1) ∧ V.cell? ⟨G, 4, none⟩ = some (.slice a2 n2 c2) ∧ V.cell? ⟨G, 5, none⟩ = some (.slice a3 n3 c3)) := Lib.hid (fun V h => by
    rw [← hmc] at h
    exact ⟨h 0 _ rfl, h 1 _ rfl, h 2 _ rfl, h 3 _ rfl, h 4 _ rfl, h 5 _ rfl⟩)
  clear hmc
  go_enter Try.func12, Try.ntmps12
  go_upto_region 2 with fail
  try rw [hW]
  clear hW
  try rw [hG]
  clear hG
  obtain ⟨L2, hL2⟩ : ∃ L2 : List (Nat × Nat × List Value), [(G, 0, mc)] = L2 := ⟨_, rfl⟩
  rw [hL2] at HS0
  have HI : Hid ((G, 0, mc) ∈ L2) := Lib.hid (by rw [← hL2]; simp)
  have HN0 : Hid (∀ x ∈ L2, x.1 ≠ G + 1) := Lib.hid (fun x hx => by rw [← hL2] at hx; simp at hx; subst hx; simp only; omega)
  have HSS : Hid (∀ us V, HeldS ((G + 1, 0, us) :: L2) V → HeldS L2 V) := Lib.hid (fun us V hv x hx => hv x (List.mem_cons_of_mem _ hx))
  have C0 : Hid (∀ V, HeldS L2 V → V.cell? ⟨G, 0, none⟩ = some (.int .i64 (idn : Int))) := Lib.hid (fun V hv => (HMC.out V (hv _ HI.out)).1)
  have C1 : Hid (∀ V, HeldS L2 V → V.cell? ⟨G, 1, none⟩ = some (.int .i64 (fln : Int))) := Lib.hid (fun V hv => (HMC.out V (hv _ HI.out)).2.1)
  have C2 : Hid (∀ V, HeldS L2 V → V.cell? ⟨G, 2, none⟩ = some (.slice aq n0 cq)) := Lib.hid (fun V hv => (HMC.out V (hv _ HI.out)).2.2.1)
  have C3 : Hid (∀ V, HeldS L2 V → V.cell? ⟨G, 3, none⟩ = some (.slice a1 n1 c1)) := Lib.hid (fun V hv => (HMC.out V (hv _ HI.out)).2.2.2.1)
  have C4 : Hid (∀ V, HeldS L2 V → V.cell? ⟨G, 4, none⟩ = some (.slice a2 n2 c2)) := Lib.hid (fun V hv => (HMC.out V (hv _ HI.out)).2.2.2.2.1)
  have C5 : Hid (∀ V, HeldS L2 V → V.cell? ⟨G, 5, none⟩ = some (.slice a3 n3 c3)) := Lib.hid (fun V hv => (HMC.out V (hv _ HI.out)).2.2.2.2.2)
  clear hL2
  have HS := HS0
  clear HS0
  go_cut [] from 10 (fun wx => ∃ b n a, Hid (St9 w G [] ((G + 1, 0, [b, n, a]) :: L2) b n a ([] ++ twoL idn, [], []) wx))
  case first =>
    refine wp_region_noPanic ?_
    replace HS := Lib.hid HS.out.drew
    refine wp_region_held_drew (S := HeldS L2) (by kernel_rfl) (HSS.out _ _ HS.out.kept.at0) (fun hHeld => ?_)
    obtain ⟨U, hU⟩ : ∃ U, W.drew = U := ⟨_, rfl⟩
    rw [hU] at HS hHeld ⊢
    clear hU
    refine wpAnyH_take (i := 1) (v := ?_) rfl (by kernel_rfl) (by kernel_rfl) (by kernel_rfl) (fun _ _ _ h => h) (Or.inl ⟨by rfl, ?_⟩) (by assumption) ?_
    rotate_left
    · (intro w hSw; go_simp; try (with_reducible rfl))
    try simp only [Act.put, List.getElem_toArray, List.getElem_cons_zero, List.getElem_cons_succ, List.setIfInBounds_toArray, List.set_cons_zero, List.set_cons_succ]
    refine wpAnyH_take (i := 2) (v := ?_) rfl (by kernel_rfl) (by kernel_rfl) (by kernel_rfl) (fun _ _ _ h => h) (Or.inl ⟨by rfl, ?_⟩) (by assumption) ?_
    rotate_left
    · (intro w hSw; have hc0 := C0.out w hSw; go_simp; try (with_reducible rfl))
    try simp only [Act.put, List.getElem_toArray, List.getElem_cons_zero, List.getElem_cons_succ, List.setIfInBounds_toArray, List.set_cons_zero, List.set_cons_succ]
    refine wpAnyH_ready (rs := [0, 3]) (by kernel_rfl) (by simp) ?_
    refine ready_one_two rfl rfl (fun K hK => ?_) (AllReadyH.cons rfl (fun K hK => ?_) AllReadyH.nil)
    · have HLR := Lib.hid (HS.out.cells (List.mem_cons_self ..))
      refine wp_load_W9 HLR rfl _ rfl rfl ?_
      refine hK.out _ _ (HSS.out _ _ HS.out.kept.at0) (fun hHeldl => ?_)
      clear hK K HLR
      try simp only [Act.put, List.getElem_toArray, List.getElem_cons_zero, List.getElem_cons_succ, List.setIfInBounds_toArray, List.set_cons_zero, List.set_cons_succ]
      have HTW := Lib.hid (HS.out.twoc (n := idn) (by have := HNB.out; omega))
      refine wpAnyH_ready (rs := [3]) (by kernel_rfl) (by simp) ?_
      refine AllReadyH.cons rfl (fun K hK => ?_) AllReadyH.nil
      go_simp
      refine HTW.out.mono ?_
      rintro e wt3 ⟨rfl, hm, hs⟩
      have HM := Lib.hid hm
      replace HS := Lib.hid hs
      clear hm hs HTW
      go_wp2_with fail
      refine hK.out _ _ (HSS.out _ _ HS.out.kept.at0) (fun hHeldt3 => ?_)
      clear hK K
      try simp only [Act.put, List.getElem_toArray, List.getElem_cons_zero, List.getElem_cons_succ, List.setIfInBounds_toArray, List.set_cons_zero, List.set_cons_succ]
      refine wpAnyH_ready (rs := [4]) (by kernel_rfl) (by simp) ?_
      refine AllReadyH.cons rfl (fun K hK => ?_) AllReadyH.nil
      go_simp
      refine (HS.out.putc HM.out (by (try simp only [List.length_append, List.length_nil]); (try simp only [twoL_len]); omega) rfl).mono ?_
      rintro e wp4 ⟨b4, n4, a4, rfl, hs⟩
      replace HS := Lib.hid hs
      clear hs HM
      go_wp2_with fail
      refine hK.out _ _ (HSS.out _ _ HS.out.kept.at0) (fun hHeldp4 => ?_)
      clear hK K
      try simp only [Act.put, List.getElem_toArray, List.getElem_cons_zero, List.getElem_cons_succ, List.setIfInBounds_toArray, List.set_cons_zero, List.set_cons_succ]
      refine wpAnyH_ready (rs := [5]) (by kernel_rfl) (by simp) ?_
      refine ready_one rfl rfl (fun K hK => ?_)
      have HC0 := Lib.hid (HS.out.cells (List.mem_cons_self ..))
      refine wp_store_W9 HC0 rfl _ _ rfl rfl rfl rfl HS.out.rows.one (fun Vz HV HVC => ?_)
      replace HS := HS.out.set HN0.out (by have := HG.out; omega) [b4, n4, a4] rfl
      rw [← HV.out] at HS
      replace HS := Lib.hid HS
      refine hK.out _ _ (HSS.out _ _ HS.out.kept.at0) (fun hHeldz => ?_)
      clear hK K HC0 HV HVC
      try simp only [Act.put, List.getElem_toArray, List.getElem_cons_zero, List.getElem_cons_succ]
      refine wpAnyH_done (by kernel_rfl) ?_ _
      refine NoPanic.normal ?_
      go_wp2_with fail
      go_meet
      case rel => exact ⟨_, _, _, HS⟩
    · have HTW := Lib.hid (HS.out.twoc (n := idn) (by have := HNB.out; omega))
      go_simp
      refine HTW.out.mono ?_
      rintro e wt3 ⟨rfl, hm, hs⟩
      have HM := Lib.hid hm
      replace HS := Lib.hid hs
      clear hm hs HTW
      go_wp2_with fail
      refine hK.out _ _ (HSS.out _ _ HS.out.kept.at0) (fun hHeldt3 => ?_)
      clear hK K
      try simp only [Act.put, List.getElem_toArray, List.getElem_cons_zero, List.getElem_cons_succ, List.setIfInBounds_toArray, List.set_cons_zero, List.set_cons_succ]
      refine wpAnyH_ready (rs := [0]) (by kernel_rfl) (by simp) ?_
      refine ready_one rfl rfl (fun K hK => ?_)
      have HLR := Lib.hid (HS.out.cells (List.mem_cons_self ..))
      refine wp_load_W9 HLR rfl _ rfl rfl ?_
      refine hK.out _ _ (HSS.out _ _ HS.out.kept.at0) (fun hHeldl => ?_)
      clear hK K HLR
      try simp only [Act.put, List.getElem_toArray, List.getElem_cons_zero, List.getElem_cons_succ, List.setIfInBounds_toArray, List.set_cons_zero, List.set_cons_succ]
      refine wpAnyH_ready (rs := [4]) (by kernel_rfl) (by simp) ?_
      refine AllReadyH.cons rfl (fun K hK => ?_) AllReadyH.nil
      go_simp
      refine (HS.out.putc HM.out (by (try simp only [List.length_append, List.length_nil]); (try simp only [twoL_len]); omega) rfl).mono ?_
      rintro e wp4 ⟨b4, n4, a4, rfl, hs⟩
      replace HS := Lib.hid hs
      clear hs HM
      go_wp2_with fail
      refine hK.out _ _ (HSS.out _ _ HS.out.kept.at0) (fun hHeldp4 => ?_)
      clear hK K
      try simp only [Act.put, List.getElem_toArray, List.getElem_cons_zero, List.getElem_cons_succ, List.setIfInBounds_toArray, List.set_cons_zero, List.set_cons_succ]
      refine wpAnyH_ready (rs := [5]) (by kernel_rfl) (by simp) ?_
      refine ready_one rfl rfl (fun K hK => ?_)
      have HC0 := Lib.hid (HS.out.cells (List.mem_cons_self ..))
      refine wp_store_W9 HC0 rfl _ _ rfl rfl rfl rfl HS.out.rows.one (fun Vz HV HVC => ?_)
      replace HS := HS.out.set HN0.out (by have := HG.out; omega) [b4, n4, a4] rfl
      rw [← HV.out] at HS
      replace HS := Lib.hid HS
      refine hK.out _ _ (HSS.out _ _ HS.out.kept.at0) (fun hHeldz => ?_)
      clear hK K HC0 HV HVC
      try simp only [Act.put, List.getElem_toArray, List.getElem_cons_zero, List.getElem_cons_succ]
      refine wpAnyH_done (by kernel_rfl) ?_ _
      refine NoPanic.normal ?_
      go_wp2_with fail
      go_meet
      case rel => exact ⟨_, _, _, HS⟩
  case rest =>
    clear HS
    obtain ⟨vb, vn, va, HS⟩ := hcut
    go_upto_region 3 with fail
    go_cut [] from 10 (fun wx => ∃ b n a, Hid (St9 w G [] ((G + 1, 0, [b, n, a]) :: L2) b n a ([] ++ twoL idn ++ twoL fln, [], []) wx))
    case first =>
      refine wp_region_noPanic ?_
      replace HS := Lib.hid HS.out.drew
      refine wp_region_held_drew (S := HeldS L2) (by kernel_rfl) (HSS.out _ _ HS.out.kept.at0) (fun hHeld => ?_)
      obtain ⟨U, hU⟩ : ∃ U, wc.drew = U := ⟨_, rfl⟩
      rw [hU] at HS hHeld ⊢
      clear hU
      refine wpAnyH_take (i := 1) (v := ?_) rfl (by kernel_rfl) (by kernel_rfl) (by kernel_rfl) (fun _ _ _ h => h) (Or.inl ⟨by rfl, ?_⟩) (by assumption) ?_
      rotate_left
      · (intro w hSw; go_simp; try (with_reducible rfl))
      try simp only [Act.put, List.getElem_toArray, List.getElem_cons_zero, List.getElem_cons_succ, List.setIfInBounds_toArray, List.set_cons_zero, List.set_cons_succ]
      refine wpAnyH_take (i := 2) (v := ?_) rfl (by kernel_rfl) (by kernel_rfl) (by kernel_rfl) (fun _ _ _ h => h) (Or.inl ⟨by rfl, ?_⟩) (by assumption) ?_
      rotate_left
      · (intro w hSw; have hc0 := C1.out w hSw; go_simp; try (with_reducible rfl))
      try simp only [Act.put, List.getElem_toArray, List.getElem_cons_zero, List.getElem_cons_succ, List.setIfInBounds_toArray, List.set_cons_zero, List.set_cons_succ]
      refine wpAnyH_ready (rs := [0, 3]) (by kernel_rfl) (by simp) ?_
      refine ready_one_two rfl rfl (fun K hK => ?_) (AllReadyH.cons rfl (fun K hK => ?_) AllReadyH.nil)
      · have HLR := Lib.hid (HS.out.cells (List.mem_cons_self ..))
        refine wp_load_W9 HLR rfl _ rfl rfl ?_
        refine hK.out _ _ (HSS.out _ _ HS.out.kept.at0) (fun hHeldl => ?_)
        clear hK K HLR
        try simp only [Act.put, List.getElem_toArray, List.getElem_cons_zero, List.getElem_cons_succ, List.setIfInBounds_toArray, List.set_cons_zero, List.set_cons_succ]
        have HTW := Lib.hid (HS.out.twoc (n := fln) (by have := HNB.out; omega))
        refine wpAnyH_ready (rs := [3]) (by kernel_rfl) (by simp) ?_
        refine AllReadyH.cons rfl (fun K hK => ?_) AllReadyH.nil
        go_simp
        refine HTW.out.mono ?_
        rintro e wt3 ⟨rfl, hm, hs⟩
        have HM := Lib.hid hm
        replace HS := Lib.hid hs
        clear hm hs HTW
        go_wp2_with fail
        refine hK.out _ _ (HSS.out _ _ HS.out.kept.at0) (fun hHeldt3 => ?_)
        clear hK K
        try simp only [Act.put, List.getElem_toArray, List.getElem_cons_zero, List.getElem_cons_succ, List.setIfInBounds_toArray, List.set_cons_zero, List.set_cons_succ]
        refine wpAnyH_ready (rs := [4]) (by kernel_rfl) (by simp) ?_
        refine AllReadyH.cons rfl (fun K hK => ?_) AllReadyH.nil
        go_simp
        refine (HS.out.putc HM.out (by (try simp only [List.length_append, List.length_nil]); (try simp only [twoL_len]); omega) rfl).mono ?_
        rintro e wp4 ⟨b4, n4, a4, rfl, hs⟩
        replace HS := Lib.hid hs
        clear hs HM
        go_wp2_with fail
        refine hK.out _ _ (HSS.out _ _ HS.out.kept.at0) (fun hHeldp4 => ?_)
        clear hK K
        try simp only [Act.put, List.getElem_toArray, List.getElem_cons_zero, List.getElem_cons_succ, List.setIfInBounds_toArray, List.set_cons_zero, List.set_cons_succ]
        refine wpAnyH_ready (rs := [5]) (by kernel_rfl) (by simp) ?_
        refine ready_one rfl rfl (fun K hK => ?_)
        have HC0 := Lib.hid (HS.out.cells (List.mem_cons_self ..))
        refine wp_store_W9 HC0 rfl _ _ rfl rfl rfl rfl HS.out.rows.one (fun Vz HV HVC => ?_)
        replace HS := HS.out.set HN0.out (by have := HG.out; omega) [b4, n4, a4] rfl
        rw [← HV.out] at HS
        replace HS := Lib.hid HS
        refine hK.out _ _ (HSS.out _ _ HS.out.kept.at0) (fun hHeldz => ?_)
        clear hK K HC0 HV HVC
        try simp only [Act.put, List.getElem_toArray, List.getElem_cons_zero, List.getElem_cons_succ]
        refine wpAnyH_done (by kernel_rfl) ?_ _
        refine NoPanic.normal ?_
        go_wp2_with fail
        go_meet
        case rel => exact ⟨_, _, _, HS⟩
      · have HTW := Lib.hid (HS.out.twoc (n := fln) (by have := HNB.out; omega))
        go_simp
        refine HTW.out.mono ?_
        rintro e wt3 ⟨rfl, hm, hs⟩
        have HM := Lib.hid hm
        replace HS := Lib.hid hs
        clear hm hs HTW
        go_wp2_with fail
        refine hK.out _ _ (HSS.out _ _ HS.out.kept.at0) (fun hHeldt3 => ?_)
        clear hK K
        try simp only [Act.put, List.getElem_toArray, List.getElem_cons_zero, List.getElem_cons_succ, List.setIfInBounds_toArray, List.set_cons_zero, List.set_cons_succ]
        refine wpAnyH_ready (rs := [0]) (by kernel_rfl) (by simp) ?_
        refine ready_one rfl rfl (fun K hK => ?_)
        have HLR := Lib.hid (HS.out.cells (List.mem_cons_self ..))
        refine wp_load_W9 HLR rfl _ rfl rfl ?_
        refine hK.out _ _ (HSS.out _ _ HS.out.kept.at0) (fun hHeldl => ?_)
        clear hK K HLR
        try simp only [Act.put, List.getElem_toArray, List.getElem_cons_zero, List.getElem_cons_succ, List.setIfInBounds_toArray, List.set_cons_zero, List.set_cons_succ]
        refine wpAnyH_ready (rs := [4]) (by kernel_rfl) (by simp) ?_
        refine AllReadyH.cons rfl (fun K hK => ?_) AllReadyH.nil
        go_simp
        refine (HS.out.putc HM.out (by (try simp only [List.length_append, List.length_nil]); (try simp only [twoL_len]); omega) rfl).mono ?_
        rintro e wp4 ⟨b4, n4, a4, rfl, hs⟩
        replace HS := Lib.hid hs
        clear hs HM
        go_wp2_with fail
        refine hK.out _ _ (HSS.out _ _ HS.out.kept.at0) (fun hHeldp4 => ?_)
        clear hK K
        try simp only [Act.put, List.getElem_toArray, List.getElem_cons_zero, List.getElem_cons_succ, List.setIfInBounds_toArray, List.set_cons_zero, List.set_cons_succ]
        refine wpAnyH_ready (rs := [5]) (by kernel_rfl) (by simp) ?_
        refine ready_one rfl rfl (fun K hK => ?_)
        have HC0 := Lib.hid (HS.out.cells (List.mem_cons_self ..))
        refine wp_store_W9 HC0 rfl _ _ rfl rfl rfl rfl HS.out.rows.one (fun Vz HV HVC => ?_)
        replace HS := HS.out.set HN0.out (by have := HG.out; omega) [b4, n4, a4] rfl
        rw [← HV.out] at HS
        replace HS := Lib.hid HS
        refine hK.out _ _ (HSS.out _ _ HS.out.kept.at0) (fun hHeldz => ?_)
        clear hK K HC0 HV HVC
        try simp only [Act.put, List.getElem_toArray, List.getElem_cons_zero, List.getElem_cons_succ]
        refine wpAnyH_done (by kernel_rfl) ?_ _
        refine NoPanic.normal ?_
        go_wp2_with fail
        go_meet
        case rel => exact ⟨_, _, _, HS⟩
    case rest =>
      clear HS
      obtain ⟨vb, vn, va, HS⟩ := hcut
      go_upto_region 4 with fail
      go_cut [] from 10 (fun wx => ∃ b n a, Hid (St9 w G [] ((G + 1, 0, [b, n, a]) :: L2) b n a ([] ++ twoL idn ++ twoL fln ++ twoL n0, [], []) wx))
      case first =>
        refine wp_region_noPanic ?_
        replace HS := Lib.hid HS.out.drew
        refine wp_region_held_drew (S := HeldS L2) (by kernel_rfl) (HSS.out _ _ HS.out.kept.at0) (fun hHeld => ?_)
        obtain ⟨U, hU⟩ : ∃ U, wc.drew = U := ⟨_, rfl⟩
        rw [hU] at HS hHeld ⊢
        clear hU
        refine wpAnyH_take (i := 1) (v := ?_) rfl (by kernel_rfl) (by kernel_rfl) (by kernel_rfl) (fun _ _ _ h => h) (Or.inl ⟨by rfl, ?_⟩) (by assumption) ?_
        rotate_left
        · (intro w hSw; go_simp; try (with_reducible rfl))
        try simp only [Act.put, List.getElem_toArray, List.getElem_cons_zero, List.getElem_cons_succ, List.setIfInBounds_toArray, List.set_cons_zero, List.set_cons_succ]
        refine wpAnyH_take (i := 2) (v := ?_) rfl (by kernel_rfl) (by kernel_rfl) (by kernel_rfl) (fun _ _ _ h => h) (Or.inl ⟨by rfl, ?_⟩) (by assumption) ?_
        rotate_left
        · (intro w hSw; have hc0 := C2.out w hSw; go_simp; try (with_reducible rfl))
        try simp only [Act.put, List.getElem_toArray, List.getElem_cons_zero, List.getElem_cons_succ, List.setIfInBounds_toArray, List.set_cons_zero, List.set_cons_succ]
        refine wpAnyH_take (i := 3) (v := ?_) rfl (by kernel_rfl) (by kernel_rfl) (by kernel_rfl) (fun _ _ _ h => h) (Or.inl ⟨by rfl, ?_⟩) (by assumption) ?_
        rotate_left
        · (intro w hSw; go_simp; try (with_reducible rfl))
        try simp only [Act.put, List.getElem_toArray, List.getElem_cons_zero, List.getElem_cons_succ, List.setIfInBounds_toArray, List.set_cons_zero, List.set_cons_succ]
        refine wpAnyH_ready (rs := [0, 4]) (by kernel_rfl) (by simp) ?_
        refine ready_one_two rfl rfl (fun K hK => ?_) (AllReadyH.cons rfl (fun K hK => ?_) AllReadyH.nil)
        · have HLR := Lib.hid (HS.out.cells (List.mem_cons_self ..))
          refine wp_load_W9 HLR rfl _ rfl rfl ?_
          refine hK.out _ _ (HSS.out _ _ HS.out.kept.at0) (fun hHeldl => ?_)
          clear hK K HLR
          try simp only [Act.put, List.getElem_toArray, List.getElem_cons_zero, List.getElem_cons_succ, List.setIfInBounds_toArray, List.set_cons_zero, List.set_cons_succ]
          have HTW := Lib.hid (HS.out.twoc (n := n0) (by have := HNB.out; omega))
          refine wpAnyH_ready (rs := [4]) (by kernel_rfl) (by simp) ?_
          refine AllReadyH.cons rfl (fun K hK => ?_) AllReadyH.nil
          go_simp
          refine HTW.out.mono ?_
          rintro e wt4 ⟨rfl, hm, hs⟩
          have HM := Lib.hid hm
          replace HS := Lib.hid hs
          clear hm hs HTW
          go_wp2_with fail
          refine hK.out _ _ (HSS.out _ _ HS.out.kept.at0) (fun hHeldt4 => ?_)
          clear hK K
          try simp only [Act.put, List.getElem_toArray, List.getElem_cons_zero, List.getElem_cons_succ, List.setIfInBounds_toArray, List.set_cons_zero, List.set_cons_succ]
          refine wpAnyH_ready (rs := [5]) (by kernel_rfl) (by simp) ?_
          refine AllReadyH.cons rfl (fun K hK => ?_) AllReadyH.nil
          go_simp
          refine (HS.out.putc HM.out (by (try simp only [List.length_append, List.length_nil]); (try simp only [twoL_len]); omega) rfl).mono ?_
          rintro e wp5 ⟨b5, n5, a5, rfl, hs⟩
          replace HS := Lib.hid hs
          clear hs HM
          go_wp2_with fail
          refine hK.out _ _ (HSS.out _ _ HS.out.kept.at0) (fun hHeldp5 => ?_)
          clear hK K
          try simp only [Act.put, List.getElem_toArray, List.getElem_cons_zero, List.getElem_cons_succ, List.setIfInBounds_toArray, List.set_cons_zero, List.set_cons_succ]
          refine wpAnyH_ready (rs := [6]) (by kernel_rfl) (by simp) ?_
          refine ready_one rfl rfl (fun K hK => ?_)
          have HC0 := Lib.hid (HS.out.cells (List.mem_cons_self ..))
          refine wp_store_W9 HC0 rfl _ _ rfl rfl rfl rfl HS.out.rows.one (fun Vz HV HVC => ?_)
          replace HS := HS.out.set HN0.out (by have := HG.out; omega) [b5, n5, a5] rfl
          rw [← HV.out] at HS
          replace HS := Lib.hid HS
          refine hK.out _ _ (HSS.out _ _ HS.out.kept.at0) (fun hHeldz => ?_)
          clear hK K HC0 HV HVC
          try simp only [Act.put, List.getElem_toArray, List.getElem_cons_zero, List.getElem_cons_succ]
          refine wpAnyH_done (by kernel_rfl) ?_ _
          refine NoPanic.normal ?_
          go_wp2_with fail
          go_meet
          case rel => exact ⟨_, _, _, HS⟩
        · have HTW := Lib.hid (HS.out.twoc (n := n0) (by have := HNB.out; omega))
          go_simp
          refine HTW.out.mono ?_
          rintro e wt4 ⟨rfl, hm, hs⟩
          have HM := Lib.hid hm
          replace HS := Lib.hid hs
          clear hm hs HTW
          go_wp2_with fail
          refine hK.out _ _ (HSS.out _ _ HS.out.kept.at0) (fun hHeldt4 => ?_)
          clear hK K
          try simp only [Act.put, List.getElem_toArray, List.getElem_cons_zero, List.getElem_cons_succ, List.setIfInBounds_toArray, List.set_cons_zero, List.set_cons_succ]
          refine wpAnyH_ready (rs := [0]) (by kernel_rfl) (by simp) ?_
          refine ready_one rfl rfl (fun K hK => ?_)
          have HLR := Lib.hid (HS.out.cells (List.mem_cons_self ..))
          refine wp_load_W9 HLR rfl _ rfl rfl ?_
          refine hK.out _ _ (HSS.out _ _ HS.out.kept.at0) (fun hHeldl => ?_)
          clear hK K HLR
          try simp only [Act.put, List.getElem_toArray, List.getElem_cons_zero, List.getElem_cons_succ, List.setIfInBounds_toArray, List.set_cons_zero, List.set_cons_succ]
          refine wpAnyH_ready (rs := [5]) (by kernel_rfl) (by simp) ?_
          refine AllReadyH.cons rfl (fun K hK => ?_) AllReadyH.nil
          go_simp
          refine (HS.out.putc HM.out (by (try simp only [List.length_append, List.length_nil]); (try simp only [twoL_len]); omega) rfl).mono ?_
          rintro e wp5 ⟨b5, n5, a5, rfl, hs⟩
          replace HS := Lib.hid hs
          clear hs HM
          go_wp2_with fail
          refine hK.out _ _ (HSS.out _ _ HS.out.kept.at0) (fun hHeldp5 => ?_)
          clear hK K
          try simp only [Act.put, List.getElem_toArray, List.getElem_cons_zero, List.getElem_cons_succ, List.setIfInBounds_toArray, List.set_cons_zero, List.set_cons_succ]
          refine wpAnyH_ready (rs := [6]) (by kernel_rfl) (by simp) ?_
          refine ready_one rfl rfl (fun K hK => ?_)
          have HC0 := Lib.hid (HS.out.cells (List.mem_cons_self ..))
          refine wp_store_W9 HC0 rfl _ _ rfl rfl rfl rfl HS.out.rows.one (fun Vz HV HVC => ?_)
          replace HS := HS.out.set HN0.out (by have := HG.out; omega) [b5, n5, a5] rfl
          rw [← HV.out] at HS
          replace HS := Lib.hid HS
          refine hK.out _ _ (HSS.out _ _ HS.out.kept.at0) (fun hHeldz => ?_)
          clear hK K HC0 HV HVC
          try simp only [Act.put, List.getElem_toArray, List.getElem_cons_zero, List.getElem_cons_succ]
          refine wpAnyH_done (by kernel_rfl) ?_ _
          refine NoPanic.normal ?_
          go_wp2_with fail
          go_meet
          case rel => exact ⟨_, _, _, HS⟩
      case rest =>
        clear HS
        obtain ⟨vb, vn, va, HS⟩ := hcut
        go_upto_region 5 with fail
        go_cut [] from 10 (fun wx => ∃ b n a, Hid (St9 w G [] ((G + 1, 0, [b, n, a]) :: L2) b n a ([] ++ twoL idn ++ twoL fln ++ twoL n0 ++ twoL n1, [], []) wx))
        case first =>
          refine wp_region_noPanic ?_
          replace HS := Lib.hid HS.out.drew
          refine wp_region_held_drew (S := HeldS L2) (by kernel_rfl) (HSS.out _ _ HS.out.kept.at0) (fun hHeld => ?_)
          obtain ⟨U, hU⟩ : ∃ U, wc.drew = U := ⟨_, rfl⟩
          rw [hU] at HS hHeld ⊢
          clear hU
          refine wpAnyH_take (i := 1) (v := ?_) rfl (by kernel_rfl) (by kernel_rfl) (by kernel_rfl) (fun _ _ _ h => h) (Or.inl ⟨by rfl, ?_⟩) (by assumption) ?_
          rotate_left
          · (intro w hSw; go_simp; try (with_reducible rfl))
          try simp only [Act.put, List.getElem_toArray, List.getElem_cons_zero, List.getElem_cons_succ, List.setIfInBounds_toArray, List.set_cons_zero, List.set_cons_succ]
          refine wpAnyH_take (i := 2) (v := ?_) rfl (by kernel_rfl) (by kernel_rfl) (by kernel_rfl) (fun _ _ _ h => h) (Or.inl ⟨by rfl, ?_⟩) (by assumption) ?_
          rotate_left
          · (intro w hSw; have hc0 := C3.out w hSw; go_simp; try (with_reducible rfl))
          try simp only [Act.put, List.getElem_toArray, List.getElem_cons_zero, List.getElem_cons_succ, List.setIfInBounds_toArray, List.set_cons_zero, List.set_cons_succ]
          refine wpAnyH_take (i := 3) (v := ?_) rfl (by kernel_rfl) (by kernel_rfl) (by kernel_rfl) (fun _ _ _ h => h) (Or.inl ⟨by rfl, ?_⟩) (by assumption) ?_
          rotate_left
          · (intro w hSw; go_simp; try (with_reducible rfl))
          try simp only [Act.put, List.getElem_toArray, List.getElem_cons_zero, List.getElem_cons_succ, List.setIfInBounds_toArray, List.set_cons_zero, List.set_cons_succ]
          refine wpAnyH_ready (rs := [0, 4]) (by kernel_rfl) (by simp) ?_
          refine ready_one_two rfl rfl (fun K hK => ?_) (AllReadyH.cons rfl (fun K hK => ?_) AllReadyH.nil)
          · have HLR := Lib.hid (HS.out.cells (List.mem_cons_self ..))
            refine wp_load_W9 HLR rfl _ rfl rfl ?_
            refine hK.out _ _ (HSS.out _ _ HS.out.kept.at0) (fun hHeldl => ?_)
            clear hK K HLR
            try simp only [Act.put, List.getElem_toArray, List.getElem_cons_zero, List.getElem_cons_succ, List.setIfInBounds_toArray, List.set_cons_zero, List.set_cons_succ]
            have HTW := Lib.hid (HS.out.twoc (n := n1) (by have := HNB.out; omega))
            refine wpAnyH_ready (rs := [4]) (by kernel_rfl) (by simp) ?_
            refine AllReadyH.cons rfl (fun K hK => ?_) AllReadyH.nil
            go_simp
            refine HTW.out.mono ?_
            rintro e wt4 ⟨rfl, hm, hs⟩
            have HM := Lib.hid hm
            replace HS := Lib.hid hs
            clear hm hs HTW
            go_wp2_with fail
            refine hK.out _ _ (HSS.out _ _ HS.out.kept.at0) (fun hHeldt4 => ?_)
            clear hK K
            try simp only [Act.put, List.getElem_toArray, List.getElem_cons_zero, List.getElem_cons_succ, List.setIfInBounds_toArray, List.set_cons_zero, List.set_cons_succ]
            refine wpAnyH_ready (rs := [5]) (by kernel_rfl) (by simp) ?_
            refine AllReadyH.cons rfl (fun K hK => ?_) AllReadyH.nil
            go_simp
            refine (HS.out.putc HM.out (by (try simp only [List.length_append, List.length_nil]); (try simp only [twoL_len]); omega) rfl).mono ?_
            rintro e wp5 ⟨b5, n5, a5, rfl, hs⟩
            replace HS := Lib.hid hs
            clear hs HM
            go_wp2_with fail
            refine hK.out _ _ (HSS.out _ _ HS.out.kept.at0) (fun hHeldp5 => ?_)
            clear hK K
            try simp only [Act.put, List.getElem_toArray, List.getElem_cons_zero, List.getElem_cons_succ, List.setIfInBounds_toArray, List.set_cons_zero, List.set_cons_succ]
            refine wpAnyH_ready (rs := [6]) (by kernel_rfl) (by simp) ?_
            refine ready_one rfl rfl (fun K hK => ?_)
            have HC0 := Lib.hid (HS.out.cells (List.mem_cons_self ..))
            refine wp_store_W9 HC0 rfl _ _ rfl rfl rfl rfl HS.out.rows.one (fun Vz HV HVC => ?_)
            replace HS := HS.out.set HN0.out (by have := HG.out; omega) [b5, n5, a5] rfl
            rw [← HV.out] at HS
            replace HS := Lib.hid HS
            refine hK.out _ _ (HSS.out _ _ HS.out.kept.at0) (fun hHeldz => ?_)
            clear hK K HC0 HV HVC
            try simp only [Act.put, List.getElem_toArray, List.getElem_cons_zero, List.getElem_cons_succ]
            refine wpAnyH_done (by kernel_rfl) ?_ _
            refine NoPanic.normal ?_
            go_wp2_with fail
            go_meet
            case rel => exact ⟨_, _, _, HS⟩
          · have HTW := Lib.hid (HS.out.twoc (n := n1) (by have := HNB.out; omega))
            go_simp
            refine HTW.out.mono ?_
            rintro e wt4 ⟨rfl, hm, hs⟩
            have HM := Lib.hid hm
            replace HS := Lib.hid hs
            clear hm hs HTW
            go_wp2_with fail
            refine hK.out _ _ (HSS.out _ _ HS.out.kept.at0) (fun hHeldt4 => ?_)
            clear hK K
            try simp only [Act.put, List.getElem_toArray, List.getElem_cons_zero, List.getElem_cons_succ, List.setIfInBounds_toArray, List.set_cons_zero, List.set_cons_succ]
            refine wpAnyH_ready (rs := [0]) (by kernel_rfl) (by simp) ?_
            refine ready_one rfl rfl (fun K hK => ?_)
            have HLR := Lib.hid (HS.out.cells (List.mem_cons_self ..))
            refine wp_load_W9 HLR rfl _ rfl rfl ?_
            refine hK.out _ _ (HSS.out _ _ HS.out.kept.at0) (fun hHeldl => ?_)
            clear hK K HLR
            try simp only [Act.put, List.getElem_toArray, List.getElem_cons_zero, List.getElem_cons_succ, List.setIfInBounds_toArray, List.set_cons_zero, List.set_cons_succ]
            refine wpAnyH_ready (rs := [5]) (by kernel_rfl) (by simp) ?_
            refine AllReadyH.cons rfl (fun K hK => ?_) AllReadyH.nil
            go_simp
            refine (HS.out.putc HM.out (by (try simp only [List.length_append, List.length_nil]); (try simp only [twoL_len]); omega) rfl).mono ?_
            rintro e wp5 ⟨b5, n5, a5, rfl, hs⟩
            replace HS := Lib.hid hs
            clear hs HM
            go_wp2_with fail
            refine hK.out _ _ (HSS.out _ _ HS.out.kept.at0) (fun hHeldp5 => ?_)
            clear hK K
            try simp only [Act.put, List.getElem_toArray, List.getElem_cons_zero, List.getElem_cons_succ, List.setIfInBounds_toArray, List.set_cons_zero, List.set_cons_succ]
            refine wpAnyH_ready (rs := [6]) (by kernel_rfl) (by simp) ?_
            refine ready_one rfl rfl (fun K hK => ?_)
            have HC0 := Lib.hid (HS.out.cells (List.mem_cons_self ..))
            refine wp_store_W9 HC0 rfl _ _ rfl rfl rfl rfl HS.out.rows.one (fun Vz HV HVC => ?_)
            replace HS := HS.out.set HN0.out (by have := HG.out; omega) [b5, n5, a5] rfl
            rw [← HV.out] at HS
            replace HS := Lib.hid HS
            refine hK.out _ _ (HSS.out _ _ HS.out.kept.at0) (fun hHeldz => ?_)
            clear hK K HC0 HV HVC
            try simp only [Act.put, List.getElem_toArray, List.getElem_cons_zero, List.getElem_cons_succ]
            refine wpAnyH_done (by kernel_rfl) ?_ _
            refine NoPanic.normal ?_
            go_wp2_with fail
            go_meet
            case rel => exact ⟨_, _, _, HS⟩
        case rest =>
          clear HS
          obtain ⟨vb, vn, va, HS⟩ := hcut
          go_upto_region 6 with fail
          go_cut [] from 10 (fun wx => ∃ b n a, Hid (St9 w G [] ((G + 1, 0, [b, n, a]) :: L2) b n a ([] ++ twoL idn ++ twoL fln ++ twoL n0 ++ twoL n1 ++ twoL n2, [], []) wx))
          case first =>
            refine wp_region_noPanic ?_
            replace HS := Lib.hid HS.out.drew
            refine wp_region_held_drew (S := HeldS L2) (by kernel_rfl) (HSS.out _ _ HS.out.kept.at0) (fun hHeld => ?_)
            obtain ⟨U, hU⟩ : ∃ U, wc.drew = U := ⟨_, rfl⟩
            rw [hU] at HS hHeld ⊢
            clear hU
            refine wpAnyH_take (i := 1) (v := ?_) rfl (by kernel_rfl) (by kernel_rfl) (by kernel_rfl) (fun _ _ _ h => h) (Or.inl ⟨by rfl, ?_⟩) (by assumption) ?_
            rotate_left
            · (intro w hSw; go_simp; try (with_reducible rfl))
            try simp only [Act.put, List.getElem_toArray, List.getElem_cons_zero, List.getElem_cons_succ, List.setIfInBounds_toArray, List.set_cons_zero, List.set_cons_succ]
            refine wpAnyH_take (i := 2) (v := ?_) rfl (by kernel_rfl) (by kernel_rfl) (by kernel_rfl) (fun _ _ _ h => h) (Or.inl ⟨by rfl, ?_⟩) (by assumption) ?_
            rotate_left
            · (intro w hSw; have hc0 := C4.out w hSw; go_simp; try (with_reducible rfl))
            try simp only [Act.put, List.getElem_toArray, List.getElem_cons_zero, List.getElem_cons_succ, List.setIfInBounds_toArray, List.set_cons_zero, List.set_cons_succ]
            refine wpAnyH_take (i := 3) (v := ?_) rfl (by kernel_rfl) (by kernel_rfl) (by kernel_rfl) (fun _ _ _ h => h) (Or.inl ⟨by rfl, ?_⟩) (by assumption) ?_
            rotate_left
            · (intro w hSw; go_simp; try (with_reducible rfl))
            try simp only [Act.put, List.getElem_toArray, List.getElem_cons_zero, List.getElem_cons_succ, List.setIfInBounds_toArray, List.set_cons_zero, List.set_cons_succ]
            refine wpAnyH_ready (rs := [0, 4]) (by kernel_rfl) (by simp) ?_
            refine ready_one_two rfl rfl (fun K hK => ?_) (AllReadyH.cons rfl (fun K hK => ?_) AllReadyH.nil)
            · have HLR := Lib.hid (HS.out.cells (List.mem_cons_self ..))
              refine wp_load_W9 HLR rfl _ rfl rfl ?_
              refine hK.out _ _ (HSS.out _ _ HS.out.kept.at0) (fun hHeldl => ?_)
              clear hK K HLR
              try simp only [Act.put, List.getElem_toArray, List.getElem_cons_zero, List.getElem_cons_succ, List.setIfInBounds_toArray, List.set_cons_zero, List.set_cons_succ]
              have HTW := Lib.hid (HS.out.twoc (n := n2) (by have := HNB.out; omega))
              refine wpAnyH_ready (rs := [4]) (by kernel_rfl) (by simp) ?_
              refine AllReadyH.cons rfl (fun K hK => ?_) AllReadyH.nil
              go_simp
              refine HTW.out.mono ?_
              rintro e wt4 ⟨rfl, hm, hs⟩
              have HM := Lib.hid hm
              replace HS := Lib.hid hs
              clear hm hs HTW
              go_wp2_with fail
              refine hK.out _ _ (HSS.out _ _ HS.out.kept.at0) (fun hHeldt4 => ?_)
              clear hK K
              try simp only [Act.put, List.getElem_toArray, List.getElem_cons_zero, List.getElem_cons_succ, List.setIfInBounds_toArray, List.set_cons_zero, List.set_cons_succ]
              refine wpAnyH_ready (rs := [5]) (by kernel_rfl) (by simp) ?_
              refine AllReadyH.cons rfl (fun K hK => ?_) AllReadyH.nil
              go_simp
              refine (HS.out.putc HM.out (by (try simp only [List.length_append, List.length_nil]); (try simp only [twoL_len]); omega) rfl).mono ?_
              rintro e wp5 ⟨b5, n5, a5, rfl, hs⟩
              replace HS := Lib.hid hs
              clear hs HM
              go_wp2_with fail
              refine hK.out _ _ (HSS.out _ _ HS.out.kept.at0) (fun hHeldp5 => ?_)
              clear hK K
              try simp only [Act.put, List.getElem_toArray, List.getElem_cons_zero, List.getElem_cons_succ, List.setIfInBounds_toArray, List.set_cons_zero, List.set_cons_succ]
              refine wpAnyH_ready (rs := [6]) (by kernel_rfl) (by simp) ?_
              refine ready_one rfl rfl (fun K hK => ?_)
              have HC0 := Lib.hid (HS.out.cells (List.mem_cons_self ..))
              refine wp_store_W9 HC0 rfl _ _ rfl rfl rfl rfl HS.out.rows.one (fun Vz HV HVC => ?_)
              replace HS := HS.out.set HN0.out (by have := HG.out; omega) [b5, n5, a5] rfl
              rw [← HV.out] at HS
              replace HS := Lib.hid HS
              refine hK.out _ _ (HSS.out _ _ HS.out.kept.at0) (fun hHeldz => ?_)
              clear hK K HC0 HV HVC
              try simp only [Act.put, List.getElem_toArray, List.getElem_cons_zero, List.getElem_cons_succ]
              refine wpAnyH_done (by kernel_rfl) ?_ _
              refine NoPanic.normal ?_
              go_wp2_with fail
              go_meet
              case rel => exact ⟨_, _, _, HS⟩
            · have HTW := Lib.hid (HS.out.twoc (n := n2) (by have := HNB.out; omega))
              go_simp
              refine HTW.out.mono ?_
              rintro e wt4 ⟨rfl, hm, hs⟩
              have HM := Lib.hid hm
              replace HS := Lib.hid hs
              clear hm hs HTW
              go_wp2_with fail
              refine hK.out _ _ (HSS.out _ _ HS.out.kept.at0) (fun hHeldt4 => ?_)
              clear hK K
              try simp only [Act.put, List.getElem_toArray, List.getElem_cons_zero, List.getElem_cons_succ, List.setIfInBounds_toArray, List.set_cons_zero, List.set_cons_succ]
              refine wpAnyH_ready (rs := [0]) (by kernel_rfl) (by simp) ?_
              refine ready_one rfl rfl (fun K hK => ?_)
              have HLR := Lib.hid (HS.out.cells (List.mem_cons_self ..))
              refine wp_load_W9 HLR rfl _ rfl rfl ?_
              refine hK.out _ _ (HSS.out _ _ HS.out.kept.at0) (fun hHeldl => ?_)
              clear hK K HLR
              try simp only [Act.put, List.getElem_toArray, List.getElem_cons_zero, List.getElem_cons_succ, List.setIfInBounds_toArray, List.set_cons_zero, List.set_cons_succ]
              refine wpAnyH_ready (rs := [5]) (by kernel_rfl) (by simp) ?_
              refine AllReadyH.cons rfl (fun K hK => ?_) AllReadyH.nil
              go_simp
              refine (HS.out.putc HM.out (by (try simp only [List.length_append, List.length_nil]); (try simp only [twoL_len]); omega) rfl).mono ?_
              rintro e wp5 ⟨b5, n5, a5, rfl, hs⟩
              replace HS := Lib.hid hs
              clear hs HM
              go_wp2_with fail
              refine hK.out _ _ (HSS.out _ _ HS.out.kept.at0) (fun hHeldp5 => ?_)
              clear hK K
              try simp only [Act.put, List.getElem_toArray, List.getElem_cons_zero, List.getElem_cons_succ, List.setIfInBounds_toArray, List.set_cons_zero, List.set_cons_succ]
              refine wpAnyH_ready (rs := [6]) (by kernel_rfl) (by simp) ?_
              refine ready_one rfl rfl (fun K hK => ?_)
              have HC0 := Lib.hid (HS.out.cells (List.mem_cons_self ..))
              refine wp_store_W9 HC0 rfl _ _ rfl rfl rfl rfl HS.out.rows.one (fun Vz HV HVC => ?_)
              replace HS := HS.out.set HN0.out (by have := HG.out; omega) [b5, n5, a5] rfl
              rw [← HV.out] at HS
              replace HS := Lib.hid HS
              refine hK.out _ _ (HSS.out _ _ HS.out.kept.at0) (fun hHeldz => ?_)
              clear hK K HC0 HV HVC
              try simp only [Act.put, List.getElem_toArray, List.getElem_cons_zero, List.getElem_cons_succ]
              refine wpAnyH_done (by kernel_rfl) ?_ _
              refine NoPanic.normal ?_
              go_wp2_with fail
              go_meet
              case rel => exact ⟨_, _, _, HS⟩
          case rest =>
            clear HS
            obtain ⟨vb, vn, va, HS⟩ := hcut
            go_upto_region 7 with fail
            go_cut [] from 10 (fun wx => ∃ b n a, Hid (St9 w G [] ((G + 1, 0, [b, n, a]) :: L2) b n a ([] ++ twoL idn ++ twoL fln ++ twoL n0 ++ twoL n1 ++ twoL n2 ++ twoL n3, [], []) wx))
            case first =>
              refine wp_region_noPanic ?_
              replace HS := Lib.hid HS.out.drew
              refine wp_region_held_drew (S := HeldS L2) (by kernel_rfl) (HSS.out _ _ HS.out.kept.at0) (fun hHeld => ?_)
              obtain ⟨U, hU⟩ : ∃ U, wc.drew = U := ⟨_, rfl⟩
              rw [hU] at HS hHeld ⊢
              clear hU
              refine wpAnyH_take (i := 1) (v := ?_) rfl (by kernel_rfl) (by kernel_rfl) (by kernel_rfl) (fun _ _ _ h => h) (Or.inl ⟨by rfl, ?_⟩) (by assumption) ?_
              rotate_left
              · (intro w hSw; go_simp; try (with_reducible rfl))
              try simp only [Act.put, List.getElem_toArray, List.getElem_cons_zero, List.getElem_cons_succ, List.setIfInBounds_toArray, List.set_cons_zero, List.set_cons_succ]
              refine wpAnyH_take (i := 2) (v := ?_) rfl (by kernel_rfl) (by kernel_rfl) (by kernel_rfl) (fun _ _ _ h => h) (Or.inl ⟨by rfl, ?_⟩) (by assumption) ?_
              rotate_left
              · (intro w hSw; have hc0 := C5.out w hSw; go_simp; try (with_reducible rfl))
              try simp only [Act.put, List.getElem_toArray, List.getElem_cons_zero, List.getElem_cons_succ, List.setIfInBounds_toArray, List.set_cons_zero, List.set_cons_succ]
              refine wpAnyH_take (i := 3) (v := ?_) rfl (by kernel_rfl) (by kernel_rfl) (by kernel_rfl) (fun _ _ _ h => h) (Or.inl ⟨by rfl, ?_⟩) (by assumption) ?_
              rotate_left
              · (intro w hSw; go_simp; try (with_reducible rfl))
              try simp only [Act.put, List.getElem_toArray, List.getElem_cons_zero, List.getElem_cons_succ, List.setIfInBounds_toArray, List.set_cons_zero, List.set_cons_succ]
              refine wpAnyH_ready (rs := [0, 4]) (by kernel_rfl) (by simp) ?_
              refine ready_one_two rfl rfl (fun K hK => ?_) (AllReadyH.cons rfl (fun K hK => ?_) AllReadyH.nil)
              · have HLR := Lib.hid (HS.out.cells (List.mem_cons_self ..))
                refine wp_load_W9 HLR rfl _ rfl rfl ?_
                refine hK.out _ _ (HSS.out _ _ HS.out.kept.at0) (fun hHeldl => ?_)
                clear hK K HLR
                try simp only [Act.put, List.getElem_toArray, List.getElem_cons_zero, List.getElem_cons_succ, List.setIfInBounds_toArray, List.set_cons_zero, List.set_cons_succ]
                have HTW := Lib.hid (HS.out.twoc (n := n3) (by have := HNB.out; omega))
                refine wpAnyH_ready (rs := [4]) (by kernel_rfl) (by simp) ?_
                refine AllReadyH.cons rfl (fun K hK => ?_) AllReadyH.nil
                go_simp
                refine HTW.out.mono ?_
                rintro e wt4 ⟨rfl, hm, hs⟩
                have HM := Lib.hid hm
                replace HS := Lib.hid hs
                clear hm hs HTW
                go_wp2_with fail
                refine hK.out _ _ (HSS.out _ _ HS.out.kept.at0) (fun hHeldt4 => ?_)
                clear hK K
                try simp only [Act.put, List.getElem_toArray, List.getElem_cons_zero, List.getElem_cons_succ, List.setIfInBounds_toArray, List.set_cons_zero, List.set_cons_succ]
                refine wpAnyH_ready (rs := [5]) (by kernel_rfl) (by simp) ?_
                refine AllReadyH.cons rfl (fun K hK => ?_) AllReadyH.nil
                go_simp
                refine (HS.out.putc HM.out (by (try simp only [List.length_append, List.length_nil]); (try simp only [twoL_len]); omega) rfl).mono ?_
                rintro e wp5 ⟨b5, n5, a5, rfl, hs⟩
                replace HS := Lib.hid hs
                clear hs HM
                go_wp2_with fail
                refine hK.out _ _ (HSS.out _ _ HS.out.kept.at0) (fun hHeldp5 => ?_)
                clear hK K
                try simp only [Act.put, List.getElem_toArray, List.getElem_cons_zero, List.getElem_cons_succ, List.setIfInBounds_toArray, List.set_cons_zero, List.set_cons_succ]
                refine wpAnyH_ready (rs := [6]) (by kernel_rfl) (by simp) ?_
                refine ready_one rfl rfl (fun K hK => ?_)
                have HC0 := Lib.hid (HS.out.cells (List.mem_cons_self ..))
                refine wp_store_W9 HC0 rfl _ _ rfl rfl rfl rfl HS.out.rows.one (fun Vz HV HVC => ?_)
                replace HS := HS.out.set HN0.out (by have := HG.out; omega) [b5, n5, a5] rfl
                rw [← HV.out] at HS
                replace HS := Lib.hid HS
                refine hK.out _ _ (HSS.out _ _ HS.out.kept.at0) (fun hHeldz => ?_)
                clear hK K HC0 HV HVC
                try simp only [Act.put, List.getElem_toArray, List.getElem_cons_zero, List.getElem_cons_succ]
                refine wpAnyH_done (by kernel_rfl) ?_ _
                refine NoPanic.normal ?_
                go_wp2_with fail
                go_meet
                case rel => exact ⟨_, _, _, HS⟩
              · have HTW := Lib.hid (HS.out.twoc (n := n3) (by have := HNB.out; omega))
                go_simp
                refine HTW.out.mono ?_
                rintro e wt4 ⟨rfl, hm, hs⟩
                have HM := Lib.hid hm
                replace HS := Lib.hid hs
                clear hm hs HTW
                go_wp2_with fail
                refine hK.out _ _ (HSS.out _ _ HS.out.kept.at0) (fun hHeldt4 => ?_)
                clear hK K
                try simp only [Act.put, List.getElem_toArray, List.getElem_cons_zero, List.getElem_cons_succ, List.setIfInBounds_toArray, List.set_cons_zero, List.set_cons_succ]
                refine wpAnyH_ready (rs := [0]) (by kernel_rfl) (by simp) ?_
                refine ready_one rfl rfl (fun K hK => ?_)
                have HLR := Lib.hid (HS.out.cells (List.mem_cons_self ..))
                refine wp_load_W9 HLR rfl _ rfl rfl ?_
                refine hK.out _ _ (HSS.out _ _ HS.out.kept.at0) (fun hHeldl => ?_)
                clear hK K HLR
                try simp only [Act.put, List.getElem_toArray, List.getElem_cons_zero, List.getElem_cons_succ, List.setIfInBounds_toArray, List.set_cons_zero, List.set_cons_succ]
                refine wpAnyH_ready (rs := [5]) (by kernel_rfl) (by simp) ?_
                refine AllReadyH.cons rfl (fun K hK => ?_) AllReadyH.nil
                go_simp
                refine (HS.out.putc HM.out (by (try simp only [List.length_append, List.length_nil]); (try simp only [twoL_len]); omega) rfl).mono ?_
                rintro e wp5 ⟨b5, n5, a5, rfl, hs⟩
                replace HS := Lib.hid hs
                clear hs HM
                go_wp2_with fail
                refine hK.out _ _ (HSS.out _ _ HS.out.kept.at0) (fun hHeldp5 => ?_)
                clear hK K
                try simp only [Act.put, List.getElem_toArray, List.getElem_cons_zero, List.getElem_cons_succ, List.setIfInBounds_toArray, List.set_cons_zero, List.set_cons_succ]
                refine wpAnyH_ready (rs := [6]) (by kernel_rfl) (by simp) ?_
                refine ready_one rfl rfl (fun K hK => ?_)
                have HC0 := Lib.hid (HS.out.cells (List.mem_cons_self ..))
                refine wp_store_W9 HC0 rfl _ _ rfl rfl rfl rfl HS.out.rows.one (fun Vz HV HVC => ?_)
                replace HS := HS.out.set HN0.out (by have := HG.out; omega) [b5, n5, a5] rfl
                rw [← HV.out] at HS
                replace HS := Lib.hid HS
                refine hK.out _ _ (HSS.out _ _ HS.out.kept.at0) (fun hHeldz => ?_)
                clear hK K HC0 HV HVC
                try simp only [Act.put, List.getElem_toArray, List.getElem_cons_zero, List.getElem_cons_succ]
                refine wpAnyH_done (by kernel_rfl) ?_ _
                refine NoPanic.normal ?_
                go_wp2_with fail
                go_meet
                case rel => exact ⟨_, _, _, HS⟩
            case rest =>
              clear HS
              obtain ⟨vb, vn, va, HS⟩ := hcut
              have HHD : Hid ([] ++ twoL idn ++ twoL fln ++ twoL n0 ++ twoL n1 ++ twoL n2 ++ twoL n3 = hdB m) := Lib.hid (by
                unfold hdB
                rw [HIF.out.1, HIF.out.2, HNS.out.1, HNS.out.2.1, HNS.out.2.2.1, HNS.out.2.2.2]
                rfl)
              rw [HHD.out] at HS
              have hb3 : n0 ≤ 65535 := HNB.out.2.2.1
              clear HHD C0 C1
              have HOK0 : Hid (Wok 12 (hdB m, [], [])) := Lib.hid ⟨Nat.le_refl _, Nat.zero_le _, rfl, by simp, by simp⟩
              obtain ⟨t0, ht0⟩ : ∃ t0 : Wst, (hdB m, [], []) = t0 := ⟨_, rfl⟩
              have HT0 := Lib.hid ht0
              have HS9 : Hid (St9 w G [] ((G + 1, 0, [vb, vn, va]) :: L2) vb vn va t0 wc) := Lib.hid (by rw [← ht0]; exact HS.out)
              rw [ht0] at HOK0
              clear ht0 HS
              go_wp2_with fail
              go_loopw [4] (fun s4 wr => ∃ (k : Nat) (b n a : Value), k ≤ n0 ∧ s4 = .int .i64 (k : Int) ∧ Hid (St9 w G [] ((G + 1, 0, [b, n, a]) :: L2) b n a ((m.qs.take k).foldl qW t0) wr)) (fun i _ => n0 - (intOf i).toNat)
              case atStart => exact ⟨0, _, _, _, Nat.zero_le _, rfl, HS9⟩
              case round =>
                clear HS9
                obtain ⟨k, b, n, a, hk, rfl, HS⟩ := hrel
                have x2 := C2.out _ (HSS.out _ _ HS.out.kept.at0)
                by_cases hkN : k < n0
                · have hd : decide ((k : Int) < (n0 : Int)) = true := decide_eq_true (by omega)
                  have hdn : decide (k < n0) = true := decide_eq_true hkN
                  have hkD : k < m.qs.length := by rw [HNS.out.1]; exact hkN
                  obtain ⟨g, o, ha, hg, hrg⟩ := HMI.out.qs.range k hkD
                  subst ha
                  have HMQ := Lib.hid (HPA.out.1 _ (List.getElem_mem hkD))
                  have HQT : Hid ((m.qs.take (k + 1)).foldl qW t0 = qW ((m.qs.take k).foldl qW t0) m.qs[k]) := Lib.hid (by
                    rw [List.take_add_one, List.getElem?_eq_getElem hkD, Option.toList_some, List.foldl_append]
                    rfl)
                  have HOK : Hid (Wok 883600 ((m.qs.take k).foldl qW t0)) := Lib.hid ((Wok.qs (m.qs.take k) t0 HOK0.out (fun q hq => HPA.out.1 q (List.mem_of_mem_take hq))).wider (by
                    have := HKM.out
                    rw [List.length_take]
                    have h1 : (min k m.qs.length + 1) * 16304 ≤ m.qs.length * 16304 := Nat.mul_le_mul_right _ (by omega)
                    omega))
                  obtain ⟨T, hT⟩ : ∃ T, (m.qs.take k).foldl qW t0 = T := ⟨_, rfl⟩
                  rw [hT] at HS HOK HQT
                  clear hT
                  have HGE : Hid (g < w.heap.size ∧ w.rangeAt g (o + k * 3) (quL m.qs[k])) := Lib.hid ⟨hg, hrg⟩
                  have HQ9 := Lib.hid (mayQ9_name HMQ.out)
                  obtain ⟨qq, hqq⟩ : ∃ qq, m.qs[k] = qq := ⟨_, rfl⟩
                  rw [hqq] at HQT HMQ HGE HQ9
                  clear hqq hrg hg
                  obtain ⟨nm, ty, cl⟩ := qq
                  obtain ⟨ty, rfl⟩ : ∃ n : Nat, ty = (n : Int) := ⟨ty.toNat, by have := HQ9.out.2.1; simp only [wordN, decide_eq_true_eq] at this; omega⟩
                  obtain ⟨cl, rfl⟩ : ∃ n : Nat, cl = (n : Int) := ⟨cl.toNat, by have := HQ9.out.2.2; simp only [wordN, decide_eq_true_eq] at this; omega⟩
                  have HNUM : Hid (ty ≤ 65535 ∧ cl ≤ 65535) := Lib.hid (by have h1 := HQ9.out.2.1; have h2 := HQ9.out.2.2; simp only [wordN, decide_eq_true_eq] at h1 h2; omega)
                  have HNM : Hid (mayN nm = true) := Lib.hid HQ9.out.1
                  clear HQ9 HMQ
                  have HEL : Hid (∀ V, Foot [] (blk3 b n a) w V → True) := Lib.hid (fun _ _ => trivial)
                  have HER : Hid (∀ V b' n' a' t' L', St9 w G [] L' b' n' a' t' V → V.rangeAt g (o + k * 3) (quL ⟨nm, (ty : Int), (cl : Int)⟩)) := Lib.hid (fun V b' n' a' t' L' hv => range_foot hv.foot HGE.out.2 HGE.out.1 (by simp))
                  have hb1 : (0 : Int) ≤ (k : Int) := by omega
                  have hb2 : (k : Int) < (n0 : Int) := by omega
                  clear HEL
                  go_upto_region 11 with fail
                  go_cut [5, 6] from 44 to 78 (fun s5 s6 wx => ∃ P b1 n1 a1, s5 = .pointer (some ⟨P, 0, none⟩) ∧ s6 = .bool true ∧ Hid (G + 1 < P) ∧ Hid (St9 w G [] ((P, 0, [b1, n1, a1]) :: (G + 1, 0, [b, n, a]) :: L2) b1 n1 a1 (T.1 ++ (nmT nm T.1.length T.2.1 T.2.2).1, (nmT nm T.1.length T.2.1 T.2.2).2) wx))
                  case first =>
                    refine wp_region_noPanic ?_
                    replace HS := Lib.hid HS.out.drew
                    obtain ⟨S, hS⟩ : ∃ S : World → Prop, (fun V : World => HeldS ((G + 1, 0, [b, n, a]) :: L2) V ∧ V.rangeAt g (o + k * 3) (quL ⟨nm, (ty : Int), (cl : Int)⟩)) = S := ⟨_, rfl⟩
                    have HSB : Hid (∀ V, S V → V.rangeAt (G + 1) 0 [b, n, a]) := Lib.hid (fun V h => by rw [← hS] at h; exact h.1 _ (List.mem_cons_self ..))
                    have HS2 : Hid (∀ V, S V → V.cell? ⟨G, 2, none⟩ = some (.slice (some ⟨g, o, none⟩) n0 cq)) := Lib.hid (fun V h => by rw [← hS] at h; exact C2.out V (HSS.out _ _ h.1))
                    have HE0 : Hid (∀ V, S V → V.cell? ⟨g, o + k * 3, none⟩ = some (.string nm)) := Lib.hid (fun V h => by rw [← hS] at h; exact h.2 0 _ rfl)
                    have HSX : Hid (∀ L' V b' n' a' t', (∀ x ∈ (G + 1, 0, [b, n, a]) :: L2, x ∈ L') → St9 w G [] L' b' n' a' t' V → S V) := Lib.hid (fun L' V b' n' a' t' hs hv => by rw [← hS]; exact ⟨fun x hx => hv.kept.at0 x (hs x hx), HER.out V _ _ _ _ _ hv⟩)
                    clear hS HER
                    refine wp_region_held_drew (S := S) (by kernel_rfl) (HSX.out _ _ _ _ _ _ (fun x hx => hx) HS.out) (fun hHeld => ?_)
                    obtain ⟨U, hU⟩ : ∃ U, wr.drew = U := ⟨_, rfl⟩
                    rw [hU] at HS hHeld ⊢
                    clear hU x2
                    refine wpAnyH_take (i := 0) rfl (by kernel_rfl) (by kernel_rfl) (by kernel_rfl) (fun _ _ _ h => h) (yields_W9S HSB rfl (by rfl) _ rfl rfl) (by assumption) ?_
                    try simp only [Act.put, List.getElem_toArray, List.getElem_cons_zero, List.setIfInBounds_toArray, List.set_cons_zero, List.set_cons_succ]
                    refine wpAnyH_take (i := 1) (v := ?_) rfl (by kernel_rfl) (by kernel_rfl) (by kernel_rfl) (fun _ _ _ h => h) (Or.inl ⟨by rfl, ?_⟩) (by assumption) ?_
                    rotate_left
                    · (intro w hSw; go_simp; try (with_reducible rfl))
                    try simp only [Act.put, List.getElem_toArray, List.getElem_cons_zero, List.getElem_cons_succ, List.setIfInBounds_toArray, List.set_cons_zero, List.set_cons_succ]
                    refine wpAnyH_take (i := 2) (v := ?_) rfl (by kernel_rfl) (by kernel_rfl) (by kernel_rfl) (fun _ _ _ h => h) (Or.inl ⟨by rfl, ?_⟩) (by assumption) ?_
                    rotate_left
                    · (intro w hSw; have hc0 := HS2.out w hSw; go_simp; try (with_reducible rfl))
                    try simp only [Act.put, List.getElem_toArray, List.getElem_cons_zero, List.getElem_cons_succ, List.setIfInBounds_toArray, List.set_cons_zero, List.set_cons_succ]
                    refine wpAnyH_take (i := 3) (v := ?_) rfl (by kernel_rfl) (by kernel_rfl) (by kernel_rfl) (fun _ _ _ h => h) (Or.inl ⟨by rfl, ?_⟩) (by assumption) ?_
                    rotate_left
                    · (intro w hSw; go_simp; try (with_reducible rfl))
                    try simp only [Act.put, List.getElem_toArray, List.getElem_cons_zero, List.getElem_cons_succ, List.setIfInBounds_toArray, List.set_cons_zero, List.set_cons_succ]
                    refine wpAnyH_take (i := 4) (v := ?_) rfl (by kernel_rfl) (by kernel_rfl) (by kernel_rfl) (fun _ _ _ h => h) (Or.inl ⟨by rfl, ?_⟩) (by assumption) ?_
                    rotate_left
                    · (intro w hSw; go_simp; try (with_reducible rfl))
                    try simp only [Act.put, List.getElem_toArray, List.getElem_cons_zero, List.getElem_cons_succ, List.setIfInBounds_toArray, List.set_cons_zero, List.set_cons_succ]
                    refine wpAnyH_take (i := 5) (v := ?_) rfl (by kernel_rfl) (by kernel_rfl) (by kernel_rfl) (fun _ _ _ h => h) (Or.inl ⟨by rfl, ?_⟩) (by assumption) ?_
                    rotate_left
                    · (intro w hSw; go_simp; try (with_reducible rfl))
                    try simp only [Act.put, List.getElem_toArray, List.getElem_cons_zero, List.getElem_cons_succ, List.setIfInBounds_toArray, List.set_cons_zero, List.set_cons_succ]
                    refine wpAnyH_take (i := 6) (v := ?_) rfl (by kernel_rfl) (by kernel_rfl) (by kernel_rfl) (fun _ _ _ h => h) (Or.inl ⟨by rfl, ?_⟩) (by assumption) ?_
                    rotate_left
                    · (intro w hSw; have hc0 := HE0.out w hSw; go_simp; try (with_reducible rfl))
                    try simp only [Act.put, List.getElem_toArray, List.getElem_cons_zero, List.getElem_cons_succ, List.setIfInBounds_toArray, List.set_cons_zero, List.set_cons_succ]
                    refine wpAnyH_ready (rs := [7, 11]) (by kernel_rfl) (by simp) ?_
                    refine AllReadyH.cons rfl (fun K hK => ?_) (ready_one rfl rfl (fun K hK => ?_))
                    · go_simp
                      refine (HS.out.namec HNM.out HOK.out (by decide)).mono ?_
                      rintro e wnx ⟨b1, n1, a1, rfl, hs⟩
                      replace HS := Lib.hid hs
                      clear hs
                      go_wp2_with fail
                      refine hK.out _ _ (HSX.out _ _ _ _ _ _ (fun x hx => hx) HS.out) (fun hHeldnx => ?_)
                      clear hK K
                      try simp only [Act.put, List.getElem_toArray, List.getElem_cons_zero, List.getElem_cons_succ, List.setIfInBounds_toArray, List.set_cons_zero, List.set_cons_succ]
                      refine wpAnyH_take (i := 8) (v := ?_) rfl (by kernel_rfl) (by kernel_rfl) (by kernel_rfl) (fun _ _ _ h => h) (Or.inl ⟨by rfl, ?_⟩) (by assumption) ?_
                      rotate_left
                      · (intro w hSw; go_simp; try (with_reducible rfl))
                      try simp only [Act.put, List.getElem_toArray, List.getElem_cons_zero, List.getElem_cons_succ, List.setIfInBounds_toArray, List.set_cons_zero, List.set_cons_succ]
                      refine wpAnyH_take (i := 9) (v := ?_) rfl (by kernel_rfl) (by kernel_rfl) (by kernel_rfl) (fun _ _ _ h => h) (Or.inl ⟨by rfl, ?_⟩) (by assumption) ?_
                      rotate_left
                      · (intro w hSw; go_simp; try (with_reducible rfl))
                      try simp only [Act.put, List.getElem_toArray, List.getElem_cons_zero, List.getElem_cons_succ, List.setIfInBounds_toArray, List.set_cons_zero, List.set_cons_succ]
                      refine wpAnyH_take (i := 10) (v := ?_) rfl (by kernel_rfl) (by kernel_rfl) (by kernel_rfl) (fun _ _ _ h => h) (Or.inl ⟨by rfl, ?_⟩) (by assumption) ?_
                      rotate_left
                      · (intro w hSw; go_simp; try (with_reducible rfl))
                      try simp only [Act.put, List.getElem_toArray, List.getElem_cons_zero, List.getElem_cons_succ, List.setIfInBounds_toArray, List.set_cons_zero, List.set_cons_succ]
                      refine wpAnyH_ready (rs := [11]) (by kernel_rfl) (by simp) ?_
                      refine ready_one rfl rfl (fun K hK => ?_)
                      obtain ⟨P, Wa, hP, hWa, hn1, hn2, hal, hbl⟩ := HS.out.alloc_ex
                      have HNP : Hid ((∀ x ∈ (G + 1, 0, [b, n, a]) :: L2, x.1 ≠ P) ∧ w.heap.size ≤ P) := Lib.hid ⟨hn1, hn2⟩
                      have HPG : Hid (G + 1 < P) := Lib.hid (by have := HS.out.kept.lt _ (List.mem_cons_self ..); omega)
                      replace HS := Lib.hid hal
                      clear hn1 hn2 hal hbl
                      go_wp2_with fail
                      try rw [hWa]
                      try rw [hP]
                      refine hK.out _ _ (HSX.out _ _ _ _ _ _ (fun x hx => List.mem_cons_of_mem _ hx) HS.out) (fun hHeldax => ?_)
                      clear hK K hWa hP
                      try simp only [Act.put, List.getElem_toArray, List.getElem_cons_zero, List.getElem_cons_succ, List.setIfInBounds_toArray, List.set_cons_zero, List.set_cons_succ]
                      refine wpAnyH_ready (rs := [12]) (by kernel_rfl) (by simp) ?_
                      refine ready_one rfl rfl (fun K hK => ?_)
                      have HC0 := Lib.hid (HS.out.cells (List.mem_cons_self ..))
                      refine wp_store_W9 HC0 rfl _ _ rfl rfl rfl rfl HS.out.rows.one (fun Vx HV HVC => ?_)
                      replace HS := HS.out.set HNP.out.1 HNP.out.2 [b1, n1, a1] rfl
                      rw [← HV.out] at HS
                      replace HS := Lib.hid HS
                      refine hK.out _ _ (HSX.out _ _ _ _ _ _ (fun x hx => List.mem_cons_of_mem _ hx) HS.out) (fun hHeldsx => ?_)
                      clear hK K HC0 HV HVC
                      try simp only [Act.put, List.getElem_toArray, List.getElem_cons_zero, List.getElem_cons_succ, List.setIfInBounds_toArray, List.set_cons_zero, List.set_cons_succ]
                      refine wpAnyH_take (i := 13) (v := ?_) rfl (by kernel_rfl) (by kernel_rfl) (by kernel_rfl) (fun _ _ _ h => h) (Or.inl ⟨by rfl, ?_⟩) (by assumption) ?_
                      rotate_left
                      · (intro w hSw; go_simp; try (with_reducible rfl))
                      try simp only [Act.put, List.getElem_toArray, List.getElem_cons_zero, List.getElem_cons_succ, List.setIfInBounds_toArray, List.set_cons_zero, List.set_cons_succ]
                      refine wpAnyH_done (by kernel_rfl) ?_ _
                      refine NoPanic.normal ?_
                      go_wp2_with fail
                      go_meet
                      case rel => exact ⟨P, _, _, _, rfl, rfl, HPG, HS⟩
                    · obtain ⟨P, Wa, hP, hWa, hn1, hn2, hal, hbl⟩ := HS.out.alloc_ex
                      have HNP : Hid ((∀ x ∈ (G + 1, 0, [b, n, a]) :: L2, x.1 ≠ P) ∧ w.heap.size ≤ P) := Lib.hid ⟨hn1, hn2⟩
                      have HPG : Hid (G + 1 < P) := Lib.hid (by have := HS.out.kept.lt _ (List.mem_cons_self ..); omega)
                      replace HS := Lib.hid hal
                      clear hn1 hn2 hal hbl
                      go_wp2_with fail
                      try rw [hWa]
                      try rw [hP]
                      refine hK.out _ _ (HSX.out _ _ _ _ _ _ (fun x hx => List.mem_cons_of_mem _ hx) HS.out) (fun hHelday => ?_)
                      clear hK K hWa hP
                      try simp only [Act.put, List.getElem_toArray, List.getElem_cons_zero, List.getElem_cons_succ, List.setIfInBounds_toArray, List.set_cons_zero, List.set_cons_succ]
                      refine wpAnyH_ready (rs := [7]) (by kernel_rfl) (by simp) ?_
                      refine AllReadyH.cons rfl (fun K hK => ?_) AllReadyH.nil
                      go_simp
                      refine (HS.out.namec HNM.out HOK.out (by decide)).mono ?_
                      rintro e wny ⟨b1, n1, a1, rfl, hs⟩
                      replace HS := Lib.hid hs
                      clear hs
                      go_wp2_with fail
                      refine hK.out _ _ (HSX.out _ _ _ _ _ _ (fun x hx => List.mem_cons_of_mem _ hx) HS.out) (fun hHeldny => ?_)
                      clear hK K
                      try simp only [Act.put, List.getElem_toArray, List.getElem_cons_zero, List.getElem_cons_succ, List.setIfInBounds_toArray, List.set_cons_zero, List.set_cons_succ]
                      refine wpAnyH_take (i := 8) (v := ?_) rfl (by kernel_rfl) (by kernel_rfl) (by kernel_rfl) (fun _ _ _ h => h) (Or.inl ⟨by rfl, ?_⟩) (by assumption) ?_
                      rotate_left
                      · (intro w hSw; go_simp; try (with_reducible rfl))
                      try simp only [Act.put, List.getElem_toArray, List.getElem_cons_zero, List.getElem_cons_succ, List.setIfInBounds_toArray, List.set_cons_zero, List.set_cons_succ]
                      refine wpAnyH_take (i := 9) (v := ?_) rfl (by kernel_rfl) (by kernel_rfl) (by kernel_rfl) (fun _ _ _ h => h) (Or.inl ⟨by rfl, ?_⟩) (by assumption) ?_
                      rotate_left
                      · (intro w hSw; go_simp; try (with_reducible rfl))
                      try simp only [Act.put, List.getElem_toArray, List.getElem_cons_zero, List.getElem_cons_succ, List.setIfInBounds_toArray, List.set_cons_zero, List.set_cons_succ]
                      refine wpAnyH_take (i := 10) (v := ?_) rfl (by kernel_rfl) (by kernel_rfl) (by kernel_rfl) (fun _ _ _ h => h) (Or.inl ⟨by rfl, ?_⟩) (by assumption) ?_
                      rotate_left
                      · (intro w hSw; go_simp; try (with_reducible rfl))
                      try simp only [Act.put, List.getElem_toArray, List.getElem_cons_zero, List.getElem_cons_succ, List.setIfInBounds_toArray, List.set_cons_zero, List.set_cons_succ]
                      refine wpAnyH_ready (rs := [12]) (by kernel_rfl) (by simp) ?_
                      refine ready_one rfl rfl (fun K hK => ?_)
                      have HC0 := Lib.hid (HS.out.cells (List.mem_cons_self ..))
                      refine wp_store_W9 HC0 rfl _ _ rfl rfl rfl rfl HS.out.rows.one (fun Vy HV HVC => ?_)
                      replace HS := HS.out.set HNP.out.1 HNP.out.2 [b1, n1, a1] rfl
                      rw [← HV.out] at HS
                      replace HS := Lib.hid HS
                      refine hK.out _ _ (HSX.out _ _ _ _ _ _ (fun x hx => List.mem_cons_of_mem _ hx) HS.out) (fun hHeldsy => ?_)
                      clear hK K HC0 HV HVC
                      try simp only [Act.put, List.getElem_toArray, List.getElem_cons_zero, List.getElem_cons_succ, List.setIfInBounds_toArray, List.set_cons_zero, List.set_cons_succ]
                      refine wpAnyH_take (i := 13) (v := ?_) rfl (by kernel_rfl) (by kernel_rfl) (by kernel_rfl) (fun _ _ _ h => h) (Or.inl ⟨by rfl, ?_⟩) (by assumption) ?_
                      rotate_left
                      · (intro w hSw; go_simp; try (with_reducible rfl))
                      try simp only [Act.put, List.getElem_toArray, List.getElem_cons_zero, List.getElem_cons_succ, List.setIfInBounds_toArray, List.set_cons_zero, List.set_cons_succ]
                      refine wpAnyH_done (by kernel_rfl) ?_ _
                      refine NoPanic.normal ?_
                      go_wp2_with fail
                      go_meet
                      case rel => exact ⟨P, _, _, _, rfl, rfl, HPG, HS⟩
                  case rest =>
                    clear HS
                    obtain ⟨P, b1, n1, a1, rfl, rfl, HPG, HS⟩ := hcut
                    have HOK1 := Lib.hid (HOK.out.nm HNM.out)
                    have HTQ : Hid (qW T ⟨nm, (ty : Int), (cl : Int)⟩ = (T.1 ++ (nmT nm T.1.length T.2.1 T.2.2).1 ++ twoL ty ++ twoL cl, (nmT nm T.1.length T.2.1 T.2.2).2)) := Lib.hid (by
                      unfold qW
                      simp only [Int.toNat_natCast, List.append_assoc])
                    obtain ⟨T1, hT1⟩ : ∃ T1 : Wst, (T.1 ++ (nmT nm T.1.length T.2.1 T.2.2).1, (nmT nm T.1.length T.2.1 T.2.2).2) = T1 := ⟨_, rfl⟩
                    rw [hT1] at HS HOK1
                    have HTR : Hid (qW T ⟨nm, (ty : Int), (cl : Int)⟩ = (T1.1 ++ twoL ty ++ twoL cl, T1.2)) := Lib.hid (by rw [HTQ.out, ← hT1])
                    have HKL : Hid (T1.1.length ≤ 917000) := Lib.hid (by have := HOK1.out.len; omega)
                    clear hT1 HTQ
                    go_upto_region 12 with fail
                    refine wp_region_noPanic ?_
                    replace HS : Hid (St9 w G [] ((G + 1, 0, [b, n, a]) :: (P, 0, [b1, n1, a1]) :: L2) b1 n1 a1 T1 wc.drew) := Lib.hid (HS.out.drew.sub (fun x hx => by simp only [List.mem_cons] at hx ⊢; rcases hx with h | h | h <;> simp [h]))
                    obtain ⟨S, hS⟩ : ∃ S : World → Prop, (fun V : World => HeldS ((P, 0, [b1, n1, a1]) :: L2) V ∧ V.rangeAt g (o + k * 3) (quL ⟨nm, (ty : Int), (cl : Int)⟩)) = S := ⟨_, rfl⟩
                    have HSB : Hid (∀ V, S V → V.rangeAt P 0 [b1, n1, a1]) := Lib.hid (fun V h => by rw [← hS] at h; exact h.1 _ (List.mem_cons_self ..))
                    have HS2 : Hid (∀ V, S V → V.cell? ⟨G, 2, none⟩ = some (.slice (some ⟨g, o, none⟩) n0 cq)) := Lib.hid (fun V h => by rw [← hS] at h; exact C2.out V (fun x hx => h.1 x (List.mem_cons_of_mem _ hx)))
                    have HE1 : Hid (∀ V, S V → V.cell? ⟨g, o + k * 3 + 1, none⟩ = some (.int .i64 (ty : Int))) := Lib.hid (fun V h => by rw [← hS] at h; exact h.2 1 _ rfl)
                    have HE2 : Hid (∀ V, S V → V.cell? ⟨g, o + k * 3 + 2, none⟩ = some (.int .i64 (cl : Int))) := Lib.hid (fun V h => by rw [← hS] at h; exact h.2 2 _ rfl)
                    have HSX : Hid (∀ us V b' n' a' t', St9 w G [] ((G + 1, 0, us) :: (P, 0, [b1, n1, a1]) :: L2) b' n' a' t' V → S V) := Lib.hid (fun us V b' n' a' t' hv => by rw [← hS]; exact ⟨fun x hx => hv.kept.at0 x (List.mem_cons_of_mem _ hx), HER.out V _ _ _ _ _ hv⟩)
                    clear hS HER
                    refine wp_region_held_drew (S := S) (by kernel_rfl) (HSX.out _ _ _ _ _ _ HS.out) (fun hHeld => ?_)
                    obtain ⟨U, hU⟩ : ∃ U, wc.drew = U := ⟨_, rfl⟩
                    rw [hU] at HS hHeld ⊢
                    clear hU
                    refine wpAnyH_take (i := 0) rfl (by kernel_rfl) (by kernel_rfl) (by kernel_rfl) (fun _ _ _ h => h) (yields_W9S HSB rfl (by rfl) _ rfl rfl) (by assumption) ?_
                    try simp only [Act.put, List.getElem_toArray, List.getElem_cons_zero, List.setIfInBounds_toArray, List.set_cons_zero, List.set_cons_succ]
                    refine wpAnyH_take (i := 1) (v := ?_) rfl (by kernel_rfl) (by kernel_rfl) (by kernel_rfl) (fun _ _ _ h => h) (Or.inl ⟨by rfl, ?_⟩) (by assumption) ?_
                    rotate_left
                    · (intro w hSw; go_simp; try (with_reducible rfl))
                    try simp only [Act.put, List.getElem_toArray, List.getElem_cons_zero, List.getElem_cons_succ, List.setIfInBounds_toArray, List.set_cons_zero, List.set_cons_succ]
                    refine wpAnyH_take (i := 2) (v := ?_) rfl (by kernel_rfl) (by kernel_rfl) (by kernel_rfl) (fun _ _ _ h => h) (Or.inl ⟨by rfl, ?_⟩) (by assumption) ?_
                    rotate_left
                    · (intro w hSw; have hc0 := HS2.out w hSw; go_simp; try (with_reducible rfl))
                    try simp only [Act.put, List.getElem_toArray, List.getElem_cons_zero, List.getElem_cons_succ, List.setIfInBounds_toArray, List.set_cons_zero, List.set_cons_succ]
                    refine wpAnyH_take (i := 3) (v := ?_) rfl (by kernel_rfl) (by kernel_rfl) (by kernel_rfl) (fun _ _ _ h => h) (Or.inl ⟨by rfl, ?_⟩) (by assumption) ?_
                    rotate_left
                    · (intro w hSw; go_simp; try (with_reducible rfl))
                    try simp only [Act.put, List.getElem_toArray, List.getElem_cons_zero, List.getElem_cons_succ, List.setIfInBounds_toArray, List.set_cons_zero, List.set_cons_succ]
                    refine wpAnyH_take (i := 4) (v := ?_) rfl (by kernel_rfl) (by kernel_rfl) (by kernel_rfl) (fun _ _ _ h => h) (Or.inl ⟨by rfl, ?_⟩) (by assumption) ?_
                    rotate_left
                    · (intro w hSw; go_simp; try (with_reducible rfl))
                    try simp only [Act.put, List.getElem_toArray, List.getElem_cons_zero, List.getElem_cons_succ, List.setIfInBounds_toArray, List.set_cons_zero, List.set_cons_succ]
                    refine wpAnyH_take (i := 5) (v := ?_) rfl (by kernel_rfl) (by kernel_rfl) (by kernel_rfl) (fun _ _ _ h => h) (Or.inl ⟨by rfl, ?_⟩) (by assumption) ?_
                    rotate_left
                    · (intro w hSw; go_simp; try (with_reducible rfl))
                    try simp only [Act.put, List.getElem_toArray, List.getElem_cons_zero, List.getElem_cons_succ, List.setIfInBounds_toArray, List.set_cons_zero, List.set_cons_succ]
                    refine wpAnyH_take (i := 6) (v := ?_) rfl (by kernel_rfl) (by kernel_rfl) (by kernel_rfl) (fun _ _ _ h => h) (Or.inl ⟨by rfl, ?_⟩) (by assumption) ?_
                    rotate_left
                    · (intro w hSw; have hc0 := HE1.out w hSw; go_simp; try (with_reducible rfl))
                    try simp only [Act.put, List.getElem_toArray, List.getElem_cons_zero, List.getElem_cons_succ, List.setIfInBounds_toArray, List.set_cons_zero, List.set_cons_succ]
                    refine wpAnyH_take (i := 9) (v := ?_) rfl (by kernel_rfl) (by kernel_rfl) (by kernel_rfl) (fun _ _ _ h => h) (Or.inl ⟨by rfl, ?_⟩) (by assumption) ?_
                    rotate_left
                    · (intro w hSw; go_simp; try (with_reducible rfl))
                    try simp only [Act.put, List.getElem_toArray, List.getElem_cons_zero, List.getElem_cons_succ, List.setIfInBounds_toArray, List.set_cons_zero, List.set_cons_succ]
                    refine wpAnyH_take (i := 10) (v := ?_) rfl (by kernel_rfl) (by kernel_rfl) (by kernel_rfl) (fun _ _ _ h => h) (Or.inl ⟨by rfl, ?_⟩) (by assumption) ?_
                    rotate_left
                    · (intro w hSw; have hc0 := HS2.out w hSw; go_simp; try (with_reducible rfl))
                    try simp only [Act.put, List.getElem_toArray, List.getElem_cons_zero, List.getElem_cons_succ, List.setIfInBounds_toArray, List.set_cons_zero, List.set_cons_succ]
                    refine wpAnyH_take (i := 11) (v := ?_) rfl (by kernel_rfl) (by kernel_rfl) (by kernel_rfl) (fun _ _ _ h => h) (Or.inl ⟨by rfl, ?_⟩) (by assumption) ?_
                    rotate_left
                    · (intro w hSw; go_simp; try (with_reducible rfl))
                    try simp only [Act.put, List.getElem_toArray, List.getElem_cons_zero, List.getElem_cons_succ, List.setIfInBounds_toArray, List.set_cons_zero, List.set_cons_succ]
                    refine wpAnyH_take (i := 12) (v := ?_) rfl (by kernel_rfl) (by kernel_rfl) (by kernel_rfl) (fun _ _ _ h => h) (Or.inl ⟨by rfl, ?_⟩) (by assumption) ?_
                    rotate_left
                    · (intro w hSw; go_simp; try (with_reducible rfl))
                    try simp only [Act.put, List.getElem_toArray, List.getElem_cons_zero, List.getElem_cons_succ, List.setIfInBounds_toArray, List.set_cons_zero, List.set_cons_succ]
                    refine wpAnyH_take (i := 13) (v := ?_) rfl (by kernel_rfl) (by kernel_rfl) (by kernel_rfl) (fun _ _ _ h => h) (Or.inl ⟨by rfl, ?_⟩) (by assumption) ?_
                    rotate_left
                    · (intro w hSw; go_simp; try (with_reducible rfl))
                    try simp only [Act.put, List.getElem_toArray, List.getElem_cons_zero, List.getElem_cons_succ, List.setIfInBounds_toArray, List.set_cons_zero, List.set_cons_succ]
                    refine wpAnyH_take (i := 14) (v := ?_) rfl (by kernel_rfl) (by kernel_rfl) (by kernel_rfl) (fun _ _ _ h => h) (Or.inl ⟨by rfl, ?_⟩) (by assumption) ?_
                    rotate_left
                    · (intro w hSw; have hc0 := HE2.out w hSw; go_simp; try (with_reducible rfl))
                    try simp only [Act.put, List.getElem_toArray, List.getElem_cons_zero, List.getElem_cons_succ, List.setIfInBounds_toArray, List.set_cons_zero, List.set_cons_succ]
                    have HTW := Lib.hid (HS.out.twoc (n := ty) (by have := HNUM.out; omega))
                    refine wpAnyH_ready (rs := [7]) (by kernel_rfl) (by simp) ?_
                    refine AllReadyH.cons rfl (fun K hK => ?_) AllReadyH.nil
                    go_simp
                    refine HTW.out.mono ?_
                    rintro e wtq7 ⟨rfl, hm, hs⟩
                    have HM := Lib.hid hm
                    replace HS := Lib.hid hs
                    clear hm hs HTW
                    go_wp2_with fail
                    refine hK.out _ _ (HSX.out _ _ _ _ _ _ HS.out) (fun hHeldtq7 => ?_)
                    clear hK K
                    try simp only [Act.put, List.getElem_toArray, List.getElem_cons_zero, List.getElem_cons_succ, List.setIfInBounds_toArray, List.set_cons_zero, List.set_cons_succ]
                    refine wpAnyH_ready (rs := [8]) (by kernel_rfl) (by simp) ?_
                    refine AllReadyH.cons rfl (fun K hK => ?_) AllReadyH.nil
                    go_simp
                    refine (HS.out.putc HM.out (by (try simp only [List.length_append]); (try simp only [twoL_len]); have := HKL.out; omega) rfl).mono ?_
                    rintro e wpq8 ⟨bq8, nq8, aq8, rfl, hs⟩
                    replace HS := Lib.hid hs
                    clear hs HM
                    go_wp2_with fail
                    refine hK.out _ _ (HSX.out _ _ _ _ _ _ HS.out) (fun hHeldpq8 => ?_)
                    clear hK K
                    try simp only [Act.put, List.getElem_toArray, List.getElem_cons_zero, List.getElem_cons_succ, List.setIfInBounds_toArray, List.set_cons_zero, List.set_cons_succ]
                    have HTW := Lib.hid (HS.out.twoc (n := cl) (by have := HNUM.out; omega))
                    refine wpAnyH_ready (rs := [15]) (by kernel_rfl) (by simp) ?_
                    refine AllReadyH.cons rfl (fun K hK => ?_) AllReadyH.nil
                    go_simp
                    refine HTW.out.mono ?_
                    rintro e wtq15 ⟨rfl, hm, hs⟩
                    have HM := Lib.hid hm
                    replace HS := Lib.hid hs
                    clear hm hs HTW
                    go_wp2_with fail
                    refine hK.out _ _ (HSX.out _ _ _ _ _ _ HS.out) (fun hHeldtq15 => ?_)
                    clear hK K
                    try simp only [Act.put, List.getElem_toArray, List.getElem_cons_zero, List.getElem_cons_succ, List.setIfInBounds_toArray, List.set_cons_zero, List.set_cons_succ]
                    refine wpAnyH_ready (rs := [16]) (by kernel_rfl) (by simp) ?_
                    refine AllReadyH.cons rfl (fun K hK => ?_) AllReadyH.nil
                    go_simp
                    refine (HS.out.putc HM.out (by (try simp only [List.length_append]); (try simp only [twoL_len]); have := HKL.out; omega) rfl).mono ?_
                    rintro e wpq16 ⟨bq16, nq16, aq16, rfl, hs⟩
                    replace HS := Lib.hid hs
                    clear hs HM
                    go_wp2_with fail
                    refine hK.out _ _ (HSX.out _ _ _ _ _ _ HS.out) (fun hHeldpq16 => ?_)
                    clear hK K
                    try simp only [Act.put, List.getElem_toArray, List.getElem_cons_zero, List.getElem_cons_succ, List.setIfInBounds_toArray, List.set_cons_zero, List.set_cons_succ]
                    refine wpAnyH_ready (rs := [17]) (by kernel_rfl) (by simp) ?_
                    refine ready_one rfl rfl (fun K hK => ?_)
                    have HC0 := Lib.hid (HS.out.cells (List.mem_cons_self ..))
                    refine wp_store_W9 HC0 rfl _ _ rfl rfl rfl rfl HS.out.rows.one (fun Vz HV HVC => ?_)
                    replace HS := HS.out.set (fun x hx => by rcases List.mem_cons.1 hx with rfl | hx; (have := HPG.out; simp only; omega); exact HN0.out x hx) (by have := HG.out; omega) [bq16, nq16, aq16] rfl
                    rw [← HV.out] at HS
                    replace HS := Lib.hid HS
                    refine hK.out _ _ (HSX.out _ _ _ _ _ _ HS.out) (fun hHeldsz => ?_)
                    clear hK K HC0 HV HVC
                    try simp only [Act.put, List.getElem_toArray, List.getElem_cons_zero, List.getElem_cons_succ]
                    refine wpAnyH_done (by kernel_rfl) ?_ _
                    refine NoPanic.normal ?_
                    go_wp2_with fail
                    replace HS : Hid (St9 w G [] ((G + 1, 0, [bq16, nq16, aq16]) :: L2) bq16 nq16 aq16 ((m.qs.take (k + 1)).foldl qW t0) Vz) := Lib.hid (by
                      rw [HQT.out, HTR.out]
                      exact HS.out.sub (fun x hx => by rcases List.mem_cons.1 hx with rfl | hx; (exact List.mem_cons_self ..); exact List.mem_cons_of_mem _ (List.mem_cons_of_mem _ hx)))
                    go_roundw
                    case rel => exact ⟨k + 1, _, _, _, by omega, by go_num, HS⟩
                    case measure => simp [intOf]; omega
                · obtain rfl : n0 = k := by omega
                  have hd : decide ((n0 : Int) < (n0 : Int)) = false := by simp
                  clear hkN hk hd
                  have HS9 : Hid (St9 w G [] ((G + 1, 0, [b, n, a]) :: L2) b n a (m.qs.foldl qW t0) wr) := Lib.hid (by
                    have := HS.out
                    rw [List.take_of_length_le (by rw [HNS.out.1]; exact Nat.le_refl _)] at this
                    exact this)
                  have HOK : Hid (Wok (12 + m.qs.length * 16304) (m.qs.foldl qW t0)) := Lib.hid (Wok.qs m.qs t0 HOK0.out HPA.out.1)
                  have HTM : Hid ((pre9 m 3).foldl rW (m.qs.foldl qW t0) = wM m) := Lib.hid (by rw [← HT0.out]; exact pre9_whole m)
                  obtain ⟨TQ, hTQ⟩ : ∃ TQ, m.qs.foldl qW t0 = TQ := ⟨_, rfl⟩
                  rw [hTQ] at HS9 HOK HTM
                  clear hTQ HS HOK0 HT0
                  have x3 := C3.out _ (HSS.out _ _ HS9.out.kept.at0)
                  have x4 := C4.out _ (HSS.out _ _ HS9.out.kept.at0)
                  have x5 := C5.out _ (HSS.out _ _ HS9.out.kept.at0)
                  obtain ⟨R, WR, hR, hWR, HRS, HRG⟩ : ∃ R WR, wr.heap.size = R ∧ wr.alloc (.cells #[.slice a1 n1 c1, .slice a2 n2 c2, .slice a3 n3 c3] 23) = WR ∧ Hid (St9 w G [] ((G + 1, 0, [b, n, a]) :: (R, 0, [.slice a1 n1 c1, .slice a2 n2 c2, .slice a3 n3 c3]) :: L2) b n a TQ WR) ∧ Hid (G + 1 < R) := ⟨_, _, rfl, rfl, Lib.hid ((HS9.out.alloc [.slice a1 n1 c1, .slice a2 n2 c2, .slice a3 n3 c3] 23).sub (fun x hx => by simp only [List.mem_cons] at hx ⊢; rcases hx with h | h | h <;> simp [h])), Lib.hid (HS9.out.kept.lt _ (List.mem_cons_self ..))⟩
                  clear HS9
                  have HSEL : Hid (∀ k, k < 3 → ∃ (D : List Rec) (ad : Option Addr) (c nD : Nat), (lists9 m)[k]? = some D ∧ [Value.slice a1 n1 c1, .slice a2 n2 c2, .slice a3 n3 c3][k]? = some (.slice ad nD c) ∧ D.length = nD ∧ RecsAt w ad c D ∧ nD ≤ 65535) := Lib.hid (fun k hk => by
                    match k, hk with
                    | 0, _ => exact ⟨_, _, _, _, rfl, rfl, HNS.out.2.1, HMI.out.an, HNB.out.2.2.2.1⟩
                    | 1, _ => exact ⟨_, _, _, _, rfl, rfl, HNS.out.2.2.1, HMI.out.au, HNB.out.2.2.2.2.1⟩
                    | 2, _ => exact ⟨_, _, _, _, rfl, rfl, HNS.out.2.2.2, HMI.out.mo, HNB.out.2.2.2.2.2⟩)
                  obtain ⟨vs3, hvs3⟩ : ∃ vs3, [Value.slice a1 n1 c1, .slice a2 n2 c2, .slice a3 n3 c3] = vs3 := ⟨_, rfl⟩
                  rw [hvs3] at HRS HSEL
                  clear hvs3
                  go_wp2_with fail
                  try rw [hWR]
                  try rw [hR]
                  clear hWR hR x3 x4 x5 x2 C2 C3 C4 C5
                  go_loopw [8] (fun s8 wk => ∃ (k : Nat) (b n a : Value), k ≤ 3 ∧ s8 = .int .i64 (k : Int) ∧ Hid (St9 w G [] ((G + 1, 0, [b, n, a]) :: (R, 0, vs3) :: L2) b n a ((pre9 m k).foldl rW TQ) wk)) (fun i _ => 3 - (intOf i).toNat)
                  case atStart => exact ⟨0, _, _, _, Nat.zero_le _, rfl, HRS⟩
                  case round =>
                    clear HRS
                    obtain ⟨k, b, n, a, hk, rfl, HS⟩ := hrel
                    by_cases hkN : k < 3
                    · have hd : decide ((k : Int) < 3) = true := decide_eq_true (by omega)
                      have hdn : decide (k < 3) = true := decide_eq_true hkN
                      obtain ⟨D, ad, c, nD, hD, hv, hnD, hrs, hb4⟩ := HSEL.out k hkN
                      have HLD : Hid ((lists9 m)[k]? = some D ∧ vs3[k]? = some (.slice ad nD c) ∧ D.length = nD) := Lib.hid ⟨hD, hv, hnD⟩
                      have HRD := Lib.hid hrs
                      have HKC : Hid (∀ V us b' n' a' t', St9 w G [] ((G + 1, 0, us) :: (R, 0, vs3) :: L2) b' n' a' t' V → V.cell? ⟨R, k, none⟩ = some (.slice ad nD c)) := Lib.hid (fun V us b' n' a' t' h => (by
                        have := (h.cells (G := R) (vs := vs3) (by simp)).cell k _ HLD.out.2.1
                        exact this))
                      clear hD hv hnD hrs
                      have HS9 : Hid (St9 w G [] ((G + 1, 0, [b, n, a]) :: (R, 0, vs3) :: L2) b n a ((pre9 m k ++ D.take 0).foldl rW TQ) wr) := Lib.hid (by
                        have := HS.out
                        simpa using this)
                      clear HS
                      go_wp2_with fail
                      go_loopw [9] (fun s9 wj => ∃ (j : Nat) (b n a : Value), j ≤ nD ∧ s9 = .int .i64 (j : Int) ∧ Hid (St9 w G [] ((G + 1, 0, [b, n, a]) :: (R, 0, vs3) :: L2) b n a ((pre9 m k ++ D.take j).foldl rW TQ) wj)) (fun i _ => nD - (intOf i).toNat)
                      case atStart => exact ⟨0, _, _, _, Nat.zero_le _, rfl, HS9⟩
                      case round =>
                        clear HS9
                        obtain ⟨j, b, n, a, hj, rfl, HS⟩ := hrel
                        have xk := HKC.out _ _ _ _ _ _ HS.out
                        by_cases hjN : j < nD
                        · have hdj : decide ((j : Int) < (nD : Int)) = true := decide_eq_true (by omega)
                          have hdjn : decide (j < nD) = true := decide_eq_true hjN
                          have hjD : j < D.length := by rw [HLD.out.2.2]; exact hjN
                          obtain ⟨g, o, ha, hg, hrg⟩ := HRD.out.at j hjD
                          subst ha
                          obtain ⟨hall, hlen⟩ := pre9_mem m k D HLD.out.1 j
                          obtain ⟨hall1, hlen1⟩ := pre9_mem m k D HLD.out.1 (j + 1)
                          have HNX : Hid (pre9 m k ++ D.take (j + 1) = (pre9 m k ++ D.take j) ++ [D[j]]) := Lib.hid (by rw [List.take_add_one, List.getElem?_eq_getElem hjD, List.append_assoc]; rfl)
                          have hmj : D[j] ∈ pre9 m k ++ D.take (j + 1) := by rw [HNX.out]; exact List.mem_append_right _ (List.mem_singleton.2 rfl)
                          have HMR : Hid (mayR D[j] = true ∧ Fit D[j]) := Lib.hid ⟨hall1 (fun r => mayR r = true) HPA.out.2.2.2.1 HPA.out.2.2.2.2.1 HPA.out.2.2.2.2.2 _ hmj, hall1 Fit HMI.out.an.2.2.1 HMI.out.au.2.2.1 HMI.out.mo.2.2.1 _ hmj⟩
                          have HKR : Hid (Wok (12 + m.qs.length * 16304 + (pre9 m k ++ D.take j).length * 81845) ((pre9 m k ++ D.take j).foldl rW TQ) ∧ 12 + m.qs.length * 16304 + (pre9 m k ++ D.take j).length * 81845 ≤ 900000) := Lib.hid ⟨Wok.rs _ _ _ HOK.out (hall (fun r => mayR r = true) HPA.out.2.2.2.1 HPA.out.2.2.2.2.1 HPA.out.2.2.2.2.2) (hall Fit HMI.out.an.2.2.1 HMI.out.au.2.2.1 HMI.out.mo.2.2.1), by
                            exact Nat.le_trans (Nat.add_le_add_left (Nat.mul_le_mul_right 81845 hlen) _) HKM.out⟩
                          have HTN : Hid ((pre9 m k ++ D.take (j + 1)).foldl rW TQ = rW ((pre9 m k ++ D.take j).foldl rW TQ) D[j]) := Lib.hid (by rw [HNX.out, List.foldl_append]; rfl)
                          clear hall hlen hall1 hlen1 hmj HNX
                          obtain ⟨T, hT⟩ : ∃ T, (pre9 m k ++ D.take j).foldl rW TQ = T := ⟨_, rfl⟩
                          rw [hT] at HS HKR HTN
                          clear hT
                          obtain ⟨KN, hKN⟩ : ∃ KN, 12 + m.qs.length * 16304 + (pre9 m k ++ D.take j).length * 81845 = KN := ⟨_, rfl⟩
                          rw [hKN] at HKR
                          clear hKN
                          have HGE : Hid (g < w.heap.size ∧ w.rangeAt g (o + j * 23) (recL D[j])) := Lib.hid ⟨hg, hrg⟩
                          obtain ⟨r, hr⟩ : ∃ r, D[j] = r := ⟨_, rfl⟩
                          rw [hr] at HGE HTN HMR
                          clear hr hrg hg
                          have H16 : Hid (r.b.length = 16) := Lib.hid HMR.out.2.1
                          have HER : Hid (∀ V b' n' a' t' L', St9 w G [] L' b' n' a' t' V → V.rangeAt g (o + j * 23) (recL r)) := Lib.hid (fun V b' n' a' t' L' hv => range_foot hv.foot HGE.out.2 HGE.out.1 (by simp))
                          have hj1 : (0 : Int) ≤ (j : Int) := by omega
                          have hj2 : (j : Int) < (nD : Int) := by omega
                          have hk1 : (0 : Int) ≤ (k : Int) := by omega
                          have hk2 : (k : Int) < 3 := by omega
                          go_upto_region 20 with fail
                          refine wp_region_noPanic ?_
                          replace HS := Lib.hid HS.out.drew
                          obtain ⟨S, hS⟩ : ∃ S : World → Prop, (fun V : World => V.cell? ⟨R, k, none⟩ = some (.slice (some ⟨g, o, none⟩) nD c) ∧ V.rangeAt g (o + j * 23) (recL r)) = S := ⟨_, rfl⟩
                          have HSK : Hid (∀ V, S V → V.cell? ⟨R, k, none⟩ = some (.slice (some ⟨g, o, none⟩) nD c)) := Lib.hid (fun V h => by rw [← hS] at h; exact h.1)
                          have HSR : Hid (∀ V, S V → V.rangeAt g (o + j * 23) (recL r)) := Lib.hid (fun V h => by rw [← hS] at h; exact h.2)
                          have HSX : Hid (∀ us V b' n' a' t', St9 w G [] ((G + 1, 0, us) :: (R, 0, vs3) :: L2) b' n' a' t' V → S V) := Lib.hid (fun us V b' n' a' t' hv => by rw [← hS]; exact ⟨HKC.out _ _ _ _ _ _ hv, HER.out V _ _ _ _ _ hv⟩)
                          clear hS HER xk
                          refine wp_region_held_drew (S := S) (by kernel_rfl) (HSX.out _ _ _ _ _ _ HS.out) (fun hHeld => ?_)
                          obtain ⟨U, hU⟩ : ∃ U, wr.drew = U := ⟨_, rfl⟩
                          rw [hU] at HS hHeld ⊢
                          clear hU
                          refine wpAnyH_take (i := 1) (v := ?_) rfl (by kernel_rfl) (by kernel_rfl) (by kernel_rfl) (fun _ _ _ h => h) (Or.inl ⟨by rfl, ?_⟩) (by assumption) ?_
                          rotate_left
                          · (intro w hSw; go_simp; try (with_reducible rfl))
                          try simp only [Act.put, List.getElem_toArray, List.getElem_cons_zero, List.getElem_cons_succ, List.setIfInBounds_toArray, List.set_cons_zero, List.set_cons_succ]
                          refine wpAnyH_take (i := 2) (v := ?_) rfl (by kernel_rfl) (by kernel_rfl) (by kernel_rfl) (fun _ _ _ h => h) (Or.inl ⟨by rfl, ?_⟩) (by assumption) ?_
                          rotate_left
                          · (intro w hSw; go_simp; try (with_reducible rfl))
                          try simp only [Act.put, List.getElem_toArray, List.getElem_cons_zero, List.getElem_cons_succ, List.setIfInBounds_toArray, List.set_cons_zero, List.set_cons_succ]
                          refine wpAnyH_take (i := 3) (v := ?_) rfl (by kernel_rfl) (by kernel_rfl) (by kernel_rfl) (fun _ _ _ h => h) (Or.inl ⟨by rfl, ?_⟩) (by assumption) ?_
                          rotate_left
                          · (intro w hSw; go_simp; try (with_reducible rfl))
                          try simp only [Act.put, List.getElem_toArray, List.getElem_cons_zero, List.getElem_cons_succ, List.setIfInBounds_toArray, List.set_cons_zero, List.set_cons_succ]
                          refine wpAnyH_take (i := 4) (v := ?_) rfl (by kernel_rfl) (by kernel_rfl) (by kernel_rfl) (fun _ _ _ h => h) (Or.inl ⟨by rfl, ?_⟩) (by assumption) ?_
                          rotate_left
                          · (intro w hSw; have hc0 := HSK.out w hSw; go_simp; try (with_reducible rfl))
                          try simp only [Act.put, List.getElem_toArray, List.getElem_cons_zero, List.getElem_cons_succ, List.setIfInBounds_toArray, List.set_cons_zero, List.set_cons_succ]
                          refine wpAnyH_take (i := 5) (v := ?_) rfl (by kernel_rfl) (by kernel_rfl) (by kernel_rfl) (fun _ _ _ h => h) (Or.inl ⟨by rfl, ?_⟩) (by assumption) ?_
                          rotate_left
                          · (intro w hSw; go_simp; try (with_reducible rfl))
                          try simp only [Act.put, List.getElem_toArray, List.getElem_cons_zero, List.getElem_cons_succ, List.setIfInBounds_toArray, List.set_cons_zero, List.set_cons_succ]
                          refine wpAnyH_take (i := 6) (v := ?_) rfl (by kernel_rfl) (by kernel_rfl) (by kernel_rfl) (fun _ _ _ h => h) (Or.inl ⟨by rfl, ?_⟩) (by assumption) ?_
                          rotate_left
                          · (intro w hSw; go_simp; try (with_reducible rfl))
                          try simp only [Act.put, List.getElem_toArray, List.getElem_cons_zero, List.getElem_cons_succ, List.setIfInBounds_toArray, List.set_cons_zero, List.set_cons_succ]
                          refine wpAnyH_take (i := 7) rfl (by kernel_rfl) (by kernel_rfl) (by kernel_rfl) (fun _ _ _ h => h) (yields_rec H16 HSR (by rfl) _ rfl rfl) (by assumption) ?_
                          try simp only [Act.put, List.getElem_toArray, List.getElem_cons_zero, List.getElem_cons_succ, List.setIfInBounds_toArray, List.set_cons_zero, List.set_cons_succ]
                          refine wpAnyH_ready (rs := [0]) (by kernel_rfl) (by simp) ?_
                          refine ready_one rfl rfl (fun K hK => ?_)
                          have HLR := Lib.hid (HS.out.cells (List.mem_cons_self ..))
                          refine wp_load_W9 HLR rfl _ rfl rfl ?_
                          refine hK.out _ _ (HSX.out _ _ _ _ _ _ HS.out) (fun hHeldl => ?_)
                          clear hK K HLR
                          try simp only [Act.put, List.getElem_toArray, List.getElem_cons_zero, List.getElem_cons_succ, List.setIfInBounds_toArray, List.set_cons_zero, List.set_cons_succ]
                          refine wpAnyH_ready (rs := [8]) (by kernel_rfl) (by simp) ?_
                          refine AllReadyH.cons rfl (fun K hK => ?_) AllReadyH.nil
                          go_simp
                          refine (refRec9W_any b n a T KN r _ G HS.out.rows HS.out.size HKR.out.1 HKR.out.2 HMR.out.1 HMR.out.2).mono ?_
                          rintro e w8 ⟨b8, n8, a8, rfl, h81, h82, h83, h84⟩
                          replace HS := Lib.hid (HS.out.more (t' := rW T r) ⟨h81, h82, h83⟩ h84)
                          clear h81 h82 h83 h84
                          go_wp2_with fail
                          refine hK.out _ _ (HSX.out _ _ _ _ _ _ HS.out) (fun hHeld8 => ?_)
                          clear hK K
                          try simp only [Act.put, List.getElem_toArray, List.getElem_cons_zero, List.getElem_cons_succ, List.setIfInBounds_toArray, List.set_cons_zero, List.set_cons_succ]
                          refine wpAnyH_ready (rs := [9]) (by kernel_rfl) (by simp) ?_
                          refine ready_one rfl rfl (fun K hK => ?_)
                          have HC0 := Lib.hid (HS.out.cells (List.mem_cons_self ..))
                          refine wp_store_W9 HC0 rfl _ _ rfl rfl rfl rfl HS.out.rows.one (fun Vz HV HVC => ?_)
                          replace HS := HS.out.set (fun x hx => by rcases List.mem_cons.1 hx with rfl | hx; (have := HRG.out; simp only; omega); exact HN0.out x hx) (by have := HG.out; omega) [b8, n8, a8] rfl
                          rw [← HV.out] at HS
                          replace HS := Lib.hid HS
                          refine hK.out _ _ (HSX.out _ _ _ _ _ _ HS.out) (fun hHeldsz => ?_)
                          clear hK K HC0 HV HVC
                          try simp only [Act.put, List.getElem_toArray, List.getElem_cons_zero, List.getElem_cons_succ]
                          refine wpAnyH_done (by kernel_rfl) ?_ _
                          refine NoPanic.normal ?_
                          go_wp2_with fail
                          rw [← HTN.out] at HS
                          go_roundw
                          case rel => exact ⟨j + 1, _, _, _, by omega, by go_num, HS⟩
                          case measure => simp [intOf]; omega
                        · obtain rfl : nD = j := by omega
                          have hdj : decide ((nD : Int) < (nD : Int)) = false := by simp
                          have HS2 : Hid (St9 w G [] ((G + 1, 0, [b, n, a]) :: (R, 0, vs3) :: L2) b n a ((pre9 m (k + 1)).foldl rW TQ) wr) := Lib.hid (by
                            have := HS.out
                            rw [List.take_of_length_le (by rw [HLD.out.2.2]; exact Nat.le_refl _)] at this
                            rw [pre9_succ m k D HLD.out.1]
                            exact this)
                          clear HS
                          go_wp2_with fail
                          go_roundw
                          case rel => exact ⟨k + 1, _, _, _, by omega, by go_num, HS2⟩
                          case measure => simp [intOf]; omega
                    · obtain rfl : k = 3 := by omega
                      have hd : decide (((3 : Nat) : Int) < 3) = false := by simp
                      rw [HTM.out] at HS
                      have xb : wr.cell? ⟨G + 1, 0, none⟩ = some b := (HS.out.cells (G := G + 1) (vs := [b, n, a]) (by simp)).cell 0 _ rfl
                      have HBL : Hid (Below w.heap.size w wr) := Lib.hid (HS.out.foot.below (by simp) (Nat.le_refl _))
                      have HRB := Lib.hid HS.out.rows.rb
                      have hone := own_oneCell HS.out.rows.rb
                      go_wp2_with fail
                      go_ret
                      refine ⟨b, rfl, ?_, HBL.out⟩
                      have := HRB.out
                      rw [← HG.out] at this
                      exact this
end Go.Proofs.Yticdpidngmeebaa
/- Contracts of the landed labelOf and placeOf. -/
namespace Go.Proofs.Yticdpidngmeebaa
open Go.RowKit
set_option linter.unusedVariables false
set_option maxRecDepth 20000

/-- What labelOf tells of bytes. -/
def labOf (ds : List UInt8) : ByteArray × Bool :=
  if ds.length < 1 + (ds.getD 0 0).toNat then (⟨#[]⟩, false) else (ownAt ds 0 (ds.getD 0 0).toNat, !has8 (ownAt ds 0 (ds.getD 0 0).toNat) 46)
set_option maxRecDepth 100000 in
set_option maxHeartbeats 2000000 in
theorem labelOf_any (y : Addr) (ds : List UInt8) (c : Nat) (w : World) (hc : ds.length ≤ c) (hcm : c ≤ maxLen) (hp : 0 < ds.length) (hcells : ∀ j (h : j < ds.length), w.cell? (y.add j) = some (.int .u8 ((ds[j].toNat : Nat) : Int))) :
    Calls Try.prog 100 #[.slice (some y) ds.length c] w fun e w' => e = .returned (.tuple #[.string (labOf ds).1, .bool (labOf ds).2]) ∧ w' = w := by
  have hcm2 : c ≤ 9223372036854775807 := by unfold maxLen at hcm; omega
  have hc0 := hcells 0 hp
  have hy0 : y.add 0 = y := by cases y; simp [Addr.add]
  rw [hy0] at hc0
  have hgd : ds.getD 0 0 = ds[0] := by rw [List.getD_eq_getElem?_getD, List.getElem?_eq_getElem hp]; rfl
  have HL : Hid (labOf ds = if ds.length < 1 + ds[0].toNat then (⟨#[]⟩, false) else (ownAt ds 0 ds[0].toNat, !has8 (ownAt ds 0 ds[0].toNat) 46)) := Lib.hid (by unfold labOf; rw [hgd])
  have HCV : Hid (∀ n c, 0 + 1 + n ≤ ds.length → (convert 27 9 (.slice (some (y.add (0 + 1))) n c)).run Try.prog w = .ok (.string (ownAt ds 0 n)) w) := Lib.hid (fun n c hn => own_text_at c hcells hn)
  have hu := ds[0].toNat_lt
  generalize ds[0].toNat = n at *
  obtain ⟨N, hN⟩ : ∃ N, ds.length = N := ⟨_, rfl⟩
  have HOS : Hid (1 + n ≤ N → (ownAt ds 0 n).size = n) := Lib.hid (fun h => ownAt_size (by omega))
  rw [hN] at hc hp HL HCV ⊢
  clear hcells hy0 hgd hcm hN
  have hnw : IntKind.i64.wrap (n : Int) = (n : Int) := by rw [IntKind.wrap_i64]; omega
  have hb0 : (0 : Int) < (N : Int) := by omega
  by_cases h : N < 1 + n
  · have EL := HL.out
    rw [if_pos h] at EL
    rw [EL]
    have hd : decide ((N : Int) < 1 + (n : Int)) = true := decide_eq_true (by omega)
    clear EL HL HCV
    go_enter Try.func100, Try.ntmps100
    go_wp2_with fail
    go_ret2
    exact ⟨rfl, rfl⟩
  · have EL := HL.out
    rw [if_neg h] at EL
    rw [EL]
    have hd : decide ((N : Int) < 1 + (n : Int)) = false := decide_eq_false (by omega)
    have hcv := HCV.out n (c - 1) (by omega)
    rw [show y.add (0 + 1) = ⟨y.block, y.off + 1, none⟩ from by simp [Addr.add]] at hcv
    have hos := HOS.out (by omega)
    have HCO := Lib.hid (Try.strings_Contains_one (ownAt ds 0 n) 46 w)
    rw [contains_dot] at HCO
    generalize ownAt ds 0 n = own at *
    generalize has8 own 46 = b at *
    have hck : ¬ c = 1 ∨ c = 1 := by omega
    have hb3 : (1 : Int) ≤ 1 + (n : Int) := by omega
    have hb4 : 1 + (n : Int) ≤ (c : Int) := by omega
    have hcs : 1 + n ≤ c := by omega
    clear EL HL HCV HOS
    by_cases hc1 : c = 1
    · obtain rfl : n = 0 := by omega
      subst hc1
      have hos0 := empty_of hos
      subst hos0
      have hcv0 : (convert 27 9 (.slice (some y) 0 0)).run Try.prog w = .ok (.string ⟨#[]⟩) w := by rfl
      clear hcv
      go_enter Try.func100, Try.ntmps100
      go_wp2_with fail
      refine HCO.out.mono ?_
      rintro e w1 ⟨rfl, rfl⟩
      go_wp2_with fail
      go_ret2
      exact ⟨rfl, rfl⟩
    · go_enter Try.func100, Try.ntmps100
      go_wp2_with fail
      refine HCO.out.mono ?_
      rintro e w1 ⟨rfl, rfl⟩
      go_wp2_with fail
      go_ret2
      exact ⟨rfl, rfl⟩
/-- What placeOf tells of bytes that begin with a pointer. -/
theorem placeOf_short (y : Addr) (c n : Nat) (w : World) (hn : n < 2) :
    Calls Try.prog 101 #[.slice (some y) n c] w fun e w' => e = .returned (.tuple #[.int .i64 0, .bool false]) ∧ Below w.heap.size w w' := by
  have hd : decide ((n : Int) < 2) = true := decide_eq_true (by omega)
  have hdn : decide (n < 2) = true := decide_eq_true hn
  go_enter Try.func101, Try.ntmps101
  go_wp2_with fail
  go_ret2
  exact ⟨rfl, Below.refl _ _⟩
set_option maxRecDepth 100000 in
set_option maxHeartbeats 2000000 in
theorem placeOf_any (y : Addr) (c n q1 q2 : Nat) (w : World) (hn : 2 ≤ n) (hc : n ≤ c) (hcm : c ≤ maxLen) (h1 : 192 ≤ q1) (h1b : q1 < 256) (h2 : q2 < 256) (hc1 : w.cell? y = some (.int .u8 (q1 : Int))) (hc2 : w.cell? (y.add 1) = some (.int .u8 (q2 : Int))) :
    Calls Try.prog 101 #[.slice (some y) n c] w fun e w' => e = .returned (.tuple #[.int .i64 ((((q1 - 192) * 256 + q2 : Nat)) : Int), .bool true]) ∧ Below w.heap.size w w' := by
  have hd : decide ((n : Int) < 2) = false := decide_eq_false (by omega)
  have hdn : decide (n < 2) = false := decide_eq_false (by omega)
  have hcm2 : c ≤ 9223372036854775807 := by unfold maxLen at hcm; omega
  have hb1 : (0 : Int) < (n : Int) := by omega
  have hb2 : (1 : Int) < (n : Int) := by omega
  have hb3 : 0 < n := by omega
  have hb4 : 1 < n := by omega
  have hw1 : IntKind.u8.wrap ((q1 : Int) - 192) = (q1 : Int) - 192 := by rw [IntKind.wrap_u8]; omega
  have hw2 : IntKind.i64.wrap ((q1 : Int) - 192) = (q1 : Int) - 192 := by rw [IntKind.wrap_i64]; omega
  have hw3 : IntKind.i64.wrap (((q1 : Int) - 192) * 256) = ((q1 : Int) - 192) * 256 := by rw [IntKind.wrap_i64]; omega
  have hw4 : IntKind.i64.wrap (q2 : Int) = (q2 : Int) := by rw [IntKind.wrap_i64]; omega
  have q : bits .or .i64 (((q1 : Int) - 192) * 256) (q2 : Int) = (((q1 - 192) * 256 + q2 : Nat) : Int) := by
    rw [bits_join .i64 32 (by decide) (fun n h0 h1 => by rw [IntKind.wrap_i64]; omega) 8 (((q1 : Int) - 192) * 256) q2 (by omega) (by omega) (by omega) (by omega) (by omega) (by omega)]
    omega
  rw [show y.add 1 = ⟨y.block, y.off + 1, none⟩ from by simp [Addr.add]] at hc2
  obtain ⟨T, hT⟩ : ∃ T, (q1 - 192) * 256 + q2 = T := ⟨_, rfl⟩
  rw [hT] at q ⊢
  clear hT
  go_enter Try.func101, Try.ntmps101
  go_upto_region 3 with fail
  obtain ⟨S, hS⟩ : ∃ S : World → Prop, (fun W => W.cell? y = some (.int .u8 (q1 : Int)) ∧ W.cell? ⟨y.block, y.off + 1, none⟩ = some (.int .u8 (q2 : Int))) = S := ⟨_, rfl⟩
  have C1 : Hid (∀ w', S w' → w'.cell? y = some (.int .u8 (q1 : Int))) := Lib.hid (fun w' h => by rw [← hS] at h; exact h.1)
  have C2 : Hid (∀ w', S w' → w'.cell? ⟨y.block, y.off + 1, none⟩ = some (.int .u8 (q2 : Int))) := Lib.hid (fun w' h => by rw [← hS] at h; exact h.2)
  have HSS : Hid (S w.drew) := Lib.hid (by rw [← hS]; exact ⟨hc1, hc2⟩)
  clear hS hc1 hc2
  refine wp_region_noPanic ?_
  refine wp_region_held_drew (S := S) (by kernel_rfl) HSS.out (fun hHeld => ?_)
  refine wpAnyH_take (i := 0) (v := ?_) rfl (by kernel_rfl) (by kernel_rfl) (by kernel_rfl) (fun _ _ _ h => h) (Or.inl ⟨by rfl, ?_⟩) (by assumption) ?_
  rotate_left
  · (intro w hSw; go_simp; try (with_reducible rfl))
  try simp only [Act.put, List.getElem_toArray, List.getElem_cons_zero, List.setIfInBounds_toArray, List.set_cons_zero, List.set_cons_succ]
  refine wpAnyH_take (i := 1) (v := ?_) rfl (by kernel_rfl) (by kernel_rfl) (by kernel_rfl) (fun _ _ _ h => h) (Or.inl ⟨by rfl, ?_⟩) (by assumption) ?_
  rotate_left
  · (intro w hSw; go_simp; try (with_reducible rfl))
  try simp only [Act.put, List.getElem_toArray, List.getElem_cons_zero, List.getElem_cons_succ, List.setIfInBounds_toArray, List.set_cons_zero, List.set_cons_succ]
  refine wpAnyH_take (i := 2) (v := ?_) rfl (by kernel_rfl) (by kernel_rfl) (by kernel_rfl) (fun _ _ _ h => h) (Or.inl ⟨by rfl, ?_⟩) (by assumption) ?_
  rotate_left
  · (intro w hSw; have hc0 := C1.out w hSw; go_simp; try (with_reducible rfl))
  try simp only [Act.put, List.getElem_toArray, List.getElem_cons_zero, List.getElem_cons_succ, List.setIfInBounds_toArray, List.set_cons_zero, List.set_cons_succ]
  refine wpAnyH_take (i := 3) (v := ?_) rfl (by kernel_rfl) (by kernel_rfl) (by kernel_rfl) (fun _ _ _ h => h) (Or.inl ⟨by rfl, ?_⟩) (by assumption) ?_
  rotate_left
  · (intro w hSw; go_simp; try (with_reducible rfl))
  try simp only [Act.put, List.getElem_toArray, List.getElem_cons_zero, List.getElem_cons_succ, List.setIfInBounds_toArray, List.set_cons_zero, List.set_cons_succ]
  refine wpAnyH_take (i := 4) (v := ?_) rfl (by kernel_rfl) (by kernel_rfl) (by kernel_rfl) (fun _ _ _ h => h) (Or.inl ⟨by rfl, ?_⟩) (by assumption) ?_
  rotate_left
  · (intro w hSw; go_simp; try (with_reducible rfl))
  try simp only [Act.put, List.getElem_toArray, List.getElem_cons_zero, List.getElem_cons_succ, List.setIfInBounds_toArray, List.set_cons_zero, List.set_cons_succ]
  refine wpAnyH_take (i := 5) (v := ?_) rfl (by kernel_rfl) (by kernel_rfl) (by kernel_rfl) (fun _ _ _ h => h) (Or.inl ⟨by rfl, ?_⟩) (by assumption) ?_
  rotate_left
  · (intro w hSw; go_simp; try (with_reducible rfl))
  try simp only [Act.put, List.getElem_toArray, List.getElem_cons_zero, List.getElem_cons_succ, List.setIfInBounds_toArray, List.set_cons_zero, List.set_cons_succ]
  refine wpAnyH_take (i := 6) (v := ?_) rfl (by kernel_rfl) (by kernel_rfl) (by kernel_rfl) (fun _ _ _ h => h) (Or.inl ⟨by rfl, ?_⟩) (by assumption) ?_
  rotate_left
  · (intro w hSw; go_simp; try (with_reducible rfl))
  try simp only [Act.put, List.getElem_toArray, List.getElem_cons_zero, List.getElem_cons_succ, List.setIfInBounds_toArray, List.set_cons_zero, List.set_cons_succ]
  refine wpAnyH_take (i := 7) (v := ?_) rfl (by kernel_rfl) (by kernel_rfl) (by kernel_rfl) (fun _ _ _ h => h) (Or.inl ⟨by rfl, ?_⟩) (by assumption) ?_
  rotate_left
  · (intro w hSw; go_simp; try (with_reducible rfl))
  try simp only [Act.put, List.getElem_toArray, List.getElem_cons_zero, List.getElem_cons_succ, List.setIfInBounds_toArray, List.set_cons_zero, List.set_cons_succ]
  refine wpAnyH_take (i := 8) (v := ?_) rfl (by kernel_rfl) (by kernel_rfl) (by kernel_rfl) (fun _ _ _ h => h) (Or.inl ⟨by rfl, ?_⟩) (by assumption) ?_
  rotate_left
  · (intro w hSw; have hc0 := C2.out w hSw; go_simp; try (with_reducible rfl))
  try simp only [Act.put, List.getElem_toArray, List.getElem_cons_zero, List.getElem_cons_succ, List.setIfInBounds_toArray, List.set_cons_zero, List.set_cons_succ]
  refine wpAnyH_take (i := 9) (v := ?_) rfl (by kernel_rfl) (by kernel_rfl) (by kernel_rfl) (fun _ _ _ h => h) (Or.inl ⟨by rfl, ?_⟩) (by assumption) ?_
  rotate_left
  · (intro w hSw; go_simp; try (with_reducible rfl))
  try simp only [Act.put, List.getElem_toArray, List.getElem_cons_zero, List.getElem_cons_succ, List.setIfInBounds_toArray, List.set_cons_zero, List.set_cons_succ]
  refine wpAnyH_take (i := 10) (v := ?_) rfl (by kernel_rfl) (by kernel_rfl) (by kernel_rfl) (fun _ _ _ h => h) (Or.inl ⟨by rfl, ?_⟩) (by assumption) ?_
  rotate_left
  · (intro w hSw; go_simp; try (with_reducible rfl))
  try simp only [Act.put, List.getElem_toArray, List.getElem_cons_zero, List.getElem_cons_succ, List.setIfInBounds_toArray, List.set_cons_zero, List.set_cons_succ]
  refine wpAnyH_take (i := 11) (v := ?_) rfl (by kernel_rfl) (by kernel_rfl) (by kernel_rfl) (fun _ _ _ h => h) (Or.inl ⟨by rfl, ?_⟩) (by assumption) ?_
  rotate_left
  · (intro w hSw; go_simp; try (with_reducible rfl))
  try simp only [Act.put, List.getElem_toArray, List.getElem_cons_zero, List.getElem_cons_succ, List.setIfInBounds_toArray, List.set_cons_zero, List.set_cons_succ]
  refine wpAnyH_take (i := 12) (v := ?_) rfl (by kernel_rfl) (by kernel_rfl) (by kernel_rfl) (fun _ _ _ h => h) (Or.inl ⟨by rfl, ?_⟩) (by assumption) ?_
  rotate_left
  · (intro w hSw; go_simp; try (with_reducible rfl))
  try simp only [Act.put, List.getElem_toArray, List.getElem_cons_zero, List.getElem_cons_succ, List.setIfInBounds_toArray, List.set_cons_zero, List.set_cons_succ]
  refine wpAnyH_done (by kernel_rfl) ?_ _
  refine NoPanic.normal ?_
  go_wp2_with fail
  go_ret2
  exact ⟨rfl, (Below.refl _ _).drew⟩
end Go.Proofs.Yticdpidngmeebaa
/- How the landed Read reads is how the reference reads: plain facts. -/
namespace Go.Proofs.Yticdpidngmeebaa
open Go.RowKit
set_option linter.unusedVariables false
set_option maxRecDepth 20000

/-- What follows upon a run. -/
def contR (bs : List UInt8) (g i : Nat) (l : List ByteArray) (nx : Option Nat) (r : List ByteArray × Nat × Bool × Int) : ByteArray × Nat × Int :=
  match r with
  | (l2, e, p, er) =>
    if er ≠ 0 then (⟨#[]⟩, 0, er) else
    if p = false then (joinB (l ++ l2) ⟨#[46]⟩, nx.getD (e + 1), 0) else
    if bs.length ≤ e + 1 then (⟨#[]⟩, 0, 2) else
    if i ≤ toAt bs e then (⟨#[]⟩, 0, 2) else
    readB bs g (toAt bs e) (l ++ l2) (some (nx.getD (e + 2)))
theorem readB_cont (bs : List UInt8) (g i : Nat) (l : List ByteArray) (nx : Option Nat) : readB bs (g + 1) i l nx = contR bs g i l nx (runB bs (sizeL l - 1) (bs.length + 1 - i) i []) := rfl
/-- Where reading stands: at i, of a run that began at b, with labels l. -/
def RdSt (bs : List UInt8) (R : ByteArray × Nat × Int) (i b : Nat) (l : List ByteArray) (nx : Option Nat) : Prop :=
  ∃ f g l0 l2, bs.length + 1 ≤ i + f ∧ b ≤ g ∧ l = l0 ++ l2 ∧ sizeL l ≤ 255 ∧ contR bs g b l0 nx (runB bs (sizeL l0 - 1) f i l2) = R
theorem RdSt.start (bs : List UInt8) (at0 : Nat) : RdSt bs (readB bs (at0 + 1) at0 [] none) at0 at0 [] none :=
  ⟨bs.length + 1 - at0, at0, [], [], by omega, Nat.le_refl _, rfl, by decide, rfl⟩
section
variable {bs : List UInt8} {R : ByteArray × Nat × Int} {i b : Nat} {l : List ByteArray} {nx : Option Nat}
theorem RdSt.out (h : RdSt bs R i b l nx) (hi : bs.length ≤ i) : R = (⟨#[]⟩, 0, 2) := by
  obtain ⟨f, g, l0, l2, h1, h2, h3, h4, h5⟩ := h
  cases f with
  | zero => rw [← h5]; rfl
  | succ f =>
    unfold runB at h5
    rw [if_pos hi] at h5
    rw [← h5]; rfl
theorem RdSt.zero (h : RdSt bs R i b l nx) (hi : i < bs.length) (hn : (bs.getD i 0).toNat = 0) : R = (joinB l ⟨#[46]⟩, nx.getD (i + 1), 0) := by
  obtain ⟨f, g, l0, l2, h1, h2, h3, h4, h5⟩ := h
  obtain ⟨f, rfl⟩ : ∃ k, f = k + 1 := ⟨f - 1, by omega⟩
  unfold runB at h5
  rw [if_neg (by omega), if_pos hn] at h5
  rw [← h5, h3]; rfl
theorem RdSt.bad (h : RdSt bs R i b l nx) (hi : i < bs.length) (hn : 63 < (bs.getD i 0).toNat) (hn2 : (bs.getD i 0).toNat < 192) : R = (⟨#[]⟩, 0, 2) := by
  obtain ⟨f, g, l0, l2, h1, h2, h3, h4, h5⟩ := h
  obtain ⟨f, rfl⟩ : ∃ k, f = k + 1 := ⟨f - 1, by omega⟩
  unfold runB at h5
  rw [if_neg (by omega), if_neg (by omega), if_neg (by omega), if_pos (.inl hn)] at h5
  rw [← h5]; rfl
theorem RdSt.short (h : RdSt bs R i b l nx) (hi : i < bs.length) (hn : (bs.getD i 0).toNat ≠ 0) (hn2 : (bs.getD i 0).toNat ≤ 63) (hs : bs.length < i + 1 + (bs.getD i 0).toNat) : R = (⟨#[]⟩, 0, 2) := by
  obtain ⟨f, g, l0, l2, h1, h2, h3, h4, h5⟩ := h
  obtain ⟨f, rfl⟩ : ∃ k, f = k + 1 := ⟨f - 1, by omega⟩
  unfold runB at h5
  rw [if_neg (by omega), if_neg hn, if_neg (by omega), if_pos (.inr hs)] at h5
  rw [← h5]; rfl
theorem RdSt.dot (h : RdSt bs R i b l nx) (hi : i < bs.length) (hn : (bs.getD i 0).toNat ≠ 0) (hn2 : (bs.getD i 0).toNat ≤ 63) (hs : i + 1 + (bs.getD i 0).toNat ≤ bs.length) (hd : has8 (ownAt bs i (bs.getD i 0).toNat) 46 = true) : R = (⟨#[]⟩, 0, 2) := by
  obtain ⟨f, g, l0, l2, h1, h2, h3, h4, h5⟩ := h
  obtain ⟨f, rfl⟩ : ∃ k, f = k + 1 := ⟨f - 1, by omega⟩
  unfold runB at h5
  rw [if_neg (by omega), if_neg hn, if_neg (by omega), if_neg (by omega), if_pos hd] at h5
  rw [← h5]; rfl
theorem size_three (l0 l2 : List ByteArray) (x : ByteArray) : sizeL l0 - 1 + sizeL (l2 ++ [x]) = sizeL (l0 ++ l2 ++ [x]) := by
  have := sizeL_app l0 (l2 ++ [x])
  rw [← List.append_assoc] at this
  have := sizeL_pos l0
  omega
theorem size_snoc (l : List ByteArray) (x : ByteArray) : sizeL (l ++ [x]) = sizeL l + 1 + x.size := by
  have := sizeL_app l [x]
  have e : sizeL [x] = 2 + x.size := by
    show 1 + 1 + x.size = 2 + x.size
    omega
  omega
theorem RdSt.long (h : RdSt bs R i b l nx) (hi : i < bs.length) (hn : (bs.getD i 0).toNat ≠ 0) (hn2 : (bs.getD i 0).toNat ≤ 63) (hs : i + 1 + (bs.getD i 0).toNat ≤ bs.length) (hd : has8 (ownAt bs i (bs.getD i 0).toNat) 46 = false) (hz : 255 < sizeL (l ++ [ownAt bs i (bs.getD i 0).toNat])) : R = (⟨#[]⟩, 0, 3) := by
  obtain ⟨f, g, l0, l2, h1, h2, h3, h4, h5⟩ := h
  obtain ⟨f, rfl⟩ : ∃ k, f = k + 1 := ⟨f - 1, by omega⟩
  unfold runB at h5
  rw [if_neg (by omega), if_neg hn, if_neg (by omega), if_neg (by omega), hd, if_neg (by decide), if_pos (by rw [size_three, ← h3]; exact hz)] at h5
  rw [← h5]; rfl
theorem RdSt.lab (h : RdSt bs R i b l nx) (hi : i < bs.length) (hn : (bs.getD i 0).toNat ≠ 0) (hn2 : (bs.getD i 0).toNat ≤ 63) (hs : i + 1 + (bs.getD i 0).toNat ≤ bs.length) (hd : has8 (ownAt bs i (bs.getD i 0).toNat) 46 = false) (hz : sizeL (l ++ [ownAt bs i (bs.getD i 0).toNat]) ≤ 255) : RdSt bs R (i + 1 + (bs.getD i 0).toNat) b (l ++ [ownAt bs i (bs.getD i 0).toNat]) nx := by
  obtain ⟨f, g, l0, l2, h1, h2, h3, h4, h5⟩ := h
  obtain ⟨f, rfl⟩ : ∃ k, f = k + 1 := ⟨f - 1, by omega⟩
  unfold runB at h5
  rw [if_neg (by omega), if_neg hn, if_neg (by omega), if_neg (by omega), hd, if_neg (by decide), if_neg (by rw [size_three, ← h3]; omega)] at h5
  exact ⟨f, g, l0, _, by omega, h2, by rw [h3, List.append_assoc], hz, h5⟩
theorem RdSt.ptr1 (h : RdSt bs R i b l nx) (hi : i < bs.length) (hn : 192 ≤ (bs.getD i 0).toNat) (he : bs.length ≤ i + 1) : R = (⟨#[]⟩, 0, 2) := by
  obtain ⟨f, g, l0, l2, h1, h2, h3, h4, h5⟩ := h
  obtain ⟨f, rfl⟩ : ∃ k, f = k + 1 := ⟨f - 1, by omega⟩
  unfold runB at h5
  rw [if_neg (by omega), if_neg (by omega), if_pos hn] at h5
  unfold contR at h5
  simp only at h5
  rw [if_neg (by decide), if_neg (by decide), if_pos he] at h5
  exact h5.symm
theorem RdSt.ptr2 (h : RdSt bs R i b l nx) (hi : i < bs.length) (hn : 192 ≤ (bs.getD i 0).toNat) (he : i + 1 < bs.length) (ht : b ≤ toAt bs i) : R = (⟨#[]⟩, 0, 2) := by
  obtain ⟨f, g, l0, l2, h1, h2, h3, h4, h5⟩ := h
  obtain ⟨f, rfl⟩ : ∃ k, f = k + 1 := ⟨f - 1, by omega⟩
  unfold runB at h5
  rw [if_neg (by omega), if_neg (by omega), if_pos hn] at h5
  unfold contR at h5
  simp only at h5
  rw [if_neg (by decide), if_neg (by decide), if_neg (by omega), if_pos ht] at h5
  exact h5.symm
theorem RdSt.ptr (h : RdSt bs R i b l nx) (hi : i < bs.length) (hn : 192 ≤ (bs.getD i 0).toNat) (he : i + 1 < bs.length) (ht : toAt bs i < b) : RdSt bs R (toAt bs i) (toAt bs i) l (some (nx.getD (i + 2))) := by
  obtain ⟨f, g, l0, l2, h1, h2, h3, h4, h5⟩ := h
  obtain ⟨f, rfl⟩ : ∃ k, f = k + 1 := ⟨f - 1, by omega⟩
  unfold runB at h5
  rw [if_neg (by omega), if_neg (by omega), if_pos hn] at h5
  unfold contR at h5
  simp only at h5
  rw [if_neg (by decide), if_neg (by decide), if_neg (by omega), if_neg (by omega)] at h5
  obtain ⟨g, rfl⟩ : ∃ k, g = k + 1 := ⟨g - 1, by omega⟩
  rw [readB_cont] at h5
  exact ⟨_, g, l0 ++ l2, [], by omega, by omega, by rw [List.append_nil]; exact h3, h4, h5⟩
theorem RdSt.small (h : RdSt bs R i b l nx) : sizeL l ≤ 255 := by
  obtain ⟨f, g, l0, l2, h1, h2, h3, h4, h5⟩ := h
  exact h4
end
theorem meas8 {T b N i : Nat} (h : T < b) : T * (N + 2) + (N + 1 - T) < b * (N + 2) + (N + 1 - i) := by
  have h1 := Nat.mul_le_mul_right (N + 2) (show T + 1 ≤ b from h)
  rw [Nat.succ_mul] at h1
  omega
end Go.Proofs.Yticdpidngmeebaa
