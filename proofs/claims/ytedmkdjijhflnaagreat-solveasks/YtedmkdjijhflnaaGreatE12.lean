/- Texts that belong together, one behind the other: RefWireWrite, SolLaw, SolLives, Digits, MatOwnFo, MatHelp. -/
import Derived.Test.YtedmkdjijhflnaaGreatE11
import Derived.Deep.CutRange
import Derived.OpenShut
import Derived.Deep.RegionHeld3
set_option linter.unusedVariables false
set_option linter.unusedSimpArgs false
set_option maxRecDepth 20000
namespace Go.Proofs.YtedmkdjijhflnaaGreat
open Go.RowKit

theorem wp_load_W9 {op : Oper} {a : Act} {w : World} {K : Act → World → Prop} {Q : Exit → Act → World → Prop} {G : Nat} {vs : List Value} (hA : Hid (CellsAt w G vs)) (hl : vs.length = 3) (x : Operand) (ho : op.op = .load 133 x)
    (hx : a.eval x = .pointer (some ⟨G, 0, none⟩)) (h : K (a.put op.dst (.agg vs.toArray)) w) : op.wp Tryz.prog a w K Q :=
  wp_load_mid 133 x ho G 0 hx vs _ hA.out.range Tryz.underlying133 rfl (by rw [w_size, hl]) h
theorem ready_one_two {P : Program} {md : Region.Mode} {ops : Array Oper} {Q : Exit → Act → World → Prop} {S : World → Prop} {fuel : Nat} {listed : Array Bool} {a : Act} {w : World} {i : Nat} {rs : List Nat} {o : Oper} (ho : ops[i]? = some o) (hw : Region.wanted o (yielded ops a.tmps) = true)
    (h : ∀ K' : Act → World → Prop, Shut (∀ a w, S w → (S w → wpAnyH P md ops Q S fuel (listed.setIfInBounds i true) a w) → K' a w) → Oper.wp P o a w K' Q) (hs : AllReadyH P md ops Q S fuel listed a w rs) : AllReadyH P md ops Q S fuel listed a w (i :: rs) :=
  AllReadyH.cons ho (fun K hK => by rw [if_pos hw]; exact h K hK) hs
theorem Wok.qs {K : Nat} : ∀ (D : List Qu) (t : Wst), Wok K t → (∀ q ∈ D, mayQ9 q = true) → Wok (K + D.length * 16304) (D.foldl qW t)
  | [], t, h, _ => h.wider (by simp)
  | q :: D, t, h, hm => by
    have h1 := h.q (hm q (List.mem_cons_self ..))
    rw [List.foldl_cons]
    exact (Wok.qs (K := K + 16304) D _ h1 (fun x hx => hm x (List.mem_cons_of_mem _ hx))).wider (by rw [List.length_cons]; omega)
theorem Wok.rs : ∀ (D : List Rec) (K : Nat) (t : Wst), Wok K t → (∀ r ∈ D, mayR r = true) → (∀ r ∈ D, Fit r) → Wok (K + D.length * 81845) (D.foldl rW t)
  | [], _, t, h, _, _ => h.wider (by simp)
  | r :: D, K, t, h, hm, hf => by
    have h1 := (h.r (hm r (List.mem_cons_self ..)) (hf r (List.mem_cons_self ..)).1).1
    rw [List.foldl_cons]
    exact (Wok.rs D (K + 81845) _ h1 (fun x hx => hm x (List.mem_cons_of_mem _ hx)) (fun x hx => hf x (List.mem_cons_of_mem _ hx))).wider (by rw [List.length_cons]; omega)
theorem yields_W9S {ops : Array Oper} {S : World → Prop} {op : Oper} {a : Act} {G : Nat} {vs : List Value} (hS : Hid (∀ V, S V → V.rangeAt G 0 vs)) (hl : vs.length = 3) (hw : Region.wanted op (yielded ops a.tmps) = true) (x : Operand) (ho : op.op = .load 133 x)
    (hx : a.eval x = .pointer (some ⟨G, 0, none⟩)) : YieldsIf Tryz.prog ops S op (.agg vs.toArray) a :=
  yieldsIf_load_mid hw 133 x ho G 0 hx _ _ (fun w h => hS.out w h) Tryz.underlying133 rfl (by rw [w_size, hl])
def lists9 (m : Msg) : List (List Rec) := [m.an, m.au, m.mo]
def pre9 (m : Msg) (k : Nat) : List Rec := ((lists9 m).take k).flatten
theorem pre9_succ (m : Msg) (k : Nat) (D : List Rec) (h : (lists9 m)[k]? = some D) : pre9 m (k + 1) = pre9 m k ++ D := by
  unfold pre9
  rw [List.take_add_one, h]
  simp
theorem pre9_mem (m : Msg) (k : Nat) (D : List Rec) (h : (lists9 m)[k]? = some D) (j : Nat) : (∀ P : Rec → Prop, (∀ r ∈ m.an, P r) → (∀ r ∈ m.au, P r) → (∀ r ∈ m.mo, P r) → ∀ r ∈ pre9 m k ++ D.take j, P r) ∧ (pre9 m k ++ D.take j).length ≤ m.an.length + m.au.length + m.mo.length := by
  have hk : k < 3 := (List.getElem?_eq_some_iff.1 h).1
  have hl : (D.take j).length ≤ D.length := by rw [List.length_take]; omega
  match k, hk with
  | 0, _ =>
    cases h
    refine ⟨fun P h1 h2 h3 r hr => ?_, ?_⟩
    · simp only [pre9, lists9, List.take_zero, List.flatten_nil, List.nil_append] at hr
      exact h1 r (List.mem_of_mem_take hr)
    · simp only [pre9, lists9, List.take_zero, List.flatten_nil, List.nil_append]
      omega
  | 1, _ =>
    cases h
    refine ⟨fun P h1 h2 h3 r hr => ?_, ?_⟩
    · simp [pre9, lists9] at hr
      rcases hr with hr | hr
      · exact h1 r hr
      · exact h2 r (List.mem_of_mem_take hr)
    · simp [pre9, lists9]
      omega
  | 2, _ =>
    cases h
    refine ⟨fun P h1 h2 h3 r hr => ?_, ?_⟩
    · simp [pre9, lists9] at hr
      rcases hr with hr | hr | hr
      · exact h1 r hr
      · exact h2 r hr
      · exact h3 r (List.mem_of_mem_take hr)
    · simp [pre9, lists9]
      omega
theorem pre9_whole (m : Msg) : (pre9 m 3).foldl rW (m.qs.foldl qW (hdB m, [], [])) = wM m := by
  simp [pre9, lists9, wM, List.foldl_append]
set_option maxRecDepth 100000 in
set_option maxHeartbeats 8000000 in
theorem refWrite9_any (m : Msg) (aq a1 a2 a3 : Option Addr) (cq c1 c2 c3 : Nat) (w : World) (hM : MsgIn w m aq a1 a2 a3 cq c1 c2 c3) (hmm : mayM m = true) (hl : Len4 m)
    (hk : 12 + m.qs.length * 16304 + (m.an.length + m.au.length + m.mo.length) * 81845 ≤ 900000) :
    Calls Tryz.prog 25 #[msgV m aq a1 a2 a3 cq c1 c2 c3] w fun e w' => ∃ v', e = .returned v' ∧ w'.ownsRow w.heap.size 5 1 v' (wB m).length (bys (wB m)) ∧ Below w.heap.size w w' := by
  unfold msgV
  have hpa := mayM_parts hmm
  obtain ⟨idn, hid⟩ : ∃ n : Nat, m.id = (n : Int) := ⟨m.id.toNat, by have := hpa.2.1; omega⟩
  obtain ⟨fln, hfl⟩ : ∃ n : Nat, m.fl = (n : Int) := ⟨m.fl.toNat, by have := hpa.2.2.1; omega⟩
  obtain ⟨n0, h0⟩ : ∃ n, m.qs.length = n := ⟨_, rfl⟩
  obtain ⟨n1, h1⟩ : ∃ n, m.an.length = n := ⟨_, rfl⟩
  obtain ⟨n2, h2⟩ : ∃ n, m.au.length = n := ⟨_, rfl⟩
  obtain ⟨n3, h3⟩ : ∃ n, m.mo.length = n := ⟨_, rfl⟩
  have HNS : Hid (m.qs.length = n0 ∧ m.an.length = n1 ∧ m.au.length = n2 ∧ m.mo.length = n3) := Lib.hid ⟨h0, h1, h2, h3⟩
  have HNB : Hid (idn ≤ 65535 ∧ fln ≤ 65535 ∧ n0 ≤ 65535 ∧ n1 ≤ 65535 ∧ n2 ≤ 65535 ∧ n3 ≤ 65535) := Lib.hid ⟨by have := hpa.2.1; omega, by have := hpa.2.2.1; omega, h0 ▸ hl.1, h1 ▸ hl.2.1, h2 ▸ hl.2.2.1, h3 ▸ hl.2.2.2⟩
  have HIF : Hid (m.id = (idn : Int) ∧ m.fl = (fln : Int)) := Lib.hid ⟨hid, hfl⟩
  have HPA := Lib.hid hpa
  have HMI := Lib.hid hM
  have HKM := Lib.hid hk
  rw [hid, hfl, h0, h1, h2, h3]
  clear hpa hid hfl h0 h1 h2 h3 hM hk hmm hl
  obtain ⟨mc, hmc⟩ : ∃ mc : List Value, [.int .i64 (idn : Int), .int .i64 (fln : Int), .slice aq n0 cq, .slice a1 n1 c1, .slice a2 n2 c2, .slice a3 n3 c3] = mc := ⟨_, rfl⟩
  have HS0 : Hid (St9 w w.heap.size [] [(w.heap.size + 1, 0, zW), (w.heap.size, 0, [.int .i64 (idn : Int), .int .i64 (fln : Int), .slice aq n0 cq, .slice a1 n1 c1, .slice a2 n2 c2, .slice a3 n3 c3])] (.slice none 0 0) (.slice none 0 0) (.slice none 0 0) ([], [], []) ((w.alloc (.cells #[.int .i64 (idn : Int), .int .i64 (fln : Int), .slice aq n0 cq, .slice a1 n1 c1, .slice a2 n2 c2, .slice a3 n3 c3] 83)).alloc (.cells #[.slice none 0 0, .slice none 0 0, .slice none 0 0] 133))) := Lib.hid (by
    have := ((St9.begin (w := w) (B := w.heap.size) (vB := .slice none 0 0) (vN := .slice none 0 0) (vA := .slice none 0 0) (t := ([], [], [])) ⟨World.ownsRow_nil _ _ _ _, World.ownsRow_nil _ _ _ _, World.ownsRow_nil _ _ _ _⟩ (Nat.le_refl _)).alloc [.int .i64 (idn : Int), .int .i64 (fln : Int), .slice aq n0 cq, .slice a1 n1 c1, .slice a2 n2 c2, .slice a3 n3 c3] 83).alloc zW 133
    simpa [blk3, Value.ownBlock] using this)
  obtain ⟨W, hW⟩ : ∃ W, (w.alloc (.cells #[.int .i64 (idn : Int), .int .i64 (fln : Int), .slice aq n0 cq, .slice a1 n1 c1, .slice a2 n2 c2, .slice a3 n3 c3] 83)).alloc (.cells #[.slice none 0 0, .slice none 0 0, .slice none 0 0] 133) = W := ⟨_, rfl⟩
  rw [hW, hmc] at HS0
  obtain ⟨G, hG⟩ : ∃ G, w.heap.size = G := ⟨_, rfl⟩
  have HG := Lib.hid hG
  rw [hG] at HS0
  have HMC : Hid (∀ V : World, V.rangeAt G 0 mc → V.cell? ⟨G, 0, none⟩ = some (.int .i64 (idn : Int)) ∧ V.cell? ⟨G, 1, none⟩ = some (.int .i64 (fln : Int)) ∧ V.cell? ⟨G, 2, none⟩ = some (.slice aq n0 cq) ∧ V.cell? ⟨G, 3, none⟩ = some (.slice a1 n1 c1) ∧ V.cell? ⟨G, 4, none⟩ = some (.slice a2 n2 c2) ∧ V.cell? ⟨G, 5, none⟩ = some (.slice a3 n3 c3)) := Lib.hid (fun V h => by
    rw [← hmc] at h
    exact ⟨h 0 _ rfl, h 1 _ rfl, h 2 _ rfl, h 3 _ rfl, h 4 _ rfl, h 5 _ rfl⟩)
  clear hmc
  go_enter Tryz.func25, Tryz.ntmps25
  go_upto_region 2 with fail
  try rw [hW]
  clear hW
  try rw [hG]
  clear hG
  obtain ⟨L2, hL2⟩ : ∃ L2 : List (Nat × Nat × List Value), [(G, 0, mc)] = L2 := ⟨_, rfl⟩
  rw [hL2] at HS0
  have HI : Hid ((G, 0, mc) ∈ L2) := Lib.hid (by rw [← hL2]; simp)
  have HN0 : Hid (∀ x ∈ L2, x.1 ≠ G + 1) := Lib.hid (fun x hx => by rw [← hL2] at hx; simp at hx; subst hx; simp only; omega)
  have HSS : Hid (∀ us V, HeldS ((G + 1, 0, us) :: L2) V → HeldS L2 V) := Lib.hid (fun us V hv x hx => hv x (List.mem_cons_of_mem _ hx))
  have C0 : Hid (∀ V, HeldS L2 V → V.cell? ⟨G, 0, none⟩ = some (.int .i64 (idn : Int))) := Lib.hid (fun V hv => (HMC.out V (hv _ HI.out)).1)
  have C1 : Hid (∀ V, HeldS L2 V → V.cell? ⟨G, 1, none⟩ = some (.int .i64 (fln : Int))) := Lib.hid (fun V hv => (HMC.out V (hv _ HI.out)).2.1)
  have C2 : Hid (∀ V, HeldS L2 V → V.cell? ⟨G, 2, none⟩ = some (.slice aq n0 cq)) := Lib.hid (fun V hv => (HMC.out V (hv _ HI.out)).2.2.1)
  have C3 : Hid (∀ V, HeldS L2 V → V.cell? ⟨G, 3, none⟩ = some (.slice a1 n1 c1)) := Lib.hid (fun V hv => (HMC.out V (hv _ HI.out)).2.2.2.1)
  have C4 : Hid (∀ V, HeldS L2 V → V.cell? ⟨G, 4, none⟩ = some (.slice a2 n2 c2)) := Lib.hid (fun V hv => (HMC.out V (hv _ HI.out)).2.2.2.2.1)
  have C5 : Hid (∀ V, HeldS L2 V → V.cell? ⟨G, 5, none⟩ = some (.slice a3 n3 c3)) := Lib.hid (fun V hv => (HMC.out V (hv _ HI.out)).2.2.2.2.2)
  clear hL2
  have HS := HS0
  clear HS0
  go_cut [] from 10 (fun wx => ∃ b n a, Hid (St9 w G [] ((G + 1, 0, [b, n, a]) :: L2) b n a ([] ++ twoL idn, [], []) wx))
  case first =>
    refine wp_region_noPanic ?_
    replace HS := Lib.hid HS.out.drew
    refine wp_region_held_drew (S := HeldS L2) (by kernel_rfl) (HSS.out _ _ HS.out.kept.at0) (fun hHeld => ?_)
    obtain ⟨U, hU⟩ : ∃ U, W.drew = U := ⟨_, rfl⟩
    rw [hU] at HS hHeld ⊢
    clear hU
    refine tkT 1 ?_ rfl (Or.inl ⟨by rfl, ?_⟩) ?_
    rotate_left
    · (intro w hSw; go_simp; try (with_reducible rfl))
    try simp only [Act.put, pZ]
    refine tkT 2 ?_ rfl (Or.inl ⟨by rfl, ?_⟩) ?_
    rotate_left
    · (intro w hSw; have hc0 := C0.out w hSw; go_simp; try (with_reducible rfl))
    try simp only [Act.put, pZ]
    refine wpAnyH_ready (rs := [0, 3]) (by kernel_rfl) (by simp) ?_
    refine ready_one_two rfl rfl (fun K hK => ?_) (AllReadyH.cons rfl (fun K hK => ?_) AllReadyH.nil)
    · have HLR := Lib.hid (HS.out.cells (List.mem_cons_self ..))
      refine wp_load_W9 HLR rfl _ rfl rfl ?_
      refine hK.out _ _ (HSS.out _ _ HS.out.kept.at0) (fun hHeldl => ?_)
      clear hK K HLR
      try simp only [Act.put, pZ]
      have HTW := Lib.hid (HS.out.twoc (n := idn) (by have := HNB.out; omega))
      refine wpAnyH_ready (rs := [3]) (by kernel_rfl) (by simp) ?_
      refine AllReadyH.cons rfl (fun K hK => ?_) AllReadyH.nil
      go_simp
      refine HTW.out.mono ?_
      rintro e wt3 ⟨rfl, hm, hs⟩
      have HM := Lib.hid hm
      replace HS := Lib.hid hs
      clear hm hs HTW
      go_wp2_with fail
      refine hK.out _ _ (HSS.out _ _ HS.out.kept.at0) (fun hHeldt3 => ?_)
      clear hK K
      try simp only [Act.put, pZ]
      refine wpAnyH_ready (rs := [4]) (by kernel_rfl) (by simp) ?_
      refine AllReadyH.cons rfl (fun K hK => ?_) AllReadyH.nil
      go_simp
      refine (HS.out.putc HM.out (by (try simp only [List.length_append, List.length_nil]); (try simp only [twoL_len]); omega) rfl).mono ?_
      rintro e wp4 ⟨b4, n4, a4, rfl, hs⟩
      replace HS := Lib.hid hs
      clear hs HM
      go_wp2_with fail
      refine hK.out _ _ (HSS.out _ _ HS.out.kept.at0) (fun hHeldp4 => ?_)
      clear hK K
      try simp only [Act.put, pZ]
      refine wpAnyH_ready (rs := [5]) (by kernel_rfl) (by simp) ?_
      refine ready_one rfl rfl (fun K hK => ?_)
      have HC0 := Lib.hid (HS.out.cells (List.mem_cons_self ..))
      refine wp_store_W9 HC0 rfl _ _ rfl rfl rfl rfl HS.out.rows.one (fun Vz HV HVC => ?_)
      replace HS := HS.out.set HN0.out (by have := HG.out; omega) [b4, n4, a4] rfl
      rw [← HV.out] at HS
      replace HS := Lib.hid HS
      refine hK.out _ _ (HSS.out _ _ HS.out.kept.at0) (fun hHeldz => ?_)
      clear hK K HC0 HV HVC
      try simp only [Act.put, List.getElem_toArray, List.getElem_cons_zero, List.getElem_cons_succ]
      refine wpAnyH_done (by kernel_rfl) ?_ _
      refine NoPanic.normal ?_
      go_wp2_with fail
      go_meet
      case rel => exact ⟨_, _, _, HS⟩
    · have HTW := Lib.hid (HS.out.twoc (n := idn) (by have := HNB.out; omega))
      go_simp
      refine HTW.out.mono ?_
      rintro e wt3 ⟨rfl, hm, hs⟩
      have HM := Lib.hid hm
      replace HS := Lib.hid hs
      clear hm hs HTW
      go_wp2_with fail
      refine hK.out _ _ (HSS.out _ _ HS.out.kept.at0) (fun hHeldt3 => ?_)
      clear hK K
      try simp only [Act.put, pZ]
      refine wpAnyH_ready (rs := [0]) (by kernel_rfl) (by simp) ?_
      refine ready_one rfl rfl (fun K hK => ?_)
      have HLR := Lib.hid (HS.out.cells (List.mem_cons_self ..))
      refine wp_load_W9 HLR rfl _ rfl rfl ?_
      refine hK.out _ _ (HSS.out _ _ HS.out.kept.at0) (fun hHeldl => ?_)
      clear hK K HLR
      try simp only [Act.put, pZ]
      refine wpAnyH_ready (rs := [4]) (by kernel_rfl) (by simp) ?_
      refine AllReadyH.cons rfl (fun K hK => ?_) AllReadyH.nil
      go_simp
      refine (HS.out.putc HM.out (by (try simp only [List.length_append, List.length_nil]); (try simp only [twoL_len]); omega) rfl).mono ?_
      rintro e wp4 ⟨b4, n4, a4, rfl, hs⟩
      replace HS := Lib.hid hs
      clear hs HM
      go_wp2_with fail
      refine hK.out _ _ (HSS.out _ _ HS.out.kept.at0) (fun hHeldp4 => ?_)
      clear hK K
      try simp only [Act.put, pZ]
      refine wpAnyH_ready (rs := [5]) (by kernel_rfl) (by simp) ?_
      refine ready_one rfl rfl (fun K hK => ?_)
      have HC0 := Lib.hid (HS.out.cells (List.mem_cons_self ..))
      refine wp_store_W9 HC0 rfl _ _ rfl rfl rfl rfl HS.out.rows.one (fun Vz HV HVC => ?_)
      replace HS := HS.out.set HN0.out (by have := HG.out; omega) [b4, n4, a4] rfl
      rw [← HV.out] at HS
      replace HS := Lib.hid HS
      refine hK.out _ _ (HSS.out _ _ HS.out.kept.at0) (fun hHeldz => ?_)
      clear hK K HC0 HV HVC
      try simp only [Act.put, List.getElem_toArray, List.getElem_cons_zero, List.getElem_cons_succ]
      refine wpAnyH_done (by kernel_rfl) ?_ _
      refine NoPanic.normal ?_
      go_wp2_with fail
      go_meet
      case rel => exact ⟨_, _, _, HS⟩
  case rest =>
    clear HS
    obtain ⟨vb, vn, va, HS⟩ := hcut
    go_upto_region 3 with fail
    go_cut [] from 10 (fun wx => ∃ b n a, Hid (St9 w G [] ((G + 1, 0, [b, n, a]) :: L2) b n a ([] ++ twoL idn ++ twoL fln, [], []) wx))
    case first =>
      refine wp_region_noPanic ?_
      replace HS := Lib.hid HS.out.drew
      refine wp_region_held_drew (S := HeldS L2) (by kernel_rfl) (HSS.out _ _ HS.out.kept.at0) (fun hHeld => ?_)
      obtain ⟨U, hU⟩ : ∃ U, wc.drew = U := ⟨_, rfl⟩
      rw [hU] at HS hHeld ⊢
      clear hU
      refine tkT 1 ?_ rfl (Or.inl ⟨by rfl, ?_⟩) ?_
      rotate_left
      · (intro w hSw; go_simp; try (with_reducible rfl))
      try simp only [Act.put, pZ]
      refine tkT 2 ?_ rfl (Or.inl ⟨by rfl, ?_⟩) ?_
      rotate_left
      · (intro w hSw; have hc0 := C1.out w hSw; go_simp; try (with_reducible rfl))
      try simp only [Act.put, pZ]
      refine wpAnyH_ready (rs := [0, 3]) (by kernel_rfl) (by simp) ?_
      refine ready_one_two rfl rfl (fun K hK => ?_) (AllReadyH.cons rfl (fun K hK => ?_) AllReadyH.nil)
      · have HLR := Lib.hid (HS.out.cells (List.mem_cons_self ..))
        refine wp_load_W9 HLR rfl _ rfl rfl ?_
        refine hK.out _ _ (HSS.out _ _ HS.out.kept.at0) (fun hHeldl => ?_)
        clear hK K HLR
        try simp only [Act.put, pZ]
        have HTW := Lib.hid (HS.out.twoc (n := fln) (by have := HNB.out; omega))
        refine wpAnyH_ready (rs := [3]) (by kernel_rfl) (by simp) ?_
        refine AllReadyH.cons rfl (fun K hK => ?_) AllReadyH.nil
        go_simp
        refine HTW.out.mono ?_
        rintro e wt3 ⟨rfl, hm, hs⟩
        have HM := Lib.hid hm
        replace HS := Lib.hid hs
        clear hm hs HTW
        go_wp2_with fail
        refine hK.out _ _ (HSS.out _ _ HS.out.kept.at0) (fun hHeldt3 => ?_)
        clear hK K
        try simp only [Act.put, pZ]
        refine wpAnyH_ready (rs := [4]) (by kernel_rfl) (by simp) ?_
        refine AllReadyH.cons rfl (fun K hK => ?_) AllReadyH.nil
        go_simp
        refine (HS.out.putc HM.out (by (try simp only [List.length_append, List.length_nil]); (try simp only [twoL_len]); omega) rfl).mono ?_
        rintro e wp4 ⟨b4, n4, a4, rfl, hs⟩
        replace HS := Lib.hid hs
        clear hs HM
        go_wp2_with fail
        refine hK.out _ _ (HSS.out _ _ HS.out.kept.at0) (fun hHeldp4 => ?_)
        clear hK K
        try simp only [Act.put, pZ]
        refine wpAnyH_ready (rs := [5]) (by kernel_rfl) (by simp) ?_
        refine ready_one rfl rfl (fun K hK => ?_)
        have HC0 := Lib.hid (HS.out.cells (List.mem_cons_self ..))
        refine wp_store_W9 HC0 rfl _ _ rfl rfl rfl rfl HS.out.rows.one (fun Vz HV HVC => ?_)
        replace HS := HS.out.set HN0.out (by have := HG.out; omega) [b4, n4, a4] rfl
        rw [← HV.out] at HS
        replace HS := Lib.hid HS
        refine hK.out _ _ (HSS.out _ _ HS.out.kept.at0) (fun hHeldz => ?_)
        clear hK K HC0 HV HVC
        try simp only [Act.put, List.getElem_toArray, List.getElem_cons_zero, List.getElem_cons_succ]
        refine wpAnyH_done (by kernel_rfl) ?_ _
        refine NoPanic.normal ?_
        go_wp2_with fail
        go_meet
        case rel => exact ⟨_, _, _, HS⟩
      · have HTW := Lib.hid (HS.out.twoc (n := fln) (by have := HNB.out; omega))
        go_simp
        refine HTW.out.mono ?_
        rintro e wt3 ⟨rfl, hm, hs⟩
        have HM := Lib.hid hm
        replace HS := Lib.hid hs
        clear hm hs HTW
        go_wp2_with fail
        refine hK.out _ _ (HSS.out _ _ HS.out.kept.at0) (fun hHeldt3 => ?_)
        clear hK K
        try simp only [Act.put, pZ]
        refine wpAnyH_ready (rs := [0]) (by kernel_rfl) (by simp) ?_
        refine ready_one rfl rfl (fun K hK => ?_)
        have HLR := Lib.hid (HS.out.cells (List.mem_cons_self ..))
        refine wp_load_W9 HLR rfl _ rfl rfl ?_
        refine hK.out _ _ (HSS.out _ _ HS.out.kept.at0) (fun hHeldl => ?_)
        clear hK K HLR
        try simp only [Act.put, pZ]
        refine wpAnyH_ready (rs := [4]) (by kernel_rfl) (by simp) ?_
        refine AllReadyH.cons rfl (fun K hK => ?_) AllReadyH.nil
        go_simp
        refine (HS.out.putc HM.out (by (try simp only [List.length_append, List.length_nil]); (try simp only [twoL_len]); omega) rfl).mono ?_
        rintro e wp4 ⟨b4, n4, a4, rfl, hs⟩
        replace HS := Lib.hid hs
        clear hs HM
        go_wp2_with fail
        refine hK.out _ _ (HSS.out _ _ HS.out.kept.at0) (fun hHeldp4 => ?_)
        clear hK K
        try simp only [Act.put, pZ]
        refine wpAnyH_ready (rs := [5]) (by kernel_rfl) (by simp) ?_
        refine ready_one rfl rfl (fun K hK => ?_)
        have HC0 := Lib.hid (HS.out.cells (List.mem_cons_self ..))
        refine wp_store_W9 HC0 rfl _ _ rfl rfl rfl rfl HS.out.rows.one (fun Vz HV HVC => ?_)
        replace HS := HS.out.set HN0.out (by have := HG.out; omega) [b4, n4, a4] rfl
        rw [← HV.out] at HS
        replace HS := Lib.hid HS
        refine hK.out _ _ (HSS.out _ _ HS.out.kept.at0) (fun hHeldz => ?_)
        clear hK K HC0 HV HVC
        try simp only [Act.put, List.getElem_toArray, List.getElem_cons_zero, List.getElem_cons_succ]
        refine wpAnyH_done (by kernel_rfl) ?_ _
        refine NoPanic.normal ?_
        go_wp2_with fail
        go_meet
        case rel => exact ⟨_, _, _, HS⟩
    case rest =>
      clear HS
      obtain ⟨vb, vn, va, HS⟩ := hcut
      go_upto_region 4 with fail
      go_cut [] from 10 (fun wx => ∃ b n a, Hid (St9 w G [] ((G + 1, 0, [b, n, a]) :: L2) b n a ([] ++ twoL idn ++ twoL fln ++ twoL n0, [], []) wx))
      case first =>
        refine wp_region_noPanic ?_
        replace HS := Lib.hid HS.out.drew
        refine wp_region_held_drew (S := HeldS L2) (by kernel_rfl) (HSS.out _ _ HS.out.kept.at0) (fun hHeld => ?_)
        obtain ⟨U, hU⟩ : ∃ U, wc.drew = U := ⟨_, rfl⟩
        rw [hU] at HS hHeld ⊢
        clear hU
        refine tkT 1 ?_ rfl (Or.inl ⟨by rfl, ?_⟩) ?_
        rotate_left
        · (intro w hSw; go_simp; try (with_reducible rfl))
        try simp only [Act.put, pZ]
        refine tkT 2 ?_ rfl (Or.inl ⟨by rfl, ?_⟩) ?_
        rotate_left
        · (intro w hSw; have hc0 := C2.out w hSw; go_simp; try (with_reducible rfl))
        try simp only [Act.put, pZ]
        refine tkT 3 ?_ rfl (Or.inl ⟨by rfl, ?_⟩) ?_
        rotate_left
        · (intro w hSw; go_simp; try (with_reducible rfl))
        try simp only [Act.put, pZ]
        refine wpAnyH_ready (rs := [0, 4]) (by kernel_rfl) (by simp) ?_
        refine ready_one_two rfl rfl (fun K hK => ?_) (AllReadyH.cons rfl (fun K hK => ?_) AllReadyH.nil)
        · have HLR := Lib.hid (HS.out.cells (List.mem_cons_self ..))
          refine wp_load_W9 HLR rfl _ rfl rfl ?_
          refine hK.out _ _ (HSS.out _ _ HS.out.kept.at0) (fun hHeldl => ?_)
          clear hK K HLR
          try simp only [Act.put, pZ]
          have HTW := Lib.hid (HS.out.twoc (n := n0) (by have := HNB.out; omega))
          refine wpAnyH_ready (rs := [4]) (by kernel_rfl) (by simp) ?_
          refine AllReadyH.cons rfl (fun K hK => ?_) AllReadyH.nil
          go_simp
          refine HTW.out.mono ?_
          rintro e wt4 ⟨rfl, hm, hs⟩
          have HM := Lib.hid hm
          replace HS := Lib.hid hs
          clear hm hs HTW
          go_wp2_with fail
          refine hK.out _ _ (HSS.out _ _ HS.out.kept.at0) (fun hHeldt4 => ?_)
          clear hK K
          try simp only [Act.put, pZ]
          refine wpAnyH_ready (rs := [5]) (by kernel_rfl) (by simp) ?_
          refine AllReadyH.cons rfl (fun K hK => ?_) AllReadyH.nil
          go_simp
          refine (HS.out.putc HM.out (by (try simp only [List.length_append, List.length_nil]); (try simp only [twoL_len]); omega) rfl).mono ?_
          rintro e wp5 ⟨b5, n5, a5, rfl, hs⟩
          replace HS := Lib.hid hs
          clear hs HM
          go_wp2_with fail
          refine hK.out _ _ (HSS.out _ _ HS.out.kept.at0) (fun hHeldp5 => ?_)
          clear hK K
          try simp only [Act.put, pZ]
          refine wpAnyH_ready (rs := [6]) (by kernel_rfl) (by simp) ?_
          refine ready_one rfl rfl (fun K hK => ?_)
          have HC0 := Lib.hid (HS.out.cells (List.mem_cons_self ..))
          refine wp_store_W9 HC0 rfl _ _ rfl rfl rfl rfl HS.out.rows.one (fun Vz HV HVC => ?_)
          replace HS := HS.out.set HN0.out (by have := HG.out; omega) [b5, n5, a5] rfl
          rw [← HV.out] at HS
          replace HS := Lib.hid HS
          refine hK.out _ _ (HSS.out _ _ HS.out.kept.at0) (fun hHeldz => ?_)
          clear hK K HC0 HV HVC
          try simp only [Act.put, List.getElem_toArray, List.getElem_cons_zero, List.getElem_cons_succ]
          refine wpAnyH_done (by kernel_rfl) ?_ _
          refine NoPanic.normal ?_
          go_wp2_with fail
          go_meet
          case rel => exact ⟨_, _, _, HS⟩
        · have HTW := Lib.hid (HS.out.twoc (n := n0) (by have := HNB.out; omega))
          go_simp
          refine HTW.out.mono ?_
          rintro e wt4 ⟨rfl, hm, hs⟩
          have HM := Lib.hid hm
          replace HS := Lib.hid hs
          clear hm hs HTW
          go_wp2_with fail
          refine hK.out _ _ (HSS.out _ _ HS.out.kept.at0) (fun hHeldt4 => ?_)
          clear hK K
          try simp only [Act.put, pZ]
          refine wpAnyH_ready (rs := [0]) (by kernel_rfl) (by simp) ?_
          refine ready_one rfl rfl (fun K hK => ?_)
          have HLR := Lib.hid (HS.out.cells (List.mem_cons_self ..))
          refine wp_load_W9 HLR rfl _ rfl rfl ?_
          refine hK.out _ _ (HSS.out _ _ HS.out.kept.at0) (fun hHeldl => ?_)
          clear hK K HLR
          try simp only [Act.put, pZ]
          refine wpAnyH_ready (rs := [5]) (by kernel_rfl) (by simp) ?_
          refine AllReadyH.cons rfl (fun K hK => ?_) AllReadyH.nil
          go_simp
          refine (HS.out.putc HM.out (by (try simp only [List.length_append, List.length_nil]); (try simp only [twoL_len]); omega) rfl).mono ?_
          rintro e wp5 ⟨b5, n5, a5, rfl, hs⟩
          replace HS := Lib.hid hs
          clear hs HM
          go_wp2_with fail
          refine hK.out _ _ (HSS.out _ _ HS.out.kept.at0) (fun hHeldp5 => ?_)
          clear hK K
          try simp only [Act.put, pZ]
          refine wpAnyH_ready (rs := [6]) (by kernel_rfl) (by simp) ?_
          refine ready_one rfl rfl (fun K hK => ?_)
          have HC0 := Lib.hid (HS.out.cells (List.mem_cons_self ..))
          refine wp_store_W9 HC0 rfl _ _ rfl rfl rfl rfl HS.out.rows.one (fun Vz HV HVC => ?_)
          replace HS := HS.out.set HN0.out (by have := HG.out; omega) [b5, n5, a5] rfl
          rw [← HV.out] at HS
          replace HS := Lib.hid HS
          refine hK.out _ _ (HSS.out _ _ HS.out.kept.at0) (fun hHeldz => ?_)
          clear hK K HC0 HV HVC
          try simp only [Act.put, List.getElem_toArray, List.getElem_cons_zero, List.getElem_cons_succ]
          refine wpAnyH_done (by kernel_rfl) ?_ _
          refine NoPanic.normal ?_
          go_wp2_with fail
          go_meet
          case rel => exact ⟨_, _, _, HS⟩
      case rest =>
        clear HS
        obtain ⟨vb, vn, va, HS⟩ := hcut
        go_upto_region 5 with fail
        go_cut [] from 10 (fun wx => ∃ b n a, Hid (St9 w G [] ((G + 1, 0, [b, n, a]) :: L2) b n a ([] ++ twoL idn ++ twoL fln ++ twoL n0 ++ twoL n1, [], []) wx))
        case first =>
          refine wp_region_noPanic ?_
          replace HS := Lib.hid HS.out.drew
          refine wp_region_held_drew (S := HeldS L2) (by kernel_rfl) (HSS.out _ _ HS.out.kept.at0) (fun hHeld => ?_)
          obtain ⟨U, hU⟩ : ∃ U, wc.drew = U := ⟨_, rfl⟩
          rw [hU] at HS hHeld ⊢
          clear hU
          refine tkT 1 ?_ rfl (Or.inl ⟨by rfl, ?_⟩) ?_
          rotate_left
          · (intro w hSw; go_simp; try (with_reducible rfl))
          try simp only [Act.put, pZ]
          refine tkT 2 ?_ rfl (Or.inl ⟨by rfl, ?_⟩) ?_
          rotate_left
          · (intro w hSw; have hc0 := C3.out w hSw; go_simp; try (with_reducible rfl))
          try simp only [Act.put, pZ]
          refine tkT 3 ?_ rfl (Or.inl ⟨by rfl, ?_⟩) ?_
          rotate_left
          · (intro w hSw; go_simp; try (with_reducible rfl))
          try simp only [Act.put, pZ]
          refine wpAnyH_ready (rs := [0, 4]) (by kernel_rfl) (by simp) ?_
          refine ready_one_two rfl rfl (fun K hK => ?_) (AllReadyH.cons rfl (fun K hK => ?_) AllReadyH.nil)
          · have HLR := Lib.hid (HS.out.cells (List.mem_cons_self ..))
            refine wp_load_W9 HLR rfl _ rfl rfl ?_
            refine hK.out _ _ (HSS.out _ _ HS.out.kept.at0) (fun hHeldl => ?_)
            clear hK K HLR
            try simp only [Act.put, pZ]
            have HTW := Lib.hid (HS.out.twoc (n := n1) (by have := HNB.out; omega))
            refine wpAnyH_ready (rs := [4]) (by kernel_rfl) (by simp) ?_
            refine AllReadyH.cons rfl (fun K hK => ?_) AllReadyH.nil
            go_simp
            refine HTW.out.mono ?_
            rintro e wt4 ⟨rfl, hm, hs⟩
            have HM := Lib.hid hm
            replace HS := Lib.hid hs
            clear hm hs HTW
            go_wp2_with fail
            refine hK.out _ _ (HSS.out _ _ HS.out.kept.at0) (fun hHeldt4 => ?_)
            clear hK K
            try simp only [Act.put, pZ]
            refine wpAnyH_ready (rs := [5]) (by kernel_rfl) (by simp) ?_
            refine AllReadyH.cons rfl (fun K hK => ?_) AllReadyH.nil
            go_simp
            refine (HS.out.putc HM.out (by (try simp only [List.length_append, List.length_nil]); (try simp only [twoL_len]); omega) rfl).mono ?_
            rintro e wp5 ⟨b5, n5, a5, rfl, hs⟩
            replace HS := Lib.hid hs
            clear hs HM
            go_wp2_with fail
            refine hK.out _ _ (HSS.out _ _ HS.out.kept.at0) (fun hHeldp5 => ?_)
            clear hK K
            try simp only [Act.put, pZ]
            refine wpAnyH_ready (rs := [6]) (by kernel_rfl) (by simp) ?_
            refine ready_one rfl rfl (fun K hK => ?_)
            have HC0 := Lib.hid (HS.out.cells (List.mem_cons_self ..))
            refine wp_store_W9 HC0 rfl _ _ rfl rfl rfl rfl HS.out.rows.one (fun Vz HV HVC => ?_)
            replace HS := HS.out.set HN0.out (by have := HG.out; omega) [b5, n5, a5] rfl
            rw [← HV.out] at HS
            replace HS := Lib.hid HS
            refine hK.out _ _ (HSS.out _ _ HS.out.kept.at0) (fun hHeldz => ?_)
            clear hK K HC0 HV HVC
            try simp only [Act.put, List.getElem_toArray, List.getElem_cons_zero, List.getElem_cons_succ]
            refine wpAnyH_done (by kernel_rfl) ?_ _
            refine NoPanic.normal ?_
            go_wp2_with fail
            go_meet
            case rel => exact ⟨_, _, _, HS⟩
          · have HTW := Lib.hid (HS.out.twoc (n := n1) (by have := HNB.out; omega))
            go_simp
            refine HTW.out.mono ?_
            rintro e wt4 ⟨rfl, hm, hs⟩
            have HM := Lib.hid hm
            replace HS := Lib.hid hs
            clear hm hs HTW
            go_wp2_with fail
            refine hK.out _ _ (HSS.out _ _ HS.out.kept.at0) (fun hHeldt4 => ?_)
            clear hK K
            try simp only [Act.put, pZ]
            refine wpAnyH_ready (rs := [0]) (by kernel_rfl) (by simp) ?_
            refine ready_one rfl rfl (fun K hK => ?_)
            have HLR := Lib.hid (HS.out.cells (List.mem_cons_self ..))
            refine wp_load_W9 HLR rfl _ rfl rfl ?_
            refine hK.out _ _ (HSS.out _ _ HS.out.kept.at0) (fun hHeldl => ?_)
            clear hK K HLR
            try simp only [Act.put, pZ]
            refine wpAnyH_ready (rs := [5]) (by kernel_rfl) (by simp) ?_
            refine AllReadyH.cons rfl (fun K hK => ?_) AllReadyH.nil
            go_simp
            refine (HS.out.putc HM.out (by (try simp only [List.length_append, List.length_nil]); (try simp only [twoL_len]); omega) rfl).mono ?_
            rintro e wp5 ⟨b5, n5, a5, rfl, hs⟩
            replace HS := Lib.hid hs
            clear hs HM
            go_wp2_with fail
            refine hK.out _ _ (HSS.out _ _ HS.out.kept.at0) (fun hHeldp5 => ?_)
            clear hK K
            try simp only [Act.put, pZ]
            refine wpAnyH_ready (rs := [6]) (by kernel_rfl) (by simp) ?_
            refine ready_one rfl rfl (fun K hK => ?_)
            have HC0 := Lib.hid (HS.out.cells (List.mem_cons_self ..))
            refine wp_store_W9 HC0 rfl _ _ rfl rfl rfl rfl HS.out.rows.one (fun Vz HV HVC => ?_)
            replace HS := HS.out.set HN0.out (by have := HG.out; omega) [b5, n5, a5] rfl
            rw [← HV.out] at HS
            replace HS := Lib.hid HS
            refine hK.out _ _ (HSS.out _ _ HS.out.kept.at0) (fun hHeldz => ?_)
            clear hK K HC0 HV HVC
            try simp only [Act.put, List.getElem_toArray, List.getElem_cons_zero, List.getElem_cons_succ]
            refine wpAnyH_done (by kernel_rfl) ?_ _
            refine NoPanic.normal ?_
            go_wp2_with fail
            go_meet
            case rel => exact ⟨_, _, _, HS⟩
        case rest =>
          clear HS
          obtain ⟨vb, vn, va, HS⟩ := hcut
          go_upto_region 6 with fail
          go_cut [] from 10 (fun wx => ∃ b n a, Hid (St9 w G [] ((G + 1, 0, [b, n, a]) :: L2) b n a ([] ++ twoL idn ++ twoL fln ++ twoL n0 ++ twoL n1 ++ twoL n2, [], []) wx))
          case first =>
            refine wp_region_noPanic ?_
            replace HS := Lib.hid HS.out.drew
            refine wp_region_held_drew (S := HeldS L2) (by kernel_rfl) (HSS.out _ _ HS.out.kept.at0) (fun hHeld => ?_)
            obtain ⟨U, hU⟩ : ∃ U, wc.drew = U := ⟨_, rfl⟩
            rw [hU] at HS hHeld ⊢
            clear hU
            refine tkT 1 ?_ rfl (Or.inl ⟨by rfl, ?_⟩) ?_
            rotate_left
            · (intro w hSw; go_simp; try (with_reducible rfl))
            try simp only [Act.put, pZ]
            refine tkT 2 ?_ rfl (Or.inl ⟨by rfl, ?_⟩) ?_
            rotate_left
            · (intro w hSw; have hc0 := C4.out w hSw; go_simp; try (with_reducible rfl))
            try simp only [Act.put, pZ]
            refine tkT 3 ?_ rfl (Or.inl ⟨by rfl, ?_⟩) ?_
            rotate_left
            · (intro w hSw; go_simp; try (with_reducible rfl))
            try simp only [Act.put, pZ]
            refine wpAnyH_ready (rs := [0, 4]) (by kernel_rfl) (by simp) ?_
            refine ready_one_two rfl rfl (fun K hK => ?_) (AllReadyH.cons rfl (fun K hK => ?_) AllReadyH.nil)
            · have HLR := Lib.hid (HS.out.cells (List.mem_cons_self ..))
              refine wp_load_W9 HLR rfl _ rfl rfl ?_
              refine hK.out _ _ (HSS.out _ _ HS.out.kept.at0) (fun hHeldl => ?_)
              clear hK K HLR
              try simp only [Act.put, pZ]
              have HTW := Lib.hid (HS.out.twoc (n := n2) (by have := HNB.out; omega))
              refine wpAnyH_ready (rs := [4]) (by kernel_rfl) (by simp) ?_
              refine AllReadyH.cons rfl (fun K hK => ?_) AllReadyH.nil
              go_simp
              refine HTW.out.mono ?_
              rintro e wt4 ⟨rfl, hm, hs⟩
              have HM := Lib.hid hm
              replace HS := Lib.hid hs
              clear hm hs HTW
              go_wp2_with fail
              refine hK.out _ _ (HSS.out _ _ HS.out.kept.at0) (fun hHeldt4 => ?_)
              clear hK K
              try simp only [Act.put, pZ]
              refine wpAnyH_ready (rs := [5]) (by kernel_rfl) (by simp) ?_
              refine AllReadyH.cons rfl (fun K hK => ?_) AllReadyH.nil
              go_simp
              refine (HS.out.putc HM.out (by (try simp only [List.length_append, List.length_nil]); (try simp only [twoL_len]); omega) rfl).mono ?_
              rintro e wp5 ⟨b5, n5, a5, rfl, hs⟩
              replace HS := Lib.hid hs
              clear hs HM
              go_wp2_with fail
              refine hK.out _ _ (HSS.out _ _ HS.out.kept.at0) (fun hHeldp5 => ?_)
              clear hK K
              try simp only [Act.put, pZ]
              refine wpAnyH_ready (rs := [6]) (by kernel_rfl) (by simp) ?_
              refine ready_one rfl rfl (fun K hK => ?_)
              have HC0 := Lib.hid (HS.out.cells (List.mem_cons_self ..))
              refine wp_store_W9 HC0 rfl _ _ rfl rfl rfl rfl HS.out.rows.one (fun Vz HV HVC => ?_)
              replace HS := HS.out.set HN0.out (by have := HG.out; omega) [b5, n5, a5] rfl
              rw [← HV.out] at HS
              replace HS := Lib.hid HS
              refine hK.out _ _ (HSS.out _ _ HS.out.kept.at0) (fun hHeldz => ?_)
              clear hK K HC0 HV HVC
              try simp only [Act.put, List.getElem_toArray, List.getElem_cons_zero, List.getElem_cons_succ]
              refine wpAnyH_done (by kernel_rfl) ?_ _
              refine NoPanic.normal ?_
              go_wp2_with fail
              go_meet
              case rel => exact ⟨_, _, _, HS⟩
            · have HTW := Lib.hid (HS.out.twoc (n := n2) (by have := HNB.out; omega))
              go_simp
              refine HTW.out.mono ?_
              rintro e wt4 ⟨rfl, hm, hs⟩
              have HM := Lib.hid hm
              replace HS := Lib.hid hs
              clear hm hs HTW
              go_wp2_with fail
              refine hK.out _ _ (HSS.out _ _ HS.out.kept.at0) (fun hHeldt4 => ?_)
              clear hK K
              try simp only [Act.put, pZ]
              refine wpAnyH_ready (rs := [0]) (by kernel_rfl) (by simp) ?_
              refine ready_one rfl rfl (fun K hK => ?_)
              have HLR := Lib.hid (HS.out.cells (List.mem_cons_self ..))
              refine wp_load_W9 HLR rfl _ rfl rfl ?_
              refine hK.out _ _ (HSS.out _ _ HS.out.kept.at0) (fun hHeldl => ?_)
              clear hK K HLR
              try simp only [Act.put, pZ]
              refine wpAnyH_ready (rs := [5]) (by kernel_rfl) (by simp) ?_
              refine AllReadyH.cons rfl (fun K hK => ?_) AllReadyH.nil
              go_simp
              refine (HS.out.putc HM.out (by (try simp only [List.length_append, List.length_nil]); (try simp only [twoL_len]); omega) rfl).mono ?_
              rintro e wp5 ⟨b5, n5, a5, rfl, hs⟩
              replace HS := Lib.hid hs
              clear hs HM
              go_wp2_with fail
              refine hK.out _ _ (HSS.out _ _ HS.out.kept.at0) (fun hHeldp5 => ?_)
              clear hK K
              try simp only [Act.put, pZ]
              refine wpAnyH_ready (rs := [6]) (by kernel_rfl) (by simp) ?_
              refine ready_one rfl rfl (fun K hK => ?_)
              have HC0 := Lib.hid (HS.out.cells (List.mem_cons_self ..))
              refine wp_store_W9 HC0 rfl _ _ rfl rfl rfl rfl HS.out.rows.one (fun Vz HV HVC => ?_)
              replace HS := HS.out.set HN0.out (by have := HG.out; omega) [b5, n5, a5] rfl
              rw [← HV.out] at HS
              replace HS := Lib.hid HS
              refine hK.out _ _ (HSS.out _ _ HS.out.kept.at0) (fun hHeldz => ?_)
              clear hK K HC0 HV HVC
              try simp only [Act.put, List.getElem_toArray, List.getElem_cons_zero, List.getElem_cons_succ]
              refine wpAnyH_done (by kernel_rfl) ?_ _
              refine NoPanic.normal ?_
              go_wp2_with fail
              go_meet
              case rel => exact ⟨_, _, _, HS⟩
          case rest =>
            clear HS
            obtain ⟨vb, vn, va, HS⟩ := hcut
            go_upto_region 7 with fail
            go_cut [] from 10 (fun wx => ∃ b n a, Hid (St9 w G [] ((G + 1, 0, [b, n, a]) :: L2) b n a ([] ++ twoL idn ++ twoL fln ++ twoL n0 ++ twoL n1 ++ twoL n2 ++ twoL n3, [], []) wx))
            case first =>
              refine wp_region_noPanic ?_
              replace HS := Lib.hid HS.out.drew
              refine wp_region_held_drew (S := HeldS L2) (by kernel_rfl) (HSS.out _ _ HS.out.kept.at0) (fun hHeld => ?_)
              obtain ⟨U, hU⟩ : ∃ U, wc.drew = U := ⟨_, rfl⟩
              rw [hU] at HS hHeld ⊢
              clear hU
              refine tkT 1 ?_ rfl (Or.inl ⟨by rfl, ?_⟩) ?_
              rotate_left
              · (intro w hSw; go_simp; try (with_reducible rfl))
              try simp only [Act.put, pZ]
              refine tkT 2 ?_ rfl (Or.inl ⟨by rfl, ?_⟩) ?_
              rotate_left
              · (intro w hSw; have hc0 := C5.out w hSw; go_simp; try (with_reducible rfl))
              try simp only [Act.put, pZ]
              refine tkT 3 ?_ rfl (Or.inl ⟨by rfl, ?_⟩) ?_
              rotate_left
              · (intro w hSw; go_simp; try (with_reducible rfl))
              try simp only [Act.put, pZ]
              refine wpAnyH_ready (rs := [0, 4]) (by kernel_rfl) (by simp) ?_
              refine ready_one_two rfl rfl (fun K hK => ?_) (AllReadyH.cons rfl (fun K hK => ?_) AllReadyH.nil)
              · have HLR := Lib.hid (HS.out.cells (List.mem_cons_self ..))
                refine wp_load_W9 HLR rfl _ rfl rfl ?_
                refine hK.out _ _ (HSS.out _ _ HS.out.kept.at0) (fun hHeldl => ?_)
                clear hK K HLR
                try simp only [Act.put, pZ]
                have HTW := Lib.hid (HS.out.twoc (n := n3) (by have := HNB.out; omega))
                refine wpAnyH_ready (rs := [4]) (by kernel_rfl) (by simp) ?_
                refine AllReadyH.cons rfl (fun K hK => ?_) AllReadyH.nil
                go_simp
                refine HTW.out.mono ?_
                rintro e wt4 ⟨rfl, hm, hs⟩
                have HM := Lib.hid hm
                replace HS := Lib.hid hs
                clear hm hs HTW
                go_wp2_with fail
                refine hK.out _ _ (HSS.out _ _ HS.out.kept.at0) (fun hHeldt4 => ?_)
                clear hK K
                try simp only [Act.put, pZ]
                refine wpAnyH_ready (rs := [5]) (by kernel_rfl) (by simp) ?_
                refine AllReadyH.cons rfl (fun K hK => ?_) AllReadyH.nil
                go_simp
                refine (HS.out.putc HM.out (by (try simp only [List.length_append, List.length_nil]); (try simp only [twoL_len]); omega) rfl).mono ?_
                rintro e wp5 ⟨b5, n5, a5, rfl, hs⟩
                replace HS := Lib.hid hs
                clear hs HM
                go_wp2_with fail
                refine hK.out _ _ (HSS.out _ _ HS.out.kept.at0) (fun hHeldp5 => ?_)
                clear hK K
                try simp only [Act.put, pZ]
                refine wpAnyH_ready (rs := [6]) (by kernel_rfl) (by simp) ?_
                refine ready_one rfl rfl (fun K hK => ?_)
                have HC0 := Lib.hid (HS.out.cells (List.mem_cons_self ..))
                refine wp_store_W9 HC0 rfl _ _ rfl rfl rfl rfl HS.out.rows.one (fun Vz HV HVC => ?_)
                replace HS := HS.out.set HN0.out (by have := HG.out; omega) [b5, n5, a5] rfl
                rw [← HV.out] at HS
                replace HS := Lib.hid HS
                refine hK.out _ _ (HSS.out _ _ HS.out.kept.at0) (fun hHeldz => ?_)
                clear hK K HC0 HV HVC
                try simp only [Act.put, List.getElem_toArray, List.getElem_cons_zero, List.getElem_cons_succ]
                refine wpAnyH_done (by kernel_rfl) ?_ _
                refine NoPanic.normal ?_
                go_wp2_with fail
                go_meet
                case rel => exact ⟨_, _, _, HS⟩
              · have HTW := Lib.hid (HS.out.twoc (n := n3) (by have := HNB.out; omega))
                go_simp
                refine HTW.out.mono ?_
                rintro e wt4 ⟨rfl, hm, hs⟩
                have HM := Lib.hid hm
                replace HS := Lib.hid hs
                clear hm hs HTW
                go_wp2_with fail
                refine hK.out _ _ (HSS.out _ _ HS.out.kept.at0) (fun hHeldt4 => ?_)
                clear hK K
                try simp only [Act.put, pZ]
                refine wpAnyH_ready (rs := [0]) (by kernel_rfl) (by simp) ?_
                refine ready_one rfl rfl (fun K hK => ?_)
                have HLR := Lib.hid (HS.out.cells (List.mem_cons_self ..))
                refine wp_load_W9 HLR rfl _ rfl rfl ?_
                refine hK.out _ _ (HSS.out _ _ HS.out.kept.at0) (fun hHeldl => ?_)
                clear hK K HLR
                try simp only [Act.put, pZ]
                refine wpAnyH_ready (rs := [5]) (by kernel_rfl) (by simp) ?_
                refine AllReadyH.cons rfl (fun K hK => ?_) AllReadyH.nil
                go_simp
                refine (HS.out.putc HM.out (by (try simp only [List.length_append, List.length_nil]); (try simp only [twoL_len]); omega) rfl).mono ?_
                rintro e wp5 ⟨b5, n5, a5, rfl, hs⟩
                replace HS := Lib.hid hs
                clear hs HM
                go_wp2_with fail
                refine hK.out _ _ (HSS.out _ _ HS.out.kept.at0) (fun hHeldp5 => ?_)
                clear hK K
                try simp only [Act.put, pZ]
                refine wpAnyH_ready (rs := [6]) (by kernel_rfl) (by simp) ?_
                refine ready_one rfl rfl (fun K hK => ?_)
                have HC0 := Lib.hid (HS.out.cells (List.mem_cons_self ..))
                refine wp_store_W9 HC0 rfl _ _ rfl rfl rfl rfl HS.out.rows.one (fun Vz HV HVC => ?_)
                replace HS := HS.out.set HN0.out (by have := HG.out; omega) [b5, n5, a5] rfl
                rw [← HV.out] at HS
                replace HS := Lib.hid HS
                refine hK.out _ _ (HSS.out _ _ HS.out.kept.at0) (fun hHeldz => ?_)
                clear hK K HC0 HV HVC
                try simp only [Act.put, List.getElem_toArray, List.getElem_cons_zero, List.getElem_cons_succ]
                refine wpAnyH_done (by kernel_rfl) ?_ _
                refine NoPanic.normal ?_
                go_wp2_with fail
                go_meet
                case rel => exact ⟨_, _, _, HS⟩
            case rest =>
              clear HS
              obtain ⟨vb, vn, va, HS⟩ := hcut
              have HHD : Hid ([] ++ twoL idn ++ twoL fln ++ twoL n0 ++ twoL n1 ++ twoL n2 ++ twoL n3 = hdB m) := Lib.hid (by
                unfold hdB
                rw [HIF.out.1, HIF.out.2, HNS.out.1, HNS.out.2.1, HNS.out.2.2.1, HNS.out.2.2.2]
                rfl)
              rw [HHD.out] at HS
              have hb3 : n0 ≤ 65535 := HNB.out.2.2.1
              clear HHD C0 C1
              have HOK0 : Hid (Wok 12 (hdB m, [], [])) := Lib.hid ⟨Nat.le_refl _, Nat.zero_le _, rfl, by simp, by simp⟩
              obtain ⟨t0, ht0⟩ : ∃ t0 : Wst, (hdB m, [], []) = t0 := ⟨_, rfl⟩
              have HT0 := Lib.hid ht0
              have HS9 : Hid (St9 w G [] ((G + 1, 0, [vb, vn, va]) :: L2) vb vn va t0 wc) := Lib.hid (by rw [← ht0]; exact HS.out)
              rw [ht0] at HOK0
              clear ht0 HS
              go_wp2_with fail
              go_loopw [4] (fun s4 wr => ∃ (k : Nat) (b n a : Value), k ≤ n0 ∧ s4 = .int .i64 (k : Int) ∧ Hid (St9 w G [] ((G + 1, 0, [b, n, a]) :: L2) b n a ((m.qs.take k).foldl qW t0) wr)) (fun i _ => n0 - (intOf i).toNat)
              case atStart => exact ⟨0, _, _, _, Nat.zero_le _, rfl, HS9⟩
              case round =>
                clear HS9
                obtain ⟨k, b, n, a, hk, rfl, HS⟩ := hrel
                have x2 := C2.out _ (HSS.out _ _ HS.out.kept.at0)
                by_cases hkN : k < n0
                · have hd : decide ((k : Int) < (n0 : Int)) = true := decide_eq_true (by omega)
                  have hdn : decide (k < n0) = true := decide_eq_true hkN
                  have hkD : k < m.qs.length := by rw [HNS.out.1]; exact hkN
                  obtain ⟨g, o, ha, hg, hrg⟩ := HMI.out.qs.range k hkD
                  subst ha
                  have HMQ := Lib.hid (HPA.out.1 _ (List.getElem_mem hkD))
                  have HQT : Hid ((m.qs.take (k + 1)).foldl qW t0 = qW ((m.qs.take k).foldl qW t0) m.qs[k]) := Lib.hid (by
                    rw [List.take_add_one, List.getElem?_eq_getElem hkD, Option.toList_some, List.foldl_append]
                    rfl)
                  have HOK : Hid (Wok 883600 ((m.qs.take k).foldl qW t0)) := Lib.hid ((Wok.qs (m.qs.take k) t0 HOK0.out (fun q hq => HPA.out.1 q (List.mem_of_mem_take hq))).wider (by
                    have := HKM.out
                    rw [List.length_take]
                    have h1 : (min k m.qs.length + 1) * 16304 ≤ m.qs.length * 16304 := Nat.mul_le_mul_right _ (by omega)
                    omega))
                  obtain ⟨T, hT⟩ : ∃ T, (m.qs.take k).foldl qW t0 = T := ⟨_, rfl⟩
                  rw [hT] at HS HOK HQT
                  clear hT
                  have HGE : Hid (g < w.heap.size ∧ w.rangeAt g (o + k * 3) (quL m.qs[k])) := Lib.hid ⟨hg, hrg⟩
                  have HQ9 := Lib.hid (mayQ9_name HMQ.out)
                  obtain ⟨qq, hqq⟩ : ∃ qq, m.qs[k] = qq := ⟨_, rfl⟩
                  rw [hqq] at HQT HMQ HGE HQ9
                  clear hqq hrg hg
                  obtain ⟨nm, ty, cl⟩ := qq
                  obtain ⟨ty, rfl⟩ : ∃ n : Nat, ty = (n : Int) := ⟨ty.toNat, by have := HQ9.out.2.1; simp only [wordN, decide_eq_true_eq] at this; omega⟩
                  obtain ⟨cl, rfl⟩ : ∃ n : Nat, cl = (n : Int) := ⟨cl.toNat, by have := HQ9.out.2.2; simp only [wordN, decide_eq_true_eq] at this; omega⟩
                  have HNUM : Hid (ty ≤ 65535 ∧ cl ≤ 65535) := Lib.hid (by have h1 := HQ9.out.2.1; have h2 := HQ9.out.2.2; simp only [wordN, decide_eq_true_eq] at h1 h2; omega)
                  have HNM : Hid (mayN nm = true) := Lib.hid HQ9.out.1
                  clear HQ9 HMQ
                  have HEL : Hid (∀ V, Foot [] (blk3 b n a) w V → True) := Lib.hid (fun _ _ => trivial)
                  have HER : Hid (∀ V b' n' a' t' L', St9 w G [] L' b' n' a' t' V → V.rangeAt g (o + k * 3) (quL ⟨nm, (ty : Int), (cl : Int)⟩)) := Lib.hid (fun V b' n' a' t' L' hv => range_foot hv.foot HGE.out.2 HGE.out.1 (by simp))
                  have hb1 : (0 : Int) ≤ (k : Int) := by omega
                  have hb2 : (k : Int) < (n0 : Int) := by omega
                  clear HEL
                  go_upto_region 11 with fail
                  go_cut [5, 6] from 44 to 78 (fun s5 s6 wx => ∃ P b1 n1 a1, s5 = .pointer (some ⟨P, 0, none⟩) ∧ s6 = .bool true ∧ Hid (G + 1 < P) ∧ Hid (St9 w G [] ((P, 0, [b1, n1, a1]) :: (G + 1, 0, [b, n, a]) :: L2) b1 n1 a1 (T.1 ++ (nmT nm T.1.length T.2.1 T.2.2).1, (nmT nm T.1.length T.2.1 T.2.2).2) wx))
                  case first =>
                    refine wp_region_noPanic ?_
                    replace HS := Lib.hid HS.out.drew
                    obtain ⟨S, hS⟩ : ∃ S : World → Prop, (fun V : World => HeldS ((G + 1, 0, [b, n, a]) :: L2) V ∧ V.rangeAt g (o + k * 3) (quL ⟨nm, (ty : Int), (cl : Int)⟩)) = S := ⟨_, rfl⟩
                    have HSB : Hid (∀ V, S V → V.rangeAt (G + 1) 0 [b, n, a]) := Lib.hid (fun V h => by rw [← hS] at h; exact h.1 _ (List.mem_cons_self ..))
                    have HS2 : Hid (∀ V, S V → V.cell? ⟨G, 2, none⟩ = some (.slice (some ⟨g, o, none⟩) n0 cq)) := Lib.hid (fun V h => by rw [← hS] at h; exact C2.out V (HSS.out _ _ h.1))
                    have HE0 : Hid (∀ V, S V → V.cell? ⟨g, o + k * 3, none⟩ = some (.string nm)) := Lib.hid (fun V h => by rw [← hS] at h; exact h.2 0 _ rfl)
                    have HSX : Hid (∀ L' V b' n' a' t', (∀ x ∈ (G + 1, 0, [b, n, a]) :: L2, x ∈ L') → St9 w G [] L' b' n' a' t' V → S V) := Lib.hid (fun L' V b' n' a' t' hs hv => by rw [← hS]; exact ⟨fun x hx => hv.kept.at0 x (hs x hx), HER.out V _ _ _ _ _ hv⟩)
                    clear hS HER
                    refine wp_region_held_drew (S := S) (by kernel_rfl) (HSX.out _ _ _ _ _ _ (fun x hx => hx) HS.out) (fun hHeld => ?_)
                    obtain ⟨U, hU⟩ : ∃ U, wr.drew = U := ⟨_, rfl⟩
                    rw [hU] at HS hHeld ⊢
                    clear hU x2
                    refine wpAnyH_take (i := 0) rfl (by kernel_rfl) (by kernel_rfl) (by kernel_rfl) (fun _ _ _ h => h) (yields_W9S HSB rfl (by rfl) _ rfl rfl) (by assumption) ?_
                    try simp only [Act.put, pZ]
                    refine tkT 1 ?_ rfl (Or.inl ⟨by rfl, ?_⟩) ?_
                    rotate_left
                    · (intro w hSw; go_simp; try (with_reducible rfl))
                    try simp only [Act.put, pZ]
                    refine tkT 2 ?_ rfl (Or.inl ⟨by rfl, ?_⟩) ?_
                    rotate_left
                    · (intro w hSw; have hc0 := HS2.out w hSw; go_simp; try (with_reducible rfl))
                    try simp only [Act.put, pZ]
                    refine tkT 3 ?_ rfl (Or.inl ⟨by rfl, ?_⟩) ?_
                    rotate_left
                    · (intro w hSw; go_simp; try (with_reducible rfl))
                    try simp only [Act.put, pZ]
                    refine tkT 4 ?_ rfl (Or.inl ⟨by rfl, ?_⟩) ?_
                    rotate_left
                    · (intro w hSw; go_simp; try (with_reducible rfl))
                    try simp only [Act.put, pZ]
                    refine tkT 5 ?_ rfl (Or.inl ⟨by rfl, ?_⟩) ?_
                    rotate_left
                    · (intro w hSw; go_simp; try (with_reducible rfl))
                    try simp only [Act.put, pZ]
                    refine tkT 6 ?_ rfl (Or.inl ⟨by rfl, ?_⟩) ?_
                    rotate_left
                    · (intro w hSw; have hc0 := HE0.out w hSw; go_simp; try (with_reducible rfl))
                    try simp only [Act.put, pZ]
                    refine wpAnyH_ready (rs := [7, 11]) (by kernel_rfl) (by simp) ?_
                    refine AllReadyH.cons rfl (fun K hK => ?_) (ready_one rfl rfl (fun K hK => ?_))
                    · go_simp
                      refine (HS.out.namec HNM.out HOK.out (by decide)).mono ?_
                      rintro e wnx ⟨b1, n1, a1, rfl, hs⟩
                      replace HS := Lib.hid hs
                      clear hs
                      go_wp2_with fail
                      refine hK.out _ _ (HSX.out _ _ _ _ _ _ (fun x hx => hx) HS.out) (fun hHeldnx => ?_)
                      clear hK K
                      try simp only [Act.put, pZ]
                      refine tkT 8 ?_ rfl (Or.inl ⟨by rfl, ?_⟩) ?_
                      rotate_left
                      · (intro w hSw; go_simp; try (with_reducible rfl))
                      try simp only [Act.put, pZ]
                      refine tkT 9 ?_ rfl (Or.inl ⟨by rfl, ?_⟩) ?_
                      rotate_left
                      · (intro w hSw; go_simp; try (with_reducible rfl))
                      try simp only [Act.put, pZ]
                      refine tkT 10 ?_ rfl (Or.inl ⟨by rfl, ?_⟩) ?_
                      rotate_left
                      · (intro w hSw; go_simp; try (with_reducible rfl))
                      try simp only [Act.put, pZ]
                      refine wpAnyH_ready (rs := [11]) (by kernel_rfl) (by simp) ?_
                      refine ready_one rfl rfl (fun K hK => ?_)
                      obtain ⟨P, Wa, hP, hWa, hn1, hn2, hal, hbl⟩ := HS.out.alloc_ex
                      have HNP : Hid ((∀ x ∈ (G + 1, 0, [b, n, a]) :: L2, x.1 ≠ P) ∧ w.heap.size ≤ P) := Lib.hid ⟨hn1, hn2⟩
                      have HPG : Hid (G + 1 < P) := Lib.hid (by have := HS.out.kept.lt _ (List.mem_cons_self ..); omega)
                      replace HS := Lib.hid hal
                      clear hn1 hn2 hal hbl
                      go_wp2_with fail
                      try rw [hWa]
                      try rw [hP]
                      refine hK.out _ _ (HSX.out _ _ _ _ _ _ (fun x hx => List.mem_cons_of_mem _ hx) HS.out) (fun hHeldax => ?_)
                      clear hK K hWa hP
                      try simp only [Act.put, pZ]
                      refine wpAnyH_ready (rs := [12]) (by kernel_rfl) (by simp) ?_
                      refine ready_one rfl rfl (fun K hK => ?_)
                      have HC0 := Lib.hid (HS.out.cells (List.mem_cons_self ..))
                      refine wp_store_W9 HC0 rfl _ _ rfl rfl rfl rfl HS.out.rows.one (fun Vx HV HVC => ?_)
                      replace HS := HS.out.set HNP.out.1 HNP.out.2 [b1, n1, a1] rfl
                      rw [← HV.out] at HS
                      replace HS := Lib.hid HS
                      refine hK.out _ _ (HSX.out _ _ _ _ _ _ (fun x hx => List.mem_cons_of_mem _ hx) HS.out) (fun hHeldsx => ?_)
                      clear hK K HC0 HV HVC
                      try simp only [Act.put, pZ]
                      refine tkT 13 ?_ rfl (Or.inl ⟨by rfl, ?_⟩) ?_
                      rotate_left
                      · (intro w hSw; go_simp; try (with_reducible rfl))
                      try simp only [Act.put, pZ]
                      refine wpAnyH_done (by kernel_rfl) ?_ _
                      refine NoPanic.normal ?_
                      go_wp2_with fail
                      go_meet
                      case rel => exact ⟨P, _, _, _, rfl, rfl, HPG, HS⟩
                    · obtain ⟨P, Wa, hP, hWa, hn1, hn2, hal, hbl⟩ := HS.out.alloc_ex
                      have HNP : Hid ((∀ x ∈ (G + 1, 0, [b, n, a]) :: L2, x.1 ≠ P) ∧ w.heap.size ≤ P) := Lib.hid ⟨hn1, hn2⟩
                      have HPG : Hid (G + 1 < P) := Lib.hid (by have := HS.out.kept.lt _ (List.mem_cons_self ..); omega)
                      replace HS := Lib.hid hal
                      clear hn1 hn2 hal hbl
                      go_wp2_with fail
                      try rw [hWa]
                      try rw [hP]
                      refine hK.out _ _ (HSX.out _ _ _ _ _ _ (fun x hx => List.mem_cons_of_mem _ hx) HS.out) (fun hHelday => ?_)
                      clear hK K hWa hP
                      try simp only [Act.put, pZ]
                      refine wpAnyH_ready (rs := [7]) (by kernel_rfl) (by simp) ?_
                      refine AllReadyH.cons rfl (fun K hK => ?_) AllReadyH.nil
                      go_simp
                      refine (HS.out.namec HNM.out HOK.out (by decide)).mono ?_
                      rintro e wny ⟨b1, n1, a1, rfl, hs⟩
                      replace HS := Lib.hid hs
                      clear hs
                      go_wp2_with fail
                      refine hK.out _ _ (HSX.out _ _ _ _ _ _ (fun x hx => List.mem_cons_of_mem _ hx) HS.out) (fun hHeldny => ?_)
                      clear hK K
                      try simp only [Act.put, pZ]
                      refine tkT 8 ?_ rfl (Or.inl ⟨by rfl, ?_⟩) ?_
                      rotate_left
                      · (intro w hSw; go_simp; try (with_reducible rfl))
                      try simp only [Act.put, pZ]
                      refine tkT 9 ?_ rfl (Or.inl ⟨by rfl, ?_⟩) ?_
                      rotate_left
                      · (intro w hSw; go_simp; try (with_reducible rfl))
                      try simp only [Act.put, pZ]
                      refine tkT 10 ?_ rfl (Or.inl ⟨by rfl, ?_⟩) ?_
                      rotate_left
                      · (intro w hSw; go_simp; try (with_reducible rfl))
                      try simp only [Act.put, pZ]
                      refine wpAnyH_ready (rs := [12]) (by kernel_rfl) (by simp) ?_
                      refine ready_one rfl rfl (fun K hK => ?_)
                      have HC0 := Lib.hid (HS.out.cells (List.mem_cons_self ..))
                      refine wp_store_W9 HC0 rfl _ _ rfl rfl rfl rfl HS.out.rows.one (fun Vy HV HVC => ?_)
                      replace HS := HS.out.set HNP.out.1 HNP.out.2 [b1, n1, a1] rfl
                      rw [← HV.out] at HS
                      replace HS := Lib.hid HS
                      refine hK.out _ _ (HSX.out _ _ _ _ _ _ (fun x hx => List.mem_cons_of_mem _ hx) HS.out) (fun hHeldsy => ?_)
                      clear hK K HC0 HV HVC
                      try simp only [Act.put, pZ]
                      refine tkT 13 ?_ rfl (Or.inl ⟨by rfl, ?_⟩) ?_
                      rotate_left
                      · (intro w hSw; go_simp; try (with_reducible rfl))
                      try simp only [Act.put, pZ]
                      refine wpAnyH_done (by kernel_rfl) ?_ _
                      refine NoPanic.normal ?_
                      go_wp2_with fail
                      go_meet
                      case rel => exact ⟨P, _, _, _, rfl, rfl, HPG, HS⟩
                  case rest =>
                    clear HS
                    obtain ⟨P, b1, n1, a1, rfl, rfl, HPG, HS⟩ := hcut
                    have HOK1 := Lib.hid (HOK.out.nm HNM.out)
                    have HTQ : Hid (qW T ⟨nm, (ty : Int), (cl : Int)⟩ = (T.1 ++ (nmT nm T.1.length T.2.1 T.2.2).1 ++ twoL ty ++ twoL cl, (nmT nm T.1.length T.2.1 T.2.2).2)) := Lib.hid (by
                      unfold qW
                      simp only [Int.toNat_natCast, List.append_assoc])
                    obtain ⟨T1, hT1⟩ : ∃ T1 : Wst, (T.1 ++ (nmT nm T.1.length T.2.1 T.2.2).1, (nmT nm T.1.length T.2.1 T.2.2).2) = T1 := ⟨_, rfl⟩
                    rw [hT1] at HS HOK1
                    have HTR : Hid (qW T ⟨nm, (ty : Int), (cl : Int)⟩ = (T1.1 ++ twoL ty ++ twoL cl, T1.2)) := Lib.hid (by rw [HTQ.out, ← hT1])
                    have HKL : Hid (T1.1.length ≤ 917000) := Lib.hid (by have := HOK1.out.len; omega)
                    clear hT1 HTQ
                    go_upto_region 12 with fail
                    refine wp_region_noPanic ?_
                    replace HS : Hid (St9 w G [] ((G + 1, 0, [b, n, a]) :: (P, 0, [b1, n1, a1]) :: L2) b1 n1 a1 T1 wc.drew) := Lib.hid (HS.out.drew.sub (fun x hx => by simp only [List.mem_cons] at hx ⊢; rcases hx with h | h | h <;> simp [h]))
                    obtain ⟨S, hS⟩ : ∃ S : World → Prop, (fun V : World => HeldS ((P, 0, [b1, n1, a1]) :: L2) V ∧ V.rangeAt g (o + k * 3) (quL ⟨nm, (ty : Int), (cl : Int)⟩)) = S := ⟨_, rfl⟩
                    have HSB : Hid (∀ V, S V → V.rangeAt P 0 [b1, n1, a1]) := Lib.hid (fun V h => by rw [← hS] at h; exact h.1 _ (List.mem_cons_self ..))
                    have HS2 : Hid (∀ V, S V → V.cell? ⟨G, 2, none⟩ = some (.slice (some ⟨g, o, none⟩) n0 cq)) := Lib.hid (fun V h => by rw [← hS] at h; exact C2.out V (fun x hx => h.1 x (List.mem_cons_of_mem _ hx)))
                    have HE1 : Hid (∀ V, S V → V.cell? ⟨g, o + k * 3 + 1, none⟩ = some (.int .i64 (ty : Int))) := Lib.hid (fun V h => by rw [← hS] at h; exact h.2 1 _ rfl)
                    have HE2 : Hid (∀ V, S V → V.cell? ⟨g, o + k * 3 + 2, none⟩ = some (.int .i64 (cl : Int))) := Lib.hid (fun V h => by rw [← hS] at h; exact h.2 2 _ rfl)
                    have HSX : Hid (∀ us V b' n' a' t', St9 w G [] ((G + 1, 0, us) :: (P, 0, [b1, n1, a1]) :: L2) b' n' a' t' V → S V) := Lib.hid (fun us V b' n' a' t' hv => by rw [← hS]; exact ⟨fun x hx => hv.kept.at0 x (List.mem_cons_of_mem _ hx), HER.out V _ _ _ _ _ hv⟩)
                    clear hS HER
                    refine wp_region_held_drew (S := S) (by kernel_rfl) (HSX.out _ _ _ _ _ _ HS.out) (fun hHeld => ?_)
                    obtain ⟨U, hU⟩ : ∃ U, wc.drew = U := ⟨_, rfl⟩
                    rw [hU] at HS hHeld ⊢
                    clear hU
                    refine wpAnyH_take (i := 0) rfl (by kernel_rfl) (by kernel_rfl) (by kernel_rfl) (fun _ _ _ h => h) (yields_W9S HSB rfl (by rfl) _ rfl rfl) (by assumption) ?_
                    try simp only [Act.put, pZ]
                    refine tkT 1 ?_ rfl (Or.inl ⟨by rfl, ?_⟩) ?_
                    rotate_left
                    · (intro w hSw; go_simp; try (with_reducible rfl))
                    try simp only [Act.put, pZ]
                    refine tkT 2 ?_ rfl (Or.inl ⟨by rfl, ?_⟩) ?_
                    rotate_left
                    · (intro w hSw; have hc0 := HS2.out w hSw; go_simp; try (with_reducible rfl))
                    try simp only [Act.put, pZ]
                    refine tkT 3 ?_ rfl (Or.inl ⟨by rfl, ?_⟩) ?_
                    rotate_left
                    · (intro w hSw; go_simp; try (with_reducible rfl))
                    try simp only [Act.put, pZ]
                    refine tkT 4 ?_ rfl (Or.inl ⟨by rfl, ?_⟩) ?_
                    rotate_left
                    · (intro w hSw; go_simp; try (with_reducible rfl))
                    try simp only [Act.put, pZ]
                    refine tkT 5 ?_ rfl (Or.inl ⟨by rfl, ?_⟩) ?_
                    rotate_left
                    · (intro w hSw; go_simp; try (with_reducible rfl))
                    try simp only [Act.put, pZ]
                    refine tkT 6 ?_ rfl (Or.inl ⟨by rfl, ?_⟩) ?_
                    rotate_left
                    · (intro w hSw; have hc0 := HE1.out w hSw; go_simp; try (with_reducible rfl))
                    try simp only [Act.put, pZ]
                    refine tkT 9 ?_ rfl (Or.inl ⟨by rfl, ?_⟩) ?_
                    rotate_left
                    · (intro w hSw; go_simp; try (with_reducible rfl))
                    try simp only [Act.put, pZ]
                    refine tkT 10 ?_ rfl (Or.inl ⟨by rfl, ?_⟩) ?_
                    rotate_left
                    · (intro w hSw; have hc0 := HS2.out w hSw; go_simp; try (with_reducible rfl))
                    try simp only [Act.put, pZ]
                    refine tkT 11 ?_ rfl (Or.inl ⟨by rfl, ?_⟩) ?_
                    rotate_left
                    · (intro w hSw; go_simp; try (with_reducible rfl))
                    try simp only [Act.put, pZ]
                    refine tkT 12 ?_ rfl (Or.inl ⟨by rfl, ?_⟩) ?_
                    rotate_left
                    · (intro w hSw; go_simp; try (with_reducible rfl))
                    try simp only [Act.put, pZ]
                    refine tkT 13 ?_ rfl (Or.inl ⟨by rfl, ?_⟩) ?_
                    rotate_left
                    · (intro w hSw; go_simp; try (with_reducible rfl))
                    try simp only [Act.put, pZ]
                    refine tkT 14 ?_ rfl (Or.inl ⟨by rfl, ?_⟩) ?_
                    rotate_left
                    · (intro w hSw; have hc0 := HE2.out w hSw; go_simp; try (with_reducible rfl))
                    try simp only [Act.put, pZ]
                    have HTW := Lib.hid (HS.out.twoc (n := ty) (by have := HNUM.out; omega))
                    refine wpAnyH_ready (rs := [7]) (by kernel_rfl) (by simp) ?_
                    refine AllReadyH.cons rfl (fun K hK => ?_) AllReadyH.nil
                    go_simp
                    refine HTW.out.mono ?_
                    rintro e wtq7 ⟨rfl, hm, hs⟩
                    have HM := Lib.hid hm
                    replace HS := Lib.hid hs
                    clear hm hs HTW
                    go_wp2_with fail
                    refine hK.out _ _ (HSX.out _ _ _ _ _ _ HS.out) (fun hHeldtq7 => ?_)
                    clear hK K
                    try simp only [Act.put, pZ]
                    refine wpAnyH_ready (rs := [8]) (by kernel_rfl) (by simp) ?_
                    refine AllReadyH.cons rfl (fun K hK => ?_) AllReadyH.nil
                    go_simp
                    refine (HS.out.putc HM.out (by (try simp only [List.length_append]); (try simp only [twoL_len]); have := HKL.out; omega) rfl).mono ?_
                    rintro e wpq8 ⟨bq8, nq8, aq8, rfl, hs⟩
                    replace HS := Lib.hid hs
                    clear hs HM
                    go_wp2_with fail
                    refine hK.out _ _ (HSX.out _ _ _ _ _ _ HS.out) (fun hHeldpq8 => ?_)
                    clear hK K
                    try simp only [Act.put, pZ]
                    have HTW := Lib.hid (HS.out.twoc (n := cl) (by have := HNUM.out; omega))
                    refine wpAnyH_ready (rs := [15]) (by kernel_rfl) (by simp) ?_
                    refine AllReadyH.cons rfl (fun K hK => ?_) AllReadyH.nil
                    go_simp
                    refine HTW.out.mono ?_
                    rintro e wtq15 ⟨rfl, hm, hs⟩
                    have HM := Lib.hid hm
                    replace HS := Lib.hid hs
                    clear hm hs HTW
                    go_wp2_with fail
                    refine hK.out _ _ (HSX.out _ _ _ _ _ _ HS.out) (fun hHeldtq15 => ?_)
                    clear hK K
                    try simp only [Act.put, pZ]
                    refine wpAnyH_ready (rs := [16]) (by kernel_rfl) (by simp) ?_
                    refine AllReadyH.cons rfl (fun K hK => ?_) AllReadyH.nil
                    go_simp
                    refine (HS.out.putc HM.out (by (try simp only [List.length_append]); (try simp only [twoL_len]); have := HKL.out; omega) rfl).mono ?_
                    rintro e wpq16 ⟨bq16, nq16, aq16, rfl, hs⟩
                    replace HS := Lib.hid hs
                    clear hs HM
                    go_wp2_with fail
                    refine hK.out _ _ (HSX.out _ _ _ _ _ _ HS.out) (fun hHeldpq16 => ?_)
                    clear hK K
                    try simp only [Act.put, pZ]
                    refine wpAnyH_ready (rs := [17]) (by kernel_rfl) (by simp) ?_
                    refine ready_one rfl rfl (fun K hK => ?_)
                    have HC0 := Lib.hid (HS.out.cells (List.mem_cons_self ..))
                    refine wp_store_W9 HC0 rfl _ _ rfl rfl rfl rfl HS.out.rows.one (fun Vz HV HVC => ?_)
                    replace HS := HS.out.set (fun x hx => by rcases List.mem_cons.1 hx with rfl | hx; (have := HPG.out; simp only; omega); exact HN0.out x hx) (by have := HG.out; omega) [bq16, nq16, aq16] rfl
                    rw [← HV.out] at HS
                    replace HS := Lib.hid HS
                    refine hK.out _ _ (HSX.out _ _ _ _ _ _ HS.out) (fun hHeldsz => ?_)
                    clear hK K HC0 HV HVC
                    try simp only [Act.put, List.getElem_toArray, List.getElem_cons_zero, List.getElem_cons_succ]
                    refine wpAnyH_done (by kernel_rfl) ?_ _
                    refine NoPanic.normal ?_
                    go_wp2_with fail
                    replace HS : Hid (St9 w G [] ((G + 1, 0, [bq16, nq16, aq16]) :: L2) bq16 nq16 aq16 ((m.qs.take (k + 1)).foldl qW t0) Vz) := Lib.hid (by
                      rw [HQT.out, HTR.out]
                      exact HS.out.sub (fun x hx => by rcases List.mem_cons.1 hx with rfl | hx; (exact List.mem_cons_self ..); exact List.mem_cons_of_mem _ (List.mem_cons_of_mem _ hx)))
                    go_roundw
                    case rel => exact ⟨k + 1, _, _, _, by omega, by go_num, HS⟩
                    case measure => simp [intOf]; omega
                · obtain rfl : n0 = k := by omega
                  have hd : decide ((n0 : Int) < (n0 : Int)) = false := by simp
                  clear hkN hk hd
                  have HS9 : Hid (St9 w G [] ((G + 1, 0, [b, n, a]) :: L2) b n a (m.qs.foldl qW t0) wr) := Lib.hid (by
                    have := HS.out
                    rw [List.take_of_length_le (by rw [HNS.out.1]; exact Nat.le_refl _)] at this
                    exact this)
                  have HOK : Hid (Wok (12 + m.qs.length * 16304) (m.qs.foldl qW t0)) := Lib.hid (Wok.qs m.qs t0 HOK0.out HPA.out.1)
                  have HTM : Hid ((pre9 m 3).foldl rW (m.qs.foldl qW t0) = wM m) := Lib.hid (by rw [← HT0.out]; exact pre9_whole m)
                  obtain ⟨TQ, hTQ⟩ : ∃ TQ, m.qs.foldl qW t0 = TQ := ⟨_, rfl⟩
                  rw [hTQ] at HS9 HOK HTM
                  clear hTQ HS HOK0 HT0
                  have x3 := C3.out _ (HSS.out _ _ HS9.out.kept.at0)
                  have x4 := C4.out _ (HSS.out _ _ HS9.out.kept.at0)
                  have x5 := C5.out _ (HSS.out _ _ HS9.out.kept.at0)
                  obtain ⟨R, WR, hR, hWR, HRS, HRG⟩ : ∃ R WR, wr.heap.size = R ∧ wr.alloc (.cells #[.slice a1 n1 c1, .slice a2 n2 c2, .slice a3 n3 c3] 37) = WR ∧ Hid (St9 w G [] ((G + 1, 0, [b, n, a]) :: (R, 0, [.slice a1 n1 c1, .slice a2 n2 c2, .slice a3 n3 c3]) :: L2) b n a TQ WR) ∧ Hid (G + 1 < R) := ⟨_, _, rfl, rfl, Lib.hid ((HS9.out.alloc [.slice a1 n1 c1, .slice a2 n2 c2, .slice a3 n3 c3] 37).sub (fun x hx => by simp only [List.mem_cons] at hx ⊢; rcases hx with h | h | h <;> simp [h])), Lib.hid (HS9.out.kept.lt _ (List.mem_cons_self ..))⟩
                  clear HS9
                  have HSEL : Hid (∀ k, k < 3 → ∃ (D : List Rec) (ad : Option Addr) (c nD : Nat), (lists9 m)[k]? = some D ∧ [Value.slice a1 n1 c1, .slice a2 n2 c2, .slice a3 n3 c3][k]? = some (.slice ad nD c) ∧ D.length = nD ∧ RecsAt w ad c D ∧ nD ≤ 65535) := Lib.hid (fun k hk => by
                    match k, hk with
                    | 0, _ => exact ⟨_, _, _, _, rfl, rfl, HNS.out.2.1, HMI.out.an, HNB.out.2.2.2.1⟩
                    | 1, _ => exact ⟨_, _, _, _, rfl, rfl, HNS.out.2.2.1, HMI.out.au, HNB.out.2.2.2.2.1⟩
                    | 2, _ => exact ⟨_, _, _, _, rfl, rfl, HNS.out.2.2.2, HMI.out.mo, HNB.out.2.2.2.2.2⟩)
                  obtain ⟨vs3, hvs3⟩ : ∃ vs3, [Value.slice a1 n1 c1, .slice a2 n2 c2, .slice a3 n3 c3] = vs3 := ⟨_, rfl⟩
                  rw [hvs3] at HRS HSEL
                  clear hvs3
                  go_wp2_with fail
                  try rw [hWR]
                  try rw [hR]
                  clear hWR hR x3 x4 x5 x2 C2 C3 C4 C5
                  go_loopw [8] (fun s8 wk => ∃ (k : Nat) (b n a : Value), k ≤ 3 ∧ s8 = .int .i64 (k : Int) ∧ Hid (St9 w G [] ((G + 1, 0, [b, n, a]) :: (R, 0, vs3) :: L2) b n a ((pre9 m k).foldl rW TQ) wk)) (fun i _ => 3 - (intOf i).toNat)
                  case atStart => exact ⟨0, _, _, _, Nat.zero_le _, rfl, HRS⟩
                  case round =>
                    clear HRS
                    obtain ⟨k, b, n, a, hk, rfl, HS⟩ := hrel
                    by_cases hkN : k < 3
                    · have hd : decide ((k : Int) < 3) = true := decide_eq_true (by omega)
                      have hdn : decide (k < 3) = true := decide_eq_true hkN
                      obtain ⟨D, ad, c, nD, hD, hv, hnD, hrs, hb4⟩ := HSEL.out k hkN
                      have HLD : Hid ((lists9 m)[k]? = some D ∧ vs3[k]? = some (.slice ad nD c) ∧ D.length = nD) := Lib.hid ⟨hD, hv, hnD⟩
                      have HRD := Lib.hid hrs
                      have HKC : Hid (∀ V us b' n' a' t', St9 w G [] ((G + 1, 0, us) :: (R, 0, vs3) :: L2) b' n' a' t' V → V.cell? ⟨R, k, none⟩ = some (.slice ad nD c)) := Lib.hid (fun V us b' n' a' t' h => (by
                        have := (h.cells (G := R) (vs := vs3) (by simp)).cell k _ HLD.out.2.1
                        exact this))
                      clear hD hv hnD hrs
                      have HS9 : Hid (St9 w G [] ((G + 1, 0, [b, n, a]) :: (R, 0, vs3) :: L2) b n a ((pre9 m k ++ D.take 0).foldl rW TQ) wr) := Lib.hid (by
                        have := HS.out
                        simpa using this)
                      clear HS
                      go_wp2_with fail
                      go_loopw [9] (fun s9 wj => ∃ (j : Nat) (b n a : Value), j ≤ nD ∧ s9 = .int .i64 (j : Int) ∧ Hid (St9 w G [] ((G + 1, 0, [b, n, a]) :: (R, 0, vs3) :: L2) b n a ((pre9 m k ++ D.take j).foldl rW TQ) wj)) (fun i _ => nD - (intOf i).toNat)
                      case atStart => exact ⟨0, _, _, _, Nat.zero_le _, rfl, HS9⟩
                      case round =>
                        clear HS9
                        obtain ⟨j, b, n, a, hj, rfl, HS⟩ := hrel
                        have xk := HKC.out _ _ _ _ _ _ HS.out
                        by_cases hjN : j < nD
                        · have hdj : decide ((j : Int) < (nD : Int)) = true := decide_eq_true (by omega)
                          have hdjn : decide (j < nD) = true := decide_eq_true hjN
                          have hjD : j < D.length := by rw [HLD.out.2.2]; exact hjN
                          obtain ⟨g, o, ha, hg, hrg⟩ := HRD.out.at j hjD
                          subst ha
                          obtain ⟨hall, hlen⟩ := pre9_mem m k D HLD.out.1 j
                          obtain ⟨hall1, hlen1⟩ := pre9_mem m k D HLD.out.1 (j + 1)
                          have HNX : Hid (pre9 m k ++ D.take (j + 1) = (pre9 m k ++ D.take j) ++ [D[j]]) := Lib.hid (by rw [List.take_add_one, List.getElem?_eq_getElem hjD, List.append_assoc]; rfl)
                          have hmj : D[j] ∈ pre9 m k ++ D.take (j + 1) := by rw [HNX.out]; exact List.mem_append_right _ (List.mem_singleton.2 rfl)
                          have HMR : Hid (mayR D[j] = true ∧ Fit D[j]) := Lib.hid ⟨hall1 (fun r => mayR r = true) HPA.out.2.2.2.1 HPA.out.2.2.2.2.1 HPA.out.2.2.2.2.2 _ hmj, hall1 Fit HMI.out.an.2.2.1 HMI.out.au.2.2.1 HMI.out.mo.2.2.1 _ hmj⟩
                          have HKR : Hid (Wok (12 + m.qs.length * 16304 + (pre9 m k ++ D.take j).length * 81845) ((pre9 m k ++ D.take j).foldl rW TQ) ∧ 12 + m.qs.length * 16304 + (pre9 m k ++ D.take j).length * 81845 ≤ 900000) := Lib.hid ⟨Wok.rs _ _ _ HOK.out (hall (fun r => mayR r = true) HPA.out.2.2.2.1 HPA.out.2.2.2.2.1 HPA.out.2.2.2.2.2) (hall Fit HMI.out.an.2.2.1 HMI.out.au.2.2.1 HMI.out.mo.2.2.1), by
                            exact Nat.le_trans (Nat.add_le_add_left (Nat.mul_le_mul_right 81845 hlen) _) HKM.out⟩
                          have HTN : Hid ((pre9 m k ++ D.take (j + 1)).foldl rW TQ = rW ((pre9 m k ++ D.take j).foldl rW TQ) D[j]) := Lib.hid (by rw [HNX.out, List.foldl_append]; rfl)
                          clear hall hlen hall1 hlen1 hmj HNX
                          obtain ⟨T, hT⟩ : ∃ T, (pre9 m k ++ D.take j).foldl rW TQ = T := ⟨_, rfl⟩
                          rw [hT] at HS HKR HTN
                          clear hT
                          obtain ⟨KN, hKN⟩ : ∃ KN, 12 + m.qs.length * 16304 + (pre9 m k ++ D.take j).length * 81845 = KN := ⟨_, rfl⟩
                          rw [hKN] at HKR
                          clear hKN
                          have HGE : Hid (g < w.heap.size ∧ w.rangeAt g (o + j * 23) (recL D[j])) := Lib.hid ⟨hg, hrg⟩
                          obtain ⟨r, hr⟩ : ∃ r, D[j] = r := ⟨_, rfl⟩
                          rw [hr] at HGE HTN HMR
                          clear hr hrg hg
                          have H16 : Hid (r.b.length = 16) := Lib.hid HMR.out.2.1
                          have HER : Hid (∀ V b' n' a' t' L', St9 w G [] L' b' n' a' t' V → V.rangeAt g (o + j * 23) (recL r)) := Lib.hid (fun V b' n' a' t' L' hv => range_foot hv.foot HGE.out.2 HGE.out.1 (by simp))
                          have hj1 : (0 : Int) ≤ (j : Int) := by omega
                          have hj2 : (j : Int) < (nD : Int) := by omega
                          have hk1 : (0 : Int) ≤ (k : Int) := by omega
                          have hk2 : (k : Int) < 3 := by omega
                          go_upto_region 20 with fail
                          refine wp_region_noPanic ?_
                          replace HS := Lib.hid HS.out.drew
                          obtain ⟨S, hS⟩ : ∃ S : World → Prop, (fun V : World => V.cell? ⟨R, k, none⟩ = some (.slice (some ⟨g, o, none⟩) nD c) ∧ V.rangeAt g (o + j * 23) (recL r)) = S := ⟨_, rfl⟩
                          have HSK : Hid (∀ V, S V → V.cell? ⟨R, k, none⟩ = some (.slice (some ⟨g, o, none⟩) nD c)) := Lib.hid (fun V h => by rw [← hS] at h; exact h.1)
                          have HSR : Hid (∀ V, S V → V.rangeAt g (o + j * 23) (recL r)) := Lib.hid (fun V h => by rw [← hS] at h; exact h.2)
                          have HSX : Hid (∀ us V b' n' a' t', St9 w G [] ((G + 1, 0, us) :: (R, 0, vs3) :: L2) b' n' a' t' V → S V) := Lib.hid (fun us V b' n' a' t' hv => by rw [← hS]; exact ⟨HKC.out _ _ _ _ _ _ hv, HER.out V _ _ _ _ _ hv⟩)
                          clear hS HER xk
                          refine wp_region_held_drew (S := S) (by kernel_rfl) (HSX.out _ _ _ _ _ _ HS.out) (fun hHeld => ?_)
                          obtain ⟨U, hU⟩ : ∃ U, wr.drew = U := ⟨_, rfl⟩
                          rw [hU] at HS hHeld ⊢
                          clear hU
                          refine tkT 1 ?_ rfl (Or.inl ⟨by rfl, ?_⟩) ?_
                          rotate_left
                          · (intro w hSw; go_simp; try (with_reducible rfl))
                          try simp only [Act.put, pZ]
                          refine tkT 2 ?_ rfl (Or.inl ⟨by rfl, ?_⟩) ?_
                          rotate_left
                          · (intro w hSw; go_simp; try (with_reducible rfl))
                          try simp only [Act.put, pZ]
                          refine tkT 3 ?_ rfl (Or.inl ⟨by rfl, ?_⟩) ?_
                          rotate_left
                          · (intro w hSw; go_simp; try (with_reducible rfl))
                          try simp only [Act.put, pZ]
                          refine tkT 4 ?_ rfl (Or.inl ⟨by rfl, ?_⟩) ?_
                          rotate_left
                          · (intro w hSw; have hc0 := HSK.out w hSw; go_simp; try (with_reducible rfl))
                          try simp only [Act.put, pZ]
                          refine tkT 5 ?_ rfl (Or.inl ⟨by rfl, ?_⟩) ?_
                          rotate_left
                          · (intro w hSw; go_simp; try (with_reducible rfl))
                          try simp only [Act.put, pZ]
                          refine tkT 6 ?_ rfl (Or.inl ⟨by rfl, ?_⟩) ?_
                          rotate_left
                          · (intro w hSw; go_simp; try (with_reducible rfl))
                          try simp only [Act.put, pZ]
                          refine wpAnyH_take (i := 7) rfl (by kernel_rfl) (by kernel_rfl) (by kernel_rfl) (fun _ _ _ h => h) (yields_rec H16 HSR (by rfl) _ rfl rfl) (by assumption) ?_
                          try simp only [Act.put, pZ]
                          refine wpAnyH_ready (rs := [0]) (by kernel_rfl) (by simp) ?_
                          refine ready_one rfl rfl (fun K hK => ?_)
                          have HLR := Lib.hid (HS.out.cells (List.mem_cons_self ..))
                          refine wp_load_W9 HLR rfl _ rfl rfl ?_
                          refine hK.out _ _ (HSX.out _ _ _ _ _ _ HS.out) (fun hHeldl => ?_)
                          clear hK K HLR
                          try simp only [Act.put, pZ]
                          refine wpAnyH_ready (rs := [8]) (by kernel_rfl) (by simp) ?_
                          refine AllReadyH.cons rfl (fun K hK => ?_) AllReadyH.nil
                          go_simp
                          refine (refRec9W_any b n a T KN r _ G HS.out.rows HS.out.size HKR.out.1 HKR.out.2 HMR.out.1 HMR.out.2).mono ?_
                          rintro e w8 ⟨b8, n8, a8, rfl, h81, h82, h83, h84⟩
                          replace HS := Lib.hid (HS.out.more (t' := rW T r) ⟨h81, h82, h83⟩ h84)
                          clear h81 h82 h83 h84
                          go_wp2_with fail
                          refine hK.out _ _ (HSX.out _ _ _ _ _ _ HS.out) (fun hHeld8 => ?_)
                          clear hK K
                          try simp only [Act.put, pZ]
                          refine wpAnyH_ready (rs := [9]) (by kernel_rfl) (by simp) ?_
                          refine ready_one rfl rfl (fun K hK => ?_)
                          have HC0 := Lib.hid (HS.out.cells (List.mem_cons_self ..))
                          refine wp_store_W9 HC0 rfl _ _ rfl rfl rfl rfl HS.out.rows.one (fun Vz HV HVC => ?_)
                          replace HS := HS.out.set (fun x hx => by rcases List.mem_cons.1 hx with rfl | hx; (have := HRG.out; simp only; omega); exact HN0.out x hx) (by have := HG.out; omega) [b8, n8, a8] rfl
                          rw [← HV.out] at HS
                          replace HS := Lib.hid HS
                          refine hK.out _ _ (HSX.out _ _ _ _ _ _ HS.out) (fun hHeldsz => ?_)
                          clear hK K HC0 HV HVC
                          try simp only [Act.put, List.getElem_toArray, List.getElem_cons_zero, List.getElem_cons_succ]
                          refine wpAnyH_done (by kernel_rfl) ?_ _
                          refine NoPanic.normal ?_
                          go_wp2_with fail
                          rw [← HTN.out] at HS
                          go_roundw
                          case rel => exact ⟨j + 1, _, _, _, by omega, by go_num, HS⟩
                          case measure => simp [intOf]; omega
                        · obtain rfl : nD = j := by omega
                          have hdj : decide ((nD : Int) < (nD : Int)) = false := by simp
                          have HS2 : Hid (St9 w G [] ((G + 1, 0, [b, n, a]) :: (R, 0, vs3) :: L2) b n a ((pre9 m (k + 1)).foldl rW TQ) wr) := Lib.hid (by
                            have := HS.out
                            rw [List.take_of_length_le (by rw [HLD.out.2.2]; exact Nat.le_refl _)] at this
                            rw [pre9_succ m k D HLD.out.1]
                            exact this)
                          clear HS
                          go_wp2_with fail
                          go_roundw
                          case rel => exact ⟨k + 1, _, _, _, by omega, by go_num, HS2⟩
                          case measure => simp [intOf]; omega
                    · obtain rfl : k = 3 := by omega
                      have hd : decide (((3 : Nat) : Int) < 3) = false := by simp
                      rw [HTM.out] at HS
                      have xb : wr.cell? ⟨G + 1, 0, none⟩ = some b := (HS.out.cells (G := G + 1) (vs := [b, n, a]) (by simp)).cell 0 _ rfl
                      have HBL : Hid (Below w.heap.size w wr) := Lib.hid (HS.out.foot.below (by simp) (Nat.le_refl _))
                      have HRB := Lib.hid HS.out.rows.rb
                      have hone := own_oneCell HS.out.rows.rb
                      go_wp2_with fail
                      go_ret
                      refine ⟨b, rfl, ?_, HBL.out⟩
                      have := HRB.out
                      rw [← HG.out] at this
                      exact this
end Go.Proofs.YtedmkdjijhflnaaGreat
namespace Go.Proofs.YtedmkdjijhflnaaGreat
open Go.RowKit Go.Sort Go.Shelf Go.Maps

set_option maxRecDepth 100000 in
theorem as12_any (q : Qry) (w : World) : Calls Tryz.prog 27 #[qryV q] w fun e w' => e = .returned (qryV q) ∧ Below w.heap.size w w' := by
  obtain ⟨id, nm, ty, sv⟩ := q
  unfold qryV
  simp only
  go_enter Tryz.func27, Tryz.ntmps27
  go_wp2_with fail
  refine bodyPost_ret (results_of (w := _) Tryz.results27 rfl (by
    have := CellsAt.new (w.alloc (.cells #[.int .i64 id, .string nm, .int .i64 ty, .int .i64 sv] 74)) 85 [.int .i64 id, .string nm, .int .i64 ty, .int .i64 sv]
    rwa [World.size_alloc] at this) Tryz.underlying85 rfl (by kernel_rfl)) rfl ⟨rfl, ((Below.refl _ _).alloc (Nat.le_refl _) _).alloc (by simp) _⟩
set_option maxRecDepth 100000 in
set_option maxHeartbeats 1000000 in
theorem cachedE_any (B G cp b : Nat) (nm : ByteArray) (kd now : Int) (L : List Ad) (c : Cfg) (n : Int) (v : Value) (A : List PL) (es : List Ce) (w : World) (h : SolE w B G cp b c n v A es)
    (hL : ∀ e, getE es (lowB nm) kd = some e → e.n = L.length ∧ AdsIn w e.a e.c L) (hl : L.length ≤ 1000) (hn : nm.size ≤ 2000000) (hk : (Lit.int .i64 kd).wf = true) :
    Calls Tryz.prog 15 #[.pointer (some ⟨G, 0, none⟩), .string nm, .int .i64 kd, .int .i64 now] w fun e w' => e = .returned (.bool ((getE es (lowB nm) kd).isSome && decide (now < (theE es (lowB nm) kd).u))) ∧ Below w.heap.size w w' := by
  have HG := Lib.hid (get_any cp b c.rm es nm kd now w h.ca hn hk L hL hl)
  have hc0 : w.cell? ⟨G, 0, none⟩ = some (.pointer (some ⟨cp, 0, none⟩)) := h.so.cs.cell 0 _ rfl
  generalize theE es (lowB nm) kd = E at *
  generalize (getE es (lowB nm) kd).isSome = hb at *
  clear h hL
  go_enter Tryz.func15, Tryz.ntmps15
  go_wp2_with fail
  refine HG.out.mono ?_
  rintro e w2 ⟨hg, hb2⟩
  rcases hg with ⟨hno, rfl⟩ | ⟨hyes, hnow, v2, rfl, hr⟩
  · go_wp2_with fail
    go_ret
    refine ⟨?_, hb2⟩
    rcases hno with h | h
    · rw [h]; rfl
    · rw [decide_eq_false (by omega), Bool.and_false]; rfl
  · go_wp2_with fail
    go_ret
    exact ⟨by rw [hyes, decide_eq_true hnow]; rfl, hb2⟩
def cfgA : Cfg := ⟨1, 1, 9, 3⟩
def lkA (nm : ByteArray) (id : Int) : Lk := ⟨0, nm, ⟨id, nm, 1, 0⟩, 0, 9, 0, 604800⟩
theorem lkA_new (nm : ByteArray) (t : Int) : newLk cfgA 0 nm 1 t 0 = lkA nm (idP t) := rfl
theorem putE_K (nm : ByteArray) (T : Int) (m : Nat) (a' : Option Addr) (c' : Nat) (h2 : T ≤ 604800) : putE 3 [] nm 1 T 1 m a' c' = [⟨lowB nm, 1, a', m, c', 1 + T⟩] := by
  unfold putE
  rw [Int.min_eq_left h2]
  rfl
theorem cutA_one (g : Nat) (l : Lk) : cutA [(g, l)] g = [] := by simp [cutA]
theorem heard_K {w w' : World} {nm : ByteArray} {T id : Int} {l : List Ad} {g : Nat} (hl : l.Nodup) (h1 : 1 ≤ T) (h2 : T ≤ 604800) {m : Msg} (hm : m = forgeM ⟨id, nm, 1, 0⟩ (l.map (recK nm T))) {bs : List UInt8} (hb : bs.length ≤ 1232) (hg : mgP bs = some m) {L : List Ev} {A' : List PL} {es' : List Ce}
    (h : (L = [] ∧ A' = [(g, lkA nm id)] ∧ es' = [] ∧ ((bs.length ≤ 1232 → mgP bs = none) ∨ ∃ m, bs.length ≤ 1232 ∧ mgP bs = some m ∧ ∀ q ∈ [(g, lkA nm id)], ansP q.2.q 0 m = false)) ∨
      ∃ m P p D ev a cap, bs.length ≤ 1232 ∧ mgP bs = some m ∧ [(g, lkA nm id)] = P ++ p :: D ∧ (∀ q ∈ P, ansP q.2.q 0 m = false) ∧ ansP p.2.q 0 m = true ∧ L = [ev] ∧ (∀ g o, a = some ⟨g, o, none⟩ → w.heap.size ≤ g) ∧ ToldW w w' cfgA [(g, lkA nm id)] [] p (tellP m.fl p.2.q.nm p.2.q.ty m.an) a cap 0 1 ev A' es') :
    A' = [] ∧ ((l = [] ∧ L = [evF 0 8] ∧ es' = []) ∨ (l ≠ [] ∧ ∃ a cap, L = [evD 0 a l.length cap] ∧ AdsIn w' a cap l ∧ (∀ g o, a = some ⟨g, o, none⟩ → w.heap.size ≤ g) ∧ ∃ a' c', es' = [⟨lowB nm, 1, a', l.length, c', 1 + T⟩] ∧ AdsIn w' a' c' l ∧ ∀ g o, a' = some ⟨g, o, none⟩ → w.heap.size ≤ g)) := by
  rcases h with ⟨_, _, _, h⟩ | ⟨m2, P, p, D, ev, a, cap, _, hm2, hA, _, _, rfl, hfar, h⟩
  · rcases h with h | ⟨m2, _, hm2, h⟩
    · rw [h hb] at hg; cases hg
    · rw [hg] at hm2
      injection hm2 with hm2
      have h3 := h (g, lkA nm id) (by simp)
      rw [← hm2, hm] at h3
      rw [show ansP (g, lkA nm id).2.q 0 (forgeM ⟨id, nm, 1, 0⟩ (l.map (recK nm T))) = true from ans_K id nm _] at h3
      cases h3
  · rw [hg] at hm2
    injection hm2 with hm2
    obtain rfl : p = (g, lkA nm id) := by
      cases P with
      | nil => simp at hA; exact hA.1.symm
      | cons x P => simp at hA
    rw [← hm2, hm] at h
    rw [show tellP (forgeM ⟨id, nm, 1, 0⟩ (l.map (recK nm T))).fl (g, lkA nm id).2.q.nm (g, lkA nm id).2.q.ty (forgeM ⟨id, nm, 1, 0⟩ (l.map (recK nm T))).an = _ from tell_K nm T l hl h2] at h
    by_cases hl0 : l = []
    · rw [if_pos hl0] at h
      rcases h with ⟨h, _⟩ | ⟨_, _, h3, h4, h5⟩ | ⟨h, _⟩ | ⟨h, _⟩ | ⟨h, _⟩
      · cases h
      · exact ⟨by rw [h4]; exact cutA_one g _, .inl ⟨hl0, by rw [h3]; rfl, h5⟩⟩
      · cases h
      · cases h
      · cases h
    · rw [if_neg hl0] at h
      rcases h with ⟨h, _⟩ | ⟨h, _⟩ | ⟨_, h, _⟩ | ⟨_, _, _, h3, h4, h5, h6⟩ | ⟨_, _, h, _⟩
      · cases h
      · exact absurd rfl h
      · exact absurd h (by show ¬ ((8 : Int) < 0 + ((0 : Nat) : Int)); decide)
      · refine ⟨by rw [h4]; exact cutA_one g _, .inr ⟨hl0, a, cap, by rw [h3]; rfl, h5, hfar, ?_⟩⟩
        have hmt : min (g, lkA nm id).2.tt T = T := by show min 604800 T = T; omega
        rw [show (⟨0, l, T, ⟨#[]⟩, 0⟩ : Tld).ttl = T from rfl, hmt] at h6
        rcases h6 with ⟨h6, _⟩ | ⟨_, a', c', h6, h7, h8⟩
        · omega
        · exact ⟨a', c', by rw [h6]; exact putE_K nm T l.length a' c' h2, h7, h8⟩
      · exact absurd h hl0
theorem ev_query {w : World} {g : Nat} {e : Ev} (h : CellsAt w g (evL e)) : w.rangeAt g 2 [.int .i64 e.q.id, .string e.q.nm, .int .i64 e.q.ty, .int .i64 e.q.sv] := fun j u hu => by
  refine h.cell (2 + j) u ?_
  rcases j with _ | _ | _ | _ | j
  · simpa [evL] using hu
  · simpa [evL] using hu
  · simpa [evL] using hu
  · simpa [evL] using hu
  · simp at hu
theorem forgeA_any (id : Int) (nm : ByteArray) (a : Option Addr) (c : Nat) (D : List Rec) (n : Nat) (hn : D.length = n) (w : World) (hA : RecsAt w a c D) (hs : nm.size ≤ 253) :
    Calls Tryz.prog 26 #[.agg #[.int .i64 id, .string nm, .int .i64 1, .int .i64 0], .slice a n c] w fun e w' => ∃ g, e = .returned (.agg #[.int .i64 id, .int .i64 33152, .slice (some ⟨g, 0, none⟩) 1 1, .slice a n c, .slice none 0 0, .slice none 0 0]) ∧ MsgIn w' (forgeM ⟨id, nm, 1, 0⟩ D) (some ⟨g, 0, none⟩) a none none 1 c 0 0 ∧ Below w.heap.size w w' := by
  subst hn
  refine (refForge11_any ⟨id, nm, 1, 0⟩ a c D w hA).mono ?_
  rintro e w' ⟨g, e1, _, hq, hr, hb⟩
  obtain ⟨ad, c2, e2, hq2⟩ := RowQ.qus hq (fun r hr => by
    rw [List.mem_singleton.1 hr]
    exact ⟨by show (Lit.int .i64 1).wf = true; decide, by show (Lit.int .i64 1).wf = true; decide, by show nm.size ≤ maxLen; unfold maxLen; omega⟩)
  injection e2 with e2 _ e3
  subst e2
  subst e3
  exact ⟨g, e1, ⟨hq2, hr, ⟨Nat.le_refl _, by unfold maxLen; omega, (fun r hr => by cases hr), .inl rfl⟩, ⟨Nat.le_refl _, by unfold maxLen; omega, (fun r hr => by cases hr), .inl rfl⟩⟩, hb⟩
theorem writeA_any (id : Int) (nm : ByteArray) (g : Nat) (a : Option Addr) (c : Nat) (D : List Rec) (n : Nat) (hn : D.length = n) (w : World) (hM : MsgIn w (forgeM ⟨id, nm, 1, 0⟩ D) (some ⟨g, 0, none⟩) a none none 1 c 0 0) (hmm : mayM (forgeM ⟨id, nm, 1, 0⟩ D) = true) (h3 : n ≤ 3) :
    Calls Tryz.prog 25 #[.agg #[.int .i64 id, .int .i64 33152, .slice (some ⟨g, 0, none⟩) 1 1, .slice a n c, .slice none 0 0, .slice none 0 0]] w fun e w' => ∃ ab cb, e = .returned (.slice ab (wB (forgeM ⟨id, nm, 1, 0⟩ D)).length cb) ∧ BytesIn2 w' ab cb (wB (forgeM ⟨id, nm, 1, 0⟩ D)) ∧ (∀ x, ab = some x → (wB (forgeM ⟨id, nm, 1, 0⟩ D)).length ≠ 0 → x.block < w'.heap.size) ∧ Below w.heap.size w w' := by
  subst hn
  refine (refWrite9_any (forgeM ⟨id, nm, 1, 0⟩ D) (some ⟨g, 0, none⟩) a none none 1 c 0 0 w hM hmm ⟨by show 1 ≤ 65535; decide, by show D.length ≤ 65535; omega, by show 0 ≤ 65535; decide, by show 0 ≤ 65535; decide⟩ (by show 12 + 1 * 16304 + (D.length + 0 + 0) * 81845 ≤ 900000; omega)).mono ?_
  rintro e w' ⟨v', rfl, ho, hb⟩
  obtain ⟨ab, cb, rfl, hi⟩ := in_own ho
  exact ⟨ab, cb, rfl, hi, fun x hx _ => (ho.lt x.block (by rw [hx]; rfl)).2, hb⟩
theorem getE_own (x : ByteArray) (a : Option Addr) (n c : Nat) (u : Int) : getE [⟨x, 1, a, n, c, u⟩] x 1 = some ⟨x, 1, a, n, c, u⟩ := by
  simp [getE, findC]
theorem recK_step {nm : ByteArray} {T : Int} {a : Ad} (h16 : a.2.length = 16) {t : Wst} {one : Nat} (h : (nmT nm t.1.length t.2.1 t.2.2).1.length = one ∧ (nmT nm t.1.length t.2.1 t.2.2).2 = t.2) : (rW t (recK nm T a)).1.length = t.1.length + (one + 14) ∧ (rW t (recK nm T a)).2 = t.2 := by
  have hd : daR t (recK nm T a) = (byB (a.2.take 4), (nmT nm t.1.length t.2.1 t.2.2).2) := by unfold daR daT; rw [if_pos (show (recK nm T a).ty = 1 from rfl)]; rfl
  have h4 : (byB (a.2.take 4)).length = 4 := by unfold byB; rw [List.length_map, List.length_take, h16]; rfl
  unfold rW
  rw [hd]
  refine ⟨?_, h.2⟩
  simp only [List.length_append, numsR_len, h4]
  rw [show (recK nm T a).name = nm from rfl, h.1]
  show t.1.length + one + 8 + 2 + 4 = _
  omega
theorem recK_fold {nm : ByteArray} {T : Int} {one : Nat} : ∀ (l : List Ad) (t : Wst), (∀ a ∈ l, a.2.length = 16) → (∀ l : List UInt8, (nmT nm l.length t.2.1 t.2.2).1.length = one ∧ (nmT nm l.length t.2.1 t.2.2).2 = t.2) → ((l.map (recK nm T)).foldl rW t).1.length = t.1.length + l.length * (one + 14)
  | [], t, _, _ => by simp
  | a :: l, t, h16, h => by
    have h1 := recK_step (T := T) (h16 a (by simp)) (h t.1)
    rw [List.map_cons, List.foldl_cons, recK_fold l (rW t (recK nm T a)) (fun x hx => h16 x (by simp [hx])) (by rw [h1.2]; exact h), h1.1, List.length_cons, Nat.succ_mul]
    omega
theorem forge_len {nm : ByteArray} {T id : Int} {l : List Ad} (hm : mayN nm = true) (hs : 1 ≤ nm.size ∧ nm.size ≤ 22) (h16 : ∀ a ∈ l, a.2.length = 16) (hl : l.length ≤ 3) : (wB (forgeM ⟨id, nm, 1, 0⟩ (l.map (recK nm T)))).length ≤ 1232 := by
  have h0 := small_first hm 12 (by decide)
  have hbl : (bytesL (labelsB nm)).length = nm.size + 2 := by rw [bytesL_size, size_labels, if_neg (by omega)]
  have e0 : (hdB (forgeM ⟨id, nm, 1, 0⟩ (l.map (recK nm T)))).length = 12 := rfl
  show ((l.map (recK nm T)).foldl rW (qW (hdB (forgeM ⟨id, nm, 1, 0⟩ (l.map (recK nm T))), [], []) ⟨nm, 1, 1⟩)).1.length ≤ 1232
  have e1 : (qW (hdB (forgeM ⟨id, nm, 1, 0⟩ (l.map (recK nm T))), [], []) ⟨nm, 1, 1⟩).1.length = 12 + (bytesL (labelsB nm)).length + 4 := by
    unfold qW
    simp only [List.length_append, e0, h0.1]
    rfl
  have e2 : (qW (hdB (forgeM ⟨id, nm, 1, 0⟩ (l.map (recK nm T))), [], []) ⟨nm, 1, 1⟩).2 = (nmT nm 12 [] []).2 := rfl
  rw [recK_fold (one := 2) l _ h16 (fun x => by rw [e2]; exact small_next hm (by omega) (h0.2 (by omega))), e1, hbl]
  omega
end Go.Proofs.YtedmkdjijhflnaaGreat
namespace Go.Proofs.YtedmkdjijhflnaaGreat
open Go.RowKit Go.Sort Go.Shelf Go.Maps

set_option maxRecDepth 100000 in
set_option maxHeartbeats 4000000 in
theorem lives12_any (w : World) :
    Calls Tryz.prog 16 #[] w fun e w' => e = .returned (.bool true) ∧ Below w.heap.size w w' := by
  have HNW := Lib.hid (newQ_any 2 2 5 1 w)
  have hcf : cfgP 2 2 5 1 = cfg12 := rfl
  rw [hcf] at HNW
  have HST := fun G cp b W (h : SolQ W w.heap.size G cp b cfg12 0 (.slice none 0 0) []) => Lib.hid (startQ_any w.heap.size G cp b nmA 1 7 0 cfg12 0 (.slice none 0 0) [] W h lv_ask (by decide) (by decide) (by decide) (by decide) (by decide) (by decide) (by decide) (by decide))
  have HT1 := fun G cp b v g W (h : SolQ W w.heap.size G cp b cfg12 1 v [(g, lv1)]) => Lib.hid (tickQ_any w.heap.size G cp b 8 5 cfg12 1 v [(g, lv1)] W h (by intro p hp; rw [List.mem_singleton.1 hp]; show (0 : Int) < 2; decide) (by decide) (by decide) (by decide) (by simp))
  have HT2 := fun G cp b v g W (h : SolQ W w.heap.size G cp b cfg12 1 v [(g, lv2)]) => Lib.hid (tickQ_any w.heap.size G cp b 9 10 cfg12 1 v [(g, lv2)] W h (by intro p hp; rw [List.mem_singleton.1 hp]; show (1 : Int) < 2; decide) (by decide) (by decide) (by decide) (by simp))
  simp only [lv_t1, lv_e1] at HT1
  simp only [lv_t2, lv_e2] at HT2
  simp only [lv_new, List.length_nil, List.nil_append] at HST
  have HBD : Tryz.prog.built 23 [(0, .int .i64 2), (1, .int .i64 2), (2, .int .i64 5), (3, .int .i64 1)] = some #[.int .i64 2, .int .i64 2, .int .i64 5, .int .i64 1] := built_cf 2 2 5 1
  go_enter Tryz.func16, Tryz.ntmps16
  go_wp2_with (refine build_of rfl rfl HBD (by simp only [List.map_toArray, List.map_cons, List.map_nil]; rfl) ?_)
  refine HNW.out.mono ?_
  rintro e w1 ⟨G, cp, b, rfl, hq, hb⟩
  have HB1 := Lib.hid hb
  have HS1 := HST G cp b w1 hq
  clear HNW hq hb HST hcf HBD
  go_wp2_with fail
  unfold nmA at HS1
  refine HS1.out.mono ?_
  rintro e w2 ⟨ev, v2, A2, rfl, hq, hb, _, hd⟩
  obtain ⟨_, rfl, g, rfl⟩ : 0 ≠ 16 ∧ ev = evS lv1 ∧ ∃ g, A2 = [(g, lv1)] := by
    rcases hd with ⟨h, _⟩ | h
    · cases h
    · exact h
  have HQ2 := Lib.hid hq
  have HB2 := Lib.hid (HB1.out.trans hb)
  clear hq hb hd HS1
  have HEV : evV (evS lv1) = .agg #[.int .i64 0, .int .i64 0, .int .i64 7, .string ⟨#[97]⟩, .int .i64 1, .int .i64 0, .slice none 0 0, .int .i64 0] := rfl
  rw [HEV]
  have HZ3 := Lib.hid (zeroEv w2 77)
  have hb3 := (Below.refl w2.heap.size w2).alloc (Nat.le_refl _) (.cells #[.int .i64 0, .int .i64 0, .int .i64 0, .string ⟨#[]⟩, .int .i64 0, .int .i64 0, .slice none 0 0, .int .i64 0] 77)
  obtain ⟨W3, hW3⟩ : ∃ W3, w2.alloc (.cells #[.int .i64 0, .int .i64 0, .int .i64 0, .string ⟨#[]⟩, .int .i64 0, .int .i64 0, .slice none 0 0, .int .i64 0] 77) = W3 := ⟨_, rfl⟩
  rw [hW3] at HZ3 hb3
  have HB3 := Lib.hid hb3
  clear hb3
  go_upto_region 5 with (refine store_of HZ3 rfl ev_size _ _ rfl rfl rfl (vs := evL (evS lv1)) rfl rfl rfl (fun U HU HUC => ?_))
  try simp only [Act.put]
  have hU : Below w2.heap.size w2 U := by rw [HU.out]; exact below_cells (Nat.le_refl _) _ _ _ HB3.out
  have HT := HT1 G cp b v2 g U (HQ2.out.below hU)
  have HB4 := Lib.hid (HB2.out.trans (hU.mono HQ2.out.lt))
  have HQB : Hid (w.heap.size ≤ w2.heap.size) := Lib.hid HQ2.out.lt
  have HNE : Hid (w2.heap.size ∉ fpO G v2 [(g, lv1)]) := Lib.hid (fun e => by have := fpO_lt HQ2.out.so _ e; omega)
  obtain ⟨E, hE⟩ : ∃ E, w2.heap.size = E := ⟨_, rfl⟩
  rw [hE] at HUC HQB HNE
  have HEL : Hid (w.heap.size ≤ E ∧ E < U.heap.size) := Lib.hid ⟨HQB.out, HUC.out.lt⟩
  rw [hE]
  clear HU HB3 HZ3 hW3 hE hU HT1 HQ2 HB2 HQB HB1
  go_wp2_with fail
  refine HT.out.mono ?_
  rintro e w3 ⟨v3, ve, rfl, hr, hq, hb, hf, hk⟩
  obtain ⟨g3, c3, rfl, hg3, hg3l, hr3⟩ := hr.one
  have HT' := HT2 G cp b v3 g w3 hq
  have HE3 := Lib.hid (HUC.out.foot hf HNE.out)
  have HN3 : Hid (E ∉ fpO G v3 [(g, lv2)]) := Lib.hid (hf.out HEL.out.2 HNE.out)
  have HG3 : Hid (g3 ∉ fpO G v3 [(g, lv2)]) := Lib.hid (fun e => by have := hk _ e; omega)
  have HB5 := Lib.hid (HB4.out.trans hb)
  have HR3 := Lib.hid hr3
  have HL3 := Lib.hid hg3l
  clear hr hq hb hf hk hg3 hg3l hr3 HT HT2 HUC HNE HB4 HEL
  go_wp2_with fail
  refine HT'.out.mono ?_
  rintro e w4 ⟨v4, ve4, rfl, hr, hq, hb, hf, hk⟩
  obtain ⟨g4, c4, rfl, hg4, hg4l, hr4⟩ := hr.one
  have HE4 := HE3.out.foot hf HN3.out
  have HR4 := range_foot hf HR3.out HL3.out HG3.out
  have HB6 := Lib.hid (HB5.out.trans hb)
  have e0 := HE4.cell 0 _ rfl
  have e2 := HE4.cell 2 _ rfl
  have f0 := HR4 0 _ rfl
  have f5 := HR4 5 _ rfl
  have k0 := hr4 0 _ rfl
  have k7 := hr4 7 _ rfl
  simp only [Nat.zero_add] at f0 f5 k0 k7
  clear HT' HE3 HN3 HG3 HB5 HR3 HL3 hr hq hb hf hk hg4 hg4l hr4 HE4 HR4
  go_wp2_with fail
  go_ret
  exact ⟨rfl, HB6.out⟩
end Go.Proofs.YtedmkdjijhflnaaGreat
namespace Go.Proofs.YtedmkdjijhflnaaGreat
open Go.RowKit

def hexd (d : Nat) : UInt8 := if d < 10 then UInt8.ofNat (48 + d) else UInt8.ofNat (87 + d)
def hexs : ByteArray := { data := #[48, 49, 50, 51, 52, 53, 54, 55, 56, 57, 97, 98, 99, 100, 101, 102] }
def dstr (n b : Nat) : Nat → ByteArray
  | 0 => { data := #[] }
  | i + 1 => hexs.extract (n / b ^ i % b) (n / b ^ i % b + 1) ++ dstr n b i
def aroundN (n : Int) (q : Nat) : Nat := (if n < 0 then -(n + 1) else n).toNat % q
theorem aroundN_lt (n : Int) (q : Nat) (h : 0 < q) : aroundN n q < q := Nat.mod_lt _ h

set_option maxHeartbeats 400000 in
theorem around_any (n : Int) (q : Nat) (w : World) (hn : (Lit.int .i64 n).wf = true) (hq : 0 < q) (hq2 : q ≤ 4611686018427387904) :
    Calls Tryz.prog 10 #[.int .i64 n, .int .i64 (q : Int)] w fun e w' => e = .returned (.int .i64 ((aroundN n q : Nat) : Int)) ∧ w = w' := by
  have hb := bounds_i64 hn
  by_cases h : n < 0
  · obtain ⟨m, hm⟩ : ∃ m : Nat, -(n + 1) = (m : Int) := ⟨(-(n + 1)).toNat, by omega⟩
    have e : aroundN n q = m % q := by unfold aroundN; rw [if_pos h, hm]; rfl
    rw [e]
    go_enter Tryz.func10, Tryz.ntmps10
    go_wp2
    go_ret
    exact ⟨by first | rfl | simp, rfl⟩
  · obtain ⟨m, rfl⟩ : ∃ m : Nat, n = (m : Int) := ⟨n.toNat, by omega⟩
    have e : aroundN m q = m % q := by unfold aroundN; rw [if_neg h]; rfl
    rw [e]
    go_enter Tryz.func10, Tryz.ntmps10
    go_wp2
    go_ret
    exact ⟨by first | rfl | simp, rfl⟩
end Go.Proofs.YtedmkdjijhflnaaGreat
namespace Go.Proofs.YtedmkdjijhflnaaGreat
open Go.RowKit

def ForgeRet (w : World) (q : Qry) (D : List Rec) (e : Ending) (w' : World) : Prop :=
  Below w.heap.size w w' ∧ ∃ aq a1 c1, e = .returned (msgV (forgeM q D) aq a1 none none 1 c1 0 0) ∧ MsgIn w' (forgeM q D) aq a1 none none 1 c1 0 0
end Go.Proofs.YtedmkdjijhflnaaGreat
namespace Go.Proofs.YtedmkdjijhflnaaGreat
open Go.RowKit

end Go.Proofs.YtedmkdjijhflnaaGreat
