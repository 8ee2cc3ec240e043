/- The first twelve bytes of a message that may be are the Id, the Flags, and how many there are of each, two bytes each, the higher one first. For every message of bulk at most 1048576 (made one that may be). -/
import Derived.Test.YticdpidngmeebaaC9
import Derived.Test.YticdpidngmeebaaRows
import Derived.ProofKit
import Derived.OpenShut
import Derived.ShutString
import Derived.ChangeOld
import Derived.Below
import Derived.JoinedCond
namespace Go.Proofs.Yticdpidngmeebaa.wireHead
open Go.ChangeShapes Go.WideShapes Go.ChangeAt Go.RowKit
open Go.ChangeMaps (open_string shut_string)
set_option linter.unusedVariables false
set_option maxRecDepth 20000

theorem own : ownKnob Try.prog.godebug = none := by kernel_rfl

theorem own_some9 {w : World} {B n : Nat} {t : TypeId} {z : Nat} {v : Value} {xs : List Value} (h : w.ownsRow B t z v n xs) (hn : 0 < n) : ∃ g c, v = .slice (some ⟨g, 0, none⟩) n c := by
  rcases h.2 with ⟨_, e⟩ | ⟨g, cap, cur, e, _⟩
  · omega
  · exact ⟨g, cap, e⟩
theorem row_words {w : World} {v : Value} {l : List UInt8} {b : Nat} (h : w.ownsRow b 5 1 v l.length (bys l)) (hn : 0 < l.length) : ∃ g c, v = .slice (some ⟨g, 0, none⟩) l.length c ∧ g < w.heap.size ∧ ∀ k (hk : k < l.length), w.cell? ⟨g, k, none⟩ = some (.int .u8 ((l[k].toNat : Nat) : Int)) := by
  obtain ⟨g, c, hv⟩ := own_some9 h hn
  refine ⟨g, c, hv, (h.lt g (by rw [hv]; rfl)).2, fun k hk => ?_⟩
  have := h.cells (g := g) (by rw [hv]; rfl) k (.int .u8 ((l[k].toNat : Nat) : Int)) (by unfold bys; rw [List.getElem?_map, List.getElem?_eq_getElem hk]; rfl)
  rwa [add_none] at this
set_option maxRecDepth 100000 in
set_option maxHeartbeats 4000000 in
theorem walk (m : Msg) (aq a1 a2 a3 : Option Addr) (cq c1 c2 c3 : Nat) (w : World) (hG : MsgGot w m aq a1 a2 a3 cq c1 c2 c3 1048576) :
    Calls Try.prog 9 #[msgV m aq a1 a2 a3 cq c1 c2 c3] w fun e w' => e = .returned (.bool true) ∧ Below w.heap.size w w' := by
  have hfan := hG.an.at0.2.2.1
  have hfau := hG.au.at0.2.2.1
  have hfmo := hG.mo.at0.2.2.1
  have HGD := fun V (h : Below w.heap.size w V) => Lib.hid (goodMsg9_any m aq a1 a2 a3 cq c1 c2 c3 V (hG.ins.below h) ⟨fun q hq => by have := hG.qs.room q hq; omega, fun r hr => by have := hG.an.room r hr; exact ⟨by have := this.1; omega, by have := this.2.1; omega⟩, fun r hr => by have := hG.au.room r hr; exact ⟨by have := this.1; omega, by have := this.2.1; omega⟩, fun r hr => by have := hG.mo.room r hr; exact ⟨by have := this.1; omega, by have := this.2.1; omega⟩⟩)
  have HMY := Lib.hid (goodM_may (m := m) hfan hfau hfmo)
  have HRM := Lib.hid (goodM_room m)
  have hwt : ∀ n ∈ wants (goodM m), n ≤ 65535 := by
    have hp := mayM_parts HMY.out
    have hl := HRM.out.2
    intro n hn
    simp only [wants, List.mem_cons, List.not_mem_nil, or_false] at hn
    rcases hn with rfl | rfl | rfl | rfl | rfl | rfl
    · have := hp.2.1; omega
    · have := hp.2.2.1; omega
    · exact hl.1
    · exact hl.2.1
    · exact hl.2.2.1
    · exact hl.2.2.2
  have HID : Hid ((goodM m).id = ((goodM m).id.toNat : Int) ∧ (goodM m).fl = ((goodM m).fl.toNat : Int)) := Lib.hid (by
    have hp := mayM_parts HMY.out
    exact ⟨by have := hp.2.1; omega, by have := hp.2.2.1; omega⟩)
  have HWT := Lib.hid hwt
  have HHW := Lib.hid (fun i hi h0 h1 => head_word (goodM m) hwt i hi h0 h1)
  have HLV := fun V => Lib.hid (lives9_any V)
  have HPRE : Hid (12 ≤ (wB (goodM m)).length) := Lib.hid (by
    obtain ⟨x, hx⟩ := wB_pre (goodM m)
    rw [hx, List.length_append, hd_len]
    omega)
  generalize goodM m = gm at *
  obtain ⟨vm, hvm, lvm, ovm⟩ := msg_row m aq a1 a2 a3 cq c1 c2 c3
  obtain ⟨W, hW⟩ : ∃ W, w.alloc (.cells vm.toArray 25) = W := ⟨_, rfl⟩
  have HBX : Hid (CellsAt W w.heap.size vm) := Lib.hid (by rw [← hW]; exact CellsAt.new _ _ _)
  have HB0 : Hid (Below w.heap.size w W) := Lib.hid (by rw [← hW]; exact (Below.refl _ _).alloc (Nat.le_refl _) _)
  have HGW := HGD W HB0.out
  rw [hvm] at HGW ⊢
  clear hG hfan hfau hfmo hwt hvm ovm HGD
  go_enter Try.func9, Try.ntmps9
  go_upto_region 1 with fail
  try rw [hW]
  clear hW
  go_wp2_with (refine load_msg HBX lvm _ rfl rfl rfl ?_)
  refine HGW.out.mono ?_
  rintro e w1 ⟨bq, b1, b2, b3, dq, d1, d2, d3, rfl, hm1, hb1⟩
  have HM1 := Lib.hid hm1
  have HB1 := Lib.hid (chain HB0.out hb1)
  have HZ1 : Hid (CellsAt (w1.alloc (.cells zM.toArray 25)) w1.heap.size zM) := Lib.hid (CellsAt.new w1 _ zM)
  unfold msgV
  clear hm1 hb1 HGW HBX HB0
  go_upto_region 2 with (have HZ := HZ1; refine store_msg HZ rfl _ _ rfl rfl (vs := [.int .i64 gm.id, .int .i64 gm.fl, .slice bq gm.qs.length dq, .slice b1 gm.an.length d1, .slice b2 gm.au.length d2, .slice b3 gm.mo.length d3]) rfl rfl rfl rfl (fun W2 HW2 HX2 => ?_); clear HZ1)
  have HB2 : Hid (Below w1.heap.size w1 W2) := Lib.hid (by rw [HW2.out]; exact below_cells (Nat.le_refl _) _ _ _ ((Below.refl _ _).alloc (Nat.le_refl _) _))
  have HM := Lib.hid (HM1.out.below HB2.out)
  have HB := Lib.hid (chain HB1.out HB2.out)
  clear HB2 HM1 HB1 HZ HW2
  generalize w1.heap.size = G1 at *
  have HWR := Lib.hid (write9_any gm bq b1 b2 b3 dq d1 d2 d3 W2 HM.out HRM.out.1 HRM.out.2)
  unfold msgV at HWR
  have HPC := Lib.hid HX2.out
  go_wp2_with (refine load_msg HPC rfl _ rfl rfl rfl ?_)
  refine HWR.out.mono ?_
  rintro e w3 h3
  have HB3 := Lib.hid (chain HB.out h3.1)
  have HX3 := Lib.hid (HX2.out.below h3.1)
  rcases h3.2 with ⟨hm, _⟩ | ⟨_, hlen, rfl⟩ | ⟨_, hlen, v', rfl, ho⟩
  · rw [HMY.out] at hm; exact absurd hm (by decide)
  · clear h3 HWR HX2 HPC HB HM
    go_wp2_with fail
    refine (HLV _).out.mono ?_
    rintro e w4 ⟨rfl, hb4⟩
    have HB4 := Lib.hid (chain HB3.out hb4)
    clear hb4 HLV
    go_wp2_with fail
    go_ret
    exact ⟨rfl, HB4.out⟩
  · obtain ⟨g, c, hv, hg, hcells⟩ := row_words ho (by have := HPRE.out; omega)
    subst hv
    obtain ⟨L, hL⟩ : ∃ L, (wB gm).length = L := ⟨_, rfl⟩
    have HCE := Lib.hid hcells
    have HLL := Lib.hid hL
    have hL12 : 12 ≤ L := by rw [← hL]; exact HPRE.out
    have hLm : L ≤ 1232 := by rw [← hL]; exact hlen
    rw [hL]
    have x0 := HX3.out.cell 0 _ rfl
    have x1 := HX3.out.cell 1 _ rfl
    have x2 := HX3.out.cell 2 _ rfl
    have x3 := HX3.out.cell 3 _ rfl
    have x4 := HX3.out.cell 4 _ rfl
    have x5 := HX3.out.cell 5 _ rfl
    clear h3 HWR HX2 HPC HB HM hlen ho hcells hL HX3
    rw [HID.out.1] at x0
    rw [HID.out.2] at x1
    have HWS : Hid (wants gm = [gm.id.toNat, gm.fl.toNat, gm.qs.length, gm.an.length, gm.au.length, gm.mo.length]) := Lib.hid rfl
    clear HID HRM
    generalize gm.id.toNat = n0 at *
    generalize gm.fl.toNat = n1 at *
    generalize gm.qs.length = n2 at *
    generalize gm.an.length = n3 at *
    generalize gm.au.length = n4 at *
    generalize gm.mo.length = n5 at *
    obtain ⟨V6, hV6⟩ : ∃ V, w3.alloc (.cells #[.int .i64 (n0 : Int), .int .i64 (n1 : Int), .int .i64 (n2 : Int), .int .i64 (n3 : Int), .int .i64 (n4 : Int), .int .i64 (n5 : Int)] 3) = V := ⟨_, rfl⟩
    have HB6 : Hid (Below w3.heap.size w3 V6) := Lib.hid (by rw [← hV6]; exact (Below.refl _ _).alloc (Nat.le_refl _) _)
    have HWC : Hid (∀ i (h : i < (wants gm).length), V6.cell? ⟨w3.heap.size, i, none⟩ = some (.int .i64 (((wants gm)[i] : Nat) : Int))) := Lib.hid (fun i h => by
      rw [← hV6]
      have hb := built_new (w := w3) (cs := [.int .i64 (n0 : Int), .int .i64 (n1 : Int), .int .i64 (n2 : Int), .int .i64 (n3 : Int), .int .i64 (n4 : Int), .int .i64 (n5 : Int)]) 3
      have h6 : i < 6 := by rw [HWS.out] at h; exact h
      have := hb i (.int .i64 (((wants gm)[i] : Nat) : Int)) (by
        simp only [HWS.out]
        match i, h6 with
        | 0, _ => rfl
        | 1, _ => rfl
        | 2, _ => rfl
        | 3, _ => rfl
        | 4, _ => rfl
        | 5, _ => rfl)
      rwa [Nat.zero_add] at this)
    have HCE6 : Hid (∀ k (hk : k < (wB gm).length), V6.cell? ⟨g, k, none⟩ = some (.int .u8 (((wB gm)[k].toNat : Nat) : Int))) := Lib.hid (fun k hk => (HB6.out.cell (p := ⟨g, k, none⟩) hg).trans (HCE.out k hk))
    have HGL : Hid (g < V6.heap.size ∧ w3.heap.size < V6.heap.size) := Lib.hid (by have h1 := HB6.out.size; refine ⟨by omega, ?_⟩; rw [← hV6]; simp)
    have HBB : Hid (Below w.heap.size w V6) := Lib.hid (chain HB3.out HB6.out)
    have hdL : decide ((L : Int) < 12) = false := decide_eq_false (by omega)
    have hdLn : decide (L < 12) = false := decide_eq_false (by omega)
    clear HB6 HCE HB3 hg
    go_upto_region 6 with fail
    try rw [hV6]
    clear hV6 x0 x1 x2 x3 x4 x5
    obtain ⟨Gw, hGw⟩ : ∃ G, w3.heap.size = G := ⟨_, rfl⟩
    rw [hGw] at HWC HGL
    try rw [hGw]
    clear hGw
    go_wp2_with fail
    go_loopw [7] (fun s7 wr => ∃ i : Nat, i ≤ 6 ∧ s7 = .int .i64 (i : Int) ∧ Hid (Below V6.heap.size V6 wr)) (fun s7 _ => 6 - (intOf s7).toNat)
    case atStart => exact ⟨0, Nat.zero_le _, rfl, Lib.hid (Below.refl _ _)⟩
    case round =>
      obtain ⟨i, hi, rfl, HR⟩ := hrel
      by_cases hi6 : i < 6
      · have hd : decide ((i : Int) < 6) = true := decide_eq_true (by omega)
        have hdn : decide (i < 6) = true := decide_eq_true hi6
        have k0 : 2 * i < (wB gm).length := by rw [HLL.out]; omega
        have k1 : 2 * i + 1 < (wB gm).length := by rw [HLL.out]; omega
        have kw : i < (wants gm).length := by rw [HWS.out]; exact hi6
        have hs := HHW.out i hi6 k0 k1
        have hle : (wants gm)[i] ≤ 65535 := HWT.out _ (List.getElem_mem kw)
        have d0 := (HR.out.drew.cell (p := ⟨g, 2 * i, none⟩) HGL.out.1).trans (HCE6.out _ k0)
        have d1 := (HR.out.drew.cell (p := ⟨g, 2 * i + 1, none⟩) HGL.out.1).trans (HCE6.out _ k1)
        have d2 := (HR.out.drew.cell (p := ⟨Gw, i, none⟩) HGL.out.2).trans (HWC.out _ kw)
        have hu0 := (wB gm)[2 * i].toNat_lt
        have hu1 := (wB gm)[2 * i + 1].toNat_lt
        generalize (wB gm)[2 * i].toNat = y0 at *
        generalize (wB gm)[2 * i + 1].toNat = y1 at *
        generalize (wants gm)[i] = wi at *
        obtain ⟨j0, hj0⟩ : ∃ j, 2 * i = j := ⟨_, rfl⟩
        rw [hj0] at d0 d1
        obtain ⟨j1, hj1⟩ : ∃ j, j0 + 1 = j := ⟨_, rfl⟩
        rw [hj1] at d1
        have hw0 : IntKind.i64.wrap (2 * (i : Int)) = (j0 : Int) := by rw [IntKind.wrap_i64]; omega
        have hw1 : IntKind.i64.wrap ((j0 : Int) + 1) = (j1 : Int) := by rw [IntKind.wrap_i64]; omega
        obtain ⟨m0, hm0⟩ : ∃ m, y0 * 256 = m := ⟨_, rfl⟩
        have hw2 : IntKind.i64.wrap ((y0 : Int) * 256) = (m0 : Int) := by rw [IntKind.wrap_i64]; omega
        have hw3 : IntKind.i64.wrap ((m0 : Int) + (y1 : Int)) = (wi : Int) := by rw [IntKind.wrap_i64]; omega
        have hb0 : (0 : Int) ≤ (j0 : Int) := by omega
        have hb1 : (j0 : Int) < (L : Int) := by omega
        have hb2 : (0 : Int) ≤ (j1 : Int) := by omega
        have hb3 : (j1 : Int) < (L : Int) := by omega
        have hb4 : (0 : Int) ≤ (i : Int) := by omega
        have hb5 : (i : Int) < 6 := by omega
        have hwu0 : IntKind.i64.wrap (y0 : Int) = (y0 : Int) := by rw [IntKind.wrap_i64]; omega
        have hwu1 : IntKind.i64.wrap (y1 : Int) = (y1 : Int) := by rw [IntKind.wrap_i64]; omega
        have hne : ((wi : Int) != (wi : Int)) = false := by simp
        obtain ⟨S, hS⟩ : ∃ S : World → Prop, (fun V : World => V.cell? ⟨g, j0, none⟩ = some (.int .u8 (y0 : Int)) ∧ V.cell? ⟨g, j1, none⟩ = some (.int .u8 (y1 : Int)) ∧ V.cell? ⟨Gw, i, none⟩ = some (.int .i64 (wi : Int))) = S := ⟨_, rfl⟩
        have E0 : Hid (∀ V, S V → V.cell? ⟨g, j0, none⟩ = some (.int .u8 (y0 : Int))) := Lib.hid (fun V h => by rw [← hS] at h; exact h.1)
        have E1 : Hid (∀ V, S V → V.cell? ⟨g, j1, none⟩ = some (.int .u8 (y1 : Int))) := Lib.hid (fun V h => by rw [← hS] at h; exact h.2.1)
        have E2 : Hid (∀ V, S V → V.cell? ⟨Gw, i, none⟩ = some (.int .i64 (wi : Int))) := Lib.hid (fun V h => by rw [← hS] at h; exact h.2.2)
        have hSd : S wr.drew := by rw [← hS]; exact ⟨d0, d1, d2⟩
        have HRD := Lib.hid HR.out.drew
        clear hS d0 d1 d2 hs hle hu0 hu1 hj0 hj1 hm0 k0 k1 kw HR
        go_upto_region 11 with fail
        refine wp_region_noPanic ?_
        refine wp_region_held_drew (S := S) (by kernel_rfl) hSd (fun hHeld => ?_)
        refine wpAnyH_take (i := 0) (v := ?_) rfl (by kernel_rfl) (by kernel_rfl) (by kernel_rfl) (fun _ _ _ h => h) (Or.inl ⟨by rfl, ?_⟩) (by assumption) ?_
        rotate_left
        · (intro w hSw; go_simp; try (with_reducible rfl))
        try simp only [Act.put, List.getElem_toArray, List.getElem_cons_zero, List.setIfInBounds_toArray, List.set_cons_zero, List.set_cons_succ]
        refine wpAnyH_take (i := 1) (v := ?_) rfl (by kernel_rfl) (by kernel_rfl) (by kernel_rfl) (fun _ _ _ h => h) (Or.inl ⟨by rfl, ?_⟩) (by assumption) ?_
        rotate_left
        · (intro w hSw; go_simp; try (with_reducible rfl))
        try simp only [Act.put, List.getElem_toArray, List.getElem_cons_zero, List.getElem_cons_succ, List.setIfInBounds_toArray, List.set_cons_zero, List.set_cons_succ]
        refine wpAnyH_take (i := 2) (v := ?_) rfl (by kernel_rfl) (by kernel_rfl) (by kernel_rfl) (fun _ _ _ h => h) (Or.inl ⟨by rfl, ?_⟩) (by assumption) ?_
        rotate_left
        · (intro w hSw; go_simp; try (with_reducible rfl))
        try simp only [Act.put, List.getElem_toArray, List.getElem_cons_zero, List.getElem_cons_succ, List.setIfInBounds_toArray, List.set_cons_zero, List.set_cons_succ]
        refine wpAnyH_take (i := 3) (v := ?_) rfl (by kernel_rfl) (by kernel_rfl) (by kernel_rfl) (fun _ _ _ h => h) (Or.inl ⟨by rfl, ?_⟩) (by assumption) ?_
        rotate_left
        · (intro w hSw; go_simp; try (with_reducible rfl))
        try simp only [Act.put, List.getElem_toArray, List.getElem_cons_zero, List.getElem_cons_succ, List.setIfInBounds_toArray, List.set_cons_zero, List.set_cons_succ]
        refine wpAnyH_take (i := 4) (v := ?_) rfl (by kernel_rfl) (by kernel_rfl) (by kernel_rfl) (fun _ _ _ h => h) (Or.inl ⟨by rfl, ?_⟩) (by assumption) ?_
        rotate_left
        · (intro w hSw; have hc0 := E0.out w hSw; go_simp; try (with_reducible rfl))
        try simp only [Act.put, List.getElem_toArray, List.getElem_cons_zero, List.getElem_cons_succ, List.setIfInBounds_toArray, List.set_cons_zero, List.set_cons_succ]
        refine wpAnyH_take (i := 5) (v := ?_) rfl (by kernel_rfl) (by kernel_rfl) (by kernel_rfl) (fun _ _ _ h => h) (Or.inl ⟨by rfl, ?_⟩) (by assumption) ?_
        rotate_left
        · (intro w hSw; go_simp; try (with_reducible rfl))
        try simp only [Act.put, List.getElem_toArray, List.getElem_cons_zero, List.getElem_cons_succ, List.setIfInBounds_toArray, List.set_cons_zero, List.set_cons_succ]
        refine wpAnyH_take (i := 6) (v := ?_) rfl (by kernel_rfl) (by kernel_rfl) (by kernel_rfl) (fun _ _ _ h => h) (Or.inl ⟨by rfl, ?_⟩) (by assumption) ?_
        rotate_left
        · (intro w hSw; go_simp; try (with_reducible rfl))
        try simp only [Act.put, List.getElem_toArray, List.getElem_cons_zero, List.getElem_cons_succ, List.setIfInBounds_toArray, List.set_cons_zero, List.set_cons_succ]
        refine wpAnyH_take (i := 7) (v := ?_) rfl (by kernel_rfl) (by kernel_rfl) (by kernel_rfl) (fun _ _ _ h => h) (Or.inl ⟨by rfl, ?_⟩) (by assumption) ?_
        rotate_left
        · (intro w hSw; go_simp; try (with_reducible rfl))
        try simp only [Act.put, List.getElem_toArray, List.getElem_cons_zero, List.getElem_cons_succ, List.setIfInBounds_toArray, List.set_cons_zero, List.set_cons_succ]
        refine wpAnyH_take (i := 8) (v := ?_) rfl (by kernel_rfl) (by kernel_rfl) (by kernel_rfl) (fun _ _ _ h => h) (Or.inl ⟨by rfl, ?_⟩) (by assumption) ?_
        rotate_left
        · (intro w hSw; go_simp; try (with_reducible rfl))
        try simp only [Act.put, List.getElem_toArray, List.getElem_cons_zero, List.getElem_cons_succ, List.setIfInBounds_toArray, List.set_cons_zero, List.set_cons_succ]
        refine wpAnyH_take (i := 9) (v := ?_) rfl (by kernel_rfl) (by kernel_rfl) (by kernel_rfl) (fun _ _ _ h => h) (Or.inl ⟨by rfl, ?_⟩) (by assumption) ?_
        rotate_left
        · (intro w hSw; go_simp; try (with_reducible rfl))
        try simp only [Act.put, List.getElem_toArray, List.getElem_cons_zero, List.getElem_cons_succ, List.setIfInBounds_toArray, List.set_cons_zero, List.set_cons_succ]
        refine wpAnyH_take (i := 10) (v := ?_) rfl (by kernel_rfl) (by kernel_rfl) (by kernel_rfl) (fun _ _ _ h => h) (Or.inl ⟨by rfl, ?_⟩) (by assumption) ?_
        rotate_left
        · (intro w hSw; go_simp; try (with_reducible rfl))
        try simp only [Act.put, List.getElem_toArray, List.getElem_cons_zero, List.getElem_cons_succ, List.setIfInBounds_toArray, List.set_cons_zero, List.set_cons_succ]
        refine wpAnyH_take (i := 11) (v := ?_) rfl (by kernel_rfl) (by kernel_rfl) (by kernel_rfl) (fun _ _ _ h => h) (Or.inl ⟨by rfl, ?_⟩) (by assumption) ?_
        rotate_left
        · (intro w hSw; go_simp; try (with_reducible rfl))
        try simp only [Act.put, List.getElem_toArray, List.getElem_cons_zero, List.getElem_cons_succ, List.setIfInBounds_toArray, List.set_cons_zero, List.set_cons_succ]
        refine wpAnyH_take (i := 12) (v := ?_) rfl (by kernel_rfl) (by kernel_rfl) (by kernel_rfl) (fun _ _ _ h => h) (Or.inl ⟨by rfl, ?_⟩) (by assumption) ?_
        rotate_left
        · (intro w hSw; have hc0 := E1.out w hSw; go_simp; try (with_reducible rfl))
        try simp only [Act.put, List.getElem_toArray, List.getElem_cons_zero, List.getElem_cons_succ, List.setIfInBounds_toArray, List.set_cons_zero, List.set_cons_succ]
        refine wpAnyH_take (i := 13) (v := ?_) rfl (by kernel_rfl) (by kernel_rfl) (by kernel_rfl) (fun _ _ _ h => h) (Or.inl ⟨by rfl, ?_⟩) (by assumption) ?_
        rotate_left
        · (intro w hSw; go_simp; try (with_reducible rfl))
        try simp only [Act.put, List.getElem_toArray, List.getElem_cons_zero, List.getElem_cons_succ, List.setIfInBounds_toArray, List.set_cons_zero, List.set_cons_succ]
        refine wpAnyH_take (i := 14) (v := ?_) rfl (by kernel_rfl) (by kernel_rfl) (by kernel_rfl) (fun _ _ _ h => h) (Or.inl ⟨by rfl, ?_⟩) (by assumption) ?_
        rotate_left
        · (intro w hSw; go_simp; try (with_reducible rfl))
        try simp only [Act.put, List.getElem_toArray, List.getElem_cons_zero, List.getElem_cons_succ, List.setIfInBounds_toArray, List.set_cons_zero, List.set_cons_succ]
        refine wpAnyH_take (i := 15) (v := ?_) rfl (by kernel_rfl) (by kernel_rfl) (by kernel_rfl) (fun _ _ _ h => h) (Or.inl ⟨by rfl, ?_⟩) (by assumption) ?_
        rotate_left
        · (intro w hSw; go_simp; try (with_reducible rfl))
        try simp only [Act.put, List.getElem_toArray, List.getElem_cons_zero, List.getElem_cons_succ, List.setIfInBounds_toArray, List.set_cons_zero, List.set_cons_succ]
        refine wpAnyH_take (i := 16) (v := ?_) rfl (by kernel_rfl) (by kernel_rfl) (by kernel_rfl) (fun _ _ _ h => h) (Or.inl ⟨by rfl, ?_⟩) (by assumption) ?_
        rotate_left
        · (intro w hSw; go_simp; try (with_reducible rfl))
        try simp only [Act.put, List.getElem_toArray, List.getElem_cons_zero, List.getElem_cons_succ, List.setIfInBounds_toArray, List.set_cons_zero, List.set_cons_succ]
        refine wpAnyH_take (i := 17) (v := ?_) rfl (by kernel_rfl) (by kernel_rfl) (by kernel_rfl) (fun _ _ _ h => h) (Or.inl ⟨by rfl, ?_⟩) (by assumption) ?_
        rotate_left
        · (intro w hSw; go_simp; try (with_reducible rfl))
        try simp only [Act.put, List.getElem_toArray, List.getElem_cons_zero, List.getElem_cons_succ, List.setIfInBounds_toArray, List.set_cons_zero, List.set_cons_succ]
        refine wpAnyH_take (i := 18) (v := ?_) rfl (by kernel_rfl) (by kernel_rfl) (by kernel_rfl) (fun _ _ _ h => h) (Or.inl ⟨by rfl, ?_⟩) (by assumption) ?_
        rotate_left
        · (intro w hSw; have hc0 := E2.out w hSw; go_simp; try (with_reducible rfl))
        try simp only [Act.put, List.getElem_toArray, List.getElem_cons_zero, List.getElem_cons_succ, List.setIfInBounds_toArray, List.set_cons_zero, List.set_cons_succ]
        refine wpAnyH_take (i := 19) (v := ?_) rfl (by kernel_rfl) (by kernel_rfl) (by kernel_rfl) (fun _ _ _ h => h) (Or.inl ⟨by rfl, ?_⟩) (by assumption) ?_
        rotate_left
        · (intro w hSw; go_simp; try (with_reducible rfl))
        try simp only [Act.put, List.getElem_toArray, List.getElem_cons_zero, List.getElem_cons_succ, List.setIfInBounds_toArray, List.set_cons_zero, List.set_cons_succ]
        refine wpAnyH_done (by kernel_rfl) ?_ _
        refine NoPanic.normal ?_
        clear E0 E1 E2 hHeld hSd
        go_wp2_with fail
        go_roundw
        case rel => exact ⟨i + 1, by omega, by go_num, HRD⟩
        case measure => simp [intOf]; omega
      · obtain rfl : i = 6 := by omega
        have hd : decide (((6 : Nat) : Int) < 6) = false := by simp
        go_wp2_with fail
        refine (HLV _).out.mono ?_
        rintro e w4 ⟨rfl, hb4⟩
        have HB4 := Lib.hid (chain (chain HBB.out HR.out) hb4)
        clear hb4 HLV
        go_wp2_with fail
        go_ret
        exact ⟨rfl, HB4.out⟩

theorem contract (H : Type) (enc : TypeId × Value → H) (W : World) (base : Nat) (args : Array Value) (ds gs : List (DataW H)) (before : List MemPlace)
    (hval0 : ∀ (j : Nat) t v, Try.f9.params[j]? = some t → args[j]? = some v → Value.okWide Try.prog W .any base t v)
    (hW : DataW.Whole enc Try.prog Try.f9.params.toList Rows.wireHeadSpec.vars false W args.toList ds gs before) (hk : Rows.uptoSmall H (ds ++ gs) = true) :
    Calls Try.prog 9 args W fun e W' => ∃ v, e = .returned v ∧ Rows.wireHeadSpec.post enc Try.prog Try.f9 false true false false W args v W' := by
  have hkb : ∀ d ∈ ds, Rows.uptoBulk d ≤ 1048576 := fun d hd => Nat.le_trans (bulk_mem (List.mem_append_left _ hd)) (of_decide_eq_true hk)
  clear hk
  have hval : ∀ (j : Nat) t v, Try.f9.params[j]? = some t → args[j]? = some v → Value.okWide Try.prog W .any base t v := hval0
  have hW' := hW
  obtain ⟨p, q, hA0, hV, rfl, hfz, hnd⟩ := hW
  have hA : DataW.TrodAll enc Try.prog W 0 (fun _ => true) true Try.f9.params.toList args.toList ds p := hA0
  rw [Try.params9] at hA hval
  obtain ⟨v0, vs0, d0, ds0, p0, q0, hargs, rfl, rfl, h0, r0⟩ := trodAll_cons hA
  obtain ⟨rfl, rfl, rfl⟩ := trodAll_nil r0
  obtain rfl : args = #[v0] := by cases args; simp_all
  obtain ⟨rfl, rfl⟩ := trodVars_none hV
  have k0 := h0
  have lt0 : ∀ x ∈ p0, x.block < W.heap.size := by obtain ⟨m, hm⟩ := k0; exact DataW.trod_lt m _ _ _ hm
  obtain ⟨m0, xq0, xa0, xb0, xc0, yq0, ya0, yb0, yc0, rfl, w0⟩ := open_msg (hval 0 25 v0 rfl rfl) h0
  replace w0 := w0.wider (hkb d0 (by simp))
  clear hA0 hval0
  refine (walk m0 xq0 xa0 xb0 xc0 yq0 ya0 yb0 yc0 W w0).mono fun e W' ⟨he, bel⟩ => ?_
  subst he
  exact ⟨_, rfl, _, _, _, [], _, [], hW', trodAll_mk1 (shut_bool Try.underlying4 _), (trodAll_cons_mk (Below.trod laidOut (by kernel_rfl) (of_decide_eq_true (by kernel_rfl)) k0 bel lt0) trodAll_mk0), rfl, bel.frame _, fun h => by cases h⟩

set_option maxRecDepth 100000 in
theorem lifted (os : Os) (started : os.Started) (H : Type) (enc : TypeId × Value → H) (F : Stop.Interp) :
    ReturnsInHanded {} Try.checked os 9 .any ((Rows.OpenSpec.upto Rows.wireHeadSpec).pre6 enc Try.prog Try.f9 Rows.wireHeadUptoRow.domain false) (((Rows.OpenSpec.upto Rows.wireHeadSpec).at F).post enc Try.prog Try.f9 false true false false) := by
  refine returnsInHanded_of_cond (C := Try.checked) (s := Rows.OpenSpec.upto Rows.wireHeadSpec) (k := Rows.uptoSmall) rfl own started (by kernel_rfl) Try.func9
    (OpenSpec.witness (enc := enc) (C := Try.checked) (s := Rows.OpenSpec.upto Rows.wireHeadSpec) (k := Rows.uptoSmall) rfl false ⟨#[], #[.agg #[.int .i64 0, .int .i64 0, .slice none 0 0, .slice none 0 0, .slice none 0 0, .slice none 0 0]], []⟩ 8 (by kernel_rfl) (by kernel_rfl) (by kernel_rfl)
      (x := ([.agg [.lit (.int .i64 0), .lit (.int .i64 0), .nil, .nil, .nil, .nil]], [], [])) (by kernel_rfl) rfl (by kernel_rfl)) ?_
  intro W base args ds gs before hval hW _ hk _
  exact contract H enc W base args ds gs before hval hW hk

theorem proved : Rows.WireHeadUptoSaid :=
  OpenClaim.holds_of_cond 9 Try.f9 rfl rfl rfl rfl rfl rfl rfl ⟨rfl, rfl, rfl, rfl, rfl⟩ rfl rfl rfl rfl rfl (by kernel_rfl) Try.func9 (by kernel_rfl)
    (of_decide_eq_true (by kernel_rfl)) (by unfold Func.isWrapper; first | (rw [if_pos (by decide +kernel)]; kernel_rfl) | (rw [if_neg (by decide +kernel)]; exact ⟨rfl, rfl⟩))
    (fun os started H enc _ F => lifted os started H enc F)
#print axioms proved
end Go.Proofs.Yticdpidngmeebaa.wireHead
