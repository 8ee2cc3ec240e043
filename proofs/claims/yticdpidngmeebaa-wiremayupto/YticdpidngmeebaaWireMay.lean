/- Which messages may be is told as the document says, others are not written (ErrArg), and those that may be are written just if their bytes are no more than 1232. For every message of bulk at most 1048576: its first three of each list, and a message made such as may be with one record of it. -/
import Derived.Test.YticdpidngmeebaaD11
import Derived.Test.YticdpidngmeebaaRows
import Derived.ProofKit
import Derived.OpenShut
import Derived.ShutString
import Derived.ChangeOld
import Derived.Below
import Derived.JoinedCond
namespace Go.Proofs.Yticdpidngmeebaa.wireMay
open Go.ChangeShapes Go.WideShapes Go.ChangeAt Go.RowKit
open Go.ChangeMaps (open_string shut_string)
set_option linter.unusedVariables false
set_option maxRecDepth 20000

theorem own : ownKnob Try.prog.godebug = none := by kernel_rfl

set_option maxRecDepth 100000 in
set_option maxHeartbeats 8000000 in
theorem walk (m : Msg) (aq a1 a2 a3 : Option Addr) (cq c1 c2 c3 : Nat) (w : World) (hG : MsgGot w m aq a1 a2 a3 cq c1 c2 c3 1048576) :
    Calls Try.prog 4 #[msgV m aq a1 a2 a3 cq c1 c2 c3] w fun e w' => e = .returned (.bool true) ∧ Below w.heap.size w w' := by
  have hfan := hG.an.at0.2.2.1
  have hfau := hG.au.at0.2.2.1
  have hfmo := hG.mo.at0.2.2.1
  have HGD := fun V (h : Below w.heap.size w V) => Lib.hid (goodMsg9R_any m aq a1 a2 a3 cq c1 c2 c3 V (hG.ins.below h) ⟨fun q hq => by have := hG.qs.room q hq; omega, fun r hr => by have := hG.an.room r hr; exact ⟨by have := this.1; omega, by have := this.2.1; omega⟩, fun r hr => by have := hG.au.room r hr; exact ⟨by have := this.1; omega, by have := this.2.1; omega⟩, fun r hr => by have := hG.mo.room r hr; exact ⟨by have := this.1; omega, by have := this.2.1; omega⟩⟩)
  have HFW := fun V (h : Below w.heap.size w V) => Lib.hid (few9M_any m aq a1 a2 a3 cq c1 c2 c3 V (hG.ins.below h))
  have HRW := fun V (h : Below w.heap.size w V) => Lib.hid (fewM_in (hG.ins.below h))
  have HMY := Lib.hid (goodM_may (m := m) hfan hfau hfmo)
  have HRM := Lib.hid (goodM_room m)
  have HGL := Lib.hid (goodM_lens m)
  have HRR : Hid (RoomM (fewM m) ∧ Len4 (fewM m) ∧ Few3s (fewM m)) := Lib.hid (fewM_room (fun q hq => by have := hG.qs.room q hq; omega) (fun r hr => by have := hG.an.room r hr; exact ⟨by have := this.1; omega, by have := this.2.1; omega⟩) (fun r hr => by have := hG.au.room r hr; exact ⟨by have := this.1; omega, by have := this.2.1; omega⟩) (fun r hr => by have := hG.mo.room r hr; exact ⟨by have := this.1; omega, by have := this.2.1; omega⟩))
  have HLV := fun V => Lib.hid (lives9_any V)
  generalize goodM m = gm at *
  generalize fewM m = rm at *
  obtain ⟨vm, hvm, lvm, ovm⟩ := msg_row m aq a1 a2 a3 cq c1 c2 c3
  obtain ⟨W, hW⟩ : ∃ W, w.alloc (.cells vm.toArray 25) = W := ⟨_, rfl⟩
  have HBX : Hid (CellsAt W w.heap.size vm) := Lib.hid (by rw [← hW]; exact CellsAt.new _ _ _)
  have HB0 : Hid (Below w.heap.size w W) := Lib.hid (by rw [← hW]; exact (Below.refl _ _).alloc (Nat.le_refl _) _)
  rw [hvm] at HFW HGD ⊢
  clear hG hfan hfau hfmo hvm ovm
  go_enter Try.func4, Try.ntmps4
  go_upto_region 1 with fail
  try rw [hW]
  clear hW
  go_wp2_with fail
  refine (HLV _).out.mono ?_
  rintro e w1 ⟨rfl, hb1⟩
  replace HBX := Lib.hid (HBX.out.below hb1)
  replace HB0 := Lib.hid (chain HB0.out hb1)
  clear hb1
  have HFX := HFW w1 HB0.out
  go_wp2_with (refine load_msg HBX lvm _ rfl rfl rfl ?_)
  refine HFX.out.mono ?_
  rintro e w2 ⟨rfl, hb2⟩
  replace HBX := Lib.hid (HBX.out.below hb2)
  replace HB0 := Lib.hid (chain HB0.out hb2)
  clear hb2 HFX HFW
  have HZ1 : Hid (CellsAt (w2.alloc (.cells zM.toArray 25)) w2.heap.size zM) := Lib.hid (CellsAt.new w2 _ zM)
  unfold msgV
  go_upto_region 4 with (have HZ := HZ1; refine store_msg HZ rfl _ _ rfl rfl (vs := [.int .i64 rm.id, .int .i64 rm.fl, .slice aq rm.qs.length cq, .slice a1 rm.an.length c1, .slice a2 rm.au.length c2, .slice a3 rm.mo.length c3]) rfl rfl rfl rfl (fun W3 HW3 HX3 => ?_); clear HZ1)
  have HB3 : Hid (Below w2.heap.size w2 W3) := Lib.hid (by rw [HW3.out]; exact below_cells (Nat.le_refl _) _ _ _ ((Below.refl _ _).alloc (Nat.le_refl _) _))
  replace HBX := Lib.hid (HBX.out.below HB3.out)
  replace HB0 := Lib.hid (chain HB0.out HB3.out)
  have HRL : Hid (w2.heap.size < W3.heap.size) := Lib.hid HX3.out.lt
  clear HB3 HW3 HZ
  obtain ⟨Gr, hGr⟩ : ∃ Gr, w2.heap.size = Gr := ⟨_, rfl⟩
  rw [hGr] at HX3 HRL ⊢
  clear hGr
  have HGX := HGD W3 HB0.out
  have HSZ3 : Hid (w.heap.size ≤ W3.heap.size) := Lib.hid HB0.out.size
  go_wp2_with (refine load_msg HBX lvm _ rfl rfl rfl ?_)
  refine HGX.out.mono ?_
  rintro e w4 ⟨bq, b1, b2, b3, dq, d1, d2, d3, rfl, hm4, hb4, hr4, hd4⟩
  have HM4 := Lib.hid hm4
  have HR4 := Lib.hid hr4
  have HD4 := Lib.hid hd4
  have H34 : Hid (W3.heap.size ≤ w4.heap.size) := Lib.hid hb4.size
  replace HX3 := Lib.hid (HX3.out.below hb4)
  replace HB0 := Lib.hid (chain HB0.out hb4)
  clear hm4 hb4 hr4 hd4 HGX HGD HBX
  have HZ1 : Hid (CellsAt (w4.alloc (.cells zM.toArray 25)) w4.heap.size zM) := Lib.hid (CellsAt.new w4 _ zM)
  unfold msgV
  go_upto_region 5 with (have HZ := HZ1; refine store_msg HZ rfl _ _ rfl rfl (vs := [.int .i64 gm.id, .int .i64 gm.fl, .slice bq gm.qs.length dq, .slice b1 gm.an.length d1, .slice b2 gm.au.length d2, .slice b3 gm.mo.length d3]) rfl rfl rfl rfl (fun W5 HW5 HX5 => ?_); clear HZ1)
  have HRL0 : Hid (w.heap.size ≤ W3.heap.size) := HSZ3
  have HB5 : Hid (Below w4.heap.size w4 W5) := Lib.hid (by rw [HW5.out]; exact below_cells (Nat.le_refl _) _ _ _ ((Below.refl _ _).alloc (Nat.le_refl _) _))
  replace HX3 := Lib.hid (HX3.out.below HB5.out)
  replace HB0 := Lib.hid (chain HB0.out HB5.out)
  have HM5 := Lib.hid (HM4.out.below HB5.out)
  have HR5 : Hid (RowR W5 W3.heap.size (.slice b1 gm.an.length d1) gm.an) := Lib.hid (HR4.out.below HB5.out)
  have HGL4 : Hid (∀ g, (Value.slice b1 gm.an.length d1).ownBlock = some g → g < w4.heap.size) := Lib.hid (fun g hg => (HR4.out.1.lt g hg).2)
  have HKX0 : Hid (∀ k, k < w4.heap.size → W5.heap[k]? = w4.heap[k]?) := Lib.hid (fun k hk => HB5.out.block k hk)
  clear HB5 HW5 HZ HR4
  obtain ⟨Gg, hGg⟩ : ∃ Gg, w4.heap.size = Gg := ⟨_, rfl⟩
  rw [hGg] at HX5 HGL4 ⊢
  have HGE : Hid (w4.heap.size = Gg ∧ W3.heap.size ≤ Gg) := Lib.hid ⟨hGg, by rw [← hGg]; exact H34.out⟩
  have HGG : Hid (Gr < Gg) := Lib.hid (by have h1 := HRL.out; have h2 := HGE.out.2; omega)
  clear hGg
  have HRI := HRW _ HB0.out
  have x3 := HX3.out.cell 3 _ rfl
  obtain ⟨n1, hn1⟩ : ∃ n1, rm.an.length = n1 := ⟨_, rfl⟩
  have HN1 := Lib.hid hn1
  have HN3 : Hid (n1 ≤ 3) := Lib.hid (by rw [← hn1]; exact HRR.out.2.2.2.1)
  rw [hn1] at HX3 x3
  clear hn1
  go_upto_if 19 with fail
  go_cut [] from 10 (fun wx => ∃ (gx : Msg) (e0 e1 e2 e3 : Option Addr) (f0 f1 f2 f3 : Nat), Hid (CellsAt wx Gr [.int .i64 rm.id, .int .i64 rm.fl, .slice aq rm.qs.length cq, .slice a1 n1 c1, .slice a2 rm.au.length c2, .slice a3 rm.mo.length c3]) ∧ Hid (CellsAt wx Gg [.int .i64 gx.id, .int .i64 gx.fl, .slice e0 gx.qs.length f0, .slice e1 gx.an.length f1, .slice e2 gx.au.length f2, .slice e3 gx.mo.length f3]) ∧ Hid (MsgIn wx gx e0 e1 e2 e3 f0 f1 f2 f3) ∧ Hid (Below w.heap.size w wx) ∧ Hid (RoomM gx ∧ Len4 gx ∧ Few3 gx))
  case first =>
    by_cases h0 : 0 < n1
    · have hd : decide ((0 : Int) < (n1 : Int)) = true := decide_eq_true (by omega)
      have hdn : decide (0 < n1) = true := decide_eq_true h0
      go_upto_region 6 with fail
      obtain ⟨g, o, ha, hg, hrg⟩ := (HRW w (Below.refl _ _)).out.an.at 0 (by rw [HN1.out]; exact h0)
      subst ha
      have HFR : Hid (Fit (rm.an[0]'(by rw [HN1.out]; exact h0))) := Lib.hid (HRI.out.an.2.2.1 _ (List.getElem_mem _))
      have HMR : Hid (Room (rm.an[0]'(by rw [HN1.out]; exact h0))) := Lib.hid (HRR.out.1.2.1 _ (List.getElem_mem _))
      obtain ⟨r, hr⟩ : ∃ r, rm.an[0]'(by rw [HN1.out]; exact h0) = r := ⟨_, rfl⟩
      rw [hr] at hrg HFR HMR
      clear hr
      have H16 : Hid (r.b.length = 16) := Lib.hid HFR.out.1
      have HRG : Hid (g < w.heap.size ∧ w.rangeAt g (o + 0 * 23) (recL r)) := Lib.hid ⟨hg, hrg⟩
      have HKX : Hid (∀ k, k < w4.heap.size → W5.heap[k]? = w4.heap[k]?) := HKX0
      have hb1 : (0 : Int) < (n1 : Int) := by omega
      clear hg hrg
      obtain ⟨S, hS⟩ : ∃ S : World → Prop, (fun V : World => V.cell? ⟨Gr, 3, none⟩ = some (.slice (some ⟨g, o, none⟩) n1 c1) ∧ V.rangeAt g o (recL r)) = S := ⟨_, rfl⟩
      have HC3 : Hid (∀ V, S V → V.cell? ⟨Gr, 3, none⟩ = some (.slice (some ⟨g, o, none⟩) n1 c1)) := Lib.hid (fun V h => by rw [← hS] at h; exact h.1)
      have HCR : Hid (∀ V, S V → V.rangeAt g o (recL r)) := Lib.hid (fun V h => by rw [← hS] at h; exact h.2)
      have HSX : Hid (∀ V, CellsAt V Gr [.int .i64 rm.id, .int .i64 rm.fl, .slice aq rm.qs.length cq, .slice (some ⟨g, o, none⟩) n1 c1, .slice a2 rm.au.length c2, .slice a3 rm.mo.length c3] → Below w.heap.size w V → S V) := Lib.hid (fun V h1 h2 => by
        rw [← hS]
        refine ⟨h1.cell 3 _ rfl, ?_⟩
        have := range_later HRG.out.2 h2 HRG.out.1
        simpa using this)
      clear hS x3
      refine wp_region_noPanic ?_
      replace HX3 := Lib.hid (HX3.out.below (Below.refl _ _).drew)
      replace HX5 := Lib.hid (HX5.out.below (Below.refl _ _).drew)
      replace HR5 : Hid (RowR W5.drew W3.heap.size (.slice b1 gm.an.length d1) gm.an) := Lib.hid (HR5.out.below (Below.refl _ _).drew)
      replace HB0 := Lib.hid HB0.out.drew
      replace HKX : Hid (∀ k, k < w4.heap.size → W5.drew.heap[k]? = w4.heap[k]?) := Lib.hid HKX.out
      refine wp_region_held_drew (S := S) (by kernel_rfl) (HSX.out _ HX3.out HB0.out) (fun hHeld => ?_)
      obtain ⟨U, hU⟩ : ∃ U, W5.drew = U := ⟨_, rfl⟩
      rw [hU] at HX3 HX5 HR5 HB0 HKX hHeld ⊢
      clear hU
      refine wpAnyH_take (i := 0) (v := ?_) rfl (by kernel_rfl) (by kernel_rfl) (by kernel_rfl) (fun _ _ _ h => h) (Or.inl ⟨by rfl, ?_⟩) (by assumption) ?_
      rotate_left
      · (intro w hSw; go_simp; try (with_reducible rfl))
      try simp only [Act.put, List.getElem_toArray, List.getElem_cons_zero, List.setIfInBounds_toArray, List.set_cons_zero, List.set_cons_succ]
      refine wpAnyH_take (i := 2) (v := ?_) rfl (by kernel_rfl) (by kernel_rfl) (by kernel_rfl) (fun _ _ _ h => h) (Or.inl ⟨by rfl, ?_⟩) (by assumption) ?_
      rotate_left
      · (intro w hSw; go_simp; try (with_reducible rfl))
      try simp only [Act.put, List.getElem_toArray, List.getElem_cons_zero, List.getElem_cons_succ, List.setIfInBounds_toArray, List.set_cons_zero, List.set_cons_succ]
      refine wpAnyH_take (i := 3) (v := ?_) rfl (by kernel_rfl) (by kernel_rfl) (by kernel_rfl) (fun _ _ _ h => h) (Or.inl ⟨by rfl, ?_⟩) (by assumption) ?_
      rotate_left
      · (intro w hSw; have hc0 := HC3.out w hSw; go_simp; try (with_reducible rfl))
      try simp only [Act.put, List.getElem_toArray, List.getElem_cons_zero, List.getElem_cons_succ, List.setIfInBounds_toArray, List.set_cons_zero, List.set_cons_succ]
      refine wpAnyH_take (i := 4) (v := ?_) rfl (by kernel_rfl) (by kernel_rfl) (by kernel_rfl) (fun _ _ _ h => h) (Or.inl ⟨by rfl, ?_⟩) (by assumption) ?_
      rotate_left
      · (intro w hSw; go_simp; try (with_reducible rfl))
      try simp only [Act.put, List.getElem_toArray, List.getElem_cons_zero, List.getElem_cons_succ, List.setIfInBounds_toArray, List.set_cons_zero, List.set_cons_succ]
      refine wpAnyH_take (i := 5) rfl (by kernel_rfl) (by kernel_rfl) (by kernel_rfl) (fun _ _ _ h => h) (yields_rec H16 HCR (by rfl) _ rfl rfl) (by assumption) ?_
      try simp only [Act.put, List.getElem_toArray, List.getElem_cons_zero, List.getElem_cons_succ, List.setIfInBounds_toArray, List.set_cons_zero, List.set_cons_succ]
      refine wpAnyH_ready (rs := [1, 6]) (by kernel_rfl) (by simp) ?_
      refine ready_one_two rfl rfl (fun K hK => ?_) (ready_one rfl rfl (fun K hK => ?_))
      · have xg := HX5.out.cell 3 _ rfl
        go_wp2_with fail
        refine hK.out _ _ (HSX.out _ HX3.out HB0.out) (fun hHeldl => ?_)
        clear hK K xg
        try simp only [Act.put, List.getElem_toArray, List.getElem_cons_zero, List.getElem_cons_succ, List.setIfInBounds_toArray, List.set_cons_zero, List.set_cons_succ]
        refine wpAnyH_ready (rs := [6]) (by kernel_rfl) (by simp) ?_
        refine ready_one rfl rfl (fun K hK => ?_)
        refine wp_build_recS H16 _ rfl rfl ?_
        have hbl : Below U.heap.size U (U.alloc (.cells (recL r).toArray 42)) := (Below.refl _ _).alloc (Nat.le_refl _) _
        have HRN : Hid ((U.alloc (.cells (recL r).toArray 42)).rangeAt U.heap.size 0 (flatR [r])) := Lib.hid (by have := built_new (w := U) (cs := recL r) 42; simpa [flatR] using this)
        replace HX3 := Lib.hid (HX3.out.below hbl)
        have HGU : Hid (Gg < U.heap.size) := Lib.hid HX5.out.lt
        replace HX5 := Lib.hid (HX5.out.below hbl)
        replace HR5 := Lib.hid (HR5.out.below hbl)
        replace HB0 := Lib.hid (chain HB0.out hbl)
        replace HKX : Hid (∀ k, k < w4.heap.size → (U.alloc (.cells (recL r).toArray 42)).heap[k]? = w4.heap[k]?) := Lib.hid (fun k hk => by have h1 := HKX.out k hk; have h2 := HGU.out; rw [← h1]; exact hbl.block k (by have := HGE.out; omega))
        have HSB : Hid (W3.heap.size ≤ (U.alloc (.cells (recL r).toArray 42)).heap.size) := Lib.hid (by have h1 := HGU.out; have h2 := hbl.size; have h3 := HGE.out; omega)
        obtain ⟨Wb, hWb⟩ : ∃ Wb, U.alloc (.cells (recL r).toArray 42) = Wb := ⟨_, rfl⟩
        obtain ⟨Gn, hGn⟩ : ∃ Gn, U.heap.size = Gn := ⟨_, rfl⟩
        rw [hWb] at HX3 HX5 HR5 HB0 HKX HRN HSB ⊢
        rw [hGn] at HRN HGU
        try rw [hGn]
        clear hWb hGn hbl
        refine hK.out _ _ (HSX.out _ HX3.out HB0.out) (fun hHeldb => ?_)
        clear hK K
        try simp only [Act.put, List.getElem_toArray, List.getElem_cons_zero, List.getElem_cons_succ, List.setIfInBounds_toArray, List.set_cons_zero, List.set_cons_succ]
        refine wpAnyH_ready (rs := [7]) (by kernel_rfl) (by simp) ?_
        refine ready_one rfl rfl (fun K hK => ?_)
        have HY1 : Hid (All16 [r]) := Lib.hid (fun x hx => by rw [List.mem_singleton.1 hx]; exact H16.out)
        have HLE : Hid (gm.an.length + [r].length ≤ 100000) := Lib.hid (by have := HGL.out.2.1; simp only [List.length_cons, List.length_nil]; omega)
        refine wp_append_recs HR5 _ _ rfl rfl [r] rfl (Lib.hid rfl) HRN HY1 HLE HSB (fun v6 w6 HO6 HG6 HF6 => ?_)
        have HX6 : Hid (CellsAt w6 Gr [.int .i64 rm.id, .int .i64 rm.fl, .slice aq rm.qs.length cq, .slice (some ⟨g, o, none⟩) n1 c1, .slice a2 rm.au.length c2, .slice a3 rm.mo.length c3]) := Lib.hid (CellsAt.keep HX3.out (HG6.out.block Gr HX3.out.lt (fun e => by have := (HR5.out.1.lt _ e.symm).1; have := HRL.out; omega)) HG6.out.size)
        have HY6 : Hid (CellsAt w6 Gg [.int .i64 gm.id, .int .i64 gm.fl, .slice bq gm.qs.length dq, .slice b1 gm.an.length d1, .slice b2 gm.au.length d2, .slice b3 gm.mo.length d3]) := Lib.hid (CellsAt.keep HX5.out (HG6.out.block Gg HX5.out.lt (fun e => by have := HGL4.out _ e.symm; omega)) HG6.out.size)
        have HB6 : Hid (Below w.heap.size w w6) := Lib.hid (HB0.out.grown HG6.out HB0.out.size (fun k hk => by have := (HR5.out.1.lt k hk).1; have := HSZ3.out; omega))
        have HK6 : Hid (∀ k, k < w4.heap.size → (Value.slice b1 gm.an.length d1).ownBlock ≠ some k → w6.heap[k]? = w4.heap[k]?) := Lib.hid (fun k hk hn => (HG6.out.block k (by have := HGE.out; have := HX5.out.lt; omega) (fun e => hn e.symm)).trans (HKX.out k hk))
        refine hK.out _ _ (HSX.out _ HX6.out HB6.out) (fun hHeld6 => ?_)
        clear hK K
        try simp only [Act.put, List.getElem_toArray, List.getElem_cons_zero, List.getElem_cons_succ, List.setIfInBounds_toArray, List.set_cons_zero, List.set_cons_succ]
        refine wpAnyH_take (i := 8) (v := ?_) rfl (by kernel_rfl) (by kernel_rfl) (by kernel_rfl) (fun _ _ _ h => h) (Or.inl ⟨by rfl, ?_⟩) (by assumption) ?_
        rotate_left
        · (intro w hSw; go_simp; try (with_reducible rfl))
        try simp only [Act.put, List.getElem_toArray, List.getElem_cons_zero, List.getElem_cons_succ, List.setIfInBounds_toArray, List.set_cons_zero, List.set_cons_succ]
        obtain ⟨x6, y6, hv6⟩ := own_slice (show w6.ownsRow _ _ _ v6 _ _ from HO6.out.1)
        obtain ⟨l6, hl6⟩ : ∃ l6, (gm.an ++ [r]).length = l6 := ⟨_, rfl⟩
        rw [hl6] at hv6
        subst hv6
        have HN6 : Hid ((Value.slice x6 l6 y6).ownBlock ≠ some Gg) := Lib.hid (fun e => by
          rcases HF6.out with h | h
          · rw [h] at e; have := HGL4.out _ e; omega
          · rw [h] at e; injection e with e; have := HX5.out.lt; omega)
        have HL6 := Lib.hid hl6
        clear hl6
        have hcu := HY6.out.cell 3 _ rfl
        have hfu := HY6.out.live 3 (by show 3 < 6; decide)
        have HX7 : Hid (CellsAt (w6.setCell ⟨Gg, 3, none⟩ (.slice x6 l6 y6)) Gr [.int .i64 rm.id, .int .i64 rm.fl, .slice aq rm.qs.length cq, .slice (some ⟨g, o, none⟩) n1 c1, .slice a2 rm.au.length c2, .slice a3 rm.mo.length c3]) := Lib.hid (HX6.out.other (by have := HGG.out; omega) _ _)
        have HY7 : Hid (CellsAt (w6.setCell ⟨Gg, 3, none⟩ (.slice x6 l6 y6)) Gg [.int .i64 gm.id, .int .i64 gm.fl, .slice bq gm.qs.length dq, .slice x6 l6 y6, .slice b2 gm.au.length d2, .slice b3 gm.mo.length d3]) := Lib.hid (HY6.out.set 3 _ (by show 3 < 6; decide))
        have HB7 : Hid (Below w.heap.size w (w6.setCell ⟨Gg, 3, none⟩ (.slice x6 l6 y6))) := Lib.hid (HB6.out.setCell (p := ⟨Gg, 3, none⟩) (by show w.heap.size ≤ Gg; have h1 := HGE.out.2; have h2 := HRL0.out; omega) _)
        have HK7 : Hid (∀ k, k < w4.heap.size → (Value.slice b1 gm.an.length d1).ownBlock ≠ some k → (w6.setCell ⟨Gg, 3, none⟩ (.slice x6 l6 y6)).heap[k]? = w4.heap[k]?) := Lib.hid (fun k hk hn => (heap_setCell_other _ _ _ _ (by show k ≠ Gg; have := HGE.out; omega)).trans (HK6.out k hk hn))
        have HS7 : Hid (w4.heap.size ≤ (w6.setCell ⟨Gg, 3, none⟩ (.slice x6 l6 y6)).heap.size) := Lib.hid (by have h1 := HX7.out.lt; have h2 := HY7.out.lt; have h3 := HGE.out; omega)
        have HO7 : Hid (RowR (w6.setCell ⟨Gg, 3, none⟩ (.slice x6 l6 y6)) W3.heap.size (.slice x6 l6 y6) (gm.an ++ [r])) := Lib.hid ⟨own_kept HO6.out.1 (fun k hk => heap_setCell_other _ _ _ _ (fun e => HN6.out (by rw [hk]; exact congrArg some e))), HO6.out.2⟩
        have HM7 : Hid (MsgIn (w6.setCell ⟨Gg, 3, none⟩ (.slice x6 l6 y6)) (moreM gm r) bq x6 b2 b3 dq y6 d2 d3) := Lib.hid (by
          obtain ⟨ad, c, e, hrr⟩ := RowR.recs HO7.out (fun x hx => by
            rcases List.mem_append.1 hx with hx | hx
            · exact HM4.out.an.2.2.1 x hx
            · rw [List.mem_singleton.1 hx]; exact HFR.out)
          injection e with e1 e2 e3
          subst e1
          subst e3
          exact ⟨HM4.out.qs.keep (fun x hx hlt => HK7.out _ hlt (fun e => (HD4.out _ e).2.2 x hx rfl)) HS7.out, hrr, HM4.out.au.keep (fun x hx hlt => HK7.out _ hlt (fun e => (HD4.out _ e).1 x hx rfl)) HS7.out, HM4.out.mo.keep (fun x hx hlt => HK7.out _ hlt (fun e => (HD4.out _ e).2.1 x hx rfl)) HS7.out⟩)
        refine wpAnyH_ready (rs := [9]) (by kernel_rfl) (by simp) ?_
        refine ready_one rfl rfl (fun K hK => ?_)
        go_wp2_with fail
        refine hK.out _ _ (HSX.out _ HX7.out HB7.out) (fun hHeld7 => ?_)
        clear hK K hcu hfu
        try simp only [Act.put, List.getElem_toArray, List.getElem_cons_zero, List.getElem_cons_succ]
        refine wpAnyH_done (by kernel_rfl) ?_ _
        refine NoPanic.normal ?_
        go_wp2_with fail
        go_meet
        case rel =>
          refine ⟨moreM gm r, bq, x6, b2, b3, dq, y6, d2, d3, HX7, ?_, HM7, HB7, Lib.hid (moreM_room HRM.out.1 HGL.out HMR.out)⟩
          rw [show (moreM gm r).an.length = l6 from HL6.out]
          exact HY7
      · refine wp_build_recS H16 _ rfl rfl ?_
        have hbl : Below U.heap.size U (U.alloc (.cells (recL r).toArray 42)) := (Below.refl _ _).alloc (Nat.le_refl _) _
        have HRN : Hid ((U.alloc (.cells (recL r).toArray 42)).rangeAt U.heap.size 0 (flatR [r])) := Lib.hid (by have := built_new (w := U) (cs := recL r) 42; simpa [flatR] using this)
        replace HX3 := Lib.hid (HX3.out.below hbl)
        have HGU : Hid (Gg < U.heap.size) := Lib.hid HX5.out.lt
        replace HX5 := Lib.hid (HX5.out.below hbl)
        replace HR5 := Lib.hid (HR5.out.below hbl)
        replace HB0 := Lib.hid (chain HB0.out hbl)
        replace HKX : Hid (∀ k, k < w4.heap.size → (U.alloc (.cells (recL r).toArray 42)).heap[k]? = w4.heap[k]?) := Lib.hid (fun k hk => by have h1 := HKX.out k hk; have h2 := HGU.out; rw [← h1]; exact hbl.block k (by have := HGE.out; omega))
        have HSB : Hid (W3.heap.size ≤ (U.alloc (.cells (recL r).toArray 42)).heap.size) := Lib.hid (by have h1 := HGU.out; have h2 := hbl.size; have h3 := HGE.out; omega)
        obtain ⟨Wb, hWb⟩ : ∃ Wb, U.alloc (.cells (recL r).toArray 42) = Wb := ⟨_, rfl⟩
        obtain ⟨Gn, hGn⟩ : ∃ Gn, U.heap.size = Gn := ⟨_, rfl⟩
        rw [hWb] at HX3 HX5 HR5 HB0 HKX HRN HSB ⊢
        rw [hGn] at HRN HGU
        try rw [hGn]
        clear hWb hGn hbl
        refine hK.out _ _ (HSX.out _ HX3.out HB0.out) (fun hHeldb => ?_)
        clear hK K
        try simp only [Act.put, List.getElem_toArray, List.getElem_cons_zero, List.getElem_cons_succ, List.setIfInBounds_toArray, List.set_cons_zero, List.set_cons_succ]
        refine wpAnyH_ready (rs := [1]) (by kernel_rfl) (by simp) ?_
        refine ready_one rfl rfl (fun K hK => ?_)
        have xg := HX5.out.cell 3 _ rfl
        go_wp2_with fail
        refine hK.out _ _ (HSX.out _ HX3.out HB0.out) (fun hHeldl => ?_)
        clear hK K xg
        try simp only [Act.put, List.getElem_toArray, List.getElem_cons_zero, List.getElem_cons_succ, List.setIfInBounds_toArray, List.set_cons_zero, List.set_cons_succ]
        refine wpAnyH_ready (rs := [7]) (by kernel_rfl) (by simp) ?_
        refine ready_one rfl rfl (fun K hK => ?_)
        have HY1 : Hid (All16 [r]) := Lib.hid (fun x hx => by rw [List.mem_singleton.1 hx]; exact H16.out)
        have HLE : Hid (gm.an.length + [r].length ≤ 100000) := Lib.hid (by have := HGL.out.2.1; simp only [List.length_cons, List.length_nil]; omega)
        refine wp_append_recs HR5 _ _ rfl rfl [r] rfl (Lib.hid rfl) HRN HY1 HLE HSB (fun v6 w6 HO6 HG6 HF6 => ?_)
        have HX6 : Hid (CellsAt w6 Gr [.int .i64 rm.id, .int .i64 rm.fl, .slice aq rm.qs.length cq, .slice (some ⟨g, o, none⟩) n1 c1, .slice a2 rm.au.length c2, .slice a3 rm.mo.length c3]) := Lib.hid (CellsAt.keep HX3.out (HG6.out.block Gr HX3.out.lt (fun e => by have := (HR5.out.1.lt _ e.symm).1; have := HRL.out; omega)) HG6.out.size)
        have HY6 : Hid (CellsAt w6 Gg [.int .i64 gm.id, .int .i64 gm.fl, .slice bq gm.qs.length dq, .slice b1 gm.an.length d1, .slice b2 gm.au.length d2, .slice b3 gm.mo.length d3]) := Lib.hid (CellsAt.keep HX5.out (HG6.out.block Gg HX5.out.lt (fun e => by have := HGL4.out _ e.symm; omega)) HG6.out.size)
        have HB6 : Hid (Below w.heap.size w w6) := Lib.hid (HB0.out.grown HG6.out HB0.out.size (fun k hk => by have := (HR5.out.1.lt k hk).1; have := HSZ3.out; omega))
        have HK6 : Hid (∀ k, k < w4.heap.size → (Value.slice b1 gm.an.length d1).ownBlock ≠ some k → w6.heap[k]? = w4.heap[k]?) := Lib.hid (fun k hk hn => (HG6.out.block k (by have := HGE.out; have := HX5.out.lt; omega) (fun e => hn e.symm)).trans (HKX.out k hk))
        refine hK.out _ _ (HSX.out _ HX6.out HB6.out) (fun hHeld6 => ?_)
        clear hK K
        try simp only [Act.put, List.getElem_toArray, List.getElem_cons_zero, List.getElem_cons_succ, List.setIfInBounds_toArray, List.set_cons_zero, List.set_cons_succ]
        refine wpAnyH_take (i := 8) (v := ?_) rfl (by kernel_rfl) (by kernel_rfl) (by kernel_rfl) (fun _ _ _ h => h) (Or.inl ⟨by rfl, ?_⟩) (by assumption) ?_
        rotate_left
        · (intro w hSw; go_simp; try (with_reducible rfl))
        try simp only [Act.put, List.getElem_toArray, List.getElem_cons_zero, List.getElem_cons_succ, List.setIfInBounds_toArray, List.set_cons_zero, List.set_cons_succ]
        obtain ⟨x6, y6, hv6⟩ := own_slice (show w6.ownsRow _ _ _ v6 _ _ from HO6.out.1)
        obtain ⟨l6, hl6⟩ : ∃ l6, (gm.an ++ [r]).length = l6 := ⟨_, rfl⟩
        rw [hl6] at hv6
        subst hv6
        have HN6 : Hid ((Value.slice x6 l6 y6).ownBlock ≠ some Gg) := Lib.hid (fun e => by
          rcases HF6.out with h | h
          · rw [h] at e; have := HGL4.out _ e; omega
          · rw [h] at e; injection e with e; have := HX5.out.lt; omega)
        have HL6 := Lib.hid hl6
        clear hl6
        have hcu := HY6.out.cell 3 _ rfl
        have hfu := HY6.out.live 3 (by show 3 < 6; decide)
        have HX7 : Hid (CellsAt (w6.setCell ⟨Gg, 3, none⟩ (.slice x6 l6 y6)) Gr [.int .i64 rm.id, .int .i64 rm.fl, .slice aq rm.qs.length cq, .slice (some ⟨g, o, none⟩) n1 c1, .slice a2 rm.au.length c2, .slice a3 rm.mo.length c3]) := Lib.hid (HX6.out.other (by have := HGG.out; omega) _ _)
        have HY7 : Hid (CellsAt (w6.setCell ⟨Gg, 3, none⟩ (.slice x6 l6 y6)) Gg [.int .i64 gm.id, .int .i64 gm.fl, .slice bq gm.qs.length dq, .slice x6 l6 y6, .slice b2 gm.au.length d2, .slice b3 gm.mo.length d3]) := Lib.hid (HY6.out.set 3 _ (by show 3 < 6; decide))
        have HB7 : Hid (Below w.heap.size w (w6.setCell ⟨Gg, 3, none⟩ (.slice x6 l6 y6))) := Lib.hid (HB6.out.setCell (p := ⟨Gg, 3, none⟩) (by show w.heap.size ≤ Gg; have h1 := HGE.out.2; have h2 := HRL0.out; omega) _)
        have HK7 : Hid (∀ k, k < w4.heap.size → (Value.slice b1 gm.an.length d1).ownBlock ≠ some k → (w6.setCell ⟨Gg, 3, none⟩ (.slice x6 l6 y6)).heap[k]? = w4.heap[k]?) := Lib.hid (fun k hk hn => (heap_setCell_other _ _ _ _ (by show k ≠ Gg; have := HGE.out; omega)).trans (HK6.out k hk hn))
        have HS7 : Hid (w4.heap.size ≤ (w6.setCell ⟨Gg, 3, none⟩ (.slice x6 l6 y6)).heap.size) := Lib.hid (by have h1 := HX7.out.lt; have h2 := HY7.out.lt; have h3 := HGE.out; omega)
        have HO7 : Hid (RowR (w6.setCell ⟨Gg, 3, none⟩ (.slice x6 l6 y6)) W3.heap.size (.slice x6 l6 y6) (gm.an ++ [r])) := Lib.hid ⟨own_kept HO6.out.1 (fun k hk => heap_setCell_other _ _ _ _ (fun e => HN6.out (by rw [hk]; exact congrArg some e))), HO6.out.2⟩
        have HM7 : Hid (MsgIn (w6.setCell ⟨Gg, 3, none⟩ (.slice x6 l6 y6)) (moreM gm r) bq x6 b2 b3 dq y6 d2 d3) := Lib.hid (by
          obtain ⟨ad, c, e, hrr⟩ := RowR.recs HO7.out (fun x hx => by
            rcases List.mem_append.1 hx with hx | hx
            · exact HM4.out.an.2.2.1 x hx
            · rw [List.mem_singleton.1 hx]; exact HFR.out)
          injection e with e1 e2 e3
          subst e1
          subst e3
          exact ⟨HM4.out.qs.keep (fun x hx hlt => HK7.out _ hlt (fun e => (HD4.out _ e).2.2 x hx rfl)) HS7.out, hrr, HM4.out.au.keep (fun x hx hlt => HK7.out _ hlt (fun e => (HD4.out _ e).1 x hx rfl)) HS7.out, HM4.out.mo.keep (fun x hx hlt => HK7.out _ hlt (fun e => (HD4.out _ e).2.1 x hx rfl)) HS7.out⟩)
        refine wpAnyH_ready (rs := [9]) (by kernel_rfl) (by simp) ?_
        refine ready_one rfl rfl (fun K hK => ?_)
        go_wp2_with fail
        refine hK.out _ _ (HSX.out _ HX7.out HB7.out) (fun hHeld7 => ?_)
        clear hK K hcu hfu
        try simp only [Act.put, List.getElem_toArray, List.getElem_cons_zero, List.getElem_cons_succ]
        refine wpAnyH_done (by kernel_rfl) ?_ _
        refine NoPanic.normal ?_
        go_wp2_with fail
        go_meet
        case rel =>
          refine ⟨moreM gm r, bq, x6, b2, b3, dq, y6, d2, d3, HX7, ?_, HM7, HB7, Lib.hid (moreM_room HRM.out.1 HGL.out HMR.out)⟩
          rw [show (moreM gm r).an.length = l6 from HL6.out]
          exact HY7
    · have hd : decide ((0 : Int) < (n1 : Int)) = false := decide_eq_false (by omega)
      have hdn : decide (0 < n1) = false := decide_eq_false h0
      go_wp2_with fail
      go_meet
      case rel => exact ⟨gm, _, _, _, _, _, _, _, _, HX3, HX5, HM5, HB0, Lib.hid ⟨HRM.out.1, HRM.out.2, HGL.out.few⟩⟩
  case rest =>
    clear HX3 HX5 HM5 HR5 HB0 HD4 HGL4 HRI x3 HMY HRM HGL
    obtain ⟨gx, e0, e1, e2, e3, f0, f1, f2, f3, HX3, HX5, HM5, HB0, HGR⟩ := hcut
    rw [← HN1.out] at HX3
    have HRI := HRW _ HB0.out
    clear HRW HN1 HN3
    go_upto_region 8 with (first | refine load_msg HX3 rfl _ rfl rfl rfl ?_ | refine load_msg HX5 rfl _ rfl rfl rfl ?_ | refine build_2M rfl _ _ rfl rfl rfl (fun WA HWA => ?_))
    have hbA : Below wc.heap.size wc WA := by rw [HWA.out]; exact (Below.refl _ _).alloc (Nat.le_refl _) _
    obtain ⟨va, hva, lva, ova⟩ : ∃ va : List Value, va = [.int .i64 rm.id, .int .i64 rm.fl, .slice aq rm.qs.length cq, .slice a1 rm.an.length c1, .slice a2 rm.au.length c2, .slice a3 rm.mo.length c3] ∧ va.length = 6 ∧ msgV rm aq a1 a2 a3 cq c1 c2 c3 = .agg va.toArray := ⟨_, rfl, rfl, rfl⟩
    obtain ⟨vb, hvb, lvb, ovb⟩ : ∃ vb : List Value, vb = [.int .i64 gx.id, .int .i64 gx.fl, .slice e0 gx.qs.length f0, .slice e1 gx.an.length f1, .slice e2 gx.au.length f2, .slice e3 gx.mo.length f3] ∧ vb.length = 6 ∧ msgV gx e0 e1 e2 e3 f0 f1 f2 f3 = .agg vb.toArray := ⟨_, rfl, rfl, rfl⟩
    have HRA : Hid (WA.rangeAt wc.heap.size 0 (va ++ vb) ∧ wc.heap.size < WA.heap.size) := Lib.hid ⟨by rw [HWA.out, hva, hvb]; exact built_new _, by rw [HWA.out]; simp⟩
    have HMr := Lib.hid (HRI.out.below hbA)
    have HMx := Lib.hid (HM5.out.below hbA)
    have HBA := Lib.hid (chain HB0.out hbA)
    obtain ⟨A, hA⟩ : ∃ A, wc.heap.size = A := ⟨_, rfl⟩
    rw [hA] at HRA ⊢
    have HSEL : Hid (∀ k, k < 2 → ∃ (mm : Msg) (q0 q1 q2 q3 : Option Addr) (s0 s1 s2 s3 : Nat) (vk : List Value), msgV mm q0 q1 q2 q3 s0 s1 s2 s3 = .agg vk.toArray ∧ vk.length = 6 ∧ WA.rangeAt A (k * 6) vk ∧ MsgIn WA mm q0 q1 q2 q3 s0 s1 s2 s3 ∧ RoomM mm ∧ Len4 mm ∧ Few3 mm) := Lib.hid (fun k hk => by
      obtain ⟨r1, r2⟩ := range_two HRA.out.1
      rw [lva] at r2
      match k, hk with
      | 0, _ => exact ⟨rm, _, _, _, _, _, _, _, _, va, ova, lva, r1, HMr.out, HRR.out.1, HRR.out.2.1, HRR.out.2.2.few⟩
      | 1, _ => exact ⟨gx, _, _, _, _, _, _, _, _, vb, ovb, lvb, r2, HMx.out, HGR.out⟩)
    have HAL : Hid (A < WA.heap.size) := Lib.hid HRA.out.2
    clear hA hva lva ova hvb lvb ovb hbA HWA HX3 HX5 HM5 HRI HB0 HMr HMx HRA HRR HGR
    go_wp2_with fail
    go_loopw [6] (fun s6 wl => ∃ k : Nat, k ≤ 2 ∧ s6 = .int .i64 (k : Int) ∧ Hid (Below WA.heap.size WA wl)) (fun i _ => 2 - (intOf i).toNat)
    case atStart => exact ⟨0, Nat.zero_le _, rfl, Lib.hid (Below.refl _ _)⟩
    case round =>
      obtain ⟨k, hk, rfl, HBk⟩ := hrel
      by_cases hk2 : k < 2
      · have hd : decide ((k : Int) < 2) = true := decide_eq_true (by omega)
        have hdn : decide (k < 2) = true := decide_eq_true hk2
        obtain ⟨mm, q0, q1, q2, q3, s0, s1, s2, s3, vk, hmv, lvk, hrk, hmi, hro, hl4, hf3⟩ := HSEL.out k hk2
        have HRK := fun V (h : Below WA.heap.size WA V) => Lib.hid (range_later hrk h HAL.out)
        have HMAR := fun V (h : Below WA.heap.size WA V) => Lib.hid (by have := refMay9_any mm q0 q1 q2 q3 s0 s1 s2 s3 V (hmi.below h) hro; rw [hmv] at this; exact this)
        have HMAY := fun V (h : Below WA.heap.size WA V) => Lib.hid (by have := may9_any mm q0 q1 q2 q3 s0 s1 s2 s3 V (hmi.below h) hro; rw [hmv] at this; exact this)
        have HWRI := fun V (h : Below WA.heap.size WA V) => Lib.hid (by have := write9_any mm q0 q1 q2 q3 s0 s1 s2 s3 V (hmi.below h) hro hl4; rw [hmv] at this; exact this)
        have HRWR := fun V (h : Below WA.heap.size WA V) (hmm : mayM mm = true) => Lib.hid (by have := refWrite9_any mm q0 q1 q2 q3 s0 s1 s2 s3 V (hmi.below h) hmm hl4 (few3_bulk hf3); rw [hmv] at this; exact this)
        clear hrk hmi hro hl4 hf3 hmv
        have hb1 : (0 : Int) ≤ (k : Int) := by omega
        have hb2 : (k : Int) < 2 := by omega
        have HR0 := HRK _ HBk.out
        go_wp2_with (refine load_msgO HR0 lvk _ rfl rfl rfl ?_)
        refine (HMAR _ HBk.out).out.mono ?_
        rintro e w5 ⟨rfl, hb5⟩
        have HB5 := Lib.hid (chain HBk.out hb5)
        clear hb5 HMAR HR0
        have HR0 := HRK _ HB5.out
        cases hmm : mayM mm with
        | false =>
          rw [hmm] at HMAY
          go_wp2_with (refine load_msgO HR0 lvk _ rfl rfl rfl ?_)
          refine (HWRI _ HB5.out).out.mono ?_
          rintro e w6 h6
          have HB6 := Lib.hid (chain HB5.out h6.1)
          rcases h6.2 with ⟨_, rfl⟩ | ⟨hm, _⟩ | ⟨hm, _⟩
          · clear h6 HR0 HWRI
            have HR0 := HRK _ HB6.out
            go_wp2_with (refine load_msgO HR0 lvk _ rfl rfl rfl ?_)
            refine (HMAY _ HB6.out).out.mono ?_
            rintro e w7 ⟨rfl, hb7⟩
            have HB7 := Lib.hid (chain HB6.out hb7)
            clear hb7
            go_wp2_with fail
            go_roundw
            case rel => exact ⟨k + 1, by omega, by go_num, HB7⟩
            case measure => simp [intOf]; omega
          · rw [hmm] at hm; exact absurd hm (by decide)
          · rw [hmm] at hm; exact absurd hm (by decide)
        | true =>
          rw [hmm] at HMAY
          have HMM := Lib.hid hmm
          go_wp2_with (refine load_msgO HR0 lvk _ rfl rfl rfl ?_)
          refine (HWRI _ HB5.out).out.mono ?_
          rintro e w6 h6
          have HB6 := Lib.hid (chain HB5.out h6.1)
          rcases h6.2 with ⟨hm, _⟩ | ⟨_, hlen, rfl⟩ | ⟨_, hlen, v', rfl, ho⟩
          · rw [hmm] at hm; exact absurd hm (by decide)
          · clear h6 HR0 HWRI hmm
            have HR0 := HRK _ HB6.out
            go_wp2_with (refine load_msgO HR0 lvk _ rfl rfl rfl ?_)
            refine (HMAY _ HB6.out).out.mono ?_
            rintro e w7 ⟨rfl, hb7⟩
            have HB7 := Lib.hid (chain HB6.out hb7)
            clear hb7 HR0
            have HR0 := HRK _ HB7.out
            go_wp2_with (refine load_msgO HR0 lvk _ rfl rfl rfl ?_)
            refine (HRWR _ HB7.out HMM.out).out.mono ?_
            rintro e w8 ⟨v8, rfl, ho8, hb8⟩
            have HB8 := Lib.hid (chain HB7.out hb8)
            obtain ⟨x8, y8, hv8⟩ := own_slice ho8
            obtain ⟨L, hL⟩ : ∃ L, (wB mm).length = L := ⟨_, rfl⟩
            rw [hL] at hv8 hlen
            subst hv8
            have hdL : decide ((L : Int) ≤ 1232) = false := decide_eq_false (by omega)
            have hdLn : decide (L ≤ 1232) = false := decide_eq_false (by omega)
            clear hb8 ho8 HR0 HRWR hL hlen
            go_wp2_with fail
            go_roundw
            case rel => exact ⟨k + 1, by omega, by go_num, HB8⟩
            case measure => simp [intOf]; omega
          · obtain ⟨x6, y6, hv6⟩ := own_slice ho
            obtain ⟨L, hL⟩ : ∃ L, (wB mm).length = L := ⟨_, rfl⟩
            rw [hL] at hv6 hlen
            subst hv6
            clear h6 HR0 HWRI hmm ho
            have HR0 := HRK _ HB6.out
            go_wp2_with (refine load_msgO HR0 lvk _ rfl rfl rfl ?_)
            refine (HMAY _ HB6.out).out.mono ?_
            rintro e w7 ⟨rfl, hb7⟩
            have HB7 := Lib.hid (chain HB6.out hb7)
            clear hb7 HR0
            have HR0 := HRK _ HB7.out
            go_wp2_with (refine load_msgO HR0 lvk _ rfl rfl rfl ?_)
            refine (HRWR _ HB7.out HMM.out).out.mono ?_
            rintro e w8 ⟨v8, rfl, ho8, hb8⟩
            have HB8 := Lib.hid (chain HB7.out hb8)
            obtain ⟨x8, y8, hv8⟩ := own_slice ho8
            rw [hL] at hv8
            subst hv8
            have hdL : decide ((L : Int) ≤ 1232) = true := decide_eq_true (by omega)
            have hdLn : decide (L ≤ 1232) = true := decide_eq_true (by omega)
            clear hb8 ho8 HR0 HRWR hL hlen
            go_wp2_with fail
            go_roundw
            case rel => exact ⟨k + 1, by omega, by go_num, HB8⟩
            case measure => simp [intOf]; omega
      · obtain rfl : k = 2 := by omega
        have hd : decide (((2 : Nat) : Int) < 2) = false := by simp
        go_wp2_with fail
        refine (HLV _).out.mono ?_
        rintro e w5 ⟨rfl, hb5⟩
        have HB5 := Lib.hid (chain HBA.out (chain HBk.out hb5))
        clear hb5
        go_wp2_with fail
        go_ret
        exact ⟨rfl, HB5.out⟩

theorem contract (H : Type) (enc : TypeId × Value → H) (W : World) (base : Nat) (args : Array Value) (ds gs : List (DataW H)) (before : List MemPlace)
    (hval0 : ∀ (j : Nat) t v, Try.f4.params[j]? = some t → args[j]? = some v → Value.okWide Try.prog W .any base t v)
    (hW : DataW.Whole enc Try.prog Try.f4.params.toList Rows.wireMaySpec.vars false W args.toList ds gs before) (hk : Rows.uptoSmall H (ds ++ gs) = true) :
    Calls Try.prog 4 args W fun e W' => ∃ v, e = .returned v ∧ Rows.wireMaySpec.post enc Try.prog Try.f4 false true false false W args v W' := by
  have hkb : ∀ d ∈ ds, Rows.uptoBulk d ≤ 1048576 := fun d hd => Nat.le_trans (bulk_mem (List.mem_append_left _ hd)) (of_decide_eq_true hk)
  clear hk
  have hval : ∀ (j : Nat) t v, Try.f4.params[j]? = some t → args[j]? = some v → Value.okWide Try.prog W .any base t v := hval0
  have hW' := hW
  obtain ⟨p, q, hA0, hV, rfl, hfz, hnd⟩ := hW
  have hA : DataW.TrodAll enc Try.prog W 0 (fun _ => true) true Try.f4.params.toList args.toList ds p := hA0
  rw [Try.params4] at hA hval
  obtain ⟨v0, vs0, d0, ds0, p0, q0, hargs, rfl, rfl, h0, r0⟩ := trodAll_cons hA
  obtain ⟨rfl, rfl, rfl⟩ := trodAll_nil r0
  obtain rfl : args = #[v0] := by cases args; simp_all
  obtain ⟨rfl, rfl⟩ := trodVars_none hV
  have k0 := h0
  have lt0 : ∀ x ∈ p0, x.block < W.heap.size := by obtain ⟨m, hm⟩ := k0; exact DataW.trod_lt m _ _ _ hm
  obtain ⟨m0, xq0, xa0, xb0, xc0, yq0, ya0, yb0, yc0, rfl, w0⟩ := open_msg (hval 0 25 v0 rfl rfl) h0
  replace w0 := w0.wider (hkb d0 (by simp))
  clear hA0 hval0
  refine (walk m0 xq0 xa0 xb0 xc0 yq0 ya0 yb0 yc0 W w0).mono fun e W' ⟨he, bel⟩ => ?_
  subst he
  exact ⟨_, rfl, _, _, _, [], _, [], hW', trodAll_mk1 (shut_bool Try.underlying4 _), (trodAll_cons_mk (Below.trod laidOut (by kernel_rfl) (of_decide_eq_true (by kernel_rfl)) k0 bel lt0) trodAll_mk0), rfl, bel.frame _, fun h => by cases h⟩

set_option maxRecDepth 100000 in
theorem lifted (os : Os) (started : os.Started) (H : Type) (enc : TypeId × Value → H) (F : Stop.Interp) :
    ReturnsInHanded {} Try.checked os 4 .any ((Rows.OpenSpec.upto Rows.wireMaySpec).pre6 enc Try.prog Try.f4 Rows.wireMayUptoRow.domain false) (((Rows.OpenSpec.upto Rows.wireMaySpec).at F).post enc Try.prog Try.f4 false true false false) := by
  refine returnsInHanded_of_cond (C := Try.checked) (s := Rows.OpenSpec.upto Rows.wireMaySpec) (k := Rows.uptoSmall) rfl own started (by kernel_rfl) Try.func4
    (OpenSpec.witness (enc := enc) (C := Try.checked) (s := Rows.OpenSpec.upto Rows.wireMaySpec) (k := Rows.uptoSmall) rfl false ⟨#[], #[.agg #[.int .i64 0, .int .i64 0, .slice none 0 0, .slice none 0 0, .slice none 0 0, .slice none 0 0]], []⟩ 8 (by kernel_rfl) (by kernel_rfl) (by kernel_rfl)
      (x := ([.agg [.lit (.int .i64 0), .lit (.int .i64 0), .nil, .nil, .nil, .nil]], [], [])) (by kernel_rfl) rfl (by kernel_rfl)) ?_
  intro W base args ds gs before hval hW _ hk _
  exact contract H enc W base args ds gs before hval hW hk

theorem proved : Rows.WireMayUptoSaid :=
  OpenClaim.holds_of_cond 4 Try.f4 rfl rfl rfl rfl rfl rfl rfl ⟨rfl, rfl, rfl, rfl, rfl⟩ rfl rfl rfl rfl rfl (by kernel_rfl) Try.func4 (by kernel_rfl)
    (of_decide_eq_true (by kernel_rfl)) (by unfold Func.isWrapper; first | (rw [if_pos (by decide +kernel)]; kernel_rfl) | (rw [if_neg (by decide +kernel)]; exact ⟨rfl, rfl⟩))
    (fun os started H enc _ F => lifted os started H enc F)
#print axioms proved
end Go.Proofs.Yticdpidngmeebaa.wireMay
