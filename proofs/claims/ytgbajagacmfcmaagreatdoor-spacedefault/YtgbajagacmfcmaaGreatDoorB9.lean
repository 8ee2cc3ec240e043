/- Texts that belong together, one behind the other: AddrUnmap, SpaceOwn, SixMath, RefAddrParse, CidrParseDefs, RefCidrParse, SpaceTexts, RefSpaceDef, SixTexts. -/
import Derived.Test.YtgbajagacmfcmaaGreatDoorB8
import Derived.Deep.Cut
import Derived.Lib.LastIndexByte
import Derived.KernelRfl
/- Contract of addr.Unmap. -/
namespace Go.Proofs.YtgbajagacmfcmaaGreatDoor
open Go.RowKit
set_option linter.unusedVariables false
set_option maxRecDepth 20000

/-- The number of the last four bytes. -/
def last4 (bs : List Nat) : Nat := ((bs.getD 12 0 * 256 + bs.getD 13 0) * 256 + bs.getD 14 0) * 256 + bs.getD 15 0
theorem last4_le (bs : List Nat) (h : ∀ x ∈ bs, x < 256) : last4 bs ≤ 4294967295 := by
  have h0 := byte_lt h 12
  have h1 := byte_lt h 13
  have h2 := byte_lt h 14
  have h3 := byte_lt h 15
  unfold last4
  omega
theorem last4_gr (bs : List Nat) : (grL bs 8).getD 6 0 * 65536 + (grL bs 8).getD 7 0 = last4 bs := by
  simp [grL, last4]
  omega
theorem mapped_mapL (bs : List Nat) (h16 : bs.length = 16) (hlt : ∀ x ∈ bs, x < 256) : decide (bs = mapL (last4 bs)) = mappedB (grL bs 8) := by
  obtain ⟨y0, y1, y2, y3, y4, y5, y6, y7, y8, y9, y10, y11, y12, y13, y14, y15, rfl⟩ := list16 bs h16
  simp at hlt
  rw [Bool.eq_iff_iff]
  simp [mapL, last4, grL, mappedB, zer]
  omega
set_option maxRecDepth 100000 in
set_option maxHeartbeats 1000000 in
theorem addrUnmap_any (f : Int) (bs : List Nat) (w : World) (h16 : bs.length = 16) (hlt : ∀ x ∈ bs, x < 256) :
    Calls Tryz.prog 18 #[addrV f bs] w fun e w' => e = .returned (addrV (unmapF f bs) (unmapB f bs)) ∧ Below w.heap.size w w' := by
  obtain ⟨cs, ecs, HA, HB⟩ := addr_boxed f bs w h16
  have HZ := addr_zeroed (w.alloc (.cells cs 24))
  rw [heap_alloc] at HZ
  have HR := Lib.hid HZ
  have HA1 := Lib.hid (HA.out.alloc (.cells zA 24))
  have HB1 := Lib.hid (HB.out.alloc HB.out.size (.cells zA 24))
  rw [ecs]
  have HO := fun W => Lib.hid (of_any (bs.getD 12 0) (bs.getD 13 0) (bs.getD 14 0) (bs.getD 15 0) W (byte_lt hlt 12) (byte_lt hlt 13) (byte_lt hlt 14) (byte_lt hlt 15))
  rw [show ((bs.getD 12 0 * 256 + bs.getD 13 0) * 256 + bs.getD 14 0) * 256 + bs.getD 15 0 = last4 bs from rfl] at HO
  have HQ := Lib.hid (mapped_mapL bs h16 hlt)
  have HN := Lib.hid (last4_gr bs)
  have HLE := Lib.hid (last4_le bs hlt)
  have HLT := Lib.hid hlt
  have H16 := Lib.hid h16
  generalize last4 bs = n at *
  clear ecs hlt h16 HZ HA HB
  go_enter Tryz.func18, Tryz.ntmps18
  go_upto_region 1 with fail
  generalize ((w.alloc (.cells cs 24)).alloc (.cells zA 24)) = W at *
  have c0 : W.cell? ⟨w.heap.size, 13, none⟩ = some (.int .u8 ((bs.getD 12 0 : Nat) : Int)) := HA1.out.cells 12 (by decide)
  have c1 : W.cell? ⟨w.heap.size, 14, none⟩ = some (.int .u8 ((bs.getD 13 0 : Nat) : Int)) := HA1.out.cells 13 (by decide)
  have c2 : W.cell? ⟨w.heap.size, 15, none⟩ = some (.int .u8 ((bs.getD 14 0 : Nat) : Int)) := HA1.out.cells 14 (by decide)
  have c3 : W.cell? ⟨w.heap.size, 16, none⟩ = some (.int .u8 ((bs.getD 15 0 : Nat) : Int)) := HA1.out.cells 15 (by decide)
  generalize bs.getD 12 0 = a at *
  generalize bs.getD 13 0 = b at *
  generalize bs.getD 14 0 = c at *
  generalize bs.getD 15 0 = d at *
  unfold arr4 at HO
  go_wp2_with fail
  refine (HO W).out.mono ?_
  rintro e w1 ⟨rfl, hb1⟩
  have HA2 := Lib.hid (HA1.out.below hb1)
  have HR2 := Lib.hid (HR.out.below hb1)
  have HB2 := Lib.hid (chain HB1.out hb1)
  clear HA1 HR HB1 hb1 HO c0 c1 c2 c3
  go_wp2_with fail
  obtain ⟨L, hL⟩ : ∃ L, [(w.heap.size, 0, addrL f bs), (w.heap.size, 1, bs.map fun n => Value.int .u8 ((n : Nat) : Int))] = L := ⟨_, rfl⟩
  have HK := Lib.hid (show HeldR L w1 w1 by rw [← hL]; exact ((HeldR.nil (Below.refl _ _)).cons HA2.out.b16.range HA2.out.lt).addr HA2.out)
  have MA : InA L w.heap.size f bs := ⟨by rw [← hL]; simp, H16.out⟩
  have M0 := Lib.hid (famR MA w1)
  have M1 := Lib.hid (show InB L w.heap.size 1 bs from ⟨by rw [← hL]; simp, H16.out⟩)
  clear hL MA
  refine wp_region_noPanic ?_
  by_cases h6 : f = 6
  · subst h6
    have HC : ∀ w', HeldR L w1 w' → Hid (Calls Tryz.prog 31 #[.int .u32 (n : Int)] w' fun e w'' => e = .returned (arr16 (mapL n)) ∧ Below w'.heap.size w' w'') := fun w' _ => Lib.hid (addrMapped_any n w' HLE.out)
    have q1 := fun W => run_neq_arr16 bs (mapL n) W H16.out rfl
    have gd := guard_arr16
    rw [HQ.out] at q1
    cases hm : mappedB (grL bs 8) with
    | true =>
      rw [hm] at q1
      have q2 : ∀ W, (binOp .neq 22 (arr16 bs) (arr16 (mapL n))).run Tryz.prog W = .ok (.bool false) W := q1
      have HE : Hid (unmapF 6 bs = 4 ∧ unmapB 6 bs = b4 n) := Lib.hid ⟨by unfold unmapF isMap; rw [hm]; rfl, by unfold unmapB isMap; rw [hm, HN.out]; rfl⟩
      clear q1 hm
      refine wp_region_held_drew (S := HeldR L w1) (by kernel_rfl) HK.out.drew (fun hHeld => ?_)
      refine wpAnyH_take (i := 0) (v := ?_) rfl (by kernel_rfl) (by kernel_rfl) (by kernel_rfl) (fun _ _ _ h => h) (Or.inl ⟨by rfl, ?_⟩) (by assumption) ?_
      rotate_left
      · (intro w hSw; go_simp; try (with_reducible rfl))
      try simp only [Act.put, List.getElem_toArray, List.getElem_cons_zero, List.setIfInBounds_toArray, List.set_cons_zero, List.set_cons_succ]
      refine wpAnyH_take (i := 1) (v := ?_) rfl (by kernel_rfl) (by kernel_rfl) (by kernel_rfl) (fun _ _ _ h => h) (Or.inl ⟨by rfl, ?_⟩) (by assumption) ?_
      rotate_left
      · (intro w hSw; have hc0 := M0.out w hSw; go_simp; try (with_reducible rfl))
      try simp only [Act.put, List.getElem_toArray, List.getElem_cons_zero, List.getElem_cons_succ, List.setIfInBounds_toArray, List.set_cons_zero, List.set_cons_succ]
      refine wpAnyH_take (i := 2) (v := ?_) rfl (by kernel_rfl) (by kernel_rfl) (by kernel_rfl) (fun _ _ _ h => h) (Or.inl ⟨by rfl, ?_⟩) (by assumption) ?_
      rotate_left
      · (intro w hSw; go_simp; try (with_reducible rfl))
      try simp only [Act.put, List.getElem_toArray, List.getElem_cons_zero, List.getElem_cons_succ, List.setIfInBounds_toArray, List.set_cons_zero, List.set_cons_succ]
      refine wpAnyH_take (i := 3) (v := ?_) rfl (by kernel_rfl) (by kernel_rfl) (by kernel_rfl) (fun _ _ _ h => h) (Or.inl ⟨by rfl, ?_⟩) (by assumption) ?_
      rotate_left
      · (intro w hSw; go_simp; try (with_reducible rfl))
      try simp only [Act.put, List.getElem_toArray, List.getElem_cons_zero, List.getElem_cons_succ, List.setIfInBounds_toArray, List.set_cons_zero, List.set_cons_succ]
      refine wpAnyH_take (i := 4) (v := ?_) rfl (by kernel_rfl) (by kernel_rfl) (by kernel_rfl) (fun _ _ _ h => h) (Or.inl ⟨by rfl, ?_⟩) (by assumption) ?_
      rotate_left
      · (intro w hSw; go_simp; try (with_reducible rfl))
      try simp only [Act.put, List.getElem_toArray, List.getElem_cons_zero, List.getElem_cons_succ, List.setIfInBounds_toArray, List.set_cons_zero, List.set_cons_succ]
      refine wpAnyH_take (i := 5) rfl (by kernel_rfl) (by kernel_rfl) (by kernel_rfl) (fun _ _ _ h => h) (yields_b16 M1 (by rfl) _ rfl rfl) (by assumption) ?_
      try simp only [Act.put, List.getElem_toArray, List.getElem_cons_zero, List.getElem_cons_succ, List.setIfInBounds_toArray, List.set_cons_zero, List.set_cons_succ]
      refine wpAnyH_take (i := 6) (v := ?_) rfl (by kernel_rfl) (by kernel_rfl) (by kernel_rfl) (fun _ _ _ h => h) (Or.inl ⟨by rfl, ?_⟩) (by assumption) ?_
      rotate_left
      · (intro w hSw; go_simp; try (with_reducible rfl))
      try simp only [Act.put, List.getElem_toArray, List.getElem_cons_zero, List.getElem_cons_succ, List.setIfInBounds_toArray, List.set_cons_zero, List.set_cons_succ]
      refine wpAnyH_ready (rs := [7]) (by kernel_rfl) (by simp) ?_
      refine AllReadyH.cons rfl (fun K hK => ?_) AllReadyH.nil
      go_simp
      refine (Calls.heldR (HC _ (by assumption)).out (by assumption)).mono ?_
      rintro e wr7 ⟨rfl, hS7⟩
      go_wp2_with fail
      refine hK.out _ _ hS7 (fun hHeld => ?_)
      clear hK K
      try simp only [Act.put, List.getElem_toArray, List.getElem_cons_zero, List.getElem_cons_succ, List.setIfInBounds_toArray, List.set_cons_zero, List.set_cons_succ]
      refine wpAnyH_take (i := 8) (v := ?_) rfl (by kernel_rfl) (by kernel_rfl) (by kernel_rfl) (fun _ _ _ h => h) (Or.inl ⟨by rfl, ?_⟩) (by assumption) ?_
      rotate_left
      · (intro w hSw; go_simp; try (with_reducible rfl))
      try simp only [Act.put, List.getElem_toArray, List.getElem_cons_zero, List.getElem_cons_succ, List.setIfInBounds_toArray, List.set_cons_zero, List.set_cons_succ]
      refine wpAnyH_take (i := 9) (v := ?_) rfl (by kernel_rfl) (by kernel_rfl) (by kernel_rfl) (fun _ _ _ h => h) (Or.inl ⟨by rfl, ?_⟩) (by assumption) ?_
      rotate_left
      · (intro w hSw; go_simp; try (with_reducible rfl))
      try simp only [Act.put, List.getElem_toArray, List.getElem_cons_zero, List.getElem_cons_succ, List.setIfInBounds_toArray, List.set_cons_zero, List.set_cons_succ]
      refine wpAnyH_done (by kernel_rfl) ?_ _
      refine NoPanic.normal ?_
      have HR3 := Lib.hid (HR2.out.below hHeld.bel)
      have HB3 := Lib.hid (chain HB2.out hHeld.bel)
      go_wp2_with fail
      refine (addrOf4_any n _ HLE.out).mono ?_
      rintro e w5 ⟨rfl, hb5⟩
      have HR4 := Lib.hid (HR3.out.below hb5)
      have HB4 := Lib.hid (chain HB3.out hb5)
      have HLN := Lib.hid (b4_len n)
      go_wp2_with (refine store_addr HR4 _ _ HLN rfl rfl rfl rfl (fun W HW HA => ?_))
      refine bodyPost_ret (v := addrV 4 (b4 n)) (results_addr Tryz.results18 rfl HA.out) rfl ⟨by rw [HE.out.1, HE.out.2], by rw [HW.out]; exact below_cells (by omega) _ _ _ HB4.out⟩
    | false =>
      rw [hm] at q1
      have q2 : ∀ W, (binOp .neq 22 (arr16 bs) (arr16 (mapL n))).run Tryz.prog W = .ok (.bool true) W := q1
      have HE : Hid (unmapF 6 bs = 6 ∧ unmapB 6 bs = bs) := Lib.hid ⟨by unfold unmapF isMap; rw [hm]; rfl, by unfold unmapB isMap; rw [hm]; rfl⟩
      clear q1 hm
      refine wp_region_held_drew (S := HeldR L w1) (by kernel_rfl) HK.out.drew (fun hHeld => ?_)
      refine wpAnyH_take (i := 0) (v := ?_) rfl (by kernel_rfl) (by kernel_rfl) (by kernel_rfl) (fun _ _ _ h => h) (Or.inl ⟨by rfl, ?_⟩) (by assumption) ?_
      rotate_left
      · (intro w hSw; go_simp; try (with_reducible rfl))
      try simp only [Act.put, List.getElem_toArray, List.getElem_cons_zero, List.setIfInBounds_toArray, List.set_cons_zero, List.set_cons_succ]
      refine wpAnyH_take (i := 1) (v := ?_) rfl (by kernel_rfl) (by kernel_rfl) (by kernel_rfl) (fun _ _ _ h => h) (Or.inl ⟨by rfl, ?_⟩) (by assumption) ?_
      rotate_left
      · (intro w hSw; have hc0 := M0.out w hSw; go_simp; try (with_reducible rfl))
      try simp only [Act.put, List.getElem_toArray, List.getElem_cons_zero, List.getElem_cons_succ, List.setIfInBounds_toArray, List.set_cons_zero, List.set_cons_succ]
      refine wpAnyH_take (i := 2) (v := ?_) rfl (by kernel_rfl) (by kernel_rfl) (by kernel_rfl) (fun _ _ _ h => h) (Or.inl ⟨by rfl, ?_⟩) (by assumption) ?_
      rotate_left
      · (intro w hSw; go_simp; try (with_reducible rfl))
      try simp only [Act.put, List.getElem_toArray, List.getElem_cons_zero, List.getElem_cons_succ, List.setIfInBounds_toArray, List.set_cons_zero, List.set_cons_succ]
      refine wpAnyH_take (i := 3) (v := ?_) rfl (by kernel_rfl) (by kernel_rfl) (by kernel_rfl) (fun _ _ _ h => h) (Or.inl ⟨by rfl, ?_⟩) (by assumption) ?_
      rotate_left
      · (intro w hSw; go_simp; try (with_reducible rfl))
      try simp only [Act.put, List.getElem_toArray, List.getElem_cons_zero, List.getElem_cons_succ, List.setIfInBounds_toArray, List.set_cons_zero, List.set_cons_succ]
      refine wpAnyH_take (i := 4) (v := ?_) rfl (by kernel_rfl) (by kernel_rfl) (by kernel_rfl) (fun _ _ _ h => h) (Or.inl ⟨by rfl, ?_⟩) (by assumption) ?_
      rotate_left
      · (intro w hSw; go_simp; try (with_reducible rfl))
      try simp only [Act.put, List.getElem_toArray, List.getElem_cons_zero, List.getElem_cons_succ, List.setIfInBounds_toArray, List.set_cons_zero, List.set_cons_succ]
      refine wpAnyH_take (i := 5) rfl (by kernel_rfl) (by kernel_rfl) (by kernel_rfl) (fun _ _ _ h => h) (yields_b16 M1 (by rfl) _ rfl rfl) (by assumption) ?_
      try simp only [Act.put, List.getElem_toArray, List.getElem_cons_zero, List.getElem_cons_succ, List.setIfInBounds_toArray, List.set_cons_zero, List.set_cons_succ]
      refine wpAnyH_take (i := 6) (v := ?_) rfl (by kernel_rfl) (by kernel_rfl) (by kernel_rfl) (fun _ _ _ h => h) (Or.inl ⟨by rfl, ?_⟩) (by assumption) ?_
      rotate_left
      · (intro w hSw; go_simp; try (with_reducible rfl))
      try simp only [Act.put, List.getElem_toArray, List.getElem_cons_zero, List.getElem_cons_succ, List.setIfInBounds_toArray, List.set_cons_zero, List.set_cons_succ]
      refine wpAnyH_ready (rs := [7]) (by kernel_rfl) (by simp) ?_
      refine AllReadyH.cons rfl (fun K hK => ?_) AllReadyH.nil
      go_simp
      refine (Calls.heldR (HC _ (by assumption)).out (by assumption)).mono ?_
      rintro e wr7 ⟨rfl, hS7⟩
      go_wp2_with fail
      refine hK.out _ _ hS7 (fun hHeld => ?_)
      clear hK K
      try simp only [Act.put, List.getElem_toArray, List.getElem_cons_zero, List.getElem_cons_succ, List.setIfInBounds_toArray, List.set_cons_zero, List.set_cons_succ]
      refine wpAnyH_take (i := 8) (v := ?_) rfl (by kernel_rfl) (by kernel_rfl) (by kernel_rfl) (fun _ _ _ h => h) (Or.inl ⟨by rfl, ?_⟩) (by assumption) ?_
      rotate_left
      · (intro w hSw; go_simp; try (with_reducible rfl))
      try simp only [Act.put, List.getElem_toArray, List.getElem_cons_zero, List.getElem_cons_succ, List.setIfInBounds_toArray, List.set_cons_zero, List.set_cons_succ]
      refine wpAnyH_take (i := 9) (v := ?_) rfl (by kernel_rfl) (by kernel_rfl) (by kernel_rfl) (fun _ _ _ h => h) (Or.inl ⟨by rfl, ?_⟩) (by assumption) ?_
      rotate_left
      · (intro w hSw; go_simp; try (with_reducible rfl))
      try simp only [Act.put, List.getElem_toArray, List.getElem_cons_zero, List.getElem_cons_succ, List.setIfInBounds_toArray, List.set_cons_zero, List.set_cons_succ]
      refine wpAnyH_done (by kernel_rfl) ?_ _
      refine NoPanic.normal ?_
      have HR3 := Lib.hid (HR2.out.below hHeld.bel)
      have HA3 := Lib.hid (HA2.out.below hHeld.bel)
      have HB3 := Lib.hid (chain HB2.out hHeld.bel)
      go_wp2_with (first | refine load_addr_g HA3 _ rfl rfl rfl ?_ | (refine store_addr HR3 _ _ H16 rfl rfl rfl rfl (fun W HW HA => ?_)))
      refine bodyPost_ret (v := addrV 6 bs) (results_addr Tryz.results18 rfl HA.out) rfl ⟨by rw [HE.out.1, HE.out.2], by rw [HW.out]; exact below_cells (by omega) _ _ _ HB3.out⟩
  · have n6 : (f != 6) = true := by simp [h6]
    have HE : Hid (unmapF f bs = f ∧ unmapB f bs = bs) := Lib.hid ⟨by unfold unmapF isMap; simp [h6], by unfold unmapB isMap; simp [h6]⟩
    refine wp_region_held_drew (S := HeldR L w1) (by kernel_rfl) HK.out.drew (fun hHeld => ?_)
    refine wpAnyH_take (i := 0) (v := ?_) rfl (by kernel_rfl) (by kernel_rfl) (by kernel_rfl) (fun _ _ _ h => h) (Or.inl ⟨by rfl, ?_⟩) (by assumption) ?_
    rotate_left
    · (intro w hSw; go_simp; try (with_reducible rfl))
    try simp only [Act.put, List.getElem_toArray, List.getElem_cons_zero, List.setIfInBounds_toArray, List.set_cons_zero, List.set_cons_succ]
    refine wpAnyH_take (i := 1) (v := ?_) rfl (by kernel_rfl) (by kernel_rfl) (by kernel_rfl) (fun _ _ _ h => h) (Or.inl ⟨by rfl, ?_⟩) (by assumption) ?_
    rotate_left
    · (intro w hSw; have hc0 := M0.out w hSw; go_simp; try (with_reducible rfl))
    try simp only [Act.put, List.getElem_toArray, List.getElem_cons_zero, List.getElem_cons_succ, List.setIfInBounds_toArray, List.set_cons_zero, List.set_cons_succ]
    refine wpAnyH_take (i := 2) (v := ?_) rfl (by kernel_rfl) (by kernel_rfl) (by kernel_rfl) (fun _ _ _ h => h) (Or.inl ⟨by rfl, ?_⟩) (by assumption) ?_
    rotate_left
    · (intro w hSw; go_simp; try (with_reducible rfl))
    try simp only [Act.put, List.getElem_toArray, List.getElem_cons_zero, List.getElem_cons_succ, List.setIfInBounds_toArray, List.set_cons_zero, List.set_cons_succ]
    refine wpAnyH_take (i := 3) (v := ?_) rfl (by kernel_rfl) (by kernel_rfl) (by kernel_rfl) (fun _ _ _ h => h) (Or.inl ⟨by rfl, ?_⟩) (by assumption) ?_
    rotate_left
    · (intro w hSw; go_simp; try (with_reducible rfl))
    try simp only [Act.put, List.getElem_toArray, List.getElem_cons_zero, List.getElem_cons_succ, List.setIfInBounds_toArray, List.set_cons_zero, List.set_cons_succ]
    refine wpAnyH_take (i := 4) (v := undef) rfl (by kernel_rfl) (by kernel_rfl) (by kernel_rfl) (fun _ _ _ h => h) (Or.inr ⟨by rfl, rfl⟩) (by assumption) ?_
    try simp only [Act.put, List.getElem_toArray, List.getElem_cons_zero, List.getElem_cons_succ, List.setIfInBounds_toArray, List.set_cons_zero, List.set_cons_succ]
    refine wpAnyH_take (i := 5) (v := undef) rfl (by kernel_rfl) (by kernel_rfl) (by kernel_rfl) (fun _ _ _ h => h) (Or.inr ⟨by rfl, rfl⟩) (by assumption) ?_
    try simp only [Act.put, List.getElem_toArray, List.getElem_cons_zero, List.getElem_cons_succ, List.setIfInBounds_toArray, List.set_cons_zero, List.set_cons_succ]
    refine wpAnyH_take (i := 6) (v := undef) rfl (by kernel_rfl) (by kernel_rfl) (by kernel_rfl) (fun _ _ _ h => h) (Or.inr ⟨by rfl, rfl⟩) (by assumption) ?_
    try simp only [Act.put, List.getElem_toArray, List.getElem_cons_zero, List.getElem_cons_succ, List.setIfInBounds_toArray, List.set_cons_zero, List.set_cons_succ]
    refine wpAnyH_take (i := 7) (v := undef) rfl (by kernel_rfl) (by kernel_rfl) (by kernel_rfl) (fun _ _ _ h => h) (Or.inr ⟨by rfl, rfl⟩) (by assumption) ?_
    try simp only [Act.put, List.getElem_toArray, List.getElem_cons_zero, List.getElem_cons_succ, List.setIfInBounds_toArray, List.set_cons_zero, List.set_cons_succ]
    refine wpAnyH_take (i := 8) (v := undef) rfl (by kernel_rfl) (by kernel_rfl) (by kernel_rfl) (fun _ _ _ h => h) (Or.inr ⟨by rfl, rfl⟩) (by assumption) ?_
    try simp only [Act.put, List.getElem_toArray, List.getElem_cons_zero, List.getElem_cons_succ, List.setIfInBounds_toArray, List.set_cons_zero, List.set_cons_succ]
    refine wpAnyH_take (i := 9) (v := ?_) rfl (by kernel_rfl) (by kernel_rfl) (by kernel_rfl) (fun _ _ _ h => h) (Or.inl ⟨by rfl, ?_⟩) (by assumption) ?_
    rotate_left
    · (intro w hSw; go_simp; try (with_reducible rfl))
    try simp only [Act.put, List.getElem_toArray, List.getElem_cons_zero, List.getElem_cons_succ, List.setIfInBounds_toArray, List.set_cons_zero, List.set_cons_succ]
    refine wpAnyH_done (by kernel_rfl) ?_ _
    refine NoPanic.normal ?_
    have HR3 := Lib.hid (HR2.out.below hHeld.bel)
    have HA3 := Lib.hid (HA2.out.below hHeld.bel)
    have HB3 := Lib.hid (chain HB2.out hHeld.bel)
    go_wp2_with (first | refine load_addr_g HA3 _ rfl rfl rfl ?_ | (refine store_addr HR3 _ _ H16 rfl rfl rfl rfl (fun W HW HA => ?_)))
    refine bodyPost_ret (v := addrV f bs) (results_addr Tryz.results18 rfl HA.out) rfl ⟨by rw [HE.out.1, HE.out.2], by rw [HW.out]; exact below_cells (by omega) _ _ _ HB3.out⟩
end Go.Proofs.YtgbajagacmfcmaaGreatDoor
/- Contracts of the landed space: isSpace, Less, Add, New, Of. -/
namespace Go.Proofs.YtgbajagacmfcmaaGreatDoor
open Go.RowKit
set_option linter.unusedVariables false
set_option maxRecDepth 20000

/-- There is such a space. -/
def isSp (x : Int) : Bool := decide (0 ≤ x ∧ x < 3)
theorem isSpace_any (x : Int) (w : World) : Calls Tryz.prog 37 #[.int .i64 x] w fun e w' => e = .returned (.bool (isSp x)) ∧ w' = w := by
  by_cases h0 : 0 ≤ x
  · have hd : decide (0 ≤ x) = true := by simp; omega
    by_cases h3 : x < 3
    · have hd3 : decide (x < 3) = true := by simp; omega
      have e : isSp x = true := by unfold isSp; simp; omega
      rw [e]
      clear e
      go_enter Tryz.func37, Tryz.ntmps37
      go_wp2_with fail
      go_ret
      exact ⟨rfl, rfl⟩
    · have hd3 : decide (x < 3) = false := by simp; omega
      have e : isSp x = false := by unfold isSp; simp; omega
      rw [e]
      clear e
      go_enter Tryz.func37, Tryz.ntmps37
      go_wp2_with fail
      go_ret
      exact ⟨rfl, rfl⟩
  · have hd : decide (0 ≤ x) = false := by simp; omega
    have e : isSp x = false := by unfold isSp; simp; omega
    rw [e]
    clear e
    go_enter Tryz.func37, Tryz.ntmps37
    go_wp2_with fail
    go_ret
    exact ⟨rfl, rfl⟩
theorem addE_in (es : List Ent) (f : Int) (bs : List Nat) (n x : Int) (h : isSp x = true) : addE es f bs n x = setE es f bs n x ∧ addC f bs n x = if mayP f bs n = true then 0 else 1 := by
  unfold isSp at h
  have := of_decide_eq_true h
  exact ⟨by unfold addE; rw [if_neg (by omega)], by unfold addC; rw [if_neg (by omega)]⟩
theorem addE_out (es : List Ent) (f : Int) (bs : List Nat) (n x : Int) (h : isSp x = false) : addE es f bs n x = es ∧ addC f bs n x = 1 := by
  unfold isSp at h
  have := of_decide_eq_false h
  exact ⟨by unfold addE; rw [if_pos (by omega)], by unfold addC; rw [if_pos (by omega)]⟩
theorem addE_len (es : List Ent) (f : Int) (bs : List Nat) (n x : Int) : (addE es f bs n x).length ≤ es.length + 1 := by
  unfold addE
  split
  · omega
  · exact setE_len es f bs n x
set_option maxRecDepth 100000 in
set_option maxHeartbeats 1000000 in
theorem mapAdd_any (G : Nat) (es : List Ent) (st : Int) (F : List Nat) (f : Int) (bs : List Nat) (n x : Int) (w : World) (hA : TabAt w G es st F) (h16 : bs.length = 16) (hlt : ∀ y ∈ bs, y < 256) (hn : (Lit.int .i64 n).wf = true) (hx : (Lit.int .i64 x).wf = true) (hle : es.length ≤ 999) :
    Calls Tryz.prog 22 #[.pointer (some ⟨G, 0, none⟩), prefV f bs n, .int .i64 x] w fun e w' => e = .returned (.int .i64 (addC f bs n x)) ∧ ∃ F', TabAt w' G (addE es f bs n x) st F' ∧ Foot F F' w w' := by
  have HIS := fun W => Lib.hid (isSpace_any x W)
  have HIN := Lib.hid (addE_in es f bs n x)
  have HOU := Lib.hid (addE_out es f bs n x)
  have HST := fun W (h : TabAt W G es st F) => Lib.hid (tabSet_any G es st F f bs n x W h h16 hlt hn hx hle)
  obtain ⟨cs, ecs, HP, HB⟩ := pref_boxed f bs n w h16
  have HA := Lib.hid (hA.below HB.out)
  have HFL := Lib.hid hA.lt.2
  have H16 := Lib.hid h16
  rw [ecs]
  obtain ⟨R, hR⟩ : ∃ R, addE es f bs n x = R := ⟨_, rfl⟩
  obtain ⟨c, hc⟩ : ∃ c, addC f bs n x = c := ⟨_, rfl⟩
  rw [hR, hc] at HIN HOU ⊢
  obtain ⟨c0, hc0⟩ : ∃ c0 : Int, (if mayP f bs n = true then (0 : Int) else 1) = c0 := ⟨_, rfl⟩
  rw [hc0] at HST HIN
  clear hc0
  clear ecs h16 hlt hn hx hA hR hc
  generalize isSp x = t at *
  go_enter Tryz.func22, Tryz.ntmps22
  go_upto_region 1 with fail
  generalize (w.alloc (.cells cs 45)) = W at *
  cases t with
  | false =>
    have HE := Lib.hid (HOU.out rfl)
    clear HIN HOU HST
    go_wp2_with fail
    refine (HIS _).out.mono ?_
    rintro e w1 ⟨rfl, rfl⟩
    clear HIS
    go_wp2_with fail
    go_ret
    exact ⟨by rw [HE.out.2]; rfl, F, by rw [HE.out.1]; exact HA.out, Foot.ofBelow _ HB.out⟩
  | true =>
    have HE := Lib.hid (HIN.out rfl)
    clear HIN HOU
    go_wp2_with fail
    refine (HIS _).out.mono ?_
    rintro e w1 ⟨rfl, rfl⟩
    clear HIS
    go_wp2_with fail
    obtain ⟨L, hL⟩ : ∃ L, [(w.heap.size, 0, prefL f bs n)] = L := ⟨_, rfl⟩
    have HK : Hid (HeldL L w1.drew) := Lib.hid (by rw [← hL]; intro y hy; rw [List.mem_singleton.1 hy]; exact HP.out.range)
    have MP : Hid (InL L w.heap.size 0 (prefL f bs n)) := Lib.hid (fun W h => h.get (by rw [← hL]; simp))
    have HKN : Hid (∀ W' F', Foot F F' w1 W' → HeldL L W') := Lib.hid (fun W' F' hf => by
      rw [← hL]; intro y hy; rw [List.mem_singleton.1 hy]
      exact range_foot hf HP.out.range HP.out.addr.lt (fun e => by have := HFL.out _ e; omega))
    clear hL
    refine wp_region_noPanic ?_
    refine wp_region_held_drew (S := HeldL L) (by kernel_rfl) HK.out (fun hHeld => ?_)
    refine wpAnyH_take (i := 0) (v := ?_) rfl (by kernel_rfl) (by kernel_rfl) (by kernel_rfl) (fun _ _ _ h => h) (Or.inl ⟨by rfl, ?_⟩) (by assumption) ?_
    rotate_left
    · (intro w hSw; go_simp; try (with_reducible rfl))
    try simp only [Act.put, List.getElem_toArray, List.getElem_cons_zero, List.setIfInBounds_toArray, List.set_cons_zero, List.set_cons_succ]
    refine wpAnyH_take (i := 1) (v := ?_) rfl (by kernel_rfl) (by kernel_rfl) (by kernel_rfl) (fun _ _ _ h => h) (Or.inl ⟨by rfl, ?_⟩) (by assumption) ?_
    rotate_left
    · (intro w hSw; go_simp; try (with_reducible rfl))
    try simp only [Act.put, List.getElem_toArray, List.getElem_cons_zero, List.getElem_cons_succ, List.setIfInBounds_toArray, List.set_cons_zero, List.set_cons_succ]
    refine wpAnyH_take (i := 2) (v := ?_) rfl (by kernel_rfl) (by kernel_rfl) (by kernel_rfl) (fun _ _ _ h => h) (Or.inl ⟨by rfl, ?_⟩) (by assumption) ?_
    rotate_left
    · (intro w hSw; go_simp; try (with_reducible rfl))
    try simp only [Act.put, List.getElem_toArray, List.getElem_cons_zero, List.getElem_cons_succ, List.setIfInBounds_toArray, List.set_cons_zero, List.set_cons_succ]
    refine wpAnyH_take (i := 3) rfl (by kernel_rfl) (by kernel_rfl) (by kernel_rfl) (fun _ _ _ h => h) (yields_pref_l H16 MP (by rfl) _ rfl rfl) (by assumption) ?_
    try simp only [Act.put, List.getElem_toArray, List.getElem_cons_zero, List.getElem_cons_succ, List.setIfInBounds_toArray, List.set_cons_zero, List.set_cons_succ]
    refine wpAnyH_take (i := 4) (v := ?_) rfl (by kernel_rfl) (by kernel_rfl) (by kernel_rfl) (fun _ _ _ h => h) (Or.inl ⟨by rfl, ?_⟩) (by assumption) ?_
    rotate_left
    · (intro w hSw; go_simp; try (with_reducible rfl))
    try simp only [Act.put, List.getElem_toArray, List.getElem_cons_zero, List.getElem_cons_succ, List.setIfInBounds_toArray, List.set_cons_zero, List.set_cons_succ]
    refine wpAnyH_ready (rs := [5]) (by kernel_rfl) (by simp) ?_
    refine AllReadyH.cons rfl (fun K hK => ?_) AllReadyH.nil
    go_simp
    refine (HST w1.drew (HA.out.below (Below.refl _ _).drew)).out.mono ?_
    rintro e w2 ⟨rfl, F', hT2, hf2⟩
    have HT2 := Lib.hid hT2
    have HF2 : Hid (Foot F F' w1 w2) := Lib.hid ((Foot.ofBelow F (Below.refl _ _).drew).trans hf2)
    have hS2 := HKN.out w2 F' HF2.out
    clear hT2 hf2 HST
    go_wp2_with fail
    refine hK.out _ _ hS2 (fun hHeld2 => ?_)
    clear hK K
    try simp only [Act.put, List.getElem_toArray, List.getElem_cons_zero, List.getElem_cons_succ, List.setIfInBounds_toArray, List.set_cons_zero, List.set_cons_succ]
    refine wpAnyH_take (i := 6) (v := ?_) rfl (by kernel_rfl) (by kernel_rfl) (by kernel_rfl) (fun _ _ _ h => h) (Or.inl ⟨by rfl, ?_⟩) (by assumption) ?_
    rotate_left
    · (intro w hSw; go_simp; try (with_reducible rfl))
    try simp only [Act.put, List.getElem_toArray, List.getElem_cons_zero, List.getElem_cons_succ, List.setIfInBounds_toArray, List.set_cons_zero, List.set_cons_succ]
    refine wpAnyH_done (by kernel_rfl) ?_ _
    refine NoPanic.normal ?_
    go_wp2_with fail
    go_ret
    exact ⟨by rw [HE.out.2]; rfl, F', by rw [HE.out.1]; exact HT2.out, (Foot.ofBelow F HB.out).trans HF2.out⟩
/-- A fresh map of nothing. -/
theorem map_new (w : World) : TabAt (w.alloc (.cells #[.slice none 0 0, .int .i64 0] 37)) w.heap.size [] 0 [w.heap.size] := by
  have hh : (w.alloc (.cells #[.slice none 0 0, .int .i64 0] 37)).heap[w.heap.size]? = some (.cells #[.slice none 0 0, .int .i64 0] 37) := by show (w.heap.push _)[w.heap.size]? = _; simp
  refine ⟨.slice none 0 0, rfl, ⟨by simp, ?_, ?_, ?_, ?_⟩, RowT.nil _ _, sorted_nil, (fun g hg => by cases hg)⟩
  · rw [cell_of_row _ _ 0 _ _ _ hh]; rfl
  · rw [cell_of_row _ _ 1 _ _ _ hh]; rfl
  · unfold World.frozen?; rw [hh]; rfl
  · unfold World.frozen?; rw [hh]; rfl
/-- What there is when entries are added one behind the other. -/
def newA (rs : List Raw) (k : Nat) : List Ent := (rs.take k).foldl (fun es r => addE es r.f r.b r.n r.v) []
theorem newA_succ (rs : List Raw) (k : Nat) (hk : k < rs.length) : newA rs (k + 1) = addE (newA rs k) rs[k].f rs[k].b rs[k].n rs[k].v := foldl_take (fun (es : List Ent) (r : Raw) => addE es r.f r.b r.n r.v) [] rs k hk
theorem newA_len (rs : List Raw) : ∀ k, (newA rs k).length ≤ k
  | 0 => by simp [newA]
  | k + 1 => by
    by_cases hk : k < rs.length
    · rw [newA_succ rs k hk]
      have h1 := addE_len (newA rs k) rs[k].f rs[k].b rs[k].n rs[k].v
      have h2 := newA_len rs k
      omega
    · have : rs.take (k + 1) = rs.take k := by rw [List.take_of_length_le (by omega), List.take_of_length_le (by omega)]
      unfold newA
      rw [this]
      exact Nat.le_trans (newA_len rs k) (Nat.le_succ _)
/-- As range_raw, from anywhere in a block. -/
theorem range_raw_o {w : World} {g o : Nat} {rs : List Raw} (h : w.rangeAt g o (flatR rs)) (hg : AllOk rs) (k : Nat) (hk : k < rs.length) : w.rangeAt g (o + k * 19) (entL rs[k].f rs[k].b rs[k].n rs[k].v) := by
  intro j u hu
  have hl := Raw.L_len (rs[k]) (hg _ (List.getElem_mem hk))
  have hj : j < 19 := by
    apply Classical.byContradiction
    intro h2
    rw [List.getElem?_eq_none (by show (rs[k]).L.length ≤ j; omega)] at hu
    cases hu
  have := h (k * 19 + j) u (by rw [flatR_at rs hg k hk j hj]; exact hu)
  rw [← Nat.add_assoc] at this
  exact this
set_option maxRecDepth 100000 in
set_option maxHeartbeats 1000000 in
theorem mapNew_some (g o cap : Nat) (rs : List Raw) (w : World) (hr : w.rangeAt g o (flatR rs)) (hg : g < w.heap.size) (hok : AllOk rs) (hle : rs.length ≤ 900) :
    Calls Tryz.prog 13 #[.slice (some ⟨g, o, none⟩) rs.length cap] w fun e w' => ∃ G F, e = .returned (.pointer (some ⟨G, 0, none⟩)) ∧ TabAt w' G (newA rs rs.length) 0 F ∧ (∀ k ∈ F, w.heap.size ≤ k) ∧ Below w.heap.size w w' := by
  have HR := Lib.hid hr
  have HG := Lib.hid hg
  have HOK := Lib.hid hok
  have HT0 := Lib.hid (map_new w)
  have HB0 : Hid (Below w.heap.size w (w.alloc (.cells #[.slice none 0 0, .int .i64 0] 37))) := Lib.hid ((Below.refl _ _).alloc (Nat.le_refl _) _)
  obtain ⟨N, hN⟩ : ∃ N, rs.length = N := ⟨_, rfl⟩
  rw [hN] at hle ⊢
  have HN := Lib.hid hN
  clear hr hg hok hN
  go_enter Tryz.func13, Tryz.ntmps13
  go_upto_region 2 with fail
  generalize (w.alloc (.cells #[.slice none 0 0, .int .i64 0] 37)) = W at *
  go_wp2_with fail
  go_loopw [10] (fun i wr => ∃ (k : Nat) (F : List Nat), k ≤ N ∧ i = .int .i64 (k : Int) ∧ Hid (TabAt wr w.heap.size (newA rs k) 0 F) ∧ Hid (∀ j ∈ F, w.heap.size ≤ j) ∧ Hid (Below w.heap.size w wr)) (fun i _ => N - (intOf i).toNat)
  case atStart => exact ⟨0, [w.heap.size], Nat.zero_le _, rfl, HT0, Lib.hid (by simp), HB0⟩
  case round =>
    obtain ⟨k, F, hk, rfl, HT, HF, HB⟩ := hrel
    clear HT0 HB0
    by_cases hkN : k < N
    · have hd : decide ((k : Int) < (N : Int)) = true := by simp; omega
      have hkr : k < rs.length := by rw [HN.out]; exact hkN
      obtain ⟨r, hrk⟩ : ∃ r, rs[k] = r := ⟨_, rfl⟩
      have HRK : Hid (wr.rangeAt g (o + k * 19) (entL r.f r.b r.n r.v)) := Lib.hid (by have := range_raw_o (range_belowB HR.out HB.out HG.out) HOK.out k hkr; rw [hrk] at this; exact this)
      have HOR : Hid r.Ok := Lib.hid (by rw [← hrk]; exact HOK.out _ (List.getElem_mem hkr))
      have HSU : Hid (newA rs (k + 1) = addE (newA rs k) r.f r.b r.n r.v) := Lib.hid (by rw [newA_succ rs k hkr, hrk])
      have H16 := Lib.hid HOR.out.1
      have HZ := Lib.hid (entT_zeroed wr)
      have hb1 : (0 : Int) ≤ (k : Int) := by omega
      have hb2 : (k : Int) < (N : Int) := by omega
      clear hrk hkr
      go_upto_region 5 with (first | refine load_entT_o H16 HRK _ rfl rfl rfl ?_ | refine store_entT HZ _ _ H16 rfl rfl rfl rfl (fun W1 HW1 HE1 => ?_))
      have HB1 := Lib.hid (below_newT HW1)
      have HT1 := Lib.hid (HT.out.below HB1.out)
      have HBB := Lib.hid (chain HB.out HB1.out)
      have HEP := Lib.hid HE1.out.pref
      have hval := HE1.out.val
      clear HRK HZ HT HW1
      go_wp2_with (refine load_pref_o H16 HEP _ rfl rfl rfl ?_)
      refine (mapAdd_any w.heap.size (newA rs k) 0 F r.f r.b r.n r.v W1 HT1.out HOR.out.1 HOR.out.2.1 HOR.out.2.2.1 HOR.out.2.2.2 (Nat.le_trans (newA_len rs k) (by omega))).mono ?_
      rintro e w2 ⟨rfl, F2, hT2, hf2⟩
      have HT2 : Hid (TabAt w2 w.heap.size (newA rs (k + 1)) 0 F2) := Lib.hid (by rw [HSU.out]; exact hT2)
      have HF2 : Hid (∀ j ∈ F2, w.heap.size ≤ j) := Lib.hid (fun j hj => by
        rcases hf2.new j hj with e | e
        · exact HF.out j e
        · exact Nat.le_trans HBB.out.size e)
      have HB2 := Lib.hid (HBB.out.trans (hf2.below HF.out HBB.out.size))
      clear HT1 HEP hval HE1 HBB HF hT2 hf2 HB1 HB
      go_wp2_with fail
      go_roundw
      case rel => exact ⟨k + 1, F2, by omega, by go_num, HT2, HF2, HB2⟩
      case measure => simp [intOf]; omega
    · obtain rfl : k = N := by omega
      have hd : decide ((k : Int) < (k : Int)) = false := by simp
      go_wp2_with fail
      go_ret
      exact ⟨w.heap.size, F, rfl, HT.out, HF.out, HB.out⟩
theorem mapNew_nil (a : Option Addr) (cap : Nat) (w : World) : Calls Tryz.prog 13 #[.slice a 0 cap] w fun e w' => ∃ G F, e = .returned (.pointer (some ⟨G, 0, none⟩)) ∧ TabAt w' G [] 0 F ∧ (∀ k ∈ F, w.heap.size ≤ k) ∧ Below w.heap.size w w' := by
  have HT0 := Lib.hid (map_new w)
  have HB0 : Hid (Below w.heap.size w (w.alloc (.cells #[.slice none 0 0, .int .i64 0] 37))) := Lib.hid ((Below.refl _ _).alloc (Nat.le_refl _) _)
  go_enter Tryz.func13, Tryz.ntmps13
  go_upto_region 2 with fail
  generalize (w.alloc (.cells #[.slice none 0 0, .int .i64 0] 37)) = W at *
  go_wp2_with fail
  go_loop [10] (fun i => i = .int .i64 0) (fun _ => 0)
  case atStart => rfl
  case round =>
    obtain rfl := hrel
    go_wp2_with fail
    go_ret
    exact ⟨w.heap.size, rfl, [w.heap.size], HT0.out, (fun k hk => by rw [List.mem_singleton.1 hk]; exact Nat.le_refl _), HB0.out⟩
end Go.Proofs.YtgbajagacmfcmaaGreatDoor
/- What is printed of an address of 128 bits is read as it was: plain facts on texts. -/
namespace Go.Proofs.YtgbajagacmfcmaaGreatDoor
open Go.RowKit
set_option linter.unusedVariables false
set_option maxRecDepth 20000

/-- Digits read one by one, as Number reads them. -/
def numL (b : Nat) : Nat → List UInt8 → Option Nat
  | n, [] => some n
  | n, c :: l => if b ≤ digC c.toNat then none else if most < n * b + digC c.toNat then none else numL b (n * b + digC c.toNat) l
theorem numL_append (b : Nat) (m : List UInt8) : ∀ (l : List UInt8) (n : Nat), numL b n (l ++ m) = match numL b n l with
    | none => none
    | some x => numL b x m
  | [], n => rfl
  | c :: l, n => by
    rw [List.cons_append, numL, numL]
    split
    · rfl
    · split
      · rfl
      · exact numL_append b m l _
theorem numTo_list (s : ByteArray) (b : Nat) : ∀ k, k ≤ s.size → numTo s b k = numL b 0 (s.data.toList.take k)
  | 0, _ => rfl
  | k + 1, h => by
    have hk : k < s.data.toList.length := by simp; omega
    rw [List.take_add_one, List.getElem?_eq_getElem hk, numL_append, ← numTo_list s b k (by omega), numTo]
    cases numTo s b k with
    | none => rfl
    | some n =>
      have e : byteOf s k = (s.data.toList[k]).toNat := by rw [byteOf_eq s k (by omega)]; rfl
      simp only [e, Option.toList, numL]
theorem numB_ofL (l : List UInt8) (b : Nat) (h : l ≠ []) : numB (ofL l) b = numL b 0 l := by
  unfold numB
  rw [ofL_size, if_neg (by intro h2; exact h (List.eq_nil_of_length_eq_zero h2)), numTo_list _ _ _ (by rw [ofL_size]; exact Nat.le_refl _), ofL_data, List.take_of_length_le (Nat.le_refl _)]
theorem groupL_num (n : Nat) (h : n ≤ most) : numL 16 0 (groupL n) = some n := by
  induction n using Nat.strongRecOn with
  | _ n ih =>
    by_cases h1 : n < 16
    · rw [groupL_one h1, numL, digC_hexc n h1, if_neg (by omega), if_neg (by omega), numL]
      simp
    · rw [groupL_more h1, numL_append, ih (n / 16) (by omega) (by omega)]
      simp only [numL]
      rw [digC_hexc _ (by omega), if_neg (by omega), if_neg (by omega)]
      congr 1
      omega
theorem groupL_ne (n : Nat) (h : n < 65536) : groupL n ≠ [] := by
  intro e
  have := (groupL_length n h).1
  rw [e] at this
  simp at this
theorem hexG_group (n : Nat) (h : n < 65536) : hexG (gS n) = some n := by
  unfold hexG gS
  rw [if_neg (by rw [ofL_size]; have := (groupL_length n h).2; omega), numB_ofL _ _ (groupL_ne n h), groupL_num n (by unfold most; omega)]
theorem groupL_mem (n : Nat) : ∀ c ∈ groupL n, c.toNat ≠ 58 := by
  have one : ∀ d, d < 16 → (hexc d).toNat ≠ 58 := by
    intro d hd
    rw [hexc_nat d hd]
    split <;> omega
  induction n using Nat.strongRecOn with
  | _ n ih =>
    by_cases h1 : n < 16
    · rw [groupL_one h1]
      intro c hc
      rw [List.mem_singleton] at hc
      rw [hc]
      exact one n h1
    · rw [groupL_more h1]
      intro c hc
      rcases List.mem_append.1 hc with h | h
      · exact ih (n / 16) (by omega) c h
      · rw [List.mem_singleton] at h
        rw [h]
        exact one _ (by omega)

/-- Groups with colons between, byte by byte. -/
def rowL : List Nat → List UInt8
  | [] => []
  | [x] => groupL x
  | x :: y :: r => groupL x ++ 58 :: rowL (y :: r)
theorem rowL_snoc (x : Nat) : ∀ l : List Nat, rowL (l ++ [x]) = (if 0 < l.length then rowL l ++ [58] else rowL l) ++ groupL x
  | [] => by simp [rowL]
  | [y] => by simp [rowL]
  | y :: z :: r => by
    have ih := rowL_snoc x (z :: r)
    rw [if_pos (by simp)] at ih
    rw [if_pos (by simp)]
    show rowL (y :: z :: (r ++ [x])) = _
    rw [rowL, rowL]
    have e : z :: (r ++ [x]) = (z :: r) ++ [x] := rfl
    rw [e, ih]
    simp
theorem rowS_list (l : List Nat) : (rowS l).data.toList = rowL l := by
  have key : ∀ n (l : List Nat), l.length = n → (joinB (l.map gS) { data := #[58] }).data.toList = rowL l := by
    intro n
    induction n with
    | zero =>
      intro l h
      have := List.eq_nil_of_length_eq_zero h
      subst this
      rfl
    | succ n ih =>
      intro l h
      obtain ⟨l', x, rfl⟩ : ∃ l' x, l = l' ++ [x] := ⟨l.dropLast, l.getLast (by intro e; rw [e] at h; simp at h), (List.dropLast_concat_getLast _).symm⟩
      have hl' : l'.length = n := by simp at h; exact h
      rw [List.map_append, List.map_cons, List.map_nil, joinB_snoc, rowL_snoc, data_append, List.length_map]
      have ih' := ih l' hl'
      by_cases h0 : 0 < l'.length
      · rw [if_pos h0, if_pos h0, data_append, ih']
        rfl
      · rw [if_neg h0, if_neg h0, ih']
        rfl
  have := key l.length l rfl
  unfold joinB at this
  rw [List.length_map] at this
  exact this
theorem rowS_ofL (l : List Nat) : rowS l = ofL (rowL l) := eq_ofL (rowS_list l)
theorem rowL_cut : ∀ l : List Nat, l ≠ [] → cutL 58 (rowL l) = l.map groupL
  | [], h => absurd rfl h
  | [x], _ => by rw [rowL, cutL_none 58 _ (groupL_mem x)]; rfl
  | x :: y :: r, _ => by
    rw [rowL, cutL_first 58 58 rfl _ _ (groupL_mem x), rowL_cut (y :: r) (by simp)]
    rfl
theorem rowL_ne (l : List Nat) (h : l ≠ []) (hlt : ∀ x ∈ l, x < 65536) : rowL l ≠ [] := by
  match l, h with
  | [x], _ => rw [rowL]; exact groupL_ne x (hlt x (by simp))
  | x :: y :: r, _ => rw [rowL]; simp
theorem grTo_row (l : List Nat) (dot : Bool) (hlt : ∀ x ∈ l, x < 65536) : ∀ k, k ≤ l.length → grTo (l.map gS) dot k = some (l.take k)
  | 0, _ => rfl
  | k + 1, h => by
    have hx : (l.map gS).getD k ⟨#[]⟩ = gS (l.getD k 0) := by
      rw [List.getD_eq_getElem?_getD, List.getD_eq_getElem?_getD, List.getElem?_map, List.getElem?_eq_getElem (by omega)]
      rfl
    have hl : l.getD k 0 < 65536 := by
      rw [List.getD_eq_getElem?_getD, List.getElem?_eq_getElem (by omega)]
      exact hlt _ (List.getElem_mem _)
    rw [grTo_hex (grTo_row l dot hlt k (by omega)) (by rw [hx]; exact hexG_group _ hl)]
    congr 1
    rw [List.take_add_one, List.getD_eq_getElem?_getD, List.getElem?_eq_getElem (by omega)]
    rfl
theorem groupsB_row (l : List Nat) (dot : Bool) (hlt : ∀ x ∈ l, x < 65536) : groupsB (ofL (rowL l)) dot = some l := by
  unfold groupsB
  by_cases h : l = []
  · subst h
    rw [if_pos (by rw [ofL_size]; rfl)]
  · have h2 : ¬ (ofL (rowL l)).size = 0 := by
      rw [ofL_size]
      intro e
      exact rowL_ne l h hlt (List.eq_nil_of_length_eq_zero e)
    have e : pieces (ofL (rowL l)) 58 = l.map gS := by
      rw [pieces_ofL, rowL_cut l h, List.map_map]
      rfl
    rw [if_neg h2, e, List.length_map, grTo_row l dot hlt _ (Nat.le_refl _), List.take_of_length_le (Nat.le_refl _)]

/-- No two colons stand side by side. -/
def noGap : List UInt8 → Prop
  | x :: y :: r => ¬ (x.toNat = 58 ∧ y.toNat = 58) ∧ noGap (y :: r)
  | _ => True
theorem noGap_at : ∀ (l : List UInt8) (j : Nat), noGap l → ¬ ((l.getD j 0).toNat = 58 ∧ (l.getD (j + 1) 0).toNat = 58)
  | [], j, _ => by simp
  | [x], 0, _ => by simp
  | [x], j + 1, _ => by simp
  | x :: y :: r, 0, h => by simpa using h.1
  | x :: y :: r, j + 1, h => by
    have := noGap_at (y :: r) j h.2
    simpa using this
theorem noGap_plain : ∀ l : List UInt8, (∀ c ∈ l, c.toNat ≠ 58) → noGap l
  | [], _ => trivial
  | [x], _ => trivial
  | x :: y :: r, h => ⟨fun h2 => h x (by simp) h2.1, noGap_plain (y :: r) (fun c hc => h c (by simp [hc]))⟩
/-- One text without colons, a colon, another text that begins with none. -/
theorem noGap_join : ∀ (a b : List UInt8), (∀ c ∈ a, c.toNat ≠ 58) → noGap b → (∃ c r, b = c :: r ∧ c.toNat ≠ 58) → a ≠ [] → noGap (a ++ 58 :: b)
  | [], b, _, _, _, h => absurd rfl h
  | [x], b, ha, hb, ⟨c, r, e, hc⟩, _ => by
    subst e
    exact ⟨fun h => ha x (by simp) h.1, fun h => hc h.2, hb⟩
  | x :: y :: r, b, ha, hb, he, _ => ⟨fun h => ha x (by simp) h.1, noGap_join (y :: r) b (fun c hc => ha c (by simp [hc])) hb he (by simp)⟩
theorem rowL_head : ∀ (l : List Nat), l ≠ [] → (∀ x ∈ l, x < 65536) → ∃ c r, rowL l = c :: r ∧ c.toNat ≠ 58
  | [], h, _ => absurd rfl h
  | [x], _, hlt => by
    rw [rowL]
    cases hg : groupL x with
    | nil => exact absurd hg (groupL_ne x (hlt x (by simp)))
    | cons c r => exact ⟨c, r, rfl, groupL_mem x c (by rw [hg]; simp)⟩
  | x :: y :: r, _, hlt => by
    rw [rowL]
    cases hg : groupL x with
    | nil => exact absurd hg (groupL_ne x (hlt x (by simp)))
    | cons c t => exact ⟨c, t ++ 58 :: rowL (y :: r), rfl, groupL_mem x c (by rw [hg]; simp)⟩
theorem rowL_gap : ∀ (l : List Nat), (∀ x ∈ l, x < 65536) → noGap (rowL l)
  | [], _ => trivial
  | [x], _ => by rw [rowL]; exact noGap_plain _ (groupL_mem x)
  | x :: y :: r, hlt => by
    rw [rowL]
    exact noGap_join _ _ (groupL_mem x) (rowL_gap (y :: r) (fun z hz => hlt z (by simp [hz]))) (rowL_head (y :: r) (by simp) (fun z hz => hlt z (by simp [hz]))) (groupL_ne x (hlt x (by simp)))
theorem rowL_last : ∀ (l : List Nat), (∀ x ∈ l, x < 65536) → l ≠ [] → ((rowL l).getD ((rowL l).length - 1) 0).toNat ≠ 58
  | [], _, h => absurd rfl h
  | [x], hlt, _ => by
    rw [rowL]
    have h0 := (groupL_length x (hlt x (by simp))).1
    rw [List.getD_eq_getElem?_getD, List.getElem?_eq_getElem (by omega)]
    exact groupL_mem x _ (List.getElem_mem _)
  | x :: y :: r, hlt, _ => by
    have ih := rowL_last (y :: r) (fun z hz => hlt z (by simp [hz])) (by simp)
    have hn : 0 < (rowL (y :: r)).length := List.length_pos_iff.2 (rowL_ne (y :: r) (by simp) (fun z hz => hlt z (by simp [hz])))
    rw [rowL]
    have e : (groupL x ++ 58 :: rowL (y :: r)).getD ((groupL x ++ 58 :: rowL (y :: r)).length - 1) 0 = (rowL (y :: r)).getD ((rowL (y :: r)).length - 1) 0 := by
      rw [List.getD_eq_getElem?_getD, List.getD_eq_getElem?_getD, List.length_append, List.length_cons, List.getElem?_append_right (by omega), show (groupL x).length + ((rowL (y :: r)).length + 1) - 1 - (groupL x).length = ((rowL (y :: r)).length - 1) + 1 by omega, List.getElem?_cons_succ]
    rw [e]
    exact ih

theorem gapTo_none_of (s : ByteArray) : ∀ k, (∀ j, j < k → ¬ (byteOf s j = 58 ∧ byteOf s (j + 1) = 58)) → gapTo s k = none
  | 0, _ => rfl
  | k + 1, h => by rw [gapTo, gapTo_none_of s k (fun j hj => h j (by omega))]; simp only [if_neg (h k (by omega))]
theorem gapB_none_of (l : List UInt8) (h : noGap l) : gapB (ofL l) = none :=
  gapTo_none_of _ _ (fun j _ => by rw [byteOf_ofL, byteOf_ofL]; exact noGap_at l j h)
theorem gapB_some_of (a b : List UInt8) (ha : noGap a) (hl : a = [] ∨ (a.getD (a.length - 1) 0).toNat ≠ 58) : gapB (ofL (a ++ 58 :: 58 :: b)) = some a.length := by
  unfold gapB
  apply gapTo_found (k := a.length + 1) (by rw [ofL_size]; simp)
  rw [gapTo, gapTo_none_of]
  · have e1 : byteOf (ofL (a ++ 58 :: 58 :: b)) a.length = 58 := by
      rw [byteOf_ofL, List.getD_eq_getElem?_getD, List.getElem?_append_right (Nat.le_refl _)]; simp
    have e2 : byteOf (ofL (a ++ 58 :: 58 :: b)) (a.length + 1) = 58 := by
      rw [byteOf_ofL, List.getD_eq_getElem?_getD, List.getElem?_append_right (by omega)]; simp
    simp only [e1, e2, and_self, if_true]
  · intro j hj
    rw [byteOf_ofL, byteOf_ofL]
    by_cases hj2 : j + 1 < a.length
    · have := noGap_at a j ha
      rw [List.getD_eq_getElem?_getD, List.getD_eq_getElem?_getD] at this ⊢
      rw [List.getElem?_append_left (by omega), List.getElem?_append_left hj2]
      exact this
    · have hj3 : j = a.length - 1 := by omega
      intro h
      rcases hl with hl | hl
      · subst hl; simp at hj
      · apply hl
        rw [← hj3]
        have := h.1
        rw [List.getD_eq_getElem?_getD, List.getElem?_append_left hj] at this
        rw [List.getD_eq_getElem?_getD]
        exact this

/-- What stands ahead of two colons and behind them, read. -/
theorem parse_merge (a b : List UInt8) (ha : noGap a) (hl : a = [] ∨ (a.getD (a.length - 1) 0).toNat ≠ 58) : parseB (ofL (a ++ 58 :: 58 :: b)) = mergeB (groupsB (ofL a) false) (groupsB (ofL b) true) := by
  unfold parseB
  rw [gapB_some_of a b ha hl]
  have e1 : (ofL (a ++ 58 :: 58 :: b)).extract 0 a.length = ofL a := eq_ofL (by rw [data_extract, ofL_data]; simp)
  have e2 : (ofL (a ++ 58 :: 58 :: b)).extract (a.length + 2) (ofL (a ++ 58 :: 58 :: b)).size = ofL b := eq_ofL (by
    rw [data_extract, ofL_data, ofL_size, show a ++ 58 :: 58 :: b = (a ++ [58, 58]) ++ b by simp, List.drop_append_of_le_length (by simp), List.drop_of_length_le (by simp)]
    simp
    exact List.take_of_length_le (by omega))
  simp only []
  rw [e1, e2]
theorem parse_plain (l : List UInt8) (h : noGap l) : parseB (ofL l) = match groupsB (ofL l) true with
    | none => none
    | some g => if g.length = 8 then some g else none := by
  unfold parseB
  rw [gapB_none_of l h]
  cases groupsB (ofL l) true <;> rfl

theorem zrun_zeros (gs : List Nat) : ∀ m i, zrun gs i = m → i + m ≤ 8 → ∀ j, i ≤ j → j < i + m → gs.getD j 0 = 0
  | 0, i, _, _, j, h1, h2 => by omega
  | m + 1, i, h, h8, j, h1, h2 => by
    by_cases h0 : gs.getD i 0 = 0
    · have e := zrun_zero (gs := gs) (i := i) (by omega) h0
      by_cases hj : j = i
      · rw [hj]; exact h0
      · exact zrun_zeros gs m (i + 1) (by omega) (by omega) j (by omega) (by omega)
    · have e := zrun_stop (gs := gs) (i := i) (.inr h0)
      omega
theorem runTo_zrun (gs : List Nat) : ∀ k, (runTo gs k).2 = 0 ∨ (2 ≤ (runTo gs k).2 ∧ (runTo gs k).2 = zrun gs (runTo gs k).1)
  | 0 => .inl rfl
  | k + 1 => by
    rw [runTo]
    split
    · rename_i h
      exact .inr ⟨h.1, rfl⟩
    · exact runTo_zrun gs k
/-- The groups ahead of a row of zeros, the zeros, the groups behind. -/
theorem run_split (gs : List Nat) (A K : Nat) (h8 : gs.length = 8) (hAK : A ≤ K) (hK : K ≤ 8) (hz : ∀ j, A ≤ j → j < K → gs.getD j 0 = 0) : gs.take A ++ List.replicate (K - A) 0 ++ gs.drop K = gs := by
  have e : List.replicate (K - A) 0 = (gs.drop A).take (K - A) := by
    apply List.ext_getElem
    · simp; omega
    · intro j h1 h2
      have hj : j < K - A := by simpa using h1
      have := hz (A + j) (by omega) (by omega)
      rw [List.getD_eq_getElem?_getD, List.getElem?_eq_getElem (by omega)] at this
      simp
      exact this.symm
  rw [e]
  have e2 : gs.drop K = (gs.drop A).drop (K - A) := by rw [List.drop_drop]; congr 1; omega
  rw [e2, List.append_assoc, List.take_append_drop, List.take_append_drop]

theorem parseB_len (s : ByteArray) (l : List Nat) (h : parseB s = some l) : l.length = 8 ∧ ∀ x ∈ l, x < 65536 := by
  unfold parseB at h
  cases hg : gapB s with
  | none =>
    rw [hg] at h
    simp only at h
    cases hq : groupsB s true with
    | none => rw [hq] at h; cases h
    | some g =>
      rw [hq] at h
      simp only at h
      split at h
      · have e := Option.some.inj h
        subst e
        exact ⟨by assumption, groupsB_lt _ _ _ hq⟩
      · cases h
  | some k =>
    rw [hg] at h
    simp only at h
    cases ha : groupsB (s.extract 0 k) false with
    | none => rw [ha] at h; cases h
    | some a =>
      cases hb : groupsB (s.extract (k + 2) s.size) true with
      | none => rw [ha, hb] at h; cases h
      | some b =>
        rw [ha, hb] at h
        change (if 7 < a.length + b.length then none else some (a ++ List.replicate (8 - a.length - b.length) 0 ++ b)) = some l at h
        split at h
        · cases h
        · have e := Option.some.inj h
          subst e
          refine ⟨by simp; omega, fun x hx => ?_⟩
          rcases List.mem_append.1 hx with hx | hx
          · rcases List.mem_append.1 hx with hx | hx
            · exact groupsB_lt _ _ _ ha x hx
            · have := List.eq_of_mem_replicate hx
              omega
          · exact groupsB_lt _ _ _ hb x hx
/-- What Parse answers, written out. -/
theorem parse_form (s : ByteArray) : ∃ (x0 x1 x2 x3 x4 x5 x6 x7 : Nat) (b : Bool), parseRet (parseB s) = .tuple #[.agg #[.int .u16 (x0 : Int), .int .u16 (x1 : Int), .int .u16 (x2 : Int), .int .u16 (x3 : Int), .int .u16 (x4 : Int), .int .u16 (x5 : Int), .int .u16 (x6 : Int), .int .u16 (x7 : Int)], .bool b] := by
  cases h : parseB s with
  | none => exact ⟨0, 0, 0, 0, 0, 0, 0, 0, false, rfl⟩
  | some l =>
    obtain ⟨x0, x1, x2, x3, x4, x5, x6, x7, rfl⟩ := list8 l (parseB_len s l h).1
    exact ⟨x0, x1, x2, x3, x4, x5, x6, x7, true, rfl⟩
theorem printB_small (gs : List Nat) (h8 : gs.length = 8) (hlt : ∀ x ∈ gs, x < 65536) : (printB gs).size ≤ 1000 := by
  unfold printB
  split
  · obtain ⟨x0, x1, x2, x3, x4, x5, x6, x7, rfl⟩ := list8 gs h8
    have l6 : x6 < 65536 := hlt x6 (by simp)
    have l7 : x7 < 65536 := hlt x7 (by simp)
    have := text4_size (x6 / 256) (x6 % 256) (x7 / 256) (x7 % 256) (by omega) (by omega) (by omega) (by omega)
    rw [ByteArray.size_append, ofL_size]
    show 7 + (text4 (x6 / 256) (x6 % 256) (x7 / 256) (x7 % 256)).size ≤ 1000
    omega
  · split
    · have := rowS_small gs hlt
      omega
    · have h1 := rowS_small (gs.take (runB gs).1) (fun x hx => hlt x (List.mem_of_mem_take hx))
      have h2 := rowS_small (gs.drop ((runB gs).1 + (runB gs).2)) (fun x hx => hlt x (List.mem_of_mem_drop hx))
      have h3 : (gs.take (runB gs).1).length ≤ 8 := by simp; omega
      have h4 : (gs.drop ((runB gs).1 + (runB gs).2)).length ≤ 8 := by simp; omega
      rw [ByteArray.size_append, ByteArray.size_append, ofL_size]
      show _ + 2 + _ ≤ 1000
      omega
theorem hexG_dots (a b c d : Nat) (ha : a < 256) : hexG (text4 a b c d) = none := by
  unfold hexG
  split
  · rfl
  · have hl : (dec a).length < (dec a ++ 46 :: (dec b ++ 46 :: (dec c ++ 46 :: dec d))).length := by simp
    unfold text4
    apply num_bad0 _ 16 (dec a).length
    · rw [ofL_size]; exact hl
    · rw [byteOf_ofL, List.getD_eq_getElem?_getD, List.getElem?_append_right (Nat.le_refl _)]
      simp
      decide
theorem text4_mem (a b c d : Nat) : ∀ x ∈ dec a ++ 46 :: (dec b ++ 46 :: (dec c ++ 46 :: dec d)), x.toNat ≠ 58 := by
  intro x hx
  have hd : ∀ u, ∀ x ∈ dec u, x.toNat ≠ 58 := fun u x hx => by have := dec_mem u x hx; omega
  simp only [List.mem_append, List.mem_cons] at hx
  rcases hx with h | h | h | h | h | h | h
  · exact hd a x h
  · rw [h]; decide
  · exact hd b x h
  · rw [h]; decide
  · exact hd c x h
  · rw [h]; decide
  · exact hd d x h
theorem zer_at (gs : List Nat) : ∀ k, zer gs k = true → ∀ j, j < k → gs.getD j 0 = 0
  | 0, _, j, h => by omega
  | k + 1, h, j, hj => by
    rw [zer, Bool.and_eq_true, decide_eq_true_eq] at h
    by_cases e : j = k
    · rw [e]; exact h.2
    · exact zer_at gs k h.1 j (by omega)
/-- What is printed is read as it was. -/
theorem parse_print (gs : List Nat) (h8 : gs.length = 8) (hlt : ∀ x ∈ gs, x < 65536) : parseB (printB gs) = some gs := by
  unfold printB
  by_cases hm : mappedB gs = true
  · rw [if_pos hm]
    unfold mappedB at hm
    rw [Bool.and_eq_true, decide_eq_true_eq] at hm
    obtain ⟨x0, x1, x2, x3, x4, x5, x6, x7, rfl⟩ := list8 gs h8
    have z0 := zer_at _ 5 hm.1 0 (by decide)
    have z1 := zer_at _ 5 hm.1 1 (by decide)
    have z2 := zer_at _ 5 hm.1 2 (by decide)
    have z3 := zer_at _ 5 hm.1 3 (by decide)
    have z4 := zer_at _ 5 hm.1 4 (by decide)
    have z5 := hm.2
    simp at z0 z1 z2 z3 z4 z5
    subst z0 z1 z2 z3 z4 z5
    have l6 : x6 < 65536 := hlt x6 (by simp)
    have l7 : x7 < 65536 := hlt x7 (by simp)
    show parseB (ofL [58, 58, 102, 102, 102, 102, 58] ++ text4 (x6 / 256) (x6 % 256) (x7 / 256) (x7 % 256)) = _
    have e : ofL [58, 58, 102, 102, 102, 102, 58] ++ text4 (x6 / 256) (x6 % 256) (x7 / 256) (x7 % 256) = ofL ([] ++ 58 :: 58 :: ([102, 102, 102, 102] ++ 58 :: (dec (x6 / 256) ++ 46 :: (dec (x6 % 256) ++ 46 :: (dec (x7 / 256) ++ 46 :: dec (x7 % 256)))))) := eq_ofL (by
      rw [data_append, ofL_data, text4_data]; rfl)
    rw [e, parse_merge [] _ trivial (.inl rfl)]
    have g1 : groupsB (ofL []) false = some [] := rfl
    have g2 : groupsB (ofL ([102, 102, 102, 102] ++ 58 :: (dec (x6 / 256) ++ 46 :: (dec (x6 % 256) ++ 46 :: (dec (x7 / 256) ++ 46 :: dec (x7 % 256)))))) true = some [65535, x6, x7] := by
      unfold groupsB
      have hp : pieces (ofL ([102, 102, 102, 102] ++ 58 :: (dec (x6 / 256) ++ 46 :: (dec (x6 % 256) ++ 46 :: (dec (x7 / 256) ++ 46 :: dec (x7 % 256)))))) 58 = [ofL [102, 102, 102, 102], text4 (x6 / 256) (x6 % 256) (x7 / 256) (x7 % 256)] := by
        rw [pieces_ofL, cutL_first 58 58 rfl _ _ (by decide), cutL_none 58 _ (text4_mem _ _ _ _)]
        rfl
      rw [if_neg (by rw [ofL_size]; simp), hp]
      have k1 : grTo [ofL [102, 102, 102, 102], text4 (x6 / 256) (x6 % 256) (x7 / 256) (x7 % 256)] true 1 = some [65535] := grTo_hex (k := 0) (out := []) rfl (by
        show hexG (ofL [102, 102, 102, 102]) = some 65535
        unfold hexG
        rw [numB_ofL _ _ (by simp)]
        decide)
      have k2 := grTo_strict (v := num4 (x6 / 256) (x6 % 256) (x7 / 256) (x7 % 256)) k1 (hexG_dots _ _ _ _ (by omega)) (text4_strict _ _ _ _ _ (by omega) (by omega) (by omega) (by omega) rfl)
      show grTo _ true (1 + 1) = _
      rw [k2, if_pos ⟨rfl, by simp⟩]
      have v1 : num4 (x6 / 256) (x6 % 256) (x7 / 256) (x7 % 256) / 65536 = x6 := by unfold num4; omega
      have v2 : num4 (x6 / 256) (x6 % 256) (x7 / 256) (x7 % 256) % 65536 = x7 := by unfold num4; omega
      rw [v1, v2]
      rfl
    rw [g1, g2]
    rfl
  · rw [if_neg hm]
    by_cases h0 : (runB gs).2 = 0
    · rw [if_pos h0, rowS_ofL, parse_plain _ (rowL_gap gs hlt), groupsB_row gs true hlt]
      simp only [if_pos h8]
    · rw [if_neg h0]
      have hr := runTo_zrun gs 8
      have hle := runTo_le gs 8 (Nat.le_refl _)
      change (runB gs).2 = 0 ∨ (2 ≤ (runB gs).2 ∧ (runB gs).2 = zrun gs (runB gs).1) at hr
      change (runB gs).1 + (runB gs).2 ≤ 8 at hle
      generalize (runB gs).1 = A at *
      generalize (runB gs).2 = M at *
      rcases hr with hr | ⟨h2, hz⟩
      · exact absurd hr h0
      · have lt1 : ∀ x ∈ gs.take A, x < 65536 := fun x hx => hlt x (List.mem_of_mem_take hx)
        have lt2 : ∀ x ∈ gs.drop (A + M), x < 65536 := fun x hx => hlt x (List.mem_of_mem_drop hx)
        have e : rowS (gs.take A) ++ ofL [58, 58] ++ rowS (gs.drop (A + M)) = ofL (rowL (gs.take A) ++ 58 :: 58 :: rowL (gs.drop (A + M))) := eq_ofL (by
          rw [data_append, data_append, rowS_list, rowS_list, ofL_data]; simp)
        have hl : rowL (gs.take A) = [] ∨ ((rowL (gs.take A)).getD ((rowL (gs.take A)).length - 1) 0).toNat ≠ 58 := by
          by_cases hA : gs.take A = []
          · rw [hA]; exact .inl rfl
          · exact .inr (rowL_last _ lt1 hA)
        rw [e, parse_merge _ _ (rowL_gap _ lt1) hl, groupsB_row _ _ lt1, groupsB_row _ _ lt2]
        have n1 : (gs.take A).length = A := by simp; omega
        have n2 : (gs.drop (A + M)).length = 8 - (A + M) := by simp; omega
        show (if 7 < (gs.take A).length + (gs.drop (A + M)).length then none else _) = _
        rw [n1, n2, if_neg (by omega), show 8 - A - (8 - (A + M)) = A + M - A by omega, run_split gs A (A + M) h8 (by omega) hle (zrun_zeros gs M A hz.symm hle)]
end Go.Proofs.YtgbajagacmfcmaaGreatDoor
/- Contracts of the reference's Parse, Print of layer 4. -/
namespace Go.Proofs.YtgbajagacmfcmaaGreatDoor
open Go.RowKit
set_option linter.unusedVariables false
set_option maxRecDepth 20000

/-- The address of a text. -/
def parseA (s : ByteArray) : Option (Int × List Nat) := match strictB s with
  | some n => some (4, b4 n)
  | none => (parseB s).map fun gs => (6, byL gs)
def addrRet : Option (Int × List Nat) → Value
  | some (f, bs) => .tuple #[addrV f bs, .bool true]
  | none => .tuple #[addrV 0 (List.replicate 16 0), .bool false]
set_option maxRecDepth 100000 in
set_option maxHeartbeats 1000000 in
theorem refParseA_any (s : ByteArray) (w : World) (hs : s.size ≤ 100000) :
    Calls Tryz.prog 24 #[.string s] w fun e w' => e = .returned (addrRet (parseA s)) ∧ Below w.heap.size w w' := by
  have H2 := fun W => Lib.hid (refStrict_any s W (by omega))
  have H3 := fun W => Lib.hid (refParse_any s W hs)
  have HR := Lib.hid (AddrAt.of w 24 #[.int .i64 0, .int .u8 0, .int .u8 0, .int .u8 0, .int .u8 0, .int .u8 0, .int .u8 0, .int .u8 0, .int .u8 0, .int .u8 0, .int .u8 0, .int .u8 0, .int .u8 0, .int .u8 0, .int .u8 0, .int .u8 0, .int .u8 0] 0 (List.replicate 16 0) rfl (zero_addr 0))
  have B0 : Hid (Below w.heap.size w (w.alloc (.cells #[.int .i64 0, .int .u8 0, .int .u8 0, .int .u8 0, .int .u8 0, .int .u8 0, .int .u8 0, .int .u8 0, .int .u8 0, .int .u8 0, .int .u8 0, .int .u8 0, .int .u8 0, .int .u8 0, .int .u8 0, .int .u8 0, .int .u8 0] 24))) := Lib.hid ((Below.refl _ _).alloc (Nat.le_refl _) _)
  go_enter Tryz.func24, Tryz.ntmps24
  go_wp2_with fail
  generalize (w.alloc (.cells #[.int .i64 0, .int .u8 0, .int .u8 0, .int .u8 0, .int .u8 0, .int .u8 0, .int .u8 0, .int .u8 0, .int .u8 0, .int .u8 0, .int .u8 0, .int .u8 0, .int .u8 0, .int .u8 0, .int .u8 0, .int .u8 0, .int .u8 0] 24)) = W at *
  refine (H2 W).out.mono ?_
  rintro e w1 ⟨rfl, hb1⟩
  have HR1 := Lib.hid (HR.out.below hb1)
  have B1 := Lib.hid (chain B0.out hb1)
  clear HR B0 hb1 H2
  cases hq : strictB s with
  | some n =>
    have hn := strictB_lt s n hq
    have HO := Lib.hid (refOf4_any n w1 (by omega))
    have HE : Hid (parseA s = some (4, b4 n)) := Lib.hid (by simp [parseA, hq])
    clear H3 hq hn
    simp only [strictRet]
    go_wp2_with fail
    refine HO.out.mono ?_
    rintro e w2 ⟨rfl, hb2⟩
    have HR2 := Lib.hid (HR1.out.below hb2)
    have hbel := chain B1.out hb2
    have HLN := Lib.hid (b4_len n)
    clear HO HR1 B1 hb2
    go_wp2_with (refine store_addr HR2 _ _ HLN rfl rfl rfl rfl (fun W HW HA => ?_))
    refine bodyPost_ret (results_addr2 Tryz.results24 rfl HA.out) rfl ⟨by rw [HE.out]; rfl, by rw [HW.out]; exact below_cells (by omega) _ _ _ hbel⟩
  | none =>
    simp only [strictRet]
    go_wp2_with fail
    refine (H3 w1).out.mono ?_
    rintro e w2 ⟨rfl, hb2⟩
    have HR2 := Lib.hid (HR1.out.below hb2)
    have B2 := Lib.hid (chain B1.out hb2)
    clear H3 HR1 B1 hb2
    cases hp : parseB s with
    | some gs =>
      obtain ⟨hl, hlt⟩ := parseB_len s gs hp
      have HO := fun W => Lib.hid (refOf6_any gs W hl hlt)
      have HE : Hid (parseA s = some (6, byL gs)) := Lib.hid (by simp [parseA, hq, hp])
      have HLN : Hid ((byL gs).length = 16) := Lib.hid (by rw [byL_len, hl])
      obtain ⟨x0, x1, x2, x3, x4, x5, x6, x7, hgs⟩ := list8 gs hl
      have ha : arr8 gs = .agg #[.int .u16 (x0 : Int), .int .u16 (x1 : Int), .int .u16 (x2 : Int), .int .u16 (x3 : Int), .int .u16 (x4 : Int), .int .u16 (x5 : Int), .int .u16 (x6 : Int), .int .u16 (x7 : Int)] := by rw [hgs]; rfl
      rw [ha] at HO
      simp only [parseRet, Option.getD_some, Option.isSome_some, ha]
      have ba : Below w2.heap.size w2 (w2.alloc (.cells #[.int .u16 (x0 : Int), .int .u16 (x1 : Int), .int .u16 (x2 : Int), .int .u16 (x3 : Int), .int .u16 (x4 : Int), .int .u16 (x5 : Int), .int .u16 (x6 : Int), .int .u16 (x7 : Int)] 79)) := (Below.refl _ _).alloc (Nat.le_refl _) _
      have HR2a := Lib.hid (HR2.out.below ba)
      have B2a := Lib.hid (chain B2.out ba)
      clear hq hp hl hlt hgs ha HR2 B2 ba
      go_wp2_with fail
      generalize (w2.alloc (.cells #[.int .u16 (x0 : Int), .int .u16 (x1 : Int), .int .u16 (x2 : Int), .int .u16 (x3 : Int), .int .u16 (x4 : Int), .int .u16 (x5 : Int), .int .u16 (x6 : Int), .int .u16 (x7 : Int)] 79)) = W2 at *
      refine (HO W2).out.mono ?_
      rintro e w3 ⟨rfl, hb3⟩
      have HR3 := Lib.hid (HR2a.out.below hb3)
      have hbel := chain B2a.out hb3
      clear HO HR2a B2a hb3
      go_wp2_with (refine store_addr HR3 _ _ HLN rfl rfl rfl rfl (fun W HW HA => ?_))
      refine bodyPost_ret (results_addr2 Tryz.results24 rfl HA.out) rfl ⟨by rw [HE.out]; rfl, by rw [HW.out]; exact below_cells (by omega) _ _ _ hbel⟩
    | none =>
      have HE : Hid (parseA s = none) := Lib.hid (by simp [parseA, hq, hp])
      have HLN : Hid ((List.replicate 16 0).length = 16) := Lib.hid rfl
      have hz : arr8 [0, 0, 0, 0, 0, 0, 0, 0] = .agg #[.int .u16 0, .int .u16 0, .int .u16 0, .int .u16 0, .int .u16 0, .int .u16 0, .int .u16 0, .int .u16 0] := rfl
      simp only [parseRet, Option.getD_none, Option.isSome_none, hz]
      have ba : Below w2.heap.size w2 (w2.alloc (.cells #[.int .u16 0, .int .u16 0, .int .u16 0, .int .u16 0, .int .u16 0, .int .u16 0, .int .u16 0, .int .u16 0] 79)) := (Below.refl _ _).alloc (Nat.le_refl _) _
      have HR2a := Lib.hid (HR2.out.below ba)
      have B2a := Lib.hid (chain B2.out ba)
      clear hq hp hz HR2 B2 ba
      go_wp2_with (refine store_addr HR2a _ _ (f := 0) (bs := List.replicate 16 0) HLN rfl rfl rfl rfl (fun W HW HA => ?_))
      refine bodyPost_ret (results_addr2 Tryz.results24 rfl HA.out) rfl ⟨by rw [HE.out]; rfl, by rw [HW.out]; exact below_cells (by omega) _ _ _ B2a.out⟩

/-- What is printed of an address. -/
def printA (f : Int) (bs : List Nat) : ByteArray := if f = 4 then text4 (bs.getD 0 0) (bs.getD 1 0) (bs.getD 2 0) (bs.getD 3 0) else if f = 6 then printB (grL bs 8) else ⟨#[]⟩
theorem fourB_num (bs : List Nat) : fourB bs = num4 (bs.getD 0 0) (bs.getD 1 0) (bs.getD 2 0) (bs.getD 3 0) := by
  simp [fourB, fourTo, num4]
end Go.Proofs.YtgbajagacmfcmaaGreatDoor
/- What is read of a prefix's text: definitions and plain facts. -/
namespace Go.Proofs.YtgbajagacmfcmaaGreatDoor
open Go.RowKit
set_option linter.unusedVariables false
set_option maxRecDepth 20000

/-- A number without a nought ahead of other digits. -/
def numP (d : ByteArray) : Option Nat := if 1 < d.size ∧ byteOf d 0 = 48 then none else numB d 10
theorem parseA_ok (s : ByteArray) (f : Int) (bs : List Nat) (h : parseA s = some (f, bs)) : bs.length = 16 ∧ ∀ x ∈ bs, x < 256 := by
  unfold parseA at h
  split at h
  · injection h with h
    injection h with h1 h2
    rw [← h2]
    exact ⟨b4_len _, b4_lt _⟩
  · cases hp : parseB s with
    | none => rw [hp] at h; cases h
    | some gs =>
      rw [hp] at h
      injection h with h
      injection h with h1 h2
      obtain ⟨hl, hlt⟩ := parseB_len s gs hp
      rw [← h2]
      exact ⟨by rw [byL_len, hl], byL_lt gs hlt⟩
theorem numP_le (d : ByteArray) (n : Nat) (h : numP d = some n) : n ≤ 1099511627776 := by
  unfold numP numB at h
  split at h
  · cases h
  · split at h
    · cases h
    · exact numTo_le _ _ _ _ h
/-- What is read of two pieces. -/
def pairP (o : Option (Int × List Nat)) (q : Option Nat) : Int × List Nat × Int × Int := match o, q with
  | some (f, bs), some n => if mayP f bs (n : Int) = true then (f, bs, (n : Int), 0) else (0, List.replicate 16 0, 0, 1)
  | _, _ => (0, List.replicate 16 0, 0, 2)
/-- What is read of a text. -/
def parseP (s : ByteArray) : Int × List Nat × Int × Int :=
  if Lib.lastIndexByte s 47 < 0 then (0, List.replicate 16 0, 0, 2)
  else pairP (parseA (s.extract 0 (Lib.lastIndexByte s 47).toNat)) (numP (s.extract ((Lib.lastIndexByte s 47).toNat + 1) s.size))
def prefRet (r : Int × List Nat × Int × Int) : Value := .tuple #[prefV r.1 r.2.1 r.2.2.1, .int .i64 r.2.2.2]
theorem last_range (s : ByteArray) : Lib.lastIndexByte s 47 < 0 ∨ ∃ E : Nat, Lib.lastIndexByte s 47 = (E : Int) ∧ E < s.size := by
  rcases Lib.lastIndexByte_spec s 47 with ⟨h, _⟩ | ⟨i, hi, h, _, _⟩
  · exact .inl (by omega)
  · exact .inr ⟨i, h, by omega⟩
end Go.Proofs.YtgbajagacmfcmaaGreatDoor
/- Contract of the reference's Parse of layer 5. -/
namespace Go.Proofs.YtgbajagacmfcmaaGreatDoor
open Go.RowKit
set_option linter.unusedVariables false
set_option maxRecDepth 20000

theorem get_bang (s : ByteArray) (k : Nat) (h : k < s.size) : s.data[k]! = s[k] := by
  rw [getElem!_pos s.data k (by simpa using h)]
  rfl
set_option maxRecDepth 100000 in
set_option maxHeartbeats 2000000 in
theorem refParseP_any (s : ByteArray) (w : World) (hs : s.size ≤ 100000) :
    Calls Tryz.prog 15 #[.string s] w fun e w' => e = .returned (prefRet (parseP s)) ∧ Below w.heap.size w w' := by
  have HLZ : Hid ((List.replicate 16 0).length = 16) := Lib.hid rfl
  have HR := Lib.hid (pref_zeroed w)
  have HB := Lib.hid ((Below.refl w.heap.size w).alloc (Nat.le_refl _) (.cells zP 45))
  obtain ⟨R, eR⟩ : ∃ R, parseP s = R := ⟨_, rfl⟩
  rw [eR]
  have HE0 := Lib.hid eR
  clear eR
  go_enter Tryz.func15, Tryz.ntmps15
  go_upto_region 1 with fail
  generalize (w.alloc (.cells zP 45)) = W at *
  go_wp2_with fail
  go_loop [4, 5] (fun t i => ∃ k : Nat, k ≤ s.size ∧ i = .int .i64 (k : Int) ∧ t = .int .i64 (Lib.lastIdx s 47 k)) (fun _ i => s.size - (intOf i).toNat)
  case atStart => exact ⟨0, Nat.zero_le _, rfl, rfl⟩
  case round =>
    obtain ⟨k, hk, rfl, rfl⟩ := hrel
    by_cases hks : k < s.size
    · have hd : decide ((k : Int) < (s.size : Int)) = true := by simp; omega
      have hg := get_bang s k hks
      have hhit := Lib.lastIdx_hit s 47 k
      have hmis := Lib.lastIdx_miss s 47 k
      rw [hg] at hhit hmis
      obtain ⟨t, et⟩ : ∃ t, Lib.lastIdx s 47 k = t := ⟨_, rfl⟩
      rw [et] at hmis ⊢
      have HH := Lib.hid hhit
      have HM := Lib.hid hmis
      have HT := Lib.hid et
      clear hhit hmis hg et
      by_cases h47 : ((s[k]'hks).toNat : Int) = 47
      · have hd2 : (((s[k]'hks).toNat : Int) == 47) = true := by rw [h47]; rfl
        have HN := Lib.hid (HH.out h47)
        clear h47
        go_wp2_with fail
        go_round
        case rel => exact ⟨k + 1, by omega, by go_num, by rw [HN.out]⟩
        case measure => simp [intOf]; omega
      · have hd2 : (((s[k]'hks).toNat : Int) == 47) = false := by simp; omega
        have HN := Lib.hid (HM.out h47)
        clear h47
        go_wp2_with fail
        go_round
        case rel => exact ⟨k + 1, by omega, by go_num, by rw [HN.out]⟩
        case measure => simp [intOf]; omega
    · obtain rfl : k = s.size := by omega
      rw [show Lib.lastIdx s 47 s.size = Lib.lastIndexByte s 47 from rfl]
      have hdl : decide ((s.size : Int) < (s.size : Int)) = false := by simp
      have HE1 := Lib.hid (show (if Lib.lastIndexByte s 47 < 0 then (0, List.replicate 16 0, 0, 2) else pairP (parseA (s.extract 0 (Lib.lastIndexByte s 47).toNat)) (numP (s.extract ((Lib.lastIndexByte s 47).toNat + 1) s.size))) = R from HE0.out)
      clear HE0
      rcases last_range s with hq | ⟨E, hq, hE⟩
      · rw [if_pos hq] at HE1
        obtain ⟨q, eq⟩ : ∃ q, Lib.lastIndexByte s 47 = q := ⟨_, rfl⟩
        rw [eq] at hq ⊢
        have hd : decide (q < 0) = true := by simp [hq]
        clear eq
        go_wp2_with (first | refine build_zero rfl rfl ?_ | refine store_pref HR _ _ HLZ rfl rfl rfl rfl (fun W HW HP => ?_))
        refine bodyPost_ret (results_pref2 Tryz.results15 rfl HP.out) rfl ⟨by rw [← HE1.out]; rfl, by rw [HW.out]; exact below_cells (Nat.le_refl _) _ _ _ HB.out⟩
      · rw [if_neg (by rw [hq]; omega), hq, Int.toNat_natCast] at HE1
        rw [hq]
        have hE1 : (E : Int) ≤ (s.size : Int) := by omega
        have hE2 : (E : Int) + 1 ≤ (s.size : Int) := by omega
        have hd : decide ((E : Int) < 0) = false := by simp
        have HA := fun W => Lib.hid (refParseA_any (s.extract 0 E) W (by simp; omega))
        have HNB := fun W => Lib.hid (refNumber_any (s.extract (E + 1) s.size) 10 W (by simp; omega) (.inr (.inl rfl)))
        have HOK := Lib.hid (parseA_ok (s.extract 0 E))
        have HNL := Lib.hid (numP_le (s.extract (E + 1) s.size))
        have HND : Hid (numP (s.extract (E + 1) s.size) = if 1 < (s.extract (E + 1) s.size).size ∧ byteOf (s.extract (E + 1) s.size) 0 = 48 then none else numB (s.extract (E + 1) s.size) 10) := Lib.hid rfl
        clear hq
        go_wp2_with fail
        refine (HA _).out.mono ?_
        rintro e w1 ⟨rfl, hb1⟩
        have HR1 := Lib.hid (HR.out.below hb1)
        have HB1 := Lib.hid (chain HB.out hb1)
        have HZ1 := Lib.hid (addr_zeroed w1)
        clear HR HB hb1 HA
        cases ho : parseA (s.extract 0 E) with
        | none =>
          rw [ho] at HE1
          have HE2 : Hid (((0 : Int), List.replicate 16 0, (0 : Int), (2 : Int)) = R) := HE1
          clear HE1 ho HOK HNL HND
          unfold addrRet
          go_upto_region 10 with (refine store_addr HZ1 _ _ HLZ rfl rfl rfl rfl (fun W1 HW1 HO1 => ?_))
          have HR2 := Lib.hid (HR1.out.below (below_newA HW1))
          have HB2 := Lib.hid (chain HB1.out (below_newA HW1))
          generalize w1.heap.size = G1 at *
          clear HR1 HB1 HZ1 HW1
          go_wp2_with fail
          refine (HNB _).out.mono ?_
          rintro e w2 ⟨rfl, rfl⟩
          unfold numRet
          go_wp2_with (first | refine build_zero rfl rfl ?_ | refine store_pref HR2 _ _ HLZ rfl rfl rfl rfl (fun W HW HP => ?_))
          refine bodyPost_ret (results_pref2 Tryz.results15 rfl HP.out) rfl ⟨by rw [← HE2.out]; rfl, by rw [HW.out]; exact below_cells (Nat.le_refl _) _ _ _ HB2.out⟩
        | some fb =>
          obtain ⟨f, bs⟩ := fb
          rw [ho] at HE1
          obtain ⟨h16, hlt⟩ := HOK.out f bs ho
          have H16 := Lib.hid h16
          have HLT := Lib.hid hlt
          clear ho HOK h16 hlt
          unfold addrRet
          go_upto_region 10 with (refine store_addr HZ1 _ _ H16 rfl rfl rfl rfl (fun W1 HW1 HO1 => ?_))
          have HR2 := Lib.hid (HR1.out.below (below_newA HW1))
          have HB2 := Lib.hid (chain HB1.out (below_newA HW1))
          generalize w1.heap.size = G1 at *
          clear HR1 HB1 HZ1 HW1
          go_upto_region 11 with fail
          obtain ⟨Y, hY⟩ : ∃ Y, s.extract (E + 1) s.size = Y := ⟨_, rfl⟩
          rw [hY] at HNB HNL HND HE1 ⊢
          have hYs : Y.size ≤ 100000 := by rw [← hY]; simp; omega
          clear hY
          go_wp2_with fail
          refine (HNB _).out.mono ?_
          rintro e w2 ⟨rfl, rfl⟩
          cases hn : numB Y 10 with
          | none =>
            have HQ : Hid (numP Y = none) := Lib.hid (by rw [HND.out, hn]; split <;> rfl)
            rw [HQ.out] at HE1
            have HE2 : Hid (((0 : Int), List.replicate 16 0, (0 : Int), (2 : Int)) = R) := HE1
            clear HE1 hn HNL HND HQ
            rw [show numRet none = .tuple #[.int .i64 ((0 : Nat) : Int), .bool false] from rfl]
            go_wp2_with (first | refine build_zero rfl rfl ?_ | refine store_pref HR2 _ _ HLZ rfl rfl rfl rfl (fun W HW HP => ?_))
            refine bodyPost_ret (results_pref2 Tryz.results15 rfl HP.out) rfl ⟨by rw [← HE2.out]; rfl, by rw [HW.out]; exact below_cells (Nat.le_refl _) _ _ _ HB2.out⟩
          | some n =>
            rw [hn] at HND
            rw [show numRet (some n) = .tuple #[.int .i64 (n : Int), .bool true] from rfl]
            clear hn
            by_cases hc : 1 < Y.size ∧ byteOf Y 0 = 48
            · rw [if_pos hc] at HND
              rw [HND.out] at HE1
              have HE2 : Hid (((0 : Int), List.replicate 16 0, (0 : Int), (2 : Int)) = R) := HE1
              have hsz : 0 < Y.size := by omega
              have hd3 : decide (1 < (Y.size : Int)) = true := by simp; omega
              have hd3n : decide (1 < Y.size) = true := by simp; omega
              have hd4 : (((Y[0]'hsz).toNat : Int) == 48) = true := by rw [← byteOf_eq Y 0 hsz, hc.2]; rfl
              clear HE1 HNL HND hc
              go_wp2_with (first | refine build_zero rfl rfl ?_ | refine store_pref HR2 _ _ HLZ rfl rfl rfl rfl (fun W HW HP => ?_))
              refine bodyPost_ret (results_pref2 Tryz.results15 rfl HP.out) rfl ⟨by rw [← HE2.out]; rfl, by rw [HW.out]; exact below_cells (Nat.le_refl _) _ _ _ HB2.out⟩
            · rw [if_neg hc] at HND
              rw [HND.out] at HE1
              have hnl := HNL.out n HND.out
              have HM := fun W => Lib.hid (refMayQ_any f bs (n : Int) W H16.out HLT.out)
              rw [mayQ_eq f (n : Int) H16.out HLT.out] at HM
              have HE2 : Hid ((if mayP f bs (n : Int) = true then (f, bs, (n : Int), 0) else (0, List.replicate 16 0, 0, 1)) = R) := HE1
              clear HE1 HNL hnl HND
              generalize mayP f bs (n : Int) = b at *
              have HZ3 := Lib.hid (pref_zeroed W1)
              by_cases h1 : 1 < Y.size
              · have hsz : 0 < Y.size := by omega
                have hd3 : decide (1 < (Y.size : Int)) = true := by simp; omega
                have hd3n : decide (1 < Y.size) = true := by simp; omega
                have h48 : byteOf Y 0 ≠ 48 := fun h => hc ⟨h1, h⟩
                have hd4 : (((Y[0]'hsz).toNat : Int) == 48) = false := by rw [← byteOf_eq Y 0 hsz]; simp; omega
                clear hc h48
                go_upto_region 15 with (first | refine load_addr_g HO1 _ rfl rfl rfl ?_ | refine build_pref H16 rfl _ _ rfl rfl rfl ?_ | refine store_pref HZ3 _ _ H16 rfl rfl rfl rfl (fun W3 HW3 HP3 => ?_))
                have HR4 := Lib.hid (HR2.out.below (below_newP HW3))
                have HB4 := Lib.hid (chain HB2.out (below_newP HW3))
                generalize W1.heap.size = G3 at *
                clear HR2 HB2 HZ3 HW3 HO1
                go_wp2_with (refine load_pref_g HP3 _ rfl rfl rfl ?_)
                refine (HM _).out.mono ?_
                rintro e w5 ⟨rfl, hb5⟩
                have HR5 := Lib.hid (HR4.out.below hb5)
                have HP5 := Lib.hid (HP3.out.below hb5)
                have HB5 := Lib.hid (chain HB4.out hb5)
                clear HR4 HP3 HB4 hb5 HM
                cases b with
                | true =>
                  rw [if_pos rfl] at HE2
                  go_wp2_with (first | refine load_pref_g HP5 _ rfl rfl rfl ?_ | refine store_pref HR5 _ _ H16 rfl rfl rfl rfl (fun W HW HP => ?_))
                  refine bodyPost_ret (results_pref2 Tryz.results15 rfl HP.out) rfl ⟨by rw [← HE2.out]; rfl, by rw [HW.out]; exact below_cells (Nat.le_refl _) _ _ _ HB5.out⟩
                | false =>
                  rw [if_neg (by decide)] at HE2
                  go_wp2_with (first | refine build_zero rfl rfl ?_ | refine store_pref HR5 _ _ HLZ rfl rfl rfl rfl (fun W HW HP => ?_))
                  refine bodyPost_ret (results_pref2 Tryz.results15 rfl HP.out) rfl ⟨by rw [← HE2.out]; rfl, by rw [HW.out]; exact below_cells (Nat.le_refl _) _ _ _ HB5.out⟩
              · have hd3 : decide (1 < (Y.size : Int)) = false := by simp; omega
                have hd3n : decide (1 < Y.size) = false := by simp; omega
                clear hc
                go_upto_region 15 with (first | refine load_addr_g HO1 _ rfl rfl rfl ?_ | refine build_pref H16 rfl _ _ rfl rfl rfl ?_ | refine store_pref HZ3 _ _ H16 rfl rfl rfl rfl (fun W3 HW3 HP3 => ?_))
                have HR4 := Lib.hid (HR2.out.below (below_newP HW3))
                have HB4 := Lib.hid (chain HB2.out (below_newP HW3))
                generalize W1.heap.size = G3 at *
                clear HR2 HB2 HZ3 HW3 HO1
                go_wp2_with (refine load_pref_g HP3 _ rfl rfl rfl ?_)
                refine (HM _).out.mono ?_
                rintro e w5 ⟨rfl, hb5⟩
                have HR5 := Lib.hid (HR4.out.below hb5)
                have HP5 := Lib.hid (HP3.out.below hb5)
                have HB5 := Lib.hid (chain HB4.out hb5)
                clear HR4 HP3 HB4 hb5 HM
                cases b with
                | true =>
                  rw [if_pos rfl] at HE2
                  go_wp2_with (first | refine load_pref_g HP5 _ rfl rfl rfl ?_ | refine store_pref HR5 _ _ H16 rfl rfl rfl rfl (fun W HW HP => ?_))
                  refine bodyPost_ret (results_pref2 Tryz.results15 rfl HP.out) rfl ⟨by rw [← HE2.out]; rfl, by rw [HW.out]; exact below_cells (Nat.le_refl _) _ _ _ HB5.out⟩
                | false =>
                  rw [if_neg (by decide)] at HE2
                  go_wp2_with (first | refine build_zero rfl rfl ?_ | refine store_pref HR5 _ _ HLZ rfl rfl rfl rfl (fun W HW HP => ?_))
                  refine bodyPost_ret (results_pref2 Tryz.results15 rfl HP.out) rfl ⟨by rw [← HE2.out]; rfl, by rw [HW.out]; exact below_cells (Nat.le_refl _) _ _ _ HB5.out⟩
end Go.Proofs.YtgbajagacmfcmaaGreatDoor
/- The texts of the table that is told first, and what is read of each. -/
namespace Go.Proofs.YtgbajagacmfcmaaGreatDoor
open Go.RowKit
set_option linter.unusedVariables false
set_option maxRecDepth 20000

def text7_0 : ByteArray := ⟨#[49, 50, 55, 46, 48, 46, 48, 46, 48, 47, 56]⟩
theorem read7_0 : parseP text7_0 = (4, [127, 0, 0, 0, 0, 0, 0, 0, 0, 0, 0, 0, 0, 0, 0, 0], 8, 0) := by kernel_rfl
def text7_1 : ByteArray := ⟨#[58, 58, 49, 47, 49, 50, 56]⟩
theorem read7_1 : parseP text7_1 = (6, [0, 0, 0, 0, 0, 0, 0, 0, 0, 0, 0, 0, 0, 0, 0, 1], 128, 0) := by kernel_rfl
def text7_2 : ByteArray := ⟨#[48, 46, 48, 46, 48, 46, 48, 47, 51, 50]⟩
theorem read7_2 : parseP text7_2 = (4, [0, 0, 0, 0, 0, 0, 0, 0, 0, 0, 0, 0, 0, 0, 0, 0], 32, 0) := by kernel_rfl
def text7_3 : ByteArray := ⟨#[58, 58, 47, 49, 50, 56]⟩
theorem read7_3 : parseP text7_3 = (6, [0, 0, 0, 0, 0, 0, 0, 0, 0, 0, 0, 0, 0, 0, 0, 0], 128, 0) := by kernel_rfl
def text7_4 : ByteArray := ⟨#[49, 48, 46, 48, 46, 48, 46, 48, 47, 56]⟩
theorem read7_4 : parseP text7_4 = (4, [10, 0, 0, 0, 0, 0, 0, 0, 0, 0, 0, 0, 0, 0, 0, 0], 8, 0) := by kernel_rfl
def text7_5 : ByteArray := ⟨#[49, 48, 48, 46, 54, 52, 46, 48, 46, 48, 47, 49, 48]⟩
theorem read7_5 : parseP text7_5 = (4, [100, 64, 0, 0, 0, 0, 0, 0, 0, 0, 0, 0, 0, 0, 0, 0], 10, 0) := by kernel_rfl
def text7_6 : ByteArray := ⟨#[49, 54, 57, 46, 50, 53, 52, 46, 48, 46, 48, 47, 49, 54]⟩
theorem read7_6 : parseP text7_6 = (4, [169, 254, 0, 0, 0, 0, 0, 0, 0, 0, 0, 0, 0, 0, 0, 0], 16, 0) := by kernel_rfl
def text7_7 : ByteArray := ⟨#[49, 55, 50, 46, 49, 54, 46, 48, 46, 48, 47, 49, 50]⟩
theorem read7_7 : parseP text7_7 = (4, [172, 16, 0, 0, 0, 0, 0, 0, 0, 0, 0, 0, 0, 0, 0, 0], 12, 0) := by kernel_rfl
def text7_8 : ByteArray := ⟨#[49, 57, 50, 46, 49, 54, 56, 46, 48, 46, 48, 47, 49, 54]⟩
theorem read7_8 : parseP text7_8 = (4, [192, 168, 0, 0, 0, 0, 0, 0, 0, 0, 0, 0, 0, 0, 0, 0], 16, 0) := by kernel_rfl
def text7_9 : ByteArray := ⟨#[102, 99, 48, 48, 58, 58, 47, 55]⟩
theorem read7_9 : parseP text7_9 = (6, [252, 0, 0, 0, 0, 0, 0, 0, 0, 0, 0, 0, 0, 0, 0, 0], 7, 0) := by kernel_rfl
def text7_10 : ByteArray := ⟨#[102, 101, 56, 48, 58, 58, 47, 49, 48]⟩
theorem read7_10 : parseP text7_10 = (6, [254, 128, 0, 0, 0, 0, 0, 0, 0, 0, 0, 0, 0, 0, 0, 0], 10, 0) := by kernel_rfl
end Go.Proofs.YtgbajagacmfcmaaGreatDoor
/- Contract of the reference's Default of layer 7. -/
namespace Go.Proofs.YtgbajagacmfcmaaGreatDoor
open Go.RowKit
set_option linter.unusedVariables false
set_option maxRecDepth 20000

def T7 : List ByteArray := [text7_0, text7_1, text7_2, text7_3, text7_4, text7_5, text7_6, text7_7, text7_8, text7_9, text7_10]
/-- Family, bytes, bits and space of each. -/
def D7 : List (Int × List Nat × Int × Int) := [(4, [127, 0, 0, 0, 0, 0, 0, 0, 0, 0, 0, 0, 0, 0, 0, 0], 8, 0), (6, [0, 0, 0, 0, 0, 0, 0, 0, 0, 0, 0, 0, 0, 0, 0, 1], 128, 0), (4, [0, 0, 0, 0, 0, 0, 0, 0, 0, 0, 0, 0, 0, 0, 0, 0], 32, 0), (6, [0, 0, 0, 0, 0, 0, 0, 0, 0, 0, 0, 0, 0, 0, 0, 0], 128, 0), (4, [10, 0, 0, 0, 0, 0, 0, 0, 0, 0, 0, 0, 0, 0, 0, 0], 8, 1), (4, [100, 64, 0, 0, 0, 0, 0, 0, 0, 0, 0, 0, 0, 0, 0, 0], 10, 1), (4, [169, 254, 0, 0, 0, 0, 0, 0, 0, 0, 0, 0, 0, 0, 0, 0], 16, 1), (4, [172, 16, 0, 0, 0, 0, 0, 0, 0, 0, 0, 0, 0, 0, 0, 0], 12, 1), (4, [192, 168, 0, 0, 0, 0, 0, 0, 0, 0, 0, 0, 0, 0, 0, 0], 16, 1), (6, [252, 0, 0, 0, 0, 0, 0, 0, 0, 0, 0, 0, 0, 0, 0, 0], 7, 1), (6, [254, 128, 0, 0, 0, 0, 0, 0, 0, 0, 0, 0, 0, 0, 0, 0], 10, 1)]
def defE (k : Nat) : List Ent := (D7.take k).foldl (fun es d => setE es d.1 d.2.1 d.2.2.1 d.2.2.2) []
theorem read7 : ∀ k (h : k < 11), ∃ f b n s, D7[k]? = some (f, b, n, s) ∧ parseP (T7.getD k ByteArray.empty) = (f, b, n, 0) ∧ b.length = 16 ∧ (∀ x ∈ b, x < 256) ∧ s = (if 4 ≤ k then 1 else 0) ∧ (T7.getD k ByteArray.empty).size ≤ 100
  | 0, _ => ⟨_, _, _, _, rfl, read7_0, by decide, by decide, by decide, by decide⟩
  | 1, _ => ⟨_, _, _, _, rfl, read7_1, by decide, by decide, by decide, by decide⟩
  | 2, _ => ⟨_, _, _, _, rfl, read7_2, by decide, by decide, by decide, by decide⟩
  | 3, _ => ⟨_, _, _, _, rfl, read7_3, by decide, by decide, by decide, by decide⟩
  | 4, _ => ⟨_, _, _, _, rfl, read7_4, by decide, by decide, by decide, by decide⟩
  | 5, _ => ⟨_, _, _, _, rfl, read7_5, by decide, by decide, by decide, by decide⟩
  | 6, _ => ⟨_, _, _, _, rfl, read7_6, by decide, by decide, by decide, by decide⟩
  | 7, _ => ⟨_, _, _, _, rfl, read7_7, by decide, by decide, by decide, by decide⟩
  | 8, _ => ⟨_, _, _, _, rfl, read7_8, by decide, by decide, by decide, by decide⟩
  | 9, _ => ⟨_, _, _, _, rfl, read7_9, by decide, by decide, by decide, by decide⟩
  | 10, _ => ⟨_, _, _, _, rfl, read7_10, by decide, by decide, by decide, by decide⟩
  | k + 11, h => absurd h (by omega)
theorem defE_succ (k : Nat) (f : Int) (b : List Nat) (n s : Int) (h : D7[k]? = some (f, b, n, s)) : defE (k + 1) = setE (defE k) f b n s := by
  obtain ⟨hk, e⟩ := List.getElem?_eq_some_iff.1 h
  have := foldl_take (fun (es : List Ent) (d : Int × List Nat × Int × Int) => setE es d.1 d.2.1 d.2.2.1 d.2.2.2) [] D7 k hk
  rw [e] at this
  exact this
theorem defE_len : ∀ k, (defE k).length ≤ k
  | 0 => by simp [defE]
  | k + 1 => by
    by_cases hk : k < D7.length
    · have h1 := defE_succ k (D7[k]).1 (D7[k]).2.1 (D7[k]).2.2.1 (D7[k]).2.2.2 (List.getElem?_eq_getElem hk)
      rw [h1]
      have h2 := setE_len (defE k) (D7[k]).1 (D7[k]).2.1 (D7[k]).2.2.1 (D7[k]).2.2.2
      have h3 := defE_len k
      omega
    · have : D7.take (k + 1) = D7.take k := by rw [List.take_of_length_le (by omega), List.take_of_length_le (by omega)]
      unfold defE
      rw [this]
      exact Nat.le_trans (defE_len k) (Nat.le_succ _)
theorem defE_eleven : (defE 11).length = 11 := by kernel_rfl
/-- The document's example. -/
theorem def_example : ofE (defE 11) 4 [192, 168, 0, 1, 0, 0, 0, 0, 0, 0, 0, 0, 0, 0, 0, 0] = 1 := by kernel_rfl
set_option maxRecDepth 100000 in
set_option maxHeartbeats 1000000 in
theorem refDefault7_any (w : World) :
    Calls Tryz.prog 6 #[] w fun e w' => ∃ v, e = .returned v ∧ RowE w' 0 v (defE 11) ∧ Below w.heap.size w w' := by
  obtain ⟨W, hW⟩ : ∃ W, w.alloc (.cells #[Value.string ⟨#[49, 50, 55, 46, 48, 46, 48, 46, 48, 47, 56]⟩, Value.string ⟨#[58, 58, 49, 47, 49, 50, 56]⟩, Value.string ⟨#[48, 46, 48, 46, 48, 46, 48, 47, 51, 50]⟩, Value.string ⟨#[58, 58, 47, 49, 50, 56]⟩, Value.string ⟨#[49, 48, 46, 48, 46, 48, 46, 48, 47, 56]⟩, Value.string ⟨#[49, 48, 48, 46, 54, 52, 46, 48, 46, 48, 47, 49, 48]⟩, Value.string ⟨#[49, 54, 57, 46, 50, 53, 52, 46, 48, 46, 48, 47, 49, 54]⟩, Value.string ⟨#[49, 55, 50, 46, 49, 54, 46, 48, 46, 48, 47, 49, 50]⟩, Value.string ⟨#[49, 57, 50, 46, 49, 54, 56, 46, 48, 46, 48, 47, 49, 54]⟩, Value.string ⟨#[102, 99, 48, 48, 58, 58, 47, 55]⟩, Value.string ⟨#[102, 101, 56, 48, 58, 58, 47, 49, 48]⟩] 9) = W := ⟨_, rfl⟩
  have HC : Hid (∀ k, k < 11 → W.cell? ⟨w.heap.size, k, none⟩ = some (.string (T7.getD k ByteArray.empty))) := Lib.hid (fun k hk => by
    rw [← hW, World.cell?_alloc_new]
    have : k = 0 ∨ k = 1 ∨ k = 2 ∨ k = 3 ∨ k = 4 ∨ k = 5 ∨ k = 6 ∨ k = 7 ∨ k = 8 ∨ k = 9 ∨ k = 10 := by omega
    rcases this with rfl | rfl | rfl | rfl | rfl | rfl | rfl | rfl | rfl | rfl | rfl <;> rfl)
  have HB0 : Hid (Below w.heap.size w W) := Lib.hid (by rw [← hW]; exact (Below.refl _ _).alloc (Nat.le_refl _) _)
  have HL0 : Hid (w.heap.size < W.heap.size) := Lib.hid (by rw [← hW]; simp)
  go_enter Tryz.func6, Tryz.ntmps6
  go_upto_region 2 with fail
  clear hW
  go_wp2_with fail
  go_loopw [2, 3] (fun l i wr => ∃ (k : Nat) (v : Value), k ≤ 11 ∧ v = l ∧ i = .int .i64 (k : Int) ∧ Hid (RowE wr 0 v (defE k)) ∧ Hid (Below W.heap.size W wr)) (fun _ i _ => 11 - (intOf i).toNat)
  case atStart => exact ⟨0, _, Nat.zero_le _, rfl, rfl, Lib.hid (RowE.nil _ _), Lib.hid (Below.refl _ _)⟩
  case round =>
    obtain ⟨k, v, hk, rfl, rfl, HR, HB⟩ := hrel
    by_cases hkN : k < 11
    · have hd : decide ((k : Int) < 11) = true := by simp; omega
      have hdn : decide (k < 11) = true := by simp; omega
      have hb1 : (0 : Int) ≤ (k : Int) := by omega
      have hb2 : (k : Int) < 11 := by omega
      obtain ⟨f, b, n, s, hdk, hp, h16, hlt, hs, hsz⟩ := read7 k hkN
      have HSU := Lib.hid (defE_succ k f b n s hdk)
      have hcell : wr.cell? ⟨w.heap.size, k, none⟩ = some (.string (T7.getD k ByteArray.empty)) := by rw [HB.out.cell (p := ⟨w.heap.size, k, none⟩) HL0.out]; exact HC.out k hkN
      have hle := defE_len k
      generalize T7.getD k ByteArray.empty = t at *
      have HPA := fun W => Lib.hid (refParseP_any t W (by omega))
      rw [hp, show prefRet (f, b, n, 0) = .tuple #[prefV f b n, .int .i64 0] from rfl] at HPA
      have H16 := Lib.hid h16
      have hwf : (Lit.int .i64 s).wf = true := by rw [hs]; split <;> decide
      have HST := fun W (h : RowE W 0 v (defE k)) => Lib.hid (refSet_any v (defE k) f b n s W 0 h h16 hlt hwf (by omega))
      obtain ⟨c, hc⟩ : ∃ c : Int, (if mayP f b n = true then (0 : Int) else 1) = c := ⟨_, rfl⟩
      rw [hc] at HST
      rw [← HSU.out] at HST
      clear hc hp h16 hlt hdk hwf hsz
      go_wp2_with fail
      refine (HPA _).out.mono ?_
      rintro e w1 ⟨rfl, hb3⟩
      have HR1 := Lib.hid (HR.out.below hb3)
      have HB1 := Lib.hid (chain HB.out hb3)
      have HZ := Lib.hid (pref_zeroed w1)
      clear hb3 HPA hcell HR HB
      go_upto_region 7 with (refine store_pref HZ _ _ H16 rfl rfl rfl rfl (fun W1 HW1 HP1 => ?_))
      have HR2 := Lib.hid (HR1.out.below (below_newP HW1))
      have HB2 := Lib.hid (chain HB1.out (below_newP HW1))
      clear HR1 HB1 HZ HW1
      by_cases h4 : 4 ≤ k
      · have hd4 : decide (4 ≤ (k : Int)) = true := by simp; omega
        have hd4n : decide (4 ≤ k) = true := by simp; omega
        rw [if_pos h4] at hs
        subst hs
        go_wp2_with (refine load_pref_g HP1 _ rfl rfl rfl ?_)
        refine (HST _ HR2.out).out.mono ?_
        rintro e w3 ⟨v3, rfl, hr3, _, hb3⟩
        have HR3 := Lib.hid hr3
        have HB3 := Lib.hid (chain HB2.out hb3)
        clear hr3 hb3 HST HR2 HB2 HP1
        go_wp2_with fail
        go_roundw
        case rel => exact ⟨k + 1, _, by omega, rfl, by go_num, HR3, HB3⟩
        case measure => simp [intOf]; omega
      · have hd4 : decide (4 ≤ (k : Int)) = false := by simp; omega
        have hd4n : decide (4 ≤ k) = false := by simp; omega
        rw [if_neg h4] at hs
        subst hs
        go_wp2_with (refine load_pref_g HP1 _ rfl rfl rfl ?_)
        refine (HST _ HR2.out).out.mono ?_
        rintro e w3 ⟨v3, rfl, hr3, _, hb3⟩
        have HR3 := Lib.hid hr3
        have HB3 := Lib.hid (chain HB2.out hb3)
        clear hr3 hb3 HST HR2 HB2 HP1
        go_wp2_with fail
        go_roundw
        case rel => exact ⟨k + 1, _, by omega, rfl, by go_num, HR3, HB3⟩
        case measure => simp [intOf]; omega
    · obtain rfl : k = 11 := by omega
      go_wp2_with fail
      go_ret
      exact ⟨v, rfl, HR.out, chain HB0.out HB.out⟩
end Go.Proofs.YtgbajagacmfcmaaGreatDoor
/- Texts of addresses of 128 bits, put together of groups' texts: how they are read; plain facts. -/
namespace Go.Proofs.YtgbajagacmfcmaaGreatDoor
open Go.RowKit
set_option linter.unusedVariables false
set_option maxRecDepth 20000

/-- Texts with colons between. -/
def rowT : List (List UInt8) → List UInt8
  | [] => []
  | [t] => t
  | t :: u :: r => t ++ 58 :: rowT (u :: r)
theorem rowT_rowL : ∀ l : List Nat, rowL l = rowT (l.map groupL)
  | [] => rfl
  | [x] => rfl
  | x :: y :: r => by
    rw [rowL, rowT_rowL (y :: r)]
    rfl
/-- A text of a group: not empty, without colons. -/
def Plain6 (t : List UInt8) : Prop := t ≠ [] ∧ ∀ c ∈ t, c.toNat ≠ 58
theorem rowT_cut : ∀ ts : List (List UInt8), ts ≠ [] → (∀ t ∈ ts, ∀ c ∈ t, c.toNat ≠ 58) → cutL 58 (rowT ts) = ts
  | [], h, _ => absurd rfl h
  | [t], _, h => by rw [rowT, cutL_none 58 _ (h t (by simp))]
  | t :: u :: r, _, h => by rw [rowT, cutL_first 58 58 rfl _ _ (h t (by simp)), rowT_cut (u :: r) (by simp) (fun x hx => h x (by simp [hx]))]
theorem rowT_head : ∀ ts : List (List UInt8), ts ≠ [] → (∀ t ∈ ts, Plain6 t) → ∃ c r, rowT ts = c :: r ∧ c.toNat ≠ 58
  | [], h, _ => absurd rfl h
  | [t], _, h => by
    rw [rowT]
    cases ht : t with
    | nil => exact absurd ht (h t (by simp)).1
    | cons c r => exact ⟨c, r, rfl, (h t (by simp)).2 c (by rw [ht]; simp)⟩
  | t :: u :: r, _, h => by
    rw [rowT]
    cases ht : t with
    | nil => exact absurd ht (h t (by simp)).1
    | cons c z => exact ⟨c, z ++ 58 :: rowT (u :: r), rfl, (h t (by simp)).2 c (by rw [ht]; simp)⟩
theorem rowT_gap : ∀ ts : List (List UInt8), (∀ t ∈ ts, Plain6 t) → noGap (rowT ts)
  | [], _ => trivial
  | [t], h => by rw [rowT]; exact noGap_plain _ (h t (by simp)).2
  | t :: u :: r, h => by
    rw [rowT]
    exact noGap_join _ _ (h t (by simp)).2 (rowT_gap (u :: r) (fun x hx => h x (by simp [hx]))) (rowT_head (u :: r) (by simp) (fun x hx => h x (by simp [hx]))) (h t (by simp)).1
theorem rowT_ne (ts : List (List UInt8)) (h0 : ts ≠ []) (h : ∀ t ∈ ts, Plain6 t) : rowT ts ≠ [] := by
  obtain ⟨c, r, e, _⟩ := rowT_head ts h0 h
  rw [e]; simp
theorem rowT_last : ∀ ts : List (List UInt8), (∀ t ∈ ts, Plain6 t) → ts ≠ [] → ((rowT ts).getD ((rowT ts).length - 1) 0).toNat ≠ 58
  | [], _, h => absurd rfl h
  | [t], h, _ => by
    rw [rowT]
    have h0 : 0 < t.length := List.length_pos_iff.2 (h t (by simp)).1
    rw [List.getD_eq_getElem?_getD, List.getElem?_eq_getElem (by omega)]
    exact (h t (by simp)).2 _ (List.getElem_mem _)
  | t :: u :: r, h, _ => by
    have ih := rowT_last (u :: r) (fun z hz => h z (by simp [hz])) (by simp)
    have hn : 0 < (rowT (u :: r)).length := List.length_pos_iff.2 (rowT_ne (u :: r) (by simp) (fun z hz => h z (by simp [hz])))
    rw [rowT]
    have e : (t ++ 58 :: rowT (u :: r)).getD ((t ++ 58 :: rowT (u :: r)).length - 1) 0 = (rowT (u :: r)).getD ((rowT (u :: r)).length - 1) 0 := by
      rw [List.getD_eq_getElem?_getD, List.getD_eq_getElem?_getD, List.length_append, List.length_cons, List.getElem?_append_right (by omega), show t.length + ((rowT (u :: r)).length + 1) - 1 - t.length = ((rowT (u :: r)).length - 1) + 1 by omega, List.getElem?_cons_succ]
    rw [e]
    exact ih
/-- A colon behind a row of texts stays single. -/
theorem noGap_colon : ∀ l : List UInt8, noGap l → (l.getD (l.length - 1) 0).toNat ≠ 58 → l ≠ [] → noGap (l ++ [58])
  | [], _, _, h => absurd rfl h
  | [x], _, h, _ => ⟨fun h2 => h (by simpa using h2.1), trivial⟩
  | x :: y :: r, hg, h, _ => ⟨hg.1, noGap_colon (y :: r) hg.2 (by simpa using h) (by simp)⟩
theorem noGap_ahead (l : List UInt8) (hg : noGap l) (h : ∃ c r, l = c :: r ∧ c.toNat ≠ 58) : noGap (58 :: l) := by
  obtain ⟨c, r, rfl, hc⟩ := h
  exact ⟨fun h2 => hc h2.2, hg⟩

theorem pieces_cutL (l : List UInt8) : pieces (ofL l) 58 = (cutL 58 l).map ofL := pieces_ofL l 58
/-- A piece that is neither a group nor a strict text: there are no groups. -/
theorem groups_stuck (l : List UInt8) (dot : Bool) (ts : List (List UInt8)) (h0 : l ≠ []) (hc : cutL 58 l = ts) (t : List UInt8) (ht : t ∈ ts) (hx : hexG (ofL t) = none) (hs : strictB (ofL t) = none) : groupsB (ofL l) dot = none := by
  unfold groupsB
  rw [if_neg (by rw [ofL_size]; intro e; exact h0 (List.eq_nil_of_length_eq_zero e)), pieces_cutL, hc]
  obtain ⟨k, hk, rfl⟩ := List.getElem_of_mem ht
  have e : (ts.map ofL).getD k ⟨#[]⟩ = ofL ts[k] := by
    rw [List.getD_eq_getElem?_getD, List.getElem?_map, List.getElem?_eq_getElem hk]
    rfl
  apply grTo_dead (k := k + 1) (by rw [List.length_map]; omega)
  cases h : grTo (ts.map ofL) dot k with
  | none => rw [grTo, h]
  | some out => exact grTo_stop h (by rw [e]; exact hx) (by rw [e]; exact hs)
theorem hexG_nil : hexG (ofL []) = none := rfl
theorem strictB_plain (t : List UInt8) (h : ∀ c ∈ t, c.toNat ≠ 46) : strictB (ofL t) = none := by
  unfold strictB
  rw [pieces_ofL, cutL_none 46 t h]
  rfl
theorem strictB_nil : strictB (ofL []) = none := strictB_plain [] (by simp)
/-- Groups of texts that are all numbers. -/
theorem grTo_texts (ts : List (List UInt8)) (xs : List Nat) (dot : Bool) (hl : ts.length ≤ xs.length) (h : ∀ k (hk : k < ts.length), hexG (ofL ts[k]) = some (xs.getD k 0)) (us : List (List UInt8)) : ∀ k, k ≤ ts.length → grTo ((ts ++ us).map ofL) dot k = some (xs.take k)
  | 0, _ => by simp [grTo]
  | k + 1, hk => by
    have e : ((ts ++ us).map ofL).getD k ⟨#[]⟩ = ofL (ts[k]'(by omega)) := by
      rw [List.getD_eq_getElem?_getD, List.getElem?_map, List.getElem?_append_left (by omega), List.getElem?_eq_getElem (by omega)]
      rfl
    rw [grTo_hex (grTo_texts ts xs dot hl h us k (by omega)) (by rw [e]; exact h k (by omega))]
    congr 1
    rw [List.take_add_one, List.getD_eq_getElem?_getD, List.getElem?_eq_getElem (by omega)]
    rfl
theorem groups_texts (ts : List (List UInt8)) (xs : List Nat) (dot : Bool) (h0 : ts ≠ []) (hp : ∀ t ∈ ts, Plain6 t) (hl : ts.length = xs.length) (h : ∀ k (hk : k < ts.length), hexG (ofL ts[k]) = some (xs.getD k 0)) : groupsB (ofL (rowT ts)) dot = some xs := by
  unfold groupsB
  rw [if_neg (by rw [ofL_size]; intro e; exact rowT_ne ts h0 hp (List.eq_nil_of_length_eq_zero e)), pieces_cutL, rowT_cut ts h0 (fun t ht => (hp t ht).2), List.length_map]
  have := grTo_texts ts xs dot (by omega) h [] ts.length (Nat.le_refl _)
  rw [List.append_nil] at this
  rw [this, List.take_of_length_le (by omega)]

theorem rowT_snoc (x : List UInt8) : ∀ ts : List (List UInt8), rowT (ts ++ [x]) = (if 0 < ts.length then rowT ts ++ [58] else rowT ts) ++ x
  | [] => by simp [rowT]
  | [y] => by simp [rowT]
  | y :: z :: r => by
    have ih := rowT_snoc x (z :: r)
    rw [if_pos (by simp)] at ih
    rw [if_pos (by simp)]
    show rowT (y :: z :: (r ++ [x])) = _
    rw [rowT, rowT]
    have e : z :: (r ++ [x]) = (z :: r) ++ [x] := rfl
    rw [e, ih]
    simp
/-- What the reference's Join makes of texts. -/
theorem join_rowT (ts : List (List UInt8)) : (joinB (ts.map ofL) { data := #[58] }).data.toList = rowT ts := by
  have key : ∀ n (l : List (List UInt8)), l.length = n → (joinB (l.map ofL) { data := #[58] }).data.toList = rowT l := by
    intro n
    induction n with
    | zero =>
      intro l h
      have := List.eq_nil_of_length_eq_zero h
      subst this
      rfl
    | succ n ih =>
      intro l h
      obtain ⟨l', x, rfl⟩ : ∃ l' x, l = l' ++ [x] := ⟨l.dropLast, l.getLast (by intro e; rw [e] at h; simp at h), (List.dropLast_concat_getLast _).symm⟩
      have hl' : l'.length = n := by simp at h; exact h
      rw [List.map_append, List.map_cons, List.map_nil, joinB_snoc, rowT_snoc, data_append, List.length_map, ofL_data]
      have ih' := ih l' hl'
      by_cases h0 : 0 < l'.length
      · rw [if_pos h0, if_pos h0, data_append, ih']
      · rw [if_neg h0, if_neg h0, ih']
  exact key ts.length ts rfl

/-- A great digit. -/
def hexU (d : Nat) : UInt8 := if d < 10 then UInt8.ofNat (48 + d) else UInt8.ofNat (55 + d)
theorem hexU_nat (d : Nat) (h : d < 16) : (hexU d).toNat = if d < 10 then 48 + d else 55 + d := by
  unfold hexU
  split
  · rw [UInt8.toNat_ofNat', Nat.mod_eq_of_lt (by omega)]
  · rw [UInt8.toNat_ofNat', Nat.mod_eq_of_lt (by omega)]
theorem digC_hexU (d : Nat) (h : d < 16) : digC (hexU d).toNat = d := by
  rw [hexU_nat d h]
  unfold digC
  by_cases h1 : d < 10
  · rw [if_pos h1, if_pos (by omega)]; omega
  · rw [if_neg h1, if_neg (by omega), if_neg (by omega), if_pos (by omega)]; omega
/-- A group's four great digits. -/
def upL (n : Nat) : List UInt8 := [hexU (n / 4096 % 16), hexU (n / 256 % 16), hexU (n / 16 % 16), hexU (n % 16)]
theorem upL_mem (n : Nat) : ∀ c ∈ upL n, c.toNat ≠ 58 ∧ c.toNat ≠ 46 := by
  intro c hc
  have one : ∀ d, d < 16 → (hexU d).toNat ≠ 58 ∧ (hexU d).toNat ≠ 46 := by
    intro d hd
    rw [hexU_nat d hd]
    split <;> omega
  simp only [upL, List.mem_cons, List.not_mem_nil, or_false] at hc
  rcases hc with h | h | h | h <;> (rw [h]; exact one _ (by omega))
theorem upL_plain (n : Nat) : Plain6 (upL n) := ⟨by simp [upL], fun c hc => (upL_mem n c hc).1⟩
theorem upL_hex (n : Nat) (h : n < 65536) : hexG (ofL (upL n)) = some n := by
  unfold hexG
  rw [if_neg (by rw [ofL_size]; simp [upL]), numB_ofL _ _ (by simp [upL])]
  unfold upL
  simp only [numL]
  rw [digC_hexU _ (by omega), digC_hexU _ (by omega), digC_hexU _ (by omega), digC_hexU _ (by omega)]
  unfold most
  rw [if_neg (by omega), if_neg (by omega), if_neg (by omega), if_neg (by omega), if_neg (by omega), if_neg (by omega), if_neg (by omega), if_neg (by omega)]
  congr 1
  omega
theorem ups_plain (gs : List Nat) : ∀ t ∈ gs.map upL, Plain6 t := by
  intro t ht
  obtain ⟨x, _, rfl⟩ := List.mem_map.1 ht
  exact upL_plain x
theorem ups_hex (gs : List Nat) (hlt : ∀ x ∈ gs, x < 65536) : ∀ k (hk : k < (gs.map upL).length), hexG (ofL (gs.map upL)[k]) = some (gs.getD k 0) := by
  intro k hk
  have hk2 : k < gs.length := by simpa using hk
  rw [List.getElem_map, List.getD_eq_getElem?_getD, List.getElem?_eq_getElem hk2]
  exact upL_hex _ (hlt _ (List.getElem_mem _))
theorem parse_groups (ts : List (List UInt8)) (xs : List Nat) (h0 : ts ≠ []) (hp : ∀ t ∈ ts, Plain6 t) (hl : ts.length = xs.length) (h : ∀ k (hk : k < ts.length), hexG (ofL ts[k]) = some (xs.getD k 0)) : parseB (ofL (rowT ts)) = if xs.length = 8 then some xs else none := by
  rw [parse_plain _ (rowT_gap ts hp), groups_texts ts xs true h0 hp hl h]
theorem parse_stuck (l : List UInt8) (ts : List (List UInt8)) (hg : noGap l) (h0 : l ≠ []) (hc : cutL 58 l = ts) (t : List UInt8) (ht : t ∈ ts) (hx : hexG (ofL t) = none) (hs : strictB (ofL t) = none) : parseB (ofL l) = none := by
  rw [parse_plain _ hg, groups_stuck l true ts h0 hc t ht hx hs]
theorem ups_ne (gs : List Nat) (h8 : gs.length = 8) : gs.map upL ≠ [] := by
  intro e
  have := congrArg List.length e
  simp [h8] at this
theorem whole_ok (gs : List Nat) (h8 : gs.length = 8) (hlt : ∀ x ∈ gs, x < 65536) : parseB (ofL (rowT (gs.map upL))) = some gs := by
  rw [parse_groups _ gs (ups_ne gs h8) (ups_plain gs) (by simp) (ups_hex gs hlt), if_pos h8]
theorem whole_less (gs : List Nat) (h8 : gs.length = 8) (hlt : ∀ x ∈ gs, x < 65536) : parseB (ofL (rowT ((gs.take 7).map upL))) = none := by
  rw [parse_groups _ (gs.take 7) (by intro e; have := congrArg List.length e; simp [h8] at this) (ups_plain _) (by simp) (ups_hex _ (fun x hx => hlt x (List.mem_of_mem_take hx))), if_neg (by simp [h8])]
theorem whole_more (gs : List Nat) (h8 : gs.length = 8) (hlt : ∀ x ∈ gs, x < 65536) : parseB (ofL (rowT (gs.map upL) ++ [58, 48])) = none := by
  have e : rowT (gs.map upL) ++ [58, 48] = rowT (gs.map upL ++ [[48]]) := by
    rw [rowT_snoc, if_pos (by simp [h8])]; simp
  have hp : ∀ t ∈ gs.map upL ++ [[48]], Plain6 t := by
    intro t ht
    rcases List.mem_append.1 ht with h | h
    · exact ups_plain gs t h
    · rw [List.mem_singleton] at h; rw [h]; exact ⟨by simp, by decide⟩
  rw [e, parse_groups _ (gs ++ [0]) (by simp) hp (by simp) ?_, if_neg (by simp [h8])]
  intro k hk
  by_cases hk8 : k < 8
  · have hk2 : k < (gs.map upL).length := by simp [h8]; exact hk8
    rw [List.getElem_append_left hk2, ups_hex gs hlt k hk2, List.getD_eq_getElem?_getD, List.getD_eq_getElem?_getD, List.getElem?_append_left (by omega)]
  · have hk9 : k = 8 := by simp [h8] at hk; omega
    subst hk9
    have e1 : (gs.map upL ++ [[48]])[8] = [48] := by
      rw [List.getElem_append_right (by simp [h8])]; simp [h8]
    have e2 : (gs ++ [0]).getD 8 0 = 0 := by
      rw [List.getD_eq_getElem?_getD, List.getElem?_append_right (by omega)]; simp [h8]
    rw [e1, e2]
    rfl
theorem whole_long (gs : List Nat) (h8 : gs.length = 8) : parseB (ofL (48 :: rowT (gs.map upL))) = none := by
  obtain ⟨x0, x1, x2, x3, x4, x5, x6, x7, rfl⟩ := list8 gs h8
  have e : 48 :: rowT ([x0, x1, x2, x3, x4, x5, x6, x7].map upL) = rowT ((48 :: upL x0) :: [x1, x2, x3, x4, x5, x6, x7].map upL) := rfl
  have hp : ∀ t ∈ (48 :: upL x0) :: [x1, x2, x3, x4, x5, x6, x7].map upL, Plain6 t := by
    intro t ht
    rcases List.mem_cons.1 ht with h | h
    · rw [h]
      exact ⟨by simp, fun c hc => by
        rcases List.mem_cons.1 hc with h | h
        · rw [h]; decide
        · exact (upL_mem x0 c h).1⟩
    · exact ups_plain _ t h
  rw [e]
  refine parse_stuck _ _ (rowT_gap _ hp) (rowT_ne _ (by simp) hp) (rowT_cut _ (by simp) (fun t ht => (hp t ht).2)) (48 :: upL x0) (by simp) ?_ (strictB_plain _ (fun c hc => by
    rcases List.mem_cons.1 hc with h | h
    · rw [h]; decide
    · exact (upL_mem x0 c h).2))
  unfold hexG
  rw [if_pos (by rw [ofL_size]; simp [upL])]
theorem whole_ahead (gs : List Nat) (h8 : gs.length = 8) : parseB (ofL (58 :: rowT (gs.map upL))) = none := by
  have hc : cutL 58 (58 :: rowT (gs.map upL)) = [] :: gs.map upL := by
    show cutL 58 ([] ++ 58 :: rowT (gs.map upL)) = _
    rw [cutL_first 58 58 rfl _ _ (by simp), rowT_cut _ (ups_ne gs h8) (fun t ht => (ups_plain gs t ht).2)]
  exact parse_stuck _ _ (noGap_ahead _ (rowT_gap _ (ups_plain gs)) (rowT_head _ (ups_ne gs h8) (ups_plain gs))) (by simp) hc [] (by simp) hexG_nil strictB_nil
theorem whole_behind (gs : List Nat) (h8 : gs.length = 8) : parseB (ofL (rowT (gs.map upL) ++ [58])) = none := by
  have e : rowT (gs.map upL) ++ [58] = rowT (gs.map upL ++ [[]]) := by
    rw [rowT_snoc, if_pos (by simp [h8])]; simp
  have hc : cutL 58 (rowT (gs.map upL) ++ [58]) = gs.map upL ++ [[]] := by
    rw [e, rowT_cut _ (by simp) (fun t ht => by
      rcases List.mem_append.1 ht with h | h
      · exact (ups_plain gs t h).2
      · rw [List.mem_singleton] at h; rw [h]; simp)]
  exact parse_stuck _ _ (noGap_colon _ (rowT_gap _ (ups_plain gs)) (rowT_last _ (ups_plain gs) (ups_ne gs h8)) (rowT_ne _ (ups_ne gs h8) (ups_plain gs))) (by simp) hc [] (by simp) hexG_nil strictB_nil

/-- Two colons in place of a row of zeros. -/
theorem gaps_ok (gs : List Nat) (A K : Nat) (h8 : gs.length = 8) (hlt : ∀ x ∈ gs, x < 65536) (hAK : A < K) (hK : K ≤ 8) (hz : ∀ j, A ≤ j → j < K → gs.getD j 0 = 0) :
    parseB (ofL (rowL (gs.take A) ++ 58 :: 58 :: rowL (gs.drop K))) = some gs := by
  have lt1 : ∀ x ∈ gs.take A, x < 65536 := fun x hx => hlt x (List.mem_of_mem_take hx)
  have lt2 : ∀ x ∈ gs.drop K, x < 65536 := fun x hx => hlt x (List.mem_of_mem_drop hx)
  have hl : rowL (gs.take A) = [] ∨ ((rowL (gs.take A)).getD ((rowL (gs.take A)).length - 1) 0).toNat ≠ 58 := by
    by_cases hA : gs.take A = []
    · rw [hA]; exact .inl rfl
    · exact .inr (rowL_last _ lt1 hA)
  rw [parse_merge _ _ (rowL_gap _ lt1) hl, groupsB_row _ _ lt1, groupsB_row _ _ lt2]
  have n1 : (gs.take A).length = A := by simp; omega
  have n2 : (gs.drop K).length = 8 - K := by simp; omega
  show (if 7 < (gs.take A).length + (gs.drop K).length then none else some (gs.take A ++ List.replicate (8 - (gs.take A).length - (gs.drop K).length) 0 ++ gs.drop K)) = _
  rw [n1, n2, if_neg (by omega), show 8 - A - (8 - K) = K - A by omega, run_split gs A K h8 (by omega) hK hz]
theorem cutL_ne : ∀ l : List UInt8, cutL 58 l ≠ []
  | [] => by simp [cutL]
  | c :: l => by
    rw [cutL]
    split
    · simp
    · split <;> simp
theorem cutL_behind : ∀ (l : List UInt8), cutL 58 (l ++ [58]) = cutL 58 l ++ [[]]
  | [] => rfl
  | c :: l => by
    have ih := cutL_behind l
    have hn := cutL_ne l
    rw [List.cons_append, cutL, cutL, ih]
    split
    · rfl
    · cases h : cutL 58 l with
      | nil => exact absurd h hn
      | cons x r => rfl
theorem cutL_ahead (l : List UInt8) : cutL 58 (58 :: l) = [] :: cutL 58 l := by
  show cutL 58 ([] ++ 58 :: l) = _
  rw [cutL_first 58 58 rfl _ _ (by simp)]
theorem mergeB_none (oa : Option (List Nat)) : mergeB oa none = none := by cases oa <;> rfl
theorem rowL_ends (l : List Nat) (hlt : ∀ x ∈ l, x < 65536) : rowL l = [] ∨ ((rowL l).getD ((rowL l).length - 1) 0).toNat ≠ 58 := by
  by_cases h : l = []
  · rw [h]; exact .inl rfl
  · exact .inr (rowL_last _ hlt h)
theorem gaps_twice (a b : List Nat) (ha : ∀ x ∈ a, x < 65536) : parseB (ofL ((rowL a ++ 58 :: 58 :: rowL b) ++ [58, 58])) = none := by
  have e : (rowL a ++ 58 :: 58 :: rowL b) ++ [58, 58] = rowL a ++ 58 :: 58 :: (rowL b ++ [58] ++ [58]) := by simp
  rw [e, parse_merge _ _ (rowL_gap _ ha) (rowL_ends a ha), groups_stuck (rowL b ++ [58] ++ [58]) true _ (by simp) (cutL_behind _) [] (by simp) hexG_nil strictB_nil, mergeB_none]
theorem gaps_three (a b : List Nat) (ha : ∀ x ∈ a, x < 65536) : parseB (ofL (58 :: (rowL a ++ 58 :: 58 :: rowL b))) = none := by
  by_cases h : a = []
  · subst h
    show parseB (ofL ([] ++ 58 :: 58 :: (58 :: rowL b))) = none
    rw [parse_merge [] _ trivial (.inl rfl), groups_stuck (58 :: rowL b) true _ (by simp) (cutL_ahead _) [] (by simp) hexG_nil strictB_nil, mergeB_none]
  · have e : 58 :: (rowL a ++ 58 :: 58 :: rowL b) = (58 :: rowL a) ++ 58 :: 58 :: rowL b := rfl
    have hne := rowL_ne a h ha
    have hl : ((58 :: rowL a).getD ((58 :: rowL a).length - 1) 0).toNat ≠ 58 := by
      have := rowL_last a ha h
      have hp : 0 < (rowL a).length := List.length_pos_iff.2 hne
      rw [List.getD_eq_getElem?_getD] at this ⊢
      rw [List.length_cons, Nat.add_sub_cancel, show (rowL a).length = ((rowL a).length - 1) + 1 by omega, List.getElem?_cons_succ]
      exact this
    rw [e, parse_merge _ _ (noGap_ahead _ (rowL_gap a ha) (rowL_head a h ha)) (.inr hl), groups_stuck (58 :: rowL a) false _ (by simp) (cutL_ahead _) [] (by simp) hexG_nil strictB_nil]
    rfl

/-- A strict text's bytes. -/
def d4 (a b c d : Nat) : List UInt8 := dec a ++ 46 :: (dec b ++ 46 :: (dec c ++ 46 :: dec d))
theorem d4_plain (a b c d : Nat) : Plain6 (d4 a b c d) := ⟨by unfold d4; simp, text4_mem a b c d⟩
theorem groupL_plain (n : Nat) (h : n < 65536) : Plain6 (groupL n) := ⟨groupL_ne n h, groupL_mem n⟩
theorem ts_plain (l : List Nat) (hlt : ∀ x ∈ l, x < 65536) : ∀ t ∈ l.map groupL, Plain6 t := by
  intro t ht
  obtain ⟨x, hx, rfl⟩ := List.mem_map.1 ht
  exact groupL_plain x (hlt x hx)
theorem ts_hex (l : List Nat) (hlt : ∀ x ∈ l, x < 65536) : ∀ k (hk : k < (l.map groupL).length), hexG (ofL (l.map groupL)[k]) = some (l.getD k 0) := by
  intro k hk
  have hk2 : k < l.length := by simpa using hk
  rw [List.getElem_map, List.getD_eq_getElem?_getD, List.getElem?_eq_getElem hk2]
  exact hexG_group _ (hlt _ (List.getElem_mem _))
/-- Groups, and a strict text behind them. -/
theorem groups_dots (l : List Nat) (a b c d : Nat) (hlt : ∀ x ∈ l, x < 65536) (ha : a < 256) (hb : b < 256) (hc : c < 256) (hd : d < 256) :
    groupsB (ofL (rowT (l.map groupL ++ [d4 a b c d]))) true = some (l ++ [num4 a b c d / 65536, num4 a b c d % 65536]) := by
  have hp : ∀ t ∈ l.map groupL ++ [d4 a b c d], Plain6 t := by
    intro t ht
    rcases List.mem_append.1 ht with h | h
    · exact ts_plain l hlt t h
    · rw [List.mem_singleton] at h; rw [h]; exact d4_plain a b c d
  unfold groupsB
  rw [if_neg (by rw [ofL_size]; intro e; exact rowT_ne _ (by simp) hp (List.eq_nil_of_length_eq_zero e)), pieces_cutL, rowT_cut _ (by simp) (fun t ht => (hp t ht).2), List.length_map]
  have h1 := grTo_texts (l.map groupL) l true (by simp) (ts_hex l hlt) [d4 a b c d] l.length (by simp)
  have e : ((l.map groupL ++ [d4 a b c d]).map ofL).getD l.length ⟨#[]⟩ = text4 a b c d := by
    rw [List.getD_eq_getElem?_getD, List.getElem?_map, List.getElem?_append_right (by simp)]
    simp
    rfl
  have h2 := grTo_strict h1 (by rw [e]; exact hexG_dots a b c d ha) (by rw [e]; exact text4_strict a b c d _ ha hb hc hd rfl)
  rw [show (l.map groupL ++ [d4 a b c d]).length = l.length + 1 by simp, h2, if_pos ⟨rfl, by simp⟩, List.take_of_length_le (Nat.le_refl _)]
theorem dots_parse (l : List Nat) (a b c d : Nat) (hlt : ∀ x ∈ l, x < 65536) (ha : a < 256) (hb : b < 256) (hc : c < 256) (hd : d < 256) :
    parseB (ofL (rowT (l.map groupL ++ [d4 a b c d]))) = if l.length = 6 then some (l ++ [num4 a b c d / 65536, num4 a b c d % 65536]) else none := by
  have hp : ∀ t ∈ l.map groupL ++ [d4 a b c d], Plain6 t := by
    intro t ht
    rcases List.mem_append.1 ht with h | h
    · exact ts_plain l hlt t h
    · rw [List.mem_singleton] at h; rw [h]; exact d4_plain a b c d
  rw [parse_plain _ (rowT_gap _ hp), groups_dots l a b c d hlt ha hb hc hd]
  by_cases h : l.length = 6
  · simp [h]
  · simp [h]
theorem dots_ahead (l : List Nat) (a b c d : Nat) (h0 : l ≠ []) (hlt : ∀ x ∈ l, x < 65536) (ha : a < 256) (hb : b < 256) (hc : c < 256) (hd : d < 256) :
    parseB (ofL (rowT (d4 a b c d :: l.map groupL))) = none := by
  have hp : ∀ t ∈ d4 a b c d :: l.map groupL, Plain6 t := by
    intro t ht
    rcases List.mem_cons.1 ht with h | h
    · rw [h]; exact d4_plain a b c d
    · exact ts_plain l hlt t h
  rw [parse_plain _ (rowT_gap _ hp)]
  have hg : groupsB (ofL (rowT (d4 a b c d :: l.map groupL))) true = none := by
    unfold groupsB
    rw [if_neg (by rw [ofL_size]; intro e; exact rowT_ne _ (by simp) hp (List.eq_nil_of_length_eq_zero e)), pieces_cutL, rowT_cut _ (by simp) (fun t ht => (hp t ht).2)]
    have hl : 0 < l.length := List.length_pos_iff.2 h0
    have k1 : grTo ((d4 a b c d :: l.map groupL).map ofL) true (0 + 1) = none := by
      rw [grTo_strict (l := (d4 a b c d :: l.map groupL).map ofL) (dot := true) (k := 0) (v := num4 a b c d) (out := []) rfl (by exact hexG_dots a b c d ha) (by exact text4_strict a b c d _ ha hb hc hd rfl), if_neg (by simp; omega)]
    exact grTo_dead (by simp) k1
  rw [hg]

/-- What is printed of seven ones and a group. -/
theorem ones_run (x : Nat) : (runB [1, 1, 1, 1, 1, 1, 1, x]).2 = 0 := by
  unfold runB
  by_cases h : x = 0
  · subst h; decide
  · simp [runTo, zrun, zl, h]
theorem ones_list (x : Nat) : (printB [1, 1, 1, 1, 1, 1, 1, x]).data.toList = [49, 58, 49, 58, 49, 58, 49, 58, 49, 58, 49, 58, 49, 58] ++ groupL x := by
  have g1 : groupL 1 = [49] := by rw [groupL_one (by decide)]; decide
  have hm : mappedB [1, 1, 1, 1, 1, 1, 1, x] = false := by simp [mappedB, zer]
  unfold printB
  rw [hm, if_neg (by simp), if_pos (ones_run x), rowS_list]
  simp [rowL, g1]
theorem ones_cut (x : Nat) : (printB [1, 1, 1, 1, 1, 1, 1, x]).extract 14 (printB [1, 1, 1, 1, 1, 1, 1, x]).size = ofL (groupL x) := by
  have h : printB [1, 1, 1, 1, 1, 1, 1, x] = ofL ([49, 58, 49, 58, 49, 58, 49, 58, 49, 58, 49, 58, 49, 58] ++ groupL x) := eq_ofL (ones_list x)
  rw [h]
  apply eq_ofL
  rw [data_extract, ofL_data, ofL_size]
  simp
/-- The printed text of seven ones and a group, and what of it is cut. -/
theorem ones_text (x : Nat) (hx : x < 65536) : ∃ P : ByteArray, printB [1, 1, 1, 1, 1, 1, 1, x] = P ∧ P.extract 14 P.size = ofL (groupL x) ∧ 14 ≤ P.size ∧ P.size ≤ 1000 := by
  refine ⟨_, rfl, ones_cut x, ?_, printB_small _ rfl (by
    intro y hy
    simp at hy
    rcases hy with h | h <;> omega)⟩
  have h : printB [1, 1, 1, 1, 1, 1, 1, x] = ofL ([49, 58, 49, 58, 49, 58, 49, 58, 49, 58, 49, 58, 49, 58] ++ groupL x) := eq_ofL (ones_list x)
  rw [h, ofL_size]
  simp
end Go.Proofs.YtgbajagacmfcmaaGreatDoor
