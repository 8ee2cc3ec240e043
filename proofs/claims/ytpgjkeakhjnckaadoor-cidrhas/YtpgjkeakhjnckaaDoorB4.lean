/- Texts that belong together, one behind the other: RefCidrMay, Decimals, Prints, HexParts, Pieces, RefSixPrint, RefSixRow, Hexes. -/
import Derived.Test.YtpgjkeakhjnckaaDoorB3
import Derived.Test.YtpgjkeakhjnckaaDoorShelf
import Derived.Deep.RegionHeld3
import Derived.Lib.LaidTab
/- Contract of the reference's May of layer 5. -/
namespace Go.Proofs.YtpgjkeakhjnckaaDoor
open Go.RowKit
set_option linter.unusedVariables false
set_option maxRecDepth 20000

/-- Which prefix may be, as the reference asks it. -/
def mayQ (f : Int) (bs : List Nat) (n : Int) : Bool := decide (mayB f bs = true ∧ f ≠ 0 ∧ 0 ≤ n ∧ n ≤ (bitsN f : Int) ∧ ∀ i : Nat, i < bitsN f → n.toNat ≤ i → bitA bs i = 0)
set_option maxRecDepth 100000 in
set_option maxHeartbeats 2000000 in
theorem refMayQ_any (f : Int) (ps : List Nat) (n : Int) (w : World) (hp : ps.length = 16) (lp : ∀ x ∈ ps, x < 256) :
    Calls Tryd.prog 12 #[prefV f ps n] w fun e w' => e = .returned (.bool (mayQ f ps n)) ∧ Below w.heap.size w w' := by
  have HP := Lib.hid hp
  obtain ⟨R, eR⟩ : ∃ R, mayQ f ps n = R := ⟨_, rfl⟩
  rw [eR]
  have HE : Hid (decide (mayB f ps = true ∧ f ≠ 0 ∧ 0 ≤ n ∧ n ≤ (bitsN f : Int) ∧ ∀ i : Nat, i < bitsN f → n.toNat ≤ i → bitA ps i = 0) = R) := Lib.hid (by rw [← eR]; rfl)
  have HC1 := fun W (k : Nat) (hk : k ≤ 1000) => Lib.hid (refBit_any f ps (k : Int) W hp lp (wf_small (by omega)))
  have HBI := fun W => Lib.hid (refBits_any f ps W hp)
  have HMB := fun W => Lib.hid (refMay_any f ps W hp)
  have HN := bitsN_le f
  have HBA : Hid (∀ k : Nat, k < bitsN f → bitN f ps (k : Int) = bitA ps k) := Lib.hid (fun k hk => bitN_A f ps k hk)
  generalize mayB f ps = mb at *
  generalize bitsN f = N at *
  obtain ⟨cs, ecs, H1, HB⟩ := pref_boxed f ps n w hp
  rw [ecs]
  clear ecs hp eR lp
  go_enter Tryd.func12, Tryd.ntmps12
  go_upto_region 1 with fail
  generalize (w.alloc (.cells cs 26)) = W at *
  have H1a := Lib.hid H1.out.addr
  go_wp2_with (refine load_addr_g H1a _ rfl rfl rfl ?_)
  refine (HMB _).out.mono ?_
  rintro e w1 ⟨rfl, hb1⟩
  have H2 := Lib.hid (H1.out.below hb1)
  have HB2 := Lib.hid (chain HB.out hb1)
  clear H1 HB hb1 H1a HMB
  obtain ⟨L, hL⟩ : ∃ L, [(w.heap.size, 0, prefL f ps n), (w.heap.size, 0, addrL f ps)] = L := ⟨_, rfl⟩
  have HK := Lib.hid (show HeldR L w w1 by rw [← hL]; exact (HeldR.nil HB2.out).pref H2.out)
  have Mp := Lib.hid (show InP L w.heap.size f ps n from ⟨by rw [← hL]; simp, HP.out⟩)
  have Ma := Lib.hid (show InA L w.heap.size f ps from ⟨by rw [← hL]; simp, HP.out⟩)
  have Cn := Lib.hid (bitsR Mp.out w)
  have Cf := Lib.hid (famPR Mp.out w)
  clear hL HB2
  have C1 : ∀ w', HeldR L w w' → Hid (Calls Tryd.prog 30 #[addrV f ps] w' fun e w'' => e = .returned (.int .i64 ((N : Nat) : Int)) ∧ Below w'.heap.size w' w'') := fun w' h => HBI w'
  cases mb with
  | false =>
    have HE2 : Hid (false = R) := Lib.hid (by rw [← HE.out]; exact (decide_eq_false (fun h => absurd h.1 (by decide))).symm)
    go_upto_region 2 with fail
    refine wp_region_noPanic ?_
    refine wp_region_held_drew (S := HeldR L w) (by kernel_rfl) HK.out.drew (fun hHeld => ?_)
    refine wpAnyH_take (i := 0) (v := ?_) rfl (by kernel_rfl) (by kernel_rfl) (by kernel_rfl) (fun _ _ _ h => h) (Or.inl ⟨by rfl, ?_⟩) (by assumption) ?_
    rotate_left
    · (intro w hSw; go_simp; try (with_reducible rfl))
    try simp only [Act.put, List.getElem_toArray, List.getElem_cons_zero, List.setIfInBounds_toArray, List.set_cons_zero, List.set_cons_succ]
    refine wpAnyH_take (i := 1) (v := ?_) rfl (by kernel_rfl) (by kernel_rfl) (by kernel_rfl) (fun _ _ _ h => h) (Or.inl ⟨by rfl, ?_⟩) (by assumption) ?_
    rotate_left
    · (intro w hSw; go_simp; try (with_reducible rfl))
    try simp only [Act.put, List.getElem_toArray, List.getElem_cons_zero, List.getElem_cons_succ, List.setIfInBounds_toArray, List.set_cons_zero, List.set_cons_succ]
    refine wpAnyH_take (i := 2) (v := ?_) rfl (by kernel_rfl) (by kernel_rfl) (by kernel_rfl) (fun _ _ _ h => h) (Or.inl ⟨by rfl, ?_⟩) (by assumption) ?_
    rotate_left
    · (intro w hSw; go_simp; try (with_reducible rfl))
    try simp only [Act.put, List.getElem_toArray, List.getElem_cons_zero, List.getElem_cons_succ, List.setIfInBounds_toArray, List.set_cons_zero, List.set_cons_succ]
    refine wpAnyH_take (i := 3) (v := undef) rfl (by kernel_rfl) (by kernel_rfl) (by kernel_rfl) (fun _ _ _ h => h) (Or.inr ⟨by rfl, rfl⟩) (by assumption) ?_
    try simp only [Act.put, List.getElem_toArray, List.getElem_cons_zero, List.getElem_cons_succ, List.setIfInBounds_toArray, List.set_cons_zero, List.set_cons_succ]
    refine wpAnyH_take (i := 4) (v := undef) rfl (by kernel_rfl) (by kernel_rfl) (by kernel_rfl) (fun _ _ _ h => h) (Or.inr ⟨by rfl, rfl⟩) (by assumption) ?_
    try simp only [Act.put, List.getElem_toArray, List.getElem_cons_zero, List.getElem_cons_succ, List.setIfInBounds_toArray, List.set_cons_zero, List.set_cons_succ]
    refine wpAnyH_take (i := 5) (v := undef) rfl (by kernel_rfl) (by kernel_rfl) (by kernel_rfl) (fun _ _ _ h => h) (Or.inr ⟨by rfl, rfl⟩) (by assumption) ?_
    try simp only [Act.put, List.getElem_toArray, List.getElem_cons_zero, List.getElem_cons_succ, List.setIfInBounds_toArray, List.set_cons_zero, List.set_cons_succ]
    refine wpAnyH_take (i := 6) (v := undef) rfl (by kernel_rfl) (by kernel_rfl) (by kernel_rfl) (fun _ _ _ h => h) (Or.inr ⟨by rfl, rfl⟩) (by assumption) ?_
    try simp only [Act.put, List.getElem_toArray, List.getElem_cons_zero, List.getElem_cons_succ, List.setIfInBounds_toArray, List.set_cons_zero, List.set_cons_succ]
    refine wpAnyH_take (i := 7) (v := ?_) rfl (by kernel_rfl) (by kernel_rfl) (by kernel_rfl) (fun _ _ _ h => h) (Or.inl ⟨by rfl, ?_⟩) (by assumption) ?_
    rotate_left
    · (intro w hSw; go_simp; try (with_reducible rfl))
    try simp only [Act.put, List.getElem_toArray, List.getElem_cons_zero, List.getElem_cons_succ, List.setIfInBounds_toArray, List.set_cons_zero, List.set_cons_succ]
    refine wpAnyH_take (i := 8) (v := ?_) rfl (by kernel_rfl) (by kernel_rfl) (by kernel_rfl) (fun _ _ _ h => h) (Or.inl ⟨by rfl, ?_⟩) (by assumption) ?_
    rotate_left
    · (intro w hSw; go_simp; try (with_reducible rfl))
    try simp only [Act.put, List.getElem_toArray, List.getElem_cons_zero, List.getElem_cons_succ, List.setIfInBounds_toArray, List.set_cons_zero, List.set_cons_succ]
    refine wpAnyH_take (i := 9) (v := undef) rfl (by kernel_rfl) (by kernel_rfl) (by kernel_rfl) (fun _ _ _ h => h) (Or.inr ⟨by rfl, rfl⟩) (by assumption) ?_
    try simp only [Act.put, List.getElem_toArray, List.getElem_cons_zero, List.getElem_cons_succ, List.setIfInBounds_toArray, List.set_cons_zero, List.set_cons_succ]
    refine wpAnyH_take (i := 10) (v := undef) rfl (by kernel_rfl) (by kernel_rfl) (by kernel_rfl) (fun _ _ _ h => h) (Or.inr ⟨by rfl, rfl⟩) (by assumption) ?_
    try simp only [Act.put, List.getElem_toArray, List.getElem_cons_zero, List.getElem_cons_succ, List.setIfInBounds_toArray, List.set_cons_zero, List.set_cons_succ]
    refine wpAnyH_take (i := 11) (v := undef) rfl (by kernel_rfl) (by kernel_rfl) (by kernel_rfl) (fun _ _ _ h => h) (Or.inr ⟨by rfl, rfl⟩) (by assumption) ?_
    try simp only [Act.put, List.getElem_toArray, List.getElem_cons_zero, List.getElem_cons_succ, List.setIfInBounds_toArray, List.set_cons_zero, List.set_cons_succ]
    refine wpAnyH_take (i := 12) (v := ?_) rfl (by kernel_rfl) (by kernel_rfl) (by kernel_rfl) (fun _ _ _ h => h) (Or.inl ⟨by rfl, ?_⟩) (by assumption) ?_
    rotate_left
    · (intro w hSw; go_simp; try (with_reducible rfl))
    try simp only [Act.put, List.getElem_toArray, List.getElem_cons_zero, List.getElem_cons_succ, List.setIfInBounds_toArray, List.set_cons_zero, List.set_cons_succ]
    refine wpAnyH_take (i := 13) (v := ?_) rfl (by kernel_rfl) (by kernel_rfl) (by kernel_rfl) (fun _ _ _ h => h) (Or.inl ⟨by rfl, ?_⟩) (by assumption) ?_
    rotate_left
    · (intro w hSw; go_simp; try (with_reducible rfl))
    try simp only [Act.put, List.getElem_toArray, List.getElem_cons_zero, List.getElem_cons_succ, List.setIfInBounds_toArray, List.set_cons_zero, List.set_cons_succ]
    refine wpAnyH_take (i := 14) (v := undef) rfl (by kernel_rfl) (by kernel_rfl) (by kernel_rfl) (fun _ _ _ h => h) (Or.inr ⟨by rfl, rfl⟩) (by assumption) ?_
    try simp only [Act.put, List.getElem_toArray, List.getElem_cons_zero, List.getElem_cons_succ, List.setIfInBounds_toArray, List.set_cons_zero, List.set_cons_succ]
    refine wpAnyH_take (i := 15) (v := undef) rfl (by kernel_rfl) (by kernel_rfl) (by kernel_rfl) (fun _ _ _ h => h) (Or.inr ⟨by rfl, rfl⟩) (by assumption) ?_
    try simp only [Act.put, List.getElem_toArray, List.getElem_cons_zero, List.getElem_cons_succ, List.setIfInBounds_toArray, List.set_cons_zero, List.set_cons_succ]
    refine wpAnyH_take (i := 16) (v := undef) rfl (by kernel_rfl) (by kernel_rfl) (by kernel_rfl) (fun _ _ _ h => h) (Or.inr ⟨by rfl, rfl⟩) (by assumption) ?_
    try simp only [Act.put, List.getElem_toArray, List.getElem_cons_zero, List.getElem_cons_succ, List.setIfInBounds_toArray, List.set_cons_zero, List.set_cons_succ]
    refine wpAnyH_take (i := 17) (v := undef) rfl (by kernel_rfl) (by kernel_rfl) (by kernel_rfl) (fun _ _ _ h => h) (Or.inr ⟨by rfl, rfl⟩) (by assumption) ?_
    try simp only [Act.put, List.getElem_toArray, List.getElem_cons_zero, List.getElem_cons_succ, List.setIfInBounds_toArray, List.set_cons_zero, List.set_cons_succ]
    refine wpAnyH_take (i := 18) (v := undef) rfl (by kernel_rfl) (by kernel_rfl) (by kernel_rfl) (fun _ _ _ h => h) (Or.inr ⟨by rfl, rfl⟩) (by assumption) ?_
    try simp only [Act.put, List.getElem_toArray, List.getElem_cons_zero, List.getElem_cons_succ, List.setIfInBounds_toArray, List.set_cons_zero, List.set_cons_succ]
    refine wpAnyH_take (i := 19) (v := undef) rfl (by kernel_rfl) (by kernel_rfl) (by kernel_rfl) (fun _ _ _ h => h) (Or.inr ⟨by rfl, rfl⟩) (by assumption) ?_
    try simp only [Act.put, List.getElem_toArray, List.getElem_cons_zero, List.getElem_cons_succ, List.setIfInBounds_toArray, List.set_cons_zero, List.set_cons_succ]
    refine wpAnyH_take (i := 20) (v := ?_) rfl (by kernel_rfl) (by kernel_rfl) (by kernel_rfl) (fun _ _ _ h => h) (Or.inl ⟨by rfl, ?_⟩) (by assumption) ?_
    rotate_left
    · (intro w hSw; go_simp; try (with_reducible rfl))
    try simp only [Act.put, List.getElem_toArray, List.getElem_cons_zero, List.getElem_cons_succ, List.setIfInBounds_toArray, List.set_cons_zero, List.set_cons_succ]
    refine wpAnyH_done (by kernel_rfl) ?_ _
    refine NoPanic.normal ?_
    go_wp2_with fail
    go_ret
    exact ⟨by rw [← HE2.out]; rfl, hHeld.bel⟩
  | true =>
    go_upto_region 2 with fail
    by_cases h0 : f = 0
    · have hd : (f == 0) = true := by simp [h0]
      have HE2 : Hid (false = R) := Lib.hid (by rw [← HE.out]; exact (decide_eq_false (fun h => absurd h0 h.2.1)).symm)
      clear h0
      refine wp_region_noPanic ?_
      refine wp_region_held_drew (S := HeldR L w) (by kernel_rfl) HK.out.drew (fun hHeld => ?_)
      refine wpAnyH_take (i := 0) (v := ?_) rfl (by kernel_rfl) (by kernel_rfl) (by kernel_rfl) (fun _ _ _ h => h) (Or.inl ⟨by rfl, ?_⟩) (by assumption) ?_
      rotate_left
      · (intro w hSw; go_simp; try (with_reducible rfl))
      try simp only [Act.put, List.getElem_toArray, List.getElem_cons_zero, List.setIfInBounds_toArray, List.set_cons_zero, List.set_cons_succ]
      refine wpAnyH_take (i := 1) (v := ?_) rfl (by kernel_rfl) (by kernel_rfl) (by kernel_rfl) (fun _ _ _ h => h) (Or.inl ⟨by rfl, ?_⟩) (by assumption) ?_
      rotate_left
      · (intro w hSw; go_simp; try (with_reducible rfl))
      try simp only [Act.put, List.getElem_toArray, List.getElem_cons_zero, List.getElem_cons_succ, List.setIfInBounds_toArray, List.set_cons_zero, List.set_cons_succ]
      refine wpAnyH_take (i := 2) (v := ?_) rfl (by kernel_rfl) (by kernel_rfl) (by kernel_rfl) (fun _ _ _ h => h) (Or.inl ⟨by rfl, ?_⟩) (by assumption) ?_
      rotate_left
      · (intro w hSw; go_simp; try (with_reducible rfl))
      try simp only [Act.put, List.getElem_toArray, List.getElem_cons_zero, List.getElem_cons_succ, List.setIfInBounds_toArray, List.set_cons_zero, List.set_cons_succ]
      refine wpAnyH_take (i := 3) (v := ?_) rfl (by kernel_rfl) (by kernel_rfl) (by kernel_rfl) (fun _ _ _ h => h) (Or.inl ⟨by rfl, ?_⟩) (by assumption) ?_
      rotate_left
      · (intro w hSw; go_simp; try (with_reducible rfl))
      try simp only [Act.put, List.getElem_toArray, List.getElem_cons_zero, List.getElem_cons_succ, List.setIfInBounds_toArray, List.set_cons_zero, List.set_cons_succ]
      refine wpAnyH_take (i := 4) (v := ?_) rfl (by kernel_rfl) (by kernel_rfl) (by kernel_rfl) (fun _ _ _ h => h) (Or.inl ⟨by rfl, ?_⟩) (by assumption) ?_
      rotate_left
      · (intro w hSw; go_simp; try (with_reducible rfl))
      try simp only [Act.put, List.getElem_toArray, List.getElem_cons_zero, List.getElem_cons_succ, List.setIfInBounds_toArray, List.set_cons_zero, List.set_cons_succ]
      refine wpAnyH_take (i := 5) (v := ?_) rfl (by kernel_rfl) (by kernel_rfl) (by kernel_rfl) (fun _ _ _ h => h) (Or.inl ⟨by rfl, ?_⟩) (by assumption) ?_
      rotate_left
      · (intro w hSw; have hc0 := Cf.out w hSw; go_simp; try (with_reducible rfl))
      try simp only [Act.put, List.getElem_toArray, List.getElem_cons_zero, List.getElem_cons_succ, List.setIfInBounds_toArray, List.set_cons_zero, List.set_cons_succ]
      refine wpAnyH_take (i := 6) (v := ?_) rfl (by kernel_rfl) (by kernel_rfl) (by kernel_rfl) (fun _ _ _ h => h) (Or.inl ⟨by rfl, ?_⟩) (by assumption) ?_
      rotate_left
      · (intro w hSw; go_simp; try (with_reducible rfl))
      try simp only [Act.put, List.getElem_toArray, List.getElem_cons_zero, List.getElem_cons_succ, List.setIfInBounds_toArray, List.set_cons_zero, List.set_cons_succ]
      refine wpAnyH_take (i := 7) (v := ?_) rfl (by kernel_rfl) (by kernel_rfl) (by kernel_rfl) (fun _ _ _ h => h) (Or.inl ⟨by rfl, ?_⟩) (by assumption) ?_
      rotate_left
      · (intro w hSw; go_simp; try (with_reducible rfl))
      try simp only [Act.put, List.getElem_toArray, List.getElem_cons_zero, List.getElem_cons_succ, List.setIfInBounds_toArray, List.set_cons_zero, List.set_cons_succ]
      refine wpAnyH_take (i := 8) (v := ?_) rfl (by kernel_rfl) (by kernel_rfl) (by kernel_rfl) (fun _ _ _ h => h) (Or.inl ⟨by rfl, ?_⟩) (by assumption) ?_
      rotate_left
      · (intro w hSw; go_simp; try (with_reducible rfl))
      try simp only [Act.put, List.getElem_toArray, List.getElem_cons_zero, List.getElem_cons_succ, List.setIfInBounds_toArray, List.set_cons_zero, List.set_cons_succ]
      refine wpAnyH_take (i := 9) (v := undef) rfl (by kernel_rfl) (by kernel_rfl) (by kernel_rfl) (fun _ _ _ h => h) (Or.inr ⟨by rfl, rfl⟩) (by assumption) ?_
      try simp only [Act.put, List.getElem_toArray, List.getElem_cons_zero, List.getElem_cons_succ, List.setIfInBounds_toArray, List.set_cons_zero, List.set_cons_succ]
      refine wpAnyH_take (i := 10) (v := undef) rfl (by kernel_rfl) (by kernel_rfl) (by kernel_rfl) (fun _ _ _ h => h) (Or.inr ⟨by rfl, rfl⟩) (by assumption) ?_
      try simp only [Act.put, List.getElem_toArray, List.getElem_cons_zero, List.getElem_cons_succ, List.setIfInBounds_toArray, List.set_cons_zero, List.set_cons_succ]
      refine wpAnyH_take (i := 11) (v := undef) rfl (by kernel_rfl) (by kernel_rfl) (by kernel_rfl) (fun _ _ _ h => h) (Or.inr ⟨by rfl, rfl⟩) (by assumption) ?_
      try simp only [Act.put, List.getElem_toArray, List.getElem_cons_zero, List.getElem_cons_succ, List.setIfInBounds_toArray, List.set_cons_zero, List.set_cons_succ]
      refine wpAnyH_take (i := 12) (v := ?_) rfl (by kernel_rfl) (by kernel_rfl) (by kernel_rfl) (fun _ _ _ h => h) (Or.inl ⟨by rfl, ?_⟩) (by assumption) ?_
      rotate_left
      · (intro w hSw; go_simp; try (with_reducible rfl))
      try simp only [Act.put, List.getElem_toArray, List.getElem_cons_zero, List.getElem_cons_succ, List.setIfInBounds_toArray, List.set_cons_zero, List.set_cons_succ]
      refine wpAnyH_take (i := 13) (v := ?_) rfl (by kernel_rfl) (by kernel_rfl) (by kernel_rfl) (fun _ _ _ h => h) (Or.inl ⟨by rfl, ?_⟩) (by assumption) ?_
      rotate_left
      · (intro w hSw; go_simp; try (with_reducible rfl))
      try simp only [Act.put, List.getElem_toArray, List.getElem_cons_zero, List.getElem_cons_succ, List.setIfInBounds_toArray, List.set_cons_zero, List.set_cons_succ]
      refine wpAnyH_take (i := 14) (v := undef) rfl (by kernel_rfl) (by kernel_rfl) (by kernel_rfl) (fun _ _ _ h => h) (Or.inr ⟨by rfl, rfl⟩) (by assumption) ?_
      try simp only [Act.put, List.getElem_toArray, List.getElem_cons_zero, List.getElem_cons_succ, List.setIfInBounds_toArray, List.set_cons_zero, List.set_cons_succ]
      refine wpAnyH_take (i := 15) (v := undef) rfl (by kernel_rfl) (by kernel_rfl) (by kernel_rfl) (fun _ _ _ h => h) (Or.inr ⟨by rfl, rfl⟩) (by assumption) ?_
      try simp only [Act.put, List.getElem_toArray, List.getElem_cons_zero, List.getElem_cons_succ, List.setIfInBounds_toArray, List.set_cons_zero, List.set_cons_succ]
      refine wpAnyH_take (i := 16) (v := undef) rfl (by kernel_rfl) (by kernel_rfl) (by kernel_rfl) (fun _ _ _ h => h) (Or.inr ⟨by rfl, rfl⟩) (by assumption) ?_
      try simp only [Act.put, List.getElem_toArray, List.getElem_cons_zero, List.getElem_cons_succ, List.setIfInBounds_toArray, List.set_cons_zero, List.set_cons_succ]
      refine wpAnyH_take (i := 17) (v := undef) rfl (by kernel_rfl) (by kernel_rfl) (by kernel_rfl) (fun _ _ _ h => h) (Or.inr ⟨by rfl, rfl⟩) (by assumption) ?_
      try simp only [Act.put, List.getElem_toArray, List.getElem_cons_zero, List.getElem_cons_succ, List.setIfInBounds_toArray, List.set_cons_zero, List.set_cons_succ]
      refine wpAnyH_take (i := 18) (v := undef) rfl (by kernel_rfl) (by kernel_rfl) (by kernel_rfl) (fun _ _ _ h => h) (Or.inr ⟨by rfl, rfl⟩) (by assumption) ?_
      try simp only [Act.put, List.getElem_toArray, List.getElem_cons_zero, List.getElem_cons_succ, List.setIfInBounds_toArray, List.set_cons_zero, List.set_cons_succ]
      refine wpAnyH_take (i := 19) (v := undef) rfl (by kernel_rfl) (by kernel_rfl) (by kernel_rfl) (fun _ _ _ h => h) (Or.inr ⟨by rfl, rfl⟩) (by assumption) ?_
      try simp only [Act.put, List.getElem_toArray, List.getElem_cons_zero, List.getElem_cons_succ, List.setIfInBounds_toArray, List.set_cons_zero, List.set_cons_succ]
      refine wpAnyH_take (i := 20) (v := ?_) rfl (by kernel_rfl) (by kernel_rfl) (by kernel_rfl) (fun _ _ _ h => h) (Or.inl ⟨by rfl, ?_⟩) (by assumption) ?_
      rotate_left
      · (intro w hSw; go_simp; try (with_reducible rfl))
      try simp only [Act.put, List.getElem_toArray, List.getElem_cons_zero, List.getElem_cons_succ, List.setIfInBounds_toArray, List.set_cons_zero, List.set_cons_succ]
      refine wpAnyH_done (by kernel_rfl) ?_ _
      refine NoPanic.normal ?_
      go_wp2_with fail
      go_ret
      exact ⟨by rw [← HE2.out]; rfl, hHeld.bel⟩
    · have hd : (f == 0) = false := by simp [h0]
      by_cases hn0 : n < 0
      · have hd1 : decide (n < 0) = true := by simp [hn0]
        have HE2 : Hid (false = R) := Lib.hid (by rw [← HE.out]; exact (decide_eq_false (fun h => by have := h.2.2.1; omega)).symm)
        refine wp_region_noPanic ?_
        refine wp_region_held_drew (S := HeldR L w) (by kernel_rfl) HK.out.drew (fun hHeld => ?_)
        refine wpAnyH_take (i := 0) (v := ?_) rfl (by kernel_rfl) (by kernel_rfl) (by kernel_rfl) (fun _ _ _ h => h) (Or.inl ⟨by rfl, ?_⟩) (by assumption) ?_
        rotate_left
        · (intro w hSw; go_simp; try (with_reducible rfl))
        try simp only [Act.put, List.getElem_toArray, List.getElem_cons_zero, List.setIfInBounds_toArray, List.set_cons_zero, List.set_cons_succ]
        refine wpAnyH_take (i := 1) (v := ?_) rfl (by kernel_rfl) (by kernel_rfl) (by kernel_rfl) (fun _ _ _ h => h) (Or.inl ⟨by rfl, ?_⟩) (by assumption) ?_
        rotate_left
        · (intro w hSw; go_simp; try (with_reducible rfl))
        try simp only [Act.put, List.getElem_toArray, List.getElem_cons_zero, List.getElem_cons_succ, List.setIfInBounds_toArray, List.set_cons_zero, List.set_cons_succ]
        refine wpAnyH_take (i := 2) (v := ?_) rfl (by kernel_rfl) (by kernel_rfl) (by kernel_rfl) (fun _ _ _ h => h) (Or.inl ⟨by rfl, ?_⟩) (by assumption) ?_
        rotate_left
        · (intro w hSw; go_simp; try (with_reducible rfl))
        try simp only [Act.put, List.getElem_toArray, List.getElem_cons_zero, List.getElem_cons_succ, List.setIfInBounds_toArray, List.set_cons_zero, List.set_cons_succ]
        refine wpAnyH_take (i := 3) (v := ?_) rfl (by kernel_rfl) (by kernel_rfl) (by kernel_rfl) (fun _ _ _ h => h) (Or.inl ⟨by rfl, ?_⟩) (by assumption) ?_
        rotate_left
        · (intro w hSw; go_simp; try (with_reducible rfl))
        try simp only [Act.put, List.getElem_toArray, List.getElem_cons_zero, List.getElem_cons_succ, List.setIfInBounds_toArray, List.set_cons_zero, List.set_cons_succ]
        refine wpAnyH_take (i := 4) (v := ?_) rfl (by kernel_rfl) (by kernel_rfl) (by kernel_rfl) (fun _ _ _ h => h) (Or.inl ⟨by rfl, ?_⟩) (by assumption) ?_
        rotate_left
        · (intro w hSw; go_simp; try (with_reducible rfl))
        try simp only [Act.put, List.getElem_toArray, List.getElem_cons_zero, List.getElem_cons_succ, List.setIfInBounds_toArray, List.set_cons_zero, List.set_cons_succ]
        refine wpAnyH_take (i := 5) (v := ?_) rfl (by kernel_rfl) (by kernel_rfl) (by kernel_rfl) (fun _ _ _ h => h) (Or.inl ⟨by rfl, ?_⟩) (by assumption) ?_
        rotate_left
        · (intro w hSw; have hc0 := Cf.out w hSw; go_simp; try (with_reducible rfl))
        try simp only [Act.put, List.getElem_toArray, List.getElem_cons_zero, List.getElem_cons_succ, List.setIfInBounds_toArray, List.set_cons_zero, List.set_cons_succ]
        refine wpAnyH_take (i := 6) (v := ?_) rfl (by kernel_rfl) (by kernel_rfl) (by kernel_rfl) (fun _ _ _ h => h) (Or.inl ⟨by rfl, ?_⟩) (by assumption) ?_
        rotate_left
        · (intro w hSw; go_simp; try (with_reducible rfl))
        try simp only [Act.put, List.getElem_toArray, List.getElem_cons_zero, List.getElem_cons_succ, List.setIfInBounds_toArray, List.set_cons_zero, List.set_cons_succ]
        refine wpAnyH_take (i := 7) (v := ?_) rfl (by kernel_rfl) (by kernel_rfl) (by kernel_rfl) (fun _ _ _ h => h) (Or.inl ⟨by rfl, ?_⟩) (by assumption) ?_
        rotate_left
        · (intro w hSw; go_simp; try (with_reducible rfl))
        try simp only [Act.put, List.getElem_toArray, List.getElem_cons_zero, List.getElem_cons_succ, List.setIfInBounds_toArray, List.set_cons_zero, List.set_cons_succ]
        refine wpAnyH_take (i := 8) (v := ?_) rfl (by kernel_rfl) (by kernel_rfl) (by kernel_rfl) (fun _ _ _ h => h) (Or.inl ⟨by rfl, ?_⟩) (by assumption) ?_
        rotate_left
        · (intro w hSw; go_simp; try (with_reducible rfl))
        try simp only [Act.put, List.getElem_toArray, List.getElem_cons_zero, List.getElem_cons_succ, List.setIfInBounds_toArray, List.set_cons_zero, List.set_cons_succ]
        refine wpAnyH_take (i := 9) (v := ?_) rfl (by kernel_rfl) (by kernel_rfl) (by kernel_rfl) (fun _ _ _ h => h) (Or.inl ⟨by rfl, ?_⟩) (by assumption) ?_
        rotate_left
        · (intro w hSw; go_simp; try (with_reducible rfl))
        try simp only [Act.put, List.getElem_toArray, List.getElem_cons_zero, List.getElem_cons_succ, List.setIfInBounds_toArray, List.set_cons_zero, List.set_cons_succ]
        refine wpAnyH_take (i := 10) (v := ?_) rfl (by kernel_rfl) (by kernel_rfl) (by kernel_rfl) (fun _ _ _ h => h) (Or.inl ⟨by rfl, ?_⟩) (by assumption) ?_
        rotate_left
        · (intro w hSw; have hc0 := Cn.out w hSw; go_simp; try (with_reducible rfl))
        try simp only [Act.put, List.getElem_toArray, List.getElem_cons_zero, List.getElem_cons_succ, List.setIfInBounds_toArray, List.set_cons_zero, List.set_cons_succ]
        refine wpAnyH_take (i := 11) (v := ?_) rfl (by kernel_rfl) (by kernel_rfl) (by kernel_rfl) (fun _ _ _ h => h) (Or.inl ⟨by rfl, ?_⟩) (by assumption) ?_
        rotate_left
        · (intro w hSw; go_simp; try (with_reducible rfl))
        try simp only [Act.put, List.getElem_toArray, List.getElem_cons_zero, List.getElem_cons_succ, List.setIfInBounds_toArray, List.set_cons_zero, List.set_cons_succ]
        refine wpAnyH_take (i := 12) (v := ?_) rfl (by kernel_rfl) (by kernel_rfl) (by kernel_rfl) (fun _ _ _ h => h) (Or.inl ⟨by rfl, ?_⟩) (by assumption) ?_
        rotate_left
        · (intro w hSw; go_simp; try (with_reducible rfl))
        try simp only [Act.put, List.getElem_toArray, List.getElem_cons_zero, List.getElem_cons_succ, List.setIfInBounds_toArray, List.set_cons_zero, List.set_cons_succ]
        refine wpAnyH_take (i := 13) (v := ?_) rfl (by kernel_rfl) (by kernel_rfl) (by kernel_rfl) (fun _ _ _ h => h) (Or.inl ⟨by rfl, ?_⟩) (by assumption) ?_
        rotate_left
        · (intro w hSw; go_simp; try (with_reducible rfl))
        try simp only [Act.put, List.getElem_toArray, List.getElem_cons_zero, List.getElem_cons_succ, List.setIfInBounds_toArray, List.set_cons_zero, List.set_cons_succ]
        refine wpAnyH_take (i := 14) (v := undef) rfl (by kernel_rfl) (by kernel_rfl) (by kernel_rfl) (fun _ _ _ h => h) (Or.inr ⟨by rfl, rfl⟩) (by assumption) ?_
        try simp only [Act.put, List.getElem_toArray, List.getElem_cons_zero, List.getElem_cons_succ, List.setIfInBounds_toArray, List.set_cons_zero, List.set_cons_succ]
        refine wpAnyH_take (i := 15) (v := undef) rfl (by kernel_rfl) (by kernel_rfl) (by kernel_rfl) (fun _ _ _ h => h) (Or.inr ⟨by rfl, rfl⟩) (by assumption) ?_
        try simp only [Act.put, List.getElem_toArray, List.getElem_cons_zero, List.getElem_cons_succ, List.setIfInBounds_toArray, List.set_cons_zero, List.set_cons_succ]
        refine wpAnyH_take (i := 16) (v := undef) rfl (by kernel_rfl) (by kernel_rfl) (by kernel_rfl) (fun _ _ _ h => h) (Or.inr ⟨by rfl, rfl⟩) (by assumption) ?_
        try simp only [Act.put, List.getElem_toArray, List.getElem_cons_zero, List.getElem_cons_succ, List.setIfInBounds_toArray, List.set_cons_zero, List.set_cons_succ]
        refine wpAnyH_take (i := 17) (v := undef) rfl (by kernel_rfl) (by kernel_rfl) (by kernel_rfl) (fun _ _ _ h => h) (Or.inr ⟨by rfl, rfl⟩) (by assumption) ?_
        try simp only [Act.put, List.getElem_toArray, List.getElem_cons_zero, List.getElem_cons_succ, List.setIfInBounds_toArray, List.set_cons_zero, List.set_cons_succ]
        refine wpAnyH_take (i := 18) (v := undef) rfl (by kernel_rfl) (by kernel_rfl) (by kernel_rfl) (fun _ _ _ h => h) (Or.inr ⟨by rfl, rfl⟩) (by assumption) ?_
        try simp only [Act.put, List.getElem_toArray, List.getElem_cons_zero, List.getElem_cons_succ, List.setIfInBounds_toArray, List.set_cons_zero, List.set_cons_succ]
        refine wpAnyH_take (i := 19) (v := undef) rfl (by kernel_rfl) (by kernel_rfl) (by kernel_rfl) (fun _ _ _ h => h) (Or.inr ⟨by rfl, rfl⟩) (by assumption) ?_
        try simp only [Act.put, List.getElem_toArray, List.getElem_cons_zero, List.getElem_cons_succ, List.setIfInBounds_toArray, List.set_cons_zero, List.set_cons_succ]
        refine wpAnyH_take (i := 20) (v := ?_) rfl (by kernel_rfl) (by kernel_rfl) (by kernel_rfl) (fun _ _ _ h => h) (Or.inl ⟨by rfl, ?_⟩) (by assumption) ?_
        rotate_left
        · (intro w hSw; go_simp; try (with_reducible rfl))
        try simp only [Act.put, List.getElem_toArray, List.getElem_cons_zero, List.getElem_cons_succ, List.setIfInBounds_toArray, List.set_cons_zero, List.set_cons_succ]
        refine wpAnyH_done (by kernel_rfl) ?_ _
        refine NoPanic.normal ?_
        go_wp2_with fail
        go_ret
        exact ⟨by rw [← HE2.out]; rfl, hHeld.bel⟩
      · have hd1 : decide (n < 0) = false := by simp; omega
        by_cases hnN : (N : Int) < n
        · have hd2 : decide ((N : Int) < n) = true := by simp [hnN]
          have HE2 : Hid (false = R) := Lib.hid (by rw [← HE.out]; exact (decide_eq_false (fun h => by have := h.2.2.2.1; omega)).symm)
          refine wp_region_noPanic ?_
          refine wp_region_held_drew (S := HeldR L w) (by kernel_rfl) HK.out.drew (fun hHeld => ?_)
          refine wpAnyH_take (i := 0) (v := ?_) rfl (by kernel_rfl) (by kernel_rfl) (by kernel_rfl) (fun _ _ _ h => h) (Or.inl ⟨by rfl, ?_⟩) (by assumption) ?_
          rotate_left
          · (intro w hSw; go_simp; try (with_reducible rfl))
          try simp only [Act.put, List.getElem_toArray, List.getElem_cons_zero, List.setIfInBounds_toArray, List.set_cons_zero, List.set_cons_succ]
          refine wpAnyH_take (i := 1) (v := ?_) rfl (by kernel_rfl) (by kernel_rfl) (by kernel_rfl) (fun _ _ _ h => h) (Or.inl ⟨by rfl, ?_⟩) (by assumption) ?_
          rotate_left
          · (intro w hSw; go_simp; try (with_reducible rfl))
          try simp only [Act.put, List.getElem_toArray, List.getElem_cons_zero, List.getElem_cons_succ, List.setIfInBounds_toArray, List.set_cons_zero, List.set_cons_succ]
          refine wpAnyH_take (i := 2) (v := ?_) rfl (by kernel_rfl) (by kernel_rfl) (by kernel_rfl) (fun _ _ _ h => h) (Or.inl ⟨by rfl, ?_⟩) (by assumption) ?_
          rotate_left
          · (intro w hSw; go_simp; try (with_reducible rfl))
          try simp only [Act.put, List.getElem_toArray, List.getElem_cons_zero, List.getElem_cons_succ, List.setIfInBounds_toArray, List.set_cons_zero, List.set_cons_succ]
          refine wpAnyH_take (i := 3) (v := ?_) rfl (by kernel_rfl) (by kernel_rfl) (by kernel_rfl) (fun _ _ _ h => h) (Or.inl ⟨by rfl, ?_⟩) (by assumption) ?_
          rotate_left
          · (intro w hSw; go_simp; try (with_reducible rfl))
          try simp only [Act.put, List.getElem_toArray, List.getElem_cons_zero, List.getElem_cons_succ, List.setIfInBounds_toArray, List.set_cons_zero, List.set_cons_succ]
          refine wpAnyH_take (i := 4) (v := ?_) rfl (by kernel_rfl) (by kernel_rfl) (by kernel_rfl) (fun _ _ _ h => h) (Or.inl ⟨by rfl, ?_⟩) (by assumption) ?_
          rotate_left
          · (intro w hSw; go_simp; try (with_reducible rfl))
          try simp only [Act.put, List.getElem_toArray, List.getElem_cons_zero, List.getElem_cons_succ, List.setIfInBounds_toArray, List.set_cons_zero, List.set_cons_succ]
          refine wpAnyH_take (i := 5) (v := ?_) rfl (by kernel_rfl) (by kernel_rfl) (by kernel_rfl) (fun _ _ _ h => h) (Or.inl ⟨by rfl, ?_⟩) (by assumption) ?_
          rotate_left
          · (intro w hSw; have hc0 := Cf.out w hSw; go_simp; try (with_reducible rfl))
          try simp only [Act.put, List.getElem_toArray, List.getElem_cons_zero, List.getElem_cons_succ, List.setIfInBounds_toArray, List.set_cons_zero, List.set_cons_succ]
          refine wpAnyH_take (i := 6) (v := ?_) rfl (by kernel_rfl) (by kernel_rfl) (by kernel_rfl) (fun _ _ _ h => h) (Or.inl ⟨by rfl, ?_⟩) (by assumption) ?_
          rotate_left
          · (intro w hSw; go_simp; try (with_reducible rfl))
          try simp only [Act.put, List.getElem_toArray, List.getElem_cons_zero, List.getElem_cons_succ, List.setIfInBounds_toArray, List.set_cons_zero, List.set_cons_succ]
          refine wpAnyH_take (i := 7) (v := ?_) rfl (by kernel_rfl) (by kernel_rfl) (by kernel_rfl) (fun _ _ _ h => h) (Or.inl ⟨by rfl, ?_⟩) (by assumption) ?_
          rotate_left
          · (intro w hSw; go_simp; try (with_reducible rfl))
          try simp only [Act.put, List.getElem_toArray, List.getElem_cons_zero, List.getElem_cons_succ, List.setIfInBounds_toArray, List.set_cons_zero, List.set_cons_succ]
          refine wpAnyH_take (i := 8) (v := ?_) rfl (by kernel_rfl) (by kernel_rfl) (by kernel_rfl) (fun _ _ _ h => h) (Or.inl ⟨by rfl, ?_⟩) (by assumption) ?_
          rotate_left
          · (intro w hSw; go_simp; try (with_reducible rfl))
          try simp only [Act.put, List.getElem_toArray, List.getElem_cons_zero, List.getElem_cons_succ, List.setIfInBounds_toArray, List.set_cons_zero, List.set_cons_succ]
          refine wpAnyH_take (i := 9) (v := ?_) rfl (by kernel_rfl) (by kernel_rfl) (by kernel_rfl) (fun _ _ _ h => h) (Or.inl ⟨by rfl, ?_⟩) (by assumption) ?_
          rotate_left
          · (intro w hSw; go_simp; try (with_reducible rfl))
          try simp only [Act.put, List.getElem_toArray, List.getElem_cons_zero, List.getElem_cons_succ, List.setIfInBounds_toArray, List.set_cons_zero, List.set_cons_succ]
          refine wpAnyH_take (i := 10) (v := ?_) rfl (by kernel_rfl) (by kernel_rfl) (by kernel_rfl) (fun _ _ _ h => h) (Or.inl ⟨by rfl, ?_⟩) (by assumption) ?_
          rotate_left
          · (intro w hSw; have hc0 := Cn.out w hSw; go_simp; try (with_reducible rfl))
          try simp only [Act.put, List.getElem_toArray, List.getElem_cons_zero, List.getElem_cons_succ, List.setIfInBounds_toArray, List.set_cons_zero, List.set_cons_succ]
          refine wpAnyH_take (i := 11) (v := ?_) rfl (by kernel_rfl) (by kernel_rfl) (by kernel_rfl) (fun _ _ _ h => h) (Or.inl ⟨by rfl, ?_⟩) (by assumption) ?_
          rotate_left
          · (intro w hSw; go_simp; try (with_reducible rfl))
          try simp only [Act.put, List.getElem_toArray, List.getElem_cons_zero, List.getElem_cons_succ, List.setIfInBounds_toArray, List.set_cons_zero, List.set_cons_succ]
          refine wpAnyH_take (i := 12) (v := ?_) rfl (by kernel_rfl) (by kernel_rfl) (by kernel_rfl) (fun _ _ _ h => h) (Or.inl ⟨by rfl, ?_⟩) (by assumption) ?_
          rotate_left
          · (intro w hSw; go_simp; try (with_reducible rfl))
          try simp only [Act.put, List.getElem_toArray, List.getElem_cons_zero, List.getElem_cons_succ, List.setIfInBounds_toArray, List.set_cons_zero, List.set_cons_succ]
          refine wpAnyH_take (i := 13) (v := ?_) rfl (by kernel_rfl) (by kernel_rfl) (by kernel_rfl) (fun _ _ _ h => h) (Or.inl ⟨by rfl, ?_⟩) (by assumption) ?_
          rotate_left
          · (intro w hSw; go_simp; try (with_reducible rfl))
          try simp only [Act.put, List.getElem_toArray, List.getElem_cons_zero, List.getElem_cons_succ, List.setIfInBounds_toArray, List.set_cons_zero, List.set_cons_succ]
          refine wpAnyH_take (i := 14) (v := ?_) rfl (by kernel_rfl) (by kernel_rfl) (by kernel_rfl) (fun _ _ _ h => h) (Or.inl ⟨by rfl, ?_⟩) (by assumption) ?_
          rotate_left
          · (intro w hSw; go_simp; try (with_reducible rfl))
          try simp only [Act.put, List.getElem_toArray, List.getElem_cons_zero, List.getElem_cons_succ, List.setIfInBounds_toArray, List.set_cons_zero, List.set_cons_succ]
          refine wpAnyH_take (i := 15) (v := ?_) rfl (by kernel_rfl) (by kernel_rfl) (by kernel_rfl) (fun _ _ _ h => h) (Or.inl ⟨by rfl, ?_⟩) (by assumption) ?_
          rotate_left
          · (intro w hSw; have hc0 := Cn.out w hSw; go_simp; try (with_reducible rfl))
          try simp only [Act.put, List.getElem_toArray, List.getElem_cons_zero, List.getElem_cons_succ, List.setIfInBounds_toArray, List.set_cons_zero, List.set_cons_succ]
          refine wpAnyH_take (i := 16) (v := ?_) rfl (by kernel_rfl) (by kernel_rfl) (by kernel_rfl) (fun _ _ _ h => h) (Or.inl ⟨by rfl, ?_⟩) (by assumption) ?_
          rotate_left
          · (intro w hSw; go_simp; try (with_reducible rfl))
          try simp only [Act.put, List.getElem_toArray, List.getElem_cons_zero, List.getElem_cons_succ, List.setIfInBounds_toArray, List.set_cons_zero, List.set_cons_succ]
          refine wpAnyH_take (i := 17) rfl (by kernel_rfl) (by kernel_rfl) (by kernel_rfl) (fun _ _ _ h => h) (yields_addr Ma (by rfl) _ rfl rfl) (by assumption) ?_
          try simp only [Act.put, List.getElem_toArray, List.getElem_cons_zero, List.getElem_cons_succ, List.setIfInBounds_toArray, List.set_cons_zero, List.set_cons_succ]
          refine wpAnyH_ready (rs := [18]) (by kernel_rfl) (by simp) ?_
          refine AllReadyH.cons rfl (fun K hK => ?_) AllReadyH.nil
          go_simp
          refine (Calls.heldR (C1 _ (by assumption)).out (by assumption)).mono ?_
          rintro e wr18 ⟨rfl, hS18⟩
          go_wp2_with fail
          refine hK.out _ _ hS18 (fun hHeld => ?_)
          clear hK K
          try simp only [Act.put, List.getElem_toArray, List.getElem_cons_zero, List.getElem_cons_succ, List.setIfInBounds_toArray, List.set_cons_zero, List.set_cons_succ]
          refine wpAnyH_take (i := 19) (v := ?_) rfl (by kernel_rfl) (by kernel_rfl) (by kernel_rfl) (fun _ _ _ h => h) (Or.inl ⟨by rfl, ?_⟩) (by assumption) ?_
          rotate_left
          · (intro w hSw; go_simp; try (with_reducible rfl))
          try simp only [Act.put, List.getElem_toArray, List.getElem_cons_zero, List.getElem_cons_succ, List.setIfInBounds_toArray, List.set_cons_zero, List.set_cons_succ]
          refine wpAnyH_take (i := 20) (v := ?_) rfl (by kernel_rfl) (by kernel_rfl) (by kernel_rfl) (fun _ _ _ h => h) (Or.inl ⟨by rfl, ?_⟩) (by assumption) ?_
          rotate_left
          · (intro w hSw; go_simp; try (with_reducible rfl))
          try simp only [Act.put, List.getElem_toArray, List.getElem_cons_zero, List.getElem_cons_succ, List.setIfInBounds_toArray, List.set_cons_zero, List.set_cons_succ]
          refine wpAnyH_done (by kernel_rfl) ?_ _
          refine NoPanic.normal ?_
          go_wp2_with fail
          go_ret
          exact ⟨by rw [← HE2.out]; rfl, hHeld.bel⟩
        · have hd2 : decide ((N : Int) < n) = false := by simp; omega
          have HQ : Hid (decide (∀ i : Nat, i < N → n.toNat ≤ i → bitA ps i = 0) = R) := Lib.hid (by rw [← HE.out]; exact decide_eq_decide.2 ⟨fun h => ⟨by trivial, h0, by omega, by omega, h⟩, fun h => h.2.2.2.2⟩)
          obtain ⟨m, rfl⟩ : ∃ m : Nat, n = (m : Int) := ⟨n.toNat, by omega⟩
          have hd2n : decide (N < m) = false := by simp; omega
          replace H2 := Lib.hid (H2.out.below (Below.refl _ _).drew)
          refine wp_region_noPanic ?_
          refine wp_region_held_drew (S := HeldR L w) (by kernel_rfl) HK.out.drew (fun hHeld => ?_)
          refine wpAnyH_take (i := 0) (v := ?_) rfl (by kernel_rfl) (by kernel_rfl) (by kernel_rfl) (fun _ _ _ h => h) (Or.inl ⟨by rfl, ?_⟩) (by assumption) ?_
          rotate_left
          · (intro w hSw; go_simp; try (with_reducible rfl))
          try simp only [Act.put, List.getElem_toArray, List.getElem_cons_zero, List.setIfInBounds_toArray, List.set_cons_zero, List.set_cons_succ]
          refine wpAnyH_take (i := 1) (v := ?_) rfl (by kernel_rfl) (by kernel_rfl) (by kernel_rfl) (fun _ _ _ h => h) (Or.inl ⟨by rfl, ?_⟩) (by assumption) ?_
          rotate_left
          · (intro w hSw; go_simp; try (with_reducible rfl))
          try simp only [Act.put, List.getElem_toArray, List.getElem_cons_zero, List.getElem_cons_succ, List.setIfInBounds_toArray, List.set_cons_zero, List.set_cons_succ]
          refine wpAnyH_take (i := 2) (v := ?_) rfl (by kernel_rfl) (by kernel_rfl) (by kernel_rfl) (fun _ _ _ h => h) (Or.inl ⟨by rfl, ?_⟩) (by assumption) ?_
          rotate_left
          · (intro w hSw; go_simp; try (with_reducible rfl))
          try simp only [Act.put, List.getElem_toArray, List.getElem_cons_zero, List.getElem_cons_succ, List.setIfInBounds_toArray, List.set_cons_zero, List.set_cons_succ]
          refine wpAnyH_take (i := 3) (v := ?_) rfl (by kernel_rfl) (by kernel_rfl) (by kernel_rfl) (fun _ _ _ h => h) (Or.inl ⟨by rfl, ?_⟩) (by assumption) ?_
          rotate_left
          · (intro w hSw; go_simp; try (with_reducible rfl))
          try simp only [Act.put, List.getElem_toArray, List.getElem_cons_zero, List.getElem_cons_succ, List.setIfInBounds_toArray, List.set_cons_zero, List.set_cons_succ]
          refine wpAnyH_take (i := 4) (v := ?_) rfl (by kernel_rfl) (by kernel_rfl) (by kernel_rfl) (fun _ _ _ h => h) (Or.inl ⟨by rfl, ?_⟩) (by assumption) ?_
          rotate_left
          · (intro w hSw; go_simp; try (with_reducible rfl))
          try simp only [Act.put, List.getElem_toArray, List.getElem_cons_zero, List.getElem_cons_succ, List.setIfInBounds_toArray, List.set_cons_zero, List.set_cons_succ]
          refine wpAnyH_take (i := 5) (v := ?_) rfl (by kernel_rfl) (by kernel_rfl) (by kernel_rfl) (fun _ _ _ h => h) (Or.inl ⟨by rfl, ?_⟩) (by assumption) ?_
          rotate_left
          · (intro w hSw; have hc0 := Cf.out w hSw; go_simp; try (with_reducible rfl))
          try simp only [Act.put, List.getElem_toArray, List.getElem_cons_zero, List.getElem_cons_succ, List.setIfInBounds_toArray, List.set_cons_zero, List.set_cons_succ]
          refine wpAnyH_take (i := 6) (v := ?_) rfl (by kernel_rfl) (by kernel_rfl) (by kernel_rfl) (fun _ _ _ h => h) (Or.inl ⟨by rfl, ?_⟩) (by assumption) ?_
          rotate_left
          · (intro w hSw; go_simp; try (with_reducible rfl))
          try simp only [Act.put, List.getElem_toArray, List.getElem_cons_zero, List.getElem_cons_succ, List.setIfInBounds_toArray, List.set_cons_zero, List.set_cons_succ]
          refine wpAnyH_take (i := 7) (v := ?_) rfl (by kernel_rfl) (by kernel_rfl) (by kernel_rfl) (fun _ _ _ h => h) (Or.inl ⟨by rfl, ?_⟩) (by assumption) ?_
          rotate_left
          · (intro w hSw; go_simp; try (with_reducible rfl))
          try simp only [Act.put, List.getElem_toArray, List.getElem_cons_zero, List.getElem_cons_succ, List.setIfInBounds_toArray, List.set_cons_zero, List.set_cons_succ]
          refine wpAnyH_take (i := 8) (v := ?_) rfl (by kernel_rfl) (by kernel_rfl) (by kernel_rfl) (fun _ _ _ h => h) (Or.inl ⟨by rfl, ?_⟩) (by assumption) ?_
          rotate_left
          · (intro w hSw; go_simp; try (with_reducible rfl))
          try simp only [Act.put, List.getElem_toArray, List.getElem_cons_zero, List.getElem_cons_succ, List.setIfInBounds_toArray, List.set_cons_zero, List.set_cons_succ]
          refine wpAnyH_take (i := 9) (v := ?_) rfl (by kernel_rfl) (by kernel_rfl) (by kernel_rfl) (fun _ _ _ h => h) (Or.inl ⟨by rfl, ?_⟩) (by assumption) ?_
          rotate_left
          · (intro w hSw; go_simp; try (with_reducible rfl))
          try simp only [Act.put, List.getElem_toArray, List.getElem_cons_zero, List.getElem_cons_succ, List.setIfInBounds_toArray, List.set_cons_zero, List.set_cons_succ]
          refine wpAnyH_take (i := 10) (v := ?_) rfl (by kernel_rfl) (by kernel_rfl) (by kernel_rfl) (fun _ _ _ h => h) (Or.inl ⟨by rfl, ?_⟩) (by assumption) ?_
          rotate_left
          · (intro w hSw; have hc0 := Cn.out w hSw; go_simp; try (with_reducible rfl))
          try simp only [Act.put, List.getElem_toArray, List.getElem_cons_zero, List.getElem_cons_succ, List.setIfInBounds_toArray, List.set_cons_zero, List.set_cons_succ]
          refine wpAnyH_take (i := 11) (v := ?_) rfl (by kernel_rfl) (by kernel_rfl) (by kernel_rfl) (fun _ _ _ h => h) (Or.inl ⟨by rfl, ?_⟩) (by assumption) ?_
          rotate_left
          · (intro w hSw; go_simp; try (with_reducible rfl))
          try simp only [Act.put, List.getElem_toArray, List.getElem_cons_zero, List.getElem_cons_succ, List.setIfInBounds_toArray, List.set_cons_zero, List.set_cons_succ]
          refine wpAnyH_take (i := 12) (v := ?_) rfl (by kernel_rfl) (by kernel_rfl) (by kernel_rfl) (fun _ _ _ h => h) (Or.inl ⟨by rfl, ?_⟩) (by assumption) ?_
          rotate_left
          · (intro w hSw; go_simp; try (with_reducible rfl))
          try simp only [Act.put, List.getElem_toArray, List.getElem_cons_zero, List.getElem_cons_succ, List.setIfInBounds_toArray, List.set_cons_zero, List.set_cons_succ]
          refine wpAnyH_take (i := 13) (v := ?_) rfl (by kernel_rfl) (by kernel_rfl) (by kernel_rfl) (fun _ _ _ h => h) (Or.inl ⟨by rfl, ?_⟩) (by assumption) ?_
          rotate_left
          · (intro w hSw; go_simp; try (with_reducible rfl))
          try simp only [Act.put, List.getElem_toArray, List.getElem_cons_zero, List.getElem_cons_succ, List.setIfInBounds_toArray, List.set_cons_zero, List.set_cons_succ]
          refine wpAnyH_take (i := 14) (v := ?_) rfl (by kernel_rfl) (by kernel_rfl) (by kernel_rfl) (fun _ _ _ h => h) (Or.inl ⟨by rfl, ?_⟩) (by assumption) ?_
          rotate_left
          · (intro w hSw; go_simp; try (with_reducible rfl))
          try simp only [Act.put, List.getElem_toArray, List.getElem_cons_zero, List.getElem_cons_succ, List.setIfInBounds_toArray, List.set_cons_zero, List.set_cons_succ]
          refine wpAnyH_take (i := 15) (v := ?_) rfl (by kernel_rfl) (by kernel_rfl) (by kernel_rfl) (fun _ _ _ h => h) (Or.inl ⟨by rfl, ?_⟩) (by assumption) ?_
          rotate_left
          · (intro w hSw; have hc0 := Cn.out w hSw; go_simp; try (with_reducible rfl))
          try simp only [Act.put, List.getElem_toArray, List.getElem_cons_zero, List.getElem_cons_succ, List.setIfInBounds_toArray, List.set_cons_zero, List.set_cons_succ]
          refine wpAnyH_take (i := 16) (v := ?_) rfl (by kernel_rfl) (by kernel_rfl) (by kernel_rfl) (fun _ _ _ h => h) (Or.inl ⟨by rfl, ?_⟩) (by assumption) ?_
          rotate_left
          · (intro w hSw; go_simp; try (with_reducible rfl))
          try simp only [Act.put, List.getElem_toArray, List.getElem_cons_zero, List.getElem_cons_succ, List.setIfInBounds_toArray, List.set_cons_zero, List.set_cons_succ]
          refine wpAnyH_take (i := 17) rfl (by kernel_rfl) (by kernel_rfl) (by kernel_rfl) (fun _ _ _ h => h) (yields_addr Ma (by rfl) _ rfl rfl) (by assumption) ?_
          try simp only [Act.put, List.getElem_toArray, List.getElem_cons_zero, List.getElem_cons_succ, List.setIfInBounds_toArray, List.set_cons_zero, List.set_cons_succ]
          refine wpAnyH_ready (rs := [18]) (by kernel_rfl) (by simp) ?_
          refine AllReadyH.cons rfl (fun K hK => ?_) AllReadyH.nil
          go_simp
          refine (C1 _ (by assumption)).out.mono ?_
          rintro e wr18 ⟨rfl, hb18⟩
          replace H2 := Lib.hid (H2.out.below hb18)
          have hS18 := HeldR.next (by assumption) hb18
          clear hb18
          go_wp2_with fail
          refine hK.out _ _ hS18 (fun hHeld => ?_)
          clear hK K
          try simp only [Act.put, List.getElem_toArray, List.getElem_cons_zero, List.getElem_cons_succ, List.setIfInBounds_toArray, List.set_cons_zero, List.set_cons_succ]
          refine wpAnyH_take (i := 19) (v := ?_) rfl (by kernel_rfl) (by kernel_rfl) (by kernel_rfl) (fun _ _ _ h => h) (Or.inl ⟨by rfl, ?_⟩) (by assumption) ?_
          rotate_left
          · (intro w hSw; go_simp; try (with_reducible rfl))
          try simp only [Act.put, List.getElem_toArray, List.getElem_cons_zero, List.getElem_cons_succ, List.setIfInBounds_toArray, List.set_cons_zero, List.set_cons_succ]
          refine wpAnyH_take (i := 20) (v := ?_) rfl (by kernel_rfl) (by kernel_rfl) (by kernel_rfl) (fun _ _ _ h => h) (Or.inl ⟨by rfl, ?_⟩) (by assumption) ?_
          rotate_left
          · (intro w hSw; go_simp; try (with_reducible rfl))
          try simp only [Act.put, List.getElem_toArray, List.getElem_cons_zero, List.getElem_cons_succ, List.setIfInBounds_toArray, List.set_cons_zero, List.set_cons_succ]
          refine wpAnyH_done (by kernel_rfl) ?_ _
          refine NoPanic.normal ?_
          have HB3 := Lib.hid hHeld.bel
          have hb17 := H2.out.bits
          clear C1 Cn Cf Ma Mp HK hHeld
          go_wp2_with fail
          go_loopw [4] (fun i wr => ∃ k : Nat, m ≤ k ∧ k ≤ N ∧ i = .int .i64 (k : Int) ∧ Hid (PrefAt wr w.heap.size f ps (m : Int)) ∧ Hid (Below w.heap.size w wr) ∧ Hid (∀ i : Nat, m ≤ i → i < k → bitA ps i = 0)) (fun i _ => 128 - (intOf i).toNat)
          case atStart => exact ⟨m, Nat.le_refl _, by omega, rfl, H2, HB3, Lib.hid (fun i h1 h2 => absurd h2 (by omega))⟩
          case round =>
            obtain ⟨k, hmk, hk, rfl, HP4, HB4, HT⟩ := hrel
            clear H2 HB3 hb17
            have HP4a := Lib.hid HP4.out.addr
            go_wp2_with (refine load_addr_g HP4a _ rfl rfl rfl ?_)
            refine (HBI _).out.mono ?_
            rintro e w2 ⟨rfl, hb2⟩
            have HP5 := Lib.hid (HP4.out.below hb2)
            have HB5 := Lib.hid (chain HB4.out hb2)
            clear HP4 HB4 HP4a hb2
            by_cases hkN : k < N
            · have hd3 : decide ((k : Int) < (N : Int)) = true := by simp; omega
              have HP5a := Lib.hid HP5.out.addr
              go_wp2_with (refine load_addr_g HP5a _ rfl rfl rfl ?_)
              refine (HC1 _ k (by omega)).out.mono ?_
              rintro e w3 ⟨rfl, hb3⟩
              have HP6 := Lib.hid (HP5.out.below hb3)
              have HB6 := Lib.hid (chain HB5.out hb3)
              clear HP5 HB5 HP5a hb3
              rw [HBA.out k hkN]
              obtain ⟨v, hv⟩ : ∃ v, bitA ps k = v := ⟨_, rfl⟩
              rw [hv]
              have HV := Lib.hid hv
              clear hv
              by_cases hv0 : v = 0
              · subst hv0
                have hd4 : (((0 : Nat) : Int) != 0) = false := rfl
                go_wp2_with fail
                go_roundw
                case rel => exact ⟨k + 1, by omega, by omega, by go_num, HP6, HB6, Lib.hid (fun i h1 h2 => by
                  by_cases e : i = k
                  · subst e; exact HV.out
                  · exact HT.out i h1 (by omega))⟩
                case measure => simp [intOf]; omega
              · have hd4 : ((v : Int) != 0) = true := by simp; omega
                have HE2 : Hid (false = R) := Lib.hid (by rw [← HQ.out]; exact (decide_eq_false (fun h => hv0 (by rw [← HV.out]; exact h k hkN (by simpa using hmk)))).symm)
                go_wp2_with fail
                go_ret
                exact ⟨by rw [← HE2.out]; rfl, HB6.out⟩
            · obtain rfl : k = N := by omega
              have hd3 : decide ((k : Int) < (k : Int)) = false := by simp
              have HE2 : Hid (true = R) := Lib.hid (by rw [← HQ.out]; exact (decide_eq_true (fun i h1 h2 => HT.out i (by simpa using h2) h1)).symm)
              go_wp2_with fail
              go_ret
              exact ⟨by rw [← HE2.out]; rfl, HB5.out⟩
end Go.Proofs.YtpgjkeakhjnckaaDoor
/- The contract of text.Decimal: a number's decimal digits, by strconv's own. -/
namespace Go.Proofs.YtpgjkeakhjnckaaDoor
open Go.RowKit
set_option linter.unusedVariables false
set_option maxRecDepth 20000

theorem below_grow (w : World) (k : Nat) (os : Array Obj) : Below w.heap.size w (Sort.grow (w.drewN k) os) :=
  ⟨rfl, rfl, rfl, by
    show w.heap.size ≤ (w.heap ++ os).size
    simp, fun j hj => by
    show (w.heap ++ os)[j]? = w.heap[j]?
    rw [Array.getElem?_append_left hj]⟩

set_option maxHeartbeats 400000 in
theorem decimal_any (n : Int) (w : World) (h0 : -9223372036854775808 ≤ n) (h1 : n ≤ 9223372036854775807) (htab : Lib.TabIs Tryd.prog w "internal/strconv.uint64pow10" .u64 Lib.pow10Tab) :
    Calls Tryd.prog 45 #[.int .i64 n] w fun e w' => e = .returned (.string ⟨(Lib.itoa n).toArray⟩) ∧ Below w.heap.size w w' := by
  have HT := Lib.hid htab
  clear htab
  go_enter Tryd.func45, Tryd.ntmps45
  go_wp2_with fail
  refine (Tryd.strconv_Itoa n h0 h1 _ HT.out).mono ?_
  rintro e w1 ⟨rfl, k, os, rfl⟩
  go_wp2_with fail
  go_ret
  exact ⟨rfl, below_grow _ _ _⟩

end Go.Proofs.YtpgjkeakhjnckaaDoor
/- Contracts of four.Bytes and four.Print: an address's bytes and its text. -/
namespace Go.Proofs.YtpgjkeakhjnckaaDoor
open Go.RowKit
set_option linter.unusedVariables false
set_option maxRecDepth 20000

set_option maxRecDepth 100000 in
set_option maxHeartbeats 1000000 in
theorem bytes_any (a b c d n : Nat) (w : World) (ha : a < 256) (hb : b < 256) (hc : c < 256) (hd : d < 256) (hn : n = num4 a b c d) :
    Calls Tryd.prog 72 #[.int .u32 (n : Int)] w fun e w' => e = .returned (arr4 a b c d) ∧ Below w.heap.size w w' := by
  unfold num4 at hn
  have hle : n ≤ 4294967295 := by omega
  have e1 : (n : Int) / 16777216 = (a : Int) := by omega
  have e2 : (n : Int) / 65536 % 256 = (b : Int) := by omega
  have e3 : (n : Int) / 256 % 256 = (c : Int) := by omega
  have e4 : (n : Int) % 256 = (d : Int) := by omega
  clear hn
  go_enter Tryd.func72, Tryd.ntmps72
  go_wp2
  refine bodyPost_ret (v := arr4 a b c d) (by simp [results, Tryd.results72, go_sem, arr4, e2, e3, e4]) rfl ⟨rfl, ?_⟩
  exact (Below.refl _ _).alloc (Nat.le_refl _) _
/-- The address's text, byte by byte. -/
def prT (a b c d : Nat) : Nat → List UInt8
  | 0 => []
  | 1 => dec a
  | 2 => dec a ++ 46 :: dec b
  | 3 => dec a ++ 46 :: (dec b ++ 46 :: dec c)
  | _ => dec a ++ 46 :: (dec b ++ 46 :: (dec c ++ 46 :: dec d))
theorem decimal_nat (u : Nat) (w : World) (h : u ≤ 9223372036854775807) (htab : Lib.TabIs Tryd.prog w "internal/strconv.uint64pow10" .u64 Lib.pow10Tab) :
    Calls Tryd.prog 45 #[.int .i64 (u : Int)] w fun e w' => e = .returned (.string (ofL (dec u))) ∧ Below w.heap.size w w' := by
  have := decimal_any (u : Int) w (by omega) (by omega) htab
  rw [show Lib.itoa (u : Int) = Lib.decDigits u from Lib.itoa_nonneg u] at this
  exact this
set_option maxRecDepth 100000 in
set_option maxHeartbeats 4000000 in
theorem print_any (a b c d n : Nat) (w : World) (ha : a < 256) (hb : b < 256) (hc : c < 256) (hd : d < 256) (hn : n = num4 a b c d)
    (htab : ∀ w', Below w.heap.size w w' → Lib.TabIs Tryd.prog w' "internal/strconv.uint64pow10" .u64 Lib.pow10Tab) :
    Calls Tryd.prog 60 #[.int .u32 (n : Int)] w fun e w' => e = .returned (.string (text4 a b c d)) ∧ Below w.heap.size w w' := by
  have HT := Lib.hid htab
  have HN := Lib.hid hn
  clear htab hn
  have i0 : ∀ w : World, (Instr.index 80 (.agg #[.int .u8 (a : Int), .int .u8 (b : Int), .int .u8 (c : Int), .int .u8 (d : Int)]) (.int .i64 0)).run Tryd.prog w = .ok (.int .u8 (a : Int)) w := fun _ => by kernel_rfl
  have i1 : ∀ w : World, (Instr.index 80 (.agg #[.int .u8 (a : Int), .int .u8 (b : Int), .int .u8 (c : Int), .int .u8 (d : Int)]) (.int .i64 1)).run Tryd.prog w = .ok (.int .u8 (b : Int)) w := fun _ => by kernel_rfl
  have i2 : ∀ w : World, (Instr.index 80 (.agg #[.int .u8 (a : Int), .int .u8 (b : Int), .int .u8 (c : Int), .int .u8 (d : Int)]) (.int .i64 2)).run Tryd.prog w = .ok (.int .u8 (c : Int)) w := fun _ => by kernel_rfl
  have i3 : ∀ w : World, (Instr.index 80 (.agg #[.int .u8 (a : Int), .int .u8 (b : Int), .int .u8 (c : Int), .int .u8 (d : Int)]) (.int .i64 3)).run Tryd.prog w = .ok (.int .u8 (d : Int)) w := fun _ => by kernel_rfl
  go_enter Tryd.func60, Tryd.ntmps60
  go_wp2_with fail
  refine (bytes_any a b c d n _ ha hb hc hd HN.out).mono ?_
  rintro e w1 ⟨rfl, hb1⟩
  unfold arr4
  go_wp2_with fail
  go_loopw [3, 8] (fun s i wr => ∃ (k : Nat) (S : ByteArray), k ≤ 4 ∧ i = .int .i64 k ∧ s = .string S ∧ S.size ≤ 22 * k ∧ Hid (S.data.toList = prT a b c d k) ∧ Below w.heap.size w wr) (fun _ i _ => 4 - (intOf i).toNat)
  case atStart => exact ⟨0, _, by decide, rfl, rfl, by decide, Lib.hid rfl, hb1⟩
  case round =>
    obtain ⟨k, S, hk, rfl, rfl, hS, HS, hbel⟩ := hrel
    have hk5 : k = 0 ∨ k = 1 ∨ k = 2 ∨ k = 3 ∨ k = 4 := by omega
    rcases hk5 with rfl | rfl | rfl | rfl | rfl
    · have hl := dec_small a ha
      have hlz := ofL_size (dec a)
      go_wp2_with fail
      refine (decimal_nat a _ (by omega) (HT.out _ hbel)).mono ?_
      rintro e w2 ⟨rfl, hb2⟩
      generalize hD : ofL (dec a) = D at *
      have HD := Lib.hid hD
      clear hD
      have hDz : D.size ≤ 21 := by omega
      go_wp2_with fail
      go_roundw
      case rel => exact ⟨1, _, by decide, rfl, rfl, by simp [ByteArray.size_append] <;> (try show _ + 1 + _ ≤ _) <;> omega, Lib.hid (by rw [← HD.out]; simp only [data_append, ofL_data, HS.out]; simp [prT]), chain hbel hb2⟩
      case measure => simp [intOf]
    · have hl := dec_small b hb
      have hlz := ofL_size (dec b)
      go_wp2_with fail
      refine (decimal_nat b _ (by omega) (HT.out _ hbel)).mono ?_
      rintro e w2 ⟨rfl, hb2⟩
      generalize hD : ofL (dec b) = D at *
      have HD := Lib.hid hD
      clear hD
      have hDz : D.size ≤ 21 := by omega
      go_wp2_with fail
      go_roundw
      case rel => exact ⟨2, _, by decide, rfl, rfl, by simp [ByteArray.size_append] <;> (try show _ + 1 + _ ≤ _) <;> omega, Lib.hid (by rw [← HD.out]; simp only [data_append, ofL_data, HS.out]; simp [prT]), chain hbel hb2⟩
      case measure => simp [intOf]
    · have hl := dec_small c hc
      have hlz := ofL_size (dec c)
      go_wp2_with fail
      refine (decimal_nat c _ (by omega) (HT.out _ hbel)).mono ?_
      rintro e w2 ⟨rfl, hb2⟩
      generalize hD : ofL (dec c) = D at *
      have HD := Lib.hid hD
      clear hD
      have hDz : D.size ≤ 21 := by omega
      go_wp2_with fail
      go_roundw
      case rel => exact ⟨3, _, by decide, rfl, rfl, by simp [ByteArray.size_append] <;> (try show _ + 1 + _ ≤ _) <;> omega, Lib.hid (by rw [← HD.out]; simp only [data_append, ofL_data, HS.out]; simp [prT]), chain hbel hb2⟩
      case measure => simp [intOf]
    · have hl := dec_small d hd
      have hlz := ofL_size (dec d)
      go_wp2_with fail
      refine (decimal_nat d _ (by omega) (HT.out _ hbel)).mono ?_
      rintro e w2 ⟨rfl, hb2⟩
      generalize hD : ofL (dec d) = D at *
      have HD := Lib.hid hD
      clear hD
      have hDz : D.size ≤ 21 := by omega
      go_wp2_with fail
      go_roundw
      case rel => exact ⟨4, _, by decide, rfl, rfl, by simp [ByteArray.size_append] <;> (try show _ + 1 + _ ≤ _) <;> omega, Lib.hid (by rw [← HD.out]; simp only [data_append, ofL_data, HS.out]; simp [prT]), chain hbel hb2⟩
      case measure => simp [intOf]
    · go_wp2_with fail
      go_ret
      exact ⟨str_ret (by rw [HS.out]; unfold text4; rw [ofL_data]; rfl), hbel⟩

theorem of_num (a b c d n : Nat) (w : World) (ha : a < 256) (hb : b < 256) (hc : c < 256) (hd : d < 256) (hn : n = num4 a b c d) :
    Calls Tryd.prog 71 #[arr4 a b c d] w fun e w' => e = .returned (.int .u32 (n : Int)) ∧ Below w.heap.size w w' := by
  have := of_any a b c d w ha hb hc hd
  rw [show ((a * 256 + b) * 256 + c) * 256 + d = n from hn.symm] at this
  exact this
theorem strict_at (s : ByteArray) (r : Option Nat) (w : World) (hs : s.size ≤ 1000000) (hr : strictB s = r) :
    Calls Tryd.prog 51 #[.string s] w fun e w' => e = .returned (strictRet r) ∧ Below w.heap.size w w' := by
  have := strict_any s w hs
  rw [hr] at this
  exact this
end Go.Proofs.YtpgjkeakhjnckaaDoor
/- Numbers' digits of the bases 16 and 8, as parts of loose texts; plain facts. -/
namespace Go.Proofs.YtpgjkeakhjnckaaDoor
open Go.RowKit
set_option linter.unusedVariables false
set_option maxRecDepth 20000

def hexc (d : Nat) : UInt8 := if d < 10 then UInt8.ofNat (48 + d) else UInt8.ofNat (87 + d)
theorem hexc_nat (d : Nat) (h : d < 16) : (hexc d).toNat = if d < 10 then 48 + d else 87 + d := by
  unfold hexc
  split
  · rw [UInt8.toNat_ofNat', Nat.mod_eq_of_lt (by omega)]
  · rw [UInt8.toNat_ofNat', Nat.mod_eq_of_lt (by omega)]
theorem digC_hexc (d : Nat) (h : d < 16) : digC (hexc d).toNat = d := by
  rw [hexc_nat d h]
  unfold digC
  by_cases h1 : d < 10
  · rw [if_pos h1, if_pos (by omega)]; omega
  · rw [if_neg h1, if_neg (by omega), if_pos (by omega)]; omega
/-- The lowest i digits of n. -/
def hexL (n b : Nat) : Nat → List UInt8
  | 0 => []
  | i + 1 => hexc (n / b ^ i % b) :: hexL n b i
theorem hexL_length (n b : Nat) : ∀ i, (hexL n b i).length = i
  | 0 => rfl
  | i + 1 => by rw [hexL, List.length_cons, hexL_length n b i]
theorem hexL_mem (n b : Nat) (hb0 : 0 < b) (hb : b ≤ 16) : ∀ i, ∀ c ∈ hexL n b i, c.toNat ≠ 46 ∧ c.toNat ≠ 120 ∧ c.toNat ≠ 88
  | 0 => by simp [hexL]
  | i + 1 => by
    intro c hc
    rw [hexL] at hc
    rcases List.mem_cons.1 hc with h | h
    · rw [h]
      have := Nat.mod_lt (n / b ^ i) hb0
      rw [hexc_nat _ (by omega)]
      split <;> omega
    · exact hexL_mem n b hb0 hb i c h
theorem hexL_read (n b : Nat) (hb0 : 0 < b) (hb : b ≤ 16) : ∀ i x, x ≤ 4294967296 → readL b x (hexL n b i) = some (min (x * b ^ i + n % b ^ i) 4294967296)
  | 0, x, hx => by
    simp [hexL, readL, Nat.mod_one]
    omega
  | i + 1, x, hx => by
    have hd := Nat.mod_lt (n / b ^ i) hb0
    have hp : 0 < b ^ i := Nat.pow_pos hb0
    rw [hexL, readL, digC_hexc _ (by omega), if_neg (by omega), hexL_read n b hb0 hb i _ (Nat.min_le_right _ _)]
    have e : n % b ^ (i + 1) = n / b ^ i % b * b ^ i + n % b ^ i := by
      rw [Nat.pow_succ, Nat.mod_mul, Nat.mul_comm (n / b ^ i % b), Nat.add_comm]
    have e2 : x * b ^ (i + 1) + n % b ^ (i + 1) = (x * b + n / b ^ i % b) * b ^ i + n % b ^ i := by
      rw [e, Nat.pow_succ, Nat.add_mul, Nat.mul_comm (b ^ i) b, ← Nat.mul_assoc, Nat.add_assoc]
    rw [e2]
    generalize x * b + n / b ^ i % b = y
    generalize n % b ^ i = z
    congr 1
    by_cases hy : y ≤ 4294967296
    · rw [Nat.min_eq_left hy]
    · rw [Nat.min_eq_right (by omega : 4294967296 ≤ y)]
      have h1 : 4294967296 * 1 ≤ 4294967296 * b ^ i := Nat.mul_le_mul_left _ hp
      have h2 : 4294967296 * b ^ i ≤ y * b ^ i := Nat.mul_le_mul_right _ (by omega)
      omega
theorem looseHex (n : Nat) (hn : n < 8589934592) : looseB (ofL (48 :: 120 :: hexL n 16 12)) = if 4294967296 ≤ n then (0, 1) else (n, 2) := by
  have hp : partB (ofL (48 :: 120 :: hexL n 16 12)) = some (min n 4294967296) := by
    rw [partB_hex, hexL_read n 16 (by decide) (by decide) _ _ (by decide)]
    simp
    omega
  have hd : ∀ c ∈ (48 :: 120 :: hexL n 16 12 : List UInt8), c.toNat ≠ 46 := by
    intro c hc
    rcases List.mem_cons.1 hc with h | h
    · rw [h]; decide
    · rcases List.mem_cons.1 h with h | h
      · rw [h]; decide
      · exact (hexL_mem n 16 (by decide) (by decide) 12 c h).1
  rw [looseB_parts (lparts1 _ hd (by simp)) (by simpa using hp), joinP1 _ _ hp]
  by_cases h : 4294967296 ≤ n
  · rw [if_pos (by omega), if_pos h]
  · rw [if_neg (by omega), if_neg h, Nat.min_eq_left (by omega)]
theorem looseOct (n : Nat) (hn : n < 8589934592) : looseB (ofL (48 :: hexL n 8 12)) = if 4294967296 ≤ n then (0, 1) else (n, 2) := by
  have hm := hexL_mem n 8 (by decide) (by decide) 12
  have hp : partB (ofL (48 :: hexL n 8 12)) = some (min n 4294967296) := by
    have e := hexL_read n 8 (by decide) (by decide) 12 0 (by decide)
    rw [hexL] at hm e ⊢
    rw [partB_oct _ _ (hm _ (by simp)).2.1 (hm _ (by simp)).2.2, e]
    simp
    omega
  have hd : ∀ c ∈ (48 :: hexL n 8 12 : List UInt8), c.toNat ≠ 46 := by
    intro c hc
    rcases List.mem_cons.1 hc with h | h
    · rw [h]; decide
    · exact (hm c h).1
  rw [looseB_parts (lparts1 _ hd (by simp)) (by simpa using hp), joinP1 _ _ hp]
  by_cases h : 4294967296 ≤ n
  · rw [if_pos (by omega), if_pos h]
  · rw [if_neg (by omega), if_neg h, Nat.min_eq_left (by omega)]
def hexS : ByteArray := { data := #[48, 49, 50, 51, 52, 53, 54, 55, 56, 57, 97, 98, 99, 100, 101, 102] }
def octS : ByteArray := { data := #[48, 49, 50, 51, 52, 53, 54, 55] }
theorem hexS_at (d : Nat) (h : d < 16) (h2 : d < hexS.size) : (hexS[d]).toNat = (hexc d).toNat := by
  have hd : d = 0 ∨ d = 1 ∨ d = 2 ∨ d = 3 ∨ d = 4 ∨ d = 5 ∨ d = 6 ∨ d = 7 ∨ d = 8 ∨ d = 9 ∨ d = 10 ∨ d = 11 ∨ d = 12 ∨ d = 13 ∨ d = 14 ∨ d = 15 := by omega
  rcases hd with rfl | rfl | rfl | rfl | rfl | rfl | rfl | rfl | rfl | rfl | rfl | rfl | rfl | rfl | rfl | rfl <;> rfl
theorem octS_at (d : Nat) (h : d < 8) (h2 : d < octS.size) : (octS[d]).toNat = (hexc d).toNat := by
  have hd : d = 0 ∨ d = 1 ∨ d = 2 ∨ d = 3 ∨ d = 4 ∨ d = 5 ∨ d = 6 ∨ d = 7 := by omega
  rcases hd with rfl | rfl | rfl | rfl | rfl | rfl | rfl | rfl <;> rfl
theorem hexS_get (d : Nat) (h : d < 16) : ∃ c : UInt8, c = hexc d ∧ ∀ h2, ({ data := #[48, 49, 50, 51, 52, 53, 54, 55, 56, 57, 97, 98, 99, 100, 101, 102] } : ByteArray)[d]'h2 = c :=
  ⟨_, rfl, fun h2 => UInt8.toNat_inj.1 (hexS_at d h h2)⟩
theorem octS_get (d : Nat) (h : d < 8) : ∃ c : UInt8, c = hexc d ∧ ∀ h2, ({ data := #[48, 49, 50, 51, 52, 53, 54, 55] } : ByteArray)[d]'h2 = c :=
  ⟨_, rfl, fun h2 => UInt8.toNat_inj.1 (octS_at d h h2)⟩
theorem one_u8 (c : UInt8) (W : World) :
    (convert 75 9 (.slice (some ⟨W.heap.size, 0, none⟩) 1 1)).run Tryd.prog (W.alloc (.cells #[.int .u8 (c.toNat : Int)] 5)) = .ok (.string { data := #[c] }) (W.alloc (.cells #[.int .u8 (c.toNat : Int)] 5)) := by
  have := one_byte c.toNat c.toNat_lt W
  rwa [UInt8.ofNat_toNat] at this
theorem one_u8_next (c : UInt8) (W : World) (o : Obj) :
    (convert 75 9 (.slice (some ⟨W.heap.size + 1, 0, none⟩) 1 1)).run Tryd.prog ((W.alloc o).alloc (.cells #[.int .u8 (c.toNat : Int)] 5)) = .ok (.string { data := #[c] }) ((W.alloc o).alloc (.cells #[.int .u8 (c.toNat : Int)] 5)) := by
  have := one_u8 c (W.alloc o)
  rwa [show (W.alloc o).heap.size = W.heap.size + 1 by simp] at this
end Go.Proofs.YtpgjkeakhjnckaaDoor
/- Contracts of the functions that cut a text: blank, Trim, the reference's Split, Join; and that the pieces joined are the text. -/
namespace Go.Proofs.YtpgjkeakhjnckaaDoor
open Go.RowKit
set_option linter.unusedVariables false
set_option maxRecDepth 20000

def blankC (n : Nat) : Bool := decide (n = 32) || decide (n = 9)

/-- The byte at a place, or 0. -/
def byteAt (s : ByteArray) (k : Nat) : Nat := (s.data.toList.getD k 0).toNat
theorem byteAt_eq (s : ByteArray) (k : Nat) (h : k < s.size) : byteAt s k = (s[k]).toNat := by
  unfold byteAt
  rw [List.getD_eq_getElem?_getD, List.getElem?_eq_getElem (by simpa using h)]; rfl
/-- From k on, past blanks. -/
def skip (s : ByteArray) : Nat → Nat → Nat
  | 0, k => k
  | n + 1, k => if k < s.size ∧ blankC (byteAt s k) = true then skip s n (k + 1) else k
def lead (s : ByteArray) : Nat := skip s s.size 0
/-- From k back, past blanks, not below f. -/
def back (s : ByteArray) (f : Nat) : Nat → Nat
  | 0 => 0
  | k + 1 => if f < k + 1 ∧ blankC (byteAt s k) = true then back s f k else k + 1
def trimB (s : ByteArray) : ByteArray := s.extract (lead s) (back s (lead s) s.size)
theorem skip_le (s : ByteArray) : ∀ n k, k ≤ s.size → k ≤ skip s n k ∧ skip s n k ≤ s.size
  | 0, k, h => ⟨Nat.le_refl _, h⟩
  | n + 1, k, h => by
    unfold skip
    split
    · rename_i hh
      have := skip_le s n (k + 1) (by omega)
      omega
    · omega
theorem skip_stop (s : ByteArray) : ∀ n k, s.size ≤ k + n → skip s n k < s.size → blankC (byteAt s (skip s n k)) = false
  | 0, k, h, hlt => by unfold skip at hlt; omega
  | n + 1, k, h, hlt => by
    by_cases hh : k < s.size ∧ blankC (byteAt s k) = true
    · have e : skip s (n + 1) k = skip s n (k + 1) := by rw [skip, if_pos hh]
      rw [e] at hlt ⊢
      exact skip_stop s n (k + 1) (by omega) hlt
    · have e : skip s (n + 1) k = k := by rw [skip, if_neg hh]
      rw [e] at hlt ⊢
      cases hb : blankC (byteAt s k) with
      | false => rfl
      | true => exact absurd ⟨hlt, hb⟩ hh
theorem back_le (s : ByteArray) (f : Nat) : ∀ k, f ≤ k → f ≤ back s f k ∧ back s f k ≤ k
  | 0, h => ⟨h, Nat.le_refl _⟩
  | k + 1, h => by
    unfold back
    split
    · rename_i hh
      have := back_le s f k (by omega)
      omega
    · omega
theorem back_stop (s : ByteArray) (f : Nat) : ∀ k, f < back s f k → blankC (byteAt s (back s f k - 1)) = false
  | 0, h => by unfold back at h; omega
  | k + 1, h => by
    by_cases hh : f < k + 1 ∧ blankC (byteAt s k) = true
    · have e : back s f (k + 1) = back s f k := by rw [back, if_pos hh]
      rw [e] at h ⊢
      exact back_stop s f k h
    · have e : back s f (k + 1) = k + 1 := by rw [back, if_neg hh]
      rw [e] at h ⊢
      cases hb : blankC (byteAt s k) with
      | false => exact hb
      | true => exact absurd ⟨h, hb⟩ hh
theorem lead_le (s : ByteArray) : lead s ≤ s.size := (skip_le s s.size 0 (Nat.zero_le _)).2
theorem byteAt_extract (s : ByteArray) (f t j : Nat) (h : f + j < t) (ht : t ≤ s.size) : byteAt (s.extract f t) j = byteAt s (f + j) := by
  unfold byteAt
  rw [data_extract]
  simp only [List.getD_eq_getElem?_getD]
  rw [List.getElem?_take_of_lt (by omega), List.getElem?_drop]
theorem lead_zero (s : ByteArray) (h : s.size = 0 ∨ blankC (byteAt s 0) = false) : lead s = 0 := by
  unfold lead
  cases hs : s.size with
  | zero => rfl
  | succ n =>
    rw [skip, if_neg]
    rcases h with h | h
    · omega
    · simp [h]
theorem back_full (s : ByteArray) (k : Nat) (h : k = 0 ∨ blankC (byteAt s (k - 1)) = false) : back s 0 k = k := by
  cases k with
  | zero => rfl
  | succ k =>
    rw [back, if_neg]
    rcases h with h | h
    · omega
    · simp at h; simp [h]
theorem trim_trim (s : ByteArray) : trimB (trimB s) = trimB s := by
  have h1 := lead_le s
  have h2 := back_le s (lead s) s.size h1
  have hz : (trimB s).size = back s (lead s) s.size - lead s := by
    unfold trimB
    simp
    omega
  have hl : lead (trimB s) = 0 := by
    apply lead_zero
    by_cases h0 : (trimB s).size = 0
    · exact .inl h0
    · right
      unfold trimB
      rw [byteAt_extract _ _ _ _ (by omega) (by omega)]
      exact skip_stop s s.size 0 (by omega) (by show lead s < s.size; omega)
  have hb : back (trimB s) 0 (trimB s).size = (trimB s).size := by
    apply back_full
    by_cases h0 : (trimB s).size = 0
    · exact .inl h0
    · right
      have e : byteAt (trimB s) ((trimB s).size - 1) = byteAt s (back s (lead s) s.size - 1) := by
        rw [hz]
        unfold trimB
        rw [byteAt_extract _ _ _ _ (by omega) (by omega)]
        congr 1
        omega
      rw [e]
      exact back_stop s (lead s) s.size (by omega)
  have e : trimB (trimB s) = (trimB s).extract (lead (trimB s)) (back (trimB s) (lead (trimB s)) (trimB s).size) := rfl
  rw [e, hl, hb]
  apply bytes_ext
  rw [data_extract]
  simp only [List.drop_zero, Nat.sub_zero]
  exact List.take_of_length_le (by simp)
theorem skip_step (s : ByteArray) (k : Nat) (h : k < s.size) (hb : blankC (s[k]).toNat = true) : skip s (s.size - k) k = skip s (s.size - (k + 1)) (k + 1) := by
  rw [show s.size - k = (s.size - (k + 1)) + 1 by omega, skip, if_pos ⟨h, by rw [byteAt_eq s k h]; exact hb⟩]
theorem skip_out (s : ByteArray) (k : Nat) (h : ¬ k < s.size ∨ ∃ hk : k < s.size, blankC (s[k]).toNat = false) : skip s (s.size - k) k = k := by
  cases hn : s.size - k with
  | zero => rfl
  | succ n =>
    rw [skip, if_neg]
    rintro ⟨h1, h2⟩
    rcases h with h | ⟨hk, h⟩
    · exact h h1
    · rw [byteAt_eq s k hk, h] at h2
      cases h2
theorem back_step (s : ByteArray) (f t : Nat) (h : f < t + 1) (hk : t < s.size) (hb : blankC (s[t]).toNat = true) : back s f (t + 1) = back s f t := by
  rw [back, if_pos ⟨h, by rw [byteAt_eq s t hk]; exact hb⟩]
theorem back_out (s : ByteArray) (f t : Nat) (hf : f ≤ t) (h : ¬ f < t ∨ ∃ hk : t - 1 < s.size, blankC (s[t - 1]).toNat = false) : back s f t = t := by
  cases t with
  | zero => rfl
  | succ t =>
    rw [back, if_neg]
    rintro ⟨h1, h2⟩
    rcases h with h | ⟨hk, h⟩
    · exact h h1
    · have hk' : t < s.size := by simpa using hk
      rw [byteAt_eq s t hk'] at h2
      have h' : blankC (s[t]).toNat = false := by simpa using h
      rw [h'] at h2
      cases h2

/-- The first k texts with another one between. -/
def joinTo (xs : List ByteArray) (sep : ByteArray) : Nat → ByteArray
  | 0 => { data := #[] }
  | k + 1 => (if 0 < k then joinTo xs sep k ++ sep else joinTo xs sep k) ++ xs.getD k { data := #[] }
theorem joinTo_mono (xs : List ByteArray) (sep : ByteArray) (k : Nat) : ∀ m, (joinTo xs sep k).size ≤ (joinTo xs sep (k + m)).size
  | 0 => Nat.le_refl _
  | m + 1 => by
    have := joinTo_mono xs sep k m
    rw [← Nat.add_assoc, joinTo, ByteArray.size_append]
    split
    · rw [ByteArray.size_append]; omega
    · omega
theorem joinTo_piece (xs : List ByteArray) (sep : ByteArray) (k : Nat) : (xs.getD k { data := #[] }).size ≤ (joinTo xs sep (k + 1)).size := by
  rw [joinTo, ByteArray.size_append]; omega

set_option maxHeartbeats 400000 in
theorem join_any (g n c : Nat) (xs : List ByteArray) (sep : ByteArray) (w : World) (hn : xs.length = n) (hle : n ≤ 1000000) (hsep : sep.size ≤ 1000)
    (hall : (joinTo xs sep n).size ≤ 1000000) (hg : ∀ i (hi : i < xs.length), w.cell? ⟨g, i, none⟩ = some (.string xs[i])) :
    Calls Tryd.prog 95 #[.slice (some ⟨g, 0, none⟩) n c, .string sep] w fun e w' => e = .returned (.string (joinTo xs sep n)) ∧ w = w' := by
  have HG := Lib.hid hg
  have HN := Lib.hid hn
  clear hg hn
  go_enter Tryd.func95, Tryd.ntmps95
  go_wp2
  go_loop [5, 6] (fun t i => ∃ k : Nat, k ≤ n ∧ i = .int .i64 k ∧ t = .string (joinTo xs sep k)) (fun _ i => n - (intOf i).toNat)
  case atStart => exact ⟨0, Nat.zero_le _, rfl, rfl⟩
  case round =>
    obtain ⟨k, hk, rfl, rfl⟩ := hrel
    by_cases hlt : k < n
    · have hk' : k < xs.length := by rw [HN.out]; exact hlt
      have hx : xs.getD k { data := #[] } = xs[k] := by rw [List.getD_eq_getElem?_getD, List.getElem?_eq_getElem hk']; rfl
      have hm := joinTo_mono xs sep (k + 1) (n - (k + 1))
      rw [show k + 1 + (n - (k + 1)) = n by omega] at hm
      have hp := joinTo_piece xs sep k
      have hm0 := joinTo_mono xs sep k 1
      rw [hx] at hp
      have HJ : Hid (joinTo xs sep (k + 1) = (if 0 < k then joinTo xs sep k ++ sep else joinTo xs sep k) ++ xs[k]) := by rw [← hx]; exact Lib.hid rfl
      have c1 := HG.out k hk'
      have z1 : (xs[k]).size ≤ 1000000 := by omega
      have z2 : (joinTo xs sep k).size ≤ 1000000 := by omega
      clear hx hm hp hm0
      generalize xs[k] = x at *
      generalize joinTo xs sep k = t at *
      by_cases h0 : 0 < k
      · go_wp2
        go_round
        case rel => exact ⟨k + 1, by omega, by go_num, by rw [HJ.out, if_pos h0]⟩
        case measure => simp [intOf]; omega
      · go_wp2
        go_round
        case rel => exact ⟨k + 1, by omega, by go_num, by rw [HJ.out, if_neg h0]⟩
        case measure => simp [intOf]; omega
    · obtain rfl : k = n := by omega
      go_wp2
      go_ret
      exact ⟨rfl, rfl⟩

/-- All of them. -/
def joinB (xs : List ByteArray) (sep : ByteArray) : ByteArray := joinTo xs sep xs.length
theorem joinTo_front (xs : List ByteArray) (sep x : ByteArray) : ∀ k, k ≤ xs.length → joinTo (xs ++ [x]) sep k = joinTo xs sep k
  | 0, _ => rfl
  | k + 1, h => by
    have e : (xs ++ [x]).getD k { data := #[] } = xs.getD k { data := #[] } := by
      simp only [List.getD_eq_getElem?_getD]
      rw [List.getElem?_append_left (by omega)]
    rw [joinTo, joinTo, joinTo_front xs sep x k (by omega), e]
theorem joinB_snoc (xs : List ByteArray) (sep x : ByteArray) : joinB (xs ++ [x]) sep = (if 0 < xs.length then joinB xs sep ++ sep else joinB xs sep) ++ x := by
  have e : (xs ++ [x]).getD xs.length { data := #[] } = x := by simp [List.getD_eq_getElem?_getD]
  unfold joinB
  rw [List.length_append, List.length_singleton, joinTo, joinTo_front xs sep x xs.length (Nat.le_refl _), e]
theorem take_more (l : List UInt8) (f k : Nat) (h : f ≤ k) : l.take f ++ (l.drop f).take (k - f) = l.take k := by
  rw [← List.take_add, Nat.add_sub_cancel' h]
theorem sp_join (s : ByteArray) (sep : Nat) (hsep : sep < 256) : ∀ k, k ≤ s.size →
    ((sp s sep k).1 = [] ∧ (sp s sep k).2 = 0) ∨ (0 < (sp s sep k).1.length ∧ (joinB (sp s sep k).1 { data := #[UInt8.ofNat sep] }).data.toList ++ [UInt8.ofNat sep] = s.data.toList.take (sp s sep k).2)
  | 0, _ => .inl ⟨rfl, rfl⟩
  | k + 1, h => by
    have ih := sp_join s sep hsep k (by omega)
    have hle := sp_le s sep k
    by_cases hit : (s[k]).toNat = sep
    · rw [sp_hit s sep k (by omega) hit]
      right
      refine ⟨by simp, ?_⟩
      have hlast : s.data.toList.take (k + 1) = s.data.toList.take k ++ [UInt8.ofNat sep] := by
        rw [List.take_succ_eq_append_getElem (by simp; omega)]
        congr 2
        rw [← hit]
        exact (UInt8.ofNat_toNat).symm
      rw [joinB_snoc, data_append, data_extract, hlast]
      congr 1
      rcases ih with ⟨h1, h2⟩ | ⟨h1, h2⟩
      · rw [h1, h2]
        simp [joinB, joinTo]
      · rw [if_pos h1, data_append]
        show (_ ++ [UInt8.ofNat sep]) ++ _ = _
        rw [h2, take_more _ _ _ hle.1]
    · rw [sp_miss s sep k (by omega) hit]
      exact ih
theorem pieces_join (s : ByteArray) (sep : Nat) (hsep : sep < 256) : joinB (pieces s sep) { data := #[UInt8.ofNat sep] } = s := by
  have hle := sp_le s sep s.size
  apply bytes_ext
  unfold pieces
  rw [joinB_snoc, data_append, data_extract]
  have hall : s.data.toList.take s.size = s.data.toList := List.take_of_length_le (by simp)
  rcases sp_join s sep hsep s.size (Nat.le_refl _) with ⟨h1, h2⟩ | ⟨h1, h2⟩
  · rw [h1, h2]
    simp [joinB, joinTo]
    exact hall
  · rw [if_pos h1, data_append]
    show (_ ++ [UInt8.ofNat sep]) ++ _ = _
    rw [h2, take_more _ _ _ hle.1, hall]
end Go.Proofs.YtpgjkeakhjnckaaDoor
/- Contracts of the reference's Run, Mapped, group, row of layer 3. -/
namespace Go.Proofs.YtpgjkeakhjnckaaDoor
open Go.RowKit
set_option linter.unusedVariables false
set_option maxRecDepth 20000

/-- A group's digits. -/
def groupL (n : Nat) : List UInt8 := if n < 16 then [hexc n] else groupL (n / 16) ++ [hexc (n % 16)]
termination_by n
decreasing_by omega
theorem groupL_one {n : Nat} (h : n < 16) : groupL n = [hexc n] := by rw [groupL, if_pos h]
theorem groupL_more {n : Nat} (h : ¬ n < 16) : groupL n = groupL (n / 16) ++ [hexc (n % 16)] := by rw [groupL, if_neg h]
theorem groupL_length (n : Nat) (h : n < 65536) : 0 < (groupL n).length ∧ (groupL n).length ≤ 4 := by
  by_cases h1 : n < 16
  · rw [groupL_one h1]; simp
  · by_cases h2 : n / 16 < 16
    · rw [groupL_more h1, groupL_one h2]; simp
    · by_cases h3 : n / 16 / 16 < 16
      · rw [groupL_more h1, groupL_more h2, groupL_one h3]; simp
      · rw [groupL_more h1, groupL_more h2, groupL_more h3, groupL_one (by omega)]; simp
theorem hexS_cut (d : Nat) (h : d < 16) : ∃ D : ByteArray, D = ofL [hexc d] ∧ ({ data := #[48, 49, 50, 51, 52, 53, 54, 55, 56, 57, 97, 98, 99, 100, 101, 102] } : ByteArray).extract d (d + 1) = D := by
  refine ⟨_, rfl, ?_⟩
  have hd : d = 0 ∨ d = 1 ∨ d = 2 ∨ d = 3 ∨ d = 4 ∨ d = 5 ∨ d = 6 ∨ d = 7 ∨ d = 8 ∨ d = 9 ∨ d = 10 ∨ d = 11 ∨ d = 12 ∨ d = 13 ∨ d = 14 ∨ d = 15 := by omega
  rcases hd with rfl | rfl | rfl | rfl | rfl | rfl | rfl | rfl | rfl | rfl | rfl | rfl | rfl | rfl | rfl | rfl <;> decide

set_option maxHeartbeats 1000000 in
theorem refGroup_any (n : Nat) : ∀ (w : World), n < 65536 →
    Calls Tryd.prog 94 #[.int .u16 (n : Int)] w fun e w' => e = .returned (.string (ofL (groupL n))) ∧ w = w' := by
  induction n using Nat.strongRecOn with
  | _ n ih =>
    intro w hn
    obtain ⟨d, hd, ed, hd2⟩ : ∃ d : Nat, d < 16 ∧ (n : Int) % 16 = (d : Int) ∧ n % 16 = d := ⟨n % 16, by omega, by omega, rfl⟩
    obtain ⟨D, hD, hcut⟩ := hexS_cut d hd
    have hDz : D.size = 1 := by rw [hD, ofL_size]; rfl
    have HD := Lib.hid hD
    have HD2 := Lib.hid hd2
    have hw1 : IntKind.u16.wrap ((d : Int) + 1) = (d : Int) + 1 := by rw [IntKind.wrap_u16]; omega
    clear hD hd2
    by_cases h : n < 16
    · have HG := Lib.hid (groupL_one h)
      clear ih
      go_enter Tryd.func94, Tryd.ntmps94
      go_wp2_with fail
      go_ret
      exact ⟨str_ret (by rw [HG.out, ofL_data, HD.out, ofL_data, ← HD2.out, Nat.mod_eq_of_lt h]), rfl⟩
    · have HG := Lib.hid (groupL_more h)
      obtain ⟨m, em, hm⟩ : ∃ m : Nat, (n : Int) / 16 = (m : Int) ∧ n / 16 = m := ⟨n / 16, by omega, rfl⟩
      have HI := Lib.hid (ih m (by omega))
      have HM := Lib.hid hm
      have hml : m < 65536 := by omega
      have hmz := (groupL_length m hml).2
      have hmz2 := ofL_size (groupL m)
      clear ih hm
      go_enter Tryd.func94, Tryd.ntmps94
      go_wp2_with fail
      refine (HI.out _ hml).mono ?_
      rintro e w' ⟨rfl, rfl⟩
      generalize hE : ofL (groupL m) = E at *
      have HE := Lib.hid hE
      have hEz : E.size ≤ 4 := by omega
      clear hE hmz2
      go_wp2_with fail
      go_ret
      exact ⟨str_ret (by rw [HG.out, ofL_data, data_append, ← HE.out, ofL_data, HD.out, ofL_data, HM.out, HD2.out]), rfl⟩

theorem Arr8.new (w : World) (t : TypeId) (x0 x1 x2 x3 x4 x5 x6 x7 : Nat) : Arr8 (w.alloc (.cells #[.int .u16 (x0 : Int), .int .u16 (x1 : Int), .int .u16 (x2 : Int), .int .u16 (x3 : Int), .int .u16 (x4 : Int), .int .u16 (x5 : Int), .int .u16 (x6 : Int), .int .u16 (x7 : Int)] t)) w.heap.size [x0, x1, x2, x3, x4, x5, x6, x7] := by
  refine ⟨rfl, by simp, ?_, ?_⟩
  · intro j hj
    have : j = 0 ∨ j = 1 ∨ j = 2 ∨ j = 3 ∨ j = 4 ∨ j = 5 ∨ j = 6 ∨ j = 7 := by omega
    rcases this with rfl | rfl | rfl | rfl | rfl | rfl | rfl | rfl <;> simp [World.cell?_alloc_new]
  · intro j hj
    exact World.frozen?_alloc_new _ _ _ _
theorem arr8_eq (x0 x1 x2 x3 x4 x5 x6 x7 : Nat) : arr8 [x0, x1, x2, x3, x4, x5, x6, x7] = .agg #[.int .u16 (x0 : Int), .int .u16 (x1 : Int), .int .u16 (x2 : Int), .int .u16 (x3 : Int), .int .u16 (x4 : Int), .int .u16 (x5 : Int), .int .u16 (x6 : Int), .int .u16 (x7 : Int)] := rfl

/-- The first k groups are 0. -/
def zer (gs : List Nat) : Nat → Bool
  | 0 => true
  | k + 1 => zer gs k && decide (gs.getD k 0 = 0)
theorem zer_false (gs : List Nat) (k : Nat) (h : zer gs k = false) : ∀ m, zer gs (k + m) = false
  | 0 => h
  | m + 1 => by rw [← Nat.add_assoc, zer, zer_false gs k h m]; rfl
def mappedB (gs : List Nat) : Bool := zer gs 5 && decide (gs.getD 5 0 = 65535)

set_option maxHeartbeats 1000000 in
theorem refMapped_any (gs : List Nat) (w : World) (h8 : gs.length = 8) (hlt : ∀ x ∈ gs, x < 65536) :
    Calls Tryd.prog 85 #[arr8 gs] w fun e w' => e = .returned (.bool (mappedB gs)) ∧ Below w.heap.size w w' := by
  obtain ⟨x0, x1, x2, x3, x4, x5, x6, x7, hgs⟩ := list8 gs h8
  have hA := Arr8.new w 66 x0 x1 x2 x3 x4 x5 x6 x7
  have hb : Below w.heap.size w (w.alloc (.cells #[.int .u16 (x0 : Int), .int .u16 (x1 : Int), .int .u16 (x2 : Int), .int .u16 (x3 : Int), .int .u16 (x4 : Int), .int .u16 (x5 : Int), .int .u16 (x6 : Int), .int .u16 (x7 : Int)] 66)) := (Below.refl _ _).alloc (Nat.le_refl _) _
  rw [← hgs] at hA
  rw [show arr8 gs = .agg #[.int .u16 (x0 : Int), .int .u16 (x1 : Int), .int .u16 (x2 : Int), .int .u16 (x3 : Int), .int .u16 (x4 : Int), .int .u16 (x5 : Int), .int .u16 (x6 : Int), .int .u16 (x7 : Int)] by rw [hgs]; rfl]
  clear hgs
  go_enter Tryd.func85, Tryd.ntmps85
  go_wp2_with fail
  generalize w.alloc (.cells #[.int .u16 (x0 : Int), .int .u16 (x1 : Int), .int .u16 (x2 : Int), .int .u16 (x3 : Int), .int .u16 (x4 : Int), .int .u16 (x5 : Int), .int .u16 (x6 : Int), .int .u16 (x7 : Int)] 66) = W at *
  have HA := Lib.hid hA
  clear hA
  go_loop [3] (fun i => ∃ k : Nat, k ≤ 5 ∧ i = .int .i64 k ∧ Hid (zer gs k = true)) (fun i => 5 - (intOf i).toNat)
  case atStart => exact ⟨0, by decide, rfl, Lib.hid rfl⟩
  case round =>
    obtain ⟨k, hk, rfl, HK⟩ := hrel
    by_cases hk5 : k < 5
    · have hcell := HA.out.cells k (by omega)
      obtain ⟨x, ex⟩ : ∃ x, gs.getD k 0 = x := ⟨_, rfl⟩
      rw [ex] at hcell
      have HX := Lib.hid ex
      clear ex
      by_cases h0 : x = 0
      · have HT : Hid (zer gs (k + 1) = true) := Lib.hid (by rw [zer, HK.out, HX.out, h0]; rfl)
        have hx0 : ((x : Int) != 0) = false := by simp; omega
        clear h0
        go_wp2_with fail
        go_round
        case rel => exact ⟨k + 1, by omega, by go_num, HT⟩
        case measure => simp [intOf]; omega
      · have HT : Hid (zer gs 5 = false) := Lib.hid (by
          have := zer_false gs (k + 1) (by rw [zer, HK.out, HX.out]; simp [h0]) (5 - (k + 1))
          rwa [show k + 1 + (5 - (k + 1)) = 5 by omega] at this)
        have hx0 : ((x : Int) != 0) = true := by simp; omega
        clear h0
        go_wp2_with fail
        go_ret
        exact ⟨bool_ret (by unfold mappedB; rw [HT.out]; rfl), hb⟩
    · obtain rfl : k = 5 := by omega
      have hcell := HA.out.cells 5 (by decide)
      obtain ⟨x, ex⟩ : ∃ x, gs.getD 5 0 = x := ⟨_, rfl⟩
      rw [ex] at hcell
      have HX := Lib.hid ex
      clear ex
      go_wp2_with fail
      go_ret
      exact ⟨bool_ret (by unfold mappedB; rw [HK.out, HX.out, Bool.true_and, Bool.eq_iff_iff]; simp; omega), hb⟩

/-- How many groups are 0 from the i-th on. -/
def zl (gs : List Nat) : Nat → Nat → Nat
  | 0, _ => 0
  | f + 1, i => if gs.getD i 0 = 0 then zl gs f (i + 1) + 1 else 0
def zrun (gs : List Nat) (i : Nat) : Nat := zl gs (8 - i) i
theorem zl_le (gs : List Nat) : ∀ f i, zl gs f i ≤ f
  | 0, _ => Nat.le_refl _
  | f + 1, i => by
    rw [zl]
    split
    · have := zl_le gs f (i + 1); omega
    · omega
theorem zrun_le (gs : List Nat) (i : Nat) : zrun gs i ≤ 8 - i := zl_le gs _ _
theorem zrun_zero {gs : List Nat} {i : Nat} (h : i < 8) (h0 : gs.getD i 0 = 0) : zrun gs i = zrun gs (i + 1) + 1 := by
  unfold zrun
  rw [show 8 - i = (8 - (i + 1)) + 1 by omega, zl, if_pos h0]
theorem zrun_stop {gs : List Nat} {i : Nat} (h : ¬ i < 8 ∨ ¬ gs.getD i 0 = 0) : zrun gs i = 0 := by
  unfold zrun
  by_cases h8 : i < 8
  · rw [show 8 - i = (8 - (i + 1)) + 1 by omega, zl, if_neg (by rcases h with h | h; omega; exact h)]
  · rw [show 8 - i = 0 by omega, zl]
/-- The first of the longest rows of two zeros or more, among those that begin in the first k places. -/
def runTo (gs : List Nat) : Nat → Nat × Nat
  | 0 => (0, 0)
  | k + 1 => if 2 ≤ zrun gs k ∧ (runTo gs k).2 < zrun gs k then (k, zrun gs k) else runTo gs k
def runB (gs : List Nat) : Nat × Nat := runTo gs 8
theorem runTo_le (gs : List Nat) : ∀ k, k ≤ 8 → (runTo gs k).1 + (runTo gs k).2 ≤ 8
  | 0, _ => by simp [runTo]
  | k + 1, h => by
    rw [runTo]
    split
    · have := zrun_le gs k; simp only; omega
    · exact runTo_le gs k (by omega)
def runRet (p : Nat × Nat) : Value := .tuple #[.int .i64 ((p.1 : Nat) : Int), .int .i64 ((p.2 : Nat) : Int)]
theorem run_ret {o p : Nat × Nat} (h : o = p) : Ending.returned (runRet o) = .returned (runRet p) := by rw [h]

set_option maxRecDepth 100000 in
set_option maxHeartbeats 2000000 in
theorem refRun_any (gs : List Nat) (w : World) (h8 : gs.length = 8) (hlt : ∀ x ∈ gs, x < 65536) :
    Calls Tryd.prog 86 #[arr8 gs] w fun e w' => e = .returned (runRet (runB gs)) ∧ Below w.heap.size w w' := by
  obtain ⟨x0, x1, x2, x3, x4, x5, x6, x7, hgs⟩ := list8 gs h8
  have hA := Arr8.new w 66 x0 x1 x2 x3 x4 x5 x6 x7
  have hb : Below w.heap.size w (w.alloc (.cells #[.int .u16 (x0 : Int), .int .u16 (x1 : Int), .int .u16 (x2 : Int), .int .u16 (x3 : Int), .int .u16 (x4 : Int), .int .u16 (x5 : Int), .int .u16 (x6 : Int), .int .u16 (x7 : Int)] 66)) := (Below.refl _ _).alloc (Nat.le_refl _) _
  rw [← hgs] at hA
  rw [show arr8 gs = .agg #[.int .u16 (x0 : Int), .int .u16 (x1 : Int), .int .u16 (x2 : Int), .int .u16 (x3 : Int), .int .u16 (x4 : Int), .int .u16 (x5 : Int), .int .u16 (x6 : Int), .int .u16 (x7 : Int)] by rw [hgs]; rfl]
  clear hgs
  go_enter Tryd.func86, Tryd.ntmps86
  go_wp2_with fail
  generalize w.alloc (.cells #[.int .u16 (x0 : Int), .int .u16 (x1 : Int), .int .u16 (x2 : Int), .int .u16 (x3 : Int), .int .u16 (x4 : Int), .int .u16 (x5 : Int), .int .u16 (x6 : Int), .int .u16 (x7 : Int)] 66) = W at *
  have HA := Lib.hid hA
  clear hA
  go_loop [4, 5, 6] (fun a m i => ∃ k A M : Nat, k ≤ 8 ∧ i = .int .i64 k ∧ a = .int .i64 (A : Int) ∧ m = .int .i64 (M : Int) ∧ A + M ≤ 8 ∧ Hid (runTo gs k = (A, M))) (fun _ _ i => 8 - (intOf i).toNat)
  case atStart => exact ⟨0, 0, 0, by decide, rfl, rfl, rfl, by decide, Lib.hid rfl⟩
  case round =>
    obtain ⟨k, A, M, hk, rfl, rfl, rfl, hAM, HK⟩ := hrel
    by_cases hk8 : k < 8
    · go_wp2_with fail
      go_loop [7] (fun n => ∃ z : Nat, k + z ≤ 8 ∧ n = .int .i64 (z : Int) ∧ Hid (zrun gs k = z + zrun gs (k + z))) (fun n => 8 - k - (intOf n).toNat)
      case atStart => exact ⟨0, by omega, rfl, Lib.hid (by rw [Nat.zero_add, Nat.add_zero])⟩
      case round =>
        obtain ⟨z, hz, rfl, HZ⟩ := hrel
        by_cases hlt8 : k + z < 8
        · have hcell := HA.out.cells (k + z) hlt8
          obtain ⟨x, ex⟩ : ∃ x, gs.getD (k + z) 0 = x := ⟨_, rfl⟩
          rw [ex] at hcell
          have HX := Lib.hid ex
          clear ex
          have hlti : (k : Int) + (z : Int) < 8 := by omega
          by_cases h0 : x = 0
          · have HT : Hid (zrun gs k = (z + 1) + zrun gs (k + (z + 1))) := Lib.hid (by rw [HZ.out, zrun_zero hlt8 (by rw [HX.out]; exact h0), Nat.add_assoc]; omega)
            have hx0 : ((x : Int) == 0) = true := by simp; omega
            clear h0
            go_wp2_with fail
            go_round
            case rel => exact ⟨z + 1, by omega, by go_num, HT⟩
            case measure => simp [intOf]; omega
          · have HZ2 : Hid (zrun gs k = z) := Lib.hid (by rw [HZ.out, zrun_stop (.inr (by rw [HX.out]; exact h0)), Nat.add_zero])
            have hx0 : ((x : Int) == 0) = false := by simp; omega
            clear h0
            have hz8 : z ≤ 8 := by omega
            by_cases h2 : 2 ≤ z
            · by_cases hM : M < z
              · have HT : Hid (runTo gs (k + 1) = (k, z)) := Lib.hid (by rw [runTo, HZ2.out, HK.out]; simp only [if_pos (show 2 ≤ z ∧ M < z from ⟨h2, hM⟩)])
                go_wp2_with fail
                go_round
                case rel => exact ⟨k + 1, k, z, by omega, by go_num, rfl, rfl, by omega, HT⟩
                case measure => simp [intOf]; omega
              · have HT : Hid (runTo gs (k + 1) = (A, M)) := Lib.hid (by rw [runTo, HZ2.out, HK.out]; simp only [if_neg (show ¬ (2 ≤ z ∧ M < z) from fun h => hM h.2)])
                go_wp2_with fail
                go_round
                case rel => exact ⟨k + 1, A, M, by omega, by go_num, rfl, rfl, by omega, HT⟩
                case measure => simp [intOf]; omega
            · have HT : Hid (runTo gs (k + 1) = (A, M)) := Lib.hid (by rw [runTo, HZ2.out, HK.out]; simp only [if_neg (show ¬ (2 ≤ z ∧ M < z) from fun h => h2 h.1)])
              go_wp2_with fail
              go_round
              case rel => exact ⟨k + 1, A, M, by omega, by go_num, rfl, rfl, by omega, HT⟩
              case measure => simp [intOf]; omega
        · have HZ2 : Hid (zrun gs k = z) := Lib.hid (by rw [HZ.out, zrun_stop (.inl hlt8), Nat.add_zero])
          have hlti : ¬ (k : Int) + (z : Int) < 8 := by omega
          have hz8 : z ≤ 8 := by omega
          by_cases h2 : 2 ≤ z
          · by_cases hM : M < z
            · have HT : Hid (runTo gs (k + 1) = (k, z)) := Lib.hid (by rw [runTo, HZ2.out, HK.out]; simp only [if_pos (show 2 ≤ z ∧ M < z from ⟨h2, hM⟩)])
              go_wp2_with fail
              go_round
              case rel => exact ⟨k + 1, k, z, by omega, by go_num, rfl, rfl, by omega, HT⟩
              case measure => simp [intOf]; omega
            · have HT : Hid (runTo gs (k + 1) = (A, M)) := Lib.hid (by rw [runTo, HZ2.out, HK.out]; simp only [if_neg (show ¬ (2 ≤ z ∧ M < z) from fun h => hM h.2)])
              go_wp2_with fail
              go_round
              case rel => exact ⟨k + 1, A, M, by omega, by go_num, rfl, rfl, by omega, HT⟩
              case measure => simp [intOf]; omega
          · have HT : Hid (runTo gs (k + 1) = (A, M)) := Lib.hid (by rw [runTo, HZ2.out, HK.out]; simp only [if_neg (show ¬ (2 ≤ z ∧ M < z) from fun h => h2 h.1)])
            go_wp2_with fail
            go_round
            case rel => exact ⟨k + 1, A, M, by omega, by go_num, rfl, rfl, by omega, HT⟩
            case measure => simp [intOf]; omega
    · obtain rfl : k = 8 := by omega
      go_wp2_with fail
      go_ret2
      exact ⟨run_ret (o := (A, M)) (by unfold runB; rw [HK.out]), hb⟩
end Go.Proofs.YtpgjkeakhjnckaaDoor
/- Contracts of the reference's row and Print of layer 3. -/
namespace Go.Proofs.YtpgjkeakhjnckaaDoor
open Go.RowKit
set_option linter.unusedVariables false
set_option maxRecDepth 20000

/-- A group's text. -/
def gS (n : Nat) : ByteArray := ofL (groupL n)
theorem gS_size (n : Nat) (h : n < 65536) : (gS n).size ≤ 4 := by
  unfold gS
  rw [ofL_size]
  exact (groupL_length n h).2
/-- Groups with colons between. -/
def rowS (l : List Nat) : ByteArray := joinTo (l.map gS) { data := #[58] } l.length
theorem joinTo_small (l : List Nat) (h : ∀ x ∈ l, x < 65536) : ∀ k, (joinTo (l.map gS) { data := #[58] } k).size ≤ 5 * k
  | 0 => Nat.le_refl _
  | k + 1 => by
    have ih := joinTo_small l h k
    have hx : ((l.map gS).getD k { data := #[] }).size ≤ 4 := by
      rw [List.getD_eq_getElem?_getD]
      cases hk : (l.map gS)[k]? with
      | none => exact Nat.zero_le _
      | some p =>
        rw [List.getElem?_map] at hk
        cases hl : l[k]? with
        | none => rw [hl] at hk; cases hk
        | some x =>
          rw [hl] at hk
          have := Option.some.inj hk
          subst this
          exact gS_size x (h x (List.mem_of_getElem? hl))
    rw [joinTo]
    split
    · rw [ByteArray.size_append, ByteArray.size_append]
      show _ + 1 + _ ≤ _
      omega
    · rw [ByteArray.size_append]
      omega
theorem rowS_small (l : List Nat) (h : ∀ x ∈ l, x < 65536) : (rowS l).size ≤ 5 * l.length := joinTo_small l h _

theorem own_rows {w : World} {B : Nat} {v : Value} {l : List ByteArray} (h : w.ownsRow B 9 1 v l.length (l.map Value.string)) :
    (v = .slice none 0 0 ∧ l.length = 0) ∨ ∃ g cap, v = .slice (some ⟨g, 0, none⟩) l.length cap ∧ StrRow w g l.length cap l := by
  have hh := h
  rcases h.2 with ⟨rfl, h0⟩ | ⟨g, cap, cur, rfl, hB, hg, h1, h2, _⟩
  · exact .inl ⟨rfl, h0⟩
  · refine .inr ⟨g, cap, rfl, rfl, h1, h2, ?_, fun i hi => ?_⟩
    · rcases Nat.lt_or_ge g w.heap.size with h | h
      · exact h
      · rw [Array.getElem?_eq_none h] at hg; cases hg
    · rw [own_cells hh i hi, List.getD_eq_getElem?_getD, List.getElem?_eq_getElem hi]
      rfl
set_option maxHeartbeats 400000 in
theorem refJoin_nil (sep : ByteArray) (w : World) : Calls Tryd.prog 95 #[.slice none 0 0, .string sep] w fun e w' => e = .returned (.string { data := #[] }) ∧ w = w' := by
  go_enter Tryd.func95, Tryd.ntmps95
  go_wp2
  refine wp_loop_rounds 1 ?_
  rw [rounds_succ]
  go_wp2
  go_ret
  exact ⟨rfl, rfl⟩

set_option maxRecDepth 100000 in
set_option maxHeartbeats 2000000 in
theorem refRow_any (l : List Nat) (G o n c : Nat) (w : World) (hn : l.length = n) (h8 : n ≤ 8) (hc : n ≤ c) (hcm : c ≤ 8) (hlt : ∀ x ∈ l, x < 65536) (hG : G < w.heap.size)
    (hcells : ∀ j, j < n → w.cell? ⟨G, o + j, none⟩ = some (.int .u16 ((l.getD j 0 : Nat) : Int))) :
    Calls Tryd.prog 87 #[.slice (some ⟨G, o, none⟩) n c] w fun e w' => e = .returned (.string (rowS l)) ∧ Below w.heap.size w w' := by
  obtain ⟨i0, hi0, hz0, hz1, hz2⟩ := info_parts Tryd.infoString
  have HC := Lib.hid hcells
  have HN := Lib.hid hn
  have HL := Lib.hid hlt
  clear hcells hn hlt
  go_enter Tryd.func87, Tryd.ntmps87
  go_wp2_with fail
  go_loopw [3, 4] (fun v i wr => ∃ k : Nat, k ≤ n ∧ i = .int .i64 k ∧ wr.ownsRow w.heap.size 9 1 v ((l.take k).map gS).length (((l.take k).map gS).map Value.string) ∧ Below w.heap.size w wr) (fun _ i _ => n - (intOf i).toNat)
  case atStart => exact ⟨0, Nat.zero_le _, rfl, World.ownsRow_nil _ _ _ _, Below.refl _ _⟩
  case round =>
    obtain ⟨k, hk, rfl, hown, hbel⟩ := hrel
    by_cases hkn : k < n
    · have hcell : wr.cell? ⟨G, o + k, none⟩ = some (.int .u16 ((l.getD k 0 : Nat) : Int)) := by rw [hbel.cell (p := ⟨G, o + k, none⟩) hG]; exact HC.out k hkn
      have hx : l.getD k 0 < 65536 := by
        rw [List.getD_eq_getElem?_getD, List.getElem?_eq_getElem (by rw [HN.out]; exact hkn)]
        exact HL.out _ (List.getElem_mem _)
      have et : (l.take (k + 1)).map gS = (l.take k).map gS ++ [gS (l.getD k 0)] := by
        have e : l.take (k + 1) = l.take k ++ [l.getD k 0] := by
          rw [List.take_add_one, List.getD_eq_getElem?_getD, List.getElem?_eq_getElem (by rw [HN.out]; exact hkn)]; rfl
        rw [e, List.map_append]
        rfl
      have hTl : ((l.take k).map gS).length ≤ 8 := by
        simp
        omega
      have HT := Lib.hid et
      obtain ⟨x, ex⟩ : ∃ x, l.getD k 0 = x := ⟨_, rfl⟩
      rw [ex] at hcell hx HT
      clear ex et
      generalize (l.take k).map gS = T at *
      have hsz := hbel.size
      go_wp2_with fail
      refine (refGroup_any x _ hx).mono ?_
      rintro e w1 ⟨rfl, rfl⟩
      go_wp2_with (at_builtin; refine wpList_append_own _ rfl (.tmp 11) (.tmp 17) 78 rfl w.heap.size 9 i0 _ 1 16 Tryd.underlying78 hi0 hz0 hz1 hz2 rfl (by decide) _ _ _ rfl (hown.alloc _) ⟨wr.heap.size, 0, none⟩ 1 1 [.string (ofL (groupL x))] rfl rfl ?c1 ?c2 ?c3 ?c4 ?c5 ?_)
      case c1 => exact cell_one_new _ _ _
      case c2 => intro u hu; simp at hu; subst hu; rfl
      case c3 => unfold maxLen; omega
      case c4 => omega
      case c5 => simp; omega
      intro v' w2 hown' hgrow _
      have R := own_snoc hown' hgrow hown hbel
      clear hown' hgrow hown hbel
      go_wp2_with fail
      go_roundw
      case rel => exact ⟨k + 1, by omega, by go_num, by rw [HT.out]; exact R.1, R.2⟩
      case measure => simp [intOf]; omega
    · obtain rfl : k = n := by omega
      rw [List.take_of_length_le (by rw [HN.out]; exact Nat.le_refl _)] at hown
      have hlen : (l.map gS).length = k := by rw [List.length_map, HN.out]
      have hsmall := joinTo_small l HL.out k
      have HR : Hid (rowS l = joinTo (l.map gS) { data := #[58] } k) := Lib.hid (by unfold rowS; rw [HN.out])
      generalize l.map gS = xs at *
      have hv := own_rows hown
      rw [hlen] at hv
      rcases hv with ⟨rfl, h0⟩ | ⟨g, cap, rfl, hrow⟩
      · have hx : xs = [] := List.eq_nil_of_length_eq_zero (by omega)
        have HR2 : Hid (rowS l = { data := #[] }) := Lib.hid (by rw [HR.out, hx, h0]; rfl)
        clear hown hlen hx h0 hsmall HR
        go_wp2_with fail
        refine (refJoin_nil _ _).mono ?_
        rintro e w1 ⟨rfl, rfl⟩
        go_wp2_with fail
        go_ret
        exact ⟨by rw [HR2.out]; rfl, hbel⟩
      · have hrc := hrow.cap
        have hrm := hrow.capm
        unfold maxLen at hrm
        have HRow := Lib.hid hrow
        have HLen := Lib.hid hlen
        clear hown hlen hrow
        go_wp2_with fail
        refine (join_any g k cap xs _ _ HLen.out (by omega) ?_ ?_ ?_).mono ?_
        · show 1 ≤ 1000; decide
        · exact Nat.le_trans hsmall (by omega)
        · intro i hi
          have := HRow.out.cells i (by rw [← HLen.out]; exact hi)
          rw [this, List.getD_eq_getElem?_getD, List.getElem?_eq_getElem hi]
          rfl
        rintro e w1 ⟨rfl, rfl⟩
        have HR2 : Hid (rowS l = joinTo xs { data := #[58] } k) := HR
        go_wp2_with fail
        go_ret
        exact ⟨by rw [HR2.out]; rfl, hbel⟩

/-- What a part of the groups is printed as. -/
def RowFact (gs : List Nat) (o n c : Nat) (X : ByteArray) : Prop :=
  n ≤ c ∧ c ≤ 8 ∧ ∃ l : List Nat, l.length = n ∧ rowS l = X ∧ (∀ x ∈ l, x < 65536) ∧ ∀ j, j < n → o + j < 8 ∧ gs.getD (o + j) 0 = l.getD j 0
theorem row_held {gs : List Nat} (B o n c : Nat) (X : ByteArray) (W w : World) (h : Hid (RowFact gs o n c X)) (hA : Hid (Arr8 w B gs ∧ Below W.heap.size W w)) :
    Calls Tryd.prog 87 #[.slice (some ⟨B, o, none⟩) n c] w fun e w' => e = .returned (.string X) ∧ Hid (Arr8 w' B gs ∧ Below W.heap.size W w') := by
  obtain ⟨h1, h2, l, h3, rfl, h4, h5⟩ := h.out
  obtain ⟨hA1, hA2⟩ := hA.out
  refine (refRow_any l B o n c w h3 (by omega) h1 h2 h4 hA1.lt (fun j hj => ?_)).mono ?_
  · rw [hA1.cells (o + j) (h5 j hj).1, (h5 j hj).2]
  · rintro e w' ⟨rfl, hb⟩
    exact ⟨rfl, Lib.hid ⟨hA1.below hb, chain hA2 hb⟩⟩
/-- The printed text. -/
def printB (gs : List Nat) : ByteArray :=
  if mappedB gs then ofL [58, 58, 102, 102, 102, 102, 58] ++ text4 (gs.getD 6 0 / 256) (gs.getD 6 0 % 256) (gs.getD 7 0 / 256) (gs.getD 7 0 % 256) else
  if (runB gs).2 = 0 then rowS gs else rowS (gs.take (runB gs).1) ++ ofL [58, 58] ++ rowS (gs.drop ((runB gs).1 + (runB gs).2))

set_option maxRecDepth 100000 in
set_option maxHeartbeats 4000000 in
theorem refPrint6_any (gs : List Nat) (w : World) (h8 : gs.length = 8) (hlt : ∀ x ∈ gs, x < 65536) :
    Calls Tryd.prog 66 #[arr8 gs] w fun e w' => e = .returned (.string (printB gs)) ∧ Below w.heap.size w w' := by
  have hlt2 := hlt
  obtain ⟨x0, x1, x2, x3, x4, x5, x6, x7, hgs⟩ := list8 gs h8
  have hA := Arr8.new w 66 x0 x1 x2 x3 x4 x5 x6 x7
  have hb : Below w.heap.size w (w.alloc (.cells #[.int .u16 (x0 : Int), .int .u16 (x1 : Int), .int .u16 (x2 : Int), .int .u16 (x3 : Int), .int .u16 (x4 : Int), .int .u16 (x5 : Int), .int .u16 (x6 : Int), .int .u16 (x7 : Int)] 66)) := (Below.refl _ _).alloc (Nat.le_refl _) _
  have ha : arr8 gs = .agg #[.int .u16 (x0 : Int), .int .u16 (x1 : Int), .int .u16 (x2 : Int), .int .u16 (x3 : Int), .int .u16 (x4 : Int), .int .u16 (x5 : Int), .int .u16 (x6 : Int), .int .u16 (x7 : Int)] := by rw [hgs]; rfl
  have HM := Lib.hid (fun w => refMapped_any gs w h8 hlt)
  have HRn := Lib.hid (fun w => refRun_any gs w h8 hlt)
  rw [ha] at HM HRn
  rw [ha]
  go_enter Tryd.func66, Tryd.ntmps66
  go_wp2_with fail
  generalize w.alloc (.cells #[.int .u16 (x0 : Int), .int .u16 (x1 : Int), .int .u16 (x2 : Int), .int .u16 (x3 : Int), .int .u16 (x4 : Int), .int .u16 (x5 : Int), .int .u16 (x6 : Int), .int .u16 (x7 : Int)] 66) = W at *
  refine (HM.out _).mono ?_
  rintro e w1 ⟨rfl, hb1⟩
  have hA1 := hA.below hb1
  obtain ⟨c0, c1, c2, c3, c4, c5, c6, c7⟩ := hA1.all
  have HA := Lib.hid hA1
  clear hA hA1
  have hx6 : x6 < 65536 := hlt x6 (by rw [hgs]; simp)
  have hx7 : x7 < 65536 := hlt x7 (by rw [hgs]; simp)
  have HG := Lib.hid hgs
  have HLT := Lib.hid hlt
  have H8 := Lib.hid h8
  have b1 := chain hb hb1
  clear hlt hlt2 hgs h8 ha
  cases hm : mappedB gs with
  | true =>
    have HP : Hid (printB gs = ofL [58, 58, 102, 102, 102, 102, 58] ++ text4 (x6 / 256) (x6 % 256) (x7 / 256) (x7 % 256)) := Lib.hid (by unfold printB; rw [hm, if_pos rfl, HG.out]; rfl)
    obtain ⟨N, hN, eN⟩ : ∃ N : Nat, N = num4 (x6 / 256) (x6 % 256) (x7 / 256) (x7 % 256) ∧ (x6 : Int) * 65536 + (x7 : Int) = (N : Int) := ⟨_, rfl, by unfold num4; omega⟩
    have hNl : N ≤ 4294967295 := by omega
    have q1 : IntKind.u32.wrap ((x6 : Int) * 65536) = (x6 : Int) * 65536 := by rw [IntKind.wrap_u32]; omega
    have q2 : IntKind.u32.wrap (N : Int) = (N : Int) := by rw [IntKind.wrap_u32]; omega
    have HC := Lib.hid (fun w => refPrint_any (x6 / 256) (x6 % 256) (x7 / 256) (x7 % 256) N w (by omega) (by omega) (by omega) (by omega) hN)
    have hz := text4_size (x6 / 256) (x6 % 256) (x7 / 256) (x7 % 256) (by omega) (by omega) (by omega) (by omega)
    generalize text4 (x6 / 256) (x6 % 256) (x7 / 256) (x7 % 256) = T at *
    clear hm hN
    go_wp2_with fail
    refine (HC.out _).mono ?_
    rintro e w2 ⟨rfl, hb2⟩
    go_wp2_with fail
    go_ret
    exact ⟨str_ret (by rw [HP.out]; rfl), chain b1 hb2⟩
  | false =>
    have HM0 := Lib.hid hm
    clear hm
    have hrl := runTo_le gs 8 (Nat.le_refl _)
    obtain ⟨⟨A, M⟩, hAM⟩ : ∃ p, runB gs = p := ⟨_, rfl⟩
    rw [hAM] at HRn
    have hAM2 : A + M ≤ 8 := by
      have e : runTo gs 8 = (A, M) := hAM
      rw [e] at hrl
      exact hrl
    have HAM := Lib.hid hAM
    clear hrl hAM
    go_wp2_with fail
    refine (HRn.out _).mono ?_
    rintro e w2 ⟨rfl, hb2⟩
    have hA2 := HA.out.below hb2
    rw [← HG.out] at hA2
    have HA2 := Lib.hid hA2
    have b2 := chain b1 hb2
    clear hA2 c0 c1 c2 c3 c4 c5 c6 c7 HA
    unfold runRet
    by_cases hM : M = 0
    · have HP : Hid (printB gs = rowS gs) := Lib.hid (by unfold printB; rw [HM0.out, HAM.out]; simp [hM])
      have hMb : ((M : Int) == 0) = true := by simp; omega
      clear hM
      go_wp2_with fail
      refine (refRow_any gs w.heap.size 0 8 8 _ H8.out (by decide) (by decide) (by decide) HLT.out HA2.out.lt ?_).mono ?_
      · intro j hj
        rw [Nat.zero_add]
        exact HA2.out.cells j hj
      rintro e w3 ⟨rfl, hb3⟩
      go_wp2_with fail
      go_ret
      exact ⟨by rw [HP.out]; rfl, chain b2 hb3⟩
    · have HP : Hid (printB gs = rowS (gs.take A) ++ ofL [58, 58] ++ rowS (gs.drop (A + M))) := Lib.hid (by unfold printB; rw [HM0.out, HAM.out]; simp [hM])
      have hMb : ((M : Int) == 0) = false := by simp; omega
      obtain ⟨K, hK, eK⟩ : ∃ K : Nat, A + M = K ∧ (A : Int) + (M : Int) = (K : Int) := ⟨_, rfl, by omega⟩
      have hK8 : K ≤ 8 := by omega
      have hA8 : A ≤ 8 := by omega
      rw [hK] at HP
      clear hM hK hAM2
      have a0 : (0 : Int) ≤ (A : Int) := by omega
      have a1 : (A : Int) ≤ 8 := by omega
      have k0 : (0 : Int) ≤ (K : Int) := by omega
      have k1 : (K : Int) ≤ 8 := by omega
      have kw : IntKind.i64.wrap (K : Int) = (K : Int) := by rw [IntKind.wrap_i64]; omega
      obtain ⟨X, hX⟩ : ∃ X, rowS (gs.take A) = X := ⟨_, rfl⟩
      obtain ⟨Y, hY⟩ : ∃ Y, rowS (gs.drop K) = Y := ⟨_, rfl⟩
      have hXz : X.size ≤ 40 := by
        rw [← hX]
        have h1 := rowS_small (gs.take A) (fun x hx => HLT.out x (List.mem_of_mem_take hx))
        have h2 : (gs.take A).length ≤ 8 := by simp; omega
        omega
      have hYz : Y.size ≤ 40 := by
        rw [← hY]
        have h1 := rowS_small (gs.drop K) (fun x hx => HLT.out x (List.mem_of_mem_drop hx))
        have h2 : (gs.drop K).length ≤ 8 := by have := H8.out; simp; omega
        omega
      rw [hX, hY] at HP
      have F1 : Hid (RowFact gs 0 A 8 X) := Lib.hid ⟨hA8, Nat.le_refl _, gs.take A, by have := H8.out; simp; omega, hX, fun x hx => HLT.out x (List.mem_of_mem_take hx), fun j hj => ⟨by omega, by
        rw [Nat.zero_add, List.getD_eq_getElem?_getD, List.getD_eq_getElem?_getD, List.getElem?_take, if_pos hj]⟩⟩
      have F2 : ∀ o, (K < 8 → o = K) → RowFact gs o (8 - K) (8 - K) Y := fun o ho => ⟨Nat.le_refl _, by omega, gs.drop K, by rw [List.length_drop, H8.out], hY, fun x hx => HLT.out x (List.mem_of_mem_drop hx), fun j hj => ⟨by rw [ho (by omega)]; omega, by
        rw [ho (by omega), List.getD_eq_getElem?_getD, List.getD_eq_getElem?_getD, List.getElem?_drop]⟩⟩
      have hA3 : Hid (Arr8 w2.drew w.heap.size gs ∧ Below w.heap.size w w2.drew) := Lib.hid ⟨HA2.out.below (Below.refl _ _).drew, b2.drew⟩
      clear hX hY
      by_cases hKe : K = 8
      · have F3 : Hid (RowFact gs 0 0 0 Y) := Lib.hid (by
          have := F2 0 (by omega)
          rwa [hKe] at this)
        subst hKe
        clear F2 kw
        have kw8 : IntKind.i64.wrap (8 : Int) = 8 := by rw [IntKind.wrap_i64]; rfl
        go_wp2_with fail
        go_region_with (first
          | (go_at_call 87; refine (row_held (gs := gs) _ _ _ _ _ _ _ (by with_reducible assumption) (by with_reducible assumption)).mono ?_; rintro e w3 ⟨rfl, hA4⟩))
        all_goals
          go_wp2_with fail
          go_ret
          exact ⟨str_ret (by rw [HP.out]; rfl), hA4.out.2⟩
      · have F3 : Hid (RowFact gs K (8 - K) (8 - K) Y) := Lib.hid (F2 K (fun _ => rfl))
        have hKn : ¬ 8 = K := fun h => hKe h.symm
        clear F2
        go_wp2_with fail
        go_region_with (first
          | (go_at_call 87; refine (row_held (gs := gs) _ _ _ _ _ _ _ (by with_reducible assumption) (by with_reducible assumption)).mono ?_; rintro e w3 ⟨rfl, hA4⟩))
        all_goals
          go_wp2_with fail
          go_ret
          exact ⟨str_ret (by rw [HP.out]; rfl), hA4.out.2⟩
end Go.Proofs.YtpgjkeakhjnckaaDoor
/- Contracts of strconv.FormatUint at base 16, and of six.digits: a group's digits. -/
namespace Go.Proofs.YtpgjkeakhjnckaaDoor
open Go.RowKit
set_option linter.unusedVariables false
set_option maxRecDepth 20000

/-- The table of math/bits that tells 16's zeros holds its 4. -/
def BruIs (w : World) : Prop := w.cell? ⟨3, 15, none⟩ = some (.int .u8 4)
theorem BruIs.below {w w' : World} (h : BruIs w) (hb : Below w.heap.size w w') : BruIs w' := by
  unfold BruIs at *
  have hlt : 3 < w.heap.size := by
    rcases Nat.lt_or_ge 3 w.heap.size with h2 | h2
    · exact h2
    · simp [World.cell?, Array.getElem?_eq_none h2] at h
  rw [hb.cell (p := ⟨3, 15, none⟩) hlt]
  exact h

set_option maxHeartbeats 400000 in
theorem tz64_16 (w : World) (h : BruIs w) :
    Calls Tryd.prog 114 #[.int .u64 16] w fun e w' => e = .returned (.int .i64 4) ∧ w = w' := by
  have hc : w.cell? ⟨3, 15, none⟩ = some (.int .u8 4) := h
  clear h
  have hx : IntKind.u64.wrap (bits BinOp.and IntKind.u64 16 (IntKind.u64.wrap (-16)) * 285870213051353865) / 288230376151711744 = 15 := by decide +kernel
  go_enter Tryd.func114, Tryd.ntmps114
  go_wp2
  go_ret
  exact ⟨rfl, rfl⟩
set_option maxHeartbeats 400000 in
theorem tz_16 (w : World) (h : BruIs w) :
    Calls Tryd.prog 108 #[.int .u64 16] w fun e w' => e = .returned (.int .i64 4) ∧ w = w' := by
  go_enter Tryd.func108, Tryd.ntmps108
  go_wp2_with fail
  refine (tz64_16 _ h).mono ?_
  rintro e w' ⟨rfl, rfl⟩
  go_wp2_with fail
  go_ret
  exact ⟨rfl, rfl⟩
set_option maxHeartbeats 400000 in
theorem pow_16 (w : World) :
    Calls Tryd.prog 107 #[.int .i64 16] w fun e w' => e = .returned (.bool true) ∧ w = w' := by
  go_enter Tryd.func107, Tryd.ntmps107
  go_wp2
  go_ret
  exact ⟨rfl, rfl⟩
/-- An array of n integers of kind k lies at B. -/
structure ArrI (k : IntKind) (n : Nat) (w : World) (B : Nat) (l : List Nat) : Prop where
  len : l.length = n
  lt : B < w.heap.size
  cells : ∀ j, j < n → w.cell? ⟨B, j, none⟩ = some (.int k ((l.getD j 0 : Nat) : Int))
  live : ∀ j, j < n → w.frozen? ⟨B, j, none⟩ = false
theorem ArrI.below {k : IntKind} {n : Nat} {w w' : World} {B : Nat} {l : List Nat} (h : ArrI k n w B l) (hb : Below w.heap.size w w') : ArrI k n w' B l :=
  ⟨h.len, Nat.lt_of_lt_of_le h.lt hb.size, fun j hj => by rw [hb.cell (p := ⟨B, j, none⟩) h.lt]; exact h.cells j hj, fun j hj => by rw [hb.frozen (p := ⟨B, j, none⟩) h.lt]; exact h.live j hj⟩
theorem ArrI.set {k : IntKind} {n : Nat} {w : World} {B i : Nat} {l : List Nat} (h : ArrI k n w B l) (hi : i < n) (v : Nat) : ArrI k n (w.setCell ⟨B, i, none⟩ (.int k ((v : Nat) : Int))) B (l.set i v) := by
  refine ⟨by simp [h.len], by simpa using h.lt, ?_, ?_⟩
  · intro j hj
    by_cases e : j = i
    · subst e
      rw [World.cell?_setCell_same _ _ _ (h.cells j hj), List.getD_eq_getElem?_getD, List.getElem?_set_self (by rw [h.len]; exact hj)]
      rfl
    · rw [World.cell?_setCell_other _ _ _ _ (by intro h2; injection h2 with _ h3 _; exact e h3.symm), h.cells j hj, List.getD_eq_getElem?_getD, List.getD_eq_getElem?_getD, List.getElem?_set_ne (by omega)]
  · intro j hj
    rw [World.frozen?_setCell]
    exact h.live j hj
theorem ArrI.other {k : IntKind} {n : Nat} {w : World} {B B' i : Nat} {l : List Nat} (h : ArrI k n w B l) (hB : B' ≠ B) (u : Value) : ArrI k n (w.setCell ⟨B', i, none⟩ u) B l := by
  refine ⟨h.len, by simpa using h.lt, ?_, ?_⟩
  · intro j hj
    rw [World.cell?_setCell_other _ _ _ _ (by intro h2; injection h2 with h3 _ _; exact hB h3)]
    exact h.cells j hj
  · intro j hj
    rw [World.frozen?_setCell]
    exact h.live j hj
theorem ArrI.of {k : IntKind} {n : Nat} (w : World) (cs : Array Value) (t : TypeId) (l : List Nat) (h : cs.toList = l.map fun x => Value.int k ((x : Nat) : Int)) (hn : l.length = n) : ArrI k n (w.alloc (.cells cs t)) w.heap.size l := by
  refine ⟨hn, by simp, ?_, ?_⟩
  · intro j hj
    have e : cs[j]? = (l.map fun x => Value.int k ((x : Nat) : Int))[j]? := by rw [← h]; simp
    rw [World.cell?_alloc_new, e, List.getElem?_map, List.getD_eq_getElem?_getD, List.getElem?_eq_getElem (by omega)]
    rfl
  · intro j hj
    exact World.frozen?_alloc_new _ _ _ _

theorem mask_16 (v : Nat) (h : v < 65536) : bits BinOp.and IntKind.u64 (v : Int) 15 = ((v % 16 : Nat) : Int) := by
  have := bits_mask .u64 16 (by decide) (fun n h0 h1 => by rw [IntKind.wrap_u64]; omega) 4 (by decide) (v : Int) (by omega) (by omega)
  rw [show ((2 : Int) ^ 4 - 1) = 15 by decide, show ((2 : Int) ^ 4) = 16 by decide] at this
  rw [this]
  omega
theorem zeros65 : Tryd.zeroCells118.toList = (List.replicate 65 0).map fun x => Value.int .u8 ((x : Nat) : Int) := by kernel_rfl
theorem alnum_at (d : Nat) (h : d < 16) : ∃ x : Nat, (hexc d).toNat = x ∧ ∀ hh, ((({ data := #[48, 49, 50, 51, 52, 53, 54, 55, 56, 57, 97, 98, 99, 100, 101, 102, 103, 104, 105, 106, 107, 108, 109, 110, 111, 112, 113, 114, 115, 116, 117, 118, 119, 120, 121, 122] } : ByteArray)[d]'hh).toNat) = x := by
  refine ⟨_, rfl, ?_⟩
  have hd : d = 0 ∨ d = 1 ∨ d = 2 ∨ d = 3 ∨ d = 4 ∨ d = 5 ∨ d = 6 ∨ d = 7 ∨ d = 8 ∨ d = 9 ∨ d = 10 ∨ d = 11 ∨ d = 12 ∨ d = 13 ∨ d = 14 ∨ d = 15 := by omega
  rcases hd with rfl | rfl | rfl | rfl | rfl | rfl | rfl | rfl | rfl | rfl | rfl | rfl | rfl | rfl | rfl | rfl <;> (intro hh; rfl)
theorem drop_set (l : List Nat) (q x : Nat) (T : List UInt8) (hq : q < l.length) (h : l.drop (q + 1) = T.map fun c => c.toNat) : (l.set q x).drop q = x :: T.map fun c => c.toNat := by
  rw [List.drop_eq_getElem_cons (by simpa using hq), List.drop_set_of_lt (by omega), h]
  simp

set_option maxRecDepth 100000 in
set_option maxHeartbeats 2000000 in
theorem formatBits_16 (n : Nat) (w : World) (hn : n < 65536) (h : BruIs w) :
    Calls Tryd.prog 101 #[.slice none 0 0, .int .u64 (n : Int), .int .i64 16, .bool false, .bool false] w fun e w' => e = .returned (.tuple #[.slice none 0 0, .string (gS n)]) ∧ Below w.heap.size w w' := by
  have hA := ArrI.of w Tryd.zeroCells118 118 (List.replicate 65 0) zeros65 (n := 65) (by decide)
  have b0 : Below w.heap.size w (w.alloc (.cells Tryd.zeroCells118 118)) := (Below.refl _ _).alloc (Nat.le_refl _) _
  have hB := h.below b0
  clear h
  go_enter Tryd.func101, Tryd.ntmps101
  go_wp2_with fail
  generalize w.alloc (.cells Tryd.zeroCells118 118) = W at *
  have HA := Lib.hid hA
  have HB := Lib.hid hB
  clear hA hB
  refine (pow_16 _).mono ?_
  rintro e w' ⟨rfl, rfl⟩
  go_wp2_with fail
  refine (tz_16 _ HB.out).mono ?_
  rintro e w' ⟨rfl, rfl⟩
  go_wp2_with fail
  go_loopw [1, 13] (fun u i wr => ∃ (v k q : Nat) (l : List Nat) (T : List UInt8), v < 65536 ∧ q + 1 + k = 65 ∧ T.length = k ∧ k ≤ 3 ∧ u = .int .u64 (v : Int) ∧ i = .int .i64 ((q : Int) + 1) ∧ Hid (ArrI .u8 65 wr w.heap.size l) ∧ Below w.heap.size w wr ∧ Hid (l.drop (q + 1) = T.map fun c => c.toNat) ∧ Hid (groupL n = groupL v ++ T)) (fun u _ _ => (intOf u).toNat)
  case atStart => exact ⟨n, 0, 64, List.replicate 65 0, [], hn, rfl, rfl, by decide, rfl, rfl, HA, b0, Lib.hid (by rfl), Lib.hid (by simp)⟩
  case round =>
    obtain ⟨v, k, q, l, T, hv, hq, hT, hk3, rfl, rfl, HAr, hbel, HD, HG⟩ := hrel
    have hgc := HAr.out.cells q (by omega)
    have hgl := HAr.out.live q (by omega)
    have q0 : (0 : Int) ≤ (q : Int) := by omega
    have q1 : (q : Int) ≤ 65 := by omega
    have q2 : ¬ 65 = q := by omega
    by_cases h16 : v < 16
    · have hv16 : (v : Int) < 16 := by omega
      obtain ⟨x, hx, ha⟩ := alnum_at v h16
      have hset := HAr.out.set (i := q) (by omega) x
      have hcv : (convert 75 9 (.slice (some ⟨w.heap.size, q, none⟩) (65 - q) (65 - q))).run Tryd.prog (wr.setCell ⟨w.heap.size, q, none⟩ (.int .u8 (x : Int))) = .ok (.string (gS n)) (wr.setCell ⟨w.heap.size, q, none⟩ (.int .u8 (x : Int))) := by
        have e0 : groupL n = hexc v :: T := by rw [HG.out, groupL_one h16]; rfl
        have hl : 65 - q = (groupL n).length := by rw [e0, List.length_cons]; omega
        rw [hl]
        refine run_convert_bytes_back (P := Tryd.prog) _ 75 9 5 ⟨w.heap.size, q, none⟩ _ (groupL n) Tryd.underlying75 Tryd.underlying5 Tryd.underlying9 (fun j hj => ?_)
        have e1 : (⟨w.heap.size, q, none⟩ : Addr).add j = ⟨w.heap.size, q + j, none⟩ := by
          unfold Addr.add
          split <;> simp_all
        rw [e1, hset.cells (q + j) (by omega)]
        have e2 := drop_set l q x T (by rw [HAr.out.len]; omega) HD.out
        have e3 : (l.set q x).getD (q + j) 0 = ((l.set q x).drop q).getD j 0 := by
          rw [List.getD_eq_getElem?_getD, List.getD_eq_getElem?_getD, List.getElem?_drop]
        rw [e3, e2]
        have e4 : x :: (T.map fun c => c.toNat) = (groupL n).map fun c => c.toNat := by rw [e0, List.map_cons, hx]
        rw [e4, List.getD_eq_getElem?_getD, List.getElem?_map, List.getElem?_eq_getElem hj]
        rfl
      have hb2 := hbel.setCell (p := ⟨w.heap.size, q, none⟩) (Nat.le_refl _) (.int .u8 (x : Int))
      clear hset
      go_wp2_with fail
      go_ret2
      exact ⟨rfl, hb2⟩
    · have hm := mask_16 v hv
      obtain ⟨d, ed⟩ : ∃ d, v % 16 = d := ⟨_, rfl⟩
      have hd : d < 16 := by omega
      have hi16 : (16 : Int) ≤ (v : Int) := by omega
      rw [ed] at hm
      obtain ⟨x, hx, ha⟩ := alnum_at d hd
      have e0 : groupL n = groupL (v / 16) ++ hexc d :: T := by rw [HG.out, groupL_more h16, ed]; simp
      have hl4 := (groupL_length n hn).2
      have hl1 := (groupL_length (v / 16) (by omega)).1
      rw [e0, List.length_append, List.length_cons] at hl4
      have HS := Lib.hid (HAr.out.set (i := q) (by omega) x)
      have HE := Lib.hid e0
      have HX := Lib.hid hx
      have HDv := Lib.hid ed
      clear e0 hx ed
      go_wp2_with fail
      go_roundw
      case rel => exact ⟨v / 16, k + 1, q - 1, l.set q x, hexc d :: T, by omega, by omega, by simp [hT], by omega, by first | rfl | (congr 1; omega), by congr 1; omega, HS, hbel.setCell (p := ⟨w.heap.size, q, none⟩) (Nat.le_refl _) _, Lib.hid (by
        rw [show q - 1 + 1 = q by omega, drop_set l q x T (by rw [HAr.out.len]; omega) HD.out, List.map_cons, HX.out]), HE⟩
      case measure => simp [intOf]; omega

set_option maxHeartbeats 1000000 in
theorem fmtUint_16 (n : Nat) (w : World) (hn : n < 65536) (h : BruIs w) :
    Calls Tryd.prog 103 #[.int .u64 (n : Int), .int .i64 16] w fun e w' => e = .returned (.string (gS n)) ∧ Below w.heap.size w w' := by
  have HB := Lib.hid h
  clear h
  go_enter Tryd.func103, Tryd.ntmps103
  go_wp2_with fail
  refine (formatBits_16 n _ hn HB.out).mono ?_
  rintro e w1 ⟨rfl, hb⟩
  go_wp2_with fail
  go_ret
  exact ⟨rfl, hb⟩
set_option maxHeartbeats 1000000 in
theorem formatUint_16 (n : Nat) (w : World) (hn : n < 65536) (h : BruIs w) :
    Calls Tryd.prog 97 #[.int .u64 (n : Int), .int .i64 16] w fun e w' => e = .returned (.string (gS n)) ∧ Below w.heap.size w w' := by
  have HB := Lib.hid h
  clear h
  go_enter Tryd.func97, Tryd.ntmps97
  go_wp2_with fail
  refine (fmtUint_16 n _ hn HB.out).mono ?_
  rintro e w1 ⟨rfl, hb⟩
  go_wp2_with fail
  go_ret
  exact ⟨rfl, hb⟩
set_option maxHeartbeats 1000000 in
theorem digits_any (n : Nat) (w : World) (hn : n < 65536) (h : BruIs w) :
    Calls Tryd.prog 91 #[.int .u16 (n : Int)] w fun e w' => e = .returned (.string (gS n)) ∧ Below w.heap.size w w' := by
  have HB := Lib.hid h
  clear h
  go_enter Tryd.func91, Tryd.ntmps91
  go_wp2_with fail
  refine (formatUint_16 n _ hn HB.out).mono ?_
  rintro e w1 ⟨rfl, hb⟩
  go_wp2_with fail
  go_ret
  exact ⟨rfl, hb⟩
end Go.Proofs.YtpgjkeakhjnckaaDoor
