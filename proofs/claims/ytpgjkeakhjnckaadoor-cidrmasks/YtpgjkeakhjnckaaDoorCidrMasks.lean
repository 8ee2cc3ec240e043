/- Of an address's prefixes, as the landed cidr.Mask makes them, the longer one is within the shorter one; all have it; of all bits it has it alone; for every address and every two numbers of bits. A tied card: three tables of the library hold what the program lays in them. -/
import Derived.Test.YtpgjkeakhjnckaaDoorB8
import Derived.Test.YtpgjkeakhjnckaaDoorTie
import Derived.Test.YtpgjkeakhjnckaaDoorCards
import Derived.ProofKit
import Derived.OpenShut
import Derived.ShutString
import Derived.ChangeOld
import Derived.Below
namespace Go.Proofs.YtpgjkeakhjnckaaDoor.cidrMasks
open Go.ChangeShapes Go.WideShapes Go.ChangeAt Go.RowKit
open Go.ChangeMaps (open_string shut_string)
set_option linter.unusedVariables false
set_option maxRecDepth 20000

theorem own : ownKnob Tryd.prog.godebug = none := by kernel_rfl

theorem addrs_boxed (f : Int) (ps : List Nat) (g : Int) (qs : List Nat) (w : World) (hp : ps.length = 16) (hq : qs.length = 16) :
    ∃ cs ds : Array Value, addrV f ps = .agg cs ∧ addrV g qs = .agg ds ∧ Hid (AddrAt ((w.alloc (.cells cs 24)).alloc (.cells ds 24)) w.heap.size f ps) ∧ Hid (AddrAt ((w.alloc (.cells cs 24)).alloc (.cells ds 24)) (w.heap.size + 1) g qs) ∧
      Hid (Below w.heap.size w ((w.alloc (.cells cs 24)).alloc (.cells ds 24))) := by
  obtain ⟨cs, ecs, HA, HB⟩ := addr_boxed f ps w hp
  obtain ⟨ds, eds, HA', HB'⟩ := addr_boxed g qs (w.alloc (.cells cs 24)) hq
  rw [heap_alloc] at HA'
  exact ⟨cs, ds, ecs, eds, Lib.hid (HA.out.alloc _), HA', Lib.hid (chain HB.out HB'.out)⟩
set_option maxRecDepth 100000 in
set_option maxHeartbeats 4000000 in
theorem walk (f0 : Int) (z0 : List Nat) (a1 : Int) (a2 : Int) (f3 : Int) (z3 : List Nat) (fw0 : (Lit.int .i64 f0).wf = true) (l0 : z0.length = 16) (w0 : ∀ x ∈ z0, x < 256) (w1 : (Lit.int .i64 a1).wf = true) (w2 : (Lit.int .i64 a2).wf = true) (fw3 : (Lit.int .i64 f3).wf = true) (l3 : z3.length = 16) (w3 : ∀ x ∈ z3, x < 256) (w : World) (htab : Tabs w) :
    Calls Tryd.prog 8 #[addrV f0 z0, .int .i64 a1, .int .i64 a2, addrV f3 z3] w fun e w' => e = .returned (.bool true) ∧ Below w.heap.size w w' := by
  have HT := Lib.hid htab
  have ha := good_is f0 z0 l0 w0
  have hu := good_is f3 z3 l3 w3
  have HG0 := fun W => Lib.hid (refGood_any f0 z0 W l0 w0)
  have HG1 := fun W => Lib.hid (refGood_any f3 z3 W l3 w3)
  generalize goodF f0 = F at *
  generalize goodB f0 z0 = B at *
  generalize goodF f3 = G at *
  generalize goodB f3 z3 = U at *
  have hN := bitsN_le F
  have HBI := fun W => Lib.hid (refBits_any F B W ha.len)
  have HAR1 := fun W => Lib.hid (around_any a1 (bitsN F + 1) W w1 (by omega) (by omega))
  have HAR2 := fun W => Lib.hid (around_any a2 (bitsN F + 1) W w2 (by omega) (by omega))
  have hm : aroundN a1 (bitsN F + 1) ≤ bitsN F := Nat.le_of_lt_succ (aroundN_lt _ _ (Nat.succ_pos _))
  have hn : aroundN a2 (bitsN F + 1) ≤ bitsN F := Nat.le_of_lt_succ (aroundN_lt _ _ (Nat.succ_pos _))
  generalize aroundN a1 (bitsN F + 1) = m at *
  generalize aroundN a2 (bitsN F + 1) = n at *
  have hP := ha.mask m hm
  have hQ := ha.mask n hn
  have HMK1 := fun W => Lib.hid (cidrMask_any F B (m : Int) W ha.len ha.lt (wf_small (by omega)))
  rw [maskN_nat F m hm] at HMK1
  have HMK2 := fun W => Lib.hid (cidrMask_any F B (n : Int) W ha.len ha.lt (wf_small (by omega)))
  rw [maskN_nat F n hn] at HMK2
  have HMK3 := fun W => Lib.hid (cidrMask_any F B ((bitsN F : Nat) : Int) W ha.len ha.lt (wf_small (by omega)))
  rw [maskN_nat F (bitsN F) (Nat.le_refl _), ha.all 0 (by decide)] at HMK3
  have HH1 := fun W => Lib.hid (cidrHas_any F (withL (bitsN F) B m 0) (m : Int) F B W (withL_len _ _ _ _) ha.len ha.lt (wf_small (by omega)))
  rw [mask_has ha m hm] at HH1
  have HWI := fun W => Lib.hid (cidrWithin_any F (withL (bitsN F) B m 0) (m : Int) F (withL (bitsN F) B n 0) (n : Int) W (withL_len _ _ _ _) (withL_len _ _ _ _) (withL_lt _ _ _ _ (by decide)) (wf_small (by omega)))
  rw [mask_within ha m n hm hn] at HWI
  have HH2 := fun W => Lib.hid (cidrHas_any F B ((bitsN F : Nat) : Int) G U W ha.len hu.len hu.lt (wf_small (by omega)))
  rw [whole_has ha hu] at HH2
  have HFI := fun W => Lib.hid (cidrFirst_any F B ((bitsN F : Nat) : Int) W ha.len)
  have HLA := fun W => Lib.hid (cidrLast_any F B (bitsN F) W ha.len ha.lt)
  rw [whole_last ha] at HLA
  have HLB := Lib.hid ha.len
  have HLU := Lib.hid hu.len
  have HLP := Lib.hid hP.len
  have HLQ := Lib.hid hQ.len
  have L0 := Lib.hid l0
  have L3 := Lib.hid l3
  generalize withL (bitsN F) B m 0 = P at *
  generalize withL (bitsN F) B n 0 = Q at *
  generalize bitsN F = N at *
  have hcast : ((N + 1 : Nat) : Int) = (N : Int) + 1 := by omega
  rw [hcast] at HAR1 HAR2
  obtain ⟨v, hv⟩ : ∃ v, decide (n ≤ m) = v := ⟨_, rfl⟩
  have hvi : decide ((n : Int) ≤ (m : Int)) = v := by rw [← hv]; exact decide_eq_decide.2 (by omega)
  obtain ⟨u, eu⟩ : ∃ u, decide (F = G ∧ B = U) = u := ⟨_, rfl⟩
  rw [hv] at HWI
  rw [eu] at HH2
  have q1 := fun W => run_eq_addr F G B U W HLB.out HLU.out
  rw [eu] at q1
  have q2 := fun W => run_same_addr F B W HLB.out
  obtain ⟨cs, ds, ecs, eds, H1, H2, HB⟩ := addrs_boxed f0 z0 f3 z3 w l0 l3
  rw [ecs, eds]
  clear ecs eds l0 w0 l3 w3 ha hu hP hQ htab fw0 fw3 eu hcast w1 w2
  go_enter Tryd.func8, Tryd.ntmps8
  go_upto_region 1 with fail
  generalize ((w.alloc (.cells cs 24)).alloc (.cells ds 24)) = W at *
  go_wp2_with (refine load_addr_g H1 _ rfl rfl rfl ?_)
  refine (HG0 _).out.mono ?_
  rintro e w1 ⟨rfl, hb1⟩
  replace H1 := Lib.hid (H1.out.below hb1)
  replace H2 := Lib.hid (H2.out.below hb1)
  replace HB := Lib.hid (chain HB.out hb1)
  clear hb1 HG0
  go_upto_region 2 with (refine store_addr H1 _ _ HLB rfl rfl rfl rfl (fun W1 HWW1 H1n => ?_))
  replace H2 := Lib.hid (show AddrAt W1 (w.heap.size + 1) f3 z3 by rw [HWW1.out]; exact H2.out.apart (by omega) _)
  replace HB := Lib.hid (show Below w.heap.size w W1 by rw [HWW1.out]; exact below_cells (by omega) _ _ _ HB.out)
  clear HWW1 H1
  go_wp2_with (refine load_addr_g H2 _ rfl rfl rfl ?_)
  refine (HG1 _).out.mono ?_
  rintro e w2 ⟨rfl, hb2⟩
  replace H1n := Lib.hid (H1n.out.below hb2)
  replace H2 := Lib.hid (H2.out.below hb2)
  replace HB := Lib.hid (chain HB.out hb2)
  clear hb2 HG1
  go_upto_region 3 with (refine store_addr H2 _ _ HLU rfl rfl rfl rfl (fun W2 HWW2 H2n => ?_))
  replace H1n := Lib.hid (show AddrAt W2 w.heap.size F B by rw [HWW2.out]; exact H1n.out.apart (by omega) _)
  replace HB := Lib.hid (show Below w.heap.size w W2 by rw [HWW2.out]; exact below_cells (by omega) _ _ _ HB.out)
  clear HWW2 H2
  have HS := Lib.hid (((HeldR.nil HB.out).addr H2n.out).addr H1n.out)
  clear HB H2n
  go_wp2_with (refine load_addr_g H1n _ rfl rfl rfl ?_)
  refine (HBI _).out.mono ?_
  rintro e w3 ⟨rfl, hb3⟩
  replace HS := Lib.hid (HS.out.next hb3)
  replace H1n := Lib.hid (H1n.out.below hb3)
  clear hb3 HBI
  go_wp2_with fail
  refine (HAR1 _).out.mono ?_
  rintro e w4 ⟨rfl, rfl⟩
  go_wp2_with fail
  refine (HAR2 _).out.mono ?_
  rintro e w4 ⟨rfl, rfl⟩
  clear HAR1 HAR2
  go_wp2_with (refine load_addr_g H1n _ rfl rfl rfl ?_)
  refine (HMK1 _).out.mono ?_
  rintro e w4 ⟨rfl, hb4⟩
  replace HS := Lib.hid (HS.out.next hb4)
  replace H1n := Lib.hid (H1n.out.below hb4)
  have HZ4 := Lib.hid (pref_zeroed w4)
  clear hb4 HMK1
  go_upto_region 7 with (refine store_pref HZ4 _ _ HLP rfl rfl rfl rfl (fun W4 HWW4 HQ4 => ?_))
  replace HS := Lib.hid ((HS.out.next (below_newP HWW4)).pref HQ4.out)
  replace H1n := Lib.hid (H1n.out.below (below_newP HWW4))
  generalize w4.heap.size = G4 at *
  clear HZ4 HWW4 HQ4
  go_wp2_with (refine load_addr_g H1n _ rfl rfl rfl ?_)
  refine (HMK2 _).out.mono ?_
  rintro e w5 ⟨rfl, hb5⟩
  replace HS := Lib.hid (HS.out.next hb5)
  replace H1n := Lib.hid (H1n.out.below hb5)
  have HZ5 := Lib.hid (pref_zeroed w5)
  clear hb5 HMK2
  go_upto_region 8 with (refine store_pref HZ5 _ _ HLQ rfl rfl rfl rfl (fun W5 HWW5 HQ5 => ?_))
  replace HS := Lib.hid ((HS.out.next (below_newP HWW5)).pref HQ5.out)
  replace H1n := Lib.hid (H1n.out.below (below_newP HWW5))
  generalize w5.heap.size = G5 at *
  clear HZ5 HWW5 HQ5
  go_wp2_with (refine load_addr_g H1n _ rfl rfl rfl ?_)
  refine (HMK3 _).out.mono ?_
  rintro e w6 ⟨rfl, hb6⟩
  replace HS := Lib.hid (HS.out.next hb6)
  have HZ6 := Lib.hid (pref_zeroed w6)
  clear hb6 HMK3 H1n
  go_upto_region 9 with (refine store_pref HZ6 _ _ HLB rfl rfl rfl rfl (fun W6 HWW6 HQ6 => ?_))
  replace HS := Lib.hid ((HS.out.next (below_newP HWW6)).pref HQ6.out)
  generalize w6.heap.size = G6 at *
  clear HZ6 HWW6 HQ6
  obtain ⟨L, hL⟩ : ∃ L, [(G6, 0, prefL F B (N : Int)), (G6, 0, addrL F B), (G5, 0, prefL F Q (n : Int)), (G5, 0, addrL F Q), (G4, 0, prefL F P (m : Int)), (G4, 0, addrL F P), (w.heap.size, 0, addrL F B), (w.heap.size + 1, 0, addrL G U)] = L := ⟨_, rfl⟩
  rw [hL] at HS
  have Mt4 := Lib.hid (show InA L w.heap.size F B from ⟨by rw [← hL]; simp, HLB.out⟩)
  have Mt7 := Lib.hid (show InA L (w.heap.size + 1) G U from ⟨by rw [← hL]; simp, HLU.out⟩)
  have Mp10 := Lib.hid (show InP L G4 F P (m : Int) from ⟨by rw [← hL]; simp, HLP.out⟩)
  have Mp11 := Lib.hid (show InP L G5 F Q (n : Int) from ⟨by rw [← hL]; simp, HLQ.out⟩)
  have Mp12 := Lib.hid (show InP L G6 F B (N : Int) from ⟨by rw [← hL]; simp, HLB.out⟩)
  have Cm := Lib.hid (bitsR Mp10.out w)
  clear hL
  have C7 : ∀ w', HeldR L w w' → Hid (Calls Tryd.prog 23 #[prefV F P (m : Int), addrV F B] w' fun e w'' => e = .returned (.bool true) ∧ Below w'.heap.size w' w'') := fun w' h => HH1 w'
  have C12 : ∀ w', HeldR L w w' → Hid (Calls Tryd.prog 27 #[prefV F P (m : Int), prefV F Q (n : Int)] w' fun e w'' => e = .returned (.bool v) ∧ Below w'.heap.size w' w'') := fun w' h => HWI w'
  have C21 : ∀ w', HeldR L w w' → Hid (Calls Tryd.prog 23 #[prefV F B (N : Int), addrV G U] w' fun e w'' => e = .returned (.bool u) ∧ Below w'.heap.size w' w'') := fun w' h => HH2 w'
  have C29 : ∀ w', HeldR L w w' → Hid (Calls Tryd.prog 21 #[prefV F B (N : Int)] w' fun e w'' => e = .returned (addrV F B) ∧ Below w'.heap.size w' w'') := fun w' h => HFI w'
  have C35 : ∀ w', HeldR L w w' → Hid (Calls Tryd.prog 22 #[prefV F B (N : Int)] w' fun e w'' => e = .returned (addrV F B) ∧ Below w'.heap.size w' w'') := fun w' h => HLA w'
  have LV : ∀ w', HeldR L w w' → Hid (Calls Tryd.prog 15 #[] w' fun e w'' => e = .returned (.bool true) ∧ Below w'.heap.size w' w'') := fun w' h => Lib.hid (lives5_any w' (HT.out.below h.bel))
  clear HH1 HWI HH2 HFI HLA
  have gd := guard_addr
  have s1 : ((m : Int) == (m : Int)) = true := by simp
  have s2 : (v == v) = true := by simp
  have s3 : (u == u) = true := by simp
  refine wp_region_noPanic ?_
  refine wp_region_held_drew (S := HeldR L w) (by kernel_rfl) HS.out.drew (fun hHeld => ?_)
  refine wpAnyH_take (i := 0) (v := ?_) rfl (by kernel_rfl) (by kernel_rfl) (by kernel_rfl) (fun _ _ _ h => h) (Or.inl ⟨by rfl, ?_⟩) (by assumption) ?_
  rotate_left
  · (intro w hSw; go_simp; try (with_reducible rfl))
  try simp only [Act.put, List.getElem_toArray, List.getElem_cons_zero, List.setIfInBounds_toArray, List.set_cons_zero, List.set_cons_succ]
  refine wpAnyH_take (i := 1) (v := ?_) rfl (by kernel_rfl) (by kernel_rfl) (by kernel_rfl) (fun _ _ _ h => h) (Or.inl ⟨by rfl, ?_⟩) (by assumption) ?_
  rotate_left
  · (intro w hSw; have hc0 := Cm.out w hSw; go_simp; try (with_reducible rfl))
  try simp only [Act.put, List.getElem_toArray, List.getElem_cons_zero, List.getElem_cons_succ, List.setIfInBounds_toArray, List.set_cons_zero, List.set_cons_succ]
  refine wpAnyH_take (i := 2) (v := ?_) rfl (by kernel_rfl) (by kernel_rfl) (by kernel_rfl) (fun _ _ _ h => h) (Or.inl ⟨by rfl, ?_⟩) (by assumption) ?_
  rotate_left
  · (intro w hSw; go_simp; try (with_reducible rfl))
  try simp only [Act.put, List.getElem_toArray, List.getElem_cons_zero, List.getElem_cons_succ, List.setIfInBounds_toArray, List.set_cons_zero, List.set_cons_succ]
  refine wpAnyH_take (i := 3) (v := ?_) rfl (by kernel_rfl) (by kernel_rfl) (by kernel_rfl) (fun _ _ _ h => h) (Or.inl ⟨by rfl, ?_⟩) (by assumption) ?_
  rotate_left
  · (intro w hSw; go_simp; try (with_reducible rfl))
  try simp only [Act.put, List.getElem_toArray, List.getElem_cons_zero, List.getElem_cons_succ, List.setIfInBounds_toArray, List.set_cons_zero, List.set_cons_succ]
  refine wpAnyH_take (i := 4) (v := ?_) rfl (by kernel_rfl) (by kernel_rfl) (by kernel_rfl) (fun _ _ _ h => h) (Or.inl ⟨by rfl, ?_⟩) (by assumption) ?_
  rotate_left
  · (intro w hSw; go_simp; try (with_reducible rfl))
  try simp only [Act.put, List.getElem_toArray, List.getElem_cons_zero, List.getElem_cons_succ, List.setIfInBounds_toArray, List.set_cons_zero, List.set_cons_succ]
  refine wpAnyH_take (i := 5) rfl (by kernel_rfl) (by kernel_rfl) (by kernel_rfl) (fun _ _ _ h => h) (yields_pref Mp10 (by rfl) _ rfl rfl) (by assumption) ?_
  try simp only [Act.put, List.getElem_toArray, List.getElem_cons_zero, List.getElem_cons_succ, List.setIfInBounds_toArray, List.set_cons_zero, List.set_cons_succ]
  refine wpAnyH_take (i := 6) rfl (by kernel_rfl) (by kernel_rfl) (by kernel_rfl) (fun _ _ _ h => h) (yields_addr Mt4 (by rfl) _ rfl rfl) (by assumption) ?_
  try simp only [Act.put, List.getElem_toArray, List.getElem_cons_zero, List.getElem_cons_succ, List.setIfInBounds_toArray, List.set_cons_zero, List.set_cons_succ]
  refine wpAnyH_ready (rs := [7]) (by kernel_rfl) (by simp) ?_
  refine AllReadyH.cons rfl (fun K hK => ?_) AllReadyH.nil
  go_simp
  refine (Calls.heldR (C7 _ (by assumption)).out (by assumption)).mono ?_
  rintro e wr7 ⟨rfl, hS7⟩
  go_wp2_with fail
  refine hK.out _ _ hS7 (fun hHeld => ?_)
  clear hK K
  try simp only [Act.put, List.getElem_toArray, List.getElem_cons_zero, List.getElem_cons_succ, List.setIfInBounds_toArray, List.set_cons_zero, List.set_cons_succ]
  refine wpAnyH_take (i := 8) (v := ?_) rfl (by kernel_rfl) (by kernel_rfl) (by kernel_rfl) (fun _ _ _ h => h) (Or.inl ⟨by rfl, ?_⟩) (by assumption) ?_
  rotate_left
  · (intro w hSw; go_simp; try (with_reducible rfl))
  try simp only [Act.put, List.getElem_toArray, List.getElem_cons_zero, List.getElem_cons_succ, List.setIfInBounds_toArray, List.set_cons_zero, List.set_cons_succ]
  refine wpAnyH_take (i := 9) (v := ?_) rfl (by kernel_rfl) (by kernel_rfl) (by kernel_rfl) (fun _ _ _ h => h) (Or.inl ⟨by rfl, ?_⟩) (by assumption) ?_
  rotate_left
  · (intro w hSw; go_simp; try (with_reducible rfl))
  try simp only [Act.put, List.getElem_toArray, List.getElem_cons_zero, List.getElem_cons_succ, List.setIfInBounds_toArray, List.set_cons_zero, List.set_cons_succ]
  refine wpAnyH_take (i := 10) rfl (by kernel_rfl) (by kernel_rfl) (by kernel_rfl) (fun _ _ _ h => h) (yields_pref Mp10 (by rfl) _ rfl rfl) (by assumption) ?_
  try simp only [Act.put, List.getElem_toArray, List.getElem_cons_zero, List.getElem_cons_succ, List.setIfInBounds_toArray, List.set_cons_zero, List.set_cons_succ]
  refine wpAnyH_take (i := 11) rfl (by kernel_rfl) (by kernel_rfl) (by kernel_rfl) (fun _ _ _ h => h) (yields_pref Mp11 (by rfl) _ rfl rfl) (by assumption) ?_
  try simp only [Act.put, List.getElem_toArray, List.getElem_cons_zero, List.getElem_cons_succ, List.setIfInBounds_toArray, List.set_cons_zero, List.set_cons_succ]
  refine wpAnyH_take (i := 13) (v := ?_) rfl (by kernel_rfl) (by kernel_rfl) (by kernel_rfl) (fun _ _ _ h => h) (Or.inl ⟨by rfl, ?_⟩) (by assumption) ?_
  rotate_left
  · (intro w hSw; go_simp; try (with_reducible rfl))
  try simp only [Act.put, List.getElem_toArray, List.getElem_cons_zero, List.getElem_cons_succ, List.setIfInBounds_toArray, List.set_cons_zero, List.set_cons_succ]
  refine wpAnyH_take (i := 14) (v := ?_) rfl (by kernel_rfl) (by kernel_rfl) (by kernel_rfl) (fun _ _ _ h => h) (Or.inl ⟨by rfl, ?_⟩) (by assumption) ?_
  rotate_left
  · (intro w hSw; go_simp; try (with_reducible rfl))
  try simp only [Act.put, List.getElem_toArray, List.getElem_cons_zero, List.getElem_cons_succ, List.setIfInBounds_toArray, List.set_cons_zero, List.set_cons_succ]
  refine wpAnyH_take (i := 15) (v := ?_) rfl (by kernel_rfl) (by kernel_rfl) (by kernel_rfl) (fun _ _ _ h => h) (Or.inl ⟨by rfl, ?_⟩) (by assumption) ?_
  rotate_left
  · (intro w hSw; go_simp; try (with_reducible rfl))
  try simp only [Act.put, List.getElem_toArray, List.getElem_cons_zero, List.getElem_cons_succ, List.setIfInBounds_toArray, List.set_cons_zero, List.set_cons_succ]
  refine wpAnyH_ready (rs := [12]) (by kernel_rfl) (by simp) ?_
  refine AllReadyH.cons rfl (fun K hK => ?_) AllReadyH.nil
  go_simp
  refine (Calls.heldR (C12 _ (by assumption)).out (by assumption)).mono ?_
  rintro e wr12 ⟨rfl, hS12⟩
  go_wp2_with fail
  refine hK.out _ _ hS12 (fun hHeld => ?_)
  clear hK K
  try simp only [Act.put, List.getElem_toArray, List.getElem_cons_zero, List.getElem_cons_succ, List.setIfInBounds_toArray, List.set_cons_zero, List.set_cons_succ]
  refine wpAnyH_take (i := 16) (v := ?_) rfl (by kernel_rfl) (by kernel_rfl) (by kernel_rfl) (fun _ _ _ h => h) (Or.inl ⟨by rfl, ?_⟩) (by assumption) ?_
  rotate_left
  · (intro w hSw; go_simp; try (with_reducible rfl))
  try simp only [Act.put, List.getElem_toArray, List.getElem_cons_zero, List.getElem_cons_succ, List.setIfInBounds_toArray, List.set_cons_zero, List.set_cons_succ]
  refine wpAnyH_take (i := 17) (v := ?_) rfl (by kernel_rfl) (by kernel_rfl) (by kernel_rfl) (fun _ _ _ h => h) (Or.inl ⟨by rfl, ?_⟩) (by assumption) ?_
  rotate_left
  · (intro w hSw; go_simp; try (with_reducible rfl))
  try simp only [Act.put, List.getElem_toArray, List.getElem_cons_zero, List.getElem_cons_succ, List.setIfInBounds_toArray, List.set_cons_zero, List.set_cons_succ]
  refine wpAnyH_take (i := 18) (v := ?_) rfl (by kernel_rfl) (by kernel_rfl) (by kernel_rfl) (fun _ _ _ h => h) (Or.inl ⟨by rfl, ?_⟩) (by assumption) ?_
  rotate_left
  · (intro w hSw; go_simp; try (with_reducible rfl))
  try simp only [Act.put, List.getElem_toArray, List.getElem_cons_zero, List.getElem_cons_succ, List.setIfInBounds_toArray, List.set_cons_zero, List.set_cons_succ]
  refine wpAnyH_take (i := 19) rfl (by kernel_rfl) (by kernel_rfl) (by kernel_rfl) (fun _ _ _ h => h) (yields_pref Mp12 (by rfl) _ rfl rfl) (by assumption) ?_
  try simp only [Act.put, List.getElem_toArray, List.getElem_cons_zero, List.getElem_cons_succ, List.setIfInBounds_toArray, List.set_cons_zero, List.set_cons_succ]
  refine wpAnyH_take (i := 20) rfl (by kernel_rfl) (by kernel_rfl) (by kernel_rfl) (fun _ _ _ h => h) (yields_addr Mt7 (by rfl) _ rfl rfl) (by assumption) ?_
  try simp only [Act.put, List.getElem_toArray, List.getElem_cons_zero, List.getElem_cons_succ, List.setIfInBounds_toArray, List.set_cons_zero, List.set_cons_succ]
  refine wpAnyH_take (i := 22) rfl (by kernel_rfl) (by kernel_rfl) (by kernel_rfl) (fun _ _ _ h => h) (yields_addr Mt4 (by rfl) _ rfl rfl) (by assumption) ?_
  try simp only [Act.put, List.getElem_toArray, List.getElem_cons_zero, List.getElem_cons_succ, List.setIfInBounds_toArray, List.set_cons_zero, List.set_cons_succ]
  refine wpAnyH_take (i := 23) rfl (by kernel_rfl) (by kernel_rfl) (by kernel_rfl) (fun _ _ _ h => h) (yields_addr Mt7 (by rfl) _ rfl rfl) (by assumption) ?_
  try simp only [Act.put, List.getElem_toArray, List.getElem_cons_zero, List.getElem_cons_succ, List.setIfInBounds_toArray, List.set_cons_zero, List.set_cons_succ]
  refine wpAnyH_take (i := 24) (v := ?_) rfl (by kernel_rfl) (by kernel_rfl) (by kernel_rfl) (fun _ _ _ h => h) (Or.inl ⟨by rfl, ?_⟩) (by assumption) ?_
  rotate_left
  · (intro w hSw; go_simp; try (with_reducible rfl))
  try simp only [Act.put, List.getElem_toArray, List.getElem_cons_zero, List.getElem_cons_succ, List.setIfInBounds_toArray, List.set_cons_zero, List.set_cons_succ]
  refine wpAnyH_ready (rs := [21]) (by kernel_rfl) (by simp) ?_
  refine AllReadyH.cons rfl (fun K hK => ?_) AllReadyH.nil
  go_simp
  refine (Calls.heldR (C21 _ (by assumption)).out (by assumption)).mono ?_
  rintro e wr21 ⟨rfl, hS21⟩
  go_wp2_with fail
  refine hK.out _ _ hS21 (fun hHeld => ?_)
  clear hK K
  try simp only [Act.put, List.getElem_toArray, List.getElem_cons_zero, List.getElem_cons_succ, List.setIfInBounds_toArray, List.set_cons_zero, List.set_cons_succ]
  refine wpAnyH_take (i := 25) (v := ?_) rfl (by kernel_rfl) (by kernel_rfl) (by kernel_rfl) (fun _ _ _ h => h) (Or.inl ⟨by rfl, ?_⟩) (by assumption) ?_
  rotate_left
  · (intro w hSw; go_simp; try (with_reducible rfl))
  try simp only [Act.put, List.getElem_toArray, List.getElem_cons_zero, List.getElem_cons_succ, List.setIfInBounds_toArray, List.set_cons_zero, List.set_cons_succ]
  refine wpAnyH_take (i := 26) (v := ?_) rfl (by kernel_rfl) (by kernel_rfl) (by kernel_rfl) (fun _ _ _ h => h) (Or.inl ⟨by rfl, ?_⟩) (by assumption) ?_
  rotate_left
  · (intro w hSw; go_simp; try (with_reducible rfl))
  try simp only [Act.put, List.getElem_toArray, List.getElem_cons_zero, List.getElem_cons_succ, List.setIfInBounds_toArray, List.set_cons_zero, List.set_cons_succ]
  refine wpAnyH_take (i := 27) (v := ?_) rfl (by kernel_rfl) (by kernel_rfl) (by kernel_rfl) (fun _ _ _ h => h) (Or.inl ⟨by rfl, ?_⟩) (by assumption) ?_
  rotate_left
  · (intro w hSw; go_simp; try (with_reducible rfl))
  try simp only [Act.put, List.getElem_toArray, List.getElem_cons_zero, List.getElem_cons_succ, List.setIfInBounds_toArray, List.set_cons_zero, List.set_cons_succ]
  refine wpAnyH_take (i := 28) rfl (by kernel_rfl) (by kernel_rfl) (by kernel_rfl) (fun _ _ _ h => h) (yields_pref Mp12 (by rfl) _ rfl rfl) (by assumption) ?_
  try simp only [Act.put, List.getElem_toArray, List.getElem_cons_zero, List.getElem_cons_succ, List.setIfInBounds_toArray, List.set_cons_zero, List.set_cons_succ]
  refine wpAnyH_take (i := 30) rfl (by kernel_rfl) (by kernel_rfl) (by kernel_rfl) (fun _ _ _ h => h) (yields_addr Mt4 (by rfl) _ rfl rfl) (by assumption) ?_
  try simp only [Act.put, List.getElem_toArray, List.getElem_cons_zero, List.getElem_cons_succ, List.setIfInBounds_toArray, List.set_cons_zero, List.set_cons_succ]
  refine wpAnyH_ready (rs := [29]) (by kernel_rfl) (by simp) ?_
  refine AllReadyH.cons rfl (fun K hK => ?_) AllReadyH.nil
  go_simp
  refine (Calls.heldR (C29 _ (by assumption)).out (by assumption)).mono ?_
  rintro e wr29 ⟨rfl, hS29⟩
  go_wp2_with fail
  refine hK.out _ _ hS29 (fun hHeld => ?_)
  clear hK K
  try simp only [Act.put, List.getElem_toArray, List.getElem_cons_zero, List.getElem_cons_succ, List.setIfInBounds_toArray, List.set_cons_zero, List.set_cons_succ]
  refine wpAnyH_take (i := 31) (v := ?_) rfl (by kernel_rfl) (by kernel_rfl) (by kernel_rfl) (fun _ _ _ h => h) (Or.inl ⟨by rfl, ?_⟩) (by assumption) ?_
  rotate_left
  · (intro w hSw; go_simp; try (with_reducible rfl))
  try simp only [Act.put, List.getElem_toArray, List.getElem_cons_zero, List.getElem_cons_succ, List.setIfInBounds_toArray, List.set_cons_zero, List.set_cons_succ]
  refine wpAnyH_take (i := 32) (v := ?_) rfl (by kernel_rfl) (by kernel_rfl) (by kernel_rfl) (fun _ _ _ h => h) (Or.inl ⟨by rfl, ?_⟩) (by assumption) ?_
  rotate_left
  · (intro w hSw; go_simp; try (with_reducible rfl))
  try simp only [Act.put, List.getElem_toArray, List.getElem_cons_zero, List.getElem_cons_succ, List.setIfInBounds_toArray, List.set_cons_zero, List.set_cons_succ]
  refine wpAnyH_take (i := 33) (v := ?_) rfl (by kernel_rfl) (by kernel_rfl) (by kernel_rfl) (fun _ _ _ h => h) (Or.inl ⟨by rfl, ?_⟩) (by assumption) ?_
  rotate_left
  · (intro w hSw; go_simp; try (with_reducible rfl))
  try simp only [Act.put, List.getElem_toArray, List.getElem_cons_zero, List.getElem_cons_succ, List.setIfInBounds_toArray, List.set_cons_zero, List.set_cons_succ]
  refine wpAnyH_take (i := 34) rfl (by kernel_rfl) (by kernel_rfl) (by kernel_rfl) (fun _ _ _ h => h) (yields_pref Mp12 (by rfl) _ rfl rfl) (by assumption) ?_
  try simp only [Act.put, List.getElem_toArray, List.getElem_cons_zero, List.getElem_cons_succ, List.setIfInBounds_toArray, List.set_cons_zero, List.set_cons_succ]
  refine wpAnyH_take (i := 36) rfl (by kernel_rfl) (by kernel_rfl) (by kernel_rfl) (fun _ _ _ h => h) (yields_addr Mt4 (by rfl) _ rfl rfl) (by assumption) ?_
  try simp only [Act.put, List.getElem_toArray, List.getElem_cons_zero, List.getElem_cons_succ, List.setIfInBounds_toArray, List.set_cons_zero, List.set_cons_succ]
  refine wpAnyH_ready (rs := [35]) (by kernel_rfl) (by simp) ?_
  refine AllReadyH.cons rfl (fun K hK => ?_) AllReadyH.nil
  go_simp
  refine (Calls.heldR (C35 _ (by assumption)).out (by assumption)).mono ?_
  rintro e wr35 ⟨rfl, hS35⟩
  go_wp2_with fail
  refine hK.out _ _ hS35 (fun hHeld => ?_)
  clear hK K
  try simp only [Act.put, List.getElem_toArray, List.getElem_cons_zero, List.getElem_cons_succ, List.setIfInBounds_toArray, List.set_cons_zero, List.set_cons_succ]
  refine wpAnyH_take (i := 37) (v := ?_) rfl (by kernel_rfl) (by kernel_rfl) (by kernel_rfl) (fun _ _ _ h => h) (Or.inl ⟨by rfl, ?_⟩) (by assumption) ?_
  rotate_left
  · (intro w hSw; go_simp; try (with_reducible rfl))
  try simp only [Act.put, List.getElem_toArray, List.getElem_cons_zero, List.getElem_cons_succ, List.setIfInBounds_toArray, List.set_cons_zero, List.set_cons_succ]
  refine wpAnyH_take (i := 38) (v := ?_) rfl (by kernel_rfl) (by kernel_rfl) (by kernel_rfl) (fun _ _ _ h => h) (Or.inl ⟨by rfl, ?_⟩) (by assumption) ?_
  rotate_left
  · (intro w hSw; go_simp; try (with_reducible rfl))
  try simp only [Act.put, List.getElem_toArray, List.getElem_cons_zero, List.getElem_cons_succ, List.setIfInBounds_toArray, List.set_cons_zero, List.set_cons_succ]
  refine wpAnyH_take (i := 39) (v := ?_) rfl (by kernel_rfl) (by kernel_rfl) (by kernel_rfl) (fun _ _ _ h => h) (Or.inl ⟨by rfl, ?_⟩) (by assumption) ?_
  rotate_left
  · (intro w hSw; go_simp; try (with_reducible rfl))
  try simp only [Act.put, List.getElem_toArray, List.getElem_cons_zero, List.getElem_cons_succ, List.setIfInBounds_toArray, List.set_cons_zero, List.set_cons_succ]
  refine wpAnyH_ready (rs := [40]) (by kernel_rfl) (by simp) ?_
  refine AllReadyH.cons rfl (fun K hK => ?_) AllReadyH.nil
  go_simp
  refine (Calls.heldR (LV _ (by assumption)).out (by assumption)).mono ?_
  rintro e wr40 ⟨rfl, hS40⟩
  go_wp2_with fail
  refine hK.out _ _ hS40 (fun hHeld => ?_)
  clear hK K
  try simp only [Act.put, List.getElem_toArray, List.getElem_cons_zero, List.getElem_cons_succ, List.setIfInBounds_toArray, List.set_cons_zero, List.set_cons_succ]
  refine wpAnyH_take (i := 41) (v := ?_) rfl (by kernel_rfl) (by kernel_rfl) (by kernel_rfl) (fun _ _ _ h => h) (Or.inl ⟨by rfl, ?_⟩) (by assumption) ?_
  rotate_left
  · (intro w hSw; go_simp; try (with_reducible rfl))
  try simp only [Act.put, List.getElem_toArray, List.getElem_cons_zero, List.getElem_cons_succ, List.setIfInBounds_toArray, List.set_cons_zero, List.set_cons_succ]
  refine wpAnyH_take (i := 42) (v := ?_) rfl (by kernel_rfl) (by kernel_rfl) (by kernel_rfl) (fun _ _ _ h => h) (Or.inl ⟨by rfl, ?_⟩) (by assumption) ?_
  rotate_left
  · (intro w hSw; go_simp; try (with_reducible rfl))
  try simp only [Act.put, List.getElem_toArray, List.getElem_cons_zero, List.getElem_cons_succ, List.setIfInBounds_toArray, List.set_cons_zero, List.set_cons_succ]
  refine wpAnyH_done (by kernel_rfl) ?_ _
  refine NoPanic.normal ?_
  go_wp2_with fail
  go_ret
  exact ⟨rfl, hHeld.bel⟩

theorem door_met (os : Os) (args : Array Value) : laidMetH Tryd.prog Rows.cidrMasksRow.laid ((World.doorLaid Tryd.prog 400 os).forCall (fun _ _ => 0) ⟨#[], args, []⟩).memory :=
  laidMetH_of_parts3 (fuel := 8) (laidMet_of_run' 8 (by kernel_rfl) (by kernel_rfl)) (by kernel_rfl) (by kernel_rfl)

set_option maxRecDepth 100000 in
theorem lifted (os : Os) (started : os.Started) (H : Type) (enc : TypeId × Value → H) :
    ReturnsInHanded {} Tryd.checked os 8 .any (fun w args => (Rows.cidrMasksSpec.pre enc Tryd.prog Tryd.f8 [] false w args ∧ laidMetH Tryd.prog Rows.cidrMasksRow.laid w) ∧ sizedMet enc Tryd.prog Tryd.f8 (OpenSpec.ofChange Rows.cidrMasksSpec) false w args)
      (Rows.cidrMasksSpec.post enc Tryd.prog Tryd.f8 false true false false) := by
  refine handed_shaped (C := Tryd.checked) (X := fun w _ => laidMetH Tryd.prog Rows.cidrMasksRow.laid w) (fun _ _ _ hh h => h.of_heap hh) own started (by kernel_rfl) Tryd.func8
    (ChangeSpec.witness_shaped (enc := enc) (C := Tryd.checked) (os := os) (X := fun w _ => laidMetH Tryd.prog Rows.cidrMasksRow.laid w) false (World.doorLaid Tryd.prog 400 os) #[.agg #[.int .i64 0, .int .u8 0, .int .u8 0, .int .u8 0, .int .u8 0, .int .u8 0, .int .u8 0, .int .u8 0, .int .u8 0, .int .u8 0, .int .u8 0, .int .u8 0, .int .u8 0, .int .u8 0, .int .u8 0, .int .u8 0, .int .u8 0], .int .i64 0, .int .i64 0, .agg #[.int .i64 0, .int .u8 0, .int .u8 0, .int .u8 0, .int .u8 0, .int .u8 0, .int .u8 0, .int .u8 0, .int .u8 0, .int .u8 0, .int .u8 0, .int .u8 0, .int .u8 0, .int .u8 0, .int .u8 0, .int .u8 0, .int .u8 0]] 8 rfl (World.shaped_of_RefB (by kernel_rfl) (by kernel_rfl)) (by kernel_rfl) (by kernel_rfl) (by kernel_rfl) (door_met os _)) ?_
  intro W base args ds gs before hval0 hW hL hsh
  have hval : ∀ (j : Nat) t v, Tryd.f8.params[j]? = some t → args[j]? = some v → Value.okWide Tryd.prog W .any base t v := hval0
  have hW' := hW
  obtain ⟨p, q, hA0, hV, rfl, hfz, hnd⟩ := hW
  have hA : DataW.TrodAll enc Tryd.prog W 0 (fun _ => true) true Tryd.f8.params.toList args.toList ds p := hA0
  rw [Tryd.params8] at hA hval
  obtain ⟨v0, vs0, d0, ds0, p0, q0, hargs, rfl, rfl, h0, r0⟩ := trodAll_cons hA
  obtain ⟨v1, vs1, d1, ds1, p1, q1, rfl, rfl, rfl, h1, r1⟩ := trodAll_cons r0
  obtain ⟨v2, vs2, d2, ds2, p2, q2, rfl, rfl, rfl, h2, r2⟩ := trodAll_cons r1
  obtain ⟨v3, vs3, d3, ds3, p3, q3, rfl, rfl, rfl, h3, r3⟩ := trodAll_cons r2
  obtain ⟨rfl, rfl, rfl⟩ := trodAll_nil r3
  obtain rfl : args = #[v0, v1, v2, v3] := by cases args; simp_all
  obtain ⟨rfl, rfl⟩ := trodVars_none hV
  have k0 := h0
  have lt0 : ∀ x ∈ p0, x.block < W.heap.size := by obtain ⟨m, hm⟩ := k0; exact DataW.trod_lt m _ _ _ hm
  obtain ⟨f0, z0, rfl, fw0, l0, w0⟩ := open_addr (hval 0 24 v0 rfl rfl) h0
  obtain ⟨a1, rfl, rfl, rfl, w1⟩ := open_int Tryd.underlying3 (hval 1 3 v1 rfl rfl) h1
  obtain ⟨a2, rfl, rfl, rfl, w2⟩ := open_int Tryd.underlying3 (hval 2 3 v2 rfl rfl) h2
  have k3 := h3
  have lt3 : ∀ x ∈ p3, x.block < W.heap.size := by obtain ⟨m, hm⟩ := k3; exact DataW.trod_lt m _ _ _ hm
  obtain ⟨f3, z3, rfl, fw3, l3, w3⟩ := open_addr (hval 3 24 v3 rfl rfl) h3
  clear hA0 hval0
  refine (walk f0 z0 a1 a2 f3 z3 fw0 l0 w0 w1 w2 fw3 l3 w3 W (tabs_of Rows.cidrMasksRow.laid rfl hL hsh)).mono fun e W' ⟨he, bel⟩ => ?_
  subst he
  exact ⟨_, rfl, _, _, _, [], _, [], hW', trodAll_mk1 (shut_bool Tryd.underlying4 _), (trodAll_cons_mk (Below.trod laidOut (by kernel_rfl) (of_decide_eq_true (by kernel_rfl)) k0 bel lt0) (trodAll_cons_mk (shut_int Tryd.underlying3 w1) (trodAll_cons_mk (shut_int Tryd.underlying3 w2) (trodAll_cons_mk (Below.trod laidOut (by kernel_rfl) (of_decide_eq_true (by kernel_rfl)) k3 bel lt3) trodAll_mk0)))), rfl, bel.frame _, fun h => by cases h⟩

theorem over : Rows.CidrMasksSaid :=
  OpenClaim.holds_of_wide 8 Tryd.f8 rfl rfl rfl rfl rfl rfl rfl ⟨rfl, rfl, rfl, rfl, rfl⟩ rfl rfl rfl rfl rfl (by kernel_rfl) Tryd.func8 (by kernel_rfl)
    (of_decide_eq_true (by kernel_rfl)) (by unfold Func.isWrapper; first | (rw [if_pos (by decide +kernel)]; kernel_rfl) | (rw [if_neg (by decide +kernel)]; exact ⟨rfl, rfl⟩))
    (fun os started H enc _ => lifted os started H enc)


theorem proved : Rows.CidrMasksCardSaid :=
  Claim7.holds_tied_plain_at .later [] [.data, .data, .data] true _ false
    over (fun _ h => by cases h) (by kernel_rfl) (fun _ h => by cases h) cidrMasks_row_tie rfl ⟨rfl, rfl⟩ (by kernel_rfl) rfl
    (fun f fn hf hfn => by
      obtain rfl : f = 8 := Option.some.inj ((show Tryd.prog.funcNamed "abatis/abatislaw05.CidrMasks" = some 8 by kernel_rfl).symm.trans hf) |>.symm
      obtain rfl : fn = Tryd.f8 := (Option.some.inj (Tryd.func8.symm.trans hfn)).symm
      exact ⟨by kernel_rfl, fun j t ht => by
        rw [Tryd.params8] at ht
        have hm : t ∈ [24, 3, 3, 24] := by simpa using Array.mem_of_getElem? ht
        have hall : ([24, 3, 3, 24].all fun u => !Tryd.prog.wantsStandIn u) = true := by kernel_rfl
        exact (show Tryd.prog.wantsStandIn t = false by simpa using List.all_eq_true.1 hall t hm)⟩)
    (by kernel_rfl)
#print axioms proved
end Go.Proofs.YtpgjkeakhjnckaaDoor.cidrMasks
