/- Which prefixes may be, and the prefix of an address, as the landed cidr tells them, are the document's; for every prefix, address and number of bits. A tied card: three tables of the library hold what the program lays in them. -/
import Derived.Test.YtpgjkeakhjnckaaDoorB8
import Derived.Test.YtpgjkeakhjnckaaDoorTie
import Derived.Test.YtpgjkeakhjnckaaDoorCards
import Derived.ProofKit
import Derived.OpenShut
import Derived.ShutString
import Derived.ChangeOld
import Derived.Below
namespace Go.Proofs.YtpgjkeakhjnckaaDoor.cidrMay
open Go.ChangeShapes Go.WideShapes Go.ChangeAt Go.RowKit
open Go.ChangeMaps (open_string shut_string)
set_option linter.unusedVariables false
set_option maxRecDepth 20000

theorem own : ownKnob Tryd.prog.godebug = none := by kernel_rfl

set_option maxRecDepth 100000 in
set_option maxHeartbeats 4000000 in
theorem walk (f0 : Int) (z0 : List Nat) (n0 : Int) (f1 : Int) (z1 : List Nat) (a2 : Int) (fw0 : (Lit.int .i64 f0).wf = true) (l0 : z0.length = 16) (w0 : ∀ x ∈ z0, x < 256) (nw0 : (Lit.int .i64 n0).wf = true) (fw1 : (Lit.int .i64 f1).wf = true) (l1 : z1.length = 16) (w1 : ∀ x ∈ z1, x < 256) (w2 : (Lit.int .i64 a2).wf = true) (w : World) (htab : Tabs w) :
    Calls Tryd.prog 3 #[prefV f0 z0 n0, addrV f1 z1, .int .i64 a2] w fun e w' => e = .returned (.bool true) ∧ Below w.heap.size w w' := by
  have HT := Lib.hid htab
  have hg := good_is f1 z1 l1 w1
  have HG := fun W => Lib.hid (refGood_any f1 z1 W l1 w1)
  have HGP := Lib.hid (goodP_is f0 z0 n0)
  have HPG := fun W => Lib.hid (refGoodP_any f0 z0 n0 W l0 w0 nw0)
  generalize goodF f1 = F at *
  generalize goodB f1 z1 = B at *
  generalize goodF f0 = F0 at *
  generalize goodP f0 z0 n0 = B0 at *
  generalize goodN f0 n0 = N0 at *
  have HL := Lib.hid hg.len
  have L0 := Lib.hid l0
  have hmask := mask_is (bs := B) a2 hg.pos
  have HMK := fun W => Lib.hid (cidrMask_any F B a2 W hg.len hg.lt w2)
  have HRM := fun W => Lib.hid (refMask_any F B a2 W hg.len hg.lt w2)
  have HM1 := fun W => Lib.hid (cidrMay_any f0 z0 n0 W l0 w0 nw0)
  have HM2 := fun W => Lib.hid (refMayQ_any f0 z0 n0 W l0 w0)
  rw [mayQ_eq f0 n0 l0 w0] at HM2
  generalize withL (bitsN F) B (maskN F a2) 0 = M at *
  generalize maskN F a2 = m at *
  generalize mayP f0 z0 n0 = b at *
  have HLM := Lib.hid hmask.len
  have hN := bitsN_le F
  have hN0 := bitsN_le F0
  have HM3 := fun W => Lib.hid (cidrMay_any F M (m : Int) W hmask.len hmask.lt (wf_small (by have := hmask.le; omega)))
  rw [hmask.may] at HM3
  have HM4 := fun W => Lib.hid (cidrMay_any F0 B0 (N0 : Int) W HGP.out.len HGP.out.lt (wf_small (by have := HGP.out.le; omega)))
  rw [HGP.out.may] at HM4
  obtain ⟨cs, ds, ecs, eds, H1, H2, HB⟩ := pref_addr_boxed f0 z0 n0 f1 z1 w l0 l1
  rw [ecs, eds]
  clear ecs eds l0 w0 l1 w1 hg hmask htab nw0 fw0 fw1 w2
  go_enter Tryd.func3, Tryd.ntmps3
  go_upto_region 1 with fail
  generalize ((w.alloc (.cells cs 26)).alloc (.cells ds 24)) = W at *
  go_wp2_with (refine load_addr_g H2 _ rfl rfl rfl ?_)
  refine (HG _).out.mono ?_
  rintro e w1 ⟨rfl, hb1⟩
  have H1a := Lib.hid (H1.out.below hb1)
  have H2a := Lib.hid (H2.out.below hb1)
  have HBa := Lib.hid (chain HB.out hb1)
  clear H1 H2 HB hb1 HG
  go_upto_region 2 with (refine store_addr H2a _ _ HL rfl rfl rfl rfl (fun W2 HW2 H2b => ?_))
  have H1b := Lib.hid (show PrefAt W2 w.heap.size f0 z0 n0 by rw [HW2.out]; exact H1a.out.apart (by omega) _)
  have HBb := Lib.hid (show Below w.heap.size w W2 by rw [HW2.out]; exact below_cells (by omega) _ _ _ HBa.out)
  clear H1a H2a HBa HW2
  go_wp2_with (refine load_addr_g H2b _ rfl rfl rfl ?_)
  refine (HMK _).out.mono ?_
  rintro e w3 ⟨rfl, hb3⟩
  have H1c := Lib.hid (H1b.out.below hb3)
  have H2c := Lib.hid (H2b.out.below hb3)
  have HBc := Lib.hid (chain HBb.out hb3)
  have HZ := Lib.hid (pref_zeroed w3)
  clear H1b H2b HBb hb3 HMK
  go_upto_region 3 with (refine store_pref HZ _ _ HLM rfl rfl rfl rfl (fun W4 HW4 H3 => ?_))
  have H1d := Lib.hid (H1c.out.below (below_newP HW4))
  have H2d := Lib.hid (H2c.out.below (below_newP HW4))
  have HBd := Lib.hid (chain HBc.out (below_newP HW4))
  generalize w3.heap.size = G3 at *
  clear H1c H2c HBc HZ HW4
  obtain ⟨L, hL⟩ : ∃ L, [(w.heap.size, 0, prefL f0 z0 n0), (w.heap.size, 0, addrL f0 z0), (w.heap.size + 1, 0, addrL F B), (G3, 0, prefL F M (m : Int)), (G3, 0, addrL F M)] = L := ⟨_, rfl⟩
  have HK := Lib.hid (show HeldR L w W4 by rw [← hL]; exact (((HeldR.nil HBd.out).pref H3.out).addr H2d.out).pref H1d.out)
  have Mp3 := Lib.hid (show InP L w.heap.size f0 z0 n0 from ⟨by rw [← hL]; simp, L0.out⟩)
  have Mt4 := Lib.hid (show InA L (w.heap.size + 1) F B from ⟨by rw [← hL]; simp, HL.out⟩)
  have Mp7 := Lib.hid (show InP L G3 F M (m : Int) from ⟨by rw [← hL]; simp, HLM.out⟩)
  clear hL H1d H2d H3 HBd
  have C1 : ∀ w', HeldR L w w' → Hid (Calls Tryd.prog 11 #[prefV f0 z0 n0] w' fun e w'' => e = .returned (.bool b) ∧ Below w'.heap.size w' w'') := fun w' h => HM1 w'
  have C3 : ∀ w', HeldR L w w' → Hid (Calls Tryd.prog 12 #[prefV f0 z0 n0] w' fun e w'' => e = .returned (.bool b) ∧ Below w'.heap.size w' w'') := fun w' h => HM2 w'
  have C9 : ∀ w', HeldR L w w' → Hid (Calls Tryd.prog 13 #[addrV F B, .int .i64 a2] w' fun e w'' => e = .returned (prefV F M (m : Int)) ∧ Below w'.heap.size w' w'') := fun w' h => HRM w'
  have C14 : ∀ w', HeldR L w w' → Hid (Calls Tryd.prog 11 #[prefV F M (m : Int)] w' fun e w'' => e = .returned (.bool true) ∧ Below w'.heap.size w' w'') := fun w' h => HM3 w'
  have C18 : ∀ w', HeldR L w w' → Hid (Calls Tryd.prog 14 #[prefV f0 z0 n0] w' fun e w'' => e = .returned (prefV F0 B0 (N0 : Int)) ∧ Below w'.heap.size w' w'') := fun w' h => HPG w'
  have C19 : ∀ w', HeldR L w w' → Hid (Calls Tryd.prog 11 #[prefV F0 B0 (N0 : Int)] w' fun e w'' => e = .returned (.bool true) ∧ Below w'.heap.size w' w'') := fun w' h => HM4 w'
  have LV : ∀ w', HeldR L w w' → Hid (Calls Tryd.prog 15 #[] w' fun e w'' => e = .returned (.bool true) ∧ Below w'.heap.size w' w'') := fun w' h => Lib.hid (lives5_any w' (HT.out.below h.bel))
  clear HM1 HM2 HM3 HM4 HPG HRM
  have gd := guard_pref
  have q1 := fun W => run_same_pref F M (m : Int) W HLM.out
  have s2 : (b == b) = true := by simp
  refine wp_region_noPanic ?_
  refine wp_region_held_drew (S := HeldR L w) (by kernel_rfl) HK.out.drew (fun hHeld => ?_)
  refine wpAnyH_take (i := 0) rfl (by kernel_rfl) (by kernel_rfl) (by kernel_rfl) (fun _ _ _ h => h) (yields_pref Mp3 (by rfl) _ rfl rfl) (by assumption) ?_
  try simp only [Act.put, List.getElem_toArray, List.getElem_cons_zero, List.setIfInBounds_toArray, List.set_cons_zero, List.set_cons_succ]
  refine wpAnyH_take (i := 2) rfl (by kernel_rfl) (by kernel_rfl) (by kernel_rfl) (fun _ _ _ h => h) (yields_pref Mp3 (by rfl) _ rfl rfl) (by assumption) ?_
  try simp only [Act.put, List.getElem_toArray, List.getElem_cons_zero, List.getElem_cons_succ, List.setIfInBounds_toArray, List.set_cons_zero, List.set_cons_succ]
  refine wpAnyH_ready (rs := [1]) (by kernel_rfl) (by simp) ?_
  refine AllReadyH.cons rfl (fun K hK => ?_) AllReadyH.nil
  go_simp
  refine (Calls.heldR (C1 _ (by assumption)).out (by assumption)).mono ?_
  rintro e wr1 ⟨rfl, hS1⟩
  go_wp2_with fail
  refine hK.out _ _ hS1 (fun hHeld => ?_)
  clear hK K
  try simp only [Act.put, List.getElem_toArray, List.getElem_cons_zero, List.getElem_cons_succ, List.setIfInBounds_toArray, List.set_cons_zero, List.set_cons_succ]
  refine wpAnyH_ready (rs := [3]) (by kernel_rfl) (by simp) ?_
  refine AllReadyH.cons rfl (fun K hK => ?_) AllReadyH.nil
  go_simp
  refine (Calls.heldR (C3 _ (by assumption)).out (by assumption)).mono ?_
  rintro e wr3 ⟨rfl, hS3⟩
  go_wp2_with fail
  refine hK.out _ _ hS3 (fun hHeld => ?_)
  clear hK K
  try simp only [Act.put, List.getElem_toArray, List.getElem_cons_zero, List.getElem_cons_succ, List.setIfInBounds_toArray, List.set_cons_zero, List.set_cons_succ]
  refine wpAnyH_take (i := 4) (v := ?_) rfl (by kernel_rfl) (by kernel_rfl) (by kernel_rfl) (fun _ _ _ h => h) (Or.inl ⟨by rfl, ?_⟩) (by assumption) ?_
  rotate_left
  · (intro w hSw; go_simp; try (with_reducible rfl))
  try simp only [Act.put, List.getElem_toArray, List.getElem_cons_zero, List.getElem_cons_succ, List.setIfInBounds_toArray, List.set_cons_zero, List.set_cons_succ]
  refine wpAnyH_take (i := 5) (v := ?_) rfl (by kernel_rfl) (by kernel_rfl) (by kernel_rfl) (fun _ _ _ h => h) (Or.inl ⟨by rfl, ?_⟩) (by assumption) ?_
  rotate_left
  · (intro w hSw; go_simp; try (with_reducible rfl))
  try simp only [Act.put, List.getElem_toArray, List.getElem_cons_zero, List.getElem_cons_succ, List.setIfInBounds_toArray, List.set_cons_zero, List.set_cons_succ]
  refine wpAnyH_take (i := 6) rfl (by kernel_rfl) (by kernel_rfl) (by kernel_rfl) (fun _ _ _ h => h) (yields_pref Mp7 (by rfl) _ rfl rfl) (by assumption) ?_
  try simp only [Act.put, List.getElem_toArray, List.getElem_cons_zero, List.getElem_cons_succ, List.setIfInBounds_toArray, List.set_cons_zero, List.set_cons_succ]
  refine wpAnyH_take (i := 7) rfl (by kernel_rfl) (by kernel_rfl) (by kernel_rfl) (fun _ _ _ h => h) (yields_addr Mt4 (by rfl) _ rfl rfl) (by assumption) ?_
  try simp only [Act.put, List.getElem_toArray, List.getElem_cons_zero, List.getElem_cons_succ, List.setIfInBounds_toArray, List.set_cons_zero, List.set_cons_succ]
  refine wpAnyH_take (i := 8) (v := ?_) rfl (by kernel_rfl) (by kernel_rfl) (by kernel_rfl) (fun _ _ _ h => h) (Or.inl ⟨by rfl, ?_⟩) (by assumption) ?_
  rotate_left
  · (intro w hSw; go_simp; try (with_reducible rfl))
  try simp only [Act.put, List.getElem_toArray, List.getElem_cons_zero, List.getElem_cons_succ, List.setIfInBounds_toArray, List.set_cons_zero, List.set_cons_succ]
  refine wpAnyH_ready (rs := [9]) (by kernel_rfl) (by simp) ?_
  refine AllReadyH.cons rfl (fun K hK => ?_) AllReadyH.nil
  go_simp
  refine (Calls.heldR (C9 _ (by assumption)).out (by assumption)).mono ?_
  rintro e wr9 ⟨rfl, hS9⟩
  go_wp2_with fail
  refine hK.out _ _ hS9 (fun hHeld => ?_)
  clear hK K
  try simp only [Act.put, List.getElem_toArray, List.getElem_cons_zero, List.getElem_cons_succ, List.setIfInBounds_toArray, List.set_cons_zero, List.set_cons_succ]
  refine wpAnyH_take (i := 10) (v := ?_) rfl (by kernel_rfl) (by kernel_rfl) (by kernel_rfl) (fun _ _ _ h => h) (Or.inl ⟨by rfl, ?_⟩) (by assumption) ?_
  rotate_left
  · (intro w hSw; go_simp; try (with_reducible rfl))
  try simp only [Act.put, List.getElem_toArray, List.getElem_cons_zero, List.getElem_cons_succ, List.setIfInBounds_toArray, List.set_cons_zero, List.set_cons_succ]
  refine wpAnyH_take (i := 11) (v := ?_) rfl (by kernel_rfl) (by kernel_rfl) (by kernel_rfl) (fun _ _ _ h => h) (Or.inl ⟨by rfl, ?_⟩) (by assumption) ?_
  rotate_left
  · (intro w hSw; go_simp; try (with_reducible rfl))
  try simp only [Act.put, List.getElem_toArray, List.getElem_cons_zero, List.getElem_cons_succ, List.setIfInBounds_toArray, List.set_cons_zero, List.set_cons_succ]
  refine wpAnyH_take (i := 12) (v := ?_) rfl (by kernel_rfl) (by kernel_rfl) (by kernel_rfl) (fun _ _ _ h => h) (Or.inl ⟨by rfl, ?_⟩) (by assumption) ?_
  rotate_left
  · (intro w hSw; go_simp; try (with_reducible rfl))
  try simp only [Act.put, List.getElem_toArray, List.getElem_cons_zero, List.getElem_cons_succ, List.setIfInBounds_toArray, List.set_cons_zero, List.set_cons_succ]
  refine wpAnyH_take (i := 13) rfl (by kernel_rfl) (by kernel_rfl) (by kernel_rfl) (fun _ _ _ h => h) (yields_pref Mp7 (by rfl) _ rfl rfl) (by assumption) ?_
  try simp only [Act.put, List.getElem_toArray, List.getElem_cons_zero, List.getElem_cons_succ, List.setIfInBounds_toArray, List.set_cons_zero, List.set_cons_succ]
  refine wpAnyH_ready (rs := [14]) (by kernel_rfl) (by simp) ?_
  refine AllReadyH.cons rfl (fun K hK => ?_) AllReadyH.nil
  go_simp
  refine (Calls.heldR (C14 _ (by assumption)).out (by assumption)).mono ?_
  rintro e wr14 ⟨rfl, hS14⟩
  go_wp2_with fail
  refine hK.out _ _ hS14 (fun hHeld => ?_)
  clear hK K
  try simp only [Act.put, List.getElem_toArray, List.getElem_cons_zero, List.getElem_cons_succ, List.setIfInBounds_toArray, List.set_cons_zero, List.set_cons_succ]
  refine wpAnyH_take (i := 15) (v := ?_) rfl (by kernel_rfl) (by kernel_rfl) (by kernel_rfl) (fun _ _ _ h => h) (Or.inl ⟨by rfl, ?_⟩) (by assumption) ?_
  rotate_left
  · (intro w hSw; go_simp; try (with_reducible rfl))
  try simp only [Act.put, List.getElem_toArray, List.getElem_cons_zero, List.getElem_cons_succ, List.setIfInBounds_toArray, List.set_cons_zero, List.set_cons_succ]
  refine wpAnyH_take (i := 16) (v := ?_) rfl (by kernel_rfl) (by kernel_rfl) (by kernel_rfl) (fun _ _ _ h => h) (Or.inl ⟨by rfl, ?_⟩) (by assumption) ?_
  rotate_left
  · (intro w hSw; go_simp; try (with_reducible rfl))
  try simp only [Act.put, List.getElem_toArray, List.getElem_cons_zero, List.getElem_cons_succ, List.setIfInBounds_toArray, List.set_cons_zero, List.set_cons_succ]
  refine wpAnyH_take (i := 17) rfl (by kernel_rfl) (by kernel_rfl) (by kernel_rfl) (fun _ _ _ h => h) (yields_pref Mp3 (by rfl) _ rfl rfl) (by assumption) ?_
  try simp only [Act.put, List.getElem_toArray, List.getElem_cons_zero, List.getElem_cons_succ, List.setIfInBounds_toArray, List.set_cons_zero, List.set_cons_succ]
  refine wpAnyH_ready (rs := [18]) (by kernel_rfl) (by simp) ?_
  refine AllReadyH.cons rfl (fun K hK => ?_) AllReadyH.nil
  go_simp
  refine (Calls.heldR (C18 _ (by assumption)).out (by assumption)).mono ?_
  rintro e wr18 ⟨rfl, hS18⟩
  go_wp2_with fail
  refine hK.out _ _ hS18 (fun hHeld => ?_)
  clear hK K
  try simp only [Act.put, List.getElem_toArray, List.getElem_cons_zero, List.getElem_cons_succ, List.setIfInBounds_toArray, List.set_cons_zero, List.set_cons_succ]
  refine wpAnyH_ready (rs := [19]) (by kernel_rfl) (by simp) ?_
  refine AllReadyH.cons rfl (fun K hK => ?_) AllReadyH.nil
  go_simp
  refine (Calls.heldR (C19 _ (by assumption)).out (by assumption)).mono ?_
  rintro e wr19 ⟨rfl, hS19⟩
  go_wp2_with fail
  refine hK.out _ _ hS19 (fun hHeld => ?_)
  clear hK K
  try simp only [Act.put, List.getElem_toArray, List.getElem_cons_zero, List.getElem_cons_succ, List.setIfInBounds_toArray, List.set_cons_zero, List.set_cons_succ]
  refine wpAnyH_take (i := 20) (v := ?_) rfl (by kernel_rfl) (by kernel_rfl) (by kernel_rfl) (fun _ _ _ h => h) (Or.inl ⟨by rfl, ?_⟩) (by assumption) ?_
  rotate_left
  · (intro w hSw; go_simp; try (with_reducible rfl))
  try simp only [Act.put, List.getElem_toArray, List.getElem_cons_zero, List.getElem_cons_succ, List.setIfInBounds_toArray, List.set_cons_zero, List.set_cons_succ]
  refine wpAnyH_take (i := 21) (v := ?_) rfl (by kernel_rfl) (by kernel_rfl) (by kernel_rfl) (fun _ _ _ h => h) (Or.inl ⟨by rfl, ?_⟩) (by assumption) ?_
  rotate_left
  · (intro w hSw; go_simp; try (with_reducible rfl))
  try simp only [Act.put, List.getElem_toArray, List.getElem_cons_zero, List.getElem_cons_succ, List.setIfInBounds_toArray, List.set_cons_zero, List.set_cons_succ]
  refine wpAnyH_ready (rs := [22]) (by kernel_rfl) (by simp) ?_
  refine AllReadyH.cons rfl (fun K hK => ?_) AllReadyH.nil
  go_simp
  refine (Calls.heldR (LV _ (by assumption)).out (by assumption)).mono ?_
  rintro e wr22 ⟨rfl, hS22⟩
  go_wp2_with fail
  refine hK.out _ _ hS22 (fun hHeld => ?_)
  clear hK K
  try simp only [Act.put, List.getElem_toArray, List.getElem_cons_zero, List.getElem_cons_succ, List.setIfInBounds_toArray, List.set_cons_zero, List.set_cons_succ]
  refine wpAnyH_take (i := 23) (v := ?_) rfl (by kernel_rfl) (by kernel_rfl) (by kernel_rfl) (fun _ _ _ h => h) (Or.inl ⟨by rfl, ?_⟩) (by assumption) ?_
  rotate_left
  · (intro w hSw; go_simp; try (with_reducible rfl))
  try simp only [Act.put, List.getElem_toArray, List.getElem_cons_zero, List.getElem_cons_succ, List.setIfInBounds_toArray, List.set_cons_zero, List.set_cons_succ]
  refine wpAnyH_take (i := 24) (v := ?_) rfl (by kernel_rfl) (by kernel_rfl) (by kernel_rfl) (fun _ _ _ h => h) (Or.inl ⟨by rfl, ?_⟩) (by assumption) ?_
  rotate_left
  · (intro w hSw; go_simp; try (with_reducible rfl))
  try simp only [Act.put, List.getElem_toArray, List.getElem_cons_zero, List.getElem_cons_succ, List.setIfInBounds_toArray, List.set_cons_zero, List.set_cons_succ]
  refine wpAnyH_done (by kernel_rfl) ?_ _
  refine NoPanic.normal ?_
  go_wp2_with fail
  go_ret
  exact ⟨rfl, hHeld.bel⟩

theorem door_met (os : Os) (args : Array Value) : laidMetH Tryd.prog Rows.cidrMayRow.laid ((World.doorLaid Tryd.prog 400 os).forCall (fun _ _ => 0) ⟨#[], args, []⟩).memory :=
  laidMetH_of_parts3 (fuel := 8) (laidMet_of_run' 8 (by kernel_rfl) (by kernel_rfl)) (by kernel_rfl) (by kernel_rfl)

set_option maxRecDepth 100000 in
theorem lifted (os : Os) (started : os.Started) (H : Type) (enc : TypeId × Value → H) :
    ReturnsInHanded {} Tryd.checked os 3 .any (fun w args => (Rows.cidrMaySpec.pre enc Tryd.prog Tryd.f3 [] false w args ∧ laidMetH Tryd.prog Rows.cidrMayRow.laid w) ∧ sizedMet enc Tryd.prog Tryd.f3 (OpenSpec.ofChange Rows.cidrMaySpec) false w args)
      (Rows.cidrMaySpec.post enc Tryd.prog Tryd.f3 false true false false) := by
  refine handed_shaped (C := Tryd.checked) (X := fun w _ => laidMetH Tryd.prog Rows.cidrMayRow.laid w) (fun _ _ _ hh h => h.of_heap hh) own started (by kernel_rfl) Tryd.func3
    (ChangeSpec.witness_shaped (enc := enc) (C := Tryd.checked) (os := os) (X := fun w _ => laidMetH Tryd.prog Rows.cidrMayRow.laid w) false (World.doorLaid Tryd.prog 400 os) #[.agg #[.int .i64 0, .int .u8 0, .int .u8 0, .int .u8 0, .int .u8 0, .int .u8 0, .int .u8 0, .int .u8 0, .int .u8 0, .int .u8 0, .int .u8 0, .int .u8 0, .int .u8 0, .int .u8 0, .int .u8 0, .int .u8 0, .int .u8 0, .int .i64 0], .agg #[.int .i64 0, .int .u8 0, .int .u8 0, .int .u8 0, .int .u8 0, .int .u8 0, .int .u8 0, .int .u8 0, .int .u8 0, .int .u8 0, .int .u8 0, .int .u8 0, .int .u8 0, .int .u8 0, .int .u8 0, .int .u8 0, .int .u8 0], .int .i64 0] 8 rfl (World.shaped_of_RefB (by kernel_rfl) (by kernel_rfl)) (by kernel_rfl) (by kernel_rfl) (by kernel_rfl) (door_met os _)) ?_
  intro W base args ds gs before hval0 hW hL hsh
  have hval : ∀ (j : Nat) t v, Tryd.f3.params[j]? = some t → args[j]? = some v → Value.okWide Tryd.prog W .any base t v := hval0
  have hW' := hW
  obtain ⟨p, q, hA0, hV, rfl, hfz, hnd⟩ := hW
  have hA : DataW.TrodAll enc Tryd.prog W 0 (fun _ => true) true Tryd.f3.params.toList args.toList ds p := hA0
  rw [Tryd.params3] at hA hval
  obtain ⟨v0, vs0, d0, ds0, p0, q0, hargs, rfl, rfl, h0, r0⟩ := trodAll_cons hA
  obtain ⟨v1, vs1, d1, ds1, p1, q1, rfl, rfl, rfl, h1, r1⟩ := trodAll_cons r0
  obtain ⟨v2, vs2, d2, ds2, p2, q2, rfl, rfl, rfl, h2, r2⟩ := trodAll_cons r1
  obtain ⟨rfl, rfl, rfl⟩ := trodAll_nil r2
  obtain rfl : args = #[v0, v1, v2] := by cases args; simp_all
  obtain ⟨rfl, rfl⟩ := trodVars_none hV
  have k0 := h0
  have lt0 : ∀ x ∈ p0, x.block < W.heap.size := by obtain ⟨m, hm⟩ := k0; exact DataW.trod_lt m _ _ _ hm
  obtain ⟨f0, z0, n0, rfl, fw0, l0, w0, nw0⟩ := open_pref (hval 0 26 v0 rfl rfl) h0
  have k1 := h1
  have lt1 : ∀ x ∈ p1, x.block < W.heap.size := by obtain ⟨m, hm⟩ := k1; exact DataW.trod_lt m _ _ _ hm
  obtain ⟨f1, z1, rfl, fw1, l1, w1⟩ := open_addr (hval 1 24 v1 rfl rfl) h1
  obtain ⟨a2, rfl, rfl, rfl, w2⟩ := open_int Tryd.underlying3 (hval 2 3 v2 rfl rfl) h2
  clear hA0 hval0
  refine (walk f0 z0 n0 f1 z1 a2 fw0 l0 w0 nw0 fw1 l1 w1 w2 W (tabs_of Rows.cidrMayRow.laid rfl hL hsh)).mono fun e W' ⟨he, bel⟩ => ?_
  subst he
  exact ⟨_, rfl, _, _, _, [], _, [], hW', trodAll_mk1 (shut_bool Tryd.underlying4 _), (trodAll_cons_mk (Below.trod laidOut (by kernel_rfl) (of_decide_eq_true (by kernel_rfl)) k0 bel lt0) (trodAll_cons_mk (Below.trod laidOut (by kernel_rfl) (of_decide_eq_true (by kernel_rfl)) k1 bel lt1) (trodAll_cons_mk (shut_int Tryd.underlying3 w2) trodAll_mk0))), rfl, bel.frame _, fun h => by cases h⟩

theorem over : Rows.CidrMaySaid :=
  OpenClaim.holds_of_wide 3 Tryd.f3 rfl rfl rfl rfl rfl rfl rfl ⟨rfl, rfl, rfl, rfl, rfl⟩ rfl rfl rfl rfl rfl (by kernel_rfl) Tryd.func3 (by kernel_rfl)
    (of_decide_eq_true (by kernel_rfl)) (by unfold Func.isWrapper; first | (rw [if_pos (by decide +kernel)]; kernel_rfl) | (rw [if_neg (by decide +kernel)]; exact ⟨rfl, rfl⟩))
    (fun os started H enc _ => lifted os started H enc)


theorem proved : Rows.CidrMayCardSaid :=
  Claim7.holds_tied_plain_at .later [] [.data, .data, .data] true _ false
    over (fun _ h => by cases h) (by kernel_rfl) (fun _ h => by cases h) cidrMay_row_tie rfl ⟨rfl, rfl⟩ (by kernel_rfl) rfl
    (fun f fn hf hfn => by
      obtain rfl : f = 3 := Option.some.inj ((show Tryd.prog.funcNamed "abatis/abatislaw05.CidrMay" = some 3 by kernel_rfl).symm.trans hf) |>.symm
      obtain rfl : fn = Tryd.f3 := (Option.some.inj (Tryd.func3.symm.trans hfn)).symm
      exact ⟨by kernel_rfl, fun j t ht => by
        rw [Tryd.params3] at ht
        have hm : t ∈ [26, 24, 3] := by simpa using Array.mem_of_getElem? ht
        have hall : ([26, 24, 3].all fun u => !Tryd.prog.wantsStandIn u) = true := by kernel_rfl
        exact (show Tryd.prog.wantsStandIn t = false by simpa using List.all_eq_true.1 hall t hm)⟩)
    (by kernel_rfl)
#print axioms proved
end Go.Proofs.YtpgjkeakhjnckaaDoor.cidrMay
