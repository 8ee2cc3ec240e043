/- A prefix is within another one, as the landed cidr.Within tells, just if that has its first and its last address; for every two prefixes. A tied card: three tables of the library hold what the program lays in them. -/
import Derived.Test.YtpgjkeakhjnckaaDoorB8
import Derived.Test.YtpgjkeakhjnckaaDoorTie
import Derived.Test.YtpgjkeakhjnckaaDoorCards
import Derived.ProofKit
import Derived.OpenShut
import Derived.ShutString
import Derived.ChangeOld
import Derived.Below
namespace Go.Proofs.YtpgjkeakhjnckaaDoor.cidrWithin
open Go.ChangeShapes Go.WideShapes Go.ChangeAt Go.RowKit
open Go.ChangeMaps (open_string shut_string)
set_option linter.unusedVariables false
set_option maxRecDepth 20000

theorem own : ownKnob Tryd.prog.godebug = none := by kernel_rfl

set_option maxRecDepth 100000 in
set_option maxHeartbeats 4000000 in
theorem walk (f0 : Int) (z0 : List Nat) (n0 : Int) (f1 : Int) (z1 : List Nat) (n1 : Int) (fw0 : (Lit.int .i64 f0).wf = true) (l0 : z0.length = 16) (w0 : ∀ x ∈ z0, x < 256) (nw0 : (Lit.int .i64 n0).wf = true) (fw1 : (Lit.int .i64 f1).wf = true) (l1 : z1.length = 16) (w1 : ∀ x ∈ z1, x < 256) (nw1 : (Lit.int .i64 n1).wf = true) (w : World) (htab : Tabs w) :
    Calls Tryd.prog 6 #[prefV f0 z0 n0, prefV f1 z1 n1] w fun e w' => e = .returned (.bool true) ∧ Below w.heap.size w w' := by
  have HT := Lib.hid htab
  have hp := goodP_is f0 z0 n0
  have hq := goodP_is f1 z1 n1
  have HG0 := fun W => Lib.hid (refGoodP_any f0 z0 n0 W l0 w0 nw0)
  have HG1 := fun W => Lib.hid (refGoodP_any f1 z1 n1 W l1 w1 nw1)
  generalize goodF f0 = F at *
  generalize goodP f0 z0 n0 = P at *
  generalize goodN f0 n0 = n at *
  generalize goodF f1 = G at *
  generalize goodP f1 z1 n1 = Q at *
  generalize goodN f1 n1 = m at *
  have hN := bitsN_le F
  have hM := bitsN_le G
  have hn := hp.le
  have hm := hq.le
  have HLP := Lib.hid hp.len
  have HLQ := Lib.hid hq.len
  have HW0 := fun W => Lib.hid (refWith_any F P n 0 W hp.len hp.lt (by omega) (by decide))
  have HW1 := fun W => Lib.hid (refWith_any F P n 1 W hp.len hp.lt (by omega) (by decide))
  have HH0 := fun W => Lib.hid (refHas_any G Q m F (withL (bitsN F) P n 0) W hq.len (withL_len _ _ _ _) hq.lt (withL_lt _ _ _ _ (by decide)) (by omega))
  have HH1 := fun W => Lib.hid (refHas_any G Q m F (withL (bitsN F) P n 1) W hq.len (withL_len _ _ _ _) hq.lt (withL_lt _ _ _ _ (by decide)) (by omega))
  have HPQ := fun W => Lib.hid (cidrWithin_any F P (n : Int) G Q (m : Int) W hp.len hq.len hp.lt (wf_small (by omega)))
  have HQP := fun W => Lib.hid (cidrWithin_any G Q (m : Int) F P (n : Int) W hq.len hp.len hq.lt (wf_small (by omega)))
  have HPP := fun W => Lib.hid (cidrWithin_any F P (n : Int) F P (n : Int) W hp.len hp.len hp.lt (wf_small (by omega)))
  rw [within_self hp] at HPP
  have hbo := within_both hp hq
  have HAN := Lib.hid (within_anti hp hq)
  generalize withinR F P (n : Int) G Q (m : Int) = x at *
  generalize withinR G Q (m : Int) F P (n : Int) = y at *
  generalize hasB G Q m F (withL (bitsN F) P n 0) = b0 at *
  generalize hasB G Q m F (withL (bitsN F) P n 1) = b1 at *
  generalize withL (bitsN F) P n 0 = X0 at *
  generalize withL (bitsN F) P n 1 = X1 at *
  have HBO := Lib.hid hbo
  obtain ⟨cs, ds, ecs, eds, H1, H2, HB⟩ := prefs_boxed f0 z0 n0 f1 z1 n1 w l0 l1
  rw [ecs, eds]
  clear ecs eds l0 w0 l1 w1 hp hq htab nw0 fw0 fw1 nw1 hbo
  go_enter Tryd.func6, Tryd.ntmps6
  go_upto_region 1 with fail
  generalize ((w.alloc (.cells cs 26)).alloc (.cells ds 26)) = W at *
  go_wp2_with (refine load_pref_g H1 _ rfl rfl rfl ?_)
  refine (HG0 _).out.mono ?_
  rintro e w1 ⟨rfl, hb1⟩
  have H1a := Lib.hid (H1.out.below hb1)
  have H2a := Lib.hid (H2.out.below hb1)
  have HBa := Lib.hid (chain HB.out hb1)
  clear H1 H2 HB hb1 HG0
  go_upto_region 2 with (refine store_pref H1a _ _ HLP rfl rfl rfl rfl (fun W2 HWW2 H1b => ?_))
  have H2b := Lib.hid (show PrefAt W2 (w.heap.size + 1) f1 z1 n1 by rw [HWW2.out]; exact H2a.out.apart (by omega) _)
  have HBb := Lib.hid (show Below w.heap.size w W2 by rw [HWW2.out]; exact below_cells (Nat.le_refl _) _ _ _ HBa.out)
  clear H1a H2a HBa HWW2
  go_wp2_with (refine load_pref_g H2b _ rfl rfl rfl ?_)
  refine (HG1 _).out.mono ?_
  rintro e w3 ⟨rfl, hb3⟩
  have H1c := Lib.hid (H1b.out.below hb3)
  have H2c := Lib.hid (H2b.out.below hb3)
  have HBc := Lib.hid (chain HBb.out hb3)
  clear H1b H2b HBb hb3 HG1
  go_upto_region 3 with (refine store_pref H2c _ _ HLQ rfl rfl rfl rfl (fun W4 HWW4 H2d => ?_))
  have H1d := Lib.hid (show PrefAt W4 w.heap.size F P (n : Int) by rw [HWW4.out]; exact H1c.out.apart (by omega) _)
  have HBd := Lib.hid (show Below w.heap.size w W4 by rw [HWW4.out]; exact below_cells (by omega) _ _ _ HBc.out)
  clear H1c H2c HBc HWW4
  obtain ⟨L, hL⟩ : ∃ L, [(w.heap.size, 0, prefL F P (n : Int)), (w.heap.size, 0, addrL F P), (w.heap.size + 1, 0, prefL G Q (m : Int)), (w.heap.size + 1, 0, addrL G Q)] = L := ⟨_, rfl⟩
  have HK := Lib.hid (show HeldR L w W4 by rw [← hL]; exact ((HeldR.nil HBd.out).pref H2d.out).pref H1d.out)
  have Mp2 := Lib.hid (show InP L w.heap.size F P (n : Int) from ⟨by rw [← hL]; simp, HLP.out⟩)
  have Ma2 := Lib.hid (show InA L w.heap.size F P from ⟨by rw [← hL]; simp, HLP.out⟩)
  have Mp3 := Lib.hid (show InP L (w.heap.size + 1) G Q (m : Int) from ⟨by rw [← hL]; simp, HLQ.out⟩)
  have Cn := Lib.hid (bitsR Mp2.out w)
  clear hL H1d H2d HBd
  try simp only [Act.put]
  go_cut [5] from 6 (fun s5 wx => s5 = .bool x ∧ Hid (HeldR L w wx))
  case first =>
    have C5 : ∀ w', HeldR L w w' → Hid (Calls Tryd.prog 26 #[addrV F P, .int .i64 (n : Int), .int .i64 0] w' fun e w'' => e = .returned (addrV F X0) ∧ Below w'.heap.size w' w'') := fun w' h => HW0 w'
    have C6 : ∀ w', HeldR L w w' → Hid (Calls Tryd.prog 25 #[prefV G Q (m : Int), addrV F X0] w' fun e w'' => e = .returned (.bool b0) ∧ Below w'.heap.size w' w'') := fun w' h => HH0 w'
    have C13 : ∀ w', HeldR L w w' → Hid (Calls Tryd.prog 26 #[addrV F P, .int .i64 (n : Int), .int .i64 1] w' fun e w'' => e = .returned (addrV F X1) ∧ Below w'.heap.size w' w'') := fun w' h => HW1 w'
    have C14 : ∀ w', HeldR L w w' → Hid (Calls Tryd.prog 25 #[prefV G Q (m : Int), addrV F X1] w' fun e w'' => e = .returned (.bool b1) ∧ Below w'.heap.size w' w'') := fun w' h => HH1 w'
    clear HW0 HW1 HH0 HH1 HPQ HQP HPP HAN
    cases b0 with
    | true =>
      have HX : Hid (x = b1) := Lib.hid (by rw [HBO.out, Bool.true_and])
      refine wp_region_noPanic ?_
      refine wp_region_held_drew (S := HeldR L w) (by kernel_rfl) HK.out.drew (fun hHeld => ?_)
      refine wpAnyH_take (i := 0) rfl (by kernel_rfl) (by kernel_rfl) (by kernel_rfl) (fun _ _ _ h => h) (yields_pref Mp3 (by rfl) _ rfl rfl) (by assumption) ?_
      try simp only [Act.put, List.getElem_toArray, List.getElem_cons_zero, List.setIfInBounds_toArray, List.set_cons_zero, List.set_cons_succ]
      refine wpAnyH_take (i := 1) (v := ?_) rfl (by kernel_rfl) (by kernel_rfl) (by kernel_rfl) (fun _ _ _ h => h) (Or.inl ⟨by rfl, ?_⟩) (by assumption) ?_
      rotate_left
      · (intro w hSw; go_simp; try (with_reducible rfl))
      try simp only [Act.put, List.getElem_toArray, List.getElem_cons_zero, List.getElem_cons_succ, List.setIfInBounds_toArray, List.set_cons_zero, List.set_cons_succ]
      refine wpAnyH_take (i := 2) rfl (by kernel_rfl) (by kernel_rfl) (by kernel_rfl) (fun _ _ _ h => h) (yields_addr Ma2 (by rfl) _ rfl rfl) (by assumption) ?_
      try simp only [Act.put, List.getElem_toArray, List.getElem_cons_zero, List.getElem_cons_succ, List.setIfInBounds_toArray, List.set_cons_zero, List.set_cons_succ]
      refine wpAnyH_take (i := 3) (v := ?_) rfl (by kernel_rfl) (by kernel_rfl) (by kernel_rfl) (fun _ _ _ h => h) (Or.inl ⟨by rfl, ?_⟩) (by assumption) ?_
      rotate_left
      · (intro w hSw; go_simp; try (with_reducible rfl))
      try simp only [Act.put, List.getElem_toArray, List.getElem_cons_zero, List.getElem_cons_succ, List.setIfInBounds_toArray, List.set_cons_zero, List.set_cons_succ]
      refine wpAnyH_take (i := 4) (v := ?_) rfl (by kernel_rfl) (by kernel_rfl) (by kernel_rfl) (fun _ _ _ h => h) (Or.inl ⟨by rfl, ?_⟩) (by assumption) ?_
      rotate_left
      · (intro w hSw; have hc0 := Cn.out w hSw; go_simp; try (with_reducible rfl))
      try simp only [Act.put, List.getElem_toArray, List.getElem_cons_zero, List.getElem_cons_succ, List.setIfInBounds_toArray, List.set_cons_zero, List.set_cons_succ]
      refine wpAnyH_ready (rs := [5]) (by kernel_rfl) (by simp) ?_
      refine AllReadyH.cons rfl (fun K hK => ?_) AllReadyH.nil
      go_simp
      refine (Calls.heldR (C5 _ (by assumption)).out (by assumption)).mono ?_
      rintro e wr5 ⟨rfl, hS5⟩
      go_wp2_with fail
      refine hK.out _ _ hS5 (fun hHeld => ?_)
      clear hK K
      try simp only [Act.put, List.getElem_toArray, List.getElem_cons_zero, List.getElem_cons_succ, List.setIfInBounds_toArray, List.set_cons_zero, List.set_cons_succ]
      refine wpAnyH_ready (rs := [6]) (by kernel_rfl) (by simp) ?_
      refine AllReadyH.cons rfl (fun K hK => ?_) AllReadyH.nil
      go_simp
      refine (Calls.heldR (C6 _ (by assumption)).out (by assumption)).mono ?_
      rintro e wr6 ⟨rfl, hS6⟩
      go_wp2_with fail
      refine hK.out _ _ hS6 (fun hHeld => ?_)
      clear hK K
      try simp only [Act.put, List.getElem_toArray, List.getElem_cons_zero, List.getElem_cons_succ, List.setIfInBounds_toArray, List.set_cons_zero, List.set_cons_succ]
      refine wpAnyH_take (i := 7) (v := ?_) rfl (by kernel_rfl) (by kernel_rfl) (by kernel_rfl) (fun _ _ _ h => h) (Or.inl ⟨by rfl, ?_⟩) (by assumption) ?_
      rotate_left
      · (intro w hSw; go_simp; try (with_reducible rfl))
      try simp only [Act.put, List.getElem_toArray, List.getElem_cons_zero, List.getElem_cons_succ, List.setIfInBounds_toArray, List.set_cons_zero, List.set_cons_succ]
      refine wpAnyH_take (i := 8) rfl (by kernel_rfl) (by kernel_rfl) (by kernel_rfl) (fun _ _ _ h => h) (yields_pref Mp3 (by rfl) _ rfl rfl) (by assumption) ?_
      try simp only [Act.put, List.getElem_toArray, List.getElem_cons_zero, List.getElem_cons_succ, List.setIfInBounds_toArray, List.set_cons_zero, List.set_cons_succ]
      refine wpAnyH_take (i := 9) (v := ?_) rfl (by kernel_rfl) (by kernel_rfl) (by kernel_rfl) (fun _ _ _ h => h) (Or.inl ⟨by rfl, ?_⟩) (by assumption) ?_
      rotate_left
      · (intro w hSw; go_simp; try (with_reducible rfl))
      try simp only [Act.put, List.getElem_toArray, List.getElem_cons_zero, List.getElem_cons_succ, List.setIfInBounds_toArray, List.set_cons_zero, List.set_cons_succ]
      refine wpAnyH_take (i := 10) rfl (by kernel_rfl) (by kernel_rfl) (by kernel_rfl) (fun _ _ _ h => h) (yields_addr Ma2 (by rfl) _ rfl rfl) (by assumption) ?_
      try simp only [Act.put, List.getElem_toArray, List.getElem_cons_zero, List.getElem_cons_succ, List.setIfInBounds_toArray, List.set_cons_zero, List.set_cons_succ]
      refine wpAnyH_take (i := 11) (v := ?_) rfl (by kernel_rfl) (by kernel_rfl) (by kernel_rfl) (fun _ _ _ h => h) (Or.inl ⟨by rfl, ?_⟩) (by assumption) ?_
      rotate_left
      · (intro w hSw; go_simp; try (with_reducible rfl))
      try simp only [Act.put, List.getElem_toArray, List.getElem_cons_zero, List.getElem_cons_succ, List.setIfInBounds_toArray, List.set_cons_zero, List.set_cons_succ]
      refine wpAnyH_take (i := 12) (v := ?_) rfl (by kernel_rfl) (by kernel_rfl) (by kernel_rfl) (fun _ _ _ h => h) (Or.inl ⟨by rfl, ?_⟩) (by assumption) ?_
      rotate_left
      · (intro w hSw; have hc0 := Cn.out w hSw; go_simp; try (with_reducible rfl))
      try simp only [Act.put, List.getElem_toArray, List.getElem_cons_zero, List.getElem_cons_succ, List.setIfInBounds_toArray, List.set_cons_zero, List.set_cons_succ]
      refine wpAnyH_ready (rs := [13]) (by kernel_rfl) (by simp) ?_
      refine AllReadyH.cons rfl (fun K hK => ?_) AllReadyH.nil
      go_simp
      refine (Calls.heldR (C13 _ (by assumption)).out (by assumption)).mono ?_
      rintro e wr13 ⟨rfl, hS13⟩
      go_wp2_with fail
      refine hK.out _ _ hS13 (fun hHeld => ?_)
      clear hK K
      try simp only [Act.put, List.getElem_toArray, List.getElem_cons_zero, List.getElem_cons_succ, List.setIfInBounds_toArray, List.set_cons_zero, List.set_cons_succ]
      refine wpAnyH_ready (rs := [14]) (by kernel_rfl) (by simp) ?_
      refine AllReadyH.cons rfl (fun K hK => ?_) AllReadyH.nil
      go_simp
      refine (Calls.heldR (C14 _ (by assumption)).out (by assumption)).mono ?_
      rintro e wr14 ⟨rfl, hS14⟩
      go_wp2_with fail
      refine hK.out _ _ hS14 (fun hHeld => ?_)
      clear hK K
      try simp only [Act.put, List.getElem_toArray, List.getElem_cons_zero, List.getElem_cons_succ, List.setIfInBounds_toArray, List.set_cons_zero, List.set_cons_succ]
      refine wpAnyH_take (i := 15) (v := ?_) rfl (by kernel_rfl) (by kernel_rfl) (by kernel_rfl) (fun _ _ _ h => h) (Or.inl ⟨by rfl, ?_⟩) (by assumption) ?_
      rotate_left
      · (intro w hSw; go_simp; try (with_reducible rfl))
      try simp only [Act.put, List.getElem_toArray, List.getElem_cons_zero, List.getElem_cons_succ, List.setIfInBounds_toArray, List.set_cons_zero, List.set_cons_succ]
      refine wpAnyH_take (i := 16) (v := ?_) rfl (by kernel_rfl) (by kernel_rfl) (by kernel_rfl) (fun _ _ _ h => h) (Or.inl ⟨by rfl, ?_⟩) (by assumption) ?_
      rotate_left
      · (intro w hSw; go_simp; try (with_reducible rfl))
      try simp only [Act.put, List.getElem_toArray, List.getElem_cons_zero, List.getElem_cons_succ, List.setIfInBounds_toArray, List.set_cons_zero, List.set_cons_succ]
      refine wpAnyH_done (by kernel_rfl) ?_ _
      refine NoPanic.normal ?_
      go_wp2_with fail
      go_meet
      case rel => exact ⟨by rw [HX.out], Lib.hid hHeld⟩
    | false =>
      have HX : Hid (x = false) := Lib.hid (by rw [HBO.out, Bool.false_and])
      refine wp_region_noPanic ?_
      refine wp_region_held_drew (S := HeldR L w) (by kernel_rfl) HK.out.drew (fun hHeld => ?_)
      refine wpAnyH_take (i := 0) rfl (by kernel_rfl) (by kernel_rfl) (by kernel_rfl) (fun _ _ _ h => h) (yields_pref Mp3 (by rfl) _ rfl rfl) (by assumption) ?_
      try simp only [Act.put, List.getElem_toArray, List.getElem_cons_zero, List.setIfInBounds_toArray, List.set_cons_zero, List.set_cons_succ]
      refine wpAnyH_take (i := 1) (v := ?_) rfl (by kernel_rfl) (by kernel_rfl) (by kernel_rfl) (fun _ _ _ h => h) (Or.inl ⟨by rfl, ?_⟩) (by assumption) ?_
      rotate_left
      · (intro w hSw; go_simp; try (with_reducible rfl))
      try simp only [Act.put, List.getElem_toArray, List.getElem_cons_zero, List.getElem_cons_succ, List.setIfInBounds_toArray, List.set_cons_zero, List.set_cons_succ]
      refine wpAnyH_take (i := 2) rfl (by kernel_rfl) (by kernel_rfl) (by kernel_rfl) (fun _ _ _ h => h) (yields_addr Ma2 (by rfl) _ rfl rfl) (by assumption) ?_
      try simp only [Act.put, List.getElem_toArray, List.getElem_cons_zero, List.getElem_cons_succ, List.setIfInBounds_toArray, List.set_cons_zero, List.set_cons_succ]
      refine wpAnyH_take (i := 3) (v := ?_) rfl (by kernel_rfl) (by kernel_rfl) (by kernel_rfl) (fun _ _ _ h => h) (Or.inl ⟨by rfl, ?_⟩) (by assumption) ?_
      rotate_left
      · (intro w hSw; go_simp; try (with_reducible rfl))
      try simp only [Act.put, List.getElem_toArray, List.getElem_cons_zero, List.getElem_cons_succ, List.setIfInBounds_toArray, List.set_cons_zero, List.set_cons_succ]
      refine wpAnyH_take (i := 4) (v := ?_) rfl (by kernel_rfl) (by kernel_rfl) (by kernel_rfl) (fun _ _ _ h => h) (Or.inl ⟨by rfl, ?_⟩) (by assumption) ?_
      rotate_left
      · (intro w hSw; have hc0 := Cn.out w hSw; go_simp; try (with_reducible rfl))
      try simp only [Act.put, List.getElem_toArray, List.getElem_cons_zero, List.getElem_cons_succ, List.setIfInBounds_toArray, List.set_cons_zero, List.set_cons_succ]
      refine wpAnyH_ready (rs := [5]) (by kernel_rfl) (by simp) ?_
      refine AllReadyH.cons rfl (fun K hK => ?_) AllReadyH.nil
      go_simp
      refine (Calls.heldR (C5 _ (by assumption)).out (by assumption)).mono ?_
      rintro e wr5 ⟨rfl, hS5⟩
      go_wp2_with fail
      refine hK.out _ _ hS5 (fun hHeld => ?_)
      clear hK K
      try simp only [Act.put, List.getElem_toArray, List.getElem_cons_zero, List.getElem_cons_succ, List.setIfInBounds_toArray, List.set_cons_zero, List.set_cons_succ]
      refine wpAnyH_ready (rs := [6]) (by kernel_rfl) (by simp) ?_
      refine AllReadyH.cons rfl (fun K hK => ?_) AllReadyH.nil
      go_simp
      refine (Calls.heldR (C6 _ (by assumption)).out (by assumption)).mono ?_
      rintro e wr6 ⟨rfl, hS6⟩
      go_wp2_with fail
      refine hK.out _ _ hS6 (fun hHeld => ?_)
      clear hK K
      try simp only [Act.put, List.getElem_toArray, List.getElem_cons_zero, List.getElem_cons_succ, List.setIfInBounds_toArray, List.set_cons_zero, List.set_cons_succ]
      refine wpAnyH_take (i := 7) (v := ?_) rfl (by kernel_rfl) (by kernel_rfl) (by kernel_rfl) (fun _ _ _ h => h) (Or.inl ⟨by rfl, ?_⟩) (by assumption) ?_
      rotate_left
      · (intro w hSw; go_simp; try (with_reducible rfl))
      try simp only [Act.put, List.getElem_toArray, List.getElem_cons_zero, List.getElem_cons_succ, List.setIfInBounds_toArray, List.set_cons_zero, List.set_cons_succ]
      refine wpAnyH_take (i := 8) (v := undef) rfl (by kernel_rfl) (by kernel_rfl) (by kernel_rfl) (fun _ _ _ h => h) (Or.inr ⟨by rfl, rfl⟩) (by assumption) ?_
      try simp only [Act.put, List.getElem_toArray, List.getElem_cons_zero, List.getElem_cons_succ, List.setIfInBounds_toArray, List.set_cons_zero, List.set_cons_succ]
      refine wpAnyH_take (i := 9) (v := undef) rfl (by kernel_rfl) (by kernel_rfl) (by kernel_rfl) (fun _ _ _ h => h) (Or.inr ⟨by rfl, rfl⟩) (by assumption) ?_
      try simp only [Act.put, List.getElem_toArray, List.getElem_cons_zero, List.getElem_cons_succ, List.setIfInBounds_toArray, List.set_cons_zero, List.set_cons_succ]
      refine wpAnyH_take (i := 10) (v := undef) rfl (by kernel_rfl) (by kernel_rfl) (by kernel_rfl) (fun _ _ _ h => h) (Or.inr ⟨by rfl, rfl⟩) (by assumption) ?_
      try simp only [Act.put, List.getElem_toArray, List.getElem_cons_zero, List.getElem_cons_succ, List.setIfInBounds_toArray, List.set_cons_zero, List.set_cons_succ]
      refine wpAnyH_take (i := 11) (v := undef) rfl (by kernel_rfl) (by kernel_rfl) (by kernel_rfl) (fun _ _ _ h => h) (Or.inr ⟨by rfl, rfl⟩) (by assumption) ?_
      try simp only [Act.put, List.getElem_toArray, List.getElem_cons_zero, List.getElem_cons_succ, List.setIfInBounds_toArray, List.set_cons_zero, List.set_cons_succ]
      refine wpAnyH_take (i := 12) (v := undef) rfl (by kernel_rfl) (by kernel_rfl) (by kernel_rfl) (fun _ _ _ h => h) (Or.inr ⟨by rfl, rfl⟩) (by assumption) ?_
      try simp only [Act.put, List.getElem_toArray, List.getElem_cons_zero, List.getElem_cons_succ, List.setIfInBounds_toArray, List.set_cons_zero, List.set_cons_succ]
      refine wpAnyH_take (i := 13) (v := undef) rfl (by kernel_rfl) (by kernel_rfl) (by kernel_rfl) (fun _ _ _ h => h) (Or.inr ⟨by rfl, rfl⟩) (by assumption) ?_
      try simp only [Act.put, List.getElem_toArray, List.getElem_cons_zero, List.getElem_cons_succ, List.setIfInBounds_toArray, List.set_cons_zero, List.set_cons_succ]
      refine wpAnyH_take (i := 14) (v := undef) rfl (by kernel_rfl) (by kernel_rfl) (by kernel_rfl) (fun _ _ _ h => h) (Or.inr ⟨by rfl, rfl⟩) (by assumption) ?_
      try simp only [Act.put, List.getElem_toArray, List.getElem_cons_zero, List.getElem_cons_succ, List.setIfInBounds_toArray, List.set_cons_zero, List.set_cons_succ]
      refine wpAnyH_take (i := 15) (v := ?_) rfl (by kernel_rfl) (by kernel_rfl) (by kernel_rfl) (fun _ _ _ h => h) (Or.inl ⟨by rfl, ?_⟩) (by assumption) ?_
      rotate_left
      · (intro w hSw; go_simp; try (with_reducible rfl))
      try simp only [Act.put, List.getElem_toArray, List.getElem_cons_zero, List.getElem_cons_succ, List.setIfInBounds_toArray, List.set_cons_zero, List.set_cons_succ]
      refine wpAnyH_take (i := 16) (v := ?_) rfl (by kernel_rfl) (by kernel_rfl) (by kernel_rfl) (fun _ _ _ h => h) (Or.inl ⟨by rfl, ?_⟩) (by assumption) ?_
      rotate_left
      · (intro w hSw; go_simp; try (with_reducible rfl))
      try simp only [Act.put, List.getElem_toArray, List.getElem_cons_zero, List.getElem_cons_succ, List.setIfInBounds_toArray, List.set_cons_zero, List.set_cons_succ]
      refine wpAnyH_done (by kernel_rfl) ?_ _
      refine NoPanic.normal ?_
      go_wp2_with fail
      go_meet
      case rel => exact ⟨by rw [HX.out], Lib.hid hHeld⟩
  case rest =>
    obtain ⟨rfl, HS⟩ := hcut
    clear HK HW0 HW1 HH0 HH1 HBO b0 b1 Cn Ma2
    have s1 : (x == x) = true := by simp
    have gd := guard_pref
    have q1 := fun W => run_eq_pref F G P Q (n : Int) (m : Int) W HLP.out HLQ.out
    go_wp2_with (first | refine load_pref_h HS Mp2 _ rfl rfl rfl ?_ | refine load_pref_h HS Mp3 _ rfl rfl rfl ?_)
    refine (HPQ _).out.mono ?_
    rintro e w5 ⟨rfl, hb5⟩
    replace HS := Lib.hid (HS.out.next hb5)
    clear hb5
    go_wp2_with (first | refine load_pref_h HS Mp2 _ rfl rfl rfl ?_ | refine load_pref_h HS Mp3 _ rfl rfl rfl ?_)
    refine (HPP _).out.mono ?_
    rintro e w6 ⟨rfl, hb6⟩
    replace HS := Lib.hid (HS.out.next hb6)
    clear hb6 HPP
    go_wp2_with (first | refine load_pref_h HS Mp2 _ rfl rfl rfl ?_ | refine load_pref_h HS Mp3 _ rfl rfl rfl ?_)
    refine (HPQ _).out.mono ?_
    rintro e w7 ⟨rfl, hb7⟩
    replace HS := Lib.hid (HS.out.next hb7)
    clear hb7 HPQ
    cases x with
    | false =>
      go_wp2_with (first | refine load_pref_h HS Mp2 _ rfl rfl rfl ?_ | refine load_pref_h HS Mp3 _ rfl rfl rfl ?_)
      refine (lives5_any _ (HT.out.below HS.out.bel)).mono ?_
      rintro e w8 ⟨rfl, hb8⟩
      go_wp2_with fail
      go_ret
      exact ⟨rfl, chain HS.out.bel hb8⟩
    | true =>
      go_wp2_with (first | refine load_pref_h HS Mp2 _ rfl rfl rfl ?_ | refine load_pref_h HS Mp3 _ rfl rfl rfl ?_)
      refine (HQP _).out.mono ?_
      rintro e w8 ⟨rfl, hb8⟩
      replace HS := Lib.hid (HS.out.next hb8)
      clear hb8 HQP
      cases y with
      | false =>
        go_wp2_with (first | refine load_pref_h HS Mp2 _ rfl rfl rfl ?_ | refine load_pref_h HS Mp3 _ rfl rfl rfl ?_)
        refine (lives5_any _ (HT.out.below HS.out.bel)).mono ?_
        rintro e w9 ⟨rfl, hb9⟩
        go_wp2_with fail
        go_ret
        exact ⟨rfl, chain HS.out.bel hb9⟩
      | true =>
        have hh := HAN.out (by trivial) (by trivial)
        rw [show decide (F = G ∧ P = Q ∧ (n : Int) = (m : Int)) = true from decide_eq_true ⟨hh.1, hh.2.1, by rw [hh.2.2]⟩] at q1
        clear hh
        go_wp2_with (first | refine load_pref_h HS Mp2 _ rfl rfl rfl ?_ | refine load_pref_h HS Mp3 _ rfl rfl rfl ?_)
        refine (lives5_any _ (HT.out.below HS.out.bel)).mono ?_
        rintro e w9 ⟨rfl, hb9⟩
        go_wp2_with fail
        go_ret
        exact ⟨rfl, chain HS.out.bel hb9⟩

theorem door_met (os : Os) (args : Array Value) : laidMetH Tryd.prog Rows.cidrWithinRow.laid ((World.doorLaid Tryd.prog 400 os).forCall (fun _ _ => 0) ⟨#[], args, []⟩).memory :=
  laidMetH_of_parts3 (fuel := 8) (laidMet_of_run' 8 (by kernel_rfl) (by kernel_rfl)) (by kernel_rfl) (by kernel_rfl)

set_option maxRecDepth 100000 in
theorem lifted (os : Os) (started : os.Started) (H : Type) (enc : TypeId × Value → H) :
    ReturnsInHanded {} Tryd.checked os 6 .any (fun w args => (Rows.cidrWithinSpec.pre enc Tryd.prog Tryd.f6 [] false w args ∧ laidMetH Tryd.prog Rows.cidrWithinRow.laid w) ∧ sizedMet enc Tryd.prog Tryd.f6 (OpenSpec.ofChange Rows.cidrWithinSpec) false w args)
      (Rows.cidrWithinSpec.post enc Tryd.prog Tryd.f6 false true false false) := by
  refine handed_shaped (C := Tryd.checked) (X := fun w _ => laidMetH Tryd.prog Rows.cidrWithinRow.laid w) (fun _ _ _ hh h => h.of_heap hh) own started (by kernel_rfl) Tryd.func6
    (ChangeSpec.witness_shaped (enc := enc) (C := Tryd.checked) (os := os) (X := fun w _ => laidMetH Tryd.prog Rows.cidrWithinRow.laid w) false (World.doorLaid Tryd.prog 400 os) #[.agg #[.int .i64 0, .int .u8 0, .int .u8 0, .int .u8 0, .int .u8 0, .int .u8 0, .int .u8 0, .int .u8 0, .int .u8 0, .int .u8 0, .int .u8 0, .int .u8 0, .int .u8 0, .int .u8 0, .int .u8 0, .int .u8 0, .int .u8 0, .int .i64 0], .agg #[.int .i64 0, .int .u8 0, .int .u8 0, .int .u8 0, .int .u8 0, .int .u8 0, .int .u8 0, .int .u8 0, .int .u8 0, .int .u8 0, .int .u8 0, .int .u8 0, .int .u8 0, .int .u8 0, .int .u8 0, .int .u8 0, .int .u8 0, .int .i64 0]] 8 rfl (World.shaped_of_RefB (by kernel_rfl) (by kernel_rfl)) (by kernel_rfl) (by kernel_rfl) (by kernel_rfl) (door_met os _)) ?_
  intro W base args ds gs before hval0 hW hL hsh
  have hval : ∀ (j : Nat) t v, Tryd.f6.params[j]? = some t → args[j]? = some v → Value.okWide Tryd.prog W .any base t v := hval0
  have hW' := hW
  obtain ⟨p, q, hA0, hV, rfl, hfz, hnd⟩ := hW
  have hA : DataW.TrodAll enc Tryd.prog W 0 (fun _ => true) true Tryd.f6.params.toList args.toList ds p := hA0
  rw [Tryd.params6] at hA hval
  obtain ⟨v0, vs0, d0, ds0, p0, q0, hargs, rfl, rfl, h0, r0⟩ := trodAll_cons hA
  obtain ⟨v1, vs1, d1, ds1, p1, q1, rfl, rfl, rfl, h1, r1⟩ := trodAll_cons r0
  obtain ⟨rfl, rfl, rfl⟩ := trodAll_nil r1
  obtain rfl : args = #[v0, v1] := by cases args; simp_all
  obtain ⟨rfl, rfl⟩ := trodVars_none hV
  have k0 := h0
  have lt0 : ∀ x ∈ p0, x.block < W.heap.size := by obtain ⟨m, hm⟩ := k0; exact DataW.trod_lt m _ _ _ hm
  obtain ⟨f0, z0, n0, rfl, fw0, l0, w0, nw0⟩ := open_pref (hval 0 26 v0 rfl rfl) h0
  have k1 := h1
  have lt1 : ∀ x ∈ p1, x.block < W.heap.size := by obtain ⟨m, hm⟩ := k1; exact DataW.trod_lt m _ _ _ hm
  obtain ⟨f1, z1, n1, rfl, fw1, l1, w1, nw1⟩ := open_pref (hval 1 26 v1 rfl rfl) h1
  clear hA0 hval0
  refine (walk f0 z0 n0 f1 z1 n1 fw0 l0 w0 nw0 fw1 l1 w1 nw1 W (tabs_of Rows.cidrWithinRow.laid rfl hL hsh)).mono fun e W' ⟨he, bel⟩ => ?_
  subst he
  exact ⟨_, rfl, _, _, _, [], _, [], hW', trodAll_mk1 (shut_bool Tryd.underlying4 _), (trodAll_cons_mk (Below.trod laidOut (by kernel_rfl) (of_decide_eq_true (by kernel_rfl)) k0 bel lt0) (trodAll_cons_mk (Below.trod laidOut (by kernel_rfl) (of_decide_eq_true (by kernel_rfl)) k1 bel lt1) trodAll_mk0)), rfl, bel.frame _, fun h => by cases h⟩

theorem over : Rows.CidrWithinSaid :=
  OpenClaim.holds_of_wide 6 Tryd.f6 rfl rfl rfl rfl rfl rfl rfl ⟨rfl, rfl, rfl, rfl, rfl⟩ rfl rfl rfl rfl rfl (by kernel_rfl) Tryd.func6 (by kernel_rfl)
    (of_decide_eq_true (by kernel_rfl)) (by unfold Func.isWrapper; first | (rw [if_pos (by decide +kernel)]; kernel_rfl) | (rw [if_neg (by decide +kernel)]; exact ⟨rfl, rfl⟩))
    (fun os started H enc _ => lifted os started H enc)


theorem proved : Rows.CidrWithinCardSaid :=
  Claim7.holds_tied_plain_at .later [] [.data, .data, .data] true _ false
    over (fun _ h => by cases h) (by kernel_rfl) (fun _ h => by cases h) cidrWithin_row_tie rfl ⟨rfl, rfl⟩ (by kernel_rfl) rfl
    (fun f fn hf hfn => by
      obtain rfl : f = 6 := Option.some.inj ((show Tryd.prog.funcNamed "abatis/abatislaw05.CidrWithin" = some 6 by kernel_rfl).symm.trans hf) |>.symm
      obtain rfl : fn = Tryd.f6 := (Option.some.inj (Tryd.func6.symm.trans hfn)).symm
      exact ⟨by kernel_rfl, fun j t ht => by
        rw [Tryd.params6] at ht
        have hm : t ∈ [26, 26] := by simpa using Array.mem_of_getElem? ht
        have hall : ([26, 26].all fun u => !Tryd.prog.wantsStandIn u) = true := by kernel_rfl
        exact (show Tryd.prog.wantsStandIn t = false by simpa using List.all_eq_true.1 hall t hm)⟩)
    (by kernel_rfl)
#print axioms proved
end Go.Proofs.YtpgjkeakhjnckaaDoor.cidrWithin
