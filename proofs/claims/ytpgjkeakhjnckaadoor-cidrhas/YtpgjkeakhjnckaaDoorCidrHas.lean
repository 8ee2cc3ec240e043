/- Which addresses a prefix has, as the landed cidr.Has tells, is the document's; they are those from First to Last; for every prefix and every address. A tied card: three tables of the library hold what the program lays in them. -/
import Derived.Test.YtpgjkeakhjnckaaDoorB8
import Derived.Test.YtpgjkeakhjnckaaDoorTie
import Derived.Test.YtpgjkeakhjnckaaDoorCards
import Derived.ProofKit
import Derived.OpenShut
import Derived.ShutString
import Derived.ChangeOld
import Derived.Below
namespace Go.Proofs.YtpgjkeakhjnckaaDoor.cidrHas
open Go.ChangeShapes Go.WideShapes Go.ChangeAt Go.RowKit
open Go.ChangeMaps (open_string shut_string)
set_option linter.unusedVariables false
set_option maxRecDepth 20000

theorem own : ownKnob Tryd.prog.godebug = none := by kernel_rfl

set_option maxRecDepth 100000 in
set_option maxHeartbeats 4000000 in
theorem walk (f0 : Int) (z0 : List Nat) (n0 : Int) (f1 : Int) (z1 : List Nat) (fw0 : (Lit.int .i64 f0).wf = true) (l0 : z0.length = 16) (w0 : ∀ x ∈ z0, x < 256) (nw0 : (Lit.int .i64 n0).wf = true) (fw1 : (Lit.int .i64 f1).wf = true) (l1 : z1.length = 16) (w1 : ∀ x ∈ z1, x < 256) (w : World) (htab : Tabs w) :
    Calls Tryd.prog 5 #[prefV f0 z0 n0, addrV f1 z1] w fun e w' => e = .returned (.bool true) ∧ Below w.heap.size w w' := by
  have HT := Lib.hid htab
  have hp := goodP_is f0 z0 n0
  have hu := good_is f1 z1 l1 w1
  have HG0 := fun W => Lib.hid (refGoodP_any f0 z0 n0 W l0 w0 nw0)
  have HG1 := fun W => Lib.hid (refGood_any f1 z1 W l1 w1)
  generalize goodF f0 = F at *
  generalize goodP f0 z0 n0 = P at *
  generalize goodN f0 n0 = n at *
  generalize goodF f1 = G at *
  generalize goodB f1 z1 = U at *
  have hN := bitsN_le F
  have hn := hp.le
  have HLP := Lib.hid hp.len
  have HLU := Lib.hid hu.len
  have HLX : Hid ((withL (bitsN F) P n 1).length = 16) := Lib.hid (withL_len _ _ _ _)
  have HFI := fun W => Lib.hid (cidrFirst_any F P (n : Int) W hp.len)
  have HLA := fun W => Lib.hid (cidrLast_any F P n W hp.len hp.lt)
  rw [hp.last] at HLA
  have HHA := fun W => Lib.hid (cidrHas_any F P (n : Int) G U W hp.len hu.len hu.lt (wf_small (by omega)))
  have HHB := fun W => Lib.hid (refHas_any F P n G U W hp.len hu.len hp.lt hu.lt (by omega))
  rw [← has_same hp hu.len] at HHB
  have HC1 := fun W => Lib.hid (refCompare_any F P G U W hp.len hu.len)
  have HC2 := fun W => Lib.hid (refCompare_any G U F (withL (bitsN F) P n 1) W hu.len (withL_len _ _ _ _))
  have HW0 := fun W => Lib.hid (refWith_any F P n 0 W hp.len hp.lt (by omega) (by decide))
  rw [hp.first] at HW0
  have HW1 := fun W => Lib.hid (refWith_any F P n 1 W hp.len hp.lt (by omega) (by decide))
  have HH1 := fun W => Lib.hid (cidrHas_any F P (n : Int) F P W hp.len hp.len hp.lt (wf_small (by omega)))
  rw [hp.has_first] at HH1
  have HH2 := fun W => Lib.hid (cidrHas_any F P (n : Int) F (withL (bitsN F) P n 1) W hp.len (withL_len _ _ _ _) (withL_lt _ _ _ _ (by decide)) (wf_small (by omega)))
  rw [hp.has_last] at HH2
  have HBW : Hid (G = F → (hasR F P (n : Int) G U = true ↔ (cmpA F P G U ≤ 0 ∧ cmpA G U F (withL (bitsN F) P n 1) ≤ 0))) := Lib.hid (fun e => by
    subst e
    rw [hasR_iff hp hu.len, show cmpA G P G U = cmpL P U from if_pos rfl, show cmpA G U G (withL (bitsN G) P n 1) = cmpL U (withL (bitsN G) P n 1) from if_pos rfl, hp.between hu]
    exact ⟨fun h => h.2, fun h => ⟨rfl, h⟩⟩)
  have HNF : Hid (G ≠ F → hasR F P (n : Int) G U = false) := Lib.hid (fun h => decide_eq_false (fun e => h e.1.symm))
  generalize cmpA F P G U = c1 at *
  generalize cmpA G U F (withL (bitsN F) P n 1) = c2 at *
  generalize hasR F P (n : Int) G U = b at *
  generalize withL (bitsN F) P n 1 = X1 at *
  obtain ⟨cs, ds, ecs, eds, H1, H2, HB⟩ := pref_addr_boxed f0 z0 n0 f1 z1 w l0 l1
  rw [ecs, eds]
  clear ecs eds l0 w0 l1 w1 hp hu htab nw0 fw0 fw1
  go_enter Tryd.func5, Tryd.ntmps5
  go_upto_region 1 with fail
  generalize ((w.alloc (.cells cs 26)).alloc (.cells ds 24)) = W at *
  go_wp2_with (refine load_pref_g H1 _ rfl rfl rfl ?_)
  refine (HG0 _).out.mono ?_
  rintro e w1 ⟨rfl, hb1⟩
  replace H1 := Lib.hid (H1.out.below hb1)
  replace H2 := Lib.hid (H2.out.below hb1)
  replace HB := Lib.hid (chain HB.out hb1)
  clear hb1 HG0
  go_upto_region 2 with (refine store_pref H1 _ _ HLP rfl rfl rfl rfl (fun W1 HWW1 H1n => ?_))
  replace H2 := Lib.hid (show AddrAt W1 (w.heap.size + 1) f1 z1 by rw [HWW1.out]; exact H2.out.apart (by omega) _)
  replace HB := Lib.hid (show Below w.heap.size w W1 by rw [HWW1.out]; exact below_cells (by omega) _ _ _ HB.out)
  clear HWW1 H1
  go_wp2_with (refine load_addr_g H2 _ rfl rfl rfl ?_)
  refine (HG1 _).out.mono ?_
  rintro e w2 ⟨rfl, hb2⟩
  replace H1n := Lib.hid (H1n.out.below hb2)
  replace H2 := Lib.hid (H2.out.below hb2)
  replace HB := Lib.hid (chain HB.out hb2)
  clear hb2 HG1
  go_upto_region 3 with (refine store_addr H2 _ _ HLU rfl rfl rfl rfl (fun W2 HWW2 H2n => ?_))
  replace H1n := Lib.hid (show PrefAt W2 w.heap.size F P (n : Int) by rw [HWW2.out]; exact H1n.out.apart (by omega) _)
  replace HB := Lib.hid (show Below w.heap.size w W2 by rw [HWW2.out]; exact below_cells (by omega) _ _ _ HB.out)
  clear HWW2 H2
  have HS := Lib.hid (((HeldR.nil HB.out).addr H2n.out).pref H1n.out)
  clear HB H2n
  go_wp2_with (refine load_pref_g H1n _ rfl rfl rfl ?_)
  refine (HFI _).out.mono ?_
  rintro e w3 ⟨rfl, hb3⟩
  replace HS := Lib.hid (HS.out.next hb3)
  replace H1n := Lib.hid (H1n.out.below hb3)
  have HZ3 := Lib.hid (addr_zeroed w3)
  clear hb3 HFI
  go_upto_region 4 with (refine store_addr HZ3 _ _ HLP rfl rfl rfl rfl (fun W3 HWW3 HQ3 => ?_))
  replace HS := Lib.hid ((HS.out.next (below_newA HWW3)).addr HQ3.out)
  replace H1n := Lib.hid (H1n.out.below (below_newA HWW3))
  generalize w3.heap.size = G3 at *
  clear HZ3 HWW3 HQ3
  go_wp2_with (refine load_pref_g H1n _ rfl rfl rfl ?_)
  refine (HLA _).out.mono ?_
  rintro e w4 ⟨rfl, hb4⟩
  replace HS := Lib.hid (HS.out.next hb4)
  have HZ4 := Lib.hid (addr_zeroed w4)
  clear hb4 HLA H1n
  go_upto_region 5 with (refine store_addr HZ4 _ _ HLX rfl rfl rfl rfl (fun W4 HWW4 HQ4 => ?_))
  replace HS := Lib.hid ((HS.out.next (below_newA HWW4)).addr HQ4.out)
  generalize w4.heap.size = G4 at *
  clear HZ4 HWW4 HQ4
  obtain ⟨L, hL⟩ : ∃ L, [(G4, 0, addrL F X1), (G3, 0, addrL F P), (w.heap.size, 0, prefL F P (n : Int)), (w.heap.size, 0, addrL F P), (w.heap.size + 1, 0, addrL G U)] = L := ⟨_, rfl⟩
  rw [hL] at HS
  have Mp2 := Lib.hid (show InP L w.heap.size F P (n : Int) from ⟨by rw [← hL]; simp, HLP.out⟩)
  have Ma2 := Lib.hid (show InA L w.heap.size F P from ⟨by rw [← hL]; simp, HLP.out⟩)
  have Mt3 := Lib.hid (show InA L (w.heap.size + 1) G U from ⟨by rw [← hL]; simp, HLU.out⟩)
  have Mt5 := Lib.hid (show InA L G3 F P from ⟨by rw [← hL]; simp, HLP.out⟩)
  have Mt6 := Lib.hid (show InA L G4 F X1 from ⟨by rw [← hL]; simp, HLX.out⟩)
  have Cn := Lib.hid (bitsR Mp2.out w)
  have Cf := Lib.hid (famR Ma2.out w)
  have Cg := Lib.hid (famR Mt3.out w)
  clear hL
  go_wp2_with (first | refine load_pref_h HS Mp2 _ rfl rfl rfl ?_ | refine load_addr_h HS Mt3 _ rfl rfl rfl ?_)
  refine (HHA _).out.mono ?_
  rintro e w5 ⟨rfl, hb5⟩
  replace HS := Lib.hid (HS.out.next hb5)
  clear hb5 HHA
  go_upto_region 6 with fail
  try simp only [Act.put]
  go_cut [8] from 9 (fun s8 wx => s8 = .bool b ∧ Hid (HeldR L w wx))
  case first =>
    have fF := Cf.out _ HS.out
    have fG := Cg.out _ HS.out
    clear HHB HW0 HW1 HH1 HH2
    by_cases hfg : G = F
    · have hd : (G == F) = true := by simp [hfg]
      have HIF := Lib.hid (HBW.out hfg)
      clear HBW HNF hfg
      go_wp2_with (first | refine load_addr_h HS Mt5 _ rfl rfl rfl ?_ | refine load_addr_h HS Mt6 _ rfl rfl rfl ?_ | refine load_addr_h HS Mt3 _ rfl rfl rfl ?_)
      refine (HC1 _).out.mono ?_
      rintro e w6 ⟨rfl, hb6⟩
      replace HS := Lib.hid (HS.out.next hb6)
      clear hb6 HC1 fF fG
      by_cases h1 : c1 ≤ 0
      · have e1 : decide (c1 ≤ 0) = true := by simp [h1]
        go_wp2_with (first | refine load_addr_h HS Mt5 _ rfl rfl rfl ?_ | refine load_addr_h HS Mt6 _ rfl rfl rfl ?_ | refine load_addr_h HS Mt3 _ rfl rfl rfl ?_)
        refine (HC2 _).out.mono ?_
        rintro e w7 ⟨rfl, hb7⟩
        replace HS := Lib.hid (HS.out.next hb7)
        clear hb7 HC2
        have HQ : Hid (decide (c2 ≤ 0) = b) := Lib.hid (by
          rw [Bool.eq_iff_iff, decide_eq_true_iff, HIF.out]
          exact ⟨fun h => ⟨h1, h⟩, fun h => h.2⟩)
        go_wp2_with fail
        go_meet
        case rel => exact ⟨by rw [HQ.out], HS⟩
      · have e1 : decide (c1 ≤ 0) = false := by simp; omega
        have HQ : Hid (false = b) := Lib.hid (by
          cases b with
          | false => rfl
          | true => exact absurd (HIF.out.1 rfl).1 h1)
        go_wp2_with (first | refine load_addr_h HS Mt5 _ rfl rfl rfl ?_ | refine load_addr_h HS Mt6 _ rfl rfl rfl ?_ | refine load_addr_h HS Mt3 _ rfl rfl rfl ?_)
        go_meet
        case rel => exact ⟨by rw [HQ.out], HS⟩
    · have hd : (G == F) = false := by simp [hfg]
      have HQ := Lib.hid (HNF.out hfg)
      clear HBW HNF
      go_wp2_with fail
      go_meet
      case rel => exact ⟨by rw [HQ.out], HS⟩
  case rest =>
    obtain ⟨rfl, HS2⟩ := hcut
    clear HS HBW HNF HC1 HC2 Cf Cg
    have C3 : ∀ w', HeldR L w w' → Hid (Calls Tryd.prog 25 #[prefV F P (n : Int), addrV G U] w' fun e w'' => e = .returned (.bool b) ∧ Below w'.heap.size w' w'') := fun w' h => HHB w'
    have C16 : ∀ w', HeldR L w w' → Hid (Calls Tryd.prog 26 #[addrV F P, .int .i64 (n : Int), .int .i64 0] w' fun e w'' => e = .returned (addrV F P) ∧ Below w'.heap.size w' w'') := fun w' h => HW0 w'
    have C25 : ∀ w', HeldR L w w' → Hid (Calls Tryd.prog 26 #[addrV F P, .int .i64 (n : Int), .int .i64 1] w' fun e w'' => e = .returned (addrV F X1) ∧ Below w'.heap.size w' w'') := fun w' h => HW1 w'
    have C31 : ∀ w', HeldR L w w' → Hid (Calls Tryd.prog 23 #[prefV F P (n : Int), addrV F P] w' fun e w'' => e = .returned (.bool true) ∧ Below w'.heap.size w' w'') := fun w' h => HH1 w'
    have C36 : ∀ w', HeldR L w w' → Hid (Calls Tryd.prog 23 #[prefV F P (n : Int), addrV F X1] w' fun e w'' => e = .returned (.bool true) ∧ Below w'.heap.size w' w'') := fun w' h => HH2 w'
    have LV : ∀ w', HeldR L w w' → Hid (Calls Tryd.prog 15 #[] w' fun e w'' => e = .returned (.bool true) ∧ Below w'.heap.size w' w'') := fun w' h => Lib.hid (lives5_any w' (HT.out.below h.bel))
    clear HHB HW0 HW1 HH1 HH2
    have gd := guard_addr
    have q1 := fun W => run_same_addr F P W HLP.out
    have q2 := fun W => run_same_addr F X1 W HLX.out
    have s1 : (b == b) = true := by simp
    go_upto_region 7 with fail
    refine wp_region_noPanic ?_
    refine wp_region_held_drew (S := HeldR L w) (by kernel_rfl) HS2.out.drew (fun hHeld => ?_)
    refine wpAnyH_take (i := 0) (v := ?_) rfl (by kernel_rfl) (by kernel_rfl) (by kernel_rfl) (fun _ _ _ h => h) (Or.inl ⟨by rfl, ?_⟩) (by assumption) ?_
    rotate_left
    · (intro w hSw; go_simp; try (with_reducible rfl))
    try simp only [Act.put, List.getElem_toArray, List.getElem_cons_zero, List.setIfInBounds_toArray, List.set_cons_zero, List.set_cons_succ]
    refine wpAnyH_take (i := 1) rfl (by kernel_rfl) (by kernel_rfl) (by kernel_rfl) (fun _ _ _ h => h) (yields_pref Mp2 (by rfl) _ rfl rfl) (by assumption) ?_
    try simp only [Act.put, List.getElem_toArray, List.getElem_cons_zero, List.getElem_cons_succ, List.setIfInBounds_toArray, List.set_cons_zero, List.set_cons_succ]
    refine wpAnyH_take (i := 2) rfl (by kernel_rfl) (by kernel_rfl) (by kernel_rfl) (fun _ _ _ h => h) (yields_addr Mt3 (by rfl) _ rfl rfl) (by assumption) ?_
    try simp only [Act.put, List.getElem_toArray, List.getElem_cons_zero, List.getElem_cons_succ, List.setIfInBounds_toArray, List.set_cons_zero, List.set_cons_succ]
    refine wpAnyH_ready (rs := [3]) (by kernel_rfl) (by simp) ?_
    refine AllReadyH.cons rfl (fun K hK => ?_) AllReadyH.nil
    go_simp
    refine (Calls.heldR (C3 _ (by assumption)).out (by assumption)).mono ?_
    rintro e wr3 ⟨rfl, hS3⟩
    go_wp2_with fail
    refine hK.out _ _ hS3 (fun hHeld => ?_)
    clear hK K
    try simp only [Act.put, List.getElem_toArray, List.getElem_cons_zero, List.getElem_cons_succ, List.setIfInBounds_toArray, List.set_cons_zero, List.set_cons_succ]
    refine wpAnyH_take (i := 4) (v := ?_) rfl (by kernel_rfl) (by kernel_rfl) (by kernel_rfl) (fun _ _ _ h => h) (Or.inl ⟨by rfl, ?_⟩) (by assumption) ?_
    rotate_left
    · (intro w hSw; go_simp; try (with_reducible rfl))
    try simp only [Act.put, List.getElem_toArray, List.getElem_cons_zero, List.getElem_cons_succ, List.setIfInBounds_toArray, List.set_cons_zero, List.set_cons_succ]
    refine wpAnyH_take (i := 5) (v := ?_) rfl (by kernel_rfl) (by kernel_rfl) (by kernel_rfl) (fun _ _ _ h => h) (Or.inl ⟨by rfl, ?_⟩) (by assumption) ?_
    rotate_left
    · (intro w hSw; go_simp; try (with_reducible rfl))
    try simp only [Act.put, List.getElem_toArray, List.getElem_cons_zero, List.getElem_cons_succ, List.setIfInBounds_toArray, List.set_cons_zero, List.set_cons_succ]
    refine wpAnyH_take (i := 6) (v := ?_) rfl (by kernel_rfl) (by kernel_rfl) (by kernel_rfl) (fun _ _ _ h => h) (Or.inl ⟨by rfl, ?_⟩) (by assumption) ?_
    rotate_left
    · (intro w hSw; go_simp; try (with_reducible rfl))
    try simp only [Act.put, List.getElem_toArray, List.getElem_cons_zero, List.getElem_cons_succ, List.setIfInBounds_toArray, List.set_cons_zero, List.set_cons_succ]
    refine wpAnyH_take (i := 7) (v := ?_) rfl (by kernel_rfl) (by kernel_rfl) (by kernel_rfl) (fun _ _ _ h => h) (Or.inl ⟨by rfl, ?_⟩) (by assumption) ?_
    rotate_left
    · (intro w hSw; go_simp; try (with_reducible rfl))
    try simp only [Act.put, List.getElem_toArray, List.getElem_cons_zero, List.getElem_cons_succ, List.setIfInBounds_toArray, List.set_cons_zero, List.set_cons_succ]
    refine wpAnyH_take (i := 8) (v := ?_) rfl (by kernel_rfl) (by kernel_rfl) (by kernel_rfl) (fun _ _ _ h => h) (Or.inl ⟨by rfl, ?_⟩) (by assumption) ?_
    rotate_left
    · (intro w hSw; go_simp; try (with_reducible rfl))
    try simp only [Act.put, List.getElem_toArray, List.getElem_cons_zero, List.getElem_cons_succ, List.setIfInBounds_toArray, List.set_cons_zero, List.set_cons_succ]
    refine wpAnyH_take (i := 9) (v := ?_) rfl (by kernel_rfl) (by kernel_rfl) (by kernel_rfl) (fun _ _ _ h => h) (Or.inl ⟨by rfl, ?_⟩) (by assumption) ?_
    rotate_left
    · (intro w hSw; go_simp; try (with_reducible rfl))
    try simp only [Act.put, List.getElem_toArray, List.getElem_cons_zero, List.getElem_cons_succ, List.setIfInBounds_toArray, List.set_cons_zero, List.set_cons_succ]
    refine wpAnyH_take (i := 10) (v := ?_) rfl (by kernel_rfl) (by kernel_rfl) (by kernel_rfl) (fun _ _ _ h => h) (Or.inl ⟨by rfl, ?_⟩) (by assumption) ?_
    rotate_left
    · (intro w hSw; go_simp; try (with_reducible rfl))
    try simp only [Act.put, List.getElem_toArray, List.getElem_cons_zero, List.getElem_cons_succ, List.setIfInBounds_toArray, List.set_cons_zero, List.set_cons_succ]
    refine wpAnyH_take (i := 11) rfl (by kernel_rfl) (by kernel_rfl) (by kernel_rfl) (fun _ _ _ h => h) (yields_addr Mt5 (by rfl) _ rfl rfl) (by assumption) ?_
    try simp only [Act.put, List.getElem_toArray, List.getElem_cons_zero, List.getElem_cons_succ, List.setIfInBounds_toArray, List.set_cons_zero, List.set_cons_succ]
    refine wpAnyH_take (i := 12) (v := ?_) rfl (by kernel_rfl) (by kernel_rfl) (by kernel_rfl) (fun _ _ _ h => h) (Or.inl ⟨by rfl, ?_⟩) (by assumption) ?_
    rotate_left
    · (intro w hSw; go_simp; try (with_reducible rfl))
    try simp only [Act.put, List.getElem_toArray, List.getElem_cons_zero, List.getElem_cons_succ, List.setIfInBounds_toArray, List.set_cons_zero, List.set_cons_succ]
    refine wpAnyH_take (i := 13) rfl (by kernel_rfl) (by kernel_rfl) (by kernel_rfl) (fun _ _ _ h => h) (yields_addr Ma2 (by rfl) _ rfl rfl) (by assumption) ?_
    try simp only [Act.put, List.getElem_toArray, List.getElem_cons_zero, List.getElem_cons_succ, List.setIfInBounds_toArray, List.set_cons_zero, List.set_cons_succ]
    refine wpAnyH_take (i := 14) (v := ?_) rfl (by kernel_rfl) (by kernel_rfl) (by kernel_rfl) (fun _ _ _ h => h) (Or.inl ⟨by rfl, ?_⟩) (by assumption) ?_
    rotate_left
    · (intro w hSw; go_simp; try (with_reducible rfl))
    try simp only [Act.put, List.getElem_toArray, List.getElem_cons_zero, List.getElem_cons_succ, List.setIfInBounds_toArray, List.set_cons_zero, List.set_cons_succ]
    refine wpAnyH_take (i := 15) (v := ?_) rfl (by kernel_rfl) (by kernel_rfl) (by kernel_rfl) (fun _ _ _ h => h) (Or.inl ⟨by rfl, ?_⟩) (by assumption) ?_
    rotate_left
    · (intro w hSw; have hc0 := Cn.out w hSw; go_simp; try (with_reducible rfl))
    try simp only [Act.put, List.getElem_toArray, List.getElem_cons_zero, List.getElem_cons_succ, List.setIfInBounds_toArray, List.set_cons_zero, List.set_cons_succ]
    refine wpAnyH_ready (rs := [16]) (by kernel_rfl) (by simp) ?_
    refine AllReadyH.cons rfl (fun K hK => ?_) AllReadyH.nil
    go_simp
    refine (Calls.heldR (C16 _ (by assumption)).out (by assumption)).mono ?_
    rintro e wr16 ⟨rfl, hS16⟩
    go_wp2_with fail
    refine hK.out _ _ hS16 (fun hHeld => ?_)
    clear hK K
    try simp only [Act.put, List.getElem_toArray, List.getElem_cons_zero, List.getElem_cons_succ, List.setIfInBounds_toArray, List.set_cons_zero, List.set_cons_succ]
    refine wpAnyH_take (i := 17) (v := ?_) rfl (by kernel_rfl) (by kernel_rfl) (by kernel_rfl) (fun _ _ _ h => h) (Or.inl ⟨by rfl, ?_⟩) (by assumption) ?_
    rotate_left
    · (intro w hSw; go_simp; try (with_reducible rfl))
    try simp only [Act.put, List.getElem_toArray, List.getElem_cons_zero, List.getElem_cons_succ, List.setIfInBounds_toArray, List.set_cons_zero, List.set_cons_succ]
    refine wpAnyH_take (i := 18) (v := ?_) rfl (by kernel_rfl) (by kernel_rfl) (by kernel_rfl) (fun _ _ _ h => h) (Or.inl ⟨by rfl, ?_⟩) (by assumption) ?_
    rotate_left
    · (intro w hSw; go_simp; try (with_reducible rfl))
    try simp only [Act.put, List.getElem_toArray, List.getElem_cons_zero, List.getElem_cons_succ, List.setIfInBounds_toArray, List.set_cons_zero, List.set_cons_succ]
    refine wpAnyH_take (i := 19) (v := ?_) rfl (by kernel_rfl) (by kernel_rfl) (by kernel_rfl) (fun _ _ _ h => h) (Or.inl ⟨by rfl, ?_⟩) (by assumption) ?_
    rotate_left
    · (intro w hSw; go_simp; try (with_reducible rfl))
    try simp only [Act.put, List.getElem_toArray, List.getElem_cons_zero, List.getElem_cons_succ, List.setIfInBounds_toArray, List.set_cons_zero, List.set_cons_succ]
    refine wpAnyH_take (i := 20) rfl (by kernel_rfl) (by kernel_rfl) (by kernel_rfl) (fun _ _ _ h => h) (yields_addr Mt6 (by rfl) _ rfl rfl) (by assumption) ?_
    try simp only [Act.put, List.getElem_toArray, List.getElem_cons_zero, List.getElem_cons_succ, List.setIfInBounds_toArray, List.set_cons_zero, List.set_cons_succ]
    refine wpAnyH_take (i := 21) (v := ?_) rfl (by kernel_rfl) (by kernel_rfl) (by kernel_rfl) (fun _ _ _ h => h) (Or.inl ⟨by rfl, ?_⟩) (by assumption) ?_
    rotate_left
    · (intro w hSw; go_simp; try (with_reducible rfl))
    try simp only [Act.put, List.getElem_toArray, List.getElem_cons_zero, List.getElem_cons_succ, List.setIfInBounds_toArray, List.set_cons_zero, List.set_cons_succ]
    refine wpAnyH_take (i := 22) rfl (by kernel_rfl) (by kernel_rfl) (by kernel_rfl) (fun _ _ _ h => h) (yields_addr Ma2 (by rfl) _ rfl rfl) (by assumption) ?_
    try simp only [Act.put, List.getElem_toArray, List.getElem_cons_zero, List.getElem_cons_succ, List.setIfInBounds_toArray, List.set_cons_zero, List.set_cons_succ]
    refine wpAnyH_take (i := 23) (v := ?_) rfl (by kernel_rfl) (by kernel_rfl) (by kernel_rfl) (fun _ _ _ h => h) (Or.inl ⟨by rfl, ?_⟩) (by assumption) ?_
    rotate_left
    · (intro w hSw; go_simp; try (with_reducible rfl))
    try simp only [Act.put, List.getElem_toArray, List.getElem_cons_zero, List.getElem_cons_succ, List.setIfInBounds_toArray, List.set_cons_zero, List.set_cons_succ]
    refine wpAnyH_take (i := 24) (v := ?_) rfl (by kernel_rfl) (by kernel_rfl) (by kernel_rfl) (fun _ _ _ h => h) (Or.inl ⟨by rfl, ?_⟩) (by assumption) ?_
    rotate_left
    · (intro w hSw; have hc0 := Cn.out w hSw; go_simp; try (with_reducible rfl))
    try simp only [Act.put, List.getElem_toArray, List.getElem_cons_zero, List.getElem_cons_succ, List.setIfInBounds_toArray, List.set_cons_zero, List.set_cons_succ]
    refine wpAnyH_ready (rs := [25]) (by kernel_rfl) (by simp) ?_
    refine AllReadyH.cons rfl (fun K hK => ?_) AllReadyH.nil
    go_simp
    refine (Calls.heldR (C25 _ (by assumption)).out (by assumption)).mono ?_
    rintro e wr25 ⟨rfl, hS25⟩
    go_wp2_with fail
    refine hK.out _ _ hS25 (fun hHeld => ?_)
    clear hK K
    try simp only [Act.put, List.getElem_toArray, List.getElem_cons_zero, List.getElem_cons_succ, List.setIfInBounds_toArray, List.set_cons_zero, List.set_cons_succ]
    refine wpAnyH_take (i := 26) (v := ?_) rfl (by kernel_rfl) (by kernel_rfl) (by kernel_rfl) (fun _ _ _ h => h) (Or.inl ⟨by rfl, ?_⟩) (by assumption) ?_
    rotate_left
    · (intro w hSw; go_simp; try (with_reducible rfl))
    try simp only [Act.put, List.getElem_toArray, List.getElem_cons_zero, List.getElem_cons_succ, List.setIfInBounds_toArray, List.set_cons_zero, List.set_cons_succ]
    refine wpAnyH_take (i := 27) (v := ?_) rfl (by kernel_rfl) (by kernel_rfl) (by kernel_rfl) (fun _ _ _ h => h) (Or.inl ⟨by rfl, ?_⟩) (by assumption) ?_
    rotate_left
    · (intro w hSw; go_simp; try (with_reducible rfl))
    try simp only [Act.put, List.getElem_toArray, List.getElem_cons_zero, List.getElem_cons_succ, List.setIfInBounds_toArray, List.set_cons_zero, List.set_cons_succ]
    refine wpAnyH_take (i := 28) (v := ?_) rfl (by kernel_rfl) (by kernel_rfl) (by kernel_rfl) (fun _ _ _ h => h) (Or.inl ⟨by rfl, ?_⟩) (by assumption) ?_
    rotate_left
    · (intro w hSw; go_simp; try (with_reducible rfl))
    try simp only [Act.put, List.getElem_toArray, List.getElem_cons_zero, List.getElem_cons_succ, List.setIfInBounds_toArray, List.set_cons_zero, List.set_cons_succ]
    refine wpAnyH_take (i := 29) rfl (by kernel_rfl) (by kernel_rfl) (by kernel_rfl) (fun _ _ _ h => h) (yields_pref Mp2 (by rfl) _ rfl rfl) (by assumption) ?_
    try simp only [Act.put, List.getElem_toArray, List.getElem_cons_zero, List.getElem_cons_succ, List.setIfInBounds_toArray, List.set_cons_zero, List.set_cons_succ]
    refine wpAnyH_take (i := 30) rfl (by kernel_rfl) (by kernel_rfl) (by kernel_rfl) (fun _ _ _ h => h) (yields_addr Mt5 (by rfl) _ rfl rfl) (by assumption) ?_
    try simp only [Act.put, List.getElem_toArray, List.getElem_cons_zero, List.getElem_cons_succ, List.setIfInBounds_toArray, List.set_cons_zero, List.set_cons_succ]
    refine wpAnyH_ready (rs := [31]) (by kernel_rfl) (by simp) ?_
    refine AllReadyH.cons rfl (fun K hK => ?_) AllReadyH.nil
    go_simp
    refine (Calls.heldR (C31 _ (by assumption)).out (by assumption)).mono ?_
    rintro e wr31 ⟨rfl, hS31⟩
    go_wp2_with fail
    refine hK.out _ _ hS31 (fun hHeld => ?_)
    clear hK K
    try simp only [Act.put, List.getElem_toArray, List.getElem_cons_zero, List.getElem_cons_succ, List.setIfInBounds_toArray, List.set_cons_zero, List.set_cons_succ]
    refine wpAnyH_take (i := 32) (v := ?_) rfl (by kernel_rfl) (by kernel_rfl) (by kernel_rfl) (fun _ _ _ h => h) (Or.inl ⟨by rfl, ?_⟩) (by assumption) ?_
    rotate_left
    · (intro w hSw; go_simp; try (with_reducible rfl))
    try simp only [Act.put, List.getElem_toArray, List.getElem_cons_zero, List.getElem_cons_succ, List.setIfInBounds_toArray, List.set_cons_zero, List.set_cons_succ]
    refine wpAnyH_take (i := 33) (v := ?_) rfl (by kernel_rfl) (by kernel_rfl) (by kernel_rfl) (fun _ _ _ h => h) (Or.inl ⟨by rfl, ?_⟩) (by assumption) ?_
    rotate_left
    · (intro w hSw; go_simp; try (with_reducible rfl))
    try simp only [Act.put, List.getElem_toArray, List.getElem_cons_zero, List.getElem_cons_succ, List.setIfInBounds_toArray, List.set_cons_zero, List.set_cons_succ]
    refine wpAnyH_take (i := 34) rfl (by kernel_rfl) (by kernel_rfl) (by kernel_rfl) (fun _ _ _ h => h) (yields_pref Mp2 (by rfl) _ rfl rfl) (by assumption) ?_
    try simp only [Act.put, List.getElem_toArray, List.getElem_cons_zero, List.getElem_cons_succ, List.setIfInBounds_toArray, List.set_cons_zero, List.set_cons_succ]
    refine wpAnyH_take (i := 35) rfl (by kernel_rfl) (by kernel_rfl) (by kernel_rfl) (fun _ _ _ h => h) (yields_addr Mt6 (by rfl) _ rfl rfl) (by assumption) ?_
    try simp only [Act.put, List.getElem_toArray, List.getElem_cons_zero, List.getElem_cons_succ, List.setIfInBounds_toArray, List.set_cons_zero, List.set_cons_succ]
    refine wpAnyH_ready (rs := [36]) (by kernel_rfl) (by simp) ?_
    refine AllReadyH.cons rfl (fun K hK => ?_) AllReadyH.nil
    go_simp
    refine (Calls.heldR (C36 _ (by assumption)).out (by assumption)).mono ?_
    rintro e wr36 ⟨rfl, hS36⟩
    go_wp2_with fail
    refine hK.out _ _ hS36 (fun hHeld => ?_)
    clear hK K
    try simp only [Act.put, List.getElem_toArray, List.getElem_cons_zero, List.getElem_cons_succ, List.setIfInBounds_toArray, List.set_cons_zero, List.set_cons_succ]
    refine wpAnyH_take (i := 37) (v := ?_) rfl (by kernel_rfl) (by kernel_rfl) (by kernel_rfl) (fun _ _ _ h => h) (Or.inl ⟨by rfl, ?_⟩) (by assumption) ?_
    rotate_left
    · (intro w hSw; go_simp; try (with_reducible rfl))
    try simp only [Act.put, List.getElem_toArray, List.getElem_cons_zero, List.getElem_cons_succ, List.setIfInBounds_toArray, List.set_cons_zero, List.set_cons_succ]
    refine wpAnyH_take (i := 38) (v := ?_) rfl (by kernel_rfl) (by kernel_rfl) (by kernel_rfl) (fun _ _ _ h => h) (Or.inl ⟨by rfl, ?_⟩) (by assumption) ?_
    rotate_left
    · (intro w hSw; go_simp; try (with_reducible rfl))
    try simp only [Act.put, List.getElem_toArray, List.getElem_cons_zero, List.getElem_cons_succ, List.setIfInBounds_toArray, List.set_cons_zero, List.set_cons_succ]
    refine wpAnyH_ready (rs := [39]) (by kernel_rfl) (by simp) ?_
    refine AllReadyH.cons rfl (fun K hK => ?_) AllReadyH.nil
    go_simp
    refine (Calls.heldR (LV _ (by assumption)).out (by assumption)).mono ?_
    rintro e wr39 ⟨rfl, hS39⟩
    go_wp2_with fail
    refine hK.out _ _ hS39 (fun hHeld => ?_)
    clear hK K
    try simp only [Act.put, List.getElem_toArray, List.getElem_cons_zero, List.getElem_cons_succ, List.setIfInBounds_toArray, List.set_cons_zero, List.set_cons_succ]
    refine wpAnyH_take (i := 40) (v := ?_) rfl (by kernel_rfl) (by kernel_rfl) (by kernel_rfl) (fun _ _ _ h => h) (Or.inl ⟨by rfl, ?_⟩) (by assumption) ?_
    rotate_left
    · (intro w hSw; go_simp; try (with_reducible rfl))
    try simp only [Act.put, List.getElem_toArray, List.getElem_cons_zero, List.getElem_cons_succ, List.setIfInBounds_toArray, List.set_cons_zero, List.set_cons_succ]
    refine wpAnyH_take (i := 41) (v := ?_) rfl (by kernel_rfl) (by kernel_rfl) (by kernel_rfl) (fun _ _ _ h => h) (Or.inl ⟨by rfl, ?_⟩) (by assumption) ?_
    rotate_left
    · (intro w hSw; go_simp; try (with_reducible rfl))
    try simp only [Act.put, List.getElem_toArray, List.getElem_cons_zero, List.getElem_cons_succ, List.setIfInBounds_toArray, List.set_cons_zero, List.set_cons_succ]
    refine wpAnyH_done (by kernel_rfl) ?_ _
    refine NoPanic.normal ?_
    go_wp2_with fail
    go_ret
    exact ⟨rfl, hHeld.bel⟩

theorem door_met (os : Os) (args : Array Value) : laidMetH Tryd.prog Rows.cidrHasRow.laid ((World.doorLaid Tryd.prog 400 os).forCall (fun _ _ => 0) ⟨#[], args, []⟩).memory :=
  laidMetH_of_parts3 (fuel := 8) (laidMet_of_run' 8 (by kernel_rfl) (by kernel_rfl)) (by kernel_rfl) (by kernel_rfl)

set_option maxRecDepth 100000 in
theorem lifted (os : Os) (started : os.Started) (H : Type) (enc : TypeId × Value → H) :
    ReturnsInHanded {} Tryd.checked os 5 .any (fun w args => (Rows.cidrHasSpec.pre enc Tryd.prog Tryd.f5 [] false w args ∧ laidMetH Tryd.prog Rows.cidrHasRow.laid w) ∧ sizedMet enc Tryd.prog Tryd.f5 (OpenSpec.ofChange Rows.cidrHasSpec) false w args)
      (Rows.cidrHasSpec.post enc Tryd.prog Tryd.f5 false true false false) := by
  refine handed_shaped (C := Tryd.checked) (X := fun w _ => laidMetH Tryd.prog Rows.cidrHasRow.laid w) (fun _ _ _ hh h => h.of_heap hh) own started (by kernel_rfl) Tryd.func5
    (ChangeSpec.witness_shaped (enc := enc) (C := Tryd.checked) (os := os) (X := fun w _ => laidMetH Tryd.prog Rows.cidrHasRow.laid w) false (World.doorLaid Tryd.prog 400 os) #[.agg #[.int .i64 0, .int .u8 0, .int .u8 0, .int .u8 0, .int .u8 0, .int .u8 0, .int .u8 0, .int .u8 0, .int .u8 0, .int .u8 0, .int .u8 0, .int .u8 0, .int .u8 0, .int .u8 0, .int .u8 0, .int .u8 0, .int .u8 0, .int .i64 0], .agg #[.int .i64 0, .int .u8 0, .int .u8 0, .int .u8 0, .int .u8 0, .int .u8 0, .int .u8 0, .int .u8 0, .int .u8 0, .int .u8 0, .int .u8 0, .int .u8 0, .int .u8 0, .int .u8 0, .int .u8 0, .int .u8 0, .int .u8 0]] 8 rfl (World.shaped_of_RefB (by kernel_rfl) (by kernel_rfl)) (by kernel_rfl) (by kernel_rfl) (by kernel_rfl) (door_met os _)) ?_
  intro W base args ds gs before hval0 hW hL hsh
  have hval : ∀ (j : Nat) t v, Tryd.f5.params[j]? = some t → args[j]? = some v → Value.okWide Tryd.prog W .any base t v := hval0
  have hW' := hW
  obtain ⟨p, q, hA0, hV, rfl, hfz, hnd⟩ := hW
  have hA : DataW.TrodAll enc Tryd.prog W 0 (fun _ => true) true Tryd.f5.params.toList args.toList ds p := hA0
  rw [Tryd.params5] at hA hval
  obtain ⟨v0, vs0, d0, ds0, p0, q0, hargs, rfl, rfl, h0, r0⟩ := trodAll_cons hA
  obtain ⟨v1, vs1, d1, ds1, p1, q1, rfl, rfl, rfl, h1, r1⟩ := trodAll_cons r0
  obtain ⟨rfl, rfl, rfl⟩ := trodAll_nil r1
  obtain rfl : args = #[v0, v1] := by cases args; simp_all
  obtain ⟨rfl, rfl⟩ := trodVars_none hV
  have k0 := h0
  have lt0 : ∀ x ∈ p0, x.block < W.heap.size := by obtain ⟨m, hm⟩ := k0; exact DataW.trod_lt m _ _ _ hm
  obtain ⟨f0, z0, n0, rfl, fw0, l0, w0, nw0⟩ := open_pref (hval 0 26 v0 rfl rfl) h0
  have k1 := h1
  have lt1 : ∀ x ∈ p1, x.block < W.heap.size := by obtain ⟨m, hm⟩ := k1; exact DataW.trod_lt m _ _ _ hm
  obtain ⟨f1, z1, rfl, fw1, l1, w1⟩ := open_addr (hval 1 24 v1 rfl rfl) h1
  clear hA0 hval0
  refine (walk f0 z0 n0 f1 z1 fw0 l0 w0 nw0 fw1 l1 w1 W (tabs_of Rows.cidrHasRow.laid rfl hL hsh)).mono fun e W' ⟨he, bel⟩ => ?_
  subst he
  exact ⟨_, rfl, _, _, _, [], _, [], hW', trodAll_mk1 (shut_bool Tryd.underlying4 _), (trodAll_cons_mk (Below.trod laidOut (by kernel_rfl) (of_decide_eq_true (by kernel_rfl)) k0 bel lt0) (trodAll_cons_mk (Below.trod laidOut (by kernel_rfl) (of_decide_eq_true (by kernel_rfl)) k1 bel lt1) trodAll_mk0)), rfl, bel.frame _, fun h => by cases h⟩

theorem over : Rows.CidrHasSaid :=
  OpenClaim.holds_of_wide 5 Tryd.f5 rfl rfl rfl rfl rfl rfl rfl ⟨rfl, rfl, rfl, rfl, rfl⟩ rfl rfl rfl rfl rfl (by kernel_rfl) Tryd.func5 (by kernel_rfl)
    (of_decide_eq_true (by kernel_rfl)) (by unfold Func.isWrapper; first | (rw [if_pos (by decide +kernel)]; kernel_rfl) | (rw [if_neg (by decide +kernel)]; exact ⟨rfl, rfl⟩))
    (fun os started H enc _ => lifted os started H enc)


theorem proved : Rows.CidrHasCardSaid :=
  Claim7.holds_tied_plain_at .later [] [.data, .data, .data] true _ false
    over (fun _ h => by cases h) (by kernel_rfl) (fun _ h => by cases h) cidrHas_row_tie rfl ⟨rfl, rfl⟩ (by kernel_rfl) rfl
    (fun f fn hf hfn => by
      obtain rfl : f = 5 := Option.some.inj ((show Tryd.prog.funcNamed "abatis/abatislaw05.CidrHas" = some 5 by kernel_rfl).symm.trans hf) |>.symm
      obtain rfl : fn = Tryd.f5 := (Option.some.inj (Tryd.func5.symm.trans hfn)).symm
      exact ⟨by kernel_rfl, fun j t ht => by
        rw [Tryd.params5] at ht
        have hm : t ∈ [26, 24] := by simpa using Array.mem_of_getElem? ht
        have hall : ([26, 24].all fun u => !Tryd.prog.wantsStandIn u) = true := by kernel_rfl
        exact (show Tryd.prog.wantsStandIn t = false by simpa using List.all_eq_true.1 hall t hm)⟩)
    (by kernel_rfl)
#print axioms proved
end Go.Proofs.YtpgjkeakhjnckaaDoor.cidrHas
