/- For every number and every text (its first 20 bytes): the name of the number, and the space of the text, are those of the reference, and a name is read back as its space; true is answered, and what came in stays. -/
import Derived.Test.YtgbajagacmfcmaaDoorB10
import Derived.Test.YtgbajagacmfcmaaDoorTie
import Derived.Test.YtgbajagacmfcmaaDoorCards
import Derived.ProofKit
import Derived.OpenShut
import Derived.ShutString
import Derived.ChangeOld
import Derived.Below
namespace Go.Proofs.YtgbajagacmfcmaaDoor.spaceNames
open Go.ChangeShapes Go.WideShapes Go.ChangeAt Go.RowKit
open Go.ChangeMaps (open_string shut_string)
set_option linter.unusedVariables false
set_option maxRecDepth 20000

theorem own : ownKnob Tryd.prog.godebug = none := by kernel_rfl

theorem parse_name0 : parse7 (nameB 0) = (0, true) := by kernel_rfl
theorem parse_name1 : parse7 (nameB 1) = (1, true) := by kernel_rfl
theorem parse_name2 : parse7 (nameB 2) = (2, true) := by kernel_rfl
theorem parse_none : parse7 ⟨#[]⟩ = (0, false) := by kernel_rfl
set_option maxRecDepth 100000 in
set_option maxHeartbeats 2000000 in
theorem walk (n : Int) (s : ByteArray) (nw : (Lit.int .i64 n).wf = true) (sw : s.size ≤ maxLen) (w : World) (ht : Tabs w ∧ NamesAt w) :
    Calls Tryd.prog 5 #[.int .i64 n, .string s] w fun e w' => e = .returned (.bool true) ∧ Below w.heap.size w w' := by
  have HTB := Lib.hid ht.1
  have HNM := Lib.hid ht.2
  have HLV := fun W (h : Tabs W) => Lib.hid (lives7_any W h)
  have HFE := fun W => Lib.hid (few_any s 20 W sw (by decide))
  have hsz := few_size s 20
  have HP1 := fun W h => Lib.hid (parse_any7 (few s 20) W h (by omega))
  have HR1 := fun W => Lib.hid (refParse7_any (few s 20) W (by omega))
  have HNA := fun W h => Lib.hid (name_any n W h)
  have HRN := fun W => Lib.hid (refName7_any n W)
  have hnz : (nameB n).size ≤ 1000000 := by
    unfold nameB
    split
    · decide
    · split
      · decide
      · split <;> decide
  have HP2 := fun W h => Lib.hid (parse_any7 (nameB n) W h hnz)
  generalize few s 20 = t at *
  generalize hS1 : parse7 t = S1 at *
  obtain ⟨p1, b1⟩ := S1
  clear hS1 sw nw ht hsz hnz
  by_cases h0 : n = 0
  · subst h0
    rw [parse_name0] at HP2
    generalize nameB 0 = X at *
    go_enter Tryd.func5, Tryd.ntmps5
    go_wp2_with fail
    refine (HFE _).out.mono ?_
    rintro e w1 ⟨rfl, rfl⟩
    go_wp2_with fail
    refine (HP1 _ HNM.out).out.mono ?_
    rintro e w2 ⟨rfl, hb2⟩
    have HB := Lib.hid hb2
    have HN2 := Lib.hid (HNM.out.below hb2)
    clear hb2
    go_wp2_with fail
    refine (HR1 _).out.mono ?_
    rintro e w3 ⟨rfl, hb3⟩
    replace HB := Lib.hid (chain HB.out hb3)
    replace HN2 := Lib.hid (HN2.out.below hb3)
    clear hb3
    go_wp2_with fail
    refine (HNA _ HN2.out).out.mono ?_
    rintro e w4 ⟨rfl, rfl⟩
    go_wp2_with fail
    refine (HP2 _ HN2.out).out.mono ?_
    rintro e w5 ⟨rfl, hb5⟩
    replace HB := Lib.hid (chain HB.out hb5)
    replace HN2 := Lib.hid (HN2.out.below hb5)
    clear hb5
    go_wp2_with fail
    refine (HNA _ HN2.out).out.mono ?_
    rintro e w6 ⟨rfl, rfl⟩
    go_wp2_with fail
    refine (HRN _).out.mono ?_
    rintro e w7 ⟨rfl, hb7⟩
    replace HB := Lib.hid (chain HB.out hb7)
    clear hb7 HN2
    go_wp2_with fail
    refine (HLV _ (HTB.out.below HB.out)).out.mono ?_
    rintro e w8 ⟨rfl, hb8⟩
    have HB8 := Lib.hid (chain HB.out hb8)
    clear hb8
    go_wp2_with fail
    go_ret
    exact ⟨rfl, HB8.out⟩
  by_cases h1 : n = 1
  · subst h1
    rw [parse_name1] at HP2
    generalize nameB 1 = X at *
    go_enter Tryd.func5, Tryd.ntmps5
    go_wp2_with fail
    refine (HFE _).out.mono ?_
    rintro e w1 ⟨rfl, rfl⟩
    go_wp2_with fail
    refine (HP1 _ HNM.out).out.mono ?_
    rintro e w2 ⟨rfl, hb2⟩
    have HB := Lib.hid hb2
    have HN2 := Lib.hid (HNM.out.below hb2)
    clear hb2
    go_wp2_with fail
    refine (HR1 _).out.mono ?_
    rintro e w3 ⟨rfl, hb3⟩
    replace HB := Lib.hid (chain HB.out hb3)
    replace HN2 := Lib.hid (HN2.out.below hb3)
    clear hb3
    go_wp2_with fail
    refine (HNA _ HN2.out).out.mono ?_
    rintro e w4 ⟨rfl, rfl⟩
    go_wp2_with fail
    refine (HP2 _ HN2.out).out.mono ?_
    rintro e w5 ⟨rfl, hb5⟩
    replace HB := Lib.hid (chain HB.out hb5)
    replace HN2 := Lib.hid (HN2.out.below hb5)
    clear hb5
    go_wp2_with fail
    refine (HNA _ HN2.out).out.mono ?_
    rintro e w6 ⟨rfl, rfl⟩
    go_wp2_with fail
    refine (HRN _).out.mono ?_
    rintro e w7 ⟨rfl, hb7⟩
    replace HB := Lib.hid (chain HB.out hb7)
    clear hb7 HN2
    go_wp2_with fail
    refine (HLV _ (HTB.out.below HB.out)).out.mono ?_
    rintro e w8 ⟨rfl, hb8⟩
    have HB8 := Lib.hid (chain HB.out hb8)
    clear hb8
    go_wp2_with fail
    go_ret
    exact ⟨rfl, HB8.out⟩
  by_cases h2 : n = 2
  · subst h2
    rw [parse_name2] at HP2
    generalize nameB 2 = X at *
    go_enter Tryd.func5, Tryd.ntmps5
    go_wp2_with fail
    refine (HFE _).out.mono ?_
    rintro e w1 ⟨rfl, rfl⟩
    go_wp2_with fail
    refine (HP1 _ HNM.out).out.mono ?_
    rintro e w2 ⟨rfl, hb2⟩
    have HB := Lib.hid hb2
    have HN2 := Lib.hid (HNM.out.below hb2)
    clear hb2
    go_wp2_with fail
    refine (HR1 _).out.mono ?_
    rintro e w3 ⟨rfl, hb3⟩
    replace HB := Lib.hid (chain HB.out hb3)
    replace HN2 := Lib.hid (HN2.out.below hb3)
    clear hb3
    go_wp2_with fail
    refine (HNA _ HN2.out).out.mono ?_
    rintro e w4 ⟨rfl, rfl⟩
    go_wp2_with fail
    refine (HP2 _ HN2.out).out.mono ?_
    rintro e w5 ⟨rfl, hb5⟩
    replace HB := Lib.hid (chain HB.out hb5)
    replace HN2 := Lib.hid (HN2.out.below hb5)
    clear hb5
    go_wp2_with fail
    refine (HNA _ HN2.out).out.mono ?_
    rintro e w6 ⟨rfl, rfl⟩
    go_wp2_with fail
    refine (HRN _).out.mono ?_
    rintro e w7 ⟨rfl, hb7⟩
    replace HB := Lib.hid (chain HB.out hb7)
    clear hb7 HN2
    go_wp2_with fail
    refine (HLV _ (HTB.out.below HB.out)).out.mono ?_
    rintro e w8 ⟨rfl, hb8⟩
    have HB8 := Lib.hid (chain HB.out hb8)
    clear hb8
    go_wp2_with fail
    go_ret
    exact ⟨rfl, HB8.out⟩
  have hno : nameB n = ⟨#[]⟩ := by unfold nameB; rw [if_neg h0, if_neg h1, if_neg h2]
  rw [hno, parse_none] at HP2
  rw [hno] at HNA HRN
  generalize (⟨#[]⟩ : ByteArray) = X at *
  clear hno
  by_cases hn : n < 0
  · have hd : decide (0 ≤ n) = false := by simp; omega
    clear h0 h1 h2
    go_enter Tryd.func5, Tryd.ntmps5
    go_wp2_with fail
    refine (HFE _).out.mono ?_
    rintro e w1 ⟨rfl, rfl⟩
    go_wp2_with fail
    refine (HP1 _ HNM.out).out.mono ?_
    rintro e w2 ⟨rfl, hb2⟩
    have HB := Lib.hid hb2
    have HN2 := Lib.hid (HNM.out.below hb2)
    clear hb2
    go_wp2_with fail
    refine (HR1 _).out.mono ?_
    rintro e w3 ⟨rfl, hb3⟩
    replace HB := Lib.hid (chain HB.out hb3)
    replace HN2 := Lib.hid (HN2.out.below hb3)
    clear hb3
    go_wp2_with fail
    refine (HNA _ HN2.out).out.mono ?_
    rintro e w4 ⟨rfl, rfl⟩
    go_wp2_with fail
    refine (HP2 _ HN2.out).out.mono ?_
    rintro e w5 ⟨rfl, hb5⟩
    replace HB := Lib.hid (chain HB.out hb5)
    replace HN2 := Lib.hid (HN2.out.below hb5)
    clear hb5
    go_wp2_with fail
    refine (HNA _ HN2.out).out.mono ?_
    rintro e w6 ⟨rfl, rfl⟩
    go_wp2_with fail
    refine (HRN _).out.mono ?_
    rintro e w7 ⟨rfl, hb7⟩
    replace HB := Lib.hid (chain HB.out hb7)
    clear hb7 HN2
    go_wp2_with fail
    refine (HLV _ (HTB.out.below HB.out)).out.mono ?_
    rintro e w8 ⟨rfl, hb8⟩
    have HB8 := Lib.hid (chain HB.out hb8)
    clear hb8
    go_wp2_with fail
    go_ret
    exact ⟨rfl, HB8.out⟩
  · have hd : decide (0 ≤ n) = true := by simp; omega
    have hd2 : decide (n ≤ 2) = false := by simp; omega
    clear h0 h1 h2
    go_enter Tryd.func5, Tryd.ntmps5
    go_wp2_with fail
    refine (HFE _).out.mono ?_
    rintro e w1 ⟨rfl, rfl⟩
    go_wp2_with fail
    refine (HP1 _ HNM.out).out.mono ?_
    rintro e w2 ⟨rfl, hb2⟩
    have HB := Lib.hid hb2
    have HN2 := Lib.hid (HNM.out.below hb2)
    clear hb2
    go_wp2_with fail
    refine (HR1 _).out.mono ?_
    rintro e w3 ⟨rfl, hb3⟩
    replace HB := Lib.hid (chain HB.out hb3)
    replace HN2 := Lib.hid (HN2.out.below hb3)
    clear hb3
    go_wp2_with fail
    refine (HNA _ HN2.out).out.mono ?_
    rintro e w4 ⟨rfl, rfl⟩
    go_wp2_with fail
    refine (HP2 _ HN2.out).out.mono ?_
    rintro e w5 ⟨rfl, hb5⟩
    replace HB := Lib.hid (chain HB.out hb5)
    replace HN2 := Lib.hid (HN2.out.below hb5)
    clear hb5
    go_wp2_with fail
    refine (HNA _ HN2.out).out.mono ?_
    rintro e w6 ⟨rfl, rfl⟩
    go_wp2_with fail
    refine (HRN _).out.mono ?_
    rintro e w7 ⟨rfl, hb7⟩
    replace HB := Lib.hid (chain HB.out hb7)
    clear hb7 HN2
    go_wp2_with fail
    refine (HLV _ (HTB.out.below HB.out)).out.mono ?_
    rintro e w8 ⟨rfl, hb8⟩
    have HB8 := Lib.hid (chain HB.out hb8)
    clear hb8
    go_wp2_with fail
    go_ret
    exact ⟨rfl, HB8.out⟩

theorem door_met (os : Os) (args : Array Value) : laidMetH Tryd.prog Rows.spaceNamesRow.laid ((World.doorLaid Tryd.prog 400 os).forCall (fun _ _ => 0) ⟨#[], args, []⟩).memory :=
  laidMetH_of_parts3 (fuel := 8) (laidMet_of_run' 8 (by kernel_rfl) (by kernel_rfl)) (by kernel_rfl) (by kernel_rfl)

set_option maxRecDepth 100000 in
theorem lifted (os : Os) (started : os.Started) (H : Type) (enc : TypeId × Value → H) :
    ReturnsInHanded {} Tryd.checked os 5 .any (fun w args => (Rows.spaceNamesSpec.pre enc Tryd.prog Tryd.f5 [] false w args ∧ laidMetH Tryd.prog Rows.spaceNamesRow.laid w) ∧ sizedMet enc Tryd.prog Tryd.f5 (OpenSpec.ofChange Rows.spaceNamesSpec) false w args)
      (Rows.spaceNamesSpec.post enc Tryd.prog Tryd.f5 false true false false) := by
  refine handed_shaped (C := Tryd.checked) (X := fun w _ => laidMetH Tryd.prog Rows.spaceNamesRow.laid w) (fun _ _ _ hh h => h.of_heap hh) own started (by kernel_rfl) Tryd.func5
    (ChangeSpec.witness_shaped (enc := enc) (C := Tryd.checked) (os := os) (X := fun w _ => laidMetH Tryd.prog Rows.spaceNamesRow.laid w) false (World.doorLaid Tryd.prog 400 os) #[.int .i64 0, .string ByteArray.empty] 8 rfl (World.shaped_of_RefB (by kernel_rfl) (by kernel_rfl)) (by kernel_rfl) (by kernel_rfl) (by kernel_rfl) (door_met os _)) ?_
  intro W base args ds gs before hval0 hW hL hsh
  have hval : ∀ (j : Nat) t v, Tryd.f5.params[j]? = some t → args[j]? = some v → Value.okWide Tryd.prog W .any base t v := hval0
  have hW' := hW
  obtain ⟨p, q, hA0, hV, rfl, hfz, hnd⟩ := hW
  have hA : DataW.TrodAll enc Tryd.prog W 0 (fun _ => true) true Tryd.f5.params.toList args.toList ds p := hA0
  rw [Tryd.params5] at hA hval
  obtain ⟨v0, vs0, d0, ds0, p0, q0, hargs, rfl, rfl, h0, r0⟩ := trodAll_cons hA
  obtain ⟨v1, vs1, d1, ds1, p1, q1, rfl, rfl, rfl, h1, r1⟩ := trodAll_cons r0
  obtain ⟨rfl, rfl, rfl⟩ := trodAll_nil r1
  obtain rfl : args = #[v0, v1] := by cases args; simp_all
  obtain ⟨rfl, rfl⟩ := trodVars_none hV
  obtain ⟨a0, rfl, rfl, rfl, w0⟩ := open_int Tryd.underlying3 (hval 0 3 v0 rfl rfl) h0
  obtain ⟨a1, rfl, rfl, rfl, w1⟩ := open_string Tryd.underlying9 (hval 1 9 v1 rfl rfl) h1
  clear hA0 hval0
  refine (walk a0 a1 w0 w1 W (tabs4_of Rows.spaceNamesRow.laid rfl hL hsh)).mono fun e W' ⟨he, bel⟩ => ?_
  subst he
  exact ⟨_, rfl, _, _, _, [], _, [], hW', trodAll_mk1 (shut_bool Tryd.underlying4 _), (trodAll_cons_mk (shut_int Tryd.underlying3 w0) (trodAll_cons_mk (shut_string Tryd.underlying9 w1) trodAll_mk0)), rfl, bel.frame _, fun h => by cases h⟩

theorem over : Rows.SpaceNamesSaid :=
  OpenClaim.holds_of_wide 5 Tryd.f5 rfl rfl rfl rfl rfl rfl rfl ⟨rfl, rfl, rfl, rfl, rfl⟩ rfl rfl rfl rfl rfl (by kernel_rfl) Tryd.func5 (by kernel_rfl)
    (of_decide_eq_true (by kernel_rfl)) (by unfold Func.isWrapper; first | (rw [if_pos (by decide +kernel)]; kernel_rfl) | (rw [if_neg (by decide +kernel)]; exact ⟨rfl, rfl⟩))
    (fun os started H enc _ => lifted os started H enc)


theorem proved : Rows.SpaceNamesCardSaid :=
  Claim7.holds_tied_plain_at .later [] [.data, .data, .data, .data] true _ false
    over (fun _ h => by cases h) (by kernel_rfl) (fun _ h => by cases h) spaceNames_row_tie rfl ⟨rfl, rfl⟩ (by kernel_rfl) rfl
    (fun f fn hf hfn => by
      obtain rfl : f = 5 := Option.some.inj ((show Tryd.prog.funcNamed "abatis/abatislaw07.SpaceNames" = some 5 by kernel_rfl).symm.trans hf) |>.symm
      obtain rfl : fn = Tryd.f5 := (Option.some.inj (Tryd.func5.symm.trans hfn)).symm
      exact ⟨by kernel_rfl, fun j t ht => by
        rw [Tryd.params5] at ht
        have hm : t ∈ [3, 9] := by simpa using Array.mem_of_getElem? ht
        have hall : ([3, 9].all fun u => !Tryd.prog.wantsStandIn u) = true := by kernel_rfl
        exact (show Tryd.prog.wantsStandIn t = false by simpa using List.all_eq_true.1 hall t hm)⟩)
    (by kernel_rfl)
#print axioms proved
end Go.Proofs.YtgbajagacmfcmaaDoor.spaceNames
