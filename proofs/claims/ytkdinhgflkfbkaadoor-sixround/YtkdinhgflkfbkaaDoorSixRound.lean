/- What the landed six.Print prints of an address is what the reference prints, and six.Parse reads it as it was; six.Run tells what the reference tells; for every address. A tied card: three tables of the library hold what the program lays in them. -/
import Derived.Test.YtkdinhgflkfbkaaDoorSixLives
import Derived.Test.YtkdinhgflkfbkaaDoorDoorTabs
import Derived.Test.YtkdinhgflkfbkaaDoorOpenArr
import Derived.ProofKit
import Derived.OpenShut
import Derived.ShutString
import Derived.ChangeOld
import Derived.Below
namespace Go.Proofs.YtkdinhgflkfbkaaDoor.sixRound
open Go.ChangeShapes Go.WideShapes Go.ChangeAt Go.RowKit
open Go.ChangeMaps (open_string shut_string)
set_option linter.unusedVariables false

theorem own : ownKnob Tryd.prog.godebug = none := by kernel_rfl

set_option maxRecDepth 100000 in
set_option maxHeartbeats 4000000 in
theorem walk8 (gs : List Nat) (h8 : gs.length = 8) (hlt : ∀ x ∈ gs, x < 65536) (w : World)
    (htab : Tabs w) :
    Calls Tryd.prog 4 #[arr8 gs] w fun e w' => e = .returned (.bool true) ∧ Below w.heap.size w w' := by
  obtain ⟨x0, x1, x2, x3, x4, x5, x6, x7, hgs⟩ := list8 gs h8
  have hA := Arr8.new w 24 x0 x1 x2 x3 x4 x5 x6 x7
  have b0 : Below w.heap.size w (w.alloc (.cells #[.int .u16 (x0 : Int), .int .u16 (x1 : Int), .int .u16 (x2 : Int), .int .u16 (x3 : Int), .int .u16 (x4 : Int), .int .u16 (x5 : Int), .int .u16 (x6 : Int), .int .u16 (x7 : Int)] 24)) := (Below.refl _ _).alloc (Nat.le_refl _) _
  have ha : arr8 gs = .agg #[.int .u16 (x0 : Int), .int .u16 (x1 : Int), .int .u16 (x2 : Int), .int .u16 (x3 : Int), .int .u16 (x4 : Int), .int .u16 (x5 : Int), .int .u16 (x6 : Int), .int .u16 (x7 : Int)] := by rw [hgs]; rfl
  have HPr := Lib.hid (fun w htab => sixPrint_any gs w h8 hlt htab)
  have HRp := Lib.hid (fun w => refPrint6_any gs w h8 hlt)
  have HRn := Lib.hid (fun w => sixRun_any gs w h8 hlt)
  have HRr := Lib.hid (fun w => refRun_any gs w h8 hlt)
  have hpr : parseRet (parseB (printB gs)) = .tuple #[.agg #[.int .u16 (x0 : Int), .int .u16 (x1 : Int), .int .u16 (x2 : Int), .int .u16 (x3 : Int), .int .u16 (x4 : Int), .int .u16 (x5 : Int), .int .u16 (x6 : Int), .int .u16 (x7 : Int)], .bool true] := by
    rw [parse_print gs h8 hlt, hgs]; rfl
  have hsz : (printB gs).size ≤ 1000 := printB_small gs h8 hlt
  rw [ha] at HPr HRp HRn HRr ⊢
  obtain ⟨T, hT⟩ : ∃ T, printB gs = T := ⟨_, rfl⟩
  rw [hT] at HPr HRp hpr hsz
  obtain ⟨A, M, hR⟩ : ∃ A M : Nat, runRet (runB gs) = .tuple #[.int .i64 (A : Int), .int .i64 (M : Int)] := ⟨_, _, rfl⟩
  rw [hR] at HRn HRr
  have HO := Lib.hid hpr
  have HT := Lib.hid htab
  have hself : (T.toList == T.toList) = true := by simp
  have q := eq8_true x0 x1 x2 x3 x4 x5 x6 x7
  clear htab ha hgs hlt h8 hT hR hpr
  go_enter Tryd.func4, Tryd.ntmps4
  go_wp2_with fail
  generalize w.alloc (.cells #[.int .u16 (x0 : Int), .int .u16 (x1 : Int), .int .u16 (x2 : Int), .int .u16 (x3 : Int), .int .u16 (x4 : Int), .int .u16 (x5 : Int), .int .u16 (x6 : Int), .int .u16 (x7 : Int)] 24) = W at *
  refine (HPr.out _ (HT.out.below b0)).mono ?_
  rintro e w1 ⟨rfl, hb1⟩
  have b1 := chain b0 hb1
  go_wp2_with fail
  refine (sixParse_any T _ (by omega) (HT.out.below b1)).mono ?_
  rintro e w2 ⟨rfl, hb2⟩
  rw [HO.out]
  have b2 := chain b1 hb2
  have hA2 := (hA.below hb1).below hb2
  have hH := Arr8.new w2 24 x0 x1 x2 x3 x4 x5 x6 x7
  have hA3 := hA2.below ((Below.refl _ _).alloc (Nat.le_refl _) (.cells #[.int .u16 (x0 : Int), .int .u16 (x1 : Int), .int .u16 (x2 : Int), .int .u16 (x3 : Int), .int .u16 (x4 : Int), .int .u16 (x5 : Int), .int .u16 (x6 : Int), .int .u16 (x7 : Int)] 24))
  have b3 := b2.alloc b2.size (.cells #[.int .u16 (x0 : Int), .int .u16 (x1 : Int), .int .u16 (x2 : Int), .int .u16 (x3 : Int), .int .u16 (x4 : Int), .int .u16 (x5 : Int), .int .u16 (x6 : Int), .int .u16 (x7 : Int)] 24)
  have HA := Lib.hid hA3
  obtain ⟨c0, c1, c2, c3, c4, c5, c6, c7⟩ := hA3.all
  clear hA2 hA
  go_wp2_with fail
  generalize w2.alloc (.cells #[.int .u16 (x0 : Int), .int .u16 (x1 : Int), .int .u16 (x2 : Int), .int .u16 (x3 : Int), .int .u16 (x4 : Int), .int .u16 (x5 : Int), .int .u16 (x6 : Int), .int .u16 (x7 : Int)] 24) = W2 at *
  have HH := Lib.hid hH
  clear hA3 hH c0 c1 c2 c3 c4 c5 c6 c7
  refine (HRn.out _).mono ?_
  rintro e w3 ⟨rfl, hb3⟩
  have hA4 := HA.out.below hb3
  obtain ⟨c0, c1, c2, c3, c4, c5, c6, c7⟩ := hA4.all
  have b4 := chain b3 hb3
  go_wp2_with fail
  refine (HRr.out _).mono ?_
  rintro e w4 ⟨rfl, hb4⟩
  clear c0 c1 c2 c3 c4 c5 c6 c7
  have hA5 := hA4.below hb4
  have b5 := chain b4 hb4
  obtain ⟨c0, c1, c2, c3, c4, c5, c6, c7⟩ := hA5.all
  go_wp2_with fail
  refine (HRp.out _).mono ?_
  rintro e w5 ⟨rfl, hb5⟩
  clear c0 c1 c2 c3 c4 c5 c6 c7
  have b6 := chain b5 hb5
  obtain ⟨c0, c1, c2, c3, c4, c5, c6, c7⟩ := (hA5.below hb5).all
  obtain ⟨d0, d1, d2, d3, d4, d5, d6, d7⟩ := (((HH.out.below hb3).below hb4).below hb5).all
  clear hA4 hA5
  go_wp2_with fail
  refine (lives3_any _ (HT.out.below b6)).mono ?_
  rintro e w6 ⟨rfl, hb7⟩
  go_wp2
  go_ret
  exact ⟨rfl, chain b6 hb7⟩

theorem walk (z0 : List Int) (l0 : z0.length = 8) (w0 : ∀ z ∈ z0, (Lit.int .u16 z).wf = true) (w : World) (htab : Tabs w) :
    Calls Tryd.prog 4 #[.agg (z0.map (Value.int .u16)).toArray] w fun e w' => e = .returned (.bool true) ∧ Below w.heap.size w w' := by
  obtain ⟨gs, h1, h2, h3⟩ := groups_of z0 l0 w0
  rw [h3]
  exact walk8 gs h1 h2 w htab

theorem door_met (os : Os) (args : Array Value) : laidMetH Tryd.prog Rows.sixRoundRow.laid ((World.doorLaid Tryd.prog 400 os).forCall (fun _ _ => 0) ⟨#[], args, []⟩).memory :=
  laidMetH_of_parts3 (fuel := 8) (laidMet_of_run' 8 (by kernel_rfl) (by kernel_rfl)) (by kernel_rfl) (by kernel_rfl)

set_option maxRecDepth 100000 in
theorem lifted (os : Os) (started : os.Started) (H : Type) (enc : TypeId × Value → H) :
    ReturnsInHanded {} Tryd.checked os 4 .any (fun w args => (Rows.sixRoundSpec.pre enc Tryd.prog Tryd.f4 [] false w args ∧ laidMetH Tryd.prog Rows.sixRoundRow.laid w) ∧ sizedMet enc Tryd.prog Tryd.f4 (OpenSpec.ofChange Rows.sixRoundSpec) false w args)
      (Rows.sixRoundSpec.post enc Tryd.prog Tryd.f4 false true false false) := by
  refine handed_shaped (C := Tryd.checked) (X := fun w _ => laidMetH Tryd.prog Rows.sixRoundRow.laid w) (fun _ _ _ hh h => h.of_heap hh) own started (by kernel_rfl) Tryd.func4
    (ChangeSpec.witness_shaped (enc := enc) (C := Tryd.checked) (os := os) (X := fun w _ => laidMetH Tryd.prog Rows.sixRoundRow.laid w) false (World.doorLaid Tryd.prog 400 os) #[.agg #[.int .u16 0, .int .u16 0, .int .u16 0, .int .u16 0, .int .u16 0, .int .u16 0, .int .u16 0, .int .u16 0]] 8 rfl (World.shaped_of_RefB (by kernel_rfl) (by kernel_rfl)) (by kernel_rfl) (by kernel_rfl) (by kernel_rfl) (door_met os _)) ?_
  intro W base args ds gs before hval0 hW hL hsh
  have hval : ∀ (j : Nat) t v, Tryd.f4.params[j]? = some t → args[j]? = some v → Value.okWide Tryd.prog W .any base t v := hval0
  have hW' := hW
  obtain ⟨p, q, hA0, hV, rfl, hfz, hnd⟩ := hW
  have hA : DataW.TrodAll enc Tryd.prog W 0 (fun _ => true) true Tryd.f4.params.toList args.toList ds p := hA0
  rw [Tryd.params4] at hA hval
  obtain ⟨v0, vs0, d0, ds0, p0, q0, hargs, rfl, rfl, h0, r0⟩ := trodAll_cons hA
  obtain ⟨rfl, rfl, rfl⟩ := trodAll_nil r0
  obtain rfl : args = #[v0] := by cases args; simp_all
  obtain ⟨rfl, rfl⟩ := trodVars_none hV
  have k0 := h0
  have lt0 : ∀ x ∈ p0, x.block < W.heap.size := by obtain ⟨m, hm⟩ := k0; exact DataW.trod_lt m _ _ _ hm
  obtain ⟨z0, rfl, l0, w0⟩ := open_int_array Tryd.underlying24 Tryd.underlying23 (by kernel_rfl) (by kernel_rfl) (hval 0 24 v0 rfl rfl) h0
  clear hA0 hval0
  refine (walk z0 l0 w0 W (tabs_of Rows.sixRoundRow.laid rfl hL hsh)).mono fun e W' ⟨he, bel⟩ => ?_
  subst he
  exact ⟨_, rfl, _, _, _, [], _, [], hW', trodAll_mk1 (shut_bool Tryd.underlying4 _), (trodAll_cons_mk (Below.trod laidOut (by kernel_rfl) (of_decide_eq_true (by kernel_rfl)) k0 bel lt0) trodAll_mk0), rfl, bel.frame _, fun h => by cases h⟩

theorem over : Rows.SixRoundSaid :=
  OpenClaim.holds_of_wide 4 Tryd.f4 rfl rfl rfl rfl rfl rfl rfl ⟨rfl, rfl, rfl, rfl, rfl⟩ rfl rfl rfl rfl rfl (by kernel_rfl) Tryd.func4 (by kernel_rfl)
    (of_decide_eq_true (by kernel_rfl)) (by unfold Func.isWrapper; first | (rw [if_pos (by decide +kernel)]; kernel_rfl) | (rw [if_neg (by decide +kernel)]; exact ⟨rfl, rfl⟩))
    (fun os started H enc _ => lifted os started H enc)


theorem proved : Rows.SixRoundCardSaid :=
  Claim7.holds_tied_plain_at .later [] [.data, .data, .data] true _ false
    over (fun _ h => by cases h) (by kernel_rfl) (fun _ h => by cases h) sixRound_row_tie rfl ⟨rfl, rfl⟩ (by kernel_rfl) rfl
    (fun f fn hf hfn => by
      obtain rfl : f = 4 := Option.some.inj ((show Tryd.prog.funcNamed "abatis/abatislaw03.SixRound" = some 4 by kernel_rfl).symm.trans hf) |>.symm
      obtain rfl : fn = Tryd.f4 := (Option.some.inj (Tryd.func4.symm.trans hfn)).symm
      exact ⟨by kernel_rfl, fun j t ht => by
        rw [Tryd.params4] at ht
        have hm : t ∈ [24] := by simpa using Array.mem_of_getElem? ht
        have hall : ([24].all fun u => !Tryd.prog.wantsStandIn u) = true := by kernel_rfl
        exact (show Tryd.prog.wantsStandIn t = false by simpa using List.all_eq_true.1 hall t hm)⟩)
    (by kernel_rfl)
#print axioms proved
end Go.Proofs.YtkdinhgflkfbkaaDoor.sixRound
