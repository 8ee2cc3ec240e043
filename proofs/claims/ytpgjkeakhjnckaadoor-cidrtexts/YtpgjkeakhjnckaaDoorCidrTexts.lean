/- What the landed cidr.Parse reads of a text, or the error, is the document's; what is printed of a prefix is the document's, and is read as it was; for every text and every prefix. A tied card: three tables of the library hold what the program lays in them. -/
import Derived.Test.YtpgjkeakhjnckaaDoorB8
import Derived.Test.YtpgjkeakhjnckaaDoorTie
import Derived.Test.YtpgjkeakhjnckaaDoorCards
import Derived.ProofKit
import Derived.OpenShut
import Derived.ShutString
import Derived.ChangeOld
import Derived.Below
namespace Go.Proofs.YtpgjkeakhjnckaaDoor.cidrTexts
open Go.ChangeShapes Go.WideShapes Go.ChangeAt Go.RowKit
open Go.ChangeMaps (open_string shut_string)
set_option linter.unusedVariables false
set_option maxRecDepth 20000

theorem own : ownKnob Tryd.prog.godebug = none := by kernel_rfl

set_option maxRecDepth 100000 in
set_option maxHeartbeats 4000000 in
theorem walk (a0 : ByteArray) (f1 : Int) (z1 : List Nat) (n1 : Int) (w0 : a0.size ≤ maxLen) (fw1 : (Lit.int .i64 f1).wf = true) (l1 : z1.length = 16) (w1 : ∀ x ∈ z1, x < 256) (nw1 : (Lit.int .i64 n1).wf = true) (w : World) (htab : Tabs w) :
    Calls Tryd.prog 4 #[.string a0, prefV f1 z1 n1] w fun e w' => e = .returned (.bool true) ∧ Below w.heap.size w w' := by
  have HT := Lib.hid htab
  have hg := goodP_is f1 z1 n1
  have HG := fun W => Lib.hid (refGoodP_any f1 z1 n1 W l1 w1 nw1)
  generalize goodF f1 = F at *
  generalize goodP f1 z1 n1 = B at *
  generalize goodN f1 n1 = N at *
  have hN := bitsN_le F
  have hle := hg.le
  have HL := Lib.hid hg.len
  have HP1 := fun W (h : Tabs W) => Lib.hid (cidrPrint_any F B N W hg.len hg.lt (by omega) h)
  have HP2 := fun W => Lib.hid (refPrintP_any F B N W hg.len hg.lt (by omega))
  have hps := printP_small hg
  have HRD := Lib.hid hg.read
  have HS0 := fun W => Lib.hid (few_any a0 60 W w0 (by decide))
  have hsz := few_size a0 60
  generalize few a0 60 = s at *
  generalize printP F B (N : Int) = T at *
  have HPL := Lib.hid (parseP_len s)
  have HC1 := fun W (h : Tabs W) => Lib.hid (cidrParse_any s W (by omega) h)
  have HC2 := fun W => Lib.hid (refParseP_any s W (by omega))
  have HC3 := fun W (h : Tabs W) => Lib.hid (cidrParse_any T W (by omega) h)
  rw [HRD.out] at HC3
  generalize parseP s = r at *
  obtain ⟨rf, rb, rn, re⟩ := r
  have HPL2 : Hid (rb.length = 16) := HPL
  clear HPL HRD
  have L1 := Lib.hid l1
  obtain ⟨cs, ecs, H1, HB⟩ := pref_boxed f1 z1 n1 w l1
  have HS := Lib.hid ((HeldR.nil HB.out).pref H1.out)
  rw [ecs]
  clear ecs l1 w1 hg htab nw1 fw1 w0 H1 HB
  go_enter Tryd.func4, Tryd.ntmps4
  go_upto_region 1 with fail
  generalize (w.alloc (.cells cs 26)) = W at *
  go_wp2_with fail
  refine (HS0 _).out.mono ?_
  rintro e W' ⟨rfl, rfl⟩
  go_wp2_with fail
  refine (HC1 _ (HT.out.below HS.out.bel)).out.mono ?_
  rintro e w1 ⟨rfl, hb1⟩
  replace HS := Lib.hid (HS.out.next hb1)
  have HZ1 := Lib.hid (pref_zeroed w1)
  clear hb1 HC1 HS0
  rw [show prefRet (rf, rb, rn, re) = .tuple #[prefV rf rb rn, .int .i64 re] from rfl]
  go_upto_region 3 with (refine store_pref HZ1 _ _ HPL2 rfl rfl rfl rfl (fun W1 HW1 HQ1 => ?_))
  replace HS := Lib.hid ((HS.out.next (below_newP HW1)).pref HQ1.out)
  generalize w1.heap.size = G1 at *
  clear HZ1 HW1 HQ1
  go_wp2_with fail
  refine (HC2 _).out.mono ?_
  rintro e w2 ⟨rfl, hb2⟩
  replace HS := Lib.hid (HS.out.next hb2)
  have HZ2 := Lib.hid (pref_zeroed w2)
  clear hb2 HC2
  rw [show prefRet (rf, rb, rn, re) = .tuple #[prefV rf rb rn, .int .i64 re] from rfl]
  go_upto_region 4 with (refine store_pref HZ2 _ _ HPL2 rfl rfl rfl rfl (fun W2 HW2 HQ2 => ?_))
  replace HS := Lib.hid ((HS.out.next (below_newP HW2)).pref HQ2.out)
  generalize w2.heap.size = G2 at *
  clear HZ2 HW2 HQ2
  have Mb := Lib.hid (show InP [(G2, 0, prefL rf rb rn), (G2, 0, addrL rf rb), (G1, 0, prefL rf rb rn), (G1, 0, addrL rf rb), (w.heap.size, 0, prefL f1 z1 n1), (w.heap.size, 0, addrL f1 z1)] w.heap.size f1 z1 n1 from ⟨by simp, L1.out⟩)
  go_wp2_with (refine load_pref_h HS Mb _ rfl rfl rfl ?_)
  refine (HG _).out.mono ?_
  rintro e w3 ⟨rfl, hb3⟩
  replace HS := Lib.hid (HS.out.next hb3)
  have HZ3 := Lib.hid (pref_zeroed w3)
  clear hb3 HG Mb
  go_upto_region 5 with (refine store_pref HZ3 _ _ HL rfl rfl rfl rfl (fun W3 HW3 HQ3 => ?_))
  replace HS := Lib.hid ((HS.out.next (below_newP HW3)).pref HQ3.out)
  generalize w3.heap.size = G3 at *
  clear HZ3 HW3
  go_wp2_with (refine load_pref_g HQ3 _ rfl rfl rfl ?_)
  refine (HP1 _ (HT.out.below HS.out.bel)).out.mono ?_
  rintro e w4 ⟨rfl, hb4⟩
  replace HS := Lib.hid (HS.out.next hb4)
  clear hb4 HP1 HQ3
  go_wp2_with fail
  refine (HC3 _ (HT.out.below HS.out.bel)).out.mono ?_
  rintro e w5 ⟨rfl, hb5⟩
  replace HS := Lib.hid (HS.out.next hb5)
  have HZ5 := Lib.hid (pref_zeroed w5)
  clear hb5 HC3
  rw [show prefRet (F, B, (N : Int), 0) = .tuple #[prefV F B (N : Int), .int .i64 0] from rfl]
  go_upto_region 7 with (refine store_pref HZ5 _ _ HL rfl rfl rfl rfl (fun W5 HW5 HQ5 => ?_))
  replace HS := Lib.hid ((HS.out.next (below_newP HW5)).pref HQ5.out)
  generalize w5.heap.size = G5 at *
  clear HZ5 HW5 HQ5
  obtain ⟨L, hL⟩ : ∃ L, [(G5, 0, prefL F B (N : Int)), (G5, 0, addrL F B), (G3, 0, prefL F B (N : Int)), (G3, 0, addrL F B), (G2, 0, prefL rf rb rn), (G2, 0, addrL rf rb), (G1, 0, prefL rf rb rn), (G1, 0, addrL rf rb), (w.heap.size, 0, prefL f1 z1 n1), (w.heap.size, 0, addrL f1 z1)] = L := ⟨_, rfl⟩
  rw [hL] at HS
  have Mp5 := Lib.hid (show InP L G1 rf rb rn from ⟨by rw [← hL]; simp, HPL2.out⟩)
  have Mp7 := Lib.hid (show InP L G2 rf rb rn from ⟨by rw [← hL]; simp, HPL2.out⟩)
  have Mp9 := Lib.hid (show InP L G3 F B (N : Int) from ⟨by rw [← hL]; simp, HL.out⟩)
  have Mp11 := Lib.hid (show InP L G5 F B (N : Int) from ⟨by rw [← hL]; simp, HL.out⟩)
  clear hL
  have gd := guard_pref
  have q1 := fun W => run_same_pref rf rb rn W HPL2.out
  have q2 := fun W => run_same_pref F B (N : Int) W HL.out
  have s1 : (T.toList == T.toList) = true := by simp
  have s2 : (re == re) = true := by simp
  go_wp2_with (first | refine load_pref_h HS Mp5 _ rfl rfl rfl ?_ | refine load_pref_h HS Mp7 _ rfl rfl rfl ?_ | refine load_pref_h HS Mp9 _ rfl rfl rfl ?_ | refine load_pref_h HS Mp11 _ rfl rfl rfl ?_)
  refine (HP2 _).out.mono ?_
  rintro e w6 ⟨rfl, hb6⟩
  replace HS := Lib.hid (HS.out.next hb6)
  clear hb6 HP2
  go_wp2_with (first | refine load_pref_h HS Mp5 _ rfl rfl rfl ?_ | refine load_pref_h HS Mp7 _ rfl rfl rfl ?_ | refine load_pref_h HS Mp9 _ rfl rfl rfl ?_ | refine load_pref_h HS Mp11 _ rfl rfl rfl ?_)
  refine (lives5_any _ (HT.out.below HS.out.bel)).mono ?_
  rintro e w7 ⟨rfl, hb7⟩
  go_wp2_with fail
  go_ret
  exact ⟨rfl, chain HS.out.bel hb7⟩

theorem door_met (os : Os) (args : Array Value) : laidMetH Tryd.prog Rows.cidrTextsRow.laid ((World.doorLaid Tryd.prog 400 os).forCall (fun _ _ => 0) ⟨#[], args, []⟩).memory :=
  laidMetH_of_parts3 (fuel := 8) (laidMet_of_run' 8 (by kernel_rfl) (by kernel_rfl)) (by kernel_rfl) (by kernel_rfl)

set_option maxRecDepth 100000 in
theorem lifted (os : Os) (started : os.Started) (H : Type) (enc : TypeId × Value → H) :
    ReturnsInHanded {} Tryd.checked os 4 .any (fun w args => (Rows.cidrTextsSpec.pre enc Tryd.prog Tryd.f4 [] false w args ∧ laidMetH Tryd.prog Rows.cidrTextsRow.laid w) ∧ sizedMet enc Tryd.prog Tryd.f4 (OpenSpec.ofChange Rows.cidrTextsSpec) false w args)
      (Rows.cidrTextsSpec.post enc Tryd.prog Tryd.f4 false true false false) := by
  refine handed_shaped (C := Tryd.checked) (X := fun w _ => laidMetH Tryd.prog Rows.cidrTextsRow.laid w) (fun _ _ _ hh h => h.of_heap hh) own started (by kernel_rfl) Tryd.func4
    (ChangeSpec.witness_shaped (enc := enc) (C := Tryd.checked) (os := os) (X := fun w _ => laidMetH Tryd.prog Rows.cidrTextsRow.laid w) false (World.doorLaid Tryd.prog 400 os) #[.string ByteArray.empty, .agg #[.int .i64 0, .int .u8 0, .int .u8 0, .int .u8 0, .int .u8 0, .int .u8 0, .int .u8 0, .int .u8 0, .int .u8 0, .int .u8 0, .int .u8 0, .int .u8 0, .int .u8 0, .int .u8 0, .int .u8 0, .int .u8 0, .int .u8 0, .int .i64 0]] 8 rfl (World.shaped_of_RefB (by kernel_rfl) (by kernel_rfl)) (by kernel_rfl) (by kernel_rfl) (by kernel_rfl) (door_met os _)) ?_
  intro W base args ds gs before hval0 hW hL hsh
  have hval : ∀ (j : Nat) t v, Tryd.f4.params[j]? = some t → args[j]? = some v → Value.okWide Tryd.prog W .any base t v := hval0
  have hW' := hW
  obtain ⟨p, q, hA0, hV, rfl, hfz, hnd⟩ := hW
  have hA : DataW.TrodAll enc Tryd.prog W 0 (fun _ => true) true Tryd.f4.params.toList args.toList ds p := hA0
  rw [Tryd.params4] at hA hval
  obtain ⟨v0, vs0, d0, ds0, p0, q0, hargs, rfl, rfl, h0, r0⟩ := trodAll_cons hA
  obtain ⟨v1, vs1, d1, ds1, p1, q1, rfl, rfl, rfl, h1, r1⟩ := trodAll_cons r0
  obtain ⟨rfl, rfl, rfl⟩ := trodAll_nil r1
  obtain rfl : args = #[v0, v1] := by cases args; simp_all
  obtain ⟨rfl, rfl⟩ := trodVars_none hV
  obtain ⟨a0, rfl, rfl, rfl, w0⟩ := open_string Tryd.underlying9 (hval 0 9 v0 rfl rfl) h0
  have k1 := h1
  have lt1 : ∀ x ∈ p1, x.block < W.heap.size := by obtain ⟨m, hm⟩ := k1; exact DataW.trod_lt m _ _ _ hm
  obtain ⟨f1, z1, n1, rfl, fw1, l1, w1, nw1⟩ := open_pref (hval 1 26 v1 rfl rfl) h1
  clear hA0 hval0
  refine (walk a0 f1 z1 n1 w0 fw1 l1 w1 nw1 W (tabs_of Rows.cidrTextsRow.laid rfl hL hsh)).mono fun e W' ⟨he, bel⟩ => ?_
  subst he
  exact ⟨_, rfl, _, _, _, [], _, [], hW', trodAll_mk1 (shut_bool Tryd.underlying4 _), (trodAll_cons_mk (shut_string Tryd.underlying9 w0) (trodAll_cons_mk (Below.trod laidOut (by kernel_rfl) (of_decide_eq_true (by kernel_rfl)) k1 bel lt1) trodAll_mk0)), rfl, bel.frame _, fun h => by cases h⟩

theorem over : Rows.CidrTextsSaid :=
  OpenClaim.holds_of_wide 4 Tryd.f4 rfl rfl rfl rfl rfl rfl rfl ⟨rfl, rfl, rfl, rfl, rfl⟩ rfl rfl rfl rfl rfl (by kernel_rfl) Tryd.func4 (by kernel_rfl)
    (of_decide_eq_true (by kernel_rfl)) (by unfold Func.isWrapper; first | (rw [if_pos (by decide +kernel)]; kernel_rfl) | (rw [if_neg (by decide +kernel)]; exact ⟨rfl, rfl⟩))
    (fun os started H enc _ => lifted os started H enc)


theorem proved : Rows.CidrTextsCardSaid :=
  Claim7.holds_tied_plain_at .later [] [.data, .data, .data] true _ false
    over (fun _ h => by cases h) (by kernel_rfl) (fun _ h => by cases h) cidrTexts_row_tie rfl ⟨rfl, rfl⟩ (by kernel_rfl) rfl
    (fun f fn hf hfn => by
      obtain rfl : f = 4 := Option.some.inj ((show Tryd.prog.funcNamed "abatis/abatislaw05.CidrTexts" = some 4 by kernel_rfl).symm.trans hf) |>.symm
      obtain rfl : fn = Tryd.f4 := (Option.some.inj (Tryd.func4.symm.trans hfn)).symm
      exact ⟨by kernel_rfl, fun j t ht => by
        rw [Tryd.params4] at ht
        have hm : t ∈ [9, 26] := by simpa using Array.mem_of_getElem? ht
        have hall : ([9, 26].all fun u => !Tryd.prog.wantsStandIn u) = true := by kernel_rfl
        exact (show Tryd.prog.wantsStandIn t = false by simpa using List.all_eq_true.1 hall t hm)⟩)
    (by kernel_rfl)
#print axioms proved
end Go.Proofs.YtpgjkeakhjnckaaDoor.cidrTexts
