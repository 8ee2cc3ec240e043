/- The row of addresses that the landed addr.Compare tells is the document's, and an order; for every three addresses. A tied card: three tables of the library hold what the program lays in them. -/
import Derived.Test.YtickghbjhiegnaaDoorB6
import Derived.Test.YtickghbjhiegnaaDoorTie
import Derived.Test.YtickghbjhiegnaaDoorCards
import Derived.ProofKit
import Derived.OpenShut
import Derived.ShutString
import Derived.ChangeOld
import Derived.Below
namespace Go.Proofs.YtickghbjhiegnaaDoor.addrRow
open Go.ChangeShapes Go.WideShapes Go.ChangeAt Go.RowKit
open Go.ChangeMaps (open_string shut_string)
set_option linter.unusedVariables false
set_option maxRecDepth 20000

theorem own : ownKnob Tryd.prog.godebug = none := by kernel_rfl

set_option maxRecDepth 100000 in
set_option maxHeartbeats 4000000 in
theorem walk (f0 : Int) (z0 : List Nat) (f1 : Int) (z1 : List Nat) (f2 : Int) (z2 : List Nat) (fw0 : (Lit.int .i64 f0).wf = true) (l0 : z0.length = 16) (w0 : ∀ x ∈ z0, x < 256) (fw1 : (Lit.int .i64 f1).wf = true) (l1 : z1.length = 16) (w1 : ∀ x ∈ z1, x < 256) (fw2 : (Lit.int .i64 f2).wf = true) (l2 : z2.length = 16) (w2 : ∀ x ∈ z2, x < 256) (w : World) (htab : Tabs w) :
    Calls Tryd.prog 7 #[addrV f0 z0, addrV f1 z1, addrV f2 z2] w fun e w' => e = .returned (.bool true) ∧ Below w.heap.size w w' := by
  have HT := Lib.hid htab
  have C1 := fun W => Lib.hid (addrCompare_any f0 z0 f1 z1 W l0 l1 w0 w1)
  have C2 := fun W => Lib.hid (addrCompare_any f1 z1 f2 z2 W l1 l2 w1 w2)
  have C3 := fun W => Lib.hid (refCompare_any f0 z0 f1 z1 W l0 l1)
  have C4 := fun W => Lib.hid (addrCompare_any f1 z1 f0 z0 W l1 l0 w1 w0)
  have C5 := fun W => Lib.hid (addrCompare_any f0 z0 f2 z2 W l0 l2 w0 w2)
  rw [cmpA_neg f0 z0 f1 z1] at C4
  have hz := cmpA_zero f0 z0 f1 z1 l0 l1
  have htr := cmpA_trans f0 z0 f1 z1 f2 z2 l0 l1 l2
  have hrr := cmpA_range f0 z0 f1 z1
  have hss := cmpA_range f1 z1 f2 z2
  have q := fun W => run_eq_addr f0 f1 z0 z1 W l0 l1
  have gd := guard_addr
  generalize cmpA f0 z0 f1 z1 = r at *
  generalize cmpA f1 z1 f2 z2 = s at *
  generalize cmpA f0 z0 f2 z2 = t at *
  obtain ⟨cs, ecs, HA, HW⟩ := addr_boxed f0 z0 w l0
  obtain ⟨ds, eds, HB, HW'⟩ := addr_boxed f1 z1 (w.alloc (.cells cs 25)) l1
  obtain ⟨es, ees, HC, HW''⟩ := addr_boxed f2 z2 ((w.alloc (.cells cs 25)).alloc (.cells ds 25)) l2
  rw [heap_alloc] at HB
  rw [heap_alloc, heap_alloc] at HC
  have HA0 := Lib.hid ((HA.out.alloc (.cells ds 25)).alloc (.cells es 25))
  have HB0 := Lib.hid (HB.out.alloc (.cells es 25))
  have HC0 := HC
  have HW0 := Lib.hid (chain (chain HW.out HW'.out) HW''.out)
  rw [ecs, eds, ees]
  clear htab l0 w0 ecs fw0 l1 w1 eds fw1 l2 w2 ees fw2 HA HB HC HW HW' HW''
  go_enter Tryd.func7, Tryd.ntmps7
  go_upto_region 1 with fail
  generalize (((w.alloc (.cells cs 25)).alloc (.cells ds 25)).alloc (.cells es 25)) = W at *
  have b1 : -1 ≤ r := by omega
  have b2 : r ≤ 1 := by omega
  have b3 : -1 ≤ s := by omega
  have b4 : s ≤ 1 := by omega
  have n1 : (r != r) = false := by simp
  have n2 : ((-r) != (-r)) = false := by simp
  clear hrr hss
  by_cases he : f0 = f1 ∧ z0 = z1
  · have q1 : ∀ W, (binOp .eql 25 (addrV f0 z0) (addrV f1 z1)).run Tryd.prog W = .ok (.bool true) W := fun W => by rw [q W, decide_eq_true he]
    obtain rfl : r = 0 := hz.2 he
    clear q hz he
    by_cases hs : 0 < s
    · have d1 : decide (0 < s) = true := by simp [hs]
      go_wp2_with (first | refine load_addr_g HA0 _ rfl rfl rfl ?_ | refine load_addr_g HB0 _ rfl rfl rfl ?_ | refine load_addr_g HC0 _ rfl rfl rfl ?_)
      refine (C1 _).out.mono ?_
      rintro e v1 ⟨rfl, hb1⟩
      have HA1 := Lib.hid (HA0.out.below hb1)
      have HB1 := Lib.hid (HB0.out.below hb1)
      have HC1 := Lib.hid (HC0.out.below hb1)
      have HW1 := Lib.hid (chain HW0.out hb1)
      clear HA0 HB0 HC0 HW0 hb1
      go_wp2_with (first | refine load_addr_g HA1 _ rfl rfl rfl ?_ | refine load_addr_g HB1 _ rfl rfl rfl ?_ | refine load_addr_g HC1 _ rfl rfl rfl ?_)
      refine (C2 _).out.mono ?_
      rintro e v2 ⟨rfl, hb2⟩
      have HA2 := Lib.hid (HA1.out.below hb2)
      have HB2 := Lib.hid (HB1.out.below hb2)
      have HC2 := Lib.hid (HC1.out.below hb2)
      have HW2 := Lib.hid (chain HW1.out hb2)
      clear HA1 HB1 HC1 HW1 hb2
      go_wp2_with (first | refine load_addr_g HA2 _ rfl rfl rfl ?_ | refine load_addr_g HB2 _ rfl rfl rfl ?_ | refine load_addr_g HC2 _ rfl rfl rfl ?_)
      refine (C3 _).out.mono ?_
      rintro e v3 ⟨rfl, hb3⟩
      have HA3 := Lib.hid (HA2.out.below hb3)
      have HB3 := Lib.hid (HB2.out.below hb3)
      have HC3 := Lib.hid (HC2.out.below hb3)
      have HW3 := Lib.hid (chain HW2.out hb3)
      clear HA2 HB2 HC2 HW2 hb3
      go_wp2_with (first | refine load_addr_g HA3 _ rfl rfl rfl ?_ | refine load_addr_g HB3 _ rfl rfl rfl ?_ | refine load_addr_g HC3 _ rfl rfl rfl ?_)
      refine (C4 _).out.mono ?_
      rintro e v4 ⟨rfl, hb4⟩
      have HA4 := Lib.hid (HA3.out.below hb4)
      have HB4 := Lib.hid (HB3.out.below hb4)
      have HC4 := Lib.hid (HC3.out.below hb4)
      have HW4 := Lib.hid (chain HW3.out hb4)
      clear HA3 HB3 HC3 HW3 hb4
      go_wp2_with (first | refine load_addr_g HA4 _ rfl rfl rfl ?_ | refine load_addr_g HB4 _ rfl rfl rfl ?_ | refine load_addr_g HC4 _ rfl rfl rfl ?_)
      refine (lives4_any _ (HT.out.below HW4.out)).mono ?_
      rintro e v6 ⟨rfl, hb6⟩
      go_wp2_with fail
      go_ret
      exact ⟨rfl, chain HW4.out hb6⟩
    · have ht : t ≤ 0 := htr (by omega) (by omega)
      have d1 : decide (0 < s) = false := by simp; omega
      have d2 : decide (t ≤ 0) = true := by simp [ht]
      clear htr
      go_wp2_with (first | refine load_addr_g HA0 _ rfl rfl rfl ?_ | refine load_addr_g HB0 _ rfl rfl rfl ?_ | refine load_addr_g HC0 _ rfl rfl rfl ?_)
      refine (C1 _).out.mono ?_
      rintro e v1 ⟨rfl, hb1⟩
      have HA1 := Lib.hid (HA0.out.below hb1)
      have HB1 := Lib.hid (HB0.out.below hb1)
      have HC1 := Lib.hid (HC0.out.below hb1)
      have HW1 := Lib.hid (chain HW0.out hb1)
      clear HA0 HB0 HC0 HW0 hb1
      go_wp2_with (first | refine load_addr_g HA1 _ rfl rfl rfl ?_ | refine load_addr_g HB1 _ rfl rfl rfl ?_ | refine load_addr_g HC1 _ rfl rfl rfl ?_)
      refine (C2 _).out.mono ?_
      rintro e v2 ⟨rfl, hb2⟩
      have HA2 := Lib.hid (HA1.out.below hb2)
      have HB2 := Lib.hid (HB1.out.below hb2)
      have HC2 := Lib.hid (HC1.out.below hb2)
      have HW2 := Lib.hid (chain HW1.out hb2)
      clear HA1 HB1 HC1 HW1 hb2
      go_wp2_with (first | refine load_addr_g HA2 _ rfl rfl rfl ?_ | refine load_addr_g HB2 _ rfl rfl rfl ?_ | refine load_addr_g HC2 _ rfl rfl rfl ?_)
      refine (C3 _).out.mono ?_
      rintro e v3 ⟨rfl, hb3⟩
      have HA3 := Lib.hid (HA2.out.below hb3)
      have HB3 := Lib.hid (HB2.out.below hb3)
      have HC3 := Lib.hid (HC2.out.below hb3)
      have HW3 := Lib.hid (chain HW2.out hb3)
      clear HA2 HB2 HC2 HW2 hb3
      go_wp2_with (first | refine load_addr_g HA3 _ rfl rfl rfl ?_ | refine load_addr_g HB3 _ rfl rfl rfl ?_ | refine load_addr_g HC3 _ rfl rfl rfl ?_)
      refine (C4 _).out.mono ?_
      rintro e v4 ⟨rfl, hb4⟩
      have HA4 := Lib.hid (HA3.out.below hb4)
      have HB4 := Lib.hid (HB3.out.below hb4)
      have HC4 := Lib.hid (HC3.out.below hb4)
      have HW4 := Lib.hid (chain HW3.out hb4)
      clear HA3 HB3 HC3 HW3 hb4
      go_wp2_with (first | refine load_addr_g HA4 _ rfl rfl rfl ?_ | refine load_addr_g HB4 _ rfl rfl rfl ?_ | refine load_addr_g HC4 _ rfl rfl rfl ?_)
      refine (C5 _).out.mono ?_
      rintro e v5 ⟨rfl, hb5⟩
      have HA5 := Lib.hid (HA4.out.below hb5)
      have HB5 := Lib.hid (HB4.out.below hb5)
      have HC5 := Lib.hid (HC4.out.below hb5)
      have HW5 := Lib.hid (chain HW4.out hb5)
      clear HA4 HB4 HC4 HW4 hb5
      go_wp2_with fail
      refine (lives4_any _ (HT.out.below HW5.out)).mono ?_
      rintro e v6 ⟨rfl, hb6⟩
      go_wp2_with fail
      go_ret
      exact ⟨rfl, chain HW5.out hb6⟩
  · have q1 : ∀ W, (binOp .eql 25 (addrV f0 z0) (addrV f1 z1)).run Tryd.prog W = .ok (.bool false) W := fun W => by rw [q W, decide_eq_false he]
    have hr0 : r ≠ 0 := fun e => he (hz.1 e)
    have r0 : (r == 0) = false := by simp [hr0]
    clear q hz he
    by_cases hr : 0 < r
    · have d0 : decide (0 < r) = true := by simp [hr]
      clear hr0 htr
      go_wp2_with (first | refine load_addr_g HA0 _ rfl rfl rfl ?_ | refine load_addr_g HB0 _ rfl rfl rfl ?_ | refine load_addr_g HC0 _ rfl rfl rfl ?_)
      refine (C1 _).out.mono ?_
      rintro e v1 ⟨rfl, hb1⟩
      have HA1 := Lib.hid (HA0.out.below hb1)
      have HB1 := Lib.hid (HB0.out.below hb1)
      have HC1 := Lib.hid (HC0.out.below hb1)
      have HW1 := Lib.hid (chain HW0.out hb1)
      clear HA0 HB0 HC0 HW0 hb1
      go_wp2_with (first | refine load_addr_g HA1 _ rfl rfl rfl ?_ | refine load_addr_g HB1 _ rfl rfl rfl ?_ | refine load_addr_g HC1 _ rfl rfl rfl ?_)
      refine (C2 _).out.mono ?_
      rintro e v2 ⟨rfl, hb2⟩
      have HA2 := Lib.hid (HA1.out.below hb2)
      have HB2 := Lib.hid (HB1.out.below hb2)
      have HC2 := Lib.hid (HC1.out.below hb2)
      have HW2 := Lib.hid (chain HW1.out hb2)
      clear HA1 HB1 HC1 HW1 hb2
      go_wp2_with (first | refine load_addr_g HA2 _ rfl rfl rfl ?_ | refine load_addr_g HB2 _ rfl rfl rfl ?_ | refine load_addr_g HC2 _ rfl rfl rfl ?_)
      refine (C3 _).out.mono ?_
      rintro e v3 ⟨rfl, hb3⟩
      have HA3 := Lib.hid (HA2.out.below hb3)
      have HB3 := Lib.hid (HB2.out.below hb3)
      have HC3 := Lib.hid (HC2.out.below hb3)
      have HW3 := Lib.hid (chain HW2.out hb3)
      clear HA2 HB2 HC2 HW2 hb3
      go_wp2_with (first | refine load_addr_g HA3 _ rfl rfl rfl ?_ | refine load_addr_g HB3 _ rfl rfl rfl ?_ | refine load_addr_g HC3 _ rfl rfl rfl ?_)
      refine (C4 _).out.mono ?_
      rintro e v4 ⟨rfl, hb4⟩
      have HA4 := Lib.hid (HA3.out.below hb4)
      have HB4 := Lib.hid (HB3.out.below hb4)
      have HC4 := Lib.hid (HC3.out.below hb4)
      have HW4 := Lib.hid (chain HW3.out hb4)
      clear HA3 HB3 HC3 HW3 hb4
      go_wp2_with (first | refine load_addr_g HA4 _ rfl rfl rfl ?_ | refine load_addr_g HB4 _ rfl rfl rfl ?_ | refine load_addr_g HC4 _ rfl rfl rfl ?_)
      refine (lives4_any _ (HT.out.below HW4.out)).mono ?_
      rintro e v6 ⟨rfl, hb6⟩
      go_wp2_with fail
      go_ret
      exact ⟨rfl, chain HW4.out hb6⟩
    · have d0 : decide (0 < r) = false := by simp; omega
      by_cases hs : 0 < s
      · have d1 : decide (0 < s) = true := by simp [hs]
        clear hr0 htr
        go_wp2_with (first | refine load_addr_g HA0 _ rfl rfl rfl ?_ | refine load_addr_g HB0 _ rfl rfl rfl ?_ | refine load_addr_g HC0 _ rfl rfl rfl ?_)
        refine (C1 _).out.mono ?_
        rintro e v1 ⟨rfl, hb1⟩
        have HA1 := Lib.hid (HA0.out.below hb1)
        have HB1 := Lib.hid (HB0.out.below hb1)
        have HC1 := Lib.hid (HC0.out.below hb1)
        have HW1 := Lib.hid (chain HW0.out hb1)
        clear HA0 HB0 HC0 HW0 hb1
        go_wp2_with (first | refine load_addr_g HA1 _ rfl rfl rfl ?_ | refine load_addr_g HB1 _ rfl rfl rfl ?_ | refine load_addr_g HC1 _ rfl rfl rfl ?_)
        refine (C2 _).out.mono ?_
        rintro e v2 ⟨rfl, hb2⟩
        have HA2 := Lib.hid (HA1.out.below hb2)
        have HB2 := Lib.hid (HB1.out.below hb2)
        have HC2 := Lib.hid (HC1.out.below hb2)
        have HW2 := Lib.hid (chain HW1.out hb2)
        clear HA1 HB1 HC1 HW1 hb2
        go_wp2_with (first | refine load_addr_g HA2 _ rfl rfl rfl ?_ | refine load_addr_g HB2 _ rfl rfl rfl ?_ | refine load_addr_g HC2 _ rfl rfl rfl ?_)
        refine (C3 _).out.mono ?_
        rintro e v3 ⟨rfl, hb3⟩
        have HA3 := Lib.hid (HA2.out.below hb3)
        have HB3 := Lib.hid (HB2.out.below hb3)
        have HC3 := Lib.hid (HC2.out.below hb3)
        have HW3 := Lib.hid (chain HW2.out hb3)
        clear HA2 HB2 HC2 HW2 hb3
        go_wp2_with (first | refine load_addr_g HA3 _ rfl rfl rfl ?_ | refine load_addr_g HB3 _ rfl rfl rfl ?_ | refine load_addr_g HC3 _ rfl rfl rfl ?_)
        refine (C4 _).out.mono ?_
        rintro e v4 ⟨rfl, hb4⟩
        have HA4 := Lib.hid (HA3.out.below hb4)
        have HB4 := Lib.hid (HB3.out.below hb4)
        have HC4 := Lib.hid (HC3.out.below hb4)
        have HW4 := Lib.hid (chain HW3.out hb4)
        clear HA3 HB3 HC3 HW3 hb4
        go_wp2_with (first | refine load_addr_g HA4 _ rfl rfl rfl ?_ | refine load_addr_g HB4 _ rfl rfl rfl ?_ | refine load_addr_g HC4 _ rfl rfl rfl ?_)
        refine (lives4_any _ (HT.out.below HW4.out)).mono ?_
        rintro e v6 ⟨rfl, hb6⟩
        go_wp2_with fail
        go_ret
        exact ⟨rfl, chain HW4.out hb6⟩
      · have ht : t ≤ 0 := htr (by omega) (by omega)
        have d1 : decide (0 < s) = false := by simp; omega
        have d2 : decide (t ≤ 0) = true := by simp [ht]
        clear hr0 htr
        go_wp2_with (first | refine load_addr_g HA0 _ rfl rfl rfl ?_ | refine load_addr_g HB0 _ rfl rfl rfl ?_ | refine load_addr_g HC0 _ rfl rfl rfl ?_)
        refine (C1 _).out.mono ?_
        rintro e v1 ⟨rfl, hb1⟩
        have HA1 := Lib.hid (HA0.out.below hb1)
        have HB1 := Lib.hid (HB0.out.below hb1)
        have HC1 := Lib.hid (HC0.out.below hb1)
        have HW1 := Lib.hid (chain HW0.out hb1)
        clear HA0 HB0 HC0 HW0 hb1
        go_wp2_with (first | refine load_addr_g HA1 _ rfl rfl rfl ?_ | refine load_addr_g HB1 _ rfl rfl rfl ?_ | refine load_addr_g HC1 _ rfl rfl rfl ?_)
        refine (C2 _).out.mono ?_
        rintro e v2 ⟨rfl, hb2⟩
        have HA2 := Lib.hid (HA1.out.below hb2)
        have HB2 := Lib.hid (HB1.out.below hb2)
        have HC2 := Lib.hid (HC1.out.below hb2)
        have HW2 := Lib.hid (chain HW1.out hb2)
        clear HA1 HB1 HC1 HW1 hb2
        go_wp2_with (first | refine load_addr_g HA2 _ rfl rfl rfl ?_ | refine load_addr_g HB2 _ rfl rfl rfl ?_ | refine load_addr_g HC2 _ rfl rfl rfl ?_)
        refine (C3 _).out.mono ?_
        rintro e v3 ⟨rfl, hb3⟩
        have HA3 := Lib.hid (HA2.out.below hb3)
        have HB3 := Lib.hid (HB2.out.below hb3)
        have HC3 := Lib.hid (HC2.out.below hb3)
        have HW3 := Lib.hid (chain HW2.out hb3)
        clear HA2 HB2 HC2 HW2 hb3
        go_wp2_with (first | refine load_addr_g HA3 _ rfl rfl rfl ?_ | refine load_addr_g HB3 _ rfl rfl rfl ?_ | refine load_addr_g HC3 _ rfl rfl rfl ?_)
        refine (C4 _).out.mono ?_
        rintro e v4 ⟨rfl, hb4⟩
        have HA4 := Lib.hid (HA3.out.below hb4)
        have HB4 := Lib.hid (HB3.out.below hb4)
        have HC4 := Lib.hid (HC3.out.below hb4)
        have HW4 := Lib.hid (chain HW3.out hb4)
        clear HA3 HB3 HC3 HW3 hb4
        go_wp2_with (first | refine load_addr_g HA4 _ rfl rfl rfl ?_ | refine load_addr_g HB4 _ rfl rfl rfl ?_ | refine load_addr_g HC4 _ rfl rfl rfl ?_)
        refine (C5 _).out.mono ?_
        rintro e v5 ⟨rfl, hb5⟩
        have HA5 := Lib.hid (HA4.out.below hb5)
        have HB5 := Lib.hid (HB4.out.below hb5)
        have HC5 := Lib.hid (HC4.out.below hb5)
        have HW5 := Lib.hid (chain HW4.out hb5)
        clear HA4 HB4 HC4 HW4 hb5
        go_wp2_with fail
        refine (lives4_any _ (HT.out.below HW5.out)).mono ?_
        rintro e v6 ⟨rfl, hb6⟩
        go_wp2_with fail
        go_ret
        exact ⟨rfl, chain HW5.out hb6⟩

theorem door_met (os : Os) (args : Array Value) : laidMetH Tryd.prog Rows.addrRowRow.laid ((World.doorLaid Tryd.prog 400 os).forCall (fun _ _ => 0) ⟨#[], args, []⟩).memory :=
  laidMetH_of_parts3 (fuel := 8) (laidMet_of_run' 8 (by kernel_rfl) (by kernel_rfl)) (by kernel_rfl) (by kernel_rfl)

set_option maxRecDepth 100000 in
theorem lifted (os : Os) (started : os.Started) (H : Type) (enc : TypeId × Value → H) :
    ReturnsInHanded {} Tryd.checked os 7 .any (fun w args => (Rows.addrRowSpec.pre enc Tryd.prog Tryd.f7 [] false w args ∧ laidMetH Tryd.prog Rows.addrRowRow.laid w) ∧ sizedMet enc Tryd.prog Tryd.f7 (OpenSpec.ofChange Rows.addrRowSpec) false w args)
      (Rows.addrRowSpec.post enc Tryd.prog Tryd.f7 false true false false) := by
  refine handed_shaped (C := Tryd.checked) (X := fun w _ => laidMetH Tryd.prog Rows.addrRowRow.laid w) (fun _ _ _ hh h => h.of_heap hh) own started (by kernel_rfl) Tryd.func7
    (ChangeSpec.witness_shaped (enc := enc) (C := Tryd.checked) (os := os) (X := fun w _ => laidMetH Tryd.prog Rows.addrRowRow.laid w) false (World.doorLaid Tryd.prog 400 os) #[.agg #[.int .i64 0, .int .u8 0, .int .u8 0, .int .u8 0, .int .u8 0, .int .u8 0, .int .u8 0, .int .u8 0, .int .u8 0, .int .u8 0, .int .u8 0, .int .u8 0, .int .u8 0, .int .u8 0, .int .u8 0, .int .u8 0, .int .u8 0], .agg #[.int .i64 0, .int .u8 0, .int .u8 0, .int .u8 0, .int .u8 0, .int .u8 0, .int .u8 0, .int .u8 0, .int .u8 0, .int .u8 0, .int .u8 0, .int .u8 0, .int .u8 0, .int .u8 0, .int .u8 0, .int .u8 0, .int .u8 0], .agg #[.int .i64 0, .int .u8 0, .int .u8 0, .int .u8 0, .int .u8 0, .int .u8 0, .int .u8 0, .int .u8 0, .int .u8 0, .int .u8 0, .int .u8 0, .int .u8 0, .int .u8 0, .int .u8 0, .int .u8 0, .int .u8 0, .int .u8 0]] 8 rfl (World.shaped_of_RefB (by kernel_rfl) (by kernel_rfl)) (by kernel_rfl) (by kernel_rfl) (by kernel_rfl) (door_met os _)) ?_
  intro W base args ds gs before hval0 hW hL hsh
  have hval : ∀ (j : Nat) t v, Tryd.f7.params[j]? = some t → args[j]? = some v → Value.okWide Tryd.prog W .any base t v := hval0
  have hW' := hW
  obtain ⟨p, q, hA0, hV, rfl, hfz, hnd⟩ := hW
  have hA : DataW.TrodAll enc Tryd.prog W 0 (fun _ => true) true Tryd.f7.params.toList args.toList ds p := hA0
  rw [Tryd.params7] at hA hval
  obtain ⟨v0, vs0, d0, ds0, p0, q0, hargs, rfl, rfl, h0, r0⟩ := trodAll_cons hA
  obtain ⟨v1, vs1, d1, ds1, p1, q1, rfl, rfl, rfl, h1, r1⟩ := trodAll_cons r0
  obtain ⟨v2, vs2, d2, ds2, p2, q2, rfl, rfl, rfl, h2, r2⟩ := trodAll_cons r1
  obtain ⟨rfl, rfl, rfl⟩ := trodAll_nil r2
  obtain rfl : args = #[v0, v1, v2] := by cases args; simp_all
  obtain ⟨rfl, rfl⟩ := trodVars_none hV
  have k0 := h0
  have lt0 : ∀ x ∈ p0, x.block < W.heap.size := by obtain ⟨m, hm⟩ := k0; exact DataW.trod_lt m _ _ _ hm
  obtain ⟨f0, z0, rfl, fw0, l0, w0⟩ := open_addr (hval 0 25 v0 rfl rfl) h0
  have k1 := h1
  have lt1 : ∀ x ∈ p1, x.block < W.heap.size := by obtain ⟨m, hm⟩ := k1; exact DataW.trod_lt m _ _ _ hm
  obtain ⟨f1, z1, rfl, fw1, l1, w1⟩ := open_addr (hval 1 25 v1 rfl rfl) h1
  have k2 := h2
  have lt2 : ∀ x ∈ p2, x.block < W.heap.size := by obtain ⟨m, hm⟩ := k2; exact DataW.trod_lt m _ _ _ hm
  obtain ⟨f2, z2, rfl, fw2, l2, w2⟩ := open_addr (hval 2 25 v2 rfl rfl) h2
  clear hA0 hval0
  refine (walk f0 z0 f1 z1 f2 z2 fw0 l0 w0 fw1 l1 w1 fw2 l2 w2 W (tabs_of Rows.addrRowRow.laid rfl hL hsh)).mono fun e W' ⟨he, bel⟩ => ?_
  subst he
  exact ⟨_, rfl, _, _, _, [], _, [], hW', trodAll_mk1 (shut_bool Tryd.underlying4 _), (trodAll_cons_mk (Below.trod laidOut (by kernel_rfl) (of_decide_eq_true (by kernel_rfl)) k0 bel lt0) (trodAll_cons_mk (Below.trod laidOut (by kernel_rfl) (of_decide_eq_true (by kernel_rfl)) k1 bel lt1) (trodAll_cons_mk (Below.trod laidOut (by kernel_rfl) (of_decide_eq_true (by kernel_rfl)) k2 bel lt2) trodAll_mk0))), rfl, bel.frame _, fun h => by cases h⟩

theorem over : Rows.AddrRowSaid :=
  OpenClaim.holds_of_wide 7 Tryd.f7 rfl rfl rfl rfl rfl rfl rfl ⟨rfl, rfl, rfl, rfl, rfl⟩ rfl rfl rfl rfl rfl (by kernel_rfl) Tryd.func7 (by kernel_rfl)
    (of_decide_eq_true (by kernel_rfl)) (by unfold Func.isWrapper; first | (rw [if_pos (by decide +kernel)]; kernel_rfl) | (rw [if_neg (by decide +kernel)]; exact ⟨rfl, rfl⟩))
    (fun os started H enc _ => lifted os started H enc)


theorem proved : Rows.AddrRowCardSaid :=
  Claim7.holds_tied_plain_at .later [] [.data, .data, .data] true _ false
    over (fun _ h => by cases h) (by kernel_rfl) (fun _ h => by cases h) addrRow_row_tie rfl ⟨rfl, rfl⟩ (by kernel_rfl) rfl
    (fun f fn hf hfn => by
      obtain rfl : f = 7 := Option.some.inj ((show Tryd.prog.funcNamed "abatis/abatislaw04.AddrRow" = some 7 by kernel_rfl).symm.trans hf) |>.symm
      obtain rfl : fn = Tryd.f7 := (Option.some.inj (Tryd.func7.symm.trans hfn)).symm
      exact ⟨by kernel_rfl, fun j t ht => by
        rw [Tryd.params7] at ht
        have hm : t ∈ [25, 25, 25] := by simpa using Array.mem_of_getElem? ht
        have hall : ([25, 25, 25].all fun u => !Tryd.prog.wantsStandIn u) = true := by kernel_rfl
        exact (show Tryd.prog.wantsStandIn t = false by simpa using List.all_eq_true.1 hall t hm)⟩)
    (by kernel_rfl)
#print axioms proved
end Go.Proofs.YtickghbjhiegnaaDoor.addrRow
