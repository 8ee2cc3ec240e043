/- The row of prefixes that the landed cidr.Compare tells is the document's, and an order; one that is within another one stands behind it; for every three prefixes. A tied card: three tables of the library hold what the program lays in them. -/
import Derived.Test.YtpgjkeakhjnckaaDoorB8
import Derived.Test.YtpgjkeakhjnckaaDoorTie
import Derived.Test.YtpgjkeakhjnckaaDoorCards
import Derived.ProofKit
import Derived.OpenShut
import Derived.ShutString
import Derived.ChangeOld
import Derived.Below
namespace Go.Proofs.YtpgjkeakhjnckaaDoor.cidrRow
open Go.ChangeShapes Go.WideShapes Go.ChangeAt Go.RowKit
open Go.ChangeMaps (open_string shut_string)
set_option linter.unusedVariables false
set_option maxRecDepth 20000

theorem own : ownKnob Tryd.prog.godebug = none := by kernel_rfl

theorem prefs3_boxed (f : Int) (ps : List Nat) (n : Int) (g : Int) (qs : List Nat) (m : Int) (k : Int) (rs : List Nat) (l : Int) (w : World) (hp : ps.length = 16) (hq : qs.length = 16) (hr : rs.length = 16) :
    ∃ cs ds es : Array Value, prefV f ps n = .agg cs ∧ prefV g qs m = .agg ds ∧ prefV k rs l = .agg es ∧
      Hid (PrefAt (((w.alloc (.cells cs 26)).alloc (.cells ds 26)).alloc (.cells es 26)) w.heap.size f ps n) ∧ Hid (PrefAt (((w.alloc (.cells cs 26)).alloc (.cells ds 26)).alloc (.cells es 26)) (w.heap.size + 1) g qs m) ∧
      Hid (PrefAt (((w.alloc (.cells cs 26)).alloc (.cells ds 26)).alloc (.cells es 26)) (w.heap.size + 1 + 1) k rs l) ∧
      Hid (Below w.heap.size w (((w.alloc (.cells cs 26)).alloc (.cells ds 26)).alloc (.cells es 26))) := by
  obtain ⟨cs, ds, ecs, eds, H1, H2, HB⟩ := prefs_boxed f ps n g qs m w hp hq
  obtain ⟨es, ees, H3, HB'⟩ := pref_boxed k rs l ((w.alloc (.cells cs 26)).alloc (.cells ds 26)) hr
  rw [heap_alloc, heap_alloc] at H3
  exact ⟨cs, ds, es, ecs, eds, ees, Lib.hid (H1.out.alloc _), Lib.hid (H2.out.alloc _), H3, Lib.hid (chain HB.out HB'.out)⟩
set_option maxRecDepth 100000 in
set_option maxHeartbeats 4000000 in
theorem walk (f0 : Int) (z0 : List Nat) (n0 : Int) (f1 : Int) (z1 : List Nat) (n1 : Int) (f2 : Int) (z2 : List Nat) (n2 : Int) (fw0 : (Lit.int .i64 f0).wf = true) (l0 : z0.length = 16) (w0 : ∀ x ∈ z0, x < 256) (nw0 : (Lit.int .i64 n0).wf = true) (fw1 : (Lit.int .i64 f1).wf = true) (l1 : z1.length = 16) (w1 : ∀ x ∈ z1, x < 256) (nw1 : (Lit.int .i64 n1).wf = true) (fw2 : (Lit.int .i64 f2).wf = true) (l2 : z2.length = 16) (w2 : ∀ x ∈ z2, x < 256) (nw2 : (Lit.int .i64 n2).wf = true) (w : World) (htab : Tabs w) :
    Calls Tryd.prog 7 #[prefV f0 z0 n0, prefV f1 z1 n1, prefV f2 z2 n2] w fun e w' => e = .returned (.bool true) ∧ Below w.heap.size w w' := by
  have HT := Lib.hid htab
  have hp := goodP_is f0 z0 n0
  have hq := goodP_is f1 z1 n1
  have hr := goodP_is f2 z2 n2
  have HG0 := fun W => Lib.hid (refGoodP_any f0 z0 n0 W l0 w0 nw0)
  have HG1 := fun W => Lib.hid (refGoodP_any f1 z1 n1 W l1 w1 nw1)
  have HG2 := fun W => Lib.hid (refGoodP_any f2 z2 n2 W l2 w2 nw2)
  generalize goodF f0 = F at *
  generalize goodP f0 z0 n0 = P at *
  generalize goodN f0 n0 = n at *
  generalize goodF f1 = G at *
  generalize goodP f1 z1 n1 = Q at *
  generalize goodN f1 n1 = m at *
  generalize goodF f2 = K at *
  generalize goodP f2 z2 n2 = R at *
  generalize goodN f2 n2 = l at *
  have hN := bitsN_le F
  have hM := bitsN_le G
  have hn := hp.le
  have hm := hq.le
  have HLP := Lib.hid hp.len
  have HLQ := Lib.hid hq.len
  have HLR := Lib.hid hr.len
  have HC := fun W => Lib.hid (cidrCompare_any F P (n : Int) G Q (m : Int) W hp.len hq.len hp.lt hq.lt)
  have HCR := fun W => Lib.hid (refCompareP_any F P (n : Int) G Q (m : Int) W hp.len hq.len)
  have HCN := fun W => Lib.hid (cidrCompare_any G Q (m : Int) F P (n : Int) W hq.len hp.len hq.lt hp.lt)
  rw [cmpP_neg F P (n : Int) G Q (m : Int)] at HCN
  have HCD := fun W => Lib.hid (cidrCompare_any G Q (m : Int) K R (l : Int) W hq.len hr.len hq.lt hr.lt)
  have HCT := fun W => Lib.hid (cidrCompare_any F P (n : Int) K R (l : Int) W hp.len hr.len hp.lt hr.lt)
  have HPQ := fun W => Lib.hid (cidrWithin_any F P (n : Int) G Q (m : Int) W hp.len hq.len hp.lt (wf_small (by omega)))
  have HZ := Lib.hid (cmpP_zero F P (n : Int) G Q (m : Int) hp.len hq.len)
  have HTR := Lib.hid (cmpP_trans F P (n : Int) G Q (m : Int) K R (l : Int) hp.len hq.len hr.len)
  have HWR := Lib.hid (within_row hp hq)
  have hrg := cmpP_range F P (n : Int) G Q (m : Int)
  have hrd := cmpP_range G Q (m : Int) K R (l : Int)
  have hrt := cmpP_range F P (n : Int) K R (l : Int)
  generalize withinR F P (n : Int) G Q (m : Int) = x at *
  generalize cmpP F P (n : Int) G Q (m : Int) = c at *
  generalize cmpP G Q (m : Int) K R (l : Int) = d at *
  generalize cmpP F P (n : Int) K R (l : Int) = t at *
  have HRG := Lib.hid hrg
  have HRD := Lib.hid hrd
  have HRT := Lib.hid hrt
  obtain ⟨cs, ds, es, ecs, eds, ees, H1, H2, H3, HB⟩ := prefs3_boxed f0 z0 n0 f1 z1 n1 f2 z2 n2 w l0 l1 l2
  rw [ecs, eds, ees]
  clear ecs eds ees l0 w0 l1 w1 l2 w2 hp hq hr htab nw0 fw0 fw1 nw1 fw2 nw2 hrg hrd hrt
  go_enter Tryd.func7, Tryd.ntmps7
  go_upto_region 1 with fail
  generalize (((w.alloc (.cells cs 26)).alloc (.cells ds 26)).alloc (.cells es 26)) = W at *
  go_wp2_with (refine load_pref_g H1 _ rfl rfl rfl ?_)
  refine (HG0 _).out.mono ?_
  rintro e w1 ⟨rfl, hb1⟩
  replace H1 := Lib.hid (H1.out.below hb1)
  replace H2 := Lib.hid (H2.out.below hb1)
  replace H3 := Lib.hid (H3.out.below hb1)
  replace HB := Lib.hid (chain HB.out hb1)
  clear hb1 HG0
  go_upto_region 2 with (refine store_pref H1 _ _ HLP rfl rfl rfl rfl (fun W1 HW1 H1n => ?_))
  replace H2 := Lib.hid (show PrefAt W1 (w.heap.size + 1) f1 z1 n1 by rw [HW1.out]; exact H2.out.apart (by omega) _)
  replace H3 := Lib.hid (show PrefAt W1 (w.heap.size + 1 + 1) f2 z2 n2 by rw [HW1.out]; exact H3.out.apart (by omega) _)
  replace HB := Lib.hid (show Below w.heap.size w W1 by rw [HW1.out]; exact below_cells (by omega) _ _ _ HB.out)
  clear HW1 H1
  have H1 := H1n
  clear H1n
  go_wp2_with (refine load_pref_g H2 _ rfl rfl rfl ?_)
  refine (HG1 _).out.mono ?_
  rintro e w2 ⟨rfl, hb2⟩
  replace H1 := Lib.hid (H1.out.below hb2)
  replace H2 := Lib.hid (H2.out.below hb2)
  replace H3 := Lib.hid (H3.out.below hb2)
  replace HB := Lib.hid (chain HB.out hb2)
  clear hb2 HG1
  go_upto_region 3 with (refine store_pref H2 _ _ HLQ rfl rfl rfl rfl (fun W2 HW2 H2n => ?_))
  replace H1 := Lib.hid (show PrefAt W2 w.heap.size F P (n : Int) by rw [HW2.out]; exact H1.out.apart (by omega) _)
  replace H3 := Lib.hid (show PrefAt W2 (w.heap.size + 1 + 1) f2 z2 n2 by rw [HW2.out]; exact H3.out.apart (by omega) _)
  replace HB := Lib.hid (show Below w.heap.size w W2 by rw [HW2.out]; exact below_cells (by omega) _ _ _ HB.out)
  clear HW2 H2
  have H2 := H2n
  clear H2n
  go_wp2_with (refine load_pref_g H3 _ rfl rfl rfl ?_)
  refine (HG2 _).out.mono ?_
  rintro e w3 ⟨rfl, hb3⟩
  replace H1 := Lib.hid (H1.out.below hb3)
  replace H2 := Lib.hid (H2.out.below hb3)
  replace H3 := Lib.hid (H3.out.below hb3)
  replace HB := Lib.hid (chain HB.out hb3)
  clear hb3 HG2
  go_upto_region 4 with (refine store_pref H3 _ _ HLR rfl rfl rfl rfl (fun W3 HW3 H3n => ?_))
  replace H1 := Lib.hid (show PrefAt W3 w.heap.size F P (n : Int) by rw [HW3.out]; exact H1.out.apart (by omega) _)
  replace H2 := Lib.hid (show PrefAt W3 (w.heap.size + 1) G Q (m : Int) by rw [HW3.out]; exact H2.out.apart (by omega) _)
  replace HB := Lib.hid (show Below w.heap.size w W3 by rw [HW3.out]; exact below_cells (by omega) _ _ _ HB.out)
  clear HW3 H3
  have H3 := H3n
  clear H3n
  obtain ⟨L, hL⟩ : ∃ L, [(w.heap.size, 0, prefL F P (n : Int)), (w.heap.size, 0, addrL F P), (w.heap.size + 1, 0, prefL G Q (m : Int)), (w.heap.size + 1, 0, addrL G Q), (w.heap.size + 1 + 1, 0, prefL K R (l : Int)), (w.heap.size + 1 + 1, 0, addrL K R)] = L := ⟨_, rfl⟩
  have HS := Lib.hid (show HeldR L w W3 by rw [← hL]; exact (((HeldR.nil HB.out).pref H3.out).pref H2.out).pref H1.out)
  have Mp3 := Lib.hid (show InP L w.heap.size F P (n : Int) from ⟨by rw [← hL]; simp, HLP.out⟩)
  have Mp4 := Lib.hid (show InP L (w.heap.size + 1) G Q (m : Int) from ⟨by rw [← hL]; simp, HLQ.out⟩)
  have Mp5 := Lib.hid (show InP L (w.heap.size + 1 + 1) K R (l : Int) from ⟨by rw [← hL]; simp, HLR.out⟩)
  clear hL H1 H2 H3 HB
  have gd := guard_pref
  have q1 := fun W => run_eq_pref F G P Q (n : Int) (m : Int) W HLP.out HLQ.out
  go_wp2_with (first | refine load_pref_h HS Mp3 _ rfl rfl rfl ?_ | refine load_pref_h HS Mp4 _ rfl rfl rfl ?_ | refine load_pref_h HS Mp5 _ rfl rfl rfl ?_)
  refine (HC _).out.mono ?_
  rintro e v4 ⟨rfl, hb4⟩
  replace HS := Lib.hid (HS.out.next hb4)
  clear hb4
  rcases HRG.out with hc | hc | hc
  · subst hc
    rw [show decide (F = G ∧ P = Q ∧ (n : Int) = (m : Int)) = false from decide_eq_false (fun h => absurd (HZ.out.2 h) (by decide))] at q1
    go_wp2_with (first | refine load_pref_h HS Mp3 _ rfl rfl rfl ?_ | refine load_pref_h HS Mp4 _ rfl rfl rfl ?_ | refine load_pref_h HS Mp5 _ rfl rfl rfl ?_)
    refine (HCR _).out.mono ?_
    rintro e v5 ⟨rfl, hb5⟩
    replace HS := Lib.hid (HS.out.next hb5)
    clear hb5
    go_wp2_with (first | refine load_pref_h HS Mp3 _ rfl rfl rfl ?_ | refine load_pref_h HS Mp4 _ rfl rfl rfl ?_ | refine load_pref_h HS Mp5 _ rfl rfl rfl ?_)
    refine (HCN _).out.mono ?_
    rintro e v6 ⟨rfl, hb6⟩
    replace HS := Lib.hid (HS.out.next hb6)
    clear hb6
    go_wp2_with (first | refine load_pref_h HS Mp3 _ rfl rfl rfl ?_ | refine load_pref_h HS Mp4 _ rfl rfl rfl ?_ | refine load_pref_h HS Mp5 _ rfl rfl rfl ?_)
    refine (HPQ _).out.mono ?_
    rintro e v7 ⟨rfl, hb7⟩
    replace HS := Lib.hid (HS.out.next hb7)
    clear hb7
    obtain rfl : x = false := by cases x with | false => rfl | true => exact absurd (HWR.out rfl) (by decide)
    go_wp2_with (first | refine load_pref_h HS Mp3 _ rfl rfl rfl ?_ | refine load_pref_h HS Mp4 _ rfl rfl rfl ?_ | refine load_pref_h HS Mp5 _ rfl rfl rfl ?_)
    refine (HCD _).out.mono ?_
    rintro e v8 ⟨rfl, hb8⟩
    replace HS := Lib.hid (HS.out.next hb8)
    clear hb8
    by_cases hd0 : 0 < d
    · have e1 : decide (0 < d) = true := by simp [hd0]
      go_wp2_with (first | refine load_pref_h HS Mp3 _ rfl rfl rfl ?_ | refine load_pref_h HS Mp4 _ rfl rfl rfl ?_ | refine load_pref_h HS Mp5 _ rfl rfl rfl ?_)
      refine (lives5_any _ (HT.out.below HS.out.bel)).mono ?_
      rintro e v9 ⟨rfl, hb9⟩
      go_wp2_with fail
      go_ret
      exact ⟨rfl, chain HS.out.bel hb9⟩
    · have e1 : decide (0 < d) = false := by simp; omega
      have ht0 : t ≤ 0 := HTR.out (by decide) (by omega)
      have e2 : decide (t ≤ 0) = true := by simp [ht0]
      go_wp2_with (first | refine load_pref_h HS Mp3 _ rfl rfl rfl ?_ | refine load_pref_h HS Mp4 _ rfl rfl rfl ?_ | refine load_pref_h HS Mp5 _ rfl rfl rfl ?_)
      refine (HCT _).out.mono ?_
      rintro e v9 ⟨rfl, hb9⟩
      replace HS := Lib.hid (HS.out.next hb9)
      clear hb9
      go_wp2_with (first | refine load_pref_h HS Mp3 _ rfl rfl rfl ?_ | refine load_pref_h HS Mp4 _ rfl rfl rfl ?_ | refine load_pref_h HS Mp5 _ rfl rfl rfl ?_)
      refine (lives5_any _ (HT.out.below HS.out.bel)).mono ?_
      rintro e v10 ⟨rfl, hb10⟩
      go_wp2_with fail
      go_ret
      exact ⟨rfl, chain HS.out.bel hb10⟩
  · subst hc
    rw [show decide (F = G ∧ P = Q ∧ (n : Int) = (m : Int)) = true from decide_eq_true (HZ.out.1 rfl)] at q1
    go_wp2_with (first | refine load_pref_h HS Mp3 _ rfl rfl rfl ?_ | refine load_pref_h HS Mp4 _ rfl rfl rfl ?_ | refine load_pref_h HS Mp5 _ rfl rfl rfl ?_)
    refine (HCR _).out.mono ?_
    rintro e v5 ⟨rfl, hb5⟩
    replace HS := Lib.hid (HS.out.next hb5)
    clear hb5
    go_wp2_with (first | refine load_pref_h HS Mp3 _ rfl rfl rfl ?_ | refine load_pref_h HS Mp4 _ rfl rfl rfl ?_ | refine load_pref_h HS Mp5 _ rfl rfl rfl ?_)
    refine (HCN _).out.mono ?_
    rintro e v6 ⟨rfl, hb6⟩
    replace HS := Lib.hid (HS.out.next hb6)
    clear hb6
    go_wp2_with (first | refine load_pref_h HS Mp3 _ rfl rfl rfl ?_ | refine load_pref_h HS Mp4 _ rfl rfl rfl ?_ | refine load_pref_h HS Mp5 _ rfl rfl rfl ?_)
    refine (HPQ _).out.mono ?_
    rintro e v7 ⟨rfl, hb7⟩
    replace HS := Lib.hid (HS.out.next hb7)
    clear hb7
    cases x with
    | false =>
      go_wp2_with (first | refine load_pref_h HS Mp3 _ rfl rfl rfl ?_ | refine load_pref_h HS Mp4 _ rfl rfl rfl ?_ | refine load_pref_h HS Mp5 _ rfl rfl rfl ?_)
      refine (HCD _).out.mono ?_
      rintro e v8 ⟨rfl, hb8⟩
      replace HS := Lib.hid (HS.out.next hb8)
      clear hb8
      by_cases hd0 : 0 < d
      · have e1 : decide (0 < d) = true := by simp [hd0]
        go_wp2_with (first | refine load_pref_h HS Mp3 _ rfl rfl rfl ?_ | refine load_pref_h HS Mp4 _ rfl rfl rfl ?_ | refine load_pref_h HS Mp5 _ rfl rfl rfl ?_)
        refine (lives5_any _ (HT.out.below HS.out.bel)).mono ?_
        rintro e v9 ⟨rfl, hb9⟩
        go_wp2_with fail
        go_ret
        exact ⟨rfl, chain HS.out.bel hb9⟩
      · have e1 : decide (0 < d) = false := by simp; omega
        have ht0 : t ≤ 0 := HTR.out (by decide) (by omega)
        have e2 : decide (t ≤ 0) = true := by simp [ht0]
        go_wp2_with (first | refine load_pref_h HS Mp3 _ rfl rfl rfl ?_ | refine load_pref_h HS Mp4 _ rfl rfl rfl ?_ | refine load_pref_h HS Mp5 _ rfl rfl rfl ?_)
        refine (HCT _).out.mono ?_
        rintro e v9 ⟨rfl, hb9⟩
        replace HS := Lib.hid (HS.out.next hb9)
        clear hb9
        go_wp2_with (first | refine load_pref_h HS Mp3 _ rfl rfl rfl ?_ | refine load_pref_h HS Mp4 _ rfl rfl rfl ?_ | refine load_pref_h HS Mp5 _ rfl rfl rfl ?_)
        refine (lives5_any _ (HT.out.below HS.out.bel)).mono ?_
        rintro e v10 ⟨rfl, hb10⟩
        go_wp2_with fail
        go_ret
        exact ⟨rfl, chain HS.out.bel hb10⟩
    | true =>
      go_wp2_with (first | refine load_pref_h HS Mp3 _ rfl rfl rfl ?_ | refine load_pref_h HS Mp4 _ rfl rfl rfl ?_ | refine load_pref_h HS Mp5 _ rfl rfl rfl ?_)
      refine (HCD _).out.mono ?_
      rintro e v8 ⟨rfl, hb8⟩
      replace HS := Lib.hid (HS.out.next hb8)
      clear hb8
      by_cases hd0 : 0 < d
      · have e1 : decide (0 < d) = true := by simp [hd0]
        go_wp2_with (first | refine load_pref_h HS Mp3 _ rfl rfl rfl ?_ | refine load_pref_h HS Mp4 _ rfl rfl rfl ?_ | refine load_pref_h HS Mp5 _ rfl rfl rfl ?_)
        refine (lives5_any _ (HT.out.below HS.out.bel)).mono ?_
        rintro e v9 ⟨rfl, hb9⟩
        go_wp2_with fail
        go_ret
        exact ⟨rfl, chain HS.out.bel hb9⟩
      · have e1 : decide (0 < d) = false := by simp; omega
        have ht0 : t ≤ 0 := HTR.out (by decide) (by omega)
        have e2 : decide (t ≤ 0) = true := by simp [ht0]
        go_wp2_with (first | refine load_pref_h HS Mp3 _ rfl rfl rfl ?_ | refine load_pref_h HS Mp4 _ rfl rfl rfl ?_ | refine load_pref_h HS Mp5 _ rfl rfl rfl ?_)
        refine (HCT _).out.mono ?_
        rintro e v9 ⟨rfl, hb9⟩
        replace HS := Lib.hid (HS.out.next hb9)
        clear hb9
        go_wp2_with (first | refine load_pref_h HS Mp3 _ rfl rfl rfl ?_ | refine load_pref_h HS Mp4 _ rfl rfl rfl ?_ | refine load_pref_h HS Mp5 _ rfl rfl rfl ?_)
        refine (lives5_any _ (HT.out.below HS.out.bel)).mono ?_
        rintro e v10 ⟨rfl, hb10⟩
        go_wp2_with fail
        go_ret
        exact ⟨rfl, chain HS.out.bel hb10⟩
  · subst hc
    rw [show decide (F = G ∧ P = Q ∧ (n : Int) = (m : Int)) = false from decide_eq_false (fun h => absurd (HZ.out.2 h) (by decide))] at q1
    go_wp2_with (first | refine load_pref_h HS Mp3 _ rfl rfl rfl ?_ | refine load_pref_h HS Mp4 _ rfl rfl rfl ?_ | refine load_pref_h HS Mp5 _ rfl rfl rfl ?_)
    refine (HCR _).out.mono ?_
    rintro e v5 ⟨rfl, hb5⟩
    replace HS := Lib.hid (HS.out.next hb5)
    clear hb5
    go_wp2_with (first | refine load_pref_h HS Mp3 _ rfl rfl rfl ?_ | refine load_pref_h HS Mp4 _ rfl rfl rfl ?_ | refine load_pref_h HS Mp5 _ rfl rfl rfl ?_)
    refine (HCN _).out.mono ?_
    rintro e v6 ⟨rfl, hb6⟩
    replace HS := Lib.hid (HS.out.next hb6)
    clear hb6
    go_wp2_with (first | refine load_pref_h HS Mp3 _ rfl rfl rfl ?_ | refine load_pref_h HS Mp4 _ rfl rfl rfl ?_ | refine load_pref_h HS Mp5 _ rfl rfl rfl ?_)
    refine (HPQ _).out.mono ?_
    rintro e v7 ⟨rfl, hb7⟩
    replace HS := Lib.hid (HS.out.next hb7)
    clear hb7
    cases x with
    | false =>
      go_wp2_with (first | refine load_pref_h HS Mp3 _ rfl rfl rfl ?_ | refine load_pref_h HS Mp4 _ rfl rfl rfl ?_ | refine load_pref_h HS Mp5 _ rfl rfl rfl ?_)
      refine (lives5_any _ (HT.out.below HS.out.bel)).mono ?_
      rintro e v8 ⟨rfl, hb8⟩
      go_wp2_with fail
      go_ret
      exact ⟨rfl, chain HS.out.bel hb8⟩
    | true =>
      go_wp2_with (first | refine load_pref_h HS Mp3 _ rfl rfl rfl ?_ | refine load_pref_h HS Mp4 _ rfl rfl rfl ?_ | refine load_pref_h HS Mp5 _ rfl rfl rfl ?_)
      refine (lives5_any _ (HT.out.below HS.out.bel)).mono ?_
      rintro e v8 ⟨rfl, hb8⟩
      go_wp2_with fail
      go_ret
      exact ⟨rfl, chain HS.out.bel hb8⟩

theorem door_met (os : Os) (args : Array Value) : laidMetH Tryd.prog Rows.cidrRowRow.laid ((World.doorLaid Tryd.prog 400 os).forCall (fun _ _ => 0) ⟨#[], args, []⟩).memory :=
  laidMetH_of_parts3 (fuel := 8) (laidMet_of_run' 8 (by kernel_rfl) (by kernel_rfl)) (by kernel_rfl) (by kernel_rfl)

set_option maxRecDepth 100000 in
theorem lifted (os : Os) (started : os.Started) (H : Type) (enc : TypeId × Value → H) :
    ReturnsInHanded {} Tryd.checked os 7 .any (fun w args => (Rows.cidrRowSpec.pre enc Tryd.prog Tryd.f7 [] false w args ∧ laidMetH Tryd.prog Rows.cidrRowRow.laid w) ∧ sizedMet enc Tryd.prog Tryd.f7 (OpenSpec.ofChange Rows.cidrRowSpec) false w args)
      (Rows.cidrRowSpec.post enc Tryd.prog Tryd.f7 false true false false) := by
  refine handed_shaped (C := Tryd.checked) (X := fun w _ => laidMetH Tryd.prog Rows.cidrRowRow.laid w) (fun _ _ _ hh h => h.of_heap hh) own started (by kernel_rfl) Tryd.func7
    (ChangeSpec.witness_shaped (enc := enc) (C := Tryd.checked) (os := os) (X := fun w _ => laidMetH Tryd.prog Rows.cidrRowRow.laid w) false (World.doorLaid Tryd.prog 400 os) #[.agg #[.int .i64 0, .int .u8 0, .int .u8 0, .int .u8 0, .int .u8 0, .int .u8 0, .int .u8 0, .int .u8 0, .int .u8 0, .int .u8 0, .int .u8 0, .int .u8 0, .int .u8 0, .int .u8 0, .int .u8 0, .int .u8 0, .int .u8 0, .int .i64 0], .agg #[.int .i64 0, .int .u8 0, .int .u8 0, .int .u8 0, .int .u8 0, .int .u8 0, .int .u8 0, .int .u8 0, .int .u8 0, .int .u8 0, .int .u8 0, .int .u8 0, .int .u8 0, .int .u8 0, .int .u8 0, .int .u8 0, .int .u8 0, .int .i64 0], .agg #[.int .i64 0, .int .u8 0, .int .u8 0, .int .u8 0, .int .u8 0, .int .u8 0, .int .u8 0, .int .u8 0, .int .u8 0, .int .u8 0, .int .u8 0, .int .u8 0, .int .u8 0, .int .u8 0, .int .u8 0, .int .u8 0, .int .u8 0, .int .i64 0]] 8 rfl (World.shaped_of_RefB (by kernel_rfl) (by kernel_rfl)) (by kernel_rfl) (by kernel_rfl) (by kernel_rfl) (door_met os _)) ?_
  intro W base args ds gs before hval0 hW hL hsh
  have hval : ∀ (j : Nat) t v, Tryd.f7.params[j]? = some t → args[j]? = some v → Value.okWide Tryd.prog W .any base t v := hval0
  have hW' := hW
  obtain ⟨p, q, hA0, hV, rfl, hfz, hnd⟩ := hW
  have hA : DataW.TrodAll enc Tryd.prog W 0 (fun _ => true) true Tryd.f7.params.toList args.toList ds p := hA0
  rw [Tryd.params7] at hA hval
  obtain ⟨v0, vs0, d0, ds0, p0, q0, hargs, rfl, rfl, h0, r0⟩ := trodAll_cons hA
  obtain ⟨v1, vs1, d1, ds1, p1, q1, rfl, rfl, rfl, h1, r1⟩ := trodAll_cons r0
  obtain ⟨v2, vs2, d2, ds2, p2, q2, rfl, rfl, rfl, h2, r2⟩ := trodAll_cons r1
  obtain ⟨rfl, rfl, rfl⟩ := trodAll_nil r2
  obtain rfl : args = #[v0, v1, v2] := by cases args; simp_all
  obtain ⟨rfl, rfl⟩ := trodVars_none hV
  have k0 := h0
  have lt0 : ∀ x ∈ p0, x.block < W.heap.size := by obtain ⟨m, hm⟩ := k0; exact DataW.trod_lt m _ _ _ hm
  obtain ⟨f0, z0, n0, rfl, fw0, l0, w0, nw0⟩ := open_pref (hval 0 26 v0 rfl rfl) h0
  have k1 := h1
  have lt1 : ∀ x ∈ p1, x.block < W.heap.size := by obtain ⟨m, hm⟩ := k1; exact DataW.trod_lt m _ _ _ hm
  obtain ⟨f1, z1, n1, rfl, fw1, l1, w1, nw1⟩ := open_pref (hval 1 26 v1 rfl rfl) h1
  have k2 := h2
  have lt2 : ∀ x ∈ p2, x.block < W.heap.size := by obtain ⟨m, hm⟩ := k2; exact DataW.trod_lt m _ _ _ hm
  obtain ⟨f2, z2, n2, rfl, fw2, l2, w2, nw2⟩ := open_pref (hval 2 26 v2 rfl rfl) h2
  clear hA0 hval0
  refine (walk f0 z0 n0 f1 z1 n1 f2 z2 n2 fw0 l0 w0 nw0 fw1 l1 w1 nw1 fw2 l2 w2 nw2 W (tabs_of Rows.cidrRowRow.laid rfl hL hsh)).mono fun e W' ⟨he, bel⟩ => ?_
  subst he
  exact ⟨_, rfl, _, _, _, [], _, [], hW', trodAll_mk1 (shut_bool Tryd.underlying4 _), (trodAll_cons_mk (Below.trod laidOut (by kernel_rfl) (of_decide_eq_true (by kernel_rfl)) k0 bel lt0) (trodAll_cons_mk (Below.trod laidOut (by kernel_rfl) (of_decide_eq_true (by kernel_rfl)) k1 bel lt1) (trodAll_cons_mk (Below.trod laidOut (by kernel_rfl) (of_decide_eq_true (by kernel_rfl)) k2 bel lt2) trodAll_mk0))), rfl, bel.frame _, fun h => by cases h⟩

theorem over : Rows.CidrRowSaid :=
  OpenClaim.holds_of_wide 7 Tryd.f7 rfl rfl rfl rfl rfl rfl rfl ⟨rfl, rfl, rfl, rfl, rfl⟩ rfl rfl rfl rfl rfl (by kernel_rfl) Tryd.func7 (by kernel_rfl)
    (of_decide_eq_true (by kernel_rfl)) (by unfold Func.isWrapper; first | (rw [if_pos (by decide +kernel)]; kernel_rfl) | (rw [if_neg (by decide +kernel)]; exact ⟨rfl, rfl⟩))
    (fun os started H enc _ => lifted os started H enc)


theorem proved : Rows.CidrRowCardSaid :=
  Claim7.holds_tied_plain_at .later [] [.data, .data, .data] true _ false
    over (fun _ h => by cases h) (by kernel_rfl) (fun _ h => by cases h) cidrRow_row_tie rfl ⟨rfl, rfl⟩ (by kernel_rfl) rfl
    (fun f fn hf hfn => by
      obtain rfl : f = 7 := Option.some.inj ((show Tryd.prog.funcNamed "abatis/abatislaw05.CidrRow" = some 7 by kernel_rfl).symm.trans hf) |>.symm
      obtain rfl : fn = Tryd.f7 := (Option.some.inj (Tryd.func7.symm.trans hfn)).symm
      exact ⟨by kernel_rfl, fun j t ht => by
        rw [Tryd.params7] at ht
        have hm : t ∈ [26, 26, 26] := by simpa using Array.mem_of_getElem? ht
        have hall : ([26, 26, 26].all fun u => !Tryd.prog.wantsStandIn u) = true := by kernel_rfl
        exact (show Tryd.prog.wantsStandIn t = false by simpa using List.all_eq_true.1 hall t hm)⟩)
    (by kernel_rfl)
#print axioms proved
end Go.Proofs.YtpgjkeakhjnckaaDoor.cidrRow
