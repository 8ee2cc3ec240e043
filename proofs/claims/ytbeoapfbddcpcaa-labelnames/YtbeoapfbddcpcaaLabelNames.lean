/- For every text the statement LabelNames answers true: which names may be, their labels, parents and bytes, are the document's. -/
import Derived.Test.YtbeoapfbddcpcaaB5
import Derived.Test.YtbeoapfbddcpcaaRows
import Derived.ProofKit
import Derived.OpenShut
import Derived.ShutString
import Derived.ChangeOld
import Derived.Below
namespace Go.Proofs.Ytbeoapfbddcpcaa.labelNames
open Go.ChangeShapes Go.WideShapes Go.ChangeAt Go.RowKit
open Go.ChangeMaps (open_string shut_string)
set_option linter.unusedVariables false
set_option maxRecDepth 20000

theorem own : ownKnob Try.prog.godebug = none := by kernel_rfl

set_option maxRecDepth 100000 in
theorem same_nil (w : World) : Calls Try.prog 14 #[.slice none 0 0, .slice none 0 0] w fun e w' => e = .returned (.bool true) ∧ w' = w := by
  go_enter Try.func14, Try.ntmps14
  go_wp2_with fail
  go_loop [5] (fun i => i = .int .i64 0) (fun _ => 0)
  case atStart => rfl
  case round =>
    obtain rfl := hrel
    go_wp2_with fail
    go_ret
    exact ⟨rfl, rfl⟩
set_option maxRecDepth 100000 in
theorem same_nil2 (g d : Nat) (w : World) : Calls Try.prog 14 #[.slice none 0 0, .slice (some ⟨g, 0, none⟩) 0 d] w fun e w' => e = .returned (.bool true) ∧ w' = w := by
  go_enter Try.func14, Try.ntmps14
  go_wp2_with fail
  go_loop [5] (fun i => i = .int .i64 0) (fun _ => 0)
  case atStart => rfl
  case round =>
    obtain rfl := hrel
    go_wp2_with fail
    go_ret
    exact ⟨rfl, rfl⟩
set_option maxRecDepth 100000 in
theorem same_nil3 (g d : Nat) (w : World) : Calls Try.prog 14 #[.slice (some ⟨g, 0, none⟩) 0 d, .slice none 0 0] w fun e w' => e = .returned (.bool true) ∧ w' = w := by
  go_enter Try.func14, Try.ntmps14
  go_wp2_with fail
  go_loop [5] (fun i => i = .int .i64 0) (fun _ => 0)
  case atStart => rfl
  case round =>
    obtain rfl := hrel
    go_wp2_with fail
    go_ret
    exact ⟨rfl, rfl⟩
/-- Two rows of the same texts. -/
theorem same_rows {w : World} {a b : Option Addr} {c d : Nat} {l : List ByteArray} (ha : RowS w a c l) (hb : RowS w b d l) (hl : l.length ≤ 1000000) :
    Calls Try.prog 14 #[.slice a l.length c, .slice b l.length d] w fun e w' => e = .returned (.bool true) ∧ Below w.heap.size w w' := by
  rcases ha with ⟨rfl, rfl, rfl⟩ | ⟨g, rfl, ha⟩
  · rcases hb with ⟨rfl, rfl, _⟩ | ⟨h, rfl, hb⟩
    · refine (same_nil w).mono ?_
      rintro e w' ⟨rfl, rfl⟩
      exact ⟨rfl, Below.refl _ _⟩
    · refine (same_nil2 h d w).mono ?_
      rintro e w' ⟨rfl, rfl⟩
      exact ⟨rfl, Below.refl _ _⟩
  · rcases hb with ⟨rfl, rfl, rfl⟩ | ⟨h, rfl, hb⟩
    · refine (same_nil3 g c w).mono ?_
      rintro e w' ⟨rfl, rfl⟩
      exact ⟨rfl, Below.refl _ _⟩
    · refine (same_true g h l.length c d l w rfl hl (fun i hi => by
        rw [ha.cells i hi, List.getD_eq_getElem?_getD, List.getElem?_eq_getElem hi]; rfl) (fun i hi => by
        rw [hb.cells i hi, List.getD_eq_getElem?_getD, List.getElem?_eq_getElem hi]; rfl)).mono ?_
      rintro e w' ⟨rfl, q, rfl⟩
      exact ⟨rfl, belowN (Below.refl _ _) q⟩
set_option maxRecDepth 100000 in
set_option maxHeartbeats 2000000 in
theorem walk (a : ByteArray) (w0 : a.size ≤ maxLen) (w : World) :
    Calls Try.prog 3 #[.string a] w fun e w' => e = .returned (.bool true) ∧ Below w.heap.size w w' := by
  have HFA := Lib.hid (few_any a 300 w w0 (by decide))
  have ha := few_size a 300
  generalize few a 300 = s at *
  have HRM := fun W => Lib.hid (refMay8_any s W (by omega))
  have HBY := fun W => Lib.hid (bytes8_any s W (by omega))
  have HMA := fun W => Lib.hid (may_any s W (by omega))
  have HLA := fun W => Lib.hid (labels_any s W (by omega))
  have HRL := fun W => Lib.hid (refLabels_any s W (by omega))
  have HSM : ∀ (W : World) (x y : Option Addr) (c d : Nat), RowS W x c (labelsB s) → RowS W y d (labelsB s) → Hid (Calls Try.prog 14 #[.slice x (labelsB s).length c, .slice y (labelsB s).length d] W fun e w' => e = .returned (.bool true) ∧ Below W.heap.size W w') := fun W x y c d h1 h2 => Lib.hid (same_rows h1 h2 (by have := labels_len s; omega))
  have HPA := fun W => Lib.hid (parent_any s W (by omega))
  have HRR := fun W => Lib.hid (refRest_any s 1 W (by omega) (by decide))
  rw [rest_succ, rest_zero] at HRR
  have HLV := fun W => Lib.hid (lives8_any W)
  have HRB := fun (h : mayN s = true) W => Lib.hid (refBytes8_any s W (by omega) (fun p hp => Nat.le_trans (may_label h p hp).2 (by decide)))
  have HB8 := Lib.hid (show mayN s = true → bytes8 s = bytesL (labelsB s) ∧ errI s = 0 from fun h => ⟨by unfold bytes8; rw [if_pos h], by unfold errI; rw [if_pos h]⟩)
  have HB9 := Lib.hid (show mayN s = false → bytes8 s = [] ∧ errI s = 1 from fun h => ⟨by unfold bytes8; rw [h]; rfl, by unfold errI; rw [h]; rfl⟩)
  have hpe : ((parB s).toList == (parB s).toList) = true := by simp
  generalize parB s = P at *
  generalize bytes8 s = bl at *
  generalize errI s = er at *
  generalize labelsB s = L at *
  go_enter Try.func3, Try.ntmps3
  go_wp2_with fail
  refine HFA.out.mono ?_
  rintro e w1 ⟨rfl, rfl⟩
  clear HFA w0
  go_wp2_with fail
  refine (HRM _).out.mono ?_
  rintro e w2 ⟨rfl, hb2⟩
  have HB := Lib.hid hb2
  clear hb2 HRM
  go_wp2_with fail
  refine (HBY _).out.mono ?_
  rintro e w3 ⟨v, rfl, ho, hb3⟩
  replace HB := Lib.hid (chain HB.out hb3)
  have HO := Lib.hid ho
  obtain ⟨va, vc, rfl⟩ := own_slice ho
  clear hb3 ho HBY
  go_wp2_with fail
  refine (HMA _).out.mono ?_
  rintro e w4 ⟨rfl, hb4⟩
  replace HB := Lib.hid (chain HB.out hb4)
  replace HO := Lib.hid (own_below8 HO.out hb4)
  clear hb4 HMA
  have hne : (mayN s != mayN s) = false := by simp
  go_wp2_with fail
  refine (HLA _).out.mono ?_
  rintro e w5 ⟨x, c, rfl, hr5, hb5⟩
  replace HB := Lib.hid (chain HB.out hb5)
  replace HO := Lib.hid (own_below8 HO.out hb5)
  have HR5 := Lib.hid hr5
  clear hb5 hr5 HLA
  go_wp2_with fail
  refine (HRL _).out.mono ?_
  rintro e w6 ⟨y, d, rfl, hr6, hb6⟩
  replace HB := Lib.hid (chain HB.out hb6)
  replace HO := Lib.hid (own_below8 HO.out hb6)
  have HS6 := HSM _ _ _ _ _ (HR5.out.below hb6) hr6
  clear hb6 hr6 HRL HR5 HSM
  go_wp2_with fail
  refine HS6.out.mono ?_
  rintro e w7 ⟨rfl, hb7⟩
  replace HB := Lib.hid (chain HB.out hb7)
  replace HO := Lib.hid (own_below8 HO.out hb7)
  clear hb7 HS6
  go_wp2_with fail
  refine (HPA _).out.mono ?_
  rintro e w8 ⟨rfl, hb8⟩
  replace HB := Lib.hid (chain HB.out hb8)
  replace HO := Lib.hid (own_below8 HO.out hb8)
  clear hb8 HPA
  go_wp2_with fail
  refine (HRR _).out.mono ?_
  rintro e w9 ⟨rfl, hb9⟩
  replace HB := Lib.hid (chain HB.out hb9)
  replace HO := Lib.hid (own_below8 HO.out hb9)
  clear hb9 HRR
  cases hmay : mayN s with
  | false =>
    obtain ⟨rfl, rfl⟩ := HB9.out hmay
    clear HRB HB8 HB9
    go_wp2_with fail
    refine (HLV _).out.mono ?_
    rintro e wa ⟨rfl, hba⟩
    replace HB := Lib.hid (chain HB.out hba)
    clear hba
    go_wp2_with fail
    go_ret
    exact ⟨rfl, HB.out⟩
  | true =>
    obtain ⟨rfl, rfl⟩ := HB8.out hmay
    replace HRB := HRB hmay
    clear HB8 HB9
    generalize bytesL L = bl at *
    go_wp2_with fail
    refine (HRB _).out.mono ?_
    rintro e wa ⟨v2, rfl, ho2, hba⟩
    replace HB := Lib.hid (chain HB.out hba)
    have HSB := Lib.hid (refSameBytes_any _ _ _ _ wa (own_at (own_below8 HO.out hba)) (own_at ho2))
    rw [decide_eq_true rfl] at HSB
    clear hba ho2 HRB HO
    go_wp2_with fail
    refine HSB.out.mono ?_
    rintro e wb ⟨rfl, rfl⟩
    clear HSB
    go_wp2_with fail
    refine (HLV _).out.mono ?_
    rintro e wc ⟨rfl, hbc⟩
    replace HB := Lib.hid (chain HB.out hbc)
    clear hbc
    go_wp2_with fail
    go_ret
    exact ⟨rfl, HB.out⟩

set_option maxRecDepth 100000 in
theorem lifted (os : Os) (started : os.Started) (H : Type) (enc : TypeId × Value → H) :
    ReturnsInHanded {} Try.checked os 3 .any (Rows.labelNamesSpec.pre6 enc Try.prog Try.f3 Rows.labelNamesRow.domain false) (Rows.labelNamesSpec.post enc Try.prog Try.f3 false true false false) := by
  refine returnsInHanded_of_change (C := Try.checked) own started (by kernel_rfl) Try.func3
    (ChangeSpec.witness6 (enc := enc) (C := Try.checked) false ⟨#[], #[.string ByteArray.empty], []⟩ 8 (by kernel_rfl) (by kernel_rfl) (by kernel_rfl) (by kernel_rfl)) ?_
  intro W base args ds gs before hval0 hW hcnd _
  have hval : ∀ (j : Nat) t v, Try.f3.params[j]? = some t → args[j]? = some v → Value.okWide Try.prog W .any base t v := hval0
  have hW' := hW
  obtain ⟨p, q, hA0, hV, rfl, hfz, hnd⟩ := hW
  have hA : DataW.TrodAll enc Try.prog W 0 (fun _ => true) true Try.f3.params.toList args.toList ds p := hA0
  rw [Try.params3] at hA hval
  obtain ⟨v0, vs0, d0, ds0, p0, q0, hargs, rfl, rfl, h0, r0⟩ := trodAll_cons hA
  obtain ⟨rfl, rfl, rfl⟩ := trodAll_nil r0
  obtain rfl : args = #[v0] := by cases args; simp_all
  obtain ⟨rfl, rfl⟩ := trodVars_none hV
  obtain ⟨a0, rfl, rfl, rfl, w0⟩ := open_string Try.underlying9 (hval 0 9 v0 rfl rfl) h0
  clear hA0 hval0
  refine (walk a0 w0 W).mono fun e W' ⟨he, bel⟩ => ?_
  subst he
  exact ⟨_, rfl, _, _, _, [], _, [], hW', trodAll_mk1 (shut_bool Try.underlying4 _), (trodAll_cons_mk (shut_string Try.underlying9 w0) trodAll_mk0), rfl, bel.frame _, fun h => by cases h⟩

theorem over : Rows.labelNamesRow.holds Try.pinned (OpenSpec.ofChange Rows.labelNamesSpec) :=
  OpenClaim.holds_of_wide 3 Try.f3 rfl rfl rfl rfl rfl rfl rfl ⟨rfl, rfl, rfl, rfl, rfl⟩ rfl rfl rfl rfl rfl (by kernel_rfl) Try.func3 (by kernel_rfl)
    (of_decide_eq_true (by kernel_rfl)) (by unfold Func.isWrapper; first | (rw [if_pos (by decide +kernel)]; kernel_rfl) | (rw [if_neg (by decide +kernel)]; exact ⟨rfl, rfl⟩))
    (fun os started H enc _ => lifted os started H enc)


theorem proved : Rows.LabelNamesSaid := over
#print axioms proved
end Go.Proofs.Ytbeoapfbddcpcaa.labelNames
