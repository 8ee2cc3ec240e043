/- For every two texts the statement LabelUnder answers true: which names are under which is told as the document says. -/
import Derived.Test.YtbeoapfbddcpcaaB5
import Derived.Test.YtbeoapfbddcpcaaRows
import Derived.ProofKit
import Derived.OpenShut
import Derived.ShutString
import Derived.ChangeOld
import Derived.Below
namespace Go.Proofs.Ytbeoapfbddcpcaa.labelUnder
open Go.ChangeShapes Go.WideShapes Go.ChangeAt Go.RowKit
open Go.ChangeMaps (open_string shut_string)
set_option linter.unusedVariables false
set_option maxRecDepth 20000

theorem own : ownKnob Try.prog.godebug = none := by kernel_rfl

set_option maxRecDepth 100000 in
set_option maxHeartbeats 1000000 in
theorem walk (a b : ByteArray) (w0 : a.size ≤ maxLen) (w1 : b.size ≤ maxLen) (w : World) :
    Calls Try.prog 4 #[.string a, .string b] w fun e w' => e = .returned (.bool true) ∧ Below w.heap.size w w' := by
  have HFA := Lib.hid (few_any a 60 w w0 (by decide))
  have HFB := fun W => Lib.hid (few_any b 60 W w1 (by decide))
  have ha := few_size a 60
  have hb := few_size b 60
  generalize few a 60 = s at *
  generalize few b 60 = t at *
  have hc : (s ++ ⟨#[46]⟩ ++ t).size ≤ 121 := by rw [ByteArray.size_append, ByteArray.size_append]; show s.size + 1 + t.size ≤ 121; omega
  have U1 := fun W => Lib.hid (under_any s t W (by omega) (by omega))
  have R1 := fun W => Lib.hid (refUnder_any s t W (by omega) (by omega))
  have U2 := fun W => Lib.hid (under_any (s ++ ⟨#[46]⟩ ++ t) t W (by omega) (by omega))
  have R2 := fun W => Lib.hid (refUnder_any (s ++ ⟨#[46]⟩ ++ t) t W (by omega) (by omega))
  have U3 := fun W => Lib.hid (under_any s ⟨#[]⟩ W (by omega) (by decide))
  have U4 := fun W => Lib.hid (under_any s s W (by omega) (by omega))
  rw [under_none] at U3
  rw [under_self] at U4
  have HLV := fun W => Lib.hid (lives8_any W)
  generalize underB s t = u1 at *
  generalize underB (s ++ ⟨#[46]⟩ ++ t) t = u2 at *
  have e1 : (u1 == u1) = true := by cases u1 <;> rfl
  have e2 : (u2 == u2) = true := by cases u2 <;> rfl
  clear hc w0 w1
  go_enter Try.func4, Try.ntmps4
  go_wp2_with fail
  refine HFA.out.mono ?_
  rintro e w1 ⟨rfl, rfl⟩
  go_wp2_with fail
  refine (HFB _).out.mono ?_
  rintro e w2 ⟨rfl, rfl⟩
  have HB := Lib.hid (Below.refl w.heap.size w)
  clear HFA HFB
  go_wp2_with fail
  generalize s ++ ⟨#[46]⟩ ++ t = c at *
  refine (U1 _).out.mono ?_
  rintro e w3 ⟨rfl, hb3⟩
  replace HB := Lib.hid (chain HB.out hb3)
  clear hb3 U1
  go_wp2_with fail
  refine (R1 _).out.mono ?_
  rintro e w4 ⟨rfl, hb3⟩
  replace HB := Lib.hid (chain HB.out hb3)
  clear hb3 R1
  go_wp2_with fail
  refine (U2 _).out.mono ?_
  rintro e w5 ⟨rfl, hb3⟩
  replace HB := Lib.hid (chain HB.out hb3)
  clear hb3 U2
  go_wp2_with fail
  refine (R2 _).out.mono ?_
  rintro e w6 ⟨rfl, hb3⟩
  replace HB := Lib.hid (chain HB.out hb3)
  clear hb3 R2
  go_wp2_with fail
  refine (U3 _).out.mono ?_
  rintro e w7 ⟨rfl, hb3⟩
  replace HB := Lib.hid (chain HB.out hb3)
  clear hb3 U3
  go_wp2_with fail
  refine (U4 _).out.mono ?_
  rintro e w8 ⟨rfl, hb3⟩
  replace HB := Lib.hid (chain HB.out hb3)
  clear hb3 U4
  go_wp2_with fail
  refine (HLV _).out.mono ?_
  rintro e w9 ⟨rfl, hb3⟩
  replace HB := Lib.hid (chain HB.out hb3)
  clear hb3 HLV
  go_wp2_with fail
  go_ret
  exact ⟨rfl, HB.out⟩

set_option maxRecDepth 100000 in
theorem lifted (os : Os) (started : os.Started) (H : Type) (enc : TypeId × Value → H) :
    ReturnsInHanded {} Try.checked os 4 .any (Rows.labelUnderSpec.pre6 enc Try.prog Try.f4 Rows.labelUnderRow.domain false) (Rows.labelUnderSpec.post enc Try.prog Try.f4 false true false false) := by
  refine returnsInHanded_of_change (C := Try.checked) own started (by kernel_rfl) Try.func4
    (ChangeSpec.witness6 (enc := enc) (C := Try.checked) false ⟨#[], #[.string ByteArray.empty, .string ByteArray.empty], []⟩ 8 (by kernel_rfl) (by kernel_rfl) (by kernel_rfl) (by kernel_rfl)) ?_
  intro W base args ds gs before hval0 hW hcnd _
  have hval : ∀ (j : Nat) t v, Try.f4.params[j]? = some t → args[j]? = some v → Value.okWide Try.prog W .any base t v := hval0
  have hW' := hW
  obtain ⟨p, q, hA0, hV, rfl, hfz, hnd⟩ := hW
  have hA : DataW.TrodAll enc Try.prog W 0 (fun _ => true) true Try.f4.params.toList args.toList ds p := hA0
  rw [Try.params4] at hA hval
  obtain ⟨v0, vs0, d0, ds0, p0, q0, hargs, rfl, rfl, h0, r0⟩ := trodAll_cons hA
  obtain ⟨v1, vs1, d1, ds1, p1, q1, rfl, rfl, rfl, h1, r1⟩ := trodAll_cons r0
  obtain ⟨rfl, rfl, rfl⟩ := trodAll_nil r1
  obtain rfl : args = #[v0, v1] := by cases args; simp_all
  obtain ⟨rfl, rfl⟩ := trodVars_none hV
  obtain ⟨a0, rfl, rfl, rfl, w0⟩ := open_string Try.underlying9 (hval 0 9 v0 rfl rfl) h0
  obtain ⟨a1, rfl, rfl, rfl, w1⟩ := open_string Try.underlying9 (hval 1 9 v1 rfl rfl) h1
  clear hA0 hval0
  refine (walk a0 a1 w0 w1 W).mono fun e W' ⟨he, bel⟩ => ?_
  subst he
  exact ⟨_, rfl, _, _, _, [], _, [], hW', trodAll_mk1 (shut_bool Try.underlying4 _), (trodAll_cons_mk (shut_string Try.underlying9 w0) (trodAll_cons_mk (shut_string Try.underlying9 w1) trodAll_mk0)), rfl, bel.frame _, fun h => by cases h⟩

theorem over : Rows.labelUnderRow.holds Try.pinned (OpenSpec.ofChange Rows.labelUnderSpec) :=
  OpenClaim.holds_of_wide 4 Try.f4 rfl rfl rfl rfl rfl rfl rfl ⟨rfl, rfl, rfl, rfl, rfl⟩ rfl rfl rfl rfl rfl (by kernel_rfl) Try.func4 (by kernel_rfl)
    (of_decide_eq_true (by kernel_rfl)) (by unfold Func.isWrapper; first | (rw [if_pos (by decide +kernel)]; kernel_rfl) | (rw [if_neg (by decide +kernel)]; exact ⟨rfl, rfl⟩))
    (fun os started H enc _ => lifted os started H enc)


theorem proved : Rows.LabelUnderSaid := over
#print axioms proved
end Go.Proofs.Ytbeoapfbddcpcaa.labelUnder
