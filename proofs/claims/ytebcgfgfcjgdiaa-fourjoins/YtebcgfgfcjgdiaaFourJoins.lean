/- For every two bytes and every rest the statement FourJoins answers true: two parts are the first byte and all others, three the first two and all others; a last part that is too great is bad, one that is no number makes a name. -/
import Derived.Test.YtebcgfgfcjgdiaaDecParts
import Derived.ProofKit
import Derived.OpenShut
import Derived.ShutString
import Derived.ChangeOld
import Derived.Below
namespace Go.Proofs.Ytebcgfgfcjgdiaa.fourJoins
open Go.ChangeShapes Go.WideShapes Go.ChangeAt Go.RowKit
open Go.ChangeMaps (open_string shut_string)
set_option linter.unusedVariables false

theorem own : ownKnob Try.prog.godebug = none := by kernel_rfl

set_option maxRecDepth 100000 in
set_option maxHeartbeats 4000000 in
theorem walk (a0 a1 a2 : Int) (w0 : (Lit.int .u8 a0).wf = true) (w1 : (Lit.int .u8 a1).wf = true) (w2 : (Lit.int .u32 a2).wf = true) (w : World) :
    Calls Try.prog 6 #[.int .u8 a0, .int .u8 a1, .int .u32 a2] w fun e w' => e = .returned (.bool true) ∧ Below w.heap.size w w' := by
  obtain ⟨x, hx, rfl⟩ : ∃ c : Nat, c < 256 ∧ a0 = (c : Int) := by
    have := bounds_u8 w0
    exact ⟨a0.toNat, by omega, by omega⟩
  obtain ⟨y, hy, rfl⟩ : ∃ c : Nat, c < 256 ∧ a1 = (c : Int) := by
    have := bounds_u8 w1
    exact ⟨a1.toNat, by omega, by omega⟩
  obtain ⟨r, hr, rfl⟩ : ∃ c : Nat, c < 4294967296 ∧ a2 = (c : Int) := by
    have := bounds_u32 w2
    exact ⟨a2.toNat, by omega, by omega⟩
  clear w0 w1 w2
  obtain ⟨r1, hr1, er1⟩ : ∃ r1 : Nat, r1 < 16777216 ∧ (r : Int) % 16777216 = (r1 : Int) := ⟨r % 16777216, by omega, by omega⟩
  obtain ⟨r2, hr2, er2⟩ : ∃ r2 : Nat, r2 < 65536 ∧ (r : Int) % 65536 = (r2 : Int) := ⟨r % 65536, by omega, by omega⟩
  obtain ⟨r3, hr3, hr4, er3⟩ : ∃ r3 : Nat, 16777216 ≤ r3 ∧ r3 ≤ 4311744512 ∧ (16777216 : Int) + (r : Int) = (r3 : Int) := ⟨16777216 + r, by omega, by omega, by omega⟩
  have HR3 := Lib.hid hr3
  clear hr3
  have lx := dec_length x (by omega)
  have ly := dec_length y (by omega)
  have l1 := dec_length r1 (by omega)
  have l2 := dec_length r2 (by omega)
  have l3 := dec_length r3 (by omega)
  obtain ⟨A, hA, eA⟩ : ∃ A : Nat, x * 16777216 + r1 = A ∧ (x : Int) * 16777216 + (r1 : Int) = (A : Int) := ⟨_, rfl, by omega⟩
  obtain ⟨B, hB, eB⟩ : ∃ B : Nat, (x * 256 + y) * 65536 + r2 = B ∧ (x : Int) * 16777216 + (y : Int) * 65536 + (r2 : Int) = (B : Int) := ⟨_, rfl, by omega⟩
  have hAl : A < 4294967296 := by omega
  have hBl : B < 4294967296 := by omega
  have q1 : IntKind.u32.wrap ((x : Int) * 16777216) = (x : Int) * 16777216 := by rw [IntKind.wrap_u32]; omega
  have q2 : IntKind.u32.wrap (A : Int) = (A : Int) := by rw [IntKind.wrap_u32]; omega
  have q3 : IntKind.u32.wrap ((y : Int) * 65536) = (y : Int) * 65536 := by rw [IntKind.wrap_u32]; omega
  have q4 : IntKind.u32.wrap ((x : Int) * 16777216 + (y : Int) * 65536) = (x : Int) * 16777216 + (y : Int) * 65536 := by rw [IntKind.wrap_u32]; omega
  have q5 : IntKind.u32.wrap (B : Int) = (B : Int) := by rw [IntKind.wrap_u32]; omega
  have t1 := loose2 x r1 hx hr1
  rw [hA] at t1
  have T1 := Lib.hid t1
  have t2 := loose3 x y r2 hx hy hr2
  rw [hB] at t2
  have T2 := Lib.hid t2
  clear hA hB t1 t2
  go_enter Try.func6, Try.ntmps6
  go_wp2_with fail
  refine (refDecimal_nat x _ (by omega)).mono ?_
  rintro e w1 ⟨rfl, hb1⟩
  go_wp2_with fail
  refine (refDecimal_nat r1 _ (by omega)).mono ?_
  rintro e w2 ⟨rfl, hb2⟩
  go_wp2_with fail
  refine (loose_list _ (dec x ++ 46 :: dec r1) (A, 2) _ ?_ ?_ T1.out).mono ?_
  · simp [dec]
  · simp [dec]; omega
  rintro e w3 ⟨rfl, hb3⟩
  unfold looseRet
  go_wp2_with fail
  refine (refDecimal_nat x _ (by omega)).mono ?_
  rintro e w4 ⟨rfl, hb4⟩
  go_wp2_with fail
  refine (refDecimal_nat y _ (by omega)).mono ?_
  rintro e w5 ⟨rfl, hb5⟩
  go_wp2_with fail
  refine (refDecimal_nat r2 _ (by omega)).mono ?_
  rintro e w6 ⟨rfl, hb6⟩
  go_wp2_with fail
  refine (loose_list _ (dec x ++ 46 :: (dec y ++ 46 :: dec r2)) (B, 2) _ ?_ ?_ T2.out).mono ?_
  · simp [dec]
  · simp [dec]; omega
  rintro e w7 ⟨rfl, hb7⟩
  unfold looseRet
  go_wp2_with fail
  refine (refDecimal_nat x _ (by omega)).mono ?_
  rintro e w8 ⟨rfl, hb8⟩
  go_wp2_with fail
  refine (refDecimal_nat r3 _ (by omega)).mono ?_
  rintro e w9 ⟨rfl, hb9⟩
  go_wp2_with fail
  refine (loose_list _ (dec x ++ 46 :: dec r3) (0, 1) _ ?_ ?_ (loose2bad x r3 hx HR3.out)).mono ?_
  · simp [dec]
  · simp [dec]; omega
  rintro e w10 ⟨rfl, hb10⟩
  unfold looseRet
  go_wp2_with fail
  refine (refDecimal_nat x _ (by omega)).mono ?_
  rintro e w11 ⟨rfl, hb11⟩
  go_wp2_with fail
  refine (refDecimal_nat y _ (by omega)).mono ?_
  rintro e w12 ⟨rfl, hb12⟩
  go_wp2_with fail
  refine (loose_list _ (dec x ++ 46 :: (dec y ++ [97])) (0, 0) _ ?_ ?_ (loose2no x y)).mono ?_
  · simp [dec]
  · simp [dec]; omega
  rintro e w13 ⟨rfl, hb13⟩
  unfold looseRet
  go_wp2_with fail
  refine (lives_any _).mono ?_
  rintro e w14 ⟨rfl, hb14⟩
  go_wp2
  go_ret
  exact ⟨rfl, chain (chain (chain (chain (chain (chain (chain (chain (chain (chain (chain (chain (chain hb1 hb2) hb3) hb4) hb5) hb6) hb7) hb8) hb9) hb10) hb11) hb12) hb13) hb14⟩

set_option maxRecDepth 100000 in
theorem lifted (os : Os) (started : os.Started) (H : Type) (enc : TypeId × Value → H) :
    ReturnsInHanded {} Try.checked os 6 .any (Rows.fourJoinsSpec.pre6 enc Try.prog Try.f6 Rows.fourJoinsRow.domain false) (Rows.fourJoinsSpec.post enc Try.prog Try.f6 false true false false) := by
  refine returnsInHanded_of_change (C := Try.checked) own started (by kernel_rfl) Try.func6
    (ChangeSpec.witness6 (enc := enc) (C := Try.checked) false ⟨#[], #[.int .u8 0, .int .u8 0, .int .u32 0], []⟩ 8 (by kernel_rfl) (by kernel_rfl) (by kernel_rfl) (by kernel_rfl)) ?_
  intro W base args ds gs before hval0 hW hcnd _
  have hval : ∀ (j : Nat) t v, Try.f6.params[j]? = some t → args[j]? = some v → Value.okWide Try.prog W .any base t v := hval0
  have hW' := hW
  obtain ⟨p, q, hA0, hV, rfl, hfz, hnd⟩ := hW
  have hA : DataW.TrodAll enc Try.prog W 0 (fun _ => true) true Try.f6.params.toList args.toList ds p := hA0
  rw [Try.params6] at hA hval
  obtain ⟨v0, vs0, d0, ds0, p0, q0, hargs, rfl, rfl, h0, r0⟩ := trodAll_cons hA
  obtain ⟨v1, vs1, d1, ds1, p1, q1, rfl, rfl, rfl, h1, r1⟩ := trodAll_cons r0
  obtain ⟨v2, vs2, d2, ds2, p2, q2, rfl, rfl, rfl, h2, r2⟩ := trodAll_cons r1
  obtain ⟨rfl, rfl, rfl⟩ := trodAll_nil r2
  obtain rfl : args = #[v0, v1, v2] := by cases args; simp_all
  obtain ⟨rfl, rfl⟩ := trodVars_none hV
  obtain ⟨a0, rfl, rfl, rfl, w0⟩ := open_int Try.underlying5 (hval 0 5 v0 rfl rfl) h0
  obtain ⟨a1, rfl, rfl, rfl, w1⟩ := open_int Try.underlying5 (hval 1 5 v1 rfl rfl) h1
  obtain ⟨a2, rfl, rfl, rfl, w2⟩ := open_int Try.underlying23 (hval 2 23 v2 rfl rfl) h2
  clear hA0 hval0
  refine (walk a0 a1 a2 w0 w1 w2 W).mono fun e W' ⟨he, bel⟩ => ?_
  subst he
  exact ⟨_, rfl, _, _, _, [], _, [], hW', trodAll_mk1 (shut_bool Try.underlying4 _), (trodAll_cons_mk (shut_int Try.underlying5 w0) (trodAll_cons_mk (shut_int Try.underlying5 w1) (trodAll_cons_mk (shut_int Try.underlying23 w2) trodAll_mk0))), rfl, bel.frame _, fun h => by cases h⟩

theorem over : Rows.fourJoinsRow.holds Try.pinned (OpenSpec.ofChange Rows.fourJoinsSpec) :=
  OpenClaim.holds_of_wide 6 Try.f6 rfl rfl rfl rfl rfl rfl rfl ⟨rfl, rfl, rfl, rfl, rfl⟩ rfl rfl rfl rfl rfl (by kernel_rfl) Try.func6 (by kernel_rfl)
    (of_decide_eq_true (by kernel_rfl)) (by unfold Func.isWrapper; first | (rw [if_pos (by decide +kernel)]; kernel_rfl) | (rw [if_neg (by decide +kernel)]; exact ⟨rfl, rfl⟩))
    (fun os started H enc _ => lifted os started H enc)

theorem proved : Rows.FourJoinsSaid := over
#print axioms proved
end Go.Proofs.Ytebcgfgfcjgdiaa.fourJoins
