/- For every number the statement TextBases answers true: its fourteen digits of each base are read as it was, and with a sign that is no digit they are not. -/
import Derived.Test.YtendlhaaehajcaaDigits
import Derived.ProofKit
import Derived.OpenShut
import Derived.ShutString
import Derived.ChangeOld
import Derived.Below
namespace Go.Proofs.Ytendlhaaehajcaa.textBases
open Go.ChangeShapes Go.WideShapes Go.ChangeAt Go.RowKit
open Go.ChangeMaps (open_string shut_string)
set_option linter.unusedVariables false

theorem own : ownKnob Try.prog.godebug = none := by kernel_rfl

set_option maxRecDepth 100000 in
set_option maxHeartbeats 2000000 in
theorem walk (a0 : Int) (w0 : (Lit.int .i64 a0).wf = true) (w : World) :
    Calls Try.prog 8 #[.int .i64 a0] w fun e w' => e = .returned (.bool true) ∧ Below w.heap.size w w' := by
  go_enter Try.func8, Try.ntmps8
  go_wp2_with fail
  refine (around_any a0 1099511627777 _ w0 (by decide) (by decide)).mono ?_
  rintro e w' ⟨rfl, rfl⟩
  have hn := aroundN_lt a0 1099511627777 (by decide)
  generalize aroundN a0 1099511627777 = n at *
  go_wp2_with fail
  have hz : w.heap.size < (w.alloc (.cells #[.int .i64 8, .int .i64 10, .int .i64 16] 3)).heap.size := by simp
  have hb0 : Below w.heap.size w (w.alloc (.cells #[.int .i64 8, .int .i64 10, .int .i64 16] 3)) := (Below.refl _ _).alloc (Nat.le_refl _) _
  have hcells : ∀ k, k < 3 → ∃ b : Nat, (b = 8 ∨ b = 10 ∨ b = 16) ∧ (w.alloc (.cells #[.int .i64 8, .int .i64 10, .int .i64 16] 3)).cell? ⟨w.heap.size, k, none⟩ = some (.int .i64 (b : Int)) := by
    intro k hk
    match k, hk with
    | 0, _ => exact ⟨8, .inl rfl, by simp [World.cell?_alloc_new]⟩
    | 1, _ => exact ⟨10, .inr (.inl rfl), by simp [World.cell?_alloc_new]⟩
    | 2, _ => exact ⟨16, .inr (.inr rfl), by simp [World.cell?_alloc_new]⟩
  generalize w.alloc (.cells #[.int .i64 8, .int .i64 10, .int .i64 16] 3) = W at *
  have HC := Lib.hid hcells
  clear hcells
  go_loopw [4] (fun i wr => ∃ k q : Nat, k ≤ 3 ∧ i = .int .i64 k ∧ wr = W.drewN q) (fun i _ => 3 - (intOf i).toNat)
  case atStart => exact ⟨0, 0, by omega, rfl, rfl⟩
  case round =>
    obtain ⟨k, q, hk, rfl, rfl⟩ := hrel
    by_cases hlt : k < 3
    · obtain ⟨b, hb8, hcell⟩ := HC.out k hlt
      have hb2 : 2 ≤ b := by omega
      have hb16 : b ≤ 16 := by omega
      have HB := Lib.hid hb8
      clear hb8
      have k0 : (0 : Int) ≤ (k : Int) := by omega
      have k3 : (k : Int) < 3 := by omega
      go_wp2_with fail
      go_loopw [5, 6, 7] (fun t x i wr => ∃ j q : Nat, j ≤ 14 ∧ i = .int .i64 j ∧ t = .string (dstr n b j) ∧ x = .int .i64 ((n / b ^ j : Nat) : Int) ∧ wr = W.drewN q) (fun _ _ i _ => 14 - (intOf i).toNat)
      case atStart => exact ⟨0, q, by omega, rfl, rfl, by simp, rfl⟩
      case round =>
        obtain ⟨j, q, hj, rfl, rfl, rfl, rfl⟩ := hrel
        by_cases hjlt : j < 14
        · have hds := dstr_size n b (by omega) hb16 j
          have hds2 : (dstr n b j).size ≤ 14 := by omega
          have hxle : n / b ^ j ≤ n := Nat.div_le_self _ _
          have HD : Hid (dstr n b (j + 1) = hexs.extract (n / b ^ j % b) (n / b ^ j % b + 1) ++ dstr n b j) := Lib.hid rfl
          have HX : Hid (n / b ^ (j + 1) = n / b ^ j / b) := Lib.hid (by rw [Nat.pow_succ, Nat.div_div_eq_div_mul])
          clear hds
          generalize n / b ^ j = x at *
          generalize dstr n b j = t at *
          have hm : x % b < b := Nat.mod_lt _ (by omega)
          have HW : Hid (wrap64 ((x : Int) / (b : Int)) = (x : Int) / (b : Int)) := by
            refine Lib.hid ?_
            rw [← Int.natCast_ediv]
            have hle := Nat.div_le_self x b
            generalize x / b = y at hle ⊢
            unfold wrap64
            omega
          go_wp2_with fail
          go_quiet (fail)
          go_wp2
          go_roundw
          case rel => exact ⟨j + 1, _, by omega, by go_num, by rw [HD.out]; rfl, by rw [HX.out, Int.natCast_ediv]; exact congrArg _ HW.out, rfl⟩
          case measure => simp [intOf]; omega
        · obtain rfl : j = 14 := by omega
          have hpow : n < b ^ 14 := by
            have h8 : 8 ≤ b := by have := HB.out; omega
            have := Nat.pow_le_pow_left h8 14
            omega
          have HN1 := Lib.hid (dstr_num n b hb2 hb16 (by unfold most; omega) hpow)
          have hds := dstr_size n b (by omega) hb16 14
          have hds2 : (dstr n b 14).size ≤ 14 := by omega
          clear hds hpow
          generalize dstr n b 14 = t at *
          generalize n / b ^ 14 = x at *
          have h1000 : ∀ X : ByteArray, X.size = 1 → (t ++ X).size ≤ 1000000 := fun X hX => by rw [ByteArray.size_append]; omega
          have h1001 : ∀ X : ByteArray, X.size = 1 → (X ++ t).size ≤ 1000000 := fun X hX => by rw [ByteArray.size_append]; omega
          have H0 := Lib.hid h1000
          have H1 := Lib.hid h1001
          clear h1000 h1001
          have hnn : ((n : Int) != (n : Int)) = false := by simp
          go_wp2_with fail
          refine (number_any t b _ (by omega) HB.out).mono ?_
          rintro e w1 ⟨rfl, rfl⟩
          rw [HN1.out, numRet_some]
          go_wp2_with fail
          refine (number_any _ b _ (H0.out _ rfl) HB.out).mono ?_
          rintro e w1 ⟨rfl, rfl⟩
          rw [num_behind _ _ _ hb16 rfl, numRet_none]
          go_wp2_with fail
          refine (number_any _ b _ (H1.out _ rfl) HB.out).mono ?_
          rintro e w1 ⟨rfl, rfl⟩
          rw [num_ahead _ _ _ hb16 rfl, numRet_none]
          go_wp2
          go_roundw
          case rel => exact ⟨k + 1, _, by omega, by go_num, rfl⟩
          case measure => simp [intOf]; omega
    · go_wp2_with fail
      refine (lives_any _).mono ?_
      rintro e w7 ⟨rfl, hb7⟩
      go_wp2
      go_ret
      refine ⟨rfl, ?_⟩
      have b1 := belowN hb0 q
      exact b1.trans (Below.mono hb7 b1.size)

set_option maxRecDepth 100000 in
theorem lifted (os : Os) (started : os.Started) (H : Type) (enc : TypeId × Value → H) :
    ReturnsInHanded {} Try.checked os 8 .any (Rows.textBasesSpec.pre6 enc Try.prog Try.f8 Rows.textBasesRow.domain false) (Rows.textBasesSpec.post enc Try.prog Try.f8 false true false false) := by
  refine returnsInHanded_of_change (C := Try.checked) own started (by kernel_rfl) Try.func8
    (ChangeSpec.witness6 (enc := enc) (C := Try.checked) false ⟨#[], #[.int .i64 0], []⟩ 8 (by kernel_rfl) (by kernel_rfl) (by kernel_rfl) (by kernel_rfl)) ?_
  intro W base args ds gs before hval0 hW hcnd _
  have hval : ∀ (j : Nat) t v, Try.f8.params[j]? = some t → args[j]? = some v → Value.okWide Try.prog W .any base t v := hval0
  have hW' := hW
  obtain ⟨p, q, hA0, hV, rfl, hfz, hnd⟩ := hW
  have hA : DataW.TrodAll enc Try.prog W 0 (fun _ => true) true Try.f8.params.toList args.toList ds p := hA0
  rw [Try.params8] at hA hval
  obtain ⟨v0, vs0, d0, ds0, p0, q0, hargs, rfl, rfl, h0, r0⟩ := trodAll_cons hA
  obtain ⟨rfl, rfl, rfl⟩ := trodAll_nil r0
  obtain rfl : args = #[v0] := by cases args; simp_all
  obtain ⟨rfl, rfl⟩ := trodVars_none hV
  obtain ⟨a0, rfl, rfl, rfl, w0⟩ := open_int Try.underlying3 (hval 0 3 v0 rfl rfl) h0
  clear hA0 hval0
  refine (walk a0 w0 W).mono fun e W' ⟨he, bel⟩ => ?_
  subst he
  exact ⟨_, rfl, _, _, _, [], _, [], hW', trodAll_mk1 (shut_bool Try.underlying4 _), (trodAll_cons_mk (shut_int Try.underlying3 w0) trodAll_mk0), rfl, bel.frame _, fun h => by cases h⟩

theorem over : Rows.textBasesRow.holds Try.pinned (OpenSpec.ofChange Rows.textBasesSpec) :=
  OpenClaim.holds_of_wide 8 Try.f8 rfl rfl rfl rfl rfl rfl rfl ⟨rfl, rfl, rfl, rfl, rfl⟩ rfl rfl rfl rfl rfl (by kernel_rfl) Try.func8 (by kernel_rfl)
    (of_decide_eq_true (by kernel_rfl)) (by unfold Func.isWrapper; first | (rw [if_pos (by decide +kernel)]; kernel_rfl) | (rw [if_neg (by decide +kernel)]; exact ⟨rfl, rfl⟩))
    (fun os started H enc _ => lifted os started H enc)

theorem proved : Rows.TextBasesSaid := over
#print axioms proved
end Go.Proofs.Ytendlhaaehajcaa.textBases
