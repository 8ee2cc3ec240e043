/- For every number the statement FourOne answers true: one number alone, of the bases 10, 16 and 8, is the address of all its bits; from 2^32 on it is bad. -/
import Derived.Test.YtebcgfgfcjgdiaaHexParts
import Derived.ProofKit
import Derived.OpenShut
import Derived.ShutString
import Derived.ChangeOld
import Derived.Below
namespace Go.Proofs.Ytebcgfgfcjgdiaa.fourOne
open Go.ChangeShapes Go.WideShapes Go.ChangeAt Go.RowKit
open Go.ChangeMaps (open_string shut_string)
set_option linter.unusedVariables false

theorem own : ownKnob Try.prog.godebug = none := by kernel_rfl

set_option maxRecDepth 100000 in
set_option maxHeartbeats 4000000 in
theorem walk (a0 : Int) (w0 : (Lit.int .u64 a0).wf = true) (w : World) :
    Calls Try.prog 5 #[.int .u64 a0] w fun e w' => e = .returned (.bool true) ∧ Below w.heap.size w w' := by
  have hb0 := bounds_u64 w0
  obtain ⟨n, hn, en⟩ : ∃ n : Nat, n ≤ 8589934591 ∧ a0 % 8589934592 = (n : Int) := ⟨(a0 % 8589934592).toNat, by omega, by omega⟩
  have ln := dec_length n (by omega)
  clear w0
  obtain ⟨hb1, hb2⟩ := hb0
  have H1 := Lib.hid (loose1 n)
  have H2 := Lib.hid (looseHex n (by omega))
  have H3 := Lib.hid (looseOct n (by omega))
  go_enter Try.func5, Try.ntmps5
  go_wp2_with fail
  rw [en]
  clear en hb1 hb2
  refine (refDecimal_nat n _ (by omega)).mono ?_
  rintro e w1 ⟨rfl, hbd⟩
  by_cases hbig : 4294967296 ≤ n
  · rw [if_pos hbig] at H1 H2 H3
    have hbi : (4294967296 : Int) ≤ (n : Int) := by omega
    clear hbig
    go_wp2_with fail
    refine (loose_list _ (dec n) (0, 1) _ rfl (Nat.le_trans ln (by decide)) H1.out).mono ?_
    rintro e w2 ⟨rfl, hbl⟩
    unfold looseRet
    go_wp2_with fail
    go_loopw [6, 7, 8, 9, 10] (fun h o x y i wr => ∃ (k X Y : Nat) (H O : ByteArray), k ≤ 12 ∧ i = .int .i64 k ∧ x = .int .u64 (X : Int) ∧ y = .int .u64 (Y : Int) ∧ X ≤ 8589934591 ∧ Y ≤ 8589934591 ∧ h = .string H ∧ o = .string O ∧ H.size = k ∧ O.size = k ∧ Hid (X = n / 16 ^ k) ∧ Hid (Y = n / 8 ^ k) ∧ Hid (H.data.toList = hexL n 16 k) ∧ Hid (O.data.toList = hexL n 8 k) ∧ Below w.heap.size w wr) (fun _ _ _ _ i _ => 12 - (intOf i).toNat)
    case atStart => exact ⟨0, n, n, _, _, by decide, rfl, rfl, rfl, hn, hn, rfl, rfl, rfl, rfl, Lib.hid (by simp), Lib.hid (by simp), Lib.hid rfl, Lib.hid rfl, chain hbd hbl⟩
    case round =>
      obtain ⟨k, X, Y, H, O, hk, rfl, rfl, rfl, hX, hY, rfl, rfl, hH, hO, HX, HY, HH, HO, hbel⟩ := hrel
      by_cases hk12 : k < 12
      · obtain ⟨d, hd, ed⟩ : ∃ d : Nat, d < 16 ∧ (X : Int) % 16 = (d : Int) := ⟨X % 16, by omega, by omega⟩
        obtain ⟨f, hf, ef⟩ : ∃ f : Nat, f < 8 ∧ (Y : Int) % 8 = (f : Int) := ⟨Y % 8, by omega, by omega⟩
        obtain ⟨c1, hc1, hi1⟩ := hexS_get d hd
        obtain ⟨c2, hc2, hi2⟩ := octS_get f hf
        have HD1 : Hid (c1 = hexc (X % 16)) := Lib.hid (by rw [hc1]; congr 1; omega)
        have HD2 : Hid (c2 = hexc (Y % 8)) := Lib.hid (by rw [hc2]; congr 1; omega)
        have o1 := one_u8 c1
        have o2 := one_u8_next c2
        clear hc1 hc2
        go_wp2_with fail
        go_roundw
        case rel => exact ⟨k + 1, X / 16, Y / 8, _, _, by omega, by go_num, by go_num, by go_num, by omega, by omega, rfl, rfl, by simp [ByteArray.size_append, hH]; show 1 + k = k + 1; omega, by simp [ByteArray.size_append, hO]; show 1 + k = k + 1; omega,
          Lib.hid (by rw [HX.out, Nat.pow_succ, Nat.div_div_eq_div_mul]), Lib.hid (by rw [HY.out, Nat.pow_succ, Nat.div_div_eq_div_mul]),
          Lib.hid (by rw [data_append, hexL, HH.out, HD1.out, HX.out]; rfl), Lib.hid (by rw [data_append, hexL, HO.out, HD2.out, HY.out]; rfl), (hbel.alloc hbel.size _).alloc (hbel.alloc hbel.size _).size _⟩
        case measure => simp [intOf]; omega
      · obtain rfl : k = 12 := by omega
        have z1 := hexL_length n 16 12
        have z2 := hexL_length n 8 12
        go_wp2_with fail
        refine (loose_list _ (48 :: 120 :: hexL n 16 12) (0, 1) _ ?_ ?_ H2.out).mono ?_
        · rw [data_append, HH.out]; rfl
        · rw [List.length_cons, List.length_cons, z1]; decide
        rintro e w3 ⟨rfl, hb3⟩
        unfold looseRet
        go_wp2_with fail
        refine (loose_list _ (48 :: hexL n 8 12) (0, 1) _ ?_ ?_ H3.out).mono ?_
        · rw [data_append, HO.out]; rfl
        · rw [List.length_cons, z2]; decide
        rintro e w4 ⟨rfl, hb4⟩
        unfold looseRet
        go_wp2_with fail
        refine (lives_any _).mono ?_
        rintro e w5 ⟨rfl, hb5⟩
        go_wp2
        go_ret
        exact ⟨rfl, chain (chain (chain hbel hb3) hb4) hb5⟩
  · rw [if_neg hbig] at H1 H2 H3
    have hbi : decide ((4294967296 : Int) ≤ (n : Int)) = false := by simp; omega
    clear hbig
    go_wp2_with fail
    refine (loose_list _ (dec n) (n, 2) _ rfl (Nat.le_trans ln (by decide)) H1.out).mono ?_
    rintro e w2 ⟨rfl, hbl⟩
    unfold looseRet
    go_wp2_with fail
    go_loopw [6, 7, 8, 9, 10] (fun h o x y i wr => ∃ (k X Y : Nat) (H O : ByteArray), k ≤ 12 ∧ i = .int .i64 k ∧ x = .int .u64 (X : Int) ∧ y = .int .u64 (Y : Int) ∧ X ≤ 8589934591 ∧ Y ≤ 8589934591 ∧ h = .string H ∧ o = .string O ∧ H.size = k ∧ O.size = k ∧ Hid (X = n / 16 ^ k) ∧ Hid (Y = n / 8 ^ k) ∧ Hid (H.data.toList = hexL n 16 k) ∧ Hid (O.data.toList = hexL n 8 k) ∧ Below w.heap.size w wr) (fun _ _ _ _ i _ => 12 - (intOf i).toNat)
    case atStart => exact ⟨0, n, n, _, _, by decide, rfl, rfl, rfl, hn, hn, rfl, rfl, rfl, rfl, Lib.hid (by simp), Lib.hid (by simp), Lib.hid rfl, Lib.hid rfl, chain hbd hbl⟩
    case round =>
      obtain ⟨k, X, Y, H, O, hk, rfl, rfl, rfl, hX, hY, rfl, rfl, hH, hO, HX, HY, HH, HO, hbel⟩ := hrel
      by_cases hk12 : k < 12
      · obtain ⟨d, hd, ed⟩ : ∃ d : Nat, d < 16 ∧ (X : Int) % 16 = (d : Int) := ⟨X % 16, by omega, by omega⟩
        obtain ⟨f, hf, ef⟩ : ∃ f : Nat, f < 8 ∧ (Y : Int) % 8 = (f : Int) := ⟨Y % 8, by omega, by omega⟩
        obtain ⟨c1, hc1, hi1⟩ := hexS_get d hd
        obtain ⟨c2, hc2, hi2⟩ := octS_get f hf
        have HD1 : Hid (c1 = hexc (X % 16)) := Lib.hid (by rw [hc1]; congr 1; omega)
        have HD2 : Hid (c2 = hexc (Y % 8)) := Lib.hid (by rw [hc2]; congr 1; omega)
        have o1 := one_u8 c1
        have o2 := one_u8_next c2
        clear hc1 hc2
        go_wp2_with fail
        go_roundw
        case rel => exact ⟨k + 1, X / 16, Y / 8, _, _, by omega, by go_num, by go_num, by go_num, by omega, by omega, rfl, rfl, by simp [ByteArray.size_append, hH]; show 1 + k = k + 1; omega, by simp [ByteArray.size_append, hO]; show 1 + k = k + 1; omega,
          Lib.hid (by rw [HX.out, Nat.pow_succ, Nat.div_div_eq_div_mul]), Lib.hid (by rw [HY.out, Nat.pow_succ, Nat.div_div_eq_div_mul]),
          Lib.hid (by rw [data_append, hexL, HH.out, HD1.out, HX.out]; rfl), Lib.hid (by rw [data_append, hexL, HO.out, HD2.out, HY.out]; rfl), (hbel.alloc hbel.size _).alloc (hbel.alloc hbel.size _).size _⟩
        case measure => simp [intOf]; omega
      · obtain rfl : k = 12 := by omega
        have z1 := hexL_length n 16 12
        have z2 := hexL_length n 8 12
        go_wp2_with fail
        refine (loose_list _ (48 :: 120 :: hexL n 16 12) (n, 2) _ ?_ ?_ H2.out).mono ?_
        · rw [data_append, HH.out]; rfl
        · rw [List.length_cons, List.length_cons, z1]; decide
        rintro e w3 ⟨rfl, hb3⟩
        unfold looseRet
        go_wp2_with fail
        refine (loose_list _ (48 :: hexL n 8 12) (n, 2) _ ?_ ?_ H3.out).mono ?_
        · rw [data_append, HO.out]; rfl
        · rw [List.length_cons, z2]; decide
        rintro e w4 ⟨rfl, hb4⟩
        unfold looseRet
        go_wp2_with fail
        refine (lives_any _).mono ?_
        rintro e w5 ⟨rfl, hb5⟩
        go_wp2
        go_ret
        exact ⟨rfl, chain (chain (chain hbel hb3) hb4) hb5⟩

set_option maxRecDepth 100000 in
theorem lifted (os : Os) (started : os.Started) (H : Type) (enc : TypeId × Value → H) :
    ReturnsInHanded {} Try.checked os 5 .any (Rows.fourOneSpec.pre6 enc Try.prog Try.f5 Rows.fourOneRow.domain false) (Rows.fourOneSpec.post enc Try.prog Try.f5 false true false false) := by
  refine returnsInHanded_of_change (C := Try.checked) own started (by kernel_rfl) Try.func5
    (ChangeSpec.witness6 (enc := enc) (C := Try.checked) false ⟨#[], #[.int .u64 0], []⟩ 8 (by kernel_rfl) (by kernel_rfl) (by kernel_rfl) (by kernel_rfl)) ?_
  intro W base args ds gs before hval0 hW hcnd _
  have hval : ∀ (j : Nat) t v, Try.f5.params[j]? = some t → args[j]? = some v → Value.okWide Try.prog W .any base t v := hval0
  have hW' := hW
  obtain ⟨p, q, hA0, hV, rfl, hfz, hnd⟩ := hW
  have hA : DataW.TrodAll enc Try.prog W 0 (fun _ => true) true Try.f5.params.toList args.toList ds p := hA0
  rw [Try.params5] at hA hval
  obtain ⟨v0, vs0, d0, ds0, p0, q0, hargs, rfl, rfl, h0, r0⟩ := trodAll_cons hA
  obtain ⟨rfl, rfl, rfl⟩ := trodAll_nil r0
  obtain rfl : args = #[v0] := by cases args; simp_all
  obtain ⟨rfl, rfl⟩ := trodVars_none hV
  obtain ⟨a0, rfl, rfl, rfl, w0⟩ := open_int Try.underlying30 (hval 0 30 v0 rfl rfl) h0
  clear hA0 hval0
  refine (walk a0 w0 W).mono fun e W' ⟨he, bel⟩ => ?_
  subst he
  exact ⟨_, rfl, _, _, _, [], _, [], hW', trodAll_mk1 (shut_bool Try.underlying4 _), (trodAll_cons_mk (shut_int Try.underlying30 w0) trodAll_mk0), rfl, bel.frame _, fun h => by cases h⟩

theorem over : Rows.fourOneRow.holds Try.pinned (OpenSpec.ofChange Rows.fourOneSpec) :=
  OpenClaim.holds_of_wide 5 Try.f5 rfl rfl rfl rfl rfl rfl rfl ⟨rfl, rfl, rfl, rfl, rfl⟩ rfl rfl rfl rfl rfl (by kernel_rfl) Try.func5 (by kernel_rfl)
    (of_decide_eq_true (by kernel_rfl)) (by unfold Func.isWrapper; first | (rw [if_pos (by decide +kernel)]; kernel_rfl) | (rw [if_neg (by decide +kernel)]; exact ⟨rfl, rfl⟩))
    (fun os started H enc _ => lifted os started H enc)

theorem proved : Rows.FourOneSaid := over
#print axioms proved
end Go.Proofs.Ytebcgfgfcjgdiaa.fourOne
