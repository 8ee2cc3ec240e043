/- The contract of the reference's Loose. -/
import Derived.Test.YtebcgfgfcjgdiaaLoose
import Derived.Test.YtebcgfgfcjgdiaaRefSplit
namespace Go.Proofs.Ytebcgfgfcjgdiaa
open Go.RowKit
set_option linter.unusedVariables false

theorem ends_some {x : ByteArray} {v : Nat} (h : partB x = some v) : endsB x = true := by
  have h0 : 0 < x.size := by
    rcases Nat.eq_zero_or_pos x.size with h0 | h0
    · unfold partB at h; rw [if_pos h0] at h; cases h
    · exact h0
  unfold endsB
  rw [h]
  simp [h0]
theorem ends_digits {x : ByteArray} {v : Nat} (h0 : 0 < x.size) (h : readB x 10 = some v) : endsB x = true := by
  unfold endsB
  rw [h]
  simp [h0]
theorem ends_none {x : ByteArray} (h : partB x = none) (hr : x.size = 0 ∨ readB x 10 = none) : endsB x = false := by
  unfold endsB
  rcases hr with hr | hr
  · simp [hr]
  · rw [h, hr]; simp
theorem joinP_last {l : List ByteArray} {n : Nat} (hn : l.length = n) (h : partB (l.getD (n - 1) ⟨#[]⟩) = none) : joinP l = none := by
  unfold joinP
  rw [hn]
  split
  · rfl
  · split
    · rfl
    · rw [h]
theorem joinP_eq {l : List ByteArray} {n m v : Nat} (hn : l.length = n) (h4 : ¬ 4 < n) (ho : outTo l (n - 1) = some m) (hv : partB (l.getD (n - 1) ⟨#[]⟩) = some v) :
    joinP l = if roomB (n - 1) ≤ v then none else some (m * roomB (n - 1) + v) := by
  unfold joinP
  rw [hn, if_neg h4, ho]
  simp only [hv]
theorem joinP_long {l : List ByteArray} {n : Nat} (hn : l.length = n) (h4 : 4 < n) : joinP l = none := by
  unfold joinP
  rw [hn, if_pos h4]
theorem loose_some {s : ByteArray} {a : Nat} {v : Int} (h : looseB s = (a, 2)) (hv : v = a) : Ending.returned (.tuple #[.int .u32 v, .int .i64 2]) = .returned (looseRet (looseB s)) := by
  rw [h, hv]; rfl
theorem optI_some {o : Option Nat} {v : Nat} (h : o = some v) : optI o = (v : Int) := by rw [h]; rfl
theorem optI_none {o : Option Nat} (h : o = none) : optI o = -1 := by rw [h]; rfl

set_option maxRecDepth 100000 in
set_option maxHeartbeats 8000000 in
theorem refLoose_any (s : ByteArray) (w : World) (hs : s.size ≤ 1000000) :
    Calls Try.prog 12 #[.string s] w fun e w' => e = .returned (looseRet (looseB s)) ∧ Below w.heap.size w w' := by
  have hp := pieces_pos s 46
  have hpl := pieces_len s 46
  go_enter Try.func12, Try.ntmps12
  go_wp2_with fail
  refine (refSplit_row s 46 _ hs).mono ?_
  rintro e w1 ⟨g, c, rfl, hg, hr, hb⟩
  have hc1 := hr.cap
  have hc2 := hr.capm
  unfold maxLen at hc2
  have HS : Hid (∀ p ∈ lparts s, p.size ≤ 1000000) := Lib.hid (fun p hp => Nat.le_trans (lparts_small s p hp) hs)
  have hcell0 := hr.cells ((pieces s 46).length - 1) (by omega)
  have HR0 := Lib.hid hr
  clear hr
  by_cases h1 : 1 < (pieces s 46).length
  · by_cases h2 : ((pieces s 46).getD ((pieces s 46).length - 1) ⟨#[]⟩).size = 0
    · have HL : Hid (lparts s = (pieces s 46).take ((pieces s 46).length - 1)) := Lib.hid (by unfold lparts; rw [if_pos ⟨h1, h2⟩])
      have he := isEmpty_true _ h2
      have HR : Hid (StrRow w1 g ((pieces s 46).length - 1) c (lparts s)) := Lib.hid (by
        rw [HL.out]; exact HR0.out.front _ (by omega))
      have HN : Hid ((lparts s).length = (pieces s 46).length - 1) := Lib.hid HR.out.len
      have hcell := HR.out.cells ((pieces s 46).length - 1 - 1) (by omega)
      obtain ⟨X, hX⟩ : ∃ X, (lparts s).getD ((pieces s 46).length - 1 - 1) ⟨#[]⟩ = X := ⟨_, rfl⟩
      rw [hX] at hcell
      have HX := Lib.hid hX
      clear hX
      generalize (pieces s 46).getD ((pieces s 46).length - 1) ⟨#[]⟩ = x0 at *
      clear h2
      have h0 : 0 < (pieces s 46).length - 1 := by omega
      have hn : (pieces s 46).length - 1 ≤ 1000001 := by omega
      have hc3 : (pieces s 46).length - 1 ≤ c := by omega
      have hcast : ((pieces s 46).length : Int) - 1 = (((pieces s 46).length - 1 : Nat) : Int) := by omega
      clear HL HR0 hp
      generalize hL : lparts s = l at *
      go_wp2_with fail
      generalize (pieces s 46).length = L at *
      generalize hnn : L - 1 = n at *
      clear hcast
      have HLL := Lib.hid hL
      clear hL
      have hsm : X.size ≤ 1000000 := by rw [← HX.out]; exact getD_small HS.out (n - 1)
      refine (refPart_any _ _ hsm).mono ?_
      rintro e w2 ⟨rfl, rfl⟩
      cases hpx : partB X with
      | some v =>
        have HEN : Hid (endsB ((lparts s).getD ((lparts s).length - 1) ⟨#[]⟩) = true) := Lib.hid (by rw [HLL.out, HN.out, HX.out]; exact ends_some hpx)
        have hv := partB_le _ _ hpx
        have HP := Lib.hid (optI_some hpx)
        have HPN := Lib.hid hpx
        rw [show optI (some v) = (v : Int) from rfl]
        clear hpx
        by_cases h4 : 4 < n
        · have HD := Lib.hid (looseB_bad HEN.out (by rw [HLL.out]; exact joinP_long HN.out h4))
          go_wp2_with fail
          go_ret2
          exact ⟨loose_ret HD.out.symm, hb⟩
        · go_wp2_with fail
          go_loop [6, 7] (fun o i => ∃ k m : Nat, k ≤ n - 1 ∧ i = .int .i64 k ∧ o = .int .i64 (m : Int) ∧ Hid (outTo l k = some m)) (fun _ i => n - 1 - (intOf i).toNat)
          case atStart => exact ⟨0, 0, Nat.zero_le _, rfl, rfl, Lib.hid rfl⟩
          case round =>
            obtain ⟨k, m, hk, rfl, rfl, HK⟩ := hrel
            have hm : m < 16777216 := Nat.lt_of_lt_of_le (outTo_lt l k m HK.out) (Nat.le_trans (Nat.pow_le_pow_right (by decide) (by omega : k ≤ 3)) (by decide))
            by_cases hlt : k + 1 < n
            · have hcellk := HR.out.cells k (by omega)
              have hsk := getD_small HS.out k
              obtain ⟨Y, hY⟩ : ∃ Y, l.getD k ⟨#[]⟩ = Y := ⟨_, rfl⟩
              rw [hY] at hcellk hsk
              have hlti : (k : Int) + 1 < (n : Int) := by omega
              cases hq : partB Y with
              | none =>
                have HD := Lib.hid (looseB_bad HEN.out (by rw [HLL.out]; exact joinP_dead (k := k + 1) (by rw [HN.out]; omega) (by rw [outTo, HK.out]; simp only [hY, hq])))
                have HQ := Lib.hid (optI_none hq)
                clear hq hY
                go_wp2_with fail
                refine (refPart_any _ _ hsk).mono ?_
                rintro e w2 ⟨rfl, rfl⟩
                rw [HQ.out]
                go_wp2_with fail
                go_ret2
                exact ⟨loose_ret HD.out.symm, hb⟩
              | some x =>
                have hx := partB_le _ _ hq
                have HQ := Lib.hid (optI_some hq)
                by_cases h255 : 255 < x
                · have HD := Lib.hid (looseB_bad HEN.out (by rw [HLL.out]; exact joinP_dead (k := k + 1) (by rw [HN.out]; omega) (by rw [outTo, HK.out]; simp only [hY, hq, if_pos h255])))
                  clear hq hY
                  go_wp2_with fail
                  refine (refPart_any _ _ hsk).mono ?_
                  rintro e w2 ⟨rfl, rfl⟩
                  rw [HQ.out]
                  go_wp2_with fail
                  go_ret2
                  exact ⟨loose_ret HD.out.symm, hb⟩
                · have HD : Hid (outTo l (k + 1) = some (m * 256 + x)) := Lib.hid (by rw [outTo, HK.out]; simp only [hY, hq, if_neg h255])
                  clear hq hY
                  go_wp2_with fail
                  refine (refPart_any _ _ hsk).mono ?_
                  rintro e w2 ⟨rfl, rfl⟩
                  rw [HQ.out]
                  go_wp2_with fail
                  go_round
                  case rel => exact ⟨k + 1, m * 256 + x, by omega, by go_num, by go_num, HD⟩
                  case measure => simp [intOf]; omega
            · have hkn : k = n - 1 := by omega
              have HKN := Lib.hid hkn
              clear hkn
              have hlti : ¬ (k : Int) + 1 < (n : Int) := by omega
              go_wp2_with fail
              go_loop [9, 10] (fun r i => ∃ (j : Nat) (R : Int), n ≤ j ∧ j ≤ 5 ∧ i = .int .i64 j ∧ r = .int .i64 R ∧ ((j = n ∧ R = 1) ∨ (j = n + 1 ∧ R = 256) ∨ (j = n + 2 ∧ R = 65536) ∨ (j = n + 3 ∧ R = 16777216) ∨ (j = n + 4 ∧ R = 4294967296))) (fun _ i => 5 - (intOf i).toNat)
              case atStart => exact ⟨n, 1, Nat.le_refl _, by omega, rfl, rfl, .inl ⟨rfl, rfl⟩⟩
              case round =>
                obtain ⟨j, R, hj1, hj2, rfl, rfl, hjr⟩ := hrel
                by_cases hj : j ≤ 4
                · have hRb : 0 ≤ R ∧ R ≤ 4294967296 := by omega
                  obtain ⟨hRb1, hRb2⟩ := hRb
                  have HJR := Lib.hid hjr
                  clear hjr
                  go_wp2_with fail
                  go_round
                  case rel => exact ⟨j + 1, R * 256, by omega, by omega, by go_num, by go_num, by have := HJR.out; omega⟩
                  case measure => simp [intOf]; omega
                · have hj5 : j = 5 := by omega
                  have hcase : (n = 4 ∧ R = 256) ∨ (n = 3 ∧ R = 65536) ∨ (n = 2 ∧ R = 16777216) ∨ (n = 1 ∧ R = 4294967296) := by omega
                  clear hjr hj5
                  go_wp2_with fail
                  refine (refPart_any _ _ hsm).mono ?_
                  rintro e w2 ⟨rfl, rfl⟩
                  rw [HP.out]
                  have hjp := joinP_eq HN.out h4 (by rw [← HKN.out]; exact HK.out) (by rw [HX.out]; exact HPN.out)
                  rcases hcase with ⟨hn4, rfl⟩ | ⟨hn4, rfl⟩ | ⟨hn4, rfl⟩ | ⟨hn4, rfl⟩
                  · have hRk : roomB (n - 1) = 256 := by rw [hn4]; rfl
                    by_cases hge : 256 ≤ v
                    · rw [if_pos (by rw [hRk]; exact hge)] at hjp
                      have HD := Lib.hid (looseB_bad HEN.out (by rw [HLL.out]; exact hjp))
                      have hgi : (256 : Int) ≤ (v : Int) := by omega
                      clear hRk hge hjp hn4
                      go_wp2_with fail
                      go_ret2
                      exact ⟨loose_ret HD.out.symm, hb⟩
                    · rw [if_neg (by rw [hRk]; exact hge), hRk] at hjp
                      have HD := Lib.hid (looseB_good HEN.out (by rw [HLL.out]; exact hjp))
                      have hgi : decide ((256 : Int) ≤ (v : Int)) = false := by simp; omega
                      have hmk : m < 16777216 := by
                        have := outTo_lt l k m HK.out
                        rw [HKN.out, hn4] at this
                        simpa using this
                      have e2 : IntKind.u32.wrap ((m : Int) * 256 + (v : Int)) = (m : Int) * 256 + (v : Int) := by
                        rw [IntKind.wrap_u32]; omega
                      clear hRk hge hjp hn4 hmk
                      go_wp2_with fail
                      go_ret2
                      exact ⟨loose_some HD.out (by omega), hb⟩
                  · have hRk : roomB (n - 1) = 65536 := by rw [hn4]; rfl
                    by_cases hge : 65536 ≤ v
                    · rw [if_pos (by rw [hRk]; exact hge)] at hjp
                      have HD := Lib.hid (looseB_bad HEN.out (by rw [HLL.out]; exact hjp))
                      have hgi : (65536 : Int) ≤ (v : Int) := by omega
                      clear hRk hge hjp hn4
                      go_wp2_with fail
                      go_ret2
                      exact ⟨loose_ret HD.out.symm, hb⟩
                    · rw [if_neg (by rw [hRk]; exact hge), hRk] at hjp
                      have HD := Lib.hid (looseB_good HEN.out (by rw [HLL.out]; exact hjp))
                      have hgi : decide ((65536 : Int) ≤ (v : Int)) = false := by simp; omega
                      have hmk : m < 65536 := by
                        have := outTo_lt l k m HK.out
                        rw [HKN.out, hn4] at this
                        simpa using this
                      have e2 : IntKind.u32.wrap ((m : Int) * 65536 + (v : Int)) = (m : Int) * 65536 + (v : Int) := by
                        rw [IntKind.wrap_u32]; omega
                      clear hRk hge hjp hn4 hmk
                      go_wp2_with fail
                      go_ret2
                      exact ⟨loose_some HD.out (by omega), hb⟩
                  · have hRk : roomB (n - 1) = 16777216 := by rw [hn4]; rfl
                    by_cases hge : 16777216 ≤ v
                    · rw [if_pos (by rw [hRk]; exact hge)] at hjp
                      have HD := Lib.hid (looseB_bad HEN.out (by rw [HLL.out]; exact hjp))
                      have hgi : (16777216 : Int) ≤ (v : Int) := by omega
                      clear hRk hge hjp hn4
                      go_wp2_with fail
                      go_ret2
                      exact ⟨loose_ret HD.out.symm, hb⟩
                    · rw [if_neg (by rw [hRk]; exact hge), hRk] at hjp
                      have HD := Lib.hid (looseB_good HEN.out (by rw [HLL.out]; exact hjp))
                      have hgi : decide ((16777216 : Int) ≤ (v : Int)) = false := by simp; omega
                      have hmk : m < 256 := by
                        have := outTo_lt l k m HK.out
                        rw [HKN.out, hn4] at this
                        simpa using this
                      have e2 : IntKind.u32.wrap ((m : Int) * 16777216 + (v : Int)) = (m : Int) * 16777216 + (v : Int) := by
                        rw [IntKind.wrap_u32]; omega
                      clear hRk hge hjp hn4 hmk
                      go_wp2_with fail
                      go_ret2
                      exact ⟨loose_some HD.out (by omega), hb⟩
                  · have hRk : roomB (n - 1) = 4294967296 := by rw [hn4]; rfl
                    by_cases hge : 4294967296 ≤ v
                    · rw [if_pos (by rw [hRk]; exact hge)] at hjp
                      have HD := Lib.hid (looseB_bad HEN.out (by rw [HLL.out]; exact hjp))
                      have hgi : (4294967296 : Int) ≤ (v : Int) := by omega
                      clear hRk hge hjp hn4
                      go_wp2_with fail
                      go_ret2
                      exact ⟨loose_ret HD.out.symm, hb⟩
                    · rw [if_neg (by rw [hRk]; exact hge), hRk] at hjp
                      have HD := Lib.hid (looseB_good HEN.out (by rw [HLL.out]; exact hjp))
                      have hgi : decide ((4294967296 : Int) ≤ (v : Int)) = false := by simp; omega
                      have hmk : m < 1 := by
                        have := outTo_lt l k m HK.out
                        rw [HKN.out, hn4] at this
                        simpa using this
                      have e2 : IntKind.u32.wrap ((m : Int) * 4294967296 + (v : Int)) = (m : Int) * 4294967296 + (v : Int) := by
                        rw [IntKind.wrap_u32]; omega
                      clear hRk hge hjp hn4 hmk
                      go_wp2_with fail
                      go_ret2
                      exact ⟨loose_some HD.out (by omega), hb⟩
      | none =>
        have HP := Lib.hid (optI_none hpx)
        have HPN := Lib.hid hpx
        rw [show optI none = -1 from rfl]
        clear hpx
        by_cases hx0 : X.size = 0
        · have HD := Lib.hid (looseB_name (s := s) (by rw [HLL.out, HN.out, HX.out]; exact ends_none HPN.out (.inl hx0)))
          have hxe := isEmpty_true X hx0
          go_wp2_with fail
          go_ret2
          exact ⟨loose_ret HD.out.symm, hb⟩
        · have hxe := isEmpty_false X (by omega)
          go_wp2_with fail
          refine (refDigits_10 _ _ hsm).mono ?_
          rintro e w2 ⟨rfl, rfl⟩
          cases hq : readB X 10 with
          | none =>
            have HD := Lib.hid (looseB_name (s := s) (by rw [HLL.out, HN.out, HX.out]; exact ends_none HPN.out (.inr hq)))
            have HQ := Lib.hid (optI_none hq)
            rw [show optI none = -1 from rfl]
            clear hq
            go_wp2_with fail
            go_ret2
            exact ⟨loose_ret HD.out.symm, hb⟩
          | some y =>
            have HEN : Hid (endsB ((lparts s).getD ((lparts s).length - 1) ⟨#[]⟩) = true) := Lib.hid (by rw [HLL.out, HN.out, HX.out]; exact ends_digits (by omega) hq)
            have HQ := Lib.hid (optI_some hq)
            have hy := readB_le _ _ _ hq
            rw [show optI (some y) = (y : Int) from rfl]
            clear hq
            by_cases h4 : 4 < n
            · have HD := Lib.hid (looseB_bad HEN.out (by rw [HLL.out]; exact joinP_long HN.out h4))
              go_wp2_with fail
              go_ret2
              exact ⟨loose_ret HD.out.symm, hb⟩
            · go_wp2_with fail
              go_loop [6, 7] (fun o i => ∃ k m : Nat, k ≤ n - 1 ∧ i = .int .i64 k ∧ o = .int .i64 (m : Int) ∧ Hid (outTo l k = some m)) (fun _ i => n - 1 - (intOf i).toNat)
              case atStart => exact ⟨0, 0, Nat.zero_le _, rfl, rfl, Lib.hid rfl⟩
              case round =>
                obtain ⟨k, m, hk, rfl, rfl, HK⟩ := hrel
                have hm : m < 16777216 := Nat.lt_of_lt_of_le (outTo_lt l k m HK.out) (Nat.le_trans (Nat.pow_le_pow_right (by decide) (by omega : k ≤ 3)) (by decide))
                by_cases hlt : k + 1 < n
                · have hcellk := HR.out.cells k (by omega)
                  have hsk := getD_small HS.out k
                  obtain ⟨Y, hY⟩ : ∃ Y, l.getD k ⟨#[]⟩ = Y := ⟨_, rfl⟩
                  rw [hY] at hcellk hsk
                  have hlti : (k : Int) + 1 < (n : Int) := by omega
                  cases hq : partB Y with
                  | none =>
                    have HD := Lib.hid (looseB_bad HEN.out (by rw [HLL.out]; exact joinP_dead (k := k + 1) (by rw [HN.out]; omega) (by rw [outTo, HK.out]; simp only [hY, hq])))
                    have HQ := Lib.hid (optI_none hq)
                    clear hq hY
                    go_wp2_with fail
                    refine (refPart_any _ _ hsk).mono ?_
                    rintro e w2 ⟨rfl, rfl⟩
                    rw [HQ.out]
                    go_wp2_with fail
                    go_ret2
                    exact ⟨loose_ret HD.out.symm, hb⟩
                  | some x =>
                    have hx := partB_le _ _ hq
                    have HQ := Lib.hid (optI_some hq)
                    by_cases h255 : 255 < x
                    · have HD := Lib.hid (looseB_bad HEN.out (by rw [HLL.out]; exact joinP_dead (k := k + 1) (by rw [HN.out]; omega) (by rw [outTo, HK.out]; simp only [hY, hq, if_pos h255])))
                      clear hq hY
                      go_wp2_with fail
                      refine (refPart_any _ _ hsk).mono ?_
                      rintro e w2 ⟨rfl, rfl⟩
                      rw [HQ.out]
                      go_wp2_with fail
                      go_ret2
                      exact ⟨loose_ret HD.out.symm, hb⟩
                    · have HD : Hid (outTo l (k + 1) = some (m * 256 + x)) := Lib.hid (by rw [outTo, HK.out]; simp only [hY, hq, if_neg h255])
                      clear hq hY
                      go_wp2_with fail
                      refine (refPart_any _ _ hsk).mono ?_
                      rintro e w2 ⟨rfl, rfl⟩
                      rw [HQ.out]
                      go_wp2_with fail
                      go_round
                      case rel => exact ⟨k + 1, m * 256 + x, by omega, by go_num, by go_num, HD⟩
                      case measure => simp [intOf]; omega
                · have hkn : k = n - 1 := by omega
                  have HKN := Lib.hid hkn
                  clear hkn
                  have hlti : ¬ (k : Int) + 1 < (n : Int) := by omega
                  go_wp2_with fail
                  go_loop [9, 10] (fun r i => ∃ (j : Nat) (R : Int), n ≤ j ∧ j ≤ 5 ∧ i = .int .i64 j ∧ r = .int .i64 R ∧ ((j = n ∧ R = 1) ∨ (j = n + 1 ∧ R = 256) ∨ (j = n + 2 ∧ R = 65536) ∨ (j = n + 3 ∧ R = 16777216) ∨ (j = n + 4 ∧ R = 4294967296))) (fun _ i => 5 - (intOf i).toNat)
                  case atStart => exact ⟨n, 1, Nat.le_refl _, by omega, rfl, rfl, .inl ⟨rfl, rfl⟩⟩
                  case round =>
                    obtain ⟨j, R, hj1, hj2, rfl, rfl, hjr⟩ := hrel
                    by_cases hj : j ≤ 4
                    · have hRb : 0 ≤ R ∧ R ≤ 4294967296 := by omega
                      obtain ⟨hRb1, hRb2⟩ := hRb
                      have HJR := Lib.hid hjr
                      clear hjr
                      go_wp2_with fail
                      go_round
                      case rel => exact ⟨j + 1, R * 256, by omega, by omega, by go_num, by go_num, by have := HJR.out; omega⟩
                      case measure => simp [intOf]; omega
                    · have hj5 : j = 5 := by omega
                      have hcase : (n = 4 ∧ R = 256) ∨ (n = 3 ∧ R = 65536) ∨ (n = 2 ∧ R = 16777216) ∨ (n = 1 ∧ R = 4294967296) := by omega
                      clear hjr hj5
                      clear hcase
                      go_wp2_with fail
                      refine (refPart_any _ _ hsm).mono ?_
                      rintro e w2 ⟨rfl, rfl⟩
                      rw [HP.out]
                      have HD := Lib.hid (looseB_bad HEN.out (by rw [HLL.out]; exact joinP_last HN.out (by rw [HX.out]; exact HPN.out)))
                      go_wp2_with fail
                      go_ret2
                      exact ⟨loose_ret HD.out.symm, hb⟩
    · have HL : Hid (lparts s = pieces s 46) := Lib.hid (by unfold lparts; rw [if_neg (by intro h; exact h2 h.2)])
      have he := isEmpty_false _ (Nat.pos_of_ne_zero h2)
      have HR : Hid (StrRow w1 g (pieces s 46).length c (lparts s)) := Lib.hid (by
        rw [HL.out]; exact HR0.out)
      have HN : Hid ((lparts s).length = (pieces s 46).length) := Lib.hid HR.out.len
      have hcell := HR.out.cells ((pieces s 46).length - 1) (by omega)
      obtain ⟨X, hX⟩ : ∃ X, (pieces s 46).getD ((pieces s 46).length - 1) ⟨#[]⟩ = X := ⟨_, rfl⟩
      have HX : Hid ((lparts s).getD ((pieces s 46).length - 1) ⟨#[]⟩ = X) := Lib.hid (by rw [HL.out]; exact hX)
      rw [HX.out] at hcell
      rw [hX] at he
      clear hX
      have h0 : 0 < (pieces s 46).length := by omega
      have hn : (pieces s 46).length ≤ 1000001 := by omega
      clear h2 HL HR0 hcell0
      generalize hL : lparts s = l at *
      go_wp2_with fail
      generalize (pieces s 46).length = n at *
      have HLL := Lib.hid hL
      clear hL
      have hsm : X.size ≤ 1000000 := by rw [← HX.out]; exact getD_small HS.out (n - 1)
      refine (refPart_any _ _ hsm).mono ?_
      rintro e w2 ⟨rfl, rfl⟩
      cases hpx : partB X with
      | some v =>
        have HEN : Hid (endsB ((lparts s).getD ((lparts s).length - 1) ⟨#[]⟩) = true) := Lib.hid (by rw [HLL.out, HN.out, HX.out]; exact ends_some hpx)
        have hv := partB_le _ _ hpx
        have HP := Lib.hid (optI_some hpx)
        have HPN := Lib.hid hpx
        rw [show optI (some v) = (v : Int) from rfl]
        clear hpx
        by_cases h4 : 4 < n
        · have HD := Lib.hid (looseB_bad HEN.out (by rw [HLL.out]; exact joinP_long HN.out h4))
          go_wp2_with fail
          go_ret2
          exact ⟨loose_ret HD.out.symm, hb⟩
        · go_wp2_with fail
          go_loop [6, 7] (fun o i => ∃ k m : Nat, k ≤ n - 1 ∧ i = .int .i64 k ∧ o = .int .i64 (m : Int) ∧ Hid (outTo l k = some m)) (fun _ i => n - 1 - (intOf i).toNat)
          case atStart => exact ⟨0, 0, Nat.zero_le _, rfl, rfl, Lib.hid rfl⟩
          case round =>
            obtain ⟨k, m, hk, rfl, rfl, HK⟩ := hrel
            have hm : m < 16777216 := Nat.lt_of_lt_of_le (outTo_lt l k m HK.out) (Nat.le_trans (Nat.pow_le_pow_right (by decide) (by omega : k ≤ 3)) (by decide))
            by_cases hlt : k + 1 < n
            · have hcellk := HR.out.cells k (by omega)
              have hsk := getD_small HS.out k
              obtain ⟨Y, hY⟩ : ∃ Y, l.getD k ⟨#[]⟩ = Y := ⟨_, rfl⟩
              rw [hY] at hcellk hsk
              have hlti : (k : Int) + 1 < (n : Int) := by omega
              cases hq : partB Y with
              | none =>
                have HD := Lib.hid (looseB_bad HEN.out (by rw [HLL.out]; exact joinP_dead (k := k + 1) (by rw [HN.out]; omega) (by rw [outTo, HK.out]; simp only [hY, hq])))
                have HQ := Lib.hid (optI_none hq)
                clear hq hY
                go_wp2_with fail
                refine (refPart_any _ _ hsk).mono ?_
                rintro e w2 ⟨rfl, rfl⟩
                rw [HQ.out]
                go_wp2_with fail
                go_ret2
                exact ⟨loose_ret HD.out.symm, hb⟩
              | some x =>
                have hx := partB_le _ _ hq
                have HQ := Lib.hid (optI_some hq)
                by_cases h255 : 255 < x
                · have HD := Lib.hid (looseB_bad HEN.out (by rw [HLL.out]; exact joinP_dead (k := k + 1) (by rw [HN.out]; omega) (by rw [outTo, HK.out]; simp only [hY, hq, if_pos h255])))
                  clear hq hY
                  go_wp2_with fail
                  refine (refPart_any _ _ hsk).mono ?_
                  rintro e w2 ⟨rfl, rfl⟩
                  rw [HQ.out]
                  go_wp2_with fail
                  go_ret2
                  exact ⟨loose_ret HD.out.symm, hb⟩
                · have HD : Hid (outTo l (k + 1) = some (m * 256 + x)) := Lib.hid (by rw [outTo, HK.out]; simp only [hY, hq, if_neg h255])
                  clear hq hY
                  go_wp2_with fail
                  refine (refPart_any _ _ hsk).mono ?_
                  rintro e w2 ⟨rfl, rfl⟩
                  rw [HQ.out]
                  go_wp2_with fail
                  go_round
                  case rel => exact ⟨k + 1, m * 256 + x, by omega, by go_num, by go_num, HD⟩
                  case measure => simp [intOf]; omega
            · have hkn : k = n - 1 := by omega
              have HKN := Lib.hid hkn
              clear hkn
              have hlti : ¬ (k : Int) + 1 < (n : Int) := by omega
              go_wp2_with fail
              go_loop [9, 10] (fun r i => ∃ (j : Nat) (R : Int), n ≤ j ∧ j ≤ 5 ∧ i = .int .i64 j ∧ r = .int .i64 R ∧ ((j = n ∧ R = 1) ∨ (j = n + 1 ∧ R = 256) ∨ (j = n + 2 ∧ R = 65536) ∨ (j = n + 3 ∧ R = 16777216) ∨ (j = n + 4 ∧ R = 4294967296))) (fun _ i => 5 - (intOf i).toNat)
              case atStart => exact ⟨n, 1, Nat.le_refl _, by omega, rfl, rfl, .inl ⟨rfl, rfl⟩⟩
              case round =>
                obtain ⟨j, R, hj1, hj2, rfl, rfl, hjr⟩ := hrel
                by_cases hj : j ≤ 4
                · have hRb : 0 ≤ R ∧ R ≤ 4294967296 := by omega
                  obtain ⟨hRb1, hRb2⟩ := hRb
                  have HJR := Lib.hid hjr
                  clear hjr
                  go_wp2_with fail
                  go_round
                  case rel => exact ⟨j + 1, R * 256, by omega, by omega, by go_num, by go_num, by have := HJR.out; omega⟩
                  case measure => simp [intOf]; omega
                · have hj5 : j = 5 := by omega
                  have hcase : (n = 4 ∧ R = 256) ∨ (n = 3 ∧ R = 65536) ∨ (n = 2 ∧ R = 16777216) ∨ (n = 1 ∧ R = 4294967296) := by omega
                  clear hjr hj5
                  go_wp2_with fail
                  refine (refPart_any _ _ hsm).mono ?_
                  rintro e w2 ⟨rfl, rfl⟩
                  rw [HP.out]
                  have hjp := joinP_eq HN.out h4 (by rw [← HKN.out]; exact HK.out) (by rw [HX.out]; exact HPN.out)
                  rcases hcase with ⟨hn4, rfl⟩ | ⟨hn4, rfl⟩ | ⟨hn4, rfl⟩ | ⟨hn4, rfl⟩
                  · have hRk : roomB (n - 1) = 256 := by rw [hn4]; rfl
                    by_cases hge : 256 ≤ v
                    · rw [if_pos (by rw [hRk]; exact hge)] at hjp
                      have HD := Lib.hid (looseB_bad HEN.out (by rw [HLL.out]; exact hjp))
                      have hgi : (256 : Int) ≤ (v : Int) := by omega
                      clear hRk hge hjp hn4
                      go_wp2_with fail
                      go_ret2
                      exact ⟨loose_ret HD.out.symm, hb⟩
                    · rw [if_neg (by rw [hRk]; exact hge), hRk] at hjp
                      have HD := Lib.hid (looseB_good HEN.out (by rw [HLL.out]; exact hjp))
                      have hgi : decide ((256 : Int) ≤ (v : Int)) = false := by simp; omega
                      have hmk : m < 16777216 := by
                        have := outTo_lt l k m HK.out
                        rw [HKN.out, hn4] at this
                        simpa using this
                      have e2 : IntKind.u32.wrap ((m : Int) * 256 + (v : Int)) = (m : Int) * 256 + (v : Int) := by
                        rw [IntKind.wrap_u32]; omega
                      clear hRk hge hjp hn4 hmk
                      go_wp2_with fail
                      go_ret2
                      exact ⟨loose_some HD.out (by omega), hb⟩
                  · have hRk : roomB (n - 1) = 65536 := by rw [hn4]; rfl
                    by_cases hge : 65536 ≤ v
                    · rw [if_pos (by rw [hRk]; exact hge)] at hjp
                      have HD := Lib.hid (looseB_bad HEN.out (by rw [HLL.out]; exact hjp))
                      have hgi : (65536 : Int) ≤ (v : Int) := by omega
                      clear hRk hge hjp hn4
                      go_wp2_with fail
                      go_ret2
                      exact ⟨loose_ret HD.out.symm, hb⟩
                    · rw [if_neg (by rw [hRk]; exact hge), hRk] at hjp
                      have HD := Lib.hid (looseB_good HEN.out (by rw [HLL.out]; exact hjp))
                      have hgi : decide ((65536 : Int) ≤ (v : Int)) = false := by simp; omega
                      have hmk : m < 65536 := by
                        have := outTo_lt l k m HK.out
                        rw [HKN.out, hn4] at this
                        simpa using this
                      have e2 : IntKind.u32.wrap ((m : Int) * 65536 + (v : Int)) = (m : Int) * 65536 + (v : Int) := by
                        rw [IntKind.wrap_u32]; omega
                      clear hRk hge hjp hn4 hmk
                      go_wp2_with fail
                      go_ret2
                      exact ⟨loose_some HD.out (by omega), hb⟩
                  · have hRk : roomB (n - 1) = 16777216 := by rw [hn4]; rfl
                    by_cases hge : 16777216 ≤ v
                    · rw [if_pos (by rw [hRk]; exact hge)] at hjp
                      have HD := Lib.hid (looseB_bad HEN.out (by rw [HLL.out]; exact hjp))
                      have hgi : (16777216 : Int) ≤ (v : Int) := by omega
                      clear hRk hge hjp hn4
                      go_wp2_with fail
                      go_ret2
                      exact ⟨loose_ret HD.out.symm, hb⟩
                    · rw [if_neg (by rw [hRk]; exact hge), hRk] at hjp
                      have HD := Lib.hid (looseB_good HEN.out (by rw [HLL.out]; exact hjp))
                      have hgi : decide ((16777216 : Int) ≤ (v : Int)) = false := by simp; omega
                      have hmk : m < 256 := by
                        have := outTo_lt l k m HK.out
                        rw [HKN.out, hn4] at this
                        simpa using this
                      have e2 : IntKind.u32.wrap ((m : Int) * 16777216 + (v : Int)) = (m : Int) * 16777216 + (v : Int) := by
                        rw [IntKind.wrap_u32]; omega
                      clear hRk hge hjp hn4 hmk
                      go_wp2_with fail
                      go_ret2
                      exact ⟨loose_some HD.out (by omega), hb⟩
                  · have hRk : roomB (n - 1) = 4294967296 := by rw [hn4]; rfl
                    by_cases hge : 4294967296 ≤ v
                    · rw [if_pos (by rw [hRk]; exact hge)] at hjp
                      have HD := Lib.hid (looseB_bad HEN.out (by rw [HLL.out]; exact hjp))
                      have hgi : (4294967296 : Int) ≤ (v : Int) := by omega
                      clear hRk hge hjp hn4
                      go_wp2_with fail
                      go_ret2
                      exact ⟨loose_ret HD.out.symm, hb⟩
                    · rw [if_neg (by rw [hRk]; exact hge), hRk] at hjp
                      have HD := Lib.hid (looseB_good HEN.out (by rw [HLL.out]; exact hjp))
                      have hgi : decide ((4294967296 : Int) ≤ (v : Int)) = false := by simp; omega
                      have hmk : m < 1 := by
                        have := outTo_lt l k m HK.out
                        rw [HKN.out, hn4] at this
                        simpa using this
                      have e2 : IntKind.u32.wrap ((m : Int) * 4294967296 + (v : Int)) = (m : Int) * 4294967296 + (v : Int) := by
                        rw [IntKind.wrap_u32]; omega
                      clear hRk hge hjp hn4 hmk
                      go_wp2_with fail
                      go_ret2
                      exact ⟨loose_some HD.out (by omega), hb⟩
      | none =>
        have HP := Lib.hid (optI_none hpx)
        have HPN := Lib.hid hpx
        rw [show optI none = -1 from rfl]
        clear hpx
        by_cases hx0 : X.size = 0
        · have HD := Lib.hid (looseB_name (s := s) (by rw [HLL.out, HN.out, HX.out]; exact ends_none HPN.out (.inl hx0)))
          have hxe := isEmpty_true X hx0
          rw [he] at hxe
          cases hxe
        · have hxe := isEmpty_false X (by omega)
          go_wp2_with fail
          refine (refDigits_10 _ _ hsm).mono ?_
          rintro e w2 ⟨rfl, rfl⟩
          cases hq : readB X 10 with
          | none =>
            have HD := Lib.hid (looseB_name (s := s) (by rw [HLL.out, HN.out, HX.out]; exact ends_none HPN.out (.inr hq)))
            have HQ := Lib.hid (optI_none hq)
            rw [show optI none = -1 from rfl]
            clear hq
            go_wp2_with fail
            go_ret2
            exact ⟨loose_ret HD.out.symm, hb⟩
          | some y =>
            have HEN : Hid (endsB ((lparts s).getD ((lparts s).length - 1) ⟨#[]⟩) = true) := Lib.hid (by rw [HLL.out, HN.out, HX.out]; exact ends_digits (by omega) hq)
            have HQ := Lib.hid (optI_some hq)
            have hy := readB_le _ _ _ hq
            rw [show optI (some y) = (y : Int) from rfl]
            clear hq
            by_cases h4 : 4 < n
            · have HD := Lib.hid (looseB_bad HEN.out (by rw [HLL.out]; exact joinP_long HN.out h4))
              go_wp2_with fail
              go_ret2
              exact ⟨loose_ret HD.out.symm, hb⟩
            · go_wp2_with fail
              go_loop [6, 7] (fun o i => ∃ k m : Nat, k ≤ n - 1 ∧ i = .int .i64 k ∧ o = .int .i64 (m : Int) ∧ Hid (outTo l k = some m)) (fun _ i => n - 1 - (intOf i).toNat)
              case atStart => exact ⟨0, 0, Nat.zero_le _, rfl, rfl, Lib.hid rfl⟩
              case round =>
                obtain ⟨k, m, hk, rfl, rfl, HK⟩ := hrel
                have hm : m < 16777216 := Nat.lt_of_lt_of_le (outTo_lt l k m HK.out) (Nat.le_trans (Nat.pow_le_pow_right (by decide) (by omega : k ≤ 3)) (by decide))
                by_cases hlt : k + 1 < n
                · have hcellk := HR.out.cells k (by omega)
                  have hsk := getD_small HS.out k
                  obtain ⟨Y, hY⟩ : ∃ Y, l.getD k ⟨#[]⟩ = Y := ⟨_, rfl⟩
                  rw [hY] at hcellk hsk
                  have hlti : (k : Int) + 1 < (n : Int) := by omega
                  cases hq : partB Y with
                  | none =>
                    have HD := Lib.hid (looseB_bad HEN.out (by rw [HLL.out]; exact joinP_dead (k := k + 1) (by rw [HN.out]; omega) (by rw [outTo, HK.out]; simp only [hY, hq])))
                    have HQ := Lib.hid (optI_none hq)
                    clear hq hY
                    go_wp2_with fail
                    refine (refPart_any _ _ hsk).mono ?_
                    rintro e w2 ⟨rfl, rfl⟩
                    rw [HQ.out]
                    go_wp2_with fail
                    go_ret2
                    exact ⟨loose_ret HD.out.symm, hb⟩
                  | some x =>
                    have hx := partB_le _ _ hq
                    have HQ := Lib.hid (optI_some hq)
                    by_cases h255 : 255 < x
                    · have HD := Lib.hid (looseB_bad HEN.out (by rw [HLL.out]; exact joinP_dead (k := k + 1) (by rw [HN.out]; omega) (by rw [outTo, HK.out]; simp only [hY, hq, if_pos h255])))
                      clear hq hY
                      go_wp2_with fail
                      refine (refPart_any _ _ hsk).mono ?_
                      rintro e w2 ⟨rfl, rfl⟩
                      rw [HQ.out]
                      go_wp2_with fail
                      go_ret2
                      exact ⟨loose_ret HD.out.symm, hb⟩
                    · have HD : Hid (outTo l (k + 1) = some (m * 256 + x)) := Lib.hid (by rw [outTo, HK.out]; simp only [hY, hq, if_neg h255])
                      clear hq hY
                      go_wp2_with fail
                      refine (refPart_any _ _ hsk).mono ?_
                      rintro e w2 ⟨rfl, rfl⟩
                      rw [HQ.out]
                      go_wp2_with fail
                      go_round
                      case rel => exact ⟨k + 1, m * 256 + x, by omega, by go_num, by go_num, HD⟩
                      case measure => simp [intOf]; omega
                · have hkn : k = n - 1 := by omega
                  have HKN := Lib.hid hkn
                  clear hkn
                  have hlti : ¬ (k : Int) + 1 < (n : Int) := by omega
                  go_wp2_with fail
                  go_loop [9, 10] (fun r i => ∃ (j : Nat) (R : Int), n ≤ j ∧ j ≤ 5 ∧ i = .int .i64 j ∧ r = .int .i64 R ∧ ((j = n ∧ R = 1) ∨ (j = n + 1 ∧ R = 256) ∨ (j = n + 2 ∧ R = 65536) ∨ (j = n + 3 ∧ R = 16777216) ∨ (j = n + 4 ∧ R = 4294967296))) (fun _ i => 5 - (intOf i).toNat)
                  case atStart => exact ⟨n, 1, Nat.le_refl _, by omega, rfl, rfl, .inl ⟨rfl, rfl⟩⟩
                  case round =>
                    obtain ⟨j, R, hj1, hj2, rfl, rfl, hjr⟩ := hrel
                    by_cases hj : j ≤ 4
                    · have hRb : 0 ≤ R ∧ R ≤ 4294967296 := by omega
                      obtain ⟨hRb1, hRb2⟩ := hRb
                      have HJR := Lib.hid hjr
                      clear hjr
                      go_wp2_with fail
                      go_round
                      case rel => exact ⟨j + 1, R * 256, by omega, by omega, by go_num, by go_num, by have := HJR.out; omega⟩
                      case measure => simp [intOf]; omega
                    · have hj5 : j = 5 := by omega
                      have hcase : (n = 4 ∧ R = 256) ∨ (n = 3 ∧ R = 65536) ∨ (n = 2 ∧ R = 16777216) ∨ (n = 1 ∧ R = 4294967296) := by omega
                      clear hjr hj5
                      clear hcase
                      go_wp2_with fail
                      refine (refPart_any _ _ hsm).mono ?_
                      rintro e w2 ⟨rfl, rfl⟩
                      rw [HP.out]
                      have HD := Lib.hid (looseB_bad HEN.out (by rw [HLL.out]; exact joinP_last HN.out (by rw [HX.out]; exact HPN.out)))
                      go_wp2_with fail
                      go_ret2
                      exact ⟨loose_ret HD.out.symm, hb⟩
  · have HL : Hid (lparts s = pieces s 46) := Lib.hid (by unfold lparts; rw [if_neg (by intro h; exact h1 h.1)])
    have HR : Hid (StrRow w1 g (pieces s 46).length c (lparts s)) := Lib.hid (by
      rw [HL.out]; exact HR0.out)
    have HN : Hid ((lparts s).length = (pieces s 46).length) := Lib.hid HR.out.len
    have hcell := HR.out.cells ((pieces s 46).length - 1) (by omega)
    obtain ⟨X, hX⟩ : ∃ X, (lparts s).getD ((pieces s 46).length - 1) ⟨#[]⟩ = X := ⟨_, rfl⟩
    rw [hX] at hcell
    have HX := Lib.hid hX
    clear hX
    have h0 : 0 < (pieces s 46).length := by omega
    have hn : (pieces s 46).length ≤ 1000001 := by omega
    clear HL HR0 hcell0
    generalize hL : lparts s = l at *
    go_wp2_with fail
    generalize (pieces s 46).length = n at *
    have HLL := Lib.hid hL
    clear hL
    have hsm : X.size ≤ 1000000 := by rw [← HX.out]; exact getD_small HS.out (n - 1)
    refine (refPart_any _ _ hsm).mono ?_
    rintro e w2 ⟨rfl, rfl⟩
    cases hpx : partB X with
    | some v =>
      have HEN : Hid (endsB ((lparts s).getD ((lparts s).length - 1) ⟨#[]⟩) = true) := Lib.hid (by rw [HLL.out, HN.out, HX.out]; exact ends_some hpx)
      have hv := partB_le _ _ hpx
      have HP := Lib.hid (optI_some hpx)
      have HPN := Lib.hid hpx
      rw [show optI (some v) = (v : Int) from rfl]
      clear hpx
      by_cases h4 : 4 < n
      · exfalso; omega
      · go_wp2_with fail
        go_loop [6, 7] (fun o i => ∃ k m : Nat, k ≤ n - 1 ∧ i = .int .i64 k ∧ o = .int .i64 (m : Int) ∧ Hid (outTo l k = some m)) (fun _ i => n - 1 - (intOf i).toNat)
        case atStart => exact ⟨0, 0, Nat.zero_le _, rfl, rfl, Lib.hid rfl⟩
        case round =>
          obtain ⟨k, m, hk, rfl, rfl, HK⟩ := hrel
          have hm : m < 16777216 := Nat.lt_of_lt_of_le (outTo_lt l k m HK.out) (Nat.le_trans (Nat.pow_le_pow_right (by decide) (by omega : k ≤ 3)) (by decide))
          by_cases hlt : k + 1 < n
          · exfalso; omega
          · have hkn : k = n - 1 := by omega
            have HKN := Lib.hid hkn
            clear hkn
            have hlti : ¬ (k : Int) + 1 < (n : Int) := by omega
            go_wp2_with fail
            go_loop [9, 10] (fun r i => ∃ (j : Nat) (R : Int), n ≤ j ∧ j ≤ 5 ∧ i = .int .i64 j ∧ r = .int .i64 R ∧ ((j = n ∧ R = 1) ∨ (j = n + 1 ∧ R = 256) ∨ (j = n + 2 ∧ R = 65536) ∨ (j = n + 3 ∧ R = 16777216) ∨ (j = n + 4 ∧ R = 4294967296))) (fun _ i => 5 - (intOf i).toNat)
            case atStart => exact ⟨n, 1, Nat.le_refl _, by omega, rfl, rfl, .inl ⟨rfl, rfl⟩⟩
            case round =>
              obtain ⟨j, R, hj1, hj2, rfl, rfl, hjr⟩ := hrel
              by_cases hj : j ≤ 4
              · have hRb : 0 ≤ R ∧ R ≤ 4294967296 := by omega
                obtain ⟨hRb1, hRb2⟩ := hRb
                have HJR := Lib.hid hjr
                clear hjr
                go_wp2_with fail
                go_round
                case rel => exact ⟨j + 1, R * 256, by omega, by omega, by go_num, by go_num, by have := HJR.out; omega⟩
                case measure => simp [intOf]; omega
              · have hj5 : j = 5 := by omega
                have hcase : (n = 4 ∧ R = 256) ∨ (n = 3 ∧ R = 65536) ∨ (n = 2 ∧ R = 16777216) ∨ (n = 1 ∧ R = 4294967296) := by omega
                clear hjr hj5
                go_wp2_with fail
                refine (refPart_any _ _ hsm).mono ?_
                rintro e w2 ⟨rfl, rfl⟩
                rw [HP.out]
                have hjp := joinP_eq HN.out h4 (by rw [← HKN.out]; exact HK.out) (by rw [HX.out]; exact HPN.out)
                rcases hcase with ⟨hn4, rfl⟩ | ⟨hn4, rfl⟩ | ⟨hn4, rfl⟩ | ⟨hn4, rfl⟩
                · exfalso; omega
                · exfalso; omega
                · exfalso; omega
                · have hRk : roomB (n - 1) = 4294967296 := by rw [hn4]; rfl
                  by_cases hge : 4294967296 ≤ v
                  · rw [if_pos (by rw [hRk]; exact hge)] at hjp
                    have HD := Lib.hid (looseB_bad HEN.out (by rw [HLL.out]; exact hjp))
                    have hgi : (4294967296 : Int) ≤ (v : Int) := by omega
                    clear hRk hge hjp hn4
                    go_wp2_with fail
                    go_ret2
                    exact ⟨loose_ret HD.out.symm, hb⟩
                  · rw [if_neg (by rw [hRk]; exact hge), hRk] at hjp
                    have HD := Lib.hid (looseB_good HEN.out (by rw [HLL.out]; exact hjp))
                    have hgi : decide ((4294967296 : Int) ≤ (v : Int)) = false := by simp; omega
                    have hmk : m < 1 := by
                      have := outTo_lt l k m HK.out
                      rw [HKN.out, hn4] at this
                      simpa using this
                    have e2 : IntKind.u32.wrap ((m : Int) * 4294967296 + (v : Int)) = (m : Int) * 4294967296 + (v : Int) := by
                      rw [IntKind.wrap_u32]; omega
                    clear hRk hge hjp hn4 hmk
                    go_wp2_with fail
                    go_ret2
                    exact ⟨loose_some HD.out (by omega), hb⟩
    | none =>
      have HP := Lib.hid (optI_none hpx)
      have HPN := Lib.hid hpx
      rw [show optI none = -1 from rfl]
      clear hpx
      by_cases hx0 : X.size = 0
      · have HD := Lib.hid (looseB_name (s := s) (by rw [HLL.out, HN.out, HX.out]; exact ends_none HPN.out (.inl hx0)))
        have hxe := isEmpty_true X hx0
        go_wp2_with fail
        go_ret2
        exact ⟨loose_ret HD.out.symm, hb⟩
      · have hxe := isEmpty_false X (by omega)
        go_wp2_with fail
        refine (refDigits_10 _ _ hsm).mono ?_
        rintro e w2 ⟨rfl, rfl⟩
        cases hq : readB X 10 with
        | none =>
          have HD := Lib.hid (looseB_name (s := s) (by rw [HLL.out, HN.out, HX.out]; exact ends_none HPN.out (.inr hq)))
          have HQ := Lib.hid (optI_none hq)
          rw [show optI none = -1 from rfl]
          clear hq
          go_wp2_with fail
          go_ret2
          exact ⟨loose_ret HD.out.symm, hb⟩
        | some y =>
          have HEN : Hid (endsB ((lparts s).getD ((lparts s).length - 1) ⟨#[]⟩) = true) := Lib.hid (by rw [HLL.out, HN.out, HX.out]; exact ends_digits (by omega) hq)
          have HQ := Lib.hid (optI_some hq)
          have hy := readB_le _ _ _ hq
          rw [show optI (some y) = (y : Int) from rfl]
          clear hq
          by_cases h4 : 4 < n
          · exfalso; omega
          · go_wp2_with fail
            go_loop [6, 7] (fun o i => ∃ k m : Nat, k ≤ n - 1 ∧ i = .int .i64 k ∧ o = .int .i64 (m : Int) ∧ Hid (outTo l k = some m)) (fun _ i => n - 1 - (intOf i).toNat)
            case atStart => exact ⟨0, 0, Nat.zero_le _, rfl, rfl, Lib.hid rfl⟩
            case round =>
              obtain ⟨k, m, hk, rfl, rfl, HK⟩ := hrel
              have hm : m < 16777216 := Nat.lt_of_lt_of_le (outTo_lt l k m HK.out) (Nat.le_trans (Nat.pow_le_pow_right (by decide) (by omega : k ≤ 3)) (by decide))
              by_cases hlt : k + 1 < n
              · exfalso; omega
              · have hkn : k = n - 1 := by omega
                have HKN := Lib.hid hkn
                clear hkn
                have hlti : ¬ (k : Int) + 1 < (n : Int) := by omega
                go_wp2_with fail
                go_loop [9, 10] (fun r i => ∃ (j : Nat) (R : Int), n ≤ j ∧ j ≤ 5 ∧ i = .int .i64 j ∧ r = .int .i64 R ∧ ((j = n ∧ R = 1) ∨ (j = n + 1 ∧ R = 256) ∨ (j = n + 2 ∧ R = 65536) ∨ (j = n + 3 ∧ R = 16777216) ∨ (j = n + 4 ∧ R = 4294967296))) (fun _ i => 5 - (intOf i).toNat)
                case atStart => exact ⟨n, 1, Nat.le_refl _, by omega, rfl, rfl, .inl ⟨rfl, rfl⟩⟩
                case round =>
                  obtain ⟨j, R, hj1, hj2, rfl, rfl, hjr⟩ := hrel
                  by_cases hj : j ≤ 4
                  · have hRb : 0 ≤ R ∧ R ≤ 4294967296 := by omega
                    obtain ⟨hRb1, hRb2⟩ := hRb
                    have HJR := Lib.hid hjr
                    clear hjr
                    go_wp2_with fail
                    go_round
                    case rel => exact ⟨j + 1, R * 256, by omega, by omega, by go_num, by go_num, by have := HJR.out; omega⟩
                    case measure => simp [intOf]; omega
                  · have hj5 : j = 5 := by omega
                    have hcase : (n = 4 ∧ R = 256) ∨ (n = 3 ∧ R = 65536) ∨ (n = 2 ∧ R = 16777216) ∨ (n = 1 ∧ R = 4294967296) := by omega
                    clear hjr hj5
                    clear hcase
                    go_wp2_with fail
                    refine (refPart_any _ _ hsm).mono ?_
                    rintro e w2 ⟨rfl, rfl⟩
                    rw [HP.out]
                    have HD := Lib.hid (looseB_bad HEN.out (by rw [HLL.out]; exact joinP_last HN.out (by rw [HX.out]; exact HPN.out)))
                    go_wp2_with fail
                    go_ret2
                    exact ⟨loose_ret HD.out.symm, hb⟩
end Go.Proofs.Ytebcgfgfcjgdiaa
