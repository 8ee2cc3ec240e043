/- Contracts of text.digit and text.Number: the number of a text's digits. -/
import Derived.Test.YtkdinhgflkfbkaaDoorBase
namespace Go.Proofs.YtkdinhgflkfbkaaDoor
open Go.RowKit
set_option linter.unusedVariables false

/-- A digit's number; 16: it is none. -/
def digC (c : Nat) : Nat := if 48 ≤ c ∧ c ≤ 57 then c - 48 else if 97 ≤ c ∧ c ≤ 102 then c - 87 else if 65 ≤ c ∧ c ≤ 70 then c - 55 else 16
theorem digC_le (c : Nat) : digC c ≤ 16 := by unfold digC; split; · omega
                                              split; · omega
                                              split <;> omega
/-- The byte at a place, or 0. -/
def byteOf (s : ByteArray) (k : Nat) : Nat := (s.data.toList.getD k 0).toNat
theorem byteOf_eq (s : ByteArray) (k : Nat) (h : k < s.size) : byteOf s k = (s[k]).toNat := by
  unfold byteOf
  rw [List.getD_eq_getElem?_getD, List.getElem?_eq_getElem (by simpa using h)]; rfl
def most : Nat := 1099511627776
/-- The number of the first k digits, if there is one. -/
def numTo (s : ByteArray) (b : Nat) : Nat → Option Nat
  | 0 => some 0
  | k + 1 => match numTo s b k with
    | none => none
    | some n => if b ≤ digC (byteOf s k) then none else if most < n * b + digC (byteOf s k) then none else some (n * b + digC (byteOf s k))
def numB (s : ByteArray) (b : Nat) : Option Nat := if s.size = 0 then none else numTo s b s.size
theorem numTo_none (s : ByteArray) (b k : Nat) (h : numTo s b k = none) : ∀ m, numTo s b (k + m) = none
  | 0 => h
  | m + 1 => by rw [← Nat.add_assoc, numTo, numTo_none s b k h m]
theorem numTo_le (s : ByteArray) (b : Nat) : ∀ k n, numTo s b k = some n → n ≤ most
  | 0, n, h => by simp [numTo] at h; omega
  | k + 1, n, h => by
    rw [numTo] at h
    cases hk : numTo s b k with
    | none => rw [hk] at h; cases h
    | some m =>
      rw [hk] at h
      simp only at h
      split at h
      · cases h
      · split at h
        · cases h
        · have := Option.some.inj h; omega
theorem numTo_step {s : ByteArray} {b k n : Nat} (h : numTo s b k = some n) (hk : k < s.size) :
    numTo s b (k + 1) = if b ≤ digC (s[k]).toNat then none else if most < n * b + digC (s[k]).toNat then none else some (n * b + digC (s[k]).toNat) := by
  rw [numTo, h, byteOf_eq s k hk]
theorem numB_dead {s : ByteArray} {b k : Nat} (hk : k < s.size) (h : numTo s b (k + 1) = none) : numB s b = none := by
  unfold numB
  rw [if_neg (by omega)]
  have := numTo_none s b (k + 1) h (s.size - (k + 1))
  rwa [show k + 1 + (s.size - (k + 1)) = s.size by omega] at this
/-- What Number answers. -/
def numRet (o : Option Nat) : Value := .tuple #[.int .i64 ((o.getD 0 : Nat) : Int), .bool o.isSome]

set_option maxHeartbeats 1000000 in
theorem digit_any (c : Nat) (w : World) (hc : c < 256) :
    Calls Tryd.prog 51 #[.int .u8 (c : Int)] w fun e w' => e = .returned (.int .i64 ((digC c : Nat) : Int)) ∧ w = w' := by
  have hparts : c < 48 ∨ (48 ≤ c ∧ c ≤ 57) ∨ (58 ≤ c ∧ c < 65) ∨ (65 ≤ c ∧ c ≤ 70) ∨ (71 ≤ c ∧ c < 97) ∨ (97 ≤ c ∧ c ≤ 102) ∨ 103 ≤ c := by omega
  rcases hparts with h | h | h | h | h | h | h
  · have e : digC c = 16 := by unfold digC; rw [if_neg (by omega), if_neg (by omega), if_neg (by omega)]
    rw [e]
    go_enter Tryd.func51, Tryd.ntmps51
    go_wp2
    go_ret
    exact ⟨rfl, rfl⟩
  · have e : digC c = c - 48 := by unfold digC; rw [if_pos (by omega)]
    have e1 : IntKind.u8.wrap ((c : Int) - 48) = (c : Int) - 48 := by rw [IntKind.wrap_u8]; omega
    have e2 : (((c - 48 : Nat)) : Int) = (c : Int) - 48 := by omega
    rw [e, e2]
    clear e e2
    go_enter Tryd.func51, Tryd.ntmps51
    go_wp2
    go_ret
    exact ⟨rfl, rfl⟩
  · have e : digC c = 16 := by unfold digC; rw [if_neg (by omega), if_neg (by omega), if_neg (by omega)]
    rw [e]
    go_enter Tryd.func51, Tryd.ntmps51
    go_wp2
    go_ret
    exact ⟨rfl, rfl⟩
  · have e : digC c = c - 55 := by unfold digC; rw [if_neg (by omega), if_neg (by omega), if_pos (by omega)]
    have e1 : IntKind.u8.wrap ((c : Int) - 65) = (c : Int) - 65 := by rw [IntKind.wrap_u8]; omega
    have e2 : (((c - 55 : Nat)) : Int) = (c : Int) - 65 + 10 := by omega
    rw [e, e2]
    clear e e2
    go_enter Tryd.func51, Tryd.ntmps51
    go_wp2
    go_ret
    exact ⟨rfl, rfl⟩
  · have e : digC c = 16 := by unfold digC; rw [if_neg (by omega), if_neg (by omega), if_neg (by omega)]
    rw [e]
    go_enter Tryd.func51, Tryd.ntmps51
    go_wp2
    go_ret
    exact ⟨rfl, rfl⟩
  · have e : digC c = c - 87 := by unfold digC; rw [if_neg (by omega), if_pos (by omega)]
    have e1 : IntKind.u8.wrap ((c : Int) - 97) = (c : Int) - 97 := by rw [IntKind.wrap_u8]; omega
    have e2 : (((c - 87 : Nat)) : Int) = (c : Int) - 97 + 10 := by omega
    rw [e, e2]
    clear e e2
    go_enter Tryd.func51, Tryd.ntmps51
    go_wp2
    go_ret
    exact ⟨rfl, rfl⟩
  · have e : digC c = 16 := by unfold digC; rw [if_neg (by omega), if_neg (by omega), if_neg (by omega)]
    rw [e]
    go_enter Tryd.func51, Tryd.ntmps51
    go_wp2
    go_ret
    exact ⟨rfl, rfl⟩

theorem num_ret {o p : Option Nat} (h : o = p) : Ending.returned (numRet o) = .returned (numRet p) := by rw [h]

set_option maxHeartbeats 2000000 in
theorem number_8 (s : ByteArray) (w : World) (hs : s.size ≤ 1000000) :
    Calls Tryd.prog 39 #[.string s, .int .i64 8] w fun e w' => e = .returned (numRet (numB s 8)) ∧ w = w' := by
  by_cases h0 : s.size = 0
  · have e : numB s 8 = none := by unfold numB; rw [if_pos h0]
    have he := isEmpty_true s h0
    rw [e]
    clear e
    go_enter Tryd.func39, Tryd.ntmps39
    go_wp2
    go_ret2
    exact ⟨rfl, rfl⟩
  · have he := isEmpty_false s (by omega)
    have HN : Hid (numB s 8 = numTo s 8 s.size) := by unfold numB; rw [if_neg h0]; exact Lib.hid rfl
    go_enter Tryd.func39, Tryd.ntmps39
    go_wp2
    go_loop [6, 25] (fun t i => ∃ k n : Nat, k ≤ s.size ∧ i = .int .i64 k ∧ t = .int .i64 (n : Int) ∧ Hid (numTo s 8 k = some n)) (fun _ i => s.size - (intOf i).toNat)
    case atStart => exact ⟨0, 0, Nat.zero_le _, rfl, rfl, Lib.hid rfl⟩
    case round =>
      obtain ⟨k, n, hk, rfl, rfl, HK⟩ := hrel
      have hn : n ≤ 1099511627776 := numTo_le s 8 k n HK.out
      by_cases hlt : k < s.size
      · have u1 : (s[k]).toNat < 256 := (s[k]).toNat_lt
        have HS := Lib.hid (numTo_step HK.out hlt)
        have hd := digC_le (s[k]).toNat
        go_wp2_with fail
        refine (digit_any _ _ u1).mono ?_
        rintro e w' ⟨rfl, rfl⟩
        generalize digC (s[k]).toNat = d at *
        by_cases h1 : 8 ≤ d
        · go_wp2
          go_ret2
          exact ⟨num_ret (numB_dead hlt (by rw [HS.out, if_pos h1])).symm, rfl⟩
        · by_cases h2 : 1099511627776 < n * 8 + d
          · go_wp2
            go_ret2
            exact ⟨num_ret (numB_dead hlt (by rw [HS.out, if_neg h1, if_pos (by exact h2)])).symm, rfl⟩
          · go_wp2
            go_round
            case rel => exact ⟨k + 1, n * 8 + d, by omega, by go_num, by go_num, Lib.hid (by rw [HS.out, if_neg h1, if_neg (by exact h2)])⟩
            case measure => simp [intOf]; omega
      · obtain rfl : k = s.size := by omega
        go_wp2
        go_ret2
        exact ⟨num_ret (o := some n) (by rw [HN.out, HK.out]), rfl⟩

set_option maxHeartbeats 2000000 in
theorem number_10 (s : ByteArray) (w : World) (hs : s.size ≤ 1000000) :
    Calls Tryd.prog 39 #[.string s, .int .i64 10] w fun e w' => e = .returned (numRet (numB s 10)) ∧ w = w' := by
  by_cases h0 : s.size = 0
  · have e : numB s 10 = none := by unfold numB; rw [if_pos h0]
    have he := isEmpty_true s h0
    rw [e]
    clear e
    go_enter Tryd.func39, Tryd.ntmps39
    go_wp2
    go_ret2
    exact ⟨rfl, rfl⟩
  · have he := isEmpty_false s (by omega)
    have HN : Hid (numB s 10 = numTo s 10 s.size) := by unfold numB; rw [if_neg h0]; exact Lib.hid rfl
    go_enter Tryd.func39, Tryd.ntmps39
    go_wp2
    go_loop [6, 25] (fun t i => ∃ k n : Nat, k ≤ s.size ∧ i = .int .i64 k ∧ t = .int .i64 (n : Int) ∧ Hid (numTo s 10 k = some n)) (fun _ i => s.size - (intOf i).toNat)
    case atStart => exact ⟨0, 0, Nat.zero_le _, rfl, rfl, Lib.hid rfl⟩
    case round =>
      obtain ⟨k, n, hk, rfl, rfl, HK⟩ := hrel
      have hn : n ≤ 1099511627776 := numTo_le s 10 k n HK.out
      by_cases hlt : k < s.size
      · have u1 : (s[k]).toNat < 256 := (s[k]).toNat_lt
        have HS := Lib.hid (numTo_step HK.out hlt)
        have hd := digC_le (s[k]).toNat
        go_wp2_with fail
        refine (digit_any _ _ u1).mono ?_
        rintro e w' ⟨rfl, rfl⟩
        generalize digC (s[k]).toNat = d at *
        by_cases h1 : 10 ≤ d
        · go_wp2
          go_ret2
          exact ⟨num_ret (numB_dead hlt (by rw [HS.out, if_pos h1])).symm, rfl⟩
        · by_cases h2 : 1099511627776 < n * 10 + d
          · go_wp2
            go_ret2
            exact ⟨num_ret (numB_dead hlt (by rw [HS.out, if_neg h1, if_pos (by exact h2)])).symm, rfl⟩
          · go_wp2
            go_round
            case rel => exact ⟨k + 1, n * 10 + d, by omega, by go_num, by go_num, Lib.hid (by rw [HS.out, if_neg h1, if_neg (by exact h2)])⟩
            case measure => simp [intOf]; omega
      · obtain rfl : k = s.size := by omega
        go_wp2
        go_ret2
        exact ⟨num_ret (o := some n) (by rw [HN.out, HK.out]), rfl⟩

set_option maxHeartbeats 2000000 in
theorem number_16 (s : ByteArray) (w : World) (hs : s.size ≤ 1000000) :
    Calls Tryd.prog 39 #[.string s, .int .i64 16] w fun e w' => e = .returned (numRet (numB s 16)) ∧ w = w' := by
  by_cases h0 : s.size = 0
  · have e : numB s 16 = none := by unfold numB; rw [if_pos h0]
    have he := isEmpty_true s h0
    rw [e]
    clear e
    go_enter Tryd.func39, Tryd.ntmps39
    go_wp2
    go_ret2
    exact ⟨rfl, rfl⟩
  · have he := isEmpty_false s (by omega)
    have HN : Hid (numB s 16 = numTo s 16 s.size) := by unfold numB; rw [if_neg h0]; exact Lib.hid rfl
    go_enter Tryd.func39, Tryd.ntmps39
    go_wp2
    go_loop [6, 25] (fun t i => ∃ k n : Nat, k ≤ s.size ∧ i = .int .i64 k ∧ t = .int .i64 (n : Int) ∧ Hid (numTo s 16 k = some n)) (fun _ i => s.size - (intOf i).toNat)
    case atStart => exact ⟨0, 0, Nat.zero_le _, rfl, rfl, Lib.hid rfl⟩
    case round =>
      obtain ⟨k, n, hk, rfl, rfl, HK⟩ := hrel
      have hn : n ≤ 1099511627776 := numTo_le s 16 k n HK.out
      by_cases hlt : k < s.size
      · have u1 : (s[k]).toNat < 256 := (s[k]).toNat_lt
        have HS := Lib.hid (numTo_step HK.out hlt)
        have hd := digC_le (s[k]).toNat
        go_wp2_with fail
        refine (digit_any _ _ u1).mono ?_
        rintro e w' ⟨rfl, rfl⟩
        generalize digC (s[k]).toNat = d at *
        by_cases h1 : 16 ≤ d
        · go_wp2
          go_ret2
          exact ⟨num_ret (numB_dead hlt (by rw [HS.out, if_pos h1])).symm, rfl⟩
        · by_cases h2 : 1099511627776 < n * 16 + d
          · go_wp2
            go_ret2
            exact ⟨num_ret (numB_dead hlt (by rw [HS.out, if_neg h1, if_pos (by exact h2)])).symm, rfl⟩
          · go_wp2
            go_round
            case rel => exact ⟨k + 1, n * 16 + d, by omega, by go_num, by go_num, Lib.hid (by rw [HS.out, if_neg h1, if_neg (by exact h2)])⟩
            case measure => simp [intOf]; omega
      · obtain rfl : k = s.size := by omega
        go_wp2
        go_ret2
        exact ⟨num_ret (o := some n) (by rw [HN.out, HK.out]), rfl⟩

theorem number_any (s : ByteArray) (b : Nat) (w : World) (hs : s.size ≤ 1000000) (hb : b = 8 ∨ b = 10 ∨ b = 16) :
    Calls Tryd.prog 39 #[.string s, .int .i64 (b : Int)] w fun e w' => e = .returned (numRet (numB s b)) ∧ w = w' := by
  rcases hb with rfl | rfl | rfl
  · exact number_8 s w hs
  · exact number_10 s w hs
  · exact number_16 s w hs
end Go.Proofs.YtkdinhgflkfbkaaDoor
