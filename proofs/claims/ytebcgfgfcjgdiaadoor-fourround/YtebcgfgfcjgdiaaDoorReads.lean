/- Contracts of four's readers of digits (a closure over the base), and of the reference's: a part's number, 2^32 at most. -/
import Derived.Test.YtebcgfgfcjgdiaaDoorNumbers
import Derived.Test.YtebcgfgfcjgdiaaDoorRefNums
import Derived.OpenShut
import Derived.Deep.RegionWith
namespace Go.Proofs.YtebcgfgfcjgdiaaDoor
open Go.RowKit
set_option linter.unusedVariables false

/-- The number of the first k digits, 2^32 at most, if all are digits. -/
def readTo (s : ByteArray) (b : Nat) : Nat → Option Nat
  | 0 => some 0
  | k + 1 => match readTo s b k with
    | none => none
    | some n => if b ≤ digC (byteOf s k) then none else some (min (n * b + digC (byteOf s k)) 4294967296)
def readB (s : ByteArray) (b : Nat) : Option Nat := readTo s b s.size
theorem readTo_none (s : ByteArray) (b k : Nat) (h : readTo s b k = none) : ∀ m, readTo s b (k + m) = none
  | 0 => h
  | m + 1 => by rw [← Nat.add_assoc, readTo, readTo_none s b k h m]
theorem readTo_le (s : ByteArray) (b : Nat) : ∀ k n, readTo s b k = some n → n ≤ 4294967296
  | 0, n, h => by simp [readTo] at h; omega
  | k + 1, n, h => by
    rw [readTo] at h
    cases hk : readTo s b k with
    | none => rw [hk] at h; cases h
    | some m =>
      rw [hk] at h
      simp only at h
      split at h
      · cases h
      · have := Option.some.inj h; omega
theorem readB_le (s : ByteArray) (b n : Nat) (h : readB s b = some n) : n ≤ 4294967296 := readTo_le s b _ n h
theorem readTo_step {s : ByteArray} {b k n : Nat} (h : readTo s b k = some n) (hk : k < s.size) :
    readTo s b (k + 1) = if b ≤ digC (s[k]).toNat then none else some (min (n * b + digC (s[k]).toNat) 4294967296) := by
  rw [readTo, h, byteOf_eq s k hk]
theorem readB_dead {s : ByteArray} {b k : Nat} (hk : k < s.size) (h : readTo s b (k + 1) = none) : readB s b = none := by
  unfold readB
  have := readTo_none s b (k + 1) h (s.size - (k + 1))
  rwa [show k + 1 + (s.size - (k + 1)) = s.size by omega] at this

/-- One digit, read alone. -/
theorem one_sign (s : ByteArray) (k b : Nat) (hk : k < s.size) (hb : b ≤ 16) : numB (s.extract k (k + 1)) b = if b ≤ digC (s[k]).toNat then none else some (digC (s[k]).toNat) := by
  have hz : (s.extract k (k + 1)).size = 1 := by simp; omega
  have e : byteOf (s.extract k (k + 1)) 0 = (s[k]).toNat := by
    rw [← byteOf_eq s k hk]
    unfold byteOf
    rw [data_extract]
    rw [List.getD_eq_getElem?_getD, List.getD_eq_getElem?_getD, List.getElem?_take, if_pos (by omega), List.getElem?_drop, Nat.add_zero]
  have hd := digC_le (s[k]).toNat
  unfold numB
  rw [if_neg (by omega), hz]
  simp only [numTo, e]
  split
  · rfl
  · rw [if_neg (by unfold most; omega)]; simp

theorem one_8_no (s : ByteArray) (k : Nat) (w : World) (hs : s.size ≤ 1000000) (hk : k < s.size) (h : 8 ≤ digC (s[k]).toNat) :
    Calls Tryd.prog 15 #[.string (s.extract k (k + 1)), .int .i64 8] w fun e w' => e = .returned (.tuple #[.int .i64 0, .bool false]) ∧ w = w' := by
  have := number_8 (s.extract k (k + 1)) w (by simp; omega)
  rw [one_sign s k 8 hk (by omega), if_pos h] at this
  exact this
theorem one_8_is (s : ByteArray) (k : Nat) (w : World) (hs : s.size ≤ 1000000) (hk : k < s.size) (h : ¬ 8 ≤ digC (s[k]).toNat) :
    Calls Tryd.prog 15 #[.string (s.extract k (k + 1)), .int .i64 8] w fun e w' => e = .returned (.tuple #[.int .i64 (digC (s[k]).toNat : Nat), .bool true]) ∧ w = w' := by
  have := number_8 (s.extract k (k + 1)) w (by simp; omega)
  rw [one_sign s k 8 hk (by omega), if_neg h] at this
  exact this

set_option maxHeartbeats 2000000 in
theorem read_8 (s : ByteArray) (B : Nat) (w : World) (hs : s.size ≤ 1000000) (hB : w.cell? ⟨B, 0, none⟩ = some (.int .i64 8)) :
    Calls Tryd.prog 24 #[.string s, .pointer (some ⟨B, 0, none⟩)] w fun e w' => e = .returned (numRet (readB s 8)) ∧ ∃ q, w' = w.drewN q := by
  go_enter Tryd.func24, Tryd.ntmps24
  go_wp2
  go_loopw [5, 11] (fun t i wr => ∃ k n q : Nat, k ≤ s.size ∧ i = .int .i64 k ∧ t = .int .i64 (n : Int) ∧ Hid (readTo s 8 k = some n) ∧ wr = w.drewN q) (fun _ i _ => s.size - (intOf i).toNat)
  case atStart => exact ⟨0, 0, 0, Nat.zero_le _, rfl, rfl, Lib.hid rfl, rfl⟩
  case round =>
    obtain ⟨k, n, q, hk, rfl, rfl, HK, rfl⟩ := hrel
    have hn : n ≤ 4294967296 := readTo_le s 8 k n HK.out
    by_cases hlt : k < s.size
    · have HS := Lib.hid (readTo_step HK.out hlt)
      have hd := digC_le (s[k]).toNat
      by_cases h1 : 8 ≤ digC (s[k]).toNat
      · go_wp2
        go_quiet ((go_at_call 15; first | exact quiet_left (one_8_no _ _ _ hs hlt h1) | exact quiet_add_left (one_8_no _ _ _ hs hlt h1)))
        go_wp2
        go_ret2
        exact ⟨num_ret (readB_dead hlt (by rw [HS.out, if_pos h1])).symm, by first | exact ⟨_, rfl⟩ | exact ⟨_, World.drewN_drewN _ _ _⟩⟩
      · go_wp2
        go_quiet ((go_at_call 15; first | exact quiet_left (one_8_is _ _ _ hs hlt h1) | exact quiet_add_left (one_8_is _ _ _ hs hlt h1)))
        have HS2 : Hid (readTo s 8 (k + 1) = some (min (n * 8 + digC (s[k]).toNat) 4294967296)) := Lib.hid (by rw [HS.out, if_neg h1])
        clear HS
        generalize digC (s[k]).toNat = d at *
        go_wp2
        go_roundw
        case rel => exact ⟨k + 1, min (n * 8 + d) 4294967296, _, by omega, by go_num, by go_num, HS2, rfl⟩
        case measure => simp [intOf]; omega
    · obtain rfl : k = s.size := by omega
      go_wp2
      go_ret2
      exact ⟨num_ret (o := some n) (by unfold readB; rw [HK.out]), _, rfl⟩

theorem one_10_no (s : ByteArray) (k : Nat) (w : World) (hs : s.size ≤ 1000000) (hk : k < s.size) (h : 10 ≤ digC (s[k]).toNat) :
    Calls Tryd.prog 15 #[.string (s.extract k (k + 1)), .int .i64 10] w fun e w' => e = .returned (.tuple #[.int .i64 0, .bool false]) ∧ w = w' := by
  have := number_10 (s.extract k (k + 1)) w (by simp; omega)
  rw [one_sign s k 10 hk (by omega), if_pos h] at this
  exact this
theorem one_10_is (s : ByteArray) (k : Nat) (w : World) (hs : s.size ≤ 1000000) (hk : k < s.size) (h : ¬ 10 ≤ digC (s[k]).toNat) :
    Calls Tryd.prog 15 #[.string (s.extract k (k + 1)), .int .i64 10] w fun e w' => e = .returned (.tuple #[.int .i64 (digC (s[k]).toNat : Nat), .bool true]) ∧ w = w' := by
  have := number_10 (s.extract k (k + 1)) w (by simp; omega)
  rw [one_sign s k 10 hk (by omega), if_neg h] at this
  exact this

set_option maxHeartbeats 2000000 in
theorem read_10 (s : ByteArray) (B : Nat) (w : World) (hs : s.size ≤ 1000000) (hB : w.cell? ⟨B, 0, none⟩ = some (.int .i64 10)) :
    Calls Tryd.prog 24 #[.string s, .pointer (some ⟨B, 0, none⟩)] w fun e w' => e = .returned (numRet (readB s 10)) ∧ ∃ q, w' = w.drewN q := by
  go_enter Tryd.func24, Tryd.ntmps24
  go_wp2
  go_loopw [5, 11] (fun t i wr => ∃ k n q : Nat, k ≤ s.size ∧ i = .int .i64 k ∧ t = .int .i64 (n : Int) ∧ Hid (readTo s 10 k = some n) ∧ wr = w.drewN q) (fun _ i _ => s.size - (intOf i).toNat)
  case atStart => exact ⟨0, 0, 0, Nat.zero_le _, rfl, rfl, Lib.hid rfl, rfl⟩
  case round =>
    obtain ⟨k, n, q, hk, rfl, rfl, HK, rfl⟩ := hrel
    have hn : n ≤ 4294967296 := readTo_le s 10 k n HK.out
    by_cases hlt : k < s.size
    · have HS := Lib.hid (readTo_step HK.out hlt)
      have hd := digC_le (s[k]).toNat
      by_cases h1 : 10 ≤ digC (s[k]).toNat
      · go_wp2
        go_quiet ((go_at_call 15; first | exact quiet_left (one_10_no _ _ _ hs hlt h1) | exact quiet_add_left (one_10_no _ _ _ hs hlt h1)))
        go_wp2
        go_ret2
        exact ⟨num_ret (readB_dead hlt (by rw [HS.out, if_pos h1])).symm, by first | exact ⟨_, rfl⟩ | exact ⟨_, World.drewN_drewN _ _ _⟩⟩
      · go_wp2
        go_quiet ((go_at_call 15; first | exact quiet_left (one_10_is _ _ _ hs hlt h1) | exact quiet_add_left (one_10_is _ _ _ hs hlt h1)))
        have HS2 : Hid (readTo s 10 (k + 1) = some (min (n * 10 + digC (s[k]).toNat) 4294967296)) := Lib.hid (by rw [HS.out, if_neg h1])
        clear HS
        generalize digC (s[k]).toNat = d at *
        go_wp2
        go_roundw
        case rel => exact ⟨k + 1, min (n * 10 + d) 4294967296, _, by omega, by go_num, by go_num, HS2, rfl⟩
        case measure => simp [intOf]; omega
    · obtain rfl : k = s.size := by omega
      go_wp2
      go_ret2
      exact ⟨num_ret (o := some n) (by unfold readB; rw [HK.out]), _, rfl⟩

theorem one_16_no (s : ByteArray) (k : Nat) (w : World) (hs : s.size ≤ 1000000) (hk : k < s.size) (h : 16 ≤ digC (s[k]).toNat) :
    Calls Tryd.prog 15 #[.string (s.extract k (k + 1)), .int .i64 16] w fun e w' => e = .returned (.tuple #[.int .i64 0, .bool false]) ∧ w = w' := by
  have := number_16 (s.extract k (k + 1)) w (by simp; omega)
  rw [one_sign s k 16 hk (by omega), if_pos h] at this
  exact this
theorem one_16_is (s : ByteArray) (k : Nat) (w : World) (hs : s.size ≤ 1000000) (hk : k < s.size) (h : ¬ 16 ≤ digC (s[k]).toNat) :
    Calls Tryd.prog 15 #[.string (s.extract k (k + 1)), .int .i64 16] w fun e w' => e = .returned (.tuple #[.int .i64 (digC (s[k]).toNat : Nat), .bool true]) ∧ w = w' := by
  have := number_16 (s.extract k (k + 1)) w (by simp; omega)
  rw [one_sign s k 16 hk (by omega), if_neg h] at this
  exact this

set_option maxHeartbeats 2000000 in
theorem read_16 (s : ByteArray) (B : Nat) (w : World) (hs : s.size ≤ 1000000) (hB : w.cell? ⟨B, 0, none⟩ = some (.int .i64 16)) :
    Calls Tryd.prog 24 #[.string s, .pointer (some ⟨B, 0, none⟩)] w fun e w' => e = .returned (numRet (readB s 16)) ∧ ∃ q, w' = w.drewN q := by
  go_enter Tryd.func24, Tryd.ntmps24
  go_wp2
  go_loopw [5, 11] (fun t i wr => ∃ k n q : Nat, k ≤ s.size ∧ i = .int .i64 k ∧ t = .int .i64 (n : Int) ∧ Hid (readTo s 16 k = some n) ∧ wr = w.drewN q) (fun _ i _ => s.size - (intOf i).toNat)
  case atStart => exact ⟨0, 0, 0, Nat.zero_le _, rfl, rfl, Lib.hid rfl, rfl⟩
  case round =>
    obtain ⟨k, n, q, hk, rfl, rfl, HK, rfl⟩ := hrel
    have hn : n ≤ 4294967296 := readTo_le s 16 k n HK.out
    by_cases hlt : k < s.size
    · have HS := Lib.hid (readTo_step HK.out hlt)
      have hd := digC_le (s[k]).toNat
      by_cases h1 : 16 ≤ digC (s[k]).toNat
      · go_wp2
        go_quiet ((go_at_call 15; first | exact quiet_left (one_16_no _ _ _ hs hlt h1) | exact quiet_add_left (one_16_no _ _ _ hs hlt h1)))
        go_wp2
        go_ret2
        exact ⟨num_ret (readB_dead hlt (by rw [HS.out, if_pos h1])).symm, by first | exact ⟨_, rfl⟩ | exact ⟨_, World.drewN_drewN _ _ _⟩⟩
      · go_wp2
        go_quiet ((go_at_call 15; first | exact quiet_left (one_16_is _ _ _ hs hlt h1) | exact quiet_add_left (one_16_is _ _ _ hs hlt h1)))
        have HS2 : Hid (readTo s 16 (k + 1) = some (min (n * 16 + digC (s[k]).toNat) 4294967296)) := Lib.hid (by rw [HS.out, if_neg h1])
        clear HS
        generalize digC (s[k]).toNat = d at *
        go_wp2
        go_roundw
        case rel => exact ⟨k + 1, min (n * 16 + d) 4294967296, _, by omega, by go_num, by go_num, HS2, rfl⟩
        case measure => simp [intOf]; omega
    · obtain rfl : k = s.size := by omega
      go_wp2
      go_ret2
      exact ⟨num_ret (o := some n) (by unfold readB; rw [HK.out]), _, rfl⟩

theorem reader_8 (w : World) : Calls Tryd.prog 21 #[.int .i64 8] w fun e w' => e = .returned (.func (.func 24) #[] #[.pointer (some ⟨w.heap.size, 0, none⟩)]) ∧ w' = w.alloc (.cells #[.int .i64 8] 3) := by
  go_enter Tryd.func21, Tryd.ntmps21
  go_wp2
  go_ret
  exact ⟨rfl, rfl⟩

theorem reader_10 (w : World) : Calls Tryd.prog 21 #[.int .i64 10] w fun e w' => e = .returned (.func (.func 24) #[] #[.pointer (some ⟨w.heap.size, 0, none⟩)]) ∧ w' = w.alloc (.cells #[.int .i64 10] 3) := by
  go_enter Tryd.func21, Tryd.ntmps21
  go_wp2
  go_ret
  exact ⟨rfl, rfl⟩

theorem reader_16 (w : World) : Calls Tryd.prog 21 #[.int .i64 16] w fun e w' => e = .returned (.func (.func 24) #[] #[.pointer (some ⟨w.heap.size, 0, none⟩)]) ∧ w' = w.alloc (.cells #[.int .i64 16] 3) := by
  go_enter Tryd.func21, Tryd.ntmps21
  go_wp2
  go_ret
  exact ⟨rfl, rfl⟩

/-- As the reference tells it; -1: there is none. -/
def optI : Option Nat → Int
  | none => -1
  | some n => n
theorem int_ret {a b : Int} (h : a = b) : Ending.returned (.int .i64 a) = .returned (.int .i64 b) := by rw [h]

end Go.Proofs.YtebcgfgfcjgdiaaDoor
