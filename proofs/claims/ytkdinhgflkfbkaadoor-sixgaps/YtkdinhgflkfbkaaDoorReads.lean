/- Contracts of four's readers of digits (a closure over the base), and of the reference's: a part's number, 2^32 at most. -/
import Derived.Test.YtkdinhgflkfbkaaDoorNumbers
import Derived.Test.YtkdinhgflkfbkaaDoorRefNums
import Derived.OpenShut
import Derived.Deep.RegionWith
namespace Go.Proofs.YtkdinhgflkfbkaaDoor
open Go.RowKit
set_option linter.unusedVariables false

/-- The number of the first k digits, 2^32 at most, if all are digits. -/
def readTo (s : ByteArray) (b : Nat) : Nat → Option Nat
  | 0 => some 0
  | k + 1 => match readTo s b k with
    | none => none
    | some n => if b ≤ digC (byteOf s k) then none else some (min (n * b + digC (byteOf s k)) 4294967296)
def readB (s : ByteArray) (b : Nat) : Option Nat := readTo s b s.size
theorem readTo_none (s : ByteArray) (b k : Nat) (h : readTo s b k = none) : ∀ m, readTo s b (k + m) = none
  | 0 => h
  | m + 1 => by rw [← Nat.add_assoc, readTo, readTo_none s b k h m]
theorem readTo_le (s : ByteArray) (b : Nat) : ∀ k n, readTo s b k = some n → n ≤ 4294967296
  | 0, n, h => by simp [readTo] at h; omega
  | k + 1, n, h => by
    rw [readTo] at h
    cases hk : readTo s b k with
    | none => rw [hk] at h; cases h
    | some m =>
      rw [hk] at h
      simp only at h
      split at h
      · cases h
      · have := Option.some.inj h; omega
theorem readB_le (s : ByteArray) (b n : Nat) (h : readB s b = some n) : n ≤ 4294967296 := readTo_le s b _ n h
theorem readTo_step {s : ByteArray} {b k n : Nat} (h : readTo s b k = some n) (hk : k < s.size) :
    readTo s b (k + 1) = if b ≤ digC (s[k]).toNat then none else some (min (n * b + digC (s[k]).toNat) 4294967296) := by
  rw [readTo, h, byteOf_eq s k hk]
theorem readB_dead {s : ByteArray} {b k : Nat} (hk : k < s.size) (h : readTo s b (k + 1) = none) : readB s b = none := by
  unfold readB
  have := readTo_none s b (k + 1) h (s.size - (k + 1))
  rwa [show k + 1 + (s.size - (k + 1)) = s.size by omega] at this

/-- One digit, read alone. -/
theorem one_sign (s : ByteArray) (k b : Nat) (hk : k < s.size) (hb : b ≤ 16) : numB (s.extract k (k + 1)) b = if b ≤ digC (s[k]).toNat then none else some (digC (s[k]).toNat) := by
  have hz : (s.extract k (k + 1)).size = 1 := by simp; omega
  have e : byteOf (s.extract k (k + 1)) 0 = (s[k]).toNat := by
    rw [← byteOf_eq s k hk]
    unfold byteOf
    rw [data_extract]
    rw [List.getD_eq_getElem?_getD, List.getD_eq_getElem?_getD, List.getElem?_take, if_pos (by omega), List.getElem?_drop, Nat.add_zero]
  have hd := digC_le (s[k]).toNat
  unfold numB
  rw [if_neg (by omega), hz]
  simp only [numTo, e]
  split
  · rfl
  · rw [if_neg (by unfold most; omega)]; simp

theorem one_8_no (s : ByteArray) (k : Nat) (w : World) (hs : s.size ≤ 1000000) (hk : k < s.size) (h : 8 ≤ digC (s[k]).toNat) :
    Calls Tryd.prog 39 #[.string (s.extract k (k + 1)), .int .i64 8] w fun e w' => e = .returned (.tuple #[.int .i64 0, .bool false]) ∧ w = w' := by
  have := number_8 (s.extract k (k + 1)) w (by simp; omega)
  rw [one_sign s k 8 hk (by omega), if_pos h] at this
  exact this
theorem one_8_is (s : ByteArray) (k : Nat) (w : World) (hs : s.size ≤ 1000000) (hk : k < s.size) (h : ¬ 8 ≤ digC (s[k]).toNat) :
    Calls Tryd.prog 39 #[.string (s.extract k (k + 1)), .int .i64 8] w fun e w' => e = .returned (.tuple #[.int .i64 (digC (s[k]).toNat : Nat), .bool true]) ∧ w = w' := by
  have := number_8 (s.extract k (k + 1)) w (by simp; omega)
  rw [one_sign s k 8 hk (by omega), if_neg h] at this
  exact this

theorem one_10_no (s : ByteArray) (k : Nat) (w : World) (hs : s.size ≤ 1000000) (hk : k < s.size) (h : 10 ≤ digC (s[k]).toNat) :
    Calls Tryd.prog 39 #[.string (s.extract k (k + 1)), .int .i64 10] w fun e w' => e = .returned (.tuple #[.int .i64 0, .bool false]) ∧ w = w' := by
  have := number_10 (s.extract k (k + 1)) w (by simp; omega)
  rw [one_sign s k 10 hk (by omega), if_pos h] at this
  exact this
theorem one_10_is (s : ByteArray) (k : Nat) (w : World) (hs : s.size ≤ 1000000) (hk : k < s.size) (h : ¬ 10 ≤ digC (s[k]).toNat) :
    Calls Tryd.prog 39 #[.string (s.extract k (k + 1)), .int .i64 10] w fun e w' => e = .returned (.tuple #[.int .i64 (digC (s[k]).toNat : Nat), .bool true]) ∧ w = w' := by
  have := number_10 (s.extract k (k + 1)) w (by simp; omega)
  rw [one_sign s k 10 hk (by omega), if_neg h] at this
  exact this

theorem one_16_no (s : ByteArray) (k : Nat) (w : World) (hs : s.size ≤ 1000000) (hk : k < s.size) (h : 16 ≤ digC (s[k]).toNat) :
    Calls Tryd.prog 39 #[.string (s.extract k (k + 1)), .int .i64 16] w fun e w' => e = .returned (.tuple #[.int .i64 0, .bool false]) ∧ w = w' := by
  have := number_16 (s.extract k (k + 1)) w (by simp; omega)
  rw [one_sign s k 16 hk (by omega), if_pos h] at this
  exact this
theorem one_16_is (s : ByteArray) (k : Nat) (w : World) (hs : s.size ≤ 1000000) (hk : k < s.size) (h : ¬ 16 ≤ digC (s[k]).toNat) :
    Calls Tryd.prog 39 #[.string (s.extract k (k + 1)), .int .i64 16] w fun e w' => e = .returned (.tuple #[.int .i64 (digC (s[k]).toNat : Nat), .bool true]) ∧ w = w' := by
  have := number_16 (s.extract k (k + 1)) w (by simp; omega)
  rw [one_sign s k 16 hk (by omega), if_neg h] at this
  exact this

theorem refOne_8_no (s : ByteArray) (k : Nat) (w : World) (hs : s.size ≤ 1000000) (hk : k < s.size) (h : 8 ≤ digC (s[k]).toNat) :
    Calls Tryd.prog 52 #[.string (s.extract k (k + 1)), .int .i64 8] w fun e w' => e = .returned (.tuple #[.int .i64 0, .bool false]) ∧ w = w' := by
  have := refNumber_8 (s.extract k (k + 1)) w (by simp; omega)
  rw [one_sign s k 8 hk (by omega), if_pos h] at this
  exact this
theorem refOne_8_is (s : ByteArray) (k : Nat) (w : World) (hs : s.size ≤ 1000000) (hk : k < s.size) (h : ¬ 8 ≤ digC (s[k]).toNat) :
    Calls Tryd.prog 52 #[.string (s.extract k (k + 1)), .int .i64 8] w fun e w' => e = .returned (.tuple #[.int .i64 (digC (s[k]).toNat : Nat), .bool true]) ∧ w = w' := by
  have := refNumber_8 (s.extract k (k + 1)) w (by simp; omega)
  rw [one_sign s k 8 hk (by omega), if_neg h] at this
  exact this

theorem refOne_10_no (s : ByteArray) (k : Nat) (w : World) (hs : s.size ≤ 1000000) (hk : k < s.size) (h : 10 ≤ digC (s[k]).toNat) :
    Calls Tryd.prog 52 #[.string (s.extract k (k + 1)), .int .i64 10] w fun e w' => e = .returned (.tuple #[.int .i64 0, .bool false]) ∧ w = w' := by
  have := refNumber_10 (s.extract k (k + 1)) w (by simp; omega)
  rw [one_sign s k 10 hk (by omega), if_pos h] at this
  exact this
theorem refOne_10_is (s : ByteArray) (k : Nat) (w : World) (hs : s.size ≤ 1000000) (hk : k < s.size) (h : ¬ 10 ≤ digC (s[k]).toNat) :
    Calls Tryd.prog 52 #[.string (s.extract k (k + 1)), .int .i64 10] w fun e w' => e = .returned (.tuple #[.int .i64 (digC (s[k]).toNat : Nat), .bool true]) ∧ w = w' := by
  have := refNumber_10 (s.extract k (k + 1)) w (by simp; omega)
  rw [one_sign s k 10 hk (by omega), if_neg h] at this
  exact this

theorem refOne_16_no (s : ByteArray) (k : Nat) (w : World) (hs : s.size ≤ 1000000) (hk : k < s.size) (h : 16 ≤ digC (s[k]).toNat) :
    Calls Tryd.prog 52 #[.string (s.extract k (k + 1)), .int .i64 16] w fun e w' => e = .returned (.tuple #[.int .i64 0, .bool false]) ∧ w = w' := by
  have := refNumber_16 (s.extract k (k + 1)) w (by simp; omega)
  rw [one_sign s k 16 hk (by omega), if_pos h] at this
  exact this
theorem refOne_16_is (s : ByteArray) (k : Nat) (w : World) (hs : s.size ≤ 1000000) (hk : k < s.size) (h : ¬ 16 ≤ digC (s[k]).toNat) :
    Calls Tryd.prog 52 #[.string (s.extract k (k + 1)), .int .i64 16] w fun e w' => e = .returned (.tuple #[.int .i64 (digC (s[k]).toNat : Nat), .bool true]) ∧ w = w' := by
  have := refNumber_16 (s.extract k (k + 1)) w (by simp; omega)
  rw [one_sign s k 16 hk (by omega), if_neg h] at this
  exact this

/-- As the reference tells it; -1: there is none. -/
def optI : Option Nat → Int
  | none => -1
  | some n => n
theorem int_ret {a b : Int} (h : a = b) : Ending.returned (.int .i64 a) = .returned (.int .i64 b) := by rw [h]

end Go.Proofs.YtkdinhgflkfbkaaDoor
