/- Numbers' digits of the bases 16 and 8, as parts of loose texts; plain facts. -/
import Derived.Test.YtkdinhgflkfbkaaDoorDecParts
namespace Go.Proofs.YtkdinhgflkfbkaaDoor
open Go.RowKit
set_option linter.unusedVariables false

def hexc (d : Nat) : UInt8 := if d < 10 then UInt8.ofNat (48 + d) else UInt8.ofNat (87 + d)
theorem hexc_nat (d : Nat) (h : d < 16) : (hexc d).toNat = if d < 10 then 48 + d else 87 + d := by
  unfold hexc
  split
  · rw [UInt8.toNat_ofNat', Nat.mod_eq_of_lt (by omega)]
  · rw [UInt8.toNat_ofNat', Nat.mod_eq_of_lt (by omega)]
theorem digC_hexc (d : Nat) (h : d < 16) : digC (hexc d).toNat = d := by
  rw [hexc_nat d h]
  unfold digC
  by_cases h1 : d < 10
  · rw [if_pos h1, if_pos (by omega)]; omega
  · rw [if_neg h1, if_neg (by omega), if_pos (by omega)]; omega
/-- The lowest i digits of n. -/
def hexL (n b : Nat) : Nat → List UInt8
  | 0 => []
  | i + 1 => hexc (n / b ^ i % b) :: hexL n b i
theorem hexL_length (n b : Nat) : ∀ i, (hexL n b i).length = i
  | 0 => rfl
  | i + 1 => by rw [hexL, List.length_cons, hexL_length n b i]
theorem hexL_mem (n b : Nat) (hb0 : 0 < b) (hb : b ≤ 16) : ∀ i, ∀ c ∈ hexL n b i, c.toNat ≠ 46 ∧ c.toNat ≠ 120 ∧ c.toNat ≠ 88
  | 0 => by simp [hexL]
  | i + 1 => by
    intro c hc
    rw [hexL] at hc
    rcases List.mem_cons.1 hc with h | h
    · rw [h]
      have := Nat.mod_lt (n / b ^ i) hb0
      rw [hexc_nat _ (by omega)]
      split <;> omega
    · exact hexL_mem n b hb0 hb i c h
theorem hexL_read (n b : Nat) (hb0 : 0 < b) (hb : b ≤ 16) : ∀ i x, x ≤ 4294967296 → readL b x (hexL n b i) = some (min (x * b ^ i + n % b ^ i) 4294967296)
  | 0, x, hx => by
    simp [hexL, readL, Nat.mod_one]
    omega
  | i + 1, x, hx => by
    have hd := Nat.mod_lt (n / b ^ i) hb0
    have hp : 0 < b ^ i := Nat.pow_pos hb0
    rw [hexL, readL, digC_hexc _ (by omega), if_neg (by omega), hexL_read n b hb0 hb i _ (Nat.min_le_right _ _)]
    have e : n % b ^ (i + 1) = n / b ^ i % b * b ^ i + n % b ^ i := by
      rw [Nat.pow_succ, Nat.mod_mul, Nat.mul_comm (n / b ^ i % b), Nat.add_comm]
    have e2 : x * b ^ (i + 1) + n % b ^ (i + 1) = (x * b + n / b ^ i % b) * b ^ i + n % b ^ i := by
      rw [e, Nat.pow_succ, Nat.add_mul, Nat.mul_comm (b ^ i) b, ← Nat.mul_assoc, Nat.add_assoc]
    rw [e2]
    generalize x * b + n / b ^ i % b = y
    generalize n % b ^ i = z
    congr 1
    by_cases hy : y ≤ 4294967296
    · rw [Nat.min_eq_left hy]
    · rw [Nat.min_eq_right (by omega : 4294967296 ≤ y)]
      have h1 : 4294967296 * 1 ≤ 4294967296 * b ^ i := Nat.mul_le_mul_left _ hp
      have h2 : 4294967296 * b ^ i ≤ y * b ^ i := Nat.mul_le_mul_right _ (by omega)
      omega
theorem looseHex (n : Nat) (hn : n < 8589934592) : looseB (ofL (48 :: 120 :: hexL n 16 12)) = if 4294967296 ≤ n then (0, 1) else (n, 2) := by
  have hp : partB (ofL (48 :: 120 :: hexL n 16 12)) = some (min n 4294967296) := by
    rw [partB_hex, hexL_read n 16 (by decide) (by decide) _ _ (by decide)]
    simp
    omega
  have hd : ∀ c ∈ (48 :: 120 :: hexL n 16 12 : List UInt8), c.toNat ≠ 46 := by
    intro c hc
    rcases List.mem_cons.1 hc with h | h
    · rw [h]; decide
    · rcases List.mem_cons.1 h with h | h
      · rw [h]; decide
      · exact (hexL_mem n 16 (by decide) (by decide) 12 c h).1
  rw [looseB_parts (lparts1 _ hd (by simp)) (by simpa using hp), joinP1 _ _ hp]
  by_cases h : 4294967296 ≤ n
  · rw [if_pos (by omega), if_pos h]
  · rw [if_neg (by omega), if_neg h, Nat.min_eq_left (by omega)]
theorem looseOct (n : Nat) (hn : n < 8589934592) : looseB (ofL (48 :: hexL n 8 12)) = if 4294967296 ≤ n then (0, 1) else (n, 2) := by
  have hm := hexL_mem n 8 (by decide) (by decide) 12
  have hp : partB (ofL (48 :: hexL n 8 12)) = some (min n 4294967296) := by
    have e := hexL_read n 8 (by decide) (by decide) 12 0 (by decide)
    rw [hexL] at hm e ⊢
    rw [partB_oct _ _ (hm _ (by simp)).2.1 (hm _ (by simp)).2.2, e]
    simp
    omega
  have hd : ∀ c ∈ (48 :: hexL n 8 12 : List UInt8), c.toNat ≠ 46 := by
    intro c hc
    rcases List.mem_cons.1 hc with h | h
    · rw [h]; decide
    · exact (hm c h).1
  rw [looseB_parts (lparts1 _ hd (by simp)) (by simpa using hp), joinP1 _ _ hp]
  by_cases h : 4294967296 ≤ n
  · rw [if_pos (by omega), if_pos h]
  · rw [if_neg (by omega), if_neg h, Nat.min_eq_left (by omega)]
def hexS : ByteArray := { data := #[48, 49, 50, 51, 52, 53, 54, 55, 56, 57, 97, 98, 99, 100, 101, 102] }
def octS : ByteArray := { data := #[48, 49, 50, 51, 52, 53, 54, 55] }
theorem hexS_at (d : Nat) (h : d < 16) (h2 : d < hexS.size) : (hexS[d]).toNat = (hexc d).toNat := by
  have hd : d = 0 ∨ d = 1 ∨ d = 2 ∨ d = 3 ∨ d = 4 ∨ d = 5 ∨ d = 6 ∨ d = 7 ∨ d = 8 ∨ d = 9 ∨ d = 10 ∨ d = 11 ∨ d = 12 ∨ d = 13 ∨ d = 14 ∨ d = 15 := by omega
  rcases hd with rfl | rfl | rfl | rfl | rfl | rfl | rfl | rfl | rfl | rfl | rfl | rfl | rfl | rfl | rfl | rfl <;> rfl
theorem octS_at (d : Nat) (h : d < 8) (h2 : d < octS.size) : (octS[d]).toNat = (hexc d).toNat := by
  have hd : d = 0 ∨ d = 1 ∨ d = 2 ∨ d = 3 ∨ d = 4 ∨ d = 5 ∨ d = 6 ∨ d = 7 := by omega
  rcases hd with rfl | rfl | rfl | rfl | rfl | rfl | rfl | rfl <;> rfl
theorem hexS_get (d : Nat) (h : d < 16) : ∃ c : UInt8, c = hexc d ∧ ∀ h2, ({ data := #[48, 49, 50, 51, 52, 53, 54, 55, 56, 57, 97, 98, 99, 100, 101, 102] } : ByteArray)[d]'h2 = c :=
  ⟨_, rfl, fun h2 => UInt8.toNat_inj.1 (hexS_at d h h2)⟩
theorem octS_get (d : Nat) (h : d < 8) : ∃ c : UInt8, c = hexc d ∧ ∀ h2, ({ data := #[48, 49, 50, 51, 52, 53, 54, 55] } : ByteArray)[d]'h2 = c :=
  ⟨_, rfl, fun h2 => UInt8.toNat_inj.1 (octS_at d h h2)⟩
theorem one_u8 (c : UInt8) (W : World) :
    (convert 59 9 (.slice (some ⟨W.heap.size, 0, none⟩) 1 1)).run Tryd.prog (W.alloc (.cells #[.int .u8 (c.toNat : Int)] 5)) = .ok (.string { data := #[c] }) (W.alloc (.cells #[.int .u8 (c.toNat : Int)] 5)) := by
  have := one_byte c.toNat c.toNat_lt W
  rwa [UInt8.ofNat_toNat] at this
theorem one_u8_next (c : UInt8) (W : World) (o : Obj) :
    (convert 59 9 (.slice (some ⟨W.heap.size + 1, 0, none⟩) 1 1)).run Tryd.prog ((W.alloc o).alloc (.cells #[.int .u8 (c.toNat : Int)] 5)) = .ok (.string { data := #[c] }) ((W.alloc o).alloc (.cells #[.int .u8 (c.toNat : Int)] 5)) := by
  have := one_u8 c (W.alloc o)
  rwa [show (W.alloc o).heap.size = W.heap.size + 1 by simp] at this
end Go.Proofs.YtkdinhgflkfbkaaDoor
