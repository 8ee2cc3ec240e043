/- Contracts of four.looseParts, join, Loose: the address of a loose text. -/
import Derived.Test.YtkdinhgflkfbkaaDoorParts
import Derived.Test.YtkdinhgflkfbkaaDoorStrRows
namespace Go.Proofs.YtkdinhgflkfbkaaDoor
open Go.RowKit
set_option linter.unusedVariables false

/-- The parts of a loose text. -/
def lparts (s : ByteArray) : List ByteArray :=
  if 1 < (pieces s 46).length ∧ ((pieces s 46).getD ((pieces s 46).length - 1) ⟨#[]⟩).size = 0 then (pieces s 46).take ((pieces s 46).length - 1) else pieces s 46
theorem lparts_pos (s : ByteArray) : 0 < (lparts s).length := by
  unfold lparts
  split
  · simp; omega
  · exact pieces_pos s 46
theorem lparts_small (s : ByteArray) : ∀ p ∈ lparts s, p.size ≤ s.size := by
  unfold lparts
  split
  · intro p hp; exact pieces_small s 46 p (List.mem_of_mem_take hp)
  · exact pieces_small s 46
theorem lparts_len (s : ByteArray) : (lparts s).length ≤ s.size + 1 := by
  have := pieces_len s 46
  unfold lparts
  split
  · simp; omega
  · exact this

/-- The number of the first k parts, each one byte. -/
def outTo (l : List ByteArray) : Nat → Option Nat
  | 0 => some 0
  | k + 1 => match outTo l k with
    | none => none
    | some m => match partB (l.getD k ⟨#[]⟩) with
      | none => none
      | some n => if 255 < n then none else some (m * 256 + n)
theorem outTo_lt (l : List ByteArray) : ∀ k m, outTo l k = some m → m < 256 ^ k
  | 0, m, h => by simp [outTo] at h; omega
  | k + 1, m, h => by
    rw [outTo] at h
    cases hk : outTo l k with
    | none => rw [hk] at h; cases h
    | some j =>
      have := outTo_lt l k j hk
      rw [hk] at h
      simp only at h
      split at h
      · cases h
      · split at h
        · cases h
        · have := Option.some.inj h
          rw [Nat.pow_succ]
          omega
theorem outTo_none (l : List ByteArray) (k : Nat) (h : outTo l k = none) : ∀ m, outTo l (k + m) = none
  | 0 => h
  | m + 1 => by rw [← Nat.add_assoc, outTo, outTo_none l k h m]
theorem outTo_dead {l : List ByteArray} {k n : Nat} (hk : k ≤ n) (h : outTo l k = none) : outTo l n = none := by
  have := outTo_none l k h (n - k)
  rwa [show k + (n - k) = n by omega] at this
/-- How many numbers a last part may have, behind k others. -/
def roomB (k : Nat) : Nat := 256 ^ (4 - k)
/-- The parts' address. -/
def joinP (l : List ByteArray) : Option Nat :=
  if 4 < l.length then none else
  match outTo l (l.length - 1) with
  | none => none
  | some m => match partB (l.getD (l.length - 1) ⟨#[]⟩) with
    | none => none
    | some n => if roomB (l.length - 1) ≤ n then none else some (m * roomB (l.length - 1) + n)
theorem room_lt (k m n : Nat) (hk : k ≤ 3) (hm : m < 256 ^ k) (hn : n < roomB k) : m * roomB k + n < 4294967296 := by
  unfold roomB at *
  have hp : k = 0 ∨ k = 1 ∨ k = 2 ∨ k = 3 := by omega
  rcases hp with rfl | rfl | rfl | rfl
  all_goals
    simp at *
    omega
theorem joinP_lt (l : List ByteArray) (a : Nat) (h : joinP l = some a) : a < 4294967296 := by
  unfold joinP at h
  split at h
  · cases h
  · split at h
    · cases h
    · rename_i hl _ m hm
      have hm := outTo_lt l _ m hm
      split at h
      · cases h
      · split at h
        · cases h
        · rename_i n _ hn
          have h := Option.some.inj h
          rw [← h]
          exact room_lt _ _ _ (by omega) hm (by omega)
theorem joinP_dead {l : List ByteArray} {k : Nat} (hk : k ≤ l.length - 1) (h : outTo l k = none) : joinP l = none := by
  unfold joinP
  split
  · rfl
  · rw [outTo_dead hk h]
def joinRet (o : Option Nat) : Value := .tuple #[.int .u32 ((o.getD 0 : Nat) : Int), .bool o.isSome]
theorem join_ret {o p : Option Nat} (h : o = p) : Ending.returned (joinRet o) = .returned (joinRet p) := by rw [h]

theorem join_some {l : List ByteArray} {a : Nat} {v : Int} (h : joinP l = some a) (hv : v = a) : Ending.returned (.tuple #[.int .u32 v, .bool true]) = .returned (joinRet (joinP l)) := by
  rw [h, hv]; rfl

/-- A loose text's address and kind. -/
def looseB (s : ByteArray) : Nat × Nat :=
  if endsB ((lparts s).getD ((lparts s).length - 1) ⟨#[]⟩) then
    match joinP (lparts s) with
    | none => (0, 1)
    | some a => (a, 2)
  else (0, 0)
def looseRet (r : Nat × Nat) : Value := .tuple #[.int .u32 ((r.1 : Nat) : Int), .int .i64 ((r.2 : Nat) : Int)]
theorem loose_ret {o p : Nat × Nat} (h : o = p) : Ending.returned (looseRet o) = .returned (looseRet p) := by rw [h]
theorem looseB_name {s : ByteArray} (h : endsB ((lparts s).getD ((lparts s).length - 1) ⟨#[]⟩) = false) : looseB s = (0, 0) := by
  unfold looseB; rw [h]; rfl
theorem looseB_bad {s : ByteArray} (h : endsB ((lparts s).getD ((lparts s).length - 1) ⟨#[]⟩) = true) (hj : joinP (lparts s) = none) : looseB s = (0, 1) := by
  unfold looseB; rw [h, hj]; rfl
theorem looseB_good {s : ByteArray} {a : Nat} (h : endsB ((lparts s).getD ((lparts s).length - 1) ⟨#[]⟩) = true) (hj : joinP (lparts s) = some a) : looseB s = (a, 2) := by
  unfold looseB; rw [h, hj]; rfl

theorem loose_example : looseB { data := #[48, 120, 55, 102, 46, 49] } = (2130706433, 2) := by kernel_rfl

end Go.Proofs.YtkdinhgflkfbkaaDoor
