/- Contracts of four.howRead, number, endsInNumber, and of the reference's Part: a part's number. -/
import Derived.Test.YtkdinhgflkfbkaaDoorReads
namespace Go.Proofs.YtkdinhgflkfbkaaDoor
open Go.RowKit
set_option linter.unusedVariables false

/-- A part's number. -/
def partB (p : ByteArray) : Option Nat :=
  if p.size = 0 then none else
  if 1 < p.size ∧ byteOf p 0 = 48 ∧ (byteOf p 1 = 120 ∨ byteOf p 1 = 88) then readB (p.extract 2 p.size) 16 else
  if 1 < p.size ∧ byteOf p 0 = 48 then readB (p.extract 1 p.size) 8 else readB p 10
theorem partB_le (p : ByteArray) (n : Nat) (h : partB p = some n) : n ≤ 4294967296 := by
  unfold partB at h
  split at h
  · cases h
  · split at h
    · exact readB_le _ _ _ h
    · split at h
      · exact readB_le _ _ _ h
      · exact readB_le _ _ _ h

theorem how_end (w : World) (b : Int) : (w.alloc (.cells #[.int .i64 b] 3)).cell? ⟨w.heap.size, 0, none⟩ = some (.int .i64 b) ∧ Below w.heap.size w (w.alloc (.cells #[.int .i64 b] 3)) :=
  ⟨by simp [World.cell?_alloc_new], (Below.refl _ _).alloc (Nat.le_refl _) _⟩

theorem two_bytes (p : ByteArray) (h : 1 < p.size) (a b : UInt8) : p.extract 0 2 = { data := #[a, b] } ↔ byteOf p 0 = a.toNat ∧ byteOf p 1 = b.toNat := by
  have e : (p.extract 0 2).data.toList = [p[0], p[1]] := by
    rw [data_extract, List.drop_zero]
    have h0 : 1 < p.data.toList.length := by simpa using h
    match hl : p.data.toList, h0 with
    | x :: y :: l, _ =>
      have e0 : p[0] = x := by rw [getElem_data]; simp [hl]
      have e1 : p[1] = y := by rw [getElem_data]; simp [hl]
      rw [e0, e1]; rfl
  rw [byteOf_eq p 0 (by omega), byteOf_eq p 1 h]
  constructor
  · intro h2
    rw [h2] at e
    simp at e
    rw [← e.1, ← e.2]
    exact ⟨rfl, rfl⟩
  · rintro ⟨h1, h2⟩
    apply bytes_ext
    rw [e]
    have a1 : p[0] = a := UInt8.toNat_inj.1 h1
    have a2 : p[1] = b := UInt8.toNat_inj.1 h2
    rw [a1, a2]

/-- Whether a text whose last part this is ends in a number. -/
def endsB (p : ByteArray) : Bool := decide (0 < p.size) && ((readB p 10).isSome || (partB p).isSome)

end Go.Proofs.YtkdinhgflkfbkaaDoor
