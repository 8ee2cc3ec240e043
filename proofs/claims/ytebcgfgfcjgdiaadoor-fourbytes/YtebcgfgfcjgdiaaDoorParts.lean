/- Contracts of four.howRead, number, endsInNumber, and of the reference's Part: a part's number. -/
import Derived.Test.YtebcgfgfcjgdiaaDoorReads
namespace Go.Proofs.YtebcgfgfcjgdiaaDoor
open Go.RowKit
set_option linter.unusedVariables false

/-- A part's number. -/
def partB (p : ByteArray) : Option Nat :=
  if p.size = 0 then none else
  if 1 < p.size ∧ byteOf p 0 = 48 ∧ (byteOf p 1 = 120 ∨ byteOf p 1 = 88) then readB (p.extract 2 p.size) 16 else
  if 1 < p.size ∧ byteOf p 0 = 48 then readB (p.extract 1 p.size) 8 else readB p 10
theorem partB_le (p : ByteArray) (n : Nat) (h : partB p = some n) : n ≤ 4294967296 := by
  unfold partB at h
  split at h
  · cases h
  · split at h
    · exact readB_le _ _ _ h
    · split at h
      · exact readB_le _ _ _ h
      · exact readB_le _ _ _ h

/-- What howRead hands back: the reader of a base, and what is read. -/
def HowRet (w : World) (b : Int) (x : ByteArray) (e : Ending) (w' : World) : Prop :=
  ∃ B, e = .returned (.tuple #[.func (.func 24) #[] #[.pointer (some ⟨B, 0, none⟩)], .string x]) ∧ w'.cell? ⟨B, 0, none⟩ = some (.int .i64 b) ∧ Below w.heap.size w w'
theorem how_end (w : World) (b : Int) : (w.alloc (.cells #[.int .i64 b] 3)).cell? ⟨w.heap.size, 0, none⟩ = some (.int .i64 b) ∧ Below w.heap.size w (w.alloc (.cells #[.int .i64 b] 3)) :=
  ⟨by simp [World.cell?_alloc_new], (Below.refl _ _).alloc (Nat.le_refl _) _⟩

set_option maxHeartbeats 1000000 in
theorem howRead_hex (p : ByteArray) (w : World) (hs : p.size ≤ 1000000) (h1 : 1 < p.size) (h2 : p.extract 0 2 = { data := #[48, 120] } ∨ p.extract 0 2 = { data := #[48, 88] }) :
    Calls Tryd.prog 25 #[.string p] w (HowRet w 16 (p.extract 2 p.size)) := by
  rcases h2 with h2 | h2
  all_goals
    go_enter Tryd.func25, Tryd.ntmps25
    go_wp2_with fail
    go_region_with (go_at_call 21; refine (reader_16 _).mono ?_; rintro e w' ⟨rfl, rfl⟩)
    all_goals
      go_wp2_with fail
      go_ret2
      exact ⟨w.heap.size, rfl, (how_end w 16).1, (how_end w 16).2.drew⟩

set_option maxHeartbeats 1000000 in
theorem howRead_oct (p : ByteArray) (w : World) (hs : p.size ≤ 1000000) (h1 : 1 < p.size) (h2 : ¬ p.extract 0 2 = { data := #[48, 120] }) (h3 : ¬ p.extract 0 2 = { data := #[48, 88] }) (h4 : (p[0]).toNat = 48) :
    Calls Tryd.prog 25 #[.string p] w (HowRet w 8 (p.extract 1 p.size)) := by
  have n2 : ¬ (p.extract 0 2).toList = [48, 120] := fun h => h2 (bytes_ext (by rw [← ByteArray.toList_eq, h]))
  have n3 : ¬ (p.extract 0 2).toList = [48, 88] := fun h => h3 (bytes_ext (by rw [← ByteArray.toList_eq, h]))
  have m2 : ((p.extract 0 2).toList == [48, 120]) = false := by simpa using n2
  have m3 : ((p.extract 0 2).toList == [48, 88]) = false := by simpa using n3
  clear h2 h3
  go_enter Tryd.func25, Tryd.ntmps25
  go_wp2_with fail
  go_region_with (go_at_call 21; refine (reader_8 _).mono ?_; rintro e w' ⟨rfl, rfl⟩)
  all_goals
    go_wp2_with fail
    go_ret2
    exact ⟨w.heap.size, rfl, (how_end w 8).1, (how_end w 8).2.drew⟩

set_option maxHeartbeats 1000000 in
theorem howRead_dec (p : ByteArray) (w : World) (hs : p.size ≤ 1000000) (h1 : 1 < p.size) (h2 : ¬ p.extract 0 2 = { data := #[48, 120] }) (h3 : ¬ p.extract 0 2 = { data := #[48, 88] }) (h4 : ¬ (p[0]).toNat = 48) :
    Calls Tryd.prog 25 #[.string p] w (HowRet w 10 p) := by
  have n2 : ¬ (p.extract 0 2).toList = [48, 120] := fun h => h2 (bytes_ext (by rw [← ByteArray.toList_eq, h]))
  have n3 : ¬ (p.extract 0 2).toList = [48, 88] := fun h => h3 (bytes_ext (by rw [← ByteArray.toList_eq, h]))
  have m2 : ((p.extract 0 2).toList == [48, 120]) = false := by simpa using n2
  have m3 : ((p.extract 0 2).toList == [48, 88]) = false := by simpa using n3
  clear h2 h3
  go_enter Tryd.func25, Tryd.ntmps25
  go_wp2_with fail
  refine (reader_10 _).mono ?_
  rintro e w' ⟨rfl, rfl⟩
  go_wp2_with fail
  go_ret2
  exact ⟨w.heap.size, rfl, how_end w 10⟩

set_option maxHeartbeats 1000000 in
theorem howRead_one (p : ByteArray) (w : World) (hs : p.size ≤ 1000000) (h1 : ¬ 1 < p.size) :
    Calls Tryd.prog 25 #[.string p] w (HowRet w 10 p) := by
  go_enter Tryd.func25, Tryd.ntmps25
  go_wp2_with fail
  refine (reader_10 _).mono ?_
  rintro e w' ⟨rfl, rfl⟩
  go_wp2_with fail
  go_ret2
  exact ⟨w.heap.size, rfl, how_end w 10⟩

theorem two_bytes (p : ByteArray) (h : 1 < p.size) (a b : UInt8) : p.extract 0 2 = { data := #[a, b] } ↔ byteOf p 0 = a.toNat ∧ byteOf p 1 = b.toNat := by
  have e : (p.extract 0 2).data.toList = [p[0], p[1]] := by
    rw [data_extract, List.drop_zero]
    have h0 : 1 < p.data.toList.length := by simpa using h
    match hl : p.data.toList, h0 with
    | x :: y :: l, _ =>
      have e0 : p[0] = x := by rw [getElem_data]; simp [hl]
      have e1 : p[1] = y := by rw [getElem_data]; simp [hl]
      rw [e0, e1]; rfl
  rw [byteOf_eq p 0 (by omega), byteOf_eq p 1 h]
  constructor
  · intro h2
    rw [h2] at e
    simp at e
    rw [← e.1, ← e.2]
    exact ⟨rfl, rfl⟩
  · rintro ⟨h1, h2⟩
    apply bytes_ext
    rw [e]
    have a1 : p[0] = a := UInt8.toNat_inj.1 h1
    have a2 : p[1] = b := UInt8.toNat_inj.1 h2
    rw [a1, a2]

set_option maxHeartbeats 4000000 in
theorem part_any (p : ByteArray) (w : World) (hs : p.size ≤ 1000000) :
    Calls Tryd.prog 22 #[.string p] w fun e w' => e = .returned (numRet (partB p)) ∧ Below w.heap.size w w' := by
  by_cases h0 : p.size = 0
  · have e : partB p = none := by unfold partB; rw [if_pos h0]
    have he := isEmpty_true p h0
    rw [e]
    clear e
    go_enter Tryd.func22, Tryd.ntmps22
    go_wp2
    go_ret2
    exact ⟨rfl, Below.refl _ _⟩
  · have he := isEmpty_false p (by omega)
    by_cases h1 : 1 < p.size
    · by_cases hx : byteOf p 0 = 48 ∧ (byteOf p 1 = 120 ∨ byteOf p 1 = 88)
      · have HE : Hid (partB p = readB (p.extract 2 p.size) 16) := Lib.hid (by unfold partB; rw [if_neg h0, if_pos ⟨h1, hx⟩])
        have h2 : p.extract 0 2 = { data := #[48, 120] } ∨ p.extract 0 2 = { data := #[48, 88] } := by
          rcases hx with ⟨a, b | b⟩
          · exact .inl ((two_bytes p h1 48 120).2 ⟨a, b⟩)
          · exact .inr ((two_bytes p h1 48 88).2 ⟨a, b⟩)
        go_enter Tryd.func22, Tryd.ntmps22
        go_wp2_with fail
        refine (howRead_hex p _ hs h1 h2).mono ?_
        rintro e w1 ⟨B, rfl, hc, hb⟩
        go_wp2_with fail
        refine (read_16 _ B _ (by simp; omega) hc).mono ?_
        rintro e w2 ⟨rfl, q, rfl⟩
        rw [← HE.out]
        unfold numRet
        go_wp2_with fail
        go_ret2
        exact ⟨rfl, belowN hb _⟩
      · have h2 : ¬ p.extract 0 2 = { data := #[48, 120] } := fun h => hx (by have := (two_bytes p h1 48 120).1 h; exact ⟨this.1, .inl this.2⟩)
        have h3 : ¬ p.extract 0 2 = { data := #[48, 88] } := fun h => hx (by have := (two_bytes p h1 48 88).1 h; exact ⟨this.1, .inr this.2⟩)
        by_cases h4 : byteOf p 0 = 48
        · have HE : Hid (partB p = readB (p.extract 1 p.size) 8) := Lib.hid (by unfold partB; rw [if_neg h0, if_neg (by intro h; exact hx h.2), if_pos ⟨h1, h4⟩])
          rw [byteOf_eq p 0 (by omega)] at h4
          go_enter Tryd.func22, Tryd.ntmps22
          go_wp2_with fail
          refine (howRead_oct p _ hs h1 h2 h3 h4).mono ?_
          rintro e w1 ⟨B, rfl, hc, hb⟩
          go_wp2_with fail
          refine (read_8 _ B _ (by simp; omega) hc).mono ?_
          rintro e w2 ⟨rfl, q, rfl⟩
          rw [← HE.out]
          unfold numRet
          go_wp2_with fail
          go_ret2
          exact ⟨rfl, belowN hb _⟩
        · have HE : Hid (partB p = readB p 10) := Lib.hid (by unfold partB; rw [if_neg h0, if_neg (by intro h; exact hx h.2), if_neg (by intro h; exact h4 h.2)])
          rw [byteOf_eq p 0 (by omega)] at h4
          go_enter Tryd.func22, Tryd.ntmps22
          go_wp2_with fail
          refine (howRead_dec p _ hs h1 h2 h3 h4).mono ?_
          rintro e w1 ⟨B, rfl, hc, hb⟩
          go_wp2_with fail
          refine (read_10 _ B _ (by omega) hc).mono ?_
          rintro e w2 ⟨rfl, q, rfl⟩
          rw [← HE.out]
          unfold numRet
          go_wp2_with fail
          go_ret2
          exact ⟨rfl, belowN hb _⟩
    · have HE : Hid (partB p = readB p 10) := Lib.hid (by unfold partB; rw [if_neg h0, if_neg (by intro h; exact h1 h.1), if_neg (by intro h; exact h1 h.1)])
      go_enter Tryd.func22, Tryd.ntmps22
      go_wp2_with fail
      refine (howRead_one p _ hs h1).mono ?_
      rintro e w1 ⟨B, rfl, hc, hb⟩
      go_wp2_with fail
      refine (read_10 _ B _ (by omega) hc).mono ?_
      rintro e w2 ⟨rfl, q, rfl⟩
      rw [← HE.out]
      unfold numRet
      go_wp2_with fail
      go_ret2
      exact ⟨rfl, belowN hb _⟩

/-- Whether a text whose last part this is ends in a number. -/
def endsB (p : ByteArray) : Bool := decide (0 < p.size) && ((readB p 10).isSome || (partB p).isSome)

set_option maxHeartbeats 1000000 in
theorem ends_any (p : ByteArray) (w : World) (hs : p.size ≤ 1000000) :
    Calls Tryd.prog 17 #[.string p] w fun e w' => e = .returned (.bool (endsB p)) ∧ Below w.heap.size w w' := by
  by_cases h0 : p.size = 0
  · have e : endsB p = false := by unfold endsB; simp [h0]
    have he := isEmpty_true p h0
    rw [e]
    clear e
    go_enter Tryd.func17, Tryd.ntmps17
    go_wp2
    go_ret
    exact ⟨rfl, Below.refl _ _⟩
  · have he := isEmpty_false p (by omega)
    go_enter Tryd.func17, Tryd.ntmps17
    go_wp2_with fail
    refine (reader_10 _).mono ?_
    rintro e w1 ⟨rfl, rfl⟩
    go_wp2_with fail
    refine (read_10 _ _ _ (by omega) (how_end w 10).1).mono ?_
    rintro e w2 ⟨rfl, q, rfl⟩
    cases hr : readB p 10 with
    | some n =>
      have e : endsB p = true := by unfold endsB; simp [hr]; omega
      have HE := Lib.hid e
      clear e
      have HR := Lib.hid hr
      clear hr
      unfold numRet
      go_wp2_with fail
      go_ret
      exact ⟨bool_ret HE.out.symm, belowN (how_end w 10).2 _⟩
    | none =>
      have e : endsB p = (partB p).isSome := by unfold endsB; simp [hr]; intro; omega
      have HE := Lib.hid e
      clear e
      have HR := Lib.hid hr
      clear hr
      unfold numRet
      go_wp2_with fail
      refine (part_any p _ hs).mono ?_
      rintro e w2 ⟨rfl, hb⟩
      unfold numRet
      go_wp2_with fail
      go_ret
      exact ⟨bool_ret HE.out.symm, chain (belowN (how_end w 10).2 _) hb⟩

end Go.Proofs.YtebcgfgfcjgdiaaDoor
