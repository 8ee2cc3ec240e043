/- Texts that belong together, one behind the other: Parts, Loose, DecParts, RefPrints, HexParts, Pieces, RefSixPrint, RefAddrUnmap, Cases, RefSpace, OpenRows, OpenPref, OpenDeeds, TabFoot, TabRow, TabBlk, TabKit. -/
import Derived.Test.YtgbajagacmfcmaaDoorB4
import Derived.Deep.Cut
import Derived.Lib.ConvBytes
import Derived.Laws.IdiomStrings
import Derived.Deep.Slices
import Derived.Deep.MidRow
import Derived.Lib.SmallJoins
import Derived.Lib.AppendZerosOnto
import Derived.Lib.Overlaps
import Derived.Laws.Externs
import Derived.Laws.IdiomCopy
/- Contracts of four.howRead, number, endsInNumber, and of the reference's Part: a part's number. -/
namespace Go.Proofs.YtgbajagacmfcmaaDoor
open Go.RowKit
set_option linter.unusedVariables false
set_option maxRecDepth 20000

/-- A part's number. -/
def partB (p : ByteArray) : Option Nat :=
  if p.size = 0 then none else
  if 1 < p.size ∧ byteOf p 0 = 48 ∧ (byteOf p 1 = 120 ∨ byteOf p 1 = 88) then readB (p.extract 2 p.size) 16 else
  if 1 < p.size ∧ byteOf p 0 = 48 then readB (p.extract 1 p.size) 8 else readB p 10
theorem partB_le (p : ByteArray) (n : Nat) (h : partB p = some n) : n ≤ 4294967296 := by
  unfold partB at h
  split at h
  · cases h
  · split at h
    · exact readB_le _ _ _ h
    · split at h
      · exact readB_le _ _ _ h
      · exact readB_le _ _ _ h

theorem how_end (w : World) (b : Int) : (w.alloc (.cells #[.int .i64 b] 3)).cell? ⟨w.heap.size, 0, none⟩ = some (.int .i64 b) ∧ Below w.heap.size w (w.alloc (.cells #[.int .i64 b] 3)) :=
  ⟨by simp [World.cell?_alloc_new], (Below.refl _ _).alloc (Nat.le_refl _) _⟩

theorem two_bytes (p : ByteArray) (h : 1 < p.size) (a b : UInt8) : p.extract 0 2 = { data := #[a, b] } ↔ byteOf p 0 = a.toNat ∧ byteOf p 1 = b.toNat := by
  have e : (p.extract 0 2).data.toList = [p[0], p[1]] := by
    rw [data_extract, List.drop_zero]
    have h0 : 1 < p.data.toList.length := by simpa using h
    match hl : p.data.toList, h0 with
    | x :: y :: l, _ =>
      have e0 : p[0] = x := by rw [getElem_data]; simp [hl]
      have e1 : p[1] = y := by rw [getElem_data]; simp [hl]
      rw [e0, e1]; rfl
  rw [byteOf_eq p 0 (by omega), byteOf_eq p 1 h]
  constructor
  · intro h2
    rw [h2] at e
    simp at e
    rw [← e.1, ← e.2]
    exact ⟨rfl, rfl⟩
  · rintro ⟨h1, h2⟩
    apply bytes_ext
    rw [e]
    have a1 : p[0] = a := UInt8.toNat_inj.1 h1
    have a2 : p[1] = b := UInt8.toNat_inj.1 h2
    rw [a1, a2]

/-- Whether a text whose last part this is ends in a number. -/
def endsB (p : ByteArray) : Bool := decide (0 < p.size) && ((readB p 10).isSome || (partB p).isSome)

end Go.Proofs.YtgbajagacmfcmaaDoor
/- Contracts of four.looseParts, join, Loose: the address of a loose text. -/
namespace Go.Proofs.YtgbajagacmfcmaaDoor
open Go.RowKit
set_option linter.unusedVariables false
set_option maxRecDepth 20000

/-- The parts of a loose text. -/
def lparts (s : ByteArray) : List ByteArray :=
  if 1 < (pieces s 46).length ∧ ((pieces s 46).getD ((pieces s 46).length - 1) ⟨#[]⟩).size = 0 then (pieces s 46).take ((pieces s 46).length - 1) else pieces s 46
theorem lparts_pos (s : ByteArray) : 0 < (lparts s).length := by
  unfold lparts
  split
  · simp; omega
  · exact pieces_pos s 46
theorem lparts_small (s : ByteArray) : ∀ p ∈ lparts s, p.size ≤ s.size := by
  unfold lparts
  split
  · intro p hp; exact pieces_small s 46 p (List.mem_of_mem_take hp)
  · exact pieces_small s 46
theorem lparts_len (s : ByteArray) : (lparts s).length ≤ s.size + 1 := by
  have := pieces_len s 46
  unfold lparts
  split
  · simp; omega
  · exact this

/-- The number of the first k parts, each one byte. -/
def outTo (l : List ByteArray) : Nat → Option Nat
  | 0 => some 0
  | k + 1 => match outTo l k with
    | none => none
    | some m => match partB (l.getD k ⟨#[]⟩) with
      | none => none
      | some n => if 255 < n then none else some (m * 256 + n)
theorem outTo_lt (l : List ByteArray) : ∀ k m, outTo l k = some m → m < 256 ^ k
  | 0, m, h => by simp [outTo] at h; omega
  | k + 1, m, h => by
    rw [outTo] at h
    cases hk : outTo l k with
    | none => rw [hk] at h; cases h
    | some j =>
      have := outTo_lt l k j hk
      rw [hk] at h
      simp only at h
      split at h
      · cases h
      · split at h
        · cases h
        · have := Option.some.inj h
          rw [Nat.pow_succ]
          omega
theorem outTo_none (l : List ByteArray) (k : Nat) (h : outTo l k = none) : ∀ m, outTo l (k + m) = none
  | 0 => h
  | m + 1 => by rw [← Nat.add_assoc, outTo, outTo_none l k h m]
theorem outTo_dead {l : List ByteArray} {k n : Nat} (hk : k ≤ n) (h : outTo l k = none) : outTo l n = none := by
  have := outTo_none l k h (n - k)
  rwa [show k + (n - k) = n by omega] at this
/-- How many numbers a last part may have, behind k others. -/
def roomB (k : Nat) : Nat := 256 ^ (4 - k)
/-- The parts' address. -/
def joinP (l : List ByteArray) : Option Nat :=
  if 4 < l.length then none else
  match outTo l (l.length - 1) with
  | none => none
  | some m => match partB (l.getD (l.length - 1) ⟨#[]⟩) with
    | none => none
    | some n => if roomB (l.length - 1) ≤ n then none else some (m * roomB (l.length - 1) + n)
theorem room_lt (k m n : Nat) (hk : k ≤ 3) (hm : m < 256 ^ k) (hn : n < roomB k) : m * roomB k + n < 4294967296 := by
  unfold roomB at *
  have hp : k = 0 ∨ k = 1 ∨ k = 2 ∨ k = 3 := by omega
  rcases hp with rfl | rfl | rfl | rfl
  all_goals
    simp at *
    omega
theorem joinP_lt (l : List ByteArray) (a : Nat) (h : joinP l = some a) : a < 4294967296 := by
  unfold joinP at h
  split at h
  · cases h
  · split at h
    · cases h
    · rename_i hl _ m hm
      have hm := outTo_lt l _ m hm
      split at h
      · cases h
      · split at h
        · cases h
        · rename_i n _ hn
          have h := Option.some.inj h
          rw [← h]
          exact room_lt _ _ _ (by omega) hm (by omega)
theorem joinP_dead {l : List ByteArray} {k : Nat} (hk : k ≤ l.length - 1) (h : outTo l k = none) : joinP l = none := by
  unfold joinP
  split
  · rfl
  · rw [outTo_dead hk h]
def joinRet (o : Option Nat) : Value := .tuple #[.int .u32 ((o.getD 0 : Nat) : Int), .bool o.isSome]
theorem join_ret {o p : Option Nat} (h : o = p) : Ending.returned (joinRet o) = .returned (joinRet p) := by rw [h]

theorem join_some {l : List ByteArray} {a : Nat} {v : Int} (h : joinP l = some a) (hv : v = a) : Ending.returned (.tuple #[.int .u32 v, .bool true]) = .returned (joinRet (joinP l)) := by
  rw [h, hv]; rfl

/-- A loose text's address and kind. -/
def looseB (s : ByteArray) : Nat × Nat :=
  if endsB ((lparts s).getD ((lparts s).length - 1) ⟨#[]⟩) then
    match joinP (lparts s) with
    | none => (0, 1)
    | some a => (a, 2)
  else (0, 0)
def looseRet (r : Nat × Nat) : Value := .tuple #[.int .u32 ((r.1 : Nat) : Int), .int .i64 ((r.2 : Nat) : Int)]
theorem loose_ret {o p : Nat × Nat} (h : o = p) : Ending.returned (looseRet o) = .returned (looseRet p) := by rw [h]
theorem looseB_name {s : ByteArray} (h : endsB ((lparts s).getD ((lparts s).length - 1) ⟨#[]⟩) = false) : looseB s = (0, 0) := by
  unfold looseB; rw [h]; rfl
theorem looseB_bad {s : ByteArray} (h : endsB ((lparts s).getD ((lparts s).length - 1) ⟨#[]⟩) = true) (hj : joinP (lparts s) = none) : looseB s = (0, 1) := by
  unfold looseB; rw [h, hj]; rfl
theorem looseB_good {s : ByteArray} {a : Nat} (h : endsB ((lparts s).getD ((lparts s).length - 1) ⟨#[]⟩) = true) (hj : joinP (lparts s) = some a) : looseB s = (a, 2) := by
  unfold looseB; rw [h, hj]; rfl

theorem loose_example : looseB { data := #[48, 120, 55, 102, 46, 49] } = (2130706433, 2) := by kernel_rfl

end Go.Proofs.YtgbajagacmfcmaaDoor
/- What numbers' digits are as parts of loose and of strict texts; plain facts, and four.Loose's contract at texts put together of such. -/
namespace Go.Proofs.YtgbajagacmfcmaaDoor
open Go.RowKit
set_option linter.unusedVariables false
set_option maxRecDepth 20000

/-- Digits read one by one, 2^32 at most. -/
def readL (b : Nat) : Nat → List UInt8 → Option Nat
  | n, [] => some n
  | n, c :: l => if b ≤ digC c.toNat then none else readL b (min (n * b + digC c.toNat) 4294967296) l
theorem readL_append (b : Nat) (m : List UInt8) : ∀ (l : List UInt8) (n : Nat), readL b n (l ++ m) = match readL b n l with
    | none => none
    | some x => readL b x m
  | [], n => rfl
  | c :: l, n => by
    rw [List.cons_append, readL, readL]
    split
    · rfl
    · exact readL_append b m l _
theorem readTo_list (s : ByteArray) (b : Nat) : ∀ k, k ≤ s.size → readTo s b k = readL b 0 (s.data.toList.take k)
  | 0, _ => rfl
  | k + 1, h => by
    have hk : k < s.data.toList.length := by simp; omega
    rw [List.take_add_one, List.getElem?_eq_getElem hk, readL_append, ← readTo_list s b k (by omega), readTo]
    cases readTo s b k with
    | none => rfl
    | some n =>
      have e : byteOf s k = (s.data.toList[k]).toNat := by rw [byteOf_eq s k (by omega)]; rfl
      simp only [e, Option.toList, readL]
theorem readB_list (s : ByteArray) (b : Nat) : readB s b = readL b 0 s.data.toList := by
  unfold readB
  rw [readTo_list s b _ (Nat.le_refl _), List.take_of_length_le (by simp)]
theorem readB_ofL (l : List UInt8) (b : Nat) : readB (ofL l) b = readL b 0 l := by rw [readB_list, ofL_data]

theorem dec_mem (u : Nat) : ∀ c ∈ Lib.decDigits u, 48 ≤ c.toNat ∧ c.toNat ≤ 57 := by
  have one : ∀ d, d < 10 → 48 ≤ (UInt8.ofNat (48 + d)).toNat ∧ (UInt8.ofNat (48 + d)).toNat ≤ 57 := by
    intro d hd
    rw [UInt8.toNat_ofNat', Nat.mod_eq_of_lt (by omega)]
    omega
  induction u using Nat.strongRecOn with
  | _ u ih =>
    rw [Lib.decDigits]
    split
    · intro c hc
      simp at hc
      subst hc
      rw [show (48 : UInt8) + UInt8.ofNat u = UInt8.ofNat (48 + u) by simp]
      exact one u (by omega)
    · intro c hc
      rcases List.mem_append.1 hc with h | h
      · exact ih (u / 10) (by omega) c h
      · rw [List.mem_singleton] at h
        rw [h]
        exact one _ (by omega)
theorem dec_dot (u : Nat) : ∀ c ∈ Lib.decDigits u, c.toNat ≠ 46 := fun c hc => by have := dec_mem u c hc; omega
theorem dec_head (u : Nat) (h : 0 < u) : ∃ c l, Lib.decDigits u = c :: l ∧ c.toNat ≠ 48 := by
  induction u using Nat.strongRecOn with
  | _ u ih =>
    rw [Lib.decDigits]
    split
    · exact ⟨_, [], rfl, by rw [UInt8.toNat_ofNat', Nat.mod_eq_of_lt (by omega)]; omega⟩
    · obtain ⟨c, l, e, hc⟩ := ih (u / 10) (by omega) (by omega)
      exact ⟨c, l ++ [UInt8.ofNat (48 + u % 10)], by rw [e]; rfl, hc⟩
theorem dec_read (u : Nat) : readL 10 0 (Lib.decDigits u) = some (min u 4294967296) := by
  induction u using Nat.strongRecOn with
  | _ u ih =>
    rw [Lib.decDigits]
    split
    · rename_i h
      rw [readL, digC_dec u h, if_neg (by omega), readL]
      simp
    · rw [readL_append, ih (u / 10) (by omega)]
      simp only [readL]
      rw [digC_dec _ (by omega), if_neg (by omega)]
      congr 1
      omega

theorem byteOf_ofL (l : List UInt8) (k : Nat) : byteOf (ofL l) k = (l.getD k 0).toNat := by unfold byteOf; rw [ofL_data]
theorem partB_plain (l : List UInt8) (h0 : l ≠ []) (h : ¬ (1 < l.length ∧ (l.getD 0 0).toNat = 48)) : partB (ofL l) = readL 10 0 l := by
  have h1 : ¬ l.length = 0 := by intro h; exact h0 (List.eq_nil_of_length_eq_zero h)
  unfold partB
  rw [ofL_size, byteOf_ofL, if_neg h1, if_neg (by intro h2; exact h ⟨h2.1, h2.2.1⟩), if_neg h, readB_ofL]
theorem dec_nil (u : Nat) : Lib.decDigits u ≠ [] := by
  intro h
  have := dec_pos u
  rw [h] at this
  simp at this
theorem dec_lead (u : Nat) : ¬ (1 < (Lib.decDigits u).length ∧ ((Lib.decDigits u).getD 0 0).toNat = 48) := by
  rintro ⟨h1, h2⟩
  by_cases hu : u = 0
  · subst hu
    rw [Lib.decDigits] at h1
    simp at h1
  · obtain ⟨c, l, e, hc⟩ := dec_head u (by omega)
    rw [e] at h2
    exact hc (by simpa using h2)
theorem partB_dec (u : Nat) : partB (ofL (Lib.decDigits u)) = some (min u 4294967296) := by
  rw [partB_plain _ (dec_nil u) (dec_lead u), dec_read]
theorem partB_small (u : Nat) (h : u ≤ 4294967296) : partB (ofL (Lib.decDigits u)) = some u := by
  rw [partB_dec, Nat.min_eq_left h]
theorem octet_dec (u : Nat) (h : u < 256) : octet (ofL (Lib.decDigits u)) = some u := by
  have e : numB (ofL (Lib.decDigits u)) 10 = some u := by
    have := itoa_num (u : Int)
    rw [show Lib.itoa (u : Int) = Lib.decDigits u by unfold Lib.itoa; rw [if_neg (by omega)]; rfl, if_pos (by omega)] at this
    simp at this
    exact this
  unfold octet
  rw [e, ofL_size, byteOf_ofL]
  simp only [if_neg (show ¬ 255 < u by omega), if_neg (dec_lead u)]
theorem partB_hex (l : List UInt8) : partB (ofL (48 :: 120 :: l)) = readL 16 0 l := by
  unfold partB
  rw [if_neg (by rw [ofL_size]; simp), if_pos (by rw [ofL_size, byteOf_ofL, byteOf_ofL]; simp), readB_list, data_extract, ofL_data, ofL_size]
  simp
theorem partB_oct (c : UInt8) (l : List UInt8) (h1 : c.toNat ≠ 120) (h2 : c.toNat ≠ 88) : partB (ofL (48 :: c :: l)) = readL 8 0 (c :: l) := by
  unfold partB
  rw [if_neg (by rw [ofL_size]; simp), if_neg (by rw [ofL_size, byteOf_ofL, byteOf_ofL]; simp [h1, h2]), if_pos (by rw [ofL_size, byteOf_ofL]; simp), readB_list, data_extract, ofL_data, ofL_size]
  simp

/-- A part that ends in the letter a has no number, if it begins with a decimal number's digits. -/
theorem readL_bad (b : Nat) (hb : b ≤ 10) (l : List UInt8) (n : Nat) : readL b n (l ++ [97]) = none := by
  rw [readL_append]
  cases readL b n l with
  | none => rfl
  | some x =>
    have : digC (97 : UInt8).toNat = 10 := by decide
    simp only [readL, this, if_pos hb]
theorem partB_bad (u : Nat) : partB (ofL (Lib.decDigits u ++ [97])) = none ∧ readB (ofL (Lib.decDigits u ++ [97])) 10 = none := by
  refine ⟨?_, by rw [readB_ofL]; exact readL_bad 10 (by decide) _ _⟩
  by_cases hl : ((Lib.decDigits u ++ [97]).getD 0 0).toNat = 48
  · by_cases hu : u = 0
    · subst hu
      rw [show Lib.decDigits 0 ++ [97] = [48, 97] by rw [Lib.decDigits]; rfl, partB_oct _ _ (by decide) (by decide)]
      decide
    · obtain ⟨c, l, e, hc⟩ := dec_head u (by omega)
      rw [e] at hl
      exact absurd (by simpa using hl) hc
  · rw [partB_plain _ (by simp) (by intro h; exact hl h.2)]
    exact readL_bad 10 (by decide) _ _

theorem joinP1 (p : ByteArray) (v : Nat) (hp : partB p = some v) : joinP [p] = if 4294967296 ≤ v then none else some v := by
  unfold joinP
  simp [outTo, hp, roomB]
theorem joinP2 (p q : ByteArray) (a v : Nat) (hp : partB p = some a) (ha : a ≤ 255) (hq : partB q = some v) : joinP [p, q] = if 16777216 ≤ v then none else some (a * 16777216 + v) := by
  unfold joinP
  simp [outTo, hp, hq, roomB, show ¬ 255 < a by omega]
theorem joinP3 (p q r : ByteArray) (a b v : Nat) (hp : partB p = some a) (ha : a ≤ 255) (hq : partB q = some b) (hb : b ≤ 255) (hr : partB r = some v) : joinP [p, q, r] = if 65536 ≤ v then none else some ((a * 256 + b) * 65536 + v) := by
  unfold joinP
  simp [outTo, hp, hq, hr, roomB, show ¬ 255 < a by omega, show ¬ 255 < b by omega]
theorem joinP4 (p q r t : ByteArray) (a b c v : Nat) (hp : partB p = some a) (ha : a ≤ 255) (hq : partB q = some b) (hb : b ≤ 255) (hr : partB r = some c) (hc : c ≤ 255) (ht : partB t = some v) : joinP [p, q, r, t] = if 256 ≤ v then none else some (((a * 256 + b) * 256 + c) * 256 + v) := by
  unfold joinP
  simp [outTo, hp, hq, hr, ht, roomB, show ¬ 255 < a by omega, show ¬ 255 < b by omega, show ¬ 255 < c by omega]

theorem lparts_of {s : ByteArray} {l : List ByteArray} (h : pieces s 46 = l) (h2 : (l.getD (l.length - 1) ⟨#[]⟩).size ≠ 0) : lparts s = l := by
  unfold lparts
  rw [h, if_neg (by intro h3; exact h2 h3.2)]
theorem ofL_ne (l : List UInt8) (h : l ≠ []) : (ofL l).size ≠ 0 := by
  rw [ofL_size]; intro h2; exact h (List.eq_nil_of_length_eq_zero h2)
theorem lparts1 (A : List UInt8) (hA : ∀ c ∈ A, c.toNat ≠ 46) (h0 : A ≠ []) : lparts (ofL A) = [ofL A] :=
  lparts_of (by rw [pieces_ofL, cutL_none 46 A hA]; rfl) (by simpa using ofL_ne A h0)
theorem lparts2 (A B : List UInt8) (hA : ∀ c ∈ A, c.toNat ≠ 46) (hB : ∀ c ∈ B, c.toNat ≠ 46) (h0 : B ≠ []) : lparts (ofL (A ++ 46 :: B)) = [ofL A, ofL B] :=
  lparts_of (by rw [pieces_ofL, cutL_first 46 46 rfl B A hA, cutL_none 46 B hB]; rfl) (by simpa using ofL_ne B h0)
theorem lparts3 (A B C : List UInt8) (hA : ∀ c ∈ A, c.toNat ≠ 46) (hB : ∀ c ∈ B, c.toNat ≠ 46) (hC : ∀ c ∈ C, c.toNat ≠ 46) (h0 : C ≠ []) : lparts (ofL (A ++ 46 :: (B ++ 46 :: C))) = [ofL A, ofL B, ofL C] :=
  lparts_of (by rw [pieces_ofL, cutL_first 46 46 rfl _ A hA, cutL_first 46 46 rfl _ B hB, cutL_none 46 C hC]; rfl) (by simpa using ofL_ne C h0)
theorem cut4 (A B C D : List UInt8) (hA : ∀ c ∈ A, c.toNat ≠ 46) (hB : ∀ c ∈ B, c.toNat ≠ 46) (hC : ∀ c ∈ C, c.toNat ≠ 46) (hD : ∀ c ∈ D, c.toNat ≠ 46) : pieces (ofL (A ++ 46 :: (B ++ 46 :: (C ++ 46 :: D)))) 46 = [ofL A, ofL B, ofL C, ofL D] := by
  rw [pieces_ofL, cutL_first 46 46 rfl _ A hA, cutL_first 46 46 rfl _ B hB, cutL_first 46 46 rfl _ C hC, cutL_none 46 D hD]; rfl
theorem lparts4 (A B C D : List UInt8) (hA : ∀ c ∈ A, c.toNat ≠ 46) (hB : ∀ c ∈ B, c.toNat ≠ 46) (hC : ∀ c ∈ C, c.toNat ≠ 46) (hD : ∀ c ∈ D, c.toNat ≠ 46) (h0 : D ≠ []) : lparts (ofL (A ++ 46 :: (B ++ 46 :: (C ++ 46 :: D)))) = [ofL A, ofL B, ofL C, ofL D] :=
  lparts_of (cut4 A B C D hA hB hC hD) (by simpa using ofL_ne D h0)
theorem lparts4dot (A B C D : List UInt8) (hA : ∀ c ∈ A, c.toNat ≠ 46) (hB : ∀ c ∈ B, c.toNat ≠ 46) (hC : ∀ c ∈ C, c.toNat ≠ 46) (hD : ∀ c ∈ D, c.toNat ≠ 46) : lparts (ofL (A ++ 46 :: (B ++ 46 :: (C ++ 46 :: (D ++ 46 :: []))))) = [ofL A, ofL B, ofL C, ofL D] := by
  have h : pieces (ofL (A ++ 46 :: (B ++ 46 :: (C ++ 46 :: (D ++ 46 :: []))))) 46 = [ofL A, ofL B, ofL C, ofL D, ofL []] := by
    rw [pieces_ofL, cutL_first 46 46 rfl _ A hA, cutL_first 46 46 rfl _ B hB, cutL_first 46 46 rfl _ C hC, cutL_first 46 46 rfl _ D hD, cutL_none 46 [] (by simp)]; rfl
  unfold lparts
  rw [h, if_pos (by simp [ofL]; rfl)]
  rfl

theorem ends_of {x : ByteArray} {v : Nat} (h : partB x = some v) : endsB x = true := by
  have h0 : 0 < x.size := by
    rcases Nat.eq_zero_or_pos x.size with h0 | h0
    · unfold partB at h; rw [if_pos h0] at h; cases h
    · exact h0
  unfold endsB
  rw [h]
  simp [h0]
theorem looseB_parts {s : ByteArray} {l : List ByteArray} {v : Nat} (hl : lparts s = l) (he : partB (l.getD (l.length - 1) ⟨#[]⟩) = some v) : looseB s = match joinP l with
    | none => (0, 1)
    | some a => (a, 2) := by
  unfold looseB
  rw [hl, ends_of he]
  rfl
theorem looseB_no {s : ByteArray} {l : List ByteArray} (hl : lparts s = l) (he : partB (l.getD (l.length - 1) ⟨#[]⟩) = none) (hr : readB (l.getD (l.length - 1) ⟨#[]⟩) 10 = none) : looseB s = (0, 0) := by
  apply looseB_name
  rw [hl]
  unfold endsB
  rw [he, hr]
  simp

abbrev dec (u : Nat) : List UInt8 := Lib.decDigits u
theorem loose1 (v : Nat) : looseB (ofL (dec v)) = if 4294967296 ≤ v then (0, 1) else (v, 2) := by
  rw [looseB_parts (lparts1 _ (dec_dot v) (dec_nil v)) (by simpa using partB_dec v), joinP1 _ _ (partB_dec v)]
  by_cases h : 4294967296 ≤ v
  · rw [if_pos (by omega), if_pos h]
  · rw [if_neg (by omega), if_neg h, Nat.min_eq_left (by omega)]
theorem loose2 (x v : Nat) (hx : x < 256) (hv : v < 16777216) : looseB (ofL (dec x ++ 46 :: dec v)) = (x * 16777216 + v, 2) := by
  rw [looseB_parts (lparts2 _ _ (dec_dot x) (dec_dot v) (dec_nil v)) (by simpa using partB_dec v), joinP2 _ _ x v (partB_small x (by omega)) (by omega) (partB_small v (by omega)), if_neg (by omega)]
theorem loose2bad (x v : Nat) (hx : x < 256) (hv : 16777216 ≤ v) : looseB (ofL (dec x ++ 46 :: dec v)) = (0, 1) := by
  rw [looseB_parts (lparts2 _ _ (dec_dot x) (dec_dot v) (dec_nil v)) (by simpa using partB_dec v), joinP2 _ _ x _ (partB_small x (by omega)) (by omega) (partB_dec v), if_pos (by omega)]
theorem loose2no (x y : Nat) : looseB (ofL (dec x ++ 46 :: (dec y ++ [97]))) = (0, 0) :=
  looseB_no (lparts2 _ _ (dec_dot x) (fun c hc => by
    rcases List.mem_append.1 hc with h | h
    · exact dec_dot y c h
    · rw [List.mem_singleton] at h; rw [h]; decide) (by simp)) (by simpa using (partB_bad y).1) (by simpa using (partB_bad y).2)
theorem loose3 (x y v : Nat) (hx : x < 256) (hy : y < 256) (hv : v < 65536) : looseB (ofL (dec x ++ 46 :: (dec y ++ 46 :: dec v))) = ((x * 256 + y) * 65536 + v, 2) := by
  rw [looseB_parts (lparts3 _ _ _ (dec_dot x) (dec_dot y) (dec_dot v) (dec_nil v)) (by simpa using partB_dec v), joinP3 _ _ _ x y v (partB_small x (by omega)) (by omega) (partB_small y (by omega)) (by omega) (partB_small v (by omega)), if_neg (by omega)]
theorem loose4 (a b c d : Nat) (ha : a < 256) (hb : b < 256) (hc : c < 256) (hd : d < 256) : looseB (ofL (dec a ++ 46 :: (dec b ++ 46 :: (dec c ++ 46 :: dec d)))) = (((a * 256 + b) * 256 + c) * 256 + d, 2) := by
  rw [looseB_parts (lparts4 _ _ _ _ (dec_dot a) (dec_dot b) (dec_dot c) (dec_dot d) (dec_nil d)) (by simpa using partB_dec d), joinP4 _ _ _ _ a b c d (partB_small a (by omega)) (by omega) (partB_small b (by omega)) (by omega) (partB_small c (by omega)) (by omega) (partB_small d (by omega)), if_neg (by omega)]
theorem loose4dot (a b c d : Nat) (ha : a < 256) (hb : b < 256) (hc : c < 256) (hd : d < 256) : looseB (ofL (dec a ++ 46 :: (dec b ++ 46 :: (dec c ++ 46 :: (dec d ++ 46 :: []))))) = (((a * 256 + b) * 256 + c) * 256 + d, 2) := by
  rw [looseB_parts (lparts4dot _ _ _ _ (dec_dot a) (dec_dot b) (dec_dot c) (dec_dot d)) (by simpa using partB_dec d), joinP4 _ _ _ _ a b c d (partB_small a (by omega)) (by omega) (partB_small b (by omega)) (by omega) (partB_small c (by omega)) (by omega) (partB_small d (by omega)), if_neg (by omega)]
theorem strict4 (a b c d : Nat) (ha : a < 256) (hb : b < 256) (hc : c < 256) (hd : d < 256) : strictB (ofL (dec a ++ 46 :: (dec b ++ 46 :: (dec c ++ 46 :: dec d)))) = some (((a * 256 + b) * 256 + c) * 256 + d) := by
  unfold strictB
  rw [cut4 _ _ _ _ (dec_dot a) (dec_dot b) (dec_dot c) (dec_dot d)]
  simp [octTo, octet_dec a ha, octet_dec b hb, octet_dec c hc, octet_dec d hd]

theorem strict_list (s : ByteArray) (l : List UInt8) (r : Option Nat) (w : World) (hl : s.data.toList = l) (hn : l.length ≤ 1000) (hr : strictB (ofL l) = r) :
    Calls Tryd.prog 79 #[.string s] w fun e w' => e = .returned (strictRet r) ∧ Below w.heap.size w w' := by
  have hs := eq_ofL hl
  subst hs
  have := strict_any (ofL l) w (by rw [ofL_size]; omega)
  rw [hr] at this
  exact this
end Go.Proofs.YtgbajagacmfcmaaDoor
/- An address of 32 bits, its text, and the contract of the reference's Print. -/
namespace Go.Proofs.YtgbajagacmfcmaaDoor
open Go.RowKit
set_option linter.unusedVariables false
set_option maxRecDepth 20000

/-- The number of four bytes. -/
def num4 (a b c d : Nat) : Nat := ((a * 256 + b) * 256 + c) * 256 + d
theorem num4_ex (n : Nat) (h : n ≤ 4294967295) : ∃ a b c d : Nat, a < 256 ∧ b < 256 ∧ c < 256 ∧ d < 256 ∧ n = num4 a b c d :=
  ⟨n / 16777216, n / 65536 % 256, n / 256 % 256, n % 256, by omega, by omega, by omega, by omega, by unfold num4; omega⟩
theorem num4_inj {a b c d a' b' c' d' : Nat} (ha : a < 256) (hb : b < 256) (hc : c < 256) (hd : d < 256) (ha' : a' < 256) (hb' : b' < 256) (hc' : c' < 256) (hd' : d' < 256) (h : num4 a b c d = num4 a' b' c' d') : a = a' ∧ b = b' ∧ c = c' ∧ d = d' := by
  unfold num4 at h
  omega

def prR (a b c d : Nat) : Nat → List UInt8
  | 0 => []
  | 1 => dec d
  | 2 => dec c ++ 46 :: dec d
  | 3 => dec b ++ 46 :: (dec c ++ 46 :: dec d)
  | _ => dec a ++ 46 :: (dec b ++ 46 :: (dec c ++ 46 :: dec d))
def text4 (a b c d : Nat) : ByteArray := ofL (dec a ++ 46 :: (dec b ++ 46 :: (dec c ++ 46 :: dec d)))
theorem dec_small (u : Nat) (h : u < 256) : (dec u).length ≤ 21 := dec_length u (by omega)
theorem str_ret {s t : ByteArray} (h : s.data.toList = t.data.toList) : Ending.returned (.string s) = .returned (.string t) := by rw [bytes_ext h]

theorem text4_data (a b c d : Nat) : (text4 a b c d).data.toList = dec a ++ 46 :: (dec b ++ 46 :: (dec c ++ 46 :: dec d)) := ofL_data _
theorem text4_size (a b c d : Nat) (ha : a < 256) (hb : b < 256) (hc : c < 256) (hd : d < 256) : (text4 a b c d).size ≤ 90 := by
  have h1 := dec_small a ha
  have h2 := dec_small b hb
  have h3 := dec_small c hc
  have h4 := dec_small d hd
  unfold text4
  rw [ofL_size]
  simp only [dec] at *
  simp
  omega
theorem text4_strict (a b c d n : Nat) (ha : a < 256) (hb : b < 256) (hc : c < 256) (hd : d < 256) (hn : n = num4 a b c d) : strictB (text4 a b c d) = some n := by
  rw [hn]; exact strict4 a b c d ha hb hc hd
theorem text4_loose (a b c d n : Nat) (ha : a < 256) (hb : b < 256) (hc : c < 256) (hd : d < 256) (hn : n = num4 a b c d) : looseB (text4 a b c d) = (n, 2) := by
  rw [hn]; exact loose4 a b c d ha hb hc hd
theorem text4_dot (a b c d n : Nat) (X : ByteArray) (hX : X.data.toList = [46]) (ha : a < 256) (hb : b < 256) (hc : c < 256) (hd : d < 256) (hn : n = num4 a b c d) : looseB (text4 a b c d ++ X) = (n, 2) := by
  have e : text4 a b c d ++ X = ofL (dec a ++ 46 :: (dec b ++ 46 :: (dec c ++ 46 :: (dec d ++ 46 :: [])))) := eq_ofL (by
    rw [data_append, text4_data, hX]
    simp)
  rw [e, hn]
  exact loose4dot a b c d ha hb hc hd
end Go.Proofs.YtgbajagacmfcmaaDoor
/- Numbers' digits of the bases 16 and 8, as parts of loose texts; plain facts. -/
namespace Go.Proofs.YtgbajagacmfcmaaDoor
open Go.RowKit
set_option linter.unusedVariables false
set_option maxRecDepth 20000

def hexc (d : Nat) : UInt8 := if d < 10 then UInt8.ofNat (48 + d) else UInt8.ofNat (87 + d)
theorem hexc_nat (d : Nat) (h : d < 16) : (hexc d).toNat = if d < 10 then 48 + d else 87 + d := by
  unfold hexc
  split
  · rw [UInt8.toNat_ofNat', Nat.mod_eq_of_lt (by omega)]
  · rw [UInt8.toNat_ofNat', Nat.mod_eq_of_lt (by omega)]
theorem digC_hexc (d : Nat) (h : d < 16) : digC (hexc d).toNat = d := by
  rw [hexc_nat d h]
  unfold digC
  by_cases h1 : d < 10
  · rw [if_pos h1, if_pos (by omega)]; omega
  · rw [if_neg h1, if_neg (by omega), if_pos (by omega)]; omega
/-- The lowest i digits of n. -/
def hexL (n b : Nat) : Nat → List UInt8
  | 0 => []
  | i + 1 => hexc (n / b ^ i % b) :: hexL n b i
theorem hexL_length (n b : Nat) : ∀ i, (hexL n b i).length = i
  | 0 => rfl
  | i + 1 => by rw [hexL, List.length_cons, hexL_length n b i]
theorem hexL_mem (n b : Nat) (hb0 : 0 < b) (hb : b ≤ 16) : ∀ i, ∀ c ∈ hexL n b i, c.toNat ≠ 46 ∧ c.toNat ≠ 120 ∧ c.toNat ≠ 88
  | 0 => by simp [hexL]
  | i + 1 => by
    intro c hc
    rw [hexL] at hc
    rcases List.mem_cons.1 hc with h | h
    · rw [h]
      have := Nat.mod_lt (n / b ^ i) hb0
      rw [hexc_nat _ (by omega)]
      split <;> omega
    · exact hexL_mem n b hb0 hb i c h
theorem hexL_read (n b : Nat) (hb0 : 0 < b) (hb : b ≤ 16) : ∀ i x, x ≤ 4294967296 → readL b x (hexL n b i) = some (min (x * b ^ i + n % b ^ i) 4294967296)
  | 0, x, hx => by
    simp [hexL, readL, Nat.mod_one]
    omega
  | i + 1, x, hx => by
    have hd := Nat.mod_lt (n / b ^ i) hb0
    have hp : 0 < b ^ i := Nat.pow_pos hb0
    rw [hexL, readL, digC_hexc _ (by omega), if_neg (by omega), hexL_read n b hb0 hb i _ (Nat.min_le_right _ _)]
    have e : n % b ^ (i + 1) = n / b ^ i % b * b ^ i + n % b ^ i := by
      rw [Nat.pow_succ, Nat.mod_mul, Nat.mul_comm (n / b ^ i % b), Nat.add_comm]
    have e2 : x * b ^ (i + 1) + n % b ^ (i + 1) = (x * b + n / b ^ i % b) * b ^ i + n % b ^ i := by
      rw [e, Nat.pow_succ, Nat.add_mul, Nat.mul_comm (b ^ i) b, ← Nat.mul_assoc, Nat.add_assoc]
    rw [e2]
    generalize x * b + n / b ^ i % b = y
    generalize n % b ^ i = z
    congr 1
    by_cases hy : y ≤ 4294967296
    · rw [Nat.min_eq_left hy]
    · rw [Nat.min_eq_right (by omega : 4294967296 ≤ y)]
      have h1 : 4294967296 * 1 ≤ 4294967296 * b ^ i := Nat.mul_le_mul_left _ hp
      have h2 : 4294967296 * b ^ i ≤ y * b ^ i := Nat.mul_le_mul_right _ (by omega)
      omega
theorem looseHex (n : Nat) (hn : n < 8589934592) : looseB (ofL (48 :: 120 :: hexL n 16 12)) = if 4294967296 ≤ n then (0, 1) else (n, 2) := by
  have hp : partB (ofL (48 :: 120 :: hexL n 16 12)) = some (min n 4294967296) := by
    rw [partB_hex, hexL_read n 16 (by decide) (by decide) _ _ (by decide)]
    simp
    omega
  have hd : ∀ c ∈ (48 :: 120 :: hexL n 16 12 : List UInt8), c.toNat ≠ 46 := by
    intro c hc
    rcases List.mem_cons.1 hc with h | h
    · rw [h]; decide
    · rcases List.mem_cons.1 h with h | h
      · rw [h]; decide
      · exact (hexL_mem n 16 (by decide) (by decide) 12 c h).1
  rw [looseB_parts (lparts1 _ hd (by simp)) (by simpa using hp), joinP1 _ _ hp]
  by_cases h : 4294967296 ≤ n
  · rw [if_pos (by omega), if_pos h]
  · rw [if_neg (by omega), if_neg h, Nat.min_eq_left (by omega)]
theorem looseOct (n : Nat) (hn : n < 8589934592) : looseB (ofL (48 :: hexL n 8 12)) = if 4294967296 ≤ n then (0, 1) else (n, 2) := by
  have hm := hexL_mem n 8 (by decide) (by decide) 12
  have hp : partB (ofL (48 :: hexL n 8 12)) = some (min n 4294967296) := by
    have e := hexL_read n 8 (by decide) (by decide) 12 0 (by decide)
    rw [hexL] at hm e ⊢
    rw [partB_oct _ _ (hm _ (by simp)).2.1 (hm _ (by simp)).2.2, e]
    simp
    omega
  have hd : ∀ c ∈ (48 :: hexL n 8 12 : List UInt8), c.toNat ≠ 46 := by
    intro c hc
    rcases List.mem_cons.1 hc with h | h
    · rw [h]; decide
    · exact (hm c h).1
  rw [looseB_parts (lparts1 _ hd (by simp)) (by simpa using hp), joinP1 _ _ hp]
  by_cases h : 4294967296 ≤ n
  · rw [if_pos (by omega), if_pos h]
  · rw [if_neg (by omega), if_neg h, Nat.min_eq_left (by omega)]
def hexS : ByteArray := { data := #[48, 49, 50, 51, 52, 53, 54, 55, 56, 57, 97, 98, 99, 100, 101, 102] }
def octS : ByteArray := { data := #[48, 49, 50, 51, 52, 53, 54, 55] }
theorem hexS_at (d : Nat) (h : d < 16) (h2 : d < hexS.size) : (hexS[d]).toNat = (hexc d).toNat := by
  have hd : d = 0 ∨ d = 1 ∨ d = 2 ∨ d = 3 ∨ d = 4 ∨ d = 5 ∨ d = 6 ∨ d = 7 ∨ d = 8 ∨ d = 9 ∨ d = 10 ∨ d = 11 ∨ d = 12 ∨ d = 13 ∨ d = 14 ∨ d = 15 := by omega
  rcases hd with rfl | rfl | rfl | rfl | rfl | rfl | rfl | rfl | rfl | rfl | rfl | rfl | rfl | rfl | rfl | rfl <;> rfl
theorem octS_at (d : Nat) (h : d < 8) (h2 : d < octS.size) : (octS[d]).toNat = (hexc d).toNat := by
  have hd : d = 0 ∨ d = 1 ∨ d = 2 ∨ d = 3 ∨ d = 4 ∨ d = 5 ∨ d = 6 ∨ d = 7 := by omega
  rcases hd with rfl | rfl | rfl | rfl | rfl | rfl | rfl | rfl <;> rfl
theorem hexS_get (d : Nat) (h : d < 16) : ∃ c : UInt8, c = hexc d ∧ ∀ h2, ({ data := #[48, 49, 50, 51, 52, 53, 54, 55, 56, 57, 97, 98, 99, 100, 101, 102] } : ByteArray)[d]'h2 = c :=
  ⟨_, rfl, fun h2 => UInt8.toNat_inj.1 (hexS_at d h h2)⟩
theorem octS_get (d : Nat) (h : d < 8) : ∃ c : UInt8, c = hexc d ∧ ∀ h2, ({ data := #[48, 49, 50, 51, 52, 53, 54, 55] } : ByteArray)[d]'h2 = c :=
  ⟨_, rfl, fun h2 => UInt8.toNat_inj.1 (octS_at d h h2)⟩
theorem one_u8 (c : UInt8) (W : World) :
    (convert 100 9 (.slice (some ⟨W.heap.size, 0, none⟩) 1 1)).run Tryd.prog (W.alloc (.cells #[.int .u8 (c.toNat : Int)] 5)) = .ok (.string { data := #[c] }) (W.alloc (.cells #[.int .u8 (c.toNat : Int)] 5)) := by
  have := one_byte c.toNat c.toNat_lt W
  rwa [UInt8.ofNat_toNat] at this
theorem one_u8_next (c : UInt8) (W : World) (o : Obj) :
    (convert 100 9 (.slice (some ⟨W.heap.size + 1, 0, none⟩) 1 1)).run Tryd.prog ((W.alloc o).alloc (.cells #[.int .u8 (c.toNat : Int)] 5)) = .ok (.string { data := #[c] }) ((W.alloc o).alloc (.cells #[.int .u8 (c.toNat : Int)] 5)) := by
  have := one_u8 c (W.alloc o)
  rwa [show (W.alloc o).heap.size = W.heap.size + 1 by simp] at this
end Go.Proofs.YtgbajagacmfcmaaDoor
/- Contracts of the functions that cut a text: blank, Trim, the reference's Split, Join; and that the pieces joined are the text. -/
namespace Go.Proofs.YtgbajagacmfcmaaDoor
open Go.RowKit
set_option linter.unusedVariables false
set_option maxRecDepth 20000

def blankC (n : Nat) : Bool := decide (n = 32) || decide (n = 9)

/-- The byte at a place, or 0. -/
def byteAt (s : ByteArray) (k : Nat) : Nat := (s.data.toList.getD k 0).toNat
theorem byteAt_eq (s : ByteArray) (k : Nat) (h : k < s.size) : byteAt s k = (s[k]).toNat := by
  unfold byteAt
  rw [List.getD_eq_getElem?_getD, List.getElem?_eq_getElem (by simpa using h)]; rfl
/-- From k on, past blanks. -/
def skip (s : ByteArray) : Nat → Nat → Nat
  | 0, k => k
  | n + 1, k => if k < s.size ∧ blankC (byteAt s k) = true then skip s n (k + 1) else k
def lead (s : ByteArray) : Nat := skip s s.size 0
/-- From k back, past blanks, not below f. -/
def back (s : ByteArray) (f : Nat) : Nat → Nat
  | 0 => 0
  | k + 1 => if f < k + 1 ∧ blankC (byteAt s k) = true then back s f k else k + 1
def trimB (s : ByteArray) : ByteArray := s.extract (lead s) (back s (lead s) s.size)
theorem skip_le (s : ByteArray) : ∀ n k, k ≤ s.size → k ≤ skip s n k ∧ skip s n k ≤ s.size
  | 0, k, h => ⟨Nat.le_refl _, h⟩
  | n + 1, k, h => by
    unfold skip
    split
    · rename_i hh
      have := skip_le s n (k + 1) (by omega)
      omega
    · omega
theorem skip_stop (s : ByteArray) : ∀ n k, s.size ≤ k + n → skip s n k < s.size → blankC (byteAt s (skip s n k)) = false
  | 0, k, h, hlt => by unfold skip at hlt; omega
  | n + 1, k, h, hlt => by
    by_cases hh : k < s.size ∧ blankC (byteAt s k) = true
    · have e : skip s (n + 1) k = skip s n (k + 1) := by rw [skip, if_pos hh]
      rw [e] at hlt ⊢
      exact skip_stop s n (k + 1) (by omega) hlt
    · have e : skip s (n + 1) k = k := by rw [skip, if_neg hh]
      rw [e] at hlt ⊢
      cases hb : blankC (byteAt s k) with
      | false => rfl
      | true => exact absurd ⟨hlt, hb⟩ hh
theorem back_le (s : ByteArray) (f : Nat) : ∀ k, f ≤ k → f ≤ back s f k ∧ back s f k ≤ k
  | 0, h => ⟨h, Nat.le_refl _⟩
  | k + 1, h => by
    unfold back
    split
    · rename_i hh
      have := back_le s f k (by omega)
      omega
    · omega
theorem back_stop (s : ByteArray) (f : Nat) : ∀ k, f < back s f k → blankC (byteAt s (back s f k - 1)) = false
  | 0, h => by unfold back at h; omega
  | k + 1, h => by
    by_cases hh : f < k + 1 ∧ blankC (byteAt s k) = true
    · have e : back s f (k + 1) = back s f k := by rw [back, if_pos hh]
      rw [e] at h ⊢
      exact back_stop s f k h
    · have e : back s f (k + 1) = k + 1 := by rw [back, if_neg hh]
      rw [e] at h ⊢
      cases hb : blankC (byteAt s k) with
      | false => exact hb
      | true => exact absurd ⟨h, hb⟩ hh
theorem lead_le (s : ByteArray) : lead s ≤ s.size := (skip_le s s.size 0 (Nat.zero_le _)).2
theorem byteAt_extract (s : ByteArray) (f t j : Nat) (h : f + j < t) (ht : t ≤ s.size) : byteAt (s.extract f t) j = byteAt s (f + j) := by
  unfold byteAt
  rw [data_extract]
  simp only [List.getD_eq_getElem?_getD]
  rw [List.getElem?_take_of_lt (by omega), List.getElem?_drop]
theorem lead_zero (s : ByteArray) (h : s.size = 0 ∨ blankC (byteAt s 0) = false) : lead s = 0 := by
  unfold lead
  cases hs : s.size with
  | zero => rfl
  | succ n =>
    rw [skip, if_neg]
    rcases h with h | h
    · omega
    · simp [h]
theorem back_full (s : ByteArray) (k : Nat) (h : k = 0 ∨ blankC (byteAt s (k - 1)) = false) : back s 0 k = k := by
  cases k with
  | zero => rfl
  | succ k =>
    rw [back, if_neg]
    rcases h with h | h
    · omega
    · simp at h; simp [h]
theorem trim_trim (s : ByteArray) : trimB (trimB s) = trimB s := by
  have h1 := lead_le s
  have h2 := back_le s (lead s) s.size h1
  have hz : (trimB s).size = back s (lead s) s.size - lead s := by
    unfold trimB
    simp
    omega
  have hl : lead (trimB s) = 0 := by
    apply lead_zero
    by_cases h0 : (trimB s).size = 0
    · exact .inl h0
    · right
      unfold trimB
      rw [byteAt_extract _ _ _ _ (by omega) (by omega)]
      exact skip_stop s s.size 0 (by omega) (by show lead s < s.size; omega)
  have hb : back (trimB s) 0 (trimB s).size = (trimB s).size := by
    apply back_full
    by_cases h0 : (trimB s).size = 0
    · exact .inl h0
    · right
      have e : byteAt (trimB s) ((trimB s).size - 1) = byteAt s (back s (lead s) s.size - 1) := by
        rw [hz]
        unfold trimB
        rw [byteAt_extract _ _ _ _ (by omega) (by omega)]
        congr 1
        omega
      rw [e]
      exact back_stop s (lead s) s.size (by omega)
  have e : trimB (trimB s) = (trimB s).extract (lead (trimB s)) (back (trimB s) (lead (trimB s)) (trimB s).size) := rfl
  rw [e, hl, hb]
  apply bytes_ext
  rw [data_extract]
  simp only [List.drop_zero, Nat.sub_zero]
  exact List.take_of_length_le (by simp)
theorem skip_step (s : ByteArray) (k : Nat) (h : k < s.size) (hb : blankC (s[k]).toNat = true) : skip s (s.size - k) k = skip s (s.size - (k + 1)) (k + 1) := by
  rw [show s.size - k = (s.size - (k + 1)) + 1 by omega, skip, if_pos ⟨h, by rw [byteAt_eq s k h]; exact hb⟩]
theorem skip_out (s : ByteArray) (k : Nat) (h : ¬ k < s.size ∨ ∃ hk : k < s.size, blankC (s[k]).toNat = false) : skip s (s.size - k) k = k := by
  cases hn : s.size - k with
  | zero => rfl
  | succ n =>
    rw [skip, if_neg]
    rintro ⟨h1, h2⟩
    rcases h with h | ⟨hk, h⟩
    · exact h h1
    · rw [byteAt_eq s k hk, h] at h2
      cases h2
theorem back_step (s : ByteArray) (f t : Nat) (h : f < t + 1) (hk : t < s.size) (hb : blankC (s[t]).toNat = true) : back s f (t + 1) = back s f t := by
  rw [back, if_pos ⟨h, by rw [byteAt_eq s t hk]; exact hb⟩]
theorem back_out (s : ByteArray) (f t : Nat) (hf : f ≤ t) (h : ¬ f < t ∨ ∃ hk : t - 1 < s.size, blankC (s[t - 1]).toNat = false) : back s f t = t := by
  cases t with
  | zero => rfl
  | succ t =>
    rw [back, if_neg]
    rintro ⟨h1, h2⟩
    rcases h with h | ⟨hk, h⟩
    · exact h h1
    · have hk' : t < s.size := by simpa using hk
      rw [byteAt_eq s t hk'] at h2
      have h' : blankC (s[t]).toNat = false := by simpa using h
      rw [h'] at h2
      cases h2

/-- The first k texts with another one between. -/
def joinTo (xs : List ByteArray) (sep : ByteArray) : Nat → ByteArray
  | 0 => { data := #[] }
  | k + 1 => (if 0 < k then joinTo xs sep k ++ sep else joinTo xs sep k) ++ xs.getD k { data := #[] }
theorem joinTo_mono (xs : List ByteArray) (sep : ByteArray) (k : Nat) : ∀ m, (joinTo xs sep k).size ≤ (joinTo xs sep (k + m)).size
  | 0 => Nat.le_refl _
  | m + 1 => by
    have := joinTo_mono xs sep k m
    rw [← Nat.add_assoc, joinTo, ByteArray.size_append]
    split
    · rw [ByteArray.size_append]; omega
    · omega
theorem joinTo_piece (xs : List ByteArray) (sep : ByteArray) (k : Nat) : (xs.getD k { data := #[] }).size ≤ (joinTo xs sep (k + 1)).size := by
  rw [joinTo, ByteArray.size_append]; omega

/-- All of them. -/
def joinB (xs : List ByteArray) (sep : ByteArray) : ByteArray := joinTo xs sep xs.length
theorem joinTo_front (xs : List ByteArray) (sep x : ByteArray) : ∀ k, k ≤ xs.length → joinTo (xs ++ [x]) sep k = joinTo xs sep k
  | 0, _ => rfl
  | k + 1, h => by
    have e : (xs ++ [x]).getD k { data := #[] } = xs.getD k { data := #[] } := by
      simp only [List.getD_eq_getElem?_getD]
      rw [List.getElem?_append_left (by omega)]
    rw [joinTo, joinTo, joinTo_front xs sep x k (by omega), e]
theorem joinB_snoc (xs : List ByteArray) (sep x : ByteArray) : joinB (xs ++ [x]) sep = (if 0 < xs.length then joinB xs sep ++ sep else joinB xs sep) ++ x := by
  have e : (xs ++ [x]).getD xs.length { data := #[] } = x := by simp [List.getD_eq_getElem?_getD]
  unfold joinB
  rw [List.length_append, List.length_singleton, joinTo, joinTo_front xs sep x xs.length (Nat.le_refl _), e]
theorem take_more (l : List UInt8) (f k : Nat) (h : f ≤ k) : l.take f ++ (l.drop f).take (k - f) = l.take k := by
  rw [← List.take_add, Nat.add_sub_cancel' h]
theorem sp_join (s : ByteArray) (sep : Nat) (hsep : sep < 256) : ∀ k, k ≤ s.size →
    ((sp s sep k).1 = [] ∧ (sp s sep k).2 = 0) ∨ (0 < (sp s sep k).1.length ∧ (joinB (sp s sep k).1 { data := #[UInt8.ofNat sep] }).data.toList ++ [UInt8.ofNat sep] = s.data.toList.take (sp s sep k).2)
  | 0, _ => .inl ⟨rfl, rfl⟩
  | k + 1, h => by
    have ih := sp_join s sep hsep k (by omega)
    have hle := sp_le s sep k
    by_cases hit : (s[k]).toNat = sep
    · rw [sp_hit s sep k (by omega) hit]
      right
      refine ⟨by simp, ?_⟩
      have hlast : s.data.toList.take (k + 1) = s.data.toList.take k ++ [UInt8.ofNat sep] := by
        rw [List.take_succ_eq_append_getElem (by simp; omega)]
        congr 2
        rw [← hit]
        exact (UInt8.ofNat_toNat).symm
      rw [joinB_snoc, data_append, data_extract, hlast]
      congr 1
      rcases ih with ⟨h1, h2⟩ | ⟨h1, h2⟩
      · rw [h1, h2]
        simp [joinB, joinTo]
      · rw [if_pos h1, data_append]
        show (_ ++ [UInt8.ofNat sep]) ++ _ = _
        rw [h2, take_more _ _ _ hle.1]
    · rw [sp_miss s sep k (by omega) hit]
      exact ih
theorem pieces_join (s : ByteArray) (sep : Nat) (hsep : sep < 256) : joinB (pieces s sep) { data := #[UInt8.ofNat sep] } = s := by
  have hle := sp_le s sep s.size
  apply bytes_ext
  unfold pieces
  rw [joinB_snoc, data_append, data_extract]
  have hall : s.data.toList.take s.size = s.data.toList := List.take_of_length_le (by simp)
  rcases sp_join s sep hsep s.size (Nat.le_refl _) with ⟨h1, h2⟩ | ⟨h1, h2⟩
  · rw [h1, h2]
    simp [joinB, joinTo]
    exact hall
  · rw [if_pos h1, data_append]
    show (_ ++ [UInt8.ofNat sep]) ++ _ = _
    rw [h2, take_more _ _ _ hle.1, hall]
end Go.Proofs.YtgbajagacmfcmaaDoor
/- Contracts of the reference's Run, Mapped, group, row of layer 3. -/
namespace Go.Proofs.YtgbajagacmfcmaaDoor
open Go.RowKit
set_option linter.unusedVariables false
set_option maxRecDepth 20000

/-- A group's digits. -/
def groupL (n : Nat) : List UInt8 := if n < 16 then [hexc n] else groupL (n / 16) ++ [hexc (n % 16)]
termination_by n
decreasing_by omega
theorem groupL_one {n : Nat} (h : n < 16) : groupL n = [hexc n] := by rw [groupL, if_pos h]
theorem groupL_more {n : Nat} (h : ¬ n < 16) : groupL n = groupL (n / 16) ++ [hexc (n % 16)] := by rw [groupL, if_neg h]
theorem groupL_length (n : Nat) (h : n < 65536) : 0 < (groupL n).length ∧ (groupL n).length ≤ 4 := by
  by_cases h1 : n < 16
  · rw [groupL_one h1]; simp
  · by_cases h2 : n / 16 < 16
    · rw [groupL_more h1, groupL_one h2]; simp
    · by_cases h3 : n / 16 / 16 < 16
      · rw [groupL_more h1, groupL_more h2, groupL_one h3]; simp
      · rw [groupL_more h1, groupL_more h2, groupL_more h3, groupL_one (by omega)]; simp
theorem hexS_cut (d : Nat) (h : d < 16) : ∃ D : ByteArray, D = ofL [hexc d] ∧ ({ data := #[48, 49, 50, 51, 52, 53, 54, 55, 56, 57, 97, 98, 99, 100, 101, 102] } : ByteArray).extract d (d + 1) = D := by
  refine ⟨_, rfl, ?_⟩
  have hd : d = 0 ∨ d = 1 ∨ d = 2 ∨ d = 3 ∨ d = 4 ∨ d = 5 ∨ d = 6 ∨ d = 7 ∨ d = 8 ∨ d = 9 ∨ d = 10 ∨ d = 11 ∨ d = 12 ∨ d = 13 ∨ d = 14 ∨ d = 15 := by omega
  rcases hd with rfl | rfl | rfl | rfl | rfl | rfl | rfl | rfl | rfl | rfl | rfl | rfl | rfl | rfl | rfl | rfl <;> decide

theorem Arr8.new (w : World) (t : TypeId) (x0 x1 x2 x3 x4 x5 x6 x7 : Nat) : Arr8 (w.alloc (.cells #[.int .u16 (x0 : Int), .int .u16 (x1 : Int), .int .u16 (x2 : Int), .int .u16 (x3 : Int), .int .u16 (x4 : Int), .int .u16 (x5 : Int), .int .u16 (x6 : Int), .int .u16 (x7 : Int)] t)) w.heap.size [x0, x1, x2, x3, x4, x5, x6, x7] := by
  refine ⟨rfl, by simp, ?_, ?_⟩
  · intro j hj
    have : j = 0 ∨ j = 1 ∨ j = 2 ∨ j = 3 ∨ j = 4 ∨ j = 5 ∨ j = 6 ∨ j = 7 := by omega
    rcases this with rfl | rfl | rfl | rfl | rfl | rfl | rfl | rfl <;> simp [World.cell?_alloc_new]
  · intro j hj
    exact World.frozen?_alloc_new _ _ _ _
theorem arr8_eq (x0 x1 x2 x3 x4 x5 x6 x7 : Nat) : arr8 [x0, x1, x2, x3, x4, x5, x6, x7] = .agg #[.int .u16 (x0 : Int), .int .u16 (x1 : Int), .int .u16 (x2 : Int), .int .u16 (x3 : Int), .int .u16 (x4 : Int), .int .u16 (x5 : Int), .int .u16 (x6 : Int), .int .u16 (x7 : Int)] := rfl

/-- The first k groups are 0. -/
def zer (gs : List Nat) : Nat → Bool
  | 0 => true
  | k + 1 => zer gs k && decide (gs.getD k 0 = 0)
theorem zer_false (gs : List Nat) (k : Nat) (h : zer gs k = false) : ∀ m, zer gs (k + m) = false
  | 0 => h
  | m + 1 => by rw [← Nat.add_assoc, zer, zer_false gs k h m]; rfl
def mappedB (gs : List Nat) : Bool := zer gs 5 && decide (gs.getD 5 0 = 65535)

set_option maxHeartbeats 1000000 in
theorem refMapped_any (gs : List Nat) (w : World) (h8 : gs.length = 8) (hlt : ∀ x ∈ gs, x < 65536) :
    Calls Tryd.prog 41 #[arr8 gs] w fun e w' => e = .returned (.bool (mappedB gs)) ∧ Below w.heap.size w w' := by
  obtain ⟨x0, x1, x2, x3, x4, x5, x6, x7, hgs⟩ := list8 gs h8
  have hA := Arr8.new w 76 x0 x1 x2 x3 x4 x5 x6 x7
  have hb : Below w.heap.size w (w.alloc (.cells #[.int .u16 (x0 : Int), .int .u16 (x1 : Int), .int .u16 (x2 : Int), .int .u16 (x3 : Int), .int .u16 (x4 : Int), .int .u16 (x5 : Int), .int .u16 (x6 : Int), .int .u16 (x7 : Int)] 76)) := (Below.refl _ _).alloc (Nat.le_refl _) _
  rw [← hgs] at hA
  rw [show arr8 gs = .agg #[.int .u16 (x0 : Int), .int .u16 (x1 : Int), .int .u16 (x2 : Int), .int .u16 (x3 : Int), .int .u16 (x4 : Int), .int .u16 (x5 : Int), .int .u16 (x6 : Int), .int .u16 (x7 : Int)] by rw [hgs]; rfl]
  clear hgs
  go_enter Tryd.func41, Tryd.ntmps41
  go_wp2_with fail
  generalize w.alloc (.cells #[.int .u16 (x0 : Int), .int .u16 (x1 : Int), .int .u16 (x2 : Int), .int .u16 (x3 : Int), .int .u16 (x4 : Int), .int .u16 (x5 : Int), .int .u16 (x6 : Int), .int .u16 (x7 : Int)] 76) = W at *
  have HA := Lib.hid hA
  clear hA
  go_loop [3] (fun i => ∃ k : Nat, k ≤ 5 ∧ i = .int .i64 k ∧ Hid (zer gs k = true)) (fun i => 5 - (intOf i).toNat)
  case atStart => exact ⟨0, by decide, rfl, Lib.hid rfl⟩
  case round =>
    obtain ⟨k, hk, rfl, HK⟩ := hrel
    by_cases hk5 : k < 5
    · have hcell := HA.out.cells k (by omega)
      obtain ⟨x, ex⟩ : ∃ x, gs.getD k 0 = x := ⟨_, rfl⟩
      rw [ex] at hcell
      have HX := Lib.hid ex
      clear ex
      by_cases h0 : x = 0
      · have HT : Hid (zer gs (k + 1) = true) := Lib.hid (by rw [zer, HK.out, HX.out, h0]; rfl)
        have hx0 : ((x : Int) != 0) = false := by simp; omega
        clear h0
        go_wp2_with fail
        go_round
        case rel => exact ⟨k + 1, by omega, by go_num, HT⟩
        case measure => simp [intOf]; omega
      · have HT : Hid (zer gs 5 = false) := Lib.hid (by
          have := zer_false gs (k + 1) (by rw [zer, HK.out, HX.out]; simp [h0]) (5 - (k + 1))
          rwa [show k + 1 + (5 - (k + 1)) = 5 by omega] at this)
        have hx0 : ((x : Int) != 0) = true := by simp; omega
        clear h0
        go_wp2_with fail
        go_ret
        exact ⟨bool_ret (by unfold mappedB; rw [HT.out]; rfl), hb⟩
    · obtain rfl : k = 5 := by omega
      have hcell := HA.out.cells 5 (by decide)
      obtain ⟨x, ex⟩ : ∃ x, gs.getD 5 0 = x := ⟨_, rfl⟩
      rw [ex] at hcell
      have HX := Lib.hid ex
      clear ex
      go_wp2_with fail
      go_ret
      exact ⟨bool_ret (by unfold mappedB; rw [HK.out, HX.out, Bool.true_and, Bool.eq_iff_iff]; simp; omega), hb⟩

/-- How many groups are 0 from the i-th on. -/
def zl (gs : List Nat) : Nat → Nat → Nat
  | 0, _ => 0
  | f + 1, i => if gs.getD i 0 = 0 then zl gs f (i + 1) + 1 else 0
def zrun (gs : List Nat) (i : Nat) : Nat := zl gs (8 - i) i
theorem zl_le (gs : List Nat) : ∀ f i, zl gs f i ≤ f
  | 0, _ => Nat.le_refl _
  | f + 1, i => by
    rw [zl]
    split
    · have := zl_le gs f (i + 1); omega
    · omega
theorem zrun_le (gs : List Nat) (i : Nat) : zrun gs i ≤ 8 - i := zl_le gs _ _
theorem zrun_zero {gs : List Nat} {i : Nat} (h : i < 8) (h0 : gs.getD i 0 = 0) : zrun gs i = zrun gs (i + 1) + 1 := by
  unfold zrun
  rw [show 8 - i = (8 - (i + 1)) + 1 by omega, zl, if_pos h0]
theorem zrun_stop {gs : List Nat} {i : Nat} (h : ¬ i < 8 ∨ ¬ gs.getD i 0 = 0) : zrun gs i = 0 := by
  unfold zrun
  by_cases h8 : i < 8
  · rw [show 8 - i = (8 - (i + 1)) + 1 by omega, zl, if_neg (by rcases h with h | h; omega; exact h)]
  · rw [show 8 - i = 0 by omega, zl]
/-- The first of the longest rows of two zeros or more, among those that begin in the first k places. -/
def runTo (gs : List Nat) : Nat → Nat × Nat
  | 0 => (0, 0)
  | k + 1 => if 2 ≤ zrun gs k ∧ (runTo gs k).2 < zrun gs k then (k, zrun gs k) else runTo gs k
def runB (gs : List Nat) : Nat × Nat := runTo gs 8
theorem runTo_le (gs : List Nat) : ∀ k, k ≤ 8 → (runTo gs k).1 + (runTo gs k).2 ≤ 8
  | 0, _ => by simp [runTo]
  | k + 1, h => by
    rw [runTo]
    split
    · have := zrun_le gs k; simp only; omega
    · exact runTo_le gs k (by omega)
def runRet (p : Nat × Nat) : Value := .tuple #[.int .i64 ((p.1 : Nat) : Int), .int .i64 ((p.2 : Nat) : Int)]
theorem run_ret {o p : Nat × Nat} (h : o = p) : Ending.returned (runRet o) = .returned (runRet p) := by rw [h]

end Go.Proofs.YtgbajagacmfcmaaDoor
/- Contract of the reference's Unmap of layer 4. -/
namespace Go.Proofs.YtgbajagacmfcmaaDoor
open Go.RowKit
set_option linter.unusedVariables false
set_option maxRecDepth 20000

/-- Is it a mapped one? -/
def isMap (f : Int) (bs : List Nat) : Bool := f == 6 && mappedB (grL bs 8)
def unmapF (f : Int) (bs : List Nat) : Int := if isMap f bs then 4 else f
def unmapB (f : Int) (bs : List Nat) : List Nat := if isMap f bs then b4 ((grL bs 8).getD 6 0 * 65536 + (grL bs 8).getD 7 0) else bs
set_option maxRecDepth 100000 in
set_option maxHeartbeats 1000000 in
theorem refUnmap_any (f : Int) (bs : List Nat) (w : World) (h16 : bs.length = 16) (hlt : ∀ x ∈ bs, x < 256) :
    Calls Tryd.prog 17 #[addrV f bs] w fun e w' => e = .returned (addrV (unmapF f bs) (unmapB f bs)) ∧ Below w.heap.size w w' := by
  have H16 := Lib.hid h16
  have HG := fun W => Lib.hid (refGroups4_any f bs W h16 hlt)
  have hgl := grL_lt bs hlt 8
  have HM := fun W => Lib.hid (refMapped_any (grL bs 8) W (grL_len bs 8) hgl)
  obtain ⟨x0, x1, x2, x3, x4, x5, x6, x7, hgs⟩ := list8 (grL bs 8) (grL_len bs 8)
  have hg : arr8 (grL bs 8) = .agg #[.int .u16 (x0 : Int), .int .u16 (x1 : Int), .int .u16 (x2 : Int), .int .u16 (x3 : Int), .int .u16 (x4 : Int), .int .u16 (x5 : Int), .int .u16 (x6 : Int), .int .u16 (x7 : Int)] := by rw [hgs]; rfl
  have hx6 : x6 < 65536 := hgl x6 (by rw [hgs]; simp)
  have hx7 : x7 < 65536 := hgl x7 (by rw [hgs]; simp)
  obtain ⟨n, hn, en⟩ : ∃ n : Nat, x6 * 65536 + x7 = n ∧ (x6 : Int) * 65536 + (x7 : Int) = (n : Int) := ⟨_, rfl, by omega⟩
  have q1 : IntKind.u32.wrap ((x6 : Int) * 65536) = (x6 : Int) * 65536 := by rw [IntKind.wrap_u32]; omega
  have q2 : IntKind.u32.wrap (n : Int) = (n : Int) := by rw [IntKind.wrap_u32]; omega
  have HO := fun W => Lib.hid (refOf4_any n W (by omega))
  have HE1 : Hid (isMap f bs = true → unmapF f bs = 4 ∧ unmapB f bs = b4 n) := Lib.hid (fun h => ⟨if_pos h, by unfold unmapB; rw [if_pos h, hgs, ← hn]; rfl⟩)
  have HE2 : Hid (isMap f bs = false → unmapF f bs = f ∧ unmapB f bs = bs) := Lib.hid (fun h => ⟨if_neg (by rw [h]; decide), if_neg (by rw [h]; decide)⟩)
  rw [hg] at HM HG
  obtain ⟨m, hm⟩ : ∃ m, mappedB (grL bs 8) = m := ⟨_, rfl⟩
  rw [hm] at HM
  have HIM : Hid (isMap f bs = (f == 6 && m)) := Lib.hid (by rw [isMap, hm])
  clear hg hgs hgl hm hn
  obtain ⟨y0, y1, y2, y3, y4, y5, y6, y7, y8, y9, y10, y11, y12, y13, y14, y15, hbs⟩ := list16 bs h16
  have ha : addrV f bs = .agg #[.int .i64 f, .int .u8 (y0 : Int), .int .u8 (y1 : Int), .int .u8 (y2 : Int), .int .u8 (y3 : Int), .int .u8 (y4 : Int), .int .u8 (y5 : Int), .int .u8 (y6 : Int), .int .u8 (y7 : Int), .int .u8 (y8 : Int), .int .u8 (y9 : Int), .int .u8 (y10 : Int), .int .u8 (y11 : Int), .int .u8 (y12 : Int), .int .u8 (y13 : Int), .int .u8 (y14 : Int), .int .u8 (y15 : Int)] := by rw [hbs]; rfl
  have hA := AddrAt.new w 25 f y0 y1 y2 y3 y4 y5 y6 y7 y8 y9 y10 y11 y12 y13 y14 y15
  rw [← hbs] at hA
  have hR := AddrAt.of (w.alloc (.cells #[.int .i64 f, .int .u8 (y0 : Int), .int .u8 (y1 : Int), .int .u8 (y2 : Int), .int .u8 (y3 : Int), .int .u8 (y4 : Int), .int .u8 (y5 : Int), .int .u8 (y6 : Int), .int .u8 (y7 : Int), .int .u8 (y8 : Int), .int .u8 (y9 : Int), .int .u8 (y10 : Int), .int .u8 (y11 : Int), .int .u8 (y12 : Int), .int .u8 (y13 : Int), .int .u8 (y14 : Int), .int .u8 (y15 : Int)] 25)) 25 #[.int .i64 0, .int .u8 0, .int .u8 0, .int .u8 0, .int .u8 0, .int .u8 0, .int .u8 0, .int .u8 0, .int .u8 0, .int .u8 0, .int .u8 0, .int .u8 0, .int .u8 0, .int .u8 0, .int .u8 0, .int .u8 0, .int .u8 0] 0 (List.replicate 16 0) rfl (zero_addr 0)
  have b1 : Below w.heap.size w (w.alloc (.cells #[.int .i64 f, .int .u8 (y0 : Int), .int .u8 (y1 : Int), .int .u8 (y2 : Int), .int .u8 (y3 : Int), .int .u8 (y4 : Int), .int .u8 (y5 : Int), .int .u8 (y6 : Int), .int .u8 (y7 : Int), .int .u8 (y8 : Int), .int .u8 (y9 : Int), .int .u8 (y10 : Int), .int .u8 (y11 : Int), .int .u8 (y12 : Int), .int .u8 (y13 : Int), .int .u8 (y14 : Int), .int .u8 (y15 : Int)] 25)) := (Below.refl _ _).alloc (Nat.le_refl _) _
  have HB := Lib.hid (b1.alloc b1.size (.cells #[.int .i64 0, .int .u8 0, .int .u8 0, .int .u8 0, .int .u8 0, .int .u8 0, .int .u8 0, .int .u8 0, .int .u8 0, .int .u8 0, .int .u8 0, .int .u8 0, .int .u8 0, .int .u8 0, .int .u8 0, .int .u8 0, .int .u8 0] 25))
  have e1 : (w.alloc (.cells #[.int .i64 f, .int .u8 (y0 : Int), .int .u8 (y1 : Int), .int .u8 (y2 : Int), .int .u8 (y3 : Int), .int .u8 (y4 : Int), .int .u8 (y5 : Int), .int .u8 (y6 : Int), .int .u8 (y7 : Int), .int .u8 (y8 : Int), .int .u8 (y9 : Int), .int .u8 (y10 : Int), .int .u8 (y11 : Int), .int .u8 (y12 : Int), .int .u8 (y13 : Int), .int .u8 (y14 : Int), .int .u8 (y15 : Int)] 25)).heap.size = w.heap.size + 1 := by simp
  rw [e1] at hR
  have HP2 := Lib.hid (hA.below ((Below.refl _ _).alloc (Nat.le_refl _) (.cells #[.int .i64 0, .int .u8 0, .int .u8 0, .int .u8 0, .int .u8 0, .int .u8 0, .int .u8 0, .int .u8 0, .int .u8 0, .int .u8 0, .int .u8 0, .int .u8 0, .int .u8 0, .int .u8 0, .int .u8 0, .int .u8 0, .int .u8 0] 25)))
  have HR2 := Lib.hid hR
  rw [ha]
  clear hR hA b1 ha hbs h16 hlt e1
  go_enter Tryd.func17, Tryd.ntmps17
  go_wp2_with (refine load_addr HP2 _ rfl rfl rfl ?_)
  generalize ((w.alloc (.cells #[.int .i64 f, .int .u8 (y0 : Int), .int .u8 (y1 : Int), .int .u8 (y2 : Int), .int .u8 (y3 : Int), .int .u8 (y4 : Int), .int .u8 (y5 : Int), .int .u8 (y6 : Int), .int .u8 (y7 : Int), .int .u8 (y8 : Int), .int .u8 (y9 : Int), .int .u8 (y10 : Int), .int .u8 (y11 : Int), .int .u8 (y12 : Int), .int .u8 (y13 : Int), .int .u8 (y14 : Int), .int .u8 (y15 : Int)] 25)).alloc (.cells #[.int .i64 0, .int .u8 0, .int .u8 0, .int .u8 0, .int .u8 0, .int .u8 0, .int .u8 0, .int .u8 0, .int .u8 0, .int .u8 0, .int .u8 0, .int .u8 0, .int .u8 0, .int .u8 0, .int .u8 0, .int .u8 0, .int .u8 0] 25)) = W at *
  refine (HG W).out.mono ?_
  rintro e w1 ⟨rfl, hb1⟩
  have HGA := Lib.hid (Arr8.of8 w1 76 x0 x1 x2 x3 x4 x5 x6 x7)
  have ba : Below w1.heap.size w1 (w1.alloc (.cells #[.int .u16 (x0 : Int), .int .u16 (x1 : Int), .int .u16 (x2 : Int), .int .u16 (x3 : Int), .int .u16 (x4 : Int), .int .u16 (x5 : Int), .int .u16 (x6 : Int), .int .u16 (x7 : Int)] 76)) := (Below.refl _ _).alloc (Nat.le_refl _) _
  have HP3 := Lib.hid ((HP2.out.below hb1).below ba)
  have HR3 := Lib.hid ((HR2.out.below hb1).below ba)
  have HB3 := Lib.hid (chain (chain HB.out hb1) ba)
  clear HP2 HR2 HB hb1 ba HG
  go_wp2_with fail
  generalize hC : w1.heap.size = C at *
  generalize (w1.alloc (.cells #[.int .u16 (x0 : Int), .int .u16 (x1 : Int), .int .u16 (x2 : Int), .int .u16 (x3 : Int), .int .u16 (x4 : Int), .int .u16 (x5 : Int), .int .u16 (x6 : Int), .int .u16 (x7 : Int)] 76)) = W1 at *
  refine (HM W1).out.mono ?_
  rintro e w2 ⟨rfl, hb2⟩
  have HGA2 := Lib.hid (HGA.out.below hb2)
  have HP4 := Lib.hid (HP3.out.below hb2)
  have HR4 := Lib.hid (HR3.out.below hb2)
  have HB4 := Lib.hid (chain HB3.out hb2)
  clear HGA HP3 HR3 HB3 hb2 HM hC
  have hfam := HP4.out.fam
  obtain ⟨c0, c1, c2, c3, c4, c5, c6, c7⟩ := HGA2.out.all
  clear c0 c1 c2 c3 c4 c5
  have back : ∀ (hi : isMap f bs = false), unmapF f bs = f ∧ unmapB f bs = bs := HE2.out
  have HBK := Lib.hid back
  clear back
  by_cases h6 : f = 6
  · cases m with
    | true =>
      have hI : isMap f bs = true := by rw [HIM.out, h6]; rfl
      have EE := Lib.hid (HE1.out hI)
      subst h6
      clear hI HBK HE1 HE2 HIM
      go_wp2_with fail
      refine (HO w2).out.mono ?_
      rintro e w3 ⟨rfl, hb3⟩
      have HR5 := Lib.hid (HR4.out.below hb3)
      have hbel := chain HB4.out hb3
      have HLN := Lib.hid (b4_len n)
      go_wp2_with (refine store_addr HR5 _ _ HLN rfl rfl rfl rfl (fun W HW HA => ?_))
      refine bodyPost_ret (v := addrV 4 (b4 n)) (results_addr Tryd.results17 rfl HA.out) rfl ⟨by rw [EE.out.1, EE.out.2], by rw [HW.out]; exact below_cells (by omega) _ _ _ hbel⟩
    | false =>
      have EE := Lib.hid (HBK.out (by rw [HIM.out]; simp))
      subst h6
      clear HBK HE1 HE2 HIM HO
      go_wp2_with (first | refine load_addr HP4 _ rfl rfl rfl ?_ | (refine store_addr HR4 _ _ H16 rfl rfl rfl rfl (fun W HW HA => ?_)))
      refine bodyPost_ret (v := addrV 6 bs) (results_addr Tryd.results17 rfl HA.out) rfl ⟨by rw [EE.out.1, EE.out.2], by rw [HW.out]; exact below_cells (by omega) _ _ _ HB4.out⟩
  · have EE := Lib.hid (HBK.out (by rw [HIM.out]; simp [h6]))
    clear HBK HE1 HE2 HIM HO
    have n6 : (f != 6) = true := by simp [h6]
    go_wp2_with (first | refine load_addr HP4 _ rfl rfl rfl ?_ | (refine store_addr HR4 _ _ H16 rfl rfl rfl rfl (fun W HW HA => ?_)))
    refine bodyPost_ret (v := addrV f bs) (results_addr Tryd.results17 rfl HA.out) rfl ⟨by rw [EE.out.1, EE.out.2], by rw [HW.out]; exact below_cells (by omega) _ _ _ HB4.out⟩
end Go.Proofs.YtgbajagacmfcmaaDoor
/- Contracts of the functions that make letters small and hold texts against one another: small, Lower, Like. -/
namespace Go.Proofs.YtgbajagacmfcmaaDoor
open Go.RowKit
set_option linter.unusedVariables false
set_option maxRecDepth 20000

/-- A byte, as the small letter if it is a great one. -/
def lowC (n : Nat) : Nat := if 65 ≤ n ∧ n ≤ 90 then n + 32 else n
theorem lowC_le {n : Nat} (h : n < 256) : lowC n < 256 := by unfold lowC; split <;> omega
theorem lowC_low (n : Nat) : lowC (lowC n) = lowC n := by
  by_cases h : 65 ≤ n ∧ n ≤ 90
  · have e : lowC n = n + 32 := by unfold lowC; rw [if_pos h]
    rw [e]; unfold lowC; rw [if_neg (by omega)]
  · have e : lowC n = n := by unfold lowC; rw [if_neg h]
    rw [e, e]
def lowU (c : UInt8) : UInt8 := UInt8.ofNat (lowC c.toNat)
theorem lowU_toNat (c : UInt8) : (lowU c).toNat = lowC c.toNat := by
  unfold lowU
  rw [UInt8.toNat_ofNat']
  exact Nat.mod_eq_of_lt (lowC_le c.toNat_lt)
theorem lowU_low (c : UInt8) : lowU (lowU c) = lowU c := by
  apply UInt8.toNat_inj.1
  rw [lowU_toNat, lowU_toNat, lowC_low]
/-- A text with small letters. -/
def lowB (s : ByteArray) : ByteArray := ⟨(s.data.toList.map lowU).toArray⟩
theorem lowB_list (s : ByteArray) : (lowB s).data.toList = s.data.toList.map lowU := by simp [lowB]
theorem lowB_size (s : ByteArray) : (lowB s).size = s.size := by
  have : (lowB s).data.toList.length = s.data.toList.length := by rw [lowB_list]; simp
  simpa using this
theorem lowB_low (s : ByteArray) : lowB (lowB s) = lowB s := by
  apply bytes_ext
  rw [lowB_list, lowB_list, List.map_map]
  congr 1
  funext c
  exact lowU_low c
def likeB (a b : ByteArray) : Bool := (lowB a).toList == (lowB b).toList
theorem likeB_iff (a b : ByteArray) : likeB a b = true ↔ a.data.toList.map lowU = b.data.toList.map lowU := by
  unfold likeB
  rw [beq_iff_eq, ByteArray.toList_eq, ByteArray.toList_eq, lowB_list, lowB_list]
theorem likeB_symm (a b : ByteArray) : likeB a b = likeB b a := by
  rw [Bool.eq_iff_iff, likeB_iff, likeB_iff]
  exact eq_comm
theorem likeB_low (a : ByteArray) : likeB a (lowB a) = true := by
  rw [likeB_iff, lowB_list, List.map_map]
  congr 1
  funext c
  exact (lowU_low c).symm
theorem likeB_size {a b : ByteArray} (h : a.size ≠ b.size) : likeB a b = false := by
  cases hl : likeB a b with
  | false => rfl
  | true =>
    rw [likeB_iff] at hl
    have := congrArg List.length hl
    simp at this
    omega
def LikeTo (a b : ByteArray) (k : Nat) : Prop := ∀ j (ha : j < a.size) (hb : j < b.size), j < k → lowC (a[j]).toNat = lowC (b[j]).toNat
theorem likeTo_zero (a b : ByteArray) : LikeTo a b 0 := fun _ _ _ h => by omega
theorem likeTo_succ {a b : ByteArray} {k : Nat} (h : LikeTo a b k) (ha : k < a.size) (hb : k < b.size) (he : lowC (a[k]).toNat = lowC (b[k]).toNat) : LikeTo a b (k + 1) := by
  intro j ja jb hlt
  by_cases e : j = k
  · subst e; exact he
  · exact h j ja jb (by omega)
theorem likeB_true {a b : ByteArray} {k : Nat} (h : LikeTo a b k) (hs : a.size = b.size) (hk : a.size ≤ k) : likeB a b = true := by
  rw [likeB_iff]
  apply List.ext_getElem
  · simpa using hs
  · intro j h1 h2
    have j1 : j < a.size := by simpa using h1
    have j2 : j < b.size := by simpa using h2
    rw [List.getElem_map, List.getElem_map]
    apply UInt8.toNat_inj.1
    rw [lowU_toNat, lowU_toNat]
    exact h j j1 j2 (by omega)
theorem likeB_false {a b : ByteArray} {k : Nat} (ha : k < a.size) (hb : k < b.size) (he : lowC (a[k]).toNat ≠ lowC (b[k]).toNat) : likeB a b = false := by
  cases hl : likeB a b with
  | false => rfl
  | true =>
    rw [likeB_iff] at hl
    have h1 : (a.data.toList.map lowU)[k]? = (b.data.toList.map lowU)[k]? := by rw [hl]
    rw [List.getElem?_eq_getElem (by simpa using ha), List.getElem?_eq_getElem (by simpa using hb), List.getElem_map, List.getElem_map] at h1
    have h2 := congrArg UInt8.toNat (Option.some.inj h1)
    rw [lowU_toNat, lowU_toNat] at h2
    exact absurd h2 he

set_option maxHeartbeats 400000 in
theorem small_any (c : Nat) (w : World) (hc : c < 256) :
    Calls Tryd.prog 58 #[.int .u8 (c : Int)] w fun e w' => e = .returned (.int .u8 ((lowC c : Nat) : Int)) ∧ w = w' := by
  by_cases h : 65 ≤ c ∧ c ≤ 90
  · have e : lowC c = c + 32 := by unfold lowC; rw [if_pos h]
    rw [e]
    go_enter Tryd.func58, Tryd.ntmps58
    go_wp2
    go_ret
    refine ⟨?_, rfl⟩
    have e2 : IntKind.u8.wrap ((c : Int) + 32) = ((c + 32 : Nat) : Int) := by rw [IntKind.wrap_u8]; omega
    first | rfl | rw [e2] | simp [e2]
  · have e : lowC c = c := by unfold lowC; rw [if_neg h]
    rw [e]
    by_cases h1 : c < 65
    · go_enter Tryd.func58, Tryd.ntmps58
      go_wp2
      go_ret
      exact ⟨rfl, rfl⟩
    · have h2 : 90 < c := by omega
      go_enter Tryd.func58, Tryd.ntmps58
      go_wp2
      go_ret
      exact ⟨rfl, rfl⟩

set_option maxHeartbeats 400000 in
theorem like_any (a b : ByteArray) (w : World) (ha : a.size ≤ 1000000) (hb : b.size ≤ 1000000) :
    Calls Tryd.prog 43 #[.string a, .string b] w fun e w' => e = .returned (.bool (likeB a b)) ∧ ∃ q, w' = w.drewN q := by
  by_cases hs : a.size = b.size
  · have HS := Lib.hid hs
    have hs1 : ((a.size : Int) != (b.size : Int)) = false := by simp [hs]
    have hs2 : a.size ≤ b.size := by omega
    clear hs
    go_enter Tryd.func43, Tryd.ntmps43
    go_wp2
    go_loopw [13] (fun i wr => ∃ k q : Nat, k ≤ a.size ∧ i = .int .i64 k ∧ LikeTo a b k ∧ wr = w.drewN q) (fun i _ => a.size - (intOf i).toNat)
    case atStart => exact ⟨0, 0, Nat.zero_le _, rfl, likeTo_zero _ _, rfl⟩
    case round =>
      obtain ⟨k, q, hk, rfl, hlk, rfl⟩ := hrel
      by_cases hlt : k < a.size
      · have hltb : k < b.size := by omega
        have b0 : (0 : Int) ≤ (k : Int) := by omega
        have b1 : (k : Int) < (a.size : Int) := by omega
        have b2 : (k : Int) < (b.size : Int) := by omega
        have u1 : (a[k]).toNat < 256 := (a[k]).toNat_lt
        have u2 : (b[k]).toNat < 256 := (b[k]).toNat_lt
        by_cases he : lowC (a[k]).toNat = lowC (b[k]).toNat
        · have ht : ((lowC (a[k]).toNat : Int) != (lowC (b[k]).toNat : Int)) = false := by simp [he]
          have HE := Lib.hid he
          clear he
          go_wp2
          go_quiet ((go_at_call 58; first | exact quiet_left (small_any _ _ (by assumption)) | exact quiet_add_left (small_any _ _ (by assumption))))
          go_wp2
          go_roundw
          case rel => exact ⟨k + 1, _, by omega, by go_num, likeTo_succ hlk hlt hltb HE.out, rfl⟩
          case measure => simp [intOf]; omega
        · have ht : ((lowC (a[k]).toNat : Int) != (lowC (b[k]).toNat : Int)) = true := by simp; omega
          have HE := Lib.hid he
          clear he
          go_wp2
          go_quiet ((go_at_call 58; first | exact quiet_left (small_any _ _ (by assumption)) | exact quiet_add_left (small_any _ _ (by assumption))))
          go_wp2
          go_ret
          exact ⟨bool_ret (likeB_false hlt hltb HE.out).symm, by first | exact ⟨_, rfl⟩ | exact ⟨_, World.drewN_drewN _ _ _⟩⟩
      · go_wp2
        go_ret
        exact ⟨bool_ret (likeB_true hlk HS.out (by omega)).symm, _, rfl⟩
  · have hs1 : ((a.size : Int) != (b.size : Int)) = true := by simp; omega
    have HS := Lib.hid hs
    clear hs
    go_enter Tryd.func43, Tryd.ntmps43
    go_wp2
    go_ret
    exact ⟨bool_ret (likeB_size HS.out).symm, 0, rfl⟩

/-- The row of bytes that Lower works on, its first k bytes made small. -/
def LowAt (w : World) (s : ByteArray) (k : Nat) (wr : World) : Prop :=
  Below w.heap.size w wr ∧ w.heap.size < wr.heap.size ∧ ∀ j (hj : j < s.size), wr.cell? ⟨w.heap.size, j, none⟩ = some (.int .u8 ((if j < k then lowC (s[j]).toNat else (s[j]).toNat : Nat) : Int)) ∧ wr.frozen? ⟨w.heap.size, j, none⟩ = false
theorem lowAt_start (w : World) (s : ByteArray) : LowAt w s 0 (Lib.bytesWorld w 5 s) := by
  refine ⟨⟨rfl, rfl, rfl, by rw [Lib.bytesWorld_size]; omega, fun k hk => Lib.bytesWorld_at_old w _ s k hk⟩, by rw [Lib.bytesWorld_size]; omega, fun j hj => ⟨?_, ?_⟩⟩
  · rw [Lib.bytesWorld_cell w _ s j hj, if_neg (by omega)]
    have e : s.data.toList.getD j 0 = s[j] := by
      rw [List.getD_eq_getElem?_getD, List.getElem?_eq_getElem (by simpa using hj)]; rfl
    rw [e]
  · unfold World.frozen?
    rw [Lib.bytesWorld_at_new]
    have : s.size ≤ (Lib.bytesCells w 5 s).size := by simp [Lib.bytesCells]
    simp
    omega
theorem lowAt_step {w : World} {s : ByteArray} {k : Nat} {wr : World} (h : LowAt w s k wr) (hk : k < s.size) : LowAt w s (k + 1) (wr.setCell ⟨w.heap.size, k, none⟩ (.int .u8 ((lowC (s[k]).toNat : Nat) : Int))) := by
  obtain ⟨h1, h2, h3⟩ := h
  refine ⟨h1.setCell (Nat.le_refl _) _, by simpa [World.setCell] using h2, fun j hj => ⟨?_, by rw [World.frozen?_setCell]; exact (h3 j hj).2⟩⟩
  by_cases e : j = k
  · subst e
    rw [World.cell?_setCell_same _ _ _ (h3 j hj).1, if_pos (by omega)]
  · rw [World.cell?_setCell_other _ _ _ _ (by intro h; injection h; omega), (h3 j hj).1]
    by_cases hlt : j < k
    · rw [if_pos hlt, if_pos (by omega)]
    · rw [if_neg hlt, if_neg (by omega)]
theorem lowAt_back {w : World} {s : ByteArray} {wr : World} (cap : Nat) (h : LowAt w s s.size wr) :
    (convert 100 9 (.slice (some ⟨w.heap.size, 0, none⟩) s.size cap)).run Tryd.prog wr = .ok (.string (lowB s)) wr := by
  have hl : (s.data.toList.map lowU).length = s.size := by simp
  have hb := run_convert_bytes_back (P := Tryd.prog) wr 100 9 5 ⟨w.heap.size, 0, none⟩ cap (s.data.toList.map lowU) Tryd.underlying100 Tryd.underlying5 Tryd.underlying9 (by
    intro j hj
    have hj' : j < s.size := by omega
    have := (h.2.2 j hj').1
    rw [if_pos hj'] at this
    rw [List.getElem_map, lowU_toNat]
    rw [add_none]
    exact this)
  rw [hl] at hb
  exact hb

theorem low_snoc (s : ByteArray) (k : Nat) (h : k < s.size) : (s.data.toList.map lowU).take (k + 1) = (s.data.toList.map lowU).take k ++ [lowU s[k]] := by
  rw [List.take_succ_eq_append_getElem (by simpa using h)]
  simp
  rfl

set_option maxHeartbeats 400000 in
theorem refLower_any (s : ByteArray) (w : World) (hs : s.size ≤ 1000000) :
    Calls Tryd.prog 44 #[.string s] w fun e w' => e = .returned (.string (lowB s)) ∧ Below w.heap.size w w' := by
  obtain ⟨i0, hi0, hz0, hz1, hz2⟩ := info_parts Tryd.infoByte
  go_enter Tryd.func44, Tryd.ntmps44
  go_wp2
  go_loopw [3, 4] (fun v i wr => ∃ k : Nat, k ≤ s.size ∧ i = .int .i64 k ∧ wr.ownsRow w.heap.size 5 1 v ((s.data.toList.map lowU).take k).length (bys ((s.data.toList.map lowU).take k)) ∧ Below w.heap.size w wr) (fun _ i _ => s.size - (intOf i).toNat)
  case atStart => exact ⟨0, Nat.zero_le _, rfl, World.ownsRow_nil _ _ _ _, Below.refl _ _⟩
  case round =>
    obtain ⟨k, hk, rfl, hown, hbel⟩ := hrel
    have hsz := hbel.size
    by_cases hlt : k < s.size
    · have HS := Lib.hid (low_snoc s k hlt)
      have hl : ((s.data.toList.map lowU).take k).length ≤ k := List.length_take_le _ _
      generalize (s.data.toList.map lowU).take k = l at *
      have u1 : (s[k]).toNat < 256 := (s[k]).toNat_lt
      by_cases hc : 65 ≤ (s[k]).toNat ∧ (s[k]).toNat ≤ 90
      · have hx : (s[k]).toNat + 32 = (lowU s[k]).toNat := by rw [lowU_toNat]; unfold lowC; rw [if_pos hc]
        have HX := Lib.hid hx
        clear hx
        have hw : IntKind.u8.wrap (((s[k]).toNat : Int) + 32) = ((s[k]).toNat : Int) + 32 := by rw [IntKind.wrap_u8]; omega
        go_wp2_with (at_builtin; refine wpList_append_own _ rfl (.tmp 23) (.tmp 25) 100 rfl w.heap.size 5 i0 _ 1 1 Tryd.underlying100 hi0 hz0 hz1 hz2 rfl (by decide) _ _ _ rfl (hown.alloc _) ⟨wr.heap.size, 0, none⟩ 1 1 [.int .u8 (((s[k]).toNat : Int) + 32)] rfl rfl ?c1 ?c2 ?c3 ?c4 ?c5 ?_)
        case c1 => exact cell_one_new _ _ _
        case c2 => intro u hu; simp at hu; subst hu; rfl
        case c3 => unfold maxLen; omega
        case c4 => omega
        case c5 => simp; omega
        intro v' w1 hown' hgrow _
        rw [show (((s[k]).toNat : Int) + 32) = ((lowU s[k]).toNat : Int) by have := HX.out; omega] at hown'
        have R := own_byte hown' hgrow hown hbel
        clear hown' hgrow hown hbel hw
        go_wp2
        go_roundw
        case rel => exact ⟨k + 1, by omega, by go_num, by rw [HS.out]; exact R.1, R.2⟩
        case measure => simp [intOf]; omega
      · have hx : (s[k]).toNat = (lowU s[k]).toNat := by rw [lowU_toNat]; unfold lowC; rw [if_neg hc]
        have HX := Lib.hid hx
        clear hx
        have hcc : (s[k]).toNat < 65 ∨ 90 < (s[k]).toNat := by omega
        clear hc
        rcases hcc with hc | hc
        all_goals
          go_wp2_with (at_builtin; refine wpList_append_own _ rfl (.tmp 23) (.tmp 25) 100 rfl w.heap.size 5 i0 _ 1 1 Tryd.underlying100 hi0 hz0 hz1 hz2 rfl (by decide) _ _ _ rfl (hown.alloc _) ⟨wr.heap.size, 0, none⟩ 1 1 [.int .u8 ((s[k]).toNat : Int)] rfl rfl (cell_one_new _ _ _) (by intro u hu; simp at hu; subst hu; rfl) (by unfold maxLen; omega) (by omega) (by simp; omega) ?_)
          intro v' w1 hown' hgrow _
          rw [HX.out] at hown'
          have R := own_byte hown' hgrow hown hbel
          clear hown' hgrow hown hbel
          go_wp2
          go_roundw
          case rel => exact ⟨k + 1, by omega, by go_num, by rw [HS.out]; exact R.1, R.2⟩
          case measure => simp [intOf]; omega
    · obtain rfl : k = s.size := by omega
      have hb := own_bytes_back hown
      have e : (⟨((s.data.toList.map lowU).take s.size).toArray⟩ : ByteArray) = lowB s := by
        rw [List.take_of_length_le (by simp)]; rfl
      rw [e] at hb
      clear hown e
      go_wp2
      go_ret
      exact ⟨rfl, hbel⟩

end Go.Proofs.YtgbajagacmfcmaaDoor
/- Contracts of the reference's layer 7: Add, Of, Name, Parse. -/
namespace Go.Proofs.YtgbajagacmfcmaaDoor
open Go.RowKit
set_option linter.unusedVariables false
set_option maxRecDepth 20000

/-- Entries of spaces: one more is added. -/
def addE (es : List Ent) (f : Int) (bs : List Nat) (n s : Int) : List Ent := if s < 0 ∨ 2 < s then es else setE es f bs n s
def addC (f : Int) (bs : List Nat) (n s : Int) : Int := if s < 0 ∨ 2 < s then 1 else if mayP f bs n = true then 0 else 1
/-- An address's space. -/
def ofE (es : List Ent) (f : Int) (bs : List Nat) : Int := match findE es f bs with | none => 2 | some e => e.v
def nameB (s : Int) : ByteArray := if s = 0 then ⟨#[108, 111, 111, 112, 98, 97, 99, 107]⟩ else if s = 1 then ⟨#[112, 114, 105, 118, 97, 116, 101]⟩ else if s = 2 then ⟨#[112, 117, 98, 108, 105, 99]⟩ else ⟨#[]⟩
/-- The space of a name. -/
def parse7 (s : ByteArray) : Int × Bool := if lowB s = nameB 0 then (0, true) else if lowB s = nameB 1 then (1, true) else if lowB s = nameB 2 then (2, true) else (0, false)
set_option maxRecDepth 100000 in
theorem refAdd7_any (v : Value) (es : List Ent) (f : Int) (bs : List Nat) (n x : Int) (w : World) (base : Nat) (hE : RowE w base v es) (h16 : bs.length = 16) (hlt : ∀ x ∈ bs, x < 256) (hx : (Lit.int .i64 x).wf = true) (hle : es.length ≤ 900) :
    Calls Tryd.prog 10 #[v, prefV f bs n, .int .i64 x] w fun e w' => ∃ v', e = .returned (.tuple #[v', .int .i64 (addC f bs n x)]) ∧ RowE w' 0 v' (addE es f bs n x) ∧ (v' = v ∨ RowE w' w.heap.size v' (addE es f bs n x)) ∧ Below w.heap.size w w' := by
  have HSE : Hid (addE es f bs n x = if x < 0 ∨ 2 < x then es else setE es f bs n x) := Lib.hid rfl
  have HSC : Hid (addC f bs n x = if x < 0 ∨ 2 < x then 1 else if mayP f bs n = true then 0 else 1) := Lib.hid rfl
  have HST := fun W (h : RowE W base v es) => Lib.hid (refSet_any v es f bs n x W base h h16 hlt hx hle)
  obtain ⟨c0, hc0⟩ : ∃ c : Int, (if mayP f bs n = true then (0 : Int) else 1) = c := ⟨_, rfl⟩
  rw [hc0] at HST HSC
  generalize addE es f bs n x = S at *
  generalize addC f bs n x = c at *
  generalize setE es f bs n x = S0 at *
  obtain ⟨cs, ecs, H1, HB⟩ := pref_boxed f bs n w h16
  have HE := Lib.hid (hE.below HB.out)
  rw [ecs]
  clear ecs h16 hlt hx hE hc0
  by_cases h0 : x < 0
  · rw [if_pos (.inl h0)] at HSE HSC
    have hd : decide (x < 0) = true := by simp; omega
    have EC := HSC.out
    have ES := HSE.out
    subst EC ES
    clear HST
    go_enter Tryd.func10, Tryd.ntmps10
    go_upto_region 1 with fail
    generalize (w.alloc (.cells cs 27)) = W at *
    go_wp2_with fail
    go_ret2
    exact ⟨v, rfl, HE.out.mono (Nat.zero_le _), .inl rfl, HB.out⟩
  · have hd : decide (x < 0) = false := by simp; omega
    by_cases h2 : 2 < x
    · rw [if_pos (.inr h2)] at HSE HSC
      have hd2 : decide (2 < x) = true := by simp; omega
      have EC := HSC.out
      have ES := HSE.out
      subst EC ES
      clear HST
      go_enter Tryd.func10, Tryd.ntmps10
      go_upto_region 1 with fail
      generalize (w.alloc (.cells cs 27)) = W at *
      go_wp2_with fail
      go_ret2
      exact ⟨v, rfl, HE.out.mono (Nat.zero_le _), .inl rfl, HB.out⟩
    · have hd2 : decide (2 < x) = false := by simp; omega
      rw [if_neg (fun h => by omega)] at HSE HSC
      have EC := HSC.out
      have ES := HSE.out
      subst EC ES
      go_enter Tryd.func10, Tryd.ntmps10
      go_upto_region 1 with fail
      have HWL : Hid (w.heap.size ≤ (w.alloc (.cells cs 27)).heap.size) := Lib.hid HB.out.size
      generalize (w.alloc (.cells cs 27)) = W at *
      go_wp2_with (refine load_pref_g H1 _ rfl rfl rfl ?_)
      refine (HST _ HE.out).out.mono ?_
      rintro e w1 ⟨v', rfl, hr, ho, hb⟩
      have HB1 := Lib.hid (chain HB.out hb)
      have HR1 := Lib.hid hr
      have HO1 := Lib.hid ho
      clear HST HE H1 HB hr ho hb
      go_wp2_with fail
      go_ret2
      exact ⟨v', rfl, HR1.out, HO1.out.imp id (fun h => h.mono HWL.out), HB1.out⟩
theorem unmap7 (f : Int) (bs : List Nat) (h16 : bs.length = 16) (hlt : ∀ x ∈ bs, x < 256) : (unmapB f bs).length = 16 ∧ ∀ x ∈ unmapB f bs, x < 256 := by
  unfold unmapB
  split
  · exact ⟨b4_len _, b4_lt _⟩
  · exact ⟨h16, hlt⟩
set_option maxRecDepth 100000 in
theorem refOf7_any (v : Value) (es : List Ent) (f : Int) (us : List Nat) (w : World) (base : Nat) (hE : RowE w base v es) (h16 : us.length = 16) (hlt : ∀ x ∈ us, x < 256) :
    Calls Tryd.prog 12 #[v, addrV f us] w fun e w' => e = .returned (.int .i64 (ofE es (unmapF f us) (unmapB f us))) ∧ Below w.heap.size w w' := by
  have HUM := fun W => Lib.hid (refUnmap_any f us W h16 hlt)
  have HFI := fun W (h : RowE W base v es) => Lib.hid (refFind_any v es (unmapF f us) (unmapB f us) W base h (unmap7 f us h16 hlt).1 (unmap7 f us h16 hlt).2)
  have HOF : Hid (ofE es (unmapF f us) (unmapB f us) = match findE es (unmapF f us) (unmapB f us) with | none => 2 | some e => e.v) := Lib.hid rfl
  generalize ofE es (unmapF f us) (unmapB f us) = S at *
  obtain ⟨cs, ecs, H1, HB⟩ := addr_boxed f us w h16
  have HE := Lib.hid (hE.below HB.out)
  have HGD := Lib.hid hE.2.1
  rw [ecs]
  clear ecs h16 hlt hE
  have HME : ∀ e, findE es (unmapF f us) (unmapB f us) = some e → e.Good := fun e he => HGD.out e ((findE_best es (unmapF f us) (unmapB f us)).2 e he).1
  generalize findE es (unmapF f us) (unmapB f us) = R at *
  go_enter Tryd.func12, Tryd.ntmps12
  go_upto_region 1 with fail
  generalize (w.alloc (.cells cs 25)) = W at *
  go_wp2_with (refine load_addr_g H1 _ rfl rfl rfl ?_)
  refine (HUM _).out.mono ?_
  rintro e w1 ⟨rfl, hb1⟩
  replace HE := Lib.hid (HE.out.below hb1)
  replace HB := Lib.hid (chain HB.out hb1)
  clear hb1 HUM H1
  go_wp2_with fail
  refine (HFI _ HE.out).out.mono ?_
  rintro e w2 ⟨rfl, hb2⟩
  replace HB := Lib.hid (chain HB.out hb2)
  clear hb2 HFI HE
  have HZ := Lib.hid (ent_zeroed w2)
  cases R with
  | none =>
    have EO := HOF.out
    simp only at EO
    subst EO
    have H16 : Hid ((List.replicate 16 0).length = 16) := Lib.hid rfl
    rw [show entRet none = .tuple #[entV 0 (List.replicate 16 0) 0 0, .bool false] from rfl]
    obtain ⟨zs, hzs⟩ : ∃ zs : List Nat, List.replicate 16 0 = zs := ⟨_, rfl⟩
    rw [hzs] at HZ H16 ⊢
    clear hzs
    go_upto_region 2 with (refine store_ent HZ _ _ H16 rfl rfl rfl rfl (fun W1 HW1 HE1 => ?_))
    have HB1 : Hid (Below w.heap.size w W1) := Lib.hid (chain HB.out (by rw [HW1.out]; exact below_cells (Nat.le_refl _) _ _ _ ((Below.refl _ _).alloc (Nat.le_refl _) _)))
    go_wp2_with fail
    go_ret
    exact ⟨rfl, HB1.out⟩
  | some y =>
    have EO := HOF.out
    simp only at EO
    subst EO
    have H16 : Hid (y.b.length = 16) := Lib.hid (HME y rfl).1.len
    rw [show entRet (some y) = .tuple #[entV y.f y.b (y.n : Int) y.v, .bool true] from rfl]
    go_upto_region 2 with (refine store_ent HZ _ _ H16 rfl rfl rfl rfl (fun W1 HW1 HE1 => ?_))
    have HB1 : Hid (Below w.heap.size w W1) := Lib.hid (chain HB.out (by rw [HW1.out]; exact below_cells (Nat.le_refl _) _ _ _ ((Below.refl _ _).alloc (Nat.le_refl _) _)))
    have hv : W1.cell? ⟨w2.heap.size, 18, none⟩ = some (.int .i64 y.v) := by
      have := HE1.out.range 18 (.int .i64 y.v) (by unfold entL; rw [List.getElem?_append_right (by rw [prefL_len _ _ _ H16.out]; exact Nat.le_refl _), prefL_len _ _ _ H16.out]; rfl)
      rw [Nat.zero_add] at this
      exact this
    go_wp2_with fail
    go_ret
    exact ⟨rfl, HB1.out⟩
set_option maxRecDepth 100000 in
theorem refName7_any (s : Int) (w : World) :
    Calls Tryd.prog 25 #[.int .i64 s] w fun e w' => e = .returned (.string (nameB s)) ∧ Below w.heap.size w w' := by
  by_cases h0 : s < 0
  · have hd : decide (s < 0) = true := by simp; omega
    have e : nameB s = ⟨#[]⟩ := by unfold nameB; rw [if_neg (by omega), if_neg (by omega), if_neg (by omega)]
    rw [e]
    go_enter Tryd.func25, Tryd.ntmps25
    go_wp2_with fail
    go_ret
    exact ⟨rfl, Below.refl _ _⟩
  · have hd : decide (s < 0) = false := by simp; omega
    by_cases h2 : 2 < s
    · have hd2 : decide (2 < s) = true := by simp; omega
      have e : nameB s = ⟨#[]⟩ := by unfold nameB; rw [if_neg (by omega), if_neg (by omega), if_neg (by omega)]
      rw [e]
      go_enter Tryd.func25, Tryd.ntmps25
      go_wp2_with fail
      go_ret
      exact ⟨rfl, Below.refl _ _⟩
    · have hd2 : decide (2 < s) = false := by simp; omega
      clear hd hd2
      have h3 : s = 0 ∨ s = 1 ∨ s = 2 := by omega
      rcases h3 with rfl | rfl | rfl
      · go_enter Tryd.func25, Tryd.ntmps25
        go_wp2_with fail
        go_ret
        exact ⟨rfl, (Below.refl _ _).alloc (Nat.le_refl _) _⟩
      · go_enter Tryd.func25, Tryd.ntmps25
        go_wp2_with fail
        go_ret
        exact ⟨rfl, (Below.refl _ _).alloc (Nat.le_refl _) _⟩
      · go_enter Tryd.func25, Tryd.ntmps25
        go_wp2_with fail
        go_ret
        exact ⟨rfl, (Below.refl _ _).alloc (Nat.le_refl _) _⟩
set_option maxRecDepth 100000 in
theorem refParse7_any (s : ByteArray) (w : World) (hs : s.size ≤ 1000000) :
    Calls Tryd.prog 23 #[.string s] w fun e w' => e = .returned (.tuple #[.int .i64 (parse7 s).1, .bool (parse7 s).2]) ∧ Below w.heap.size w w' := by
  have HLO := fun W => Lib.hid (refLower_any s W hs)
  have HNA := fun x W => Lib.hid (refName7_any x W)
  have HPA : Hid (parse7 s = if lowB s = nameB 0 then (0, true) else if lowB s = nameB 1 then (1, true) else if lowB s = nameB 2 then (2, true) else (0, false)) := Lib.hid rfl
  generalize parse7 s = S at *
  generalize lowB s = L at *
  go_enter Tryd.func23, Tryd.ntmps23
  go_wp2_with fail
  go_loopw [4] (fun i wr => ∃ (k : Nat), k ≤ 3 ∧ i = .int .i64 (k : Int) ∧ Hid (∀ j : Nat, j < k → ¬ L = nameB (j : Int)) ∧ Hid (Below w.heap.size w wr)) (fun i _ => 3 - (intOf i).toNat)
  case atStart => exact ⟨0, Nat.zero_le _, rfl, Lib.hid (fun j hj => absurd hj (by omega)), Lib.hid (Below.refl _ _)⟩
  case round =>
    obtain ⟨k, hk, rfl, HN, HB⟩ := hrel
    by_cases hk3 : k < 3
    · have hd : decide ((k : Int) < 3) = true := by simp; omega
      have hdn : decide (k < 3) = true := by simp; omega
      go_wp2_with fail
      refine (HLO _).out.mono ?_
      rintro e w1 ⟨rfl, hb1⟩
      replace HB := Lib.hid (chain HB.out hb1)
      clear hb1
      go_wp2_with fail
      refine (HNA _ _).out.mono ?_
      rintro e w2 ⟨rfl, hb2⟩
      replace HB := Lib.hid (chain HB.out hb2)
      clear hb2
      obtain ⟨X, hX⟩ : ∃ X, nameB (k : Int) = X := ⟨_, rfl⟩
      rw [hX]
      have HX := Lib.hid hX
      clear hX
      by_cases he : L = X
      · have HS : Hid (S = ((k : Int), true)) := Lib.hid (by
          rw [HPA.out]
          have h1 := HN.out
          rw [← HX.out] at he
          have h3 : k = 0 ∨ k = 1 ∨ k = 2 := by omega
          rcases h3 with rfl | rfl | rfl
          · rw [if_pos (show L = nameB 0 from he)]; rfl
          · rw [if_neg (show ¬ L = nameB 0 from h1 0 (by omega)), if_pos (show L = nameB 1 from he)]; rfl
          · rw [if_neg (show ¬ L = nameB 0 from h1 0 (by omega)), if_neg (show ¬ L = nameB 1 from h1 1 (by omega)), if_pos (show L = nameB 2 from he)]; rfl)
        have ES := HS.out
        subst ES
        subst he
        go_wp2_with fail
        go_ret2
        exact ⟨rfl, HB.out⟩
      · have he2 : (L.toList == X.toList) = false := by
          rw [beq_eq_false_iff_ne]
          intro h
          rw [ByteArray.toList_eq, ByteArray.toList_eq] at h
          exact he (ByteArray.ext (Array.ext' h))
        have HN2 : Hid (∀ j : Nat, j < k + 1 → ¬ L = nameB (j : Int)) := Lib.hid (fun j hj => by
          by_cases hjk : j < k
          · exact HN.out j hjk
          · obtain rfl : j = k := by omega
            rw [HX.out]; exact he)
        clear HN
        go_wp2_with fail
        go_roundw
        case rel => exact ⟨k + 1, by omega, by go_num, HN2, HB⟩
        case measure => simp [intOf]; omega
    · obtain rfl : k = 3 := by omega
      have HS : Hid (S = (0, false)) := Lib.hid (by
        rw [HPA.out]
        have h1 := HN.out
        rw [if_neg (show ¬ L = nameB 0 from h1 0 (by omega)), if_neg (show ¬ L = nameB 1 from h1 1 (by omega)), if_neg (show ¬ L = nameB 2 from h1 2 (by omega))])
      have ES := HS.out
      subst ES
      go_wp2_with fail
      go_ret2
      exact ⟨rfl, HB.out⟩
end Go.Proofs.YtgbajagacmfcmaaDoor
/- A row (a slice) of structs that came in, opened: the list of its elements, as they lie. -/
namespace Go.Proofs.YtgbajagacmfcmaaDoor
open Go.ChangeShapes Go.WideShapes Go.ChangeAt Go.RowKit
set_option linter.unusedVariables false
set_option maxRecDepth 20000

theorem flatMap_len {α : Type} (Lf : α → List Value) (S : Nat) : ∀ D : List α, (∀ d ∈ D, (Lf d).length = S) → (D.flatMap Lf).length = D.length * S
  | [], _ => by simp
  | d :: D, h => by
    rw [List.flatMap_cons, List.length_append, h d (by simp), flatMap_len Lf S D (fun x hx => h x (by simp [hx])), List.length_cons, Nat.succ_mul, Nat.add_comm]
theorem flatMap_at {α : Type} (Lf : α → List Value) (S : Nat) : ∀ D : List α, (∀ d ∈ D, (Lf d).length = S) → ∀ k (hk : k < D.length) j, j < S → (D.flatMap Lf)[k * S + j]? = (Lf D[k])[j]?
  | [], _, k, hk, j, hj => absurd hk (by simp)
  | d :: D, h, k, hk, j, hj => by
    have h1 := h d (by simp)
    rw [List.flatMap_cons]
    cases k with
    | zero => rw [Nat.zero_mul, Nat.zero_add, List.getElem?_append_left (by omega)]; rfl
    | succ k =>
      rw [List.getElem?_append_right (by rw [h1, Nat.succ_mul]; omega), h1, show (k + 1) * S + j - S = k * S + j by rw [Nat.succ_mul]; omega]
      exact flatMap_at Lf S D (fun x hx => h x (by simp [hx])) k (by simpa using hk) j hj
/-- Where an element lies. -/
theorem range_at {α : Type} {Lf : α → List Value} {S : Nat} {w : World} {g o : Nat} {D : List α} (h : w.rangeAt g o (D.flatMap Lf)) (hl : ∀ d ∈ D, (Lf d).length = S) (k : Nat) (hk : k < D.length) : w.rangeAt g (o + k * S) (Lf D[k]) := by
  intro j u hu
  have hj : j < S := by
    have := hl _ (List.getElem_mem hk)
    apply Classical.byContradiction
    intro h2
    rw [List.getElem?_eq_none (by omega)] at hu
    cases hu
  have := h (k * S + j) u (by rw [flatMap_at Lf S D hl k hk j hj]; exact hu)
  rw [← Nat.add_assoc] at this
  exact this
theorem choose_list {α : Type} (p : Nat → α → Prop) : ∀ n, (∀ i, i < n → ∃ d, p i d) → ∃ D : List α, D.length = n ∧ ∀ i (hi : i < D.length), p i D[i]
  | 0, _ => ⟨[], rfl, fun i hi => absurd hi (by simp)⟩
  | n + 1, h => by
    obtain ⟨D, h1, h2⟩ := choose_list p n (fun i hi => h i (by omega))
    obtain ⟨d, hd⟩ := h n (by omega)
    refine ⟨D ++ [d], by simp [h1], fun i hi => ?_⟩
    by_cases e : i < D.length
    · rw [List.getElem_append_left e]; exact h2 i e
    · have hin : i = D.length := by simp at hi; omega
      subst hin
      rw [List.getElem_append_right (Nat.le_refl _)]
      simp only [Nat.sub_self, List.getElem_cons_zero]
      rw [h1]
      exact hd
theorem mapM_some {α : Type} (f : Nat → Option α) : ∀ (n : Nat) (cs : List α), (List.range n).mapM f = some cs → cs.length = n ∧ ∀ j (hj : j < cs.length), f j = some cs[j] := by
  intro n
  induction n with
  | zero => intro cs h; simp at h; subst h; exact ⟨rfl, fun j hj => absurd hj (by simp)⟩
  | succ n ih =>
    intro cs h
    rw [List.range_succ, List.mapM_append] at h
    simp only [Option.bind_eq_bind, List.mapM_cons, List.mapM_nil, Option.pure_def] at h
    cases h1 : (List.range n).mapM f with
    | none => rw [h1] at h; simp at h
    | some xs =>
      rw [h1] at h
      cases h2 : f n with
      | none => rw [h2] at h; simp at h
      | some y =>
        rw [h2] at h
        simp at h
        obtain ⟨l1, l2⟩ := ih xs h1
        subst h
        refine ⟨by simp [l1], fun j hj => ?_⟩
        by_cases e : j < xs.length
        · rw [List.getElem_append_left e]; exact l2 j e
        · have hjn : j = xs.length := by simp at hj; omega
          subst hjn
          rw [List.getElem_append_right (Nat.le_refl _)]
          simp only [Nat.sub_self, List.getElem_cons_zero]
          rw [l1]
          exact h2
/-- A row of structs, opened. -/
theorem open_rows {α : Type} {H : Type} {enc : TypeId × Value → H} {W : World} {spare : Nat → Bool} {t e : TypeId} {fuel : Nat} {a : Option Addr} {len cap : Nat} {x : DataW H × List MemPlace} (Lf : α → List Value) (S : Nat) (q : α → Prop)
    (ht : Tryd.prog.underlying t = some (.slice e)) (hS : Tryd.prog.cellsOf e = S) (hpos : 0 < S)
    (hel : ∀ (n : Nat) (cs : List Value) (y : DataW H × List MemPlace), cs.length = S → DataW.trod enc Tryd.prog W 0 spare true n e cs = some y → ∃ d, cs = Lf d ∧ q d)
    (h : DataW.trod enc Tryd.prog W 0 spare true fuel t [.slice a len cap] = some x) :
    len ≤ cap ∧ cap ≤ maxLen ∧ (len = 0 ∨ ∃ (g o : Nat) (D : List α), a = some ⟨g, o, none⟩ ∧ D.length = len ∧ (∀ d ∈ D, q d ∧ (Lf d).length = S) ∧ W.rangeAt g o (D.flatMap Lf) ∧ g < W.heap.size) := by
  rcases Deep.open_slice ht h with ⟨h0, _⟩ | ⟨a', len', cap', m, n, D, Pl, h0, hb, hl, hm, hmm, _, hc⟩
  · injection h0 with h0 _
    injection h0 with h1 h2 h3
    subst h1 h2 h3
    exact ⟨Nat.le_refl _, Nat.zero_le _, .inl rfl⟩
  · injection h0 with h0 _
    injection h0 with h1 h2 h3
    subst h1 h2 h3
    refine ⟨hl, hm, ?_⟩
    by_cases hz : len = 0
    · exact .inl hz
    · right
      have hle : len ≤ m := by rw [hmm]; split <;> omega
      rw [hS] at hc
      have key : ∀ i, i < len → ∃ d, (∀ j u, (Lf d)[j]? = some u → W.cell? ((a'.add (i * S)).add j) = some u) ∧ q d ∧ (Lf d).length = S := fun i hi => by
        obtain ⟨cs, c1, c2⟩ := hc i (by omega)
        unfold World.cells? at c1
        rw [if_pos (Nat.zero_le _)] at c1
        obtain ⟨l1, l2⟩ := mapM_some _ _ _ c1
        obtain ⟨d, rfl, hq⟩ := hel n cs _ l1 c2
        refine ⟨d, fun j u hu => ?_, hq, l1⟩
        have hj : j < (Lf d).length := by
          apply Classical.byContradiction
          intro h2
          rw [List.getElem?_eq_none (by omega)] at hu
          cases hu
        rw [l2 j hj]
        rw [List.getElem?_eq_getElem hj] at hu
        exact hu
      obtain ⟨D, d1, d2⟩ := choose_list _ len key
      obtain ⟨d0, e1, _, e3⟩ := key 0 (by omega)
      have hc0 := e1 0 _ (List.getElem?_eq_getElem (by omega))
      have hspot : a'.spot = none := by
        rw [Nat.zero_mul] at hc0
        have : (a'.add 0).add 0 = a' := by simp [Addr.add]
        rw [this] at hc0
        unfold World.cell? at hc0
        split at hc0
        · split at hc0
          · cases hc0
          · rename_i h; simpa using h
        · cases hc0
      obtain ⟨g, o, sp⟩ := a'
      simp only at hspot
      subst hspot
      have hadd : ∀ i j, ((⟨g, o, none⟩ : Addr).add i).add j = ⟨g, o + i + j, none⟩ := fun i j => by
        unfold Addr.add
        split <;> split <;> simp_all [Nat.add_assoc]
      have hlen : ∀ d ∈ D, (Lf d).length = S := fun d hd => by
        obtain ⟨i, hi, rfl⟩ := List.getElem_of_mem hd
        exact (d2 i hi).2.2
      refine ⟨g, o, D, rfl, d1, fun d hd => ?_, fun k u hu => ?_, ?_⟩
      · obtain ⟨i, hi, rfl⟩ := List.getElem_of_mem hd
        exact ⟨(d2 i hi).2.1, (d2 i hi).2.2⟩
      · have hk : k < D.length * S := by
          rw [← flatMap_len Lf S D hlen]
          apply Classical.byContradiction
          intro h2
          rw [List.getElem?_eq_none (by omega)] at hu
          cases hu
        have hq : k / S < D.length := Nat.div_lt_of_lt_mul (by rw [Nat.mul_comm]; exact hk)
        have hkk : k / S * S + k % S = k := by rw [Nat.mul_comm]; exact Nat.div_add_mod k S
        have h3 := flatMap_at Lf S D hlen (k / S) hq (k % S) (Nat.mod_lt _ hpos)
        rw [hkk, hu] at h3
        have h4 := (d2 (k / S) hq).1 (k % S) u h3.symm
        rw [hadd] at h4
        rw [← hkk, ← Nat.add_assoc]
        exact h4
      · rw [Nat.zero_mul, hadd] at hc0
        unfold World.cell? at hc0
        apply Classical.byContradiction
        intro h2
        rw [Array.getElem?_eq_none (by simpa using h2)] at hc0
        cases hc0
end Go.Proofs.YtgbajagacmfcmaaDoor
/- A prefix (api.Prefix) that came in, opened: its address's family, the list of its bytes, its bits. -/
namespace Go.Proofs.YtgbajagacmfcmaaDoor
open Go.ChangeShapes Go.WideShapes Go.ChangeAt Go.RowKit
set_option linter.unusedVariables false
set_option maxRecDepth 20000

theorem addr_of_trod {H : Type} {enc : TypeId × Value → H} {W : World} {spare : Nat → Bool} {fuel : Nat} {l : List Value} {x : DataW H × List MemPlace} (hl : l.length = 17)
    (hf : DataW.trod enc Tryd.prog W 0 spare true fuel 25 l = some x) : ∃ (f : Int) (bs : List Nat), l = addrL f bs ∧ (Lit.int .i64 f).wf = true ∧ bs.length = 16 ∧ ∀ x ∈ bs, x < 256 := by
  have hs := Tryd.underlying25
  obtain ⟨y0, y1, n, _, _, h0, h1⟩ := trod_struct2 hs hf
  obtain ⟨f, h2, _, h3⟩ := DataW.trod_int Tryd.underlying3 h0
  obtain ⟨zs, h4, h5, h6⟩ := ints_of_trod Tryd.underlying23 Tryd.underlying5 (by kernel_rfl) (by kernel_rfl) h1
  have hc1 : Tryd.prog.cellsOf 3 = 1 := by kernel_rfl
  have hc16 : Tryd.prog.cellsOf 23 = 16 := by kernel_rfl
  refine ⟨f, zs.map Int.toNat, ?_, h3, by simpa using h5, ?_⟩
  · unfold addrL
    have e1 : l = (l.drop 0).take 1 ++ (l.drop 1).take 16 := by
      have : (l.drop 1).take 16 = l.drop 1 := List.take_of_length_le (by simp; omega)
      rw [this, List.drop_zero, List.take_append_drop]
    rw [e1]
    have e2 : (l.drop 0).take 1 = [Value.int .i64 f] := by rw [← h2, hc1]
    have e3 : (l.drop 1).take 16 = zs.map (Value.int .u8) := by rw [← h4, hc16]
    rw [e2, e3, List.map_map]
    show Value.int .i64 f :: zs.map (Value.int .u8) = Value.int .i64 f :: _
    congr 1
    apply List.map_congr_left
    intro z hz
    have := bounds_u8 (h6 z hz)
    show Value.int .u8 z = Value.int .u8 ((z.toNat : Nat) : Int)
    congr 1
    omega
  · intro x hx
    obtain ⟨z, hz, rfl⟩ := List.mem_map.1 hx
    have := bounds_u8 (h6 z hz)
    omega
theorem pref_of_trod {H : Type} {enc : TypeId × Value → H} {W : World} {spare : Nat → Bool} {fuel : Nat} {l : List Value} {x : DataW H × List MemPlace} (hl : l.length = 18)
    (hf : DataW.trod enc Tryd.prog W 0 spare true fuel 27 l = some x) : ∃ (f : Int) (bs : List Nat) (n : Int), l = prefL f bs n ∧ (Lit.int .i64 f).wf = true ∧ bs.length = 16 ∧ (∀ x ∈ bs, x < 256) ∧ (Lit.int .i64 n).wf = true := by
  have hs := Tryd.underlying27
  obtain ⟨y0, y1, k, _, _, h0, h1⟩ := trod_struct2 hs hf
  have hc1 : Tryd.prog.cellsOf 3 = 1 := by kernel_rfl
  have hc17 : Tryd.prog.cellsOf 25 = 17 := by kernel_rfl
  rw [hc17] at h0
  rw [hc1] at h1
  obtain ⟨f, bs, e1, w1, l1, b1⟩ := addr_of_trod (by simp; omega) h0
  obtain ⟨n, h2, _, h3⟩ := DataW.trod_int Tryd.underlying3 h1
  refine ⟨f, bs, n, ?_, w1, l1, b1, h3⟩
  unfold prefL
  have e2 : l = (l.drop 0).take 17 ++ (l.drop 17).take 1 := by
    have : (l.drop 17).take 1 = l.drop 17 := List.take_of_length_le (by simp; omega)
    rw [this, List.drop_zero, List.take_append_drop]
  rw [e2, e1, h2]
theorem open_pref {H : Type} {enc : TypeId × Value → H} {W : World} {base : Nat} {spare : Nat → Bool} {v : Value} {d : DataW H} {ps : List MemPlace}
    (hok : Value.okWide Tryd.prog W .any base 27 v) (h : DataW.Trod enc Tryd.prog W 0 spare true 27 v d ps) :
    ∃ (f : Int) (bs : List Nat) (n : Int), v = prefV f bs n ∧ (Lit.int .i64 f).wf = true ∧ bs.length = 16 ∧ (∀ x ∈ bs, x < 256) ∧ (Lit.int .i64 n).wf = true := by
  have hs := Tryd.underlying27
  obtain ⟨cs, rfl, hsz, _⟩ : ∃ cs, v = .agg cs ∧ cs.size = Tryd.prog.cellsOf 27 ∧ Row.okWide Tryd.prog W .any base 27 cs := by
    simpa [Value.okWide, hs] using hok
  rw [show Tryd.prog.cellsOf 27 = 18 by kernel_rfl] at hsz
  obtain ⟨fuel, hf⟩ := h
  have e0 : (Value.cells (.agg cs)).toList = cs.toList := rfl
  rw [e0] at hf
  obtain ⟨f, bs, n, e1, h1, h2, h3, h4⟩ := pref_of_trod (by simpa using hsz) hf
  refine ⟨f, bs, n, ?_, h1, h2, h3, h4⟩
  unfold prefV
  rw [← e1]
end Go.Proofs.YtgbajagacmfcmaaDoor
/- Rows of deeds (abatislaw06.Deed) and of addresses that came in, opened. -/
namespace Go.Proofs.YtgbajagacmfcmaaDoor
open Go.ChangeShapes Go.WideShapes Go.ChangeAt Go.RowKit
set_option linter.unusedVariables false
set_option maxRecDepth 20000

/-- A deed. -/
structure DeedD where
  kind : Int
  f : Int
  b : List Nat
  n : Int
  v : Int
  raw : Bool
def DeedD.L (d : DeedD) : List Value := [Value.int .i64 d.kind] ++ prefL d.f d.b d.n ++ [Value.int .i64 d.v] ++ [Value.bool d.raw]
def DeedD.Ok (d : DeedD) : Prop := (Lit.int .i64 d.kind).wf = true ∧ d.b.length = 16 ∧ (∀ x ∈ d.b, x < 256) ∧ (Lit.int .i64 d.n).wf = true ∧ (Lit.int .i64 d.v).wf = true
theorem DeedD.L_len (d : DeedD) (h : d.b.length = 16) : d.L.length = 21 := by simp [DeedD.L, prefL_len _ _ _ h]
/-- A row of deeds, as a walk reads it. -/
def DeedsAt (W : World) (a : Option Addr) (len cap : Nat) (D : List DeedD) : Prop := len ≤ cap ∧ cap ≤ maxLen ∧ D.length = len ∧ (∀ d ∈ D, d.Ok) ∧ (len = 0 ∨ ∃ g o, a = some ⟨g, o, none⟩ ∧ W.rangeAt g o (D.flatMap DeedD.L) ∧ g < W.heap.size)
/-- A row of addresses. -/
def AddrsAt (W : World) (a : Option Addr) (len cap : Nat) (D : List (Int × List Nat)) : Prop := len ≤ cap ∧ cap ≤ maxLen ∧ D.length = len ∧ (∀ d ∈ D, d.2.length = 16 ∧ ∀ x ∈ d.2, x < 256) ∧ (len = 0 ∨ ∃ g o, a = some ⟨g, o, none⟩ ∧ W.rangeAt g o (D.flatMap fun d => addrL d.1 d.2) ∧ g < W.heap.size)
end Go.Proofs.YtgbajagacmfcmaaDoor
/- What a thing of one's own may turn: the blocks of its footprint, and new ones. -/
namespace Go.Proofs.YtgbajagacmfcmaaDoor
open Go.RowKit
set_option linter.unusedVariables false
set_option maxRecDepth 20000

/-- Nothing but the blocks of F has turned; F' holds such as were in F, and new ones. -/
structure Foot (F F' : List Nat) (w w' : World) : Prop where
  os : w'.os = w.os
  tape : w'.tape = w.tape
  output : w'.output = w.output
  size : w.heap.size ≤ w'.heap.size
  keep : ∀ k, k < w.heap.size → k ∉ F → w'.heap[k]? = w.heap[k]?
  new : ∀ k ∈ F', k ∈ F ∨ w.heap.size ≤ k
theorem Foot.ofBelow (F : List Nat) {w w' : World} (h : Below w.heap.size w w') : Foot F F w w' := ⟨h.os, h.tape, h.output, h.size, fun k hk _ => h.block k hk, fun k hk => .inl hk⟩
theorem Foot.trans {F F' F'' : List Nat} {a b c : World} (h : Foot F F' a b) (k : Foot F' F'' b c) : Foot F F'' a c :=
  ⟨k.os.trans h.os, k.tape.trans h.tape, k.output.trans h.output, Nat.le_trans h.size k.size, fun i hi hn => (k.keep i (Nat.lt_of_lt_of_le hi h.size) (fun e => by
    rcases h.new i e with e | e
    · exact hn e
    · omega)).trans (h.keep i hi hn), fun i hi => by
    rcases k.new i hi with e | e
    · exact h.new i e
    · exact .inr (Nat.le_trans h.size e)⟩
theorem Foot.below {F F' : List Nat} {w w' : World} {B : Nat} (h : Foot F F' w w') (hF : ∀ k ∈ F, B ≤ k) (hB : B ≤ w.heap.size) : Below B w w' :=
  ⟨h.os, h.tape, h.output, h.size, fun k hk => h.keep k (by omega) (fun e => by have := hF k e; omega)⟩
theorem Foot.out {F F' : List Nat} {w w' : World} (h : Foot F F' w w') {k : Nat} (hk : k < w.heap.size) (hn : k ∉ F) : k ∉ F' := fun e => by
  rcases h.new k e with e | e
  · exact hn e
  · omega
theorem range_foot {F F' : List Nat} {w w' : World} (h : Foot F F' w w') {G o : Nat} {cs : List Value} (hr : w.rangeAt G o cs) (hk : G < w.heap.size) (hn : G ∉ F) : w'.rangeAt G o cs := fun j u hu => by
  rw [World.cell?_of_block (w := w) (a := ⟨G, o + j, none⟩) (h.keep G hk hn)]; exact hr j u hu
theorem PrefAt.foot {F F' : List Nat} {w w' : World} {G : Nat} {f : Int} {bs : List Nat} {n : Int} (hp : PrefAt w G f bs n) (h : Foot F F' w w') (hn : G ∉ F) : PrefAt w' G f bs n :=
  PrefAt.ofRange hp.addr.len (Nat.lt_of_lt_of_le hp.addr.lt h.size) (range_foot h hp.range hp.addr.lt hn) (fun j hj => by
    rw [World.cell?_of_block (w := w) (a := ⟨G, 0 + j, none⟩) (h.keep G hp.addr.lt hn), World.frozen?_of_block (w := w) (a := ⟨G, 0 + j, none⟩) (h.keep G hp.addr.lt hn)]
    exact hp.there j hj)
/-- A row's block is none of the footprint's. -/
def NotIn (v : Value) (F : List Nat) : Prop := ∀ g, v.ownBlock = some g → g ∉ F
theorem RowE.foot {F F' : List Nat} {w w' : World} {base : Nat} {v : Value} {es : List Ent} (hr : RowE w base v es) (h : Foot F F' w w') (hn : NotIn v F) : RowE w' base v es := by
  obtain ⟨⟨h1, h2⟩, h3⟩ := hr
  refine ⟨⟨h1, ?_⟩, h3⟩
  rcases h2 with h2 | ⟨g, cap, cur, e1, e2, e3, e4⟩
  · exact .inl h2
  · refine .inr ⟨g, cap, cur, e1, e2, ?_, e4⟩
    have hlt : g < w.heap.size := by
      apply Classical.byContradiction
      intro h
      rw [Array.getElem?_eq_none (by omega)] at e3
      cases e3
    rw [h.keep g hlt (hn g (by rw [e1]; rfl))]
    exact e3
theorem RowE.blockLt {w : World} {base : Nat} {v : Value} {es : List Ent} (hr : RowE w base v es) : ∀ g, v.ownBlock = some g → base ≤ g ∧ g < w.heap.size := fun g hg => hr.1.lt g hg
theorem NotIn.foot {F F' : List Nat} {w w' : World} {base : Nat} {v : Value} {es : List Ent} (hn : NotIn v F) (hr : RowE w base v es) (h : Foot F F' w w') : NotIn v F' := fun g hg => h.out (hr.blockLt g hg).2 (hn g hg)
/-- A fresh row is not in an older footprint. -/
theorem NotIn.fresh {F : List Nat} {w w' : World} {v : Value} {es : List Ent} (hr : RowE w' w.heap.size v es) (hF : ∀ k ∈ F, k < w.heap.size) : NotIn v F := fun g hg e => by
  have h1 := (hr.blockLt g hg).1
  have h2 := hF g e
  omega
theorem blk_cells (b : Nat) : ∀ (vs : List Value) (o : Nat) (w : World) (k : Nat), k ≠ b → (w.setCells b o vs).heap[k]? = w.heap[k]?
  | [], _, _, _, _ => rfl
  | v :: r, o, w, k, h => by rw [World.setCells, blk_cells b r _ _ k h]; simp [World.setCell, Array.getElem?_modify, Ne.symm h]
/-- A store into a block: its footprint is that block. -/
theorem foot_cells {w : World} (b o : Nat) (vs : List Value) : Foot [b] [b] w (w.setCells b o vs) := by
  have hb : Below 0 w (w.setCells b o vs) := below_cells (Nat.zero_le _) _ _ _ (Below.refl _ _)
  exact ⟨hb.os, hb.tape, hb.output, hb.size, fun k _ hn => blk_cells b vs o w k (fun e => hn (by simp [e])), fun k hk => .inl hk⟩
def deedV (d : DeedD) : Value := .agg d.L.toArray
/-- The prefix of a deed. -/
def deedF (d : DeedD) : Int := if d.raw = true then d.f else goodF d.f
def deedB (d : DeedD) : List Nat := if d.raw = true then d.b else goodP d.f d.b d.n
def deedN (d : DeedD) : Int := if d.raw = true then d.n else (goodN d.f d.n : Int)
/-- What there is behind a deed. -/
def doE (es : List Ent) (d : DeedD) : List Ent := if d.kind = 0 then setE es (deedF d) (deedB d) (deedN d) d.v else if d.kind = 1 then dropE es (deedF d) (deedB d) (deedN d) else es
theorem doE_len (es : List Ent) (d : DeedD) : (doE es d).length ≤ es.length + 1 := by
  unfold doE
  split
  · unfold setE
    split
    · unfold insE
      have h1 := posE_le (dropE es (deedF d) (deedB d) (deedN d)) (deedF d) (deedB d) ((deedN d).toNat : Int) (dropE es (deedF d) (deedB d) (deedN d)).length
      have h2 := dropE_len es (deedF d) (deedB d) (deedN d)
      simp only [List.length_append, List.length_take, List.length_drop, List.length_singleton]
      omega
    · omega
  · split
    · have := dropE_len es (deedF d) (deedB d) (deedN d); omega
    · omega
section
variable {w : World} {G o : Nat} {d : DeedD}
theorem deed_kind (h : w.rangeAt G o d.L) : w.cell? ⟨G, o, none⟩ = some (.int .i64 d.kind) := h 0 _ rfl
theorem deed_pref (h : w.rangeAt G o d.L) (hl : d.b.length = 16) : w.rangeAt G (o + 1) (prefL d.f d.b d.n) := fun j u hu => by
  have hj : j < (prefL d.f d.b d.n).length := by
    apply Classical.byContradiction
    intro h2
    rw [List.getElem?_eq_none (by omega)] at hu
    cases hu
  have hp := prefL_len d.f d.b d.n hl
  have := h (1 + j) u (by
    unfold DeedD.L
    rw [List.getElem?_append_left (by simp; omega), List.getElem?_append_left (by simp; omega), List.getElem?_append_right (by simp), List.length_singleton, Nat.add_sub_cancel_left]
    exact hu)
  rw [← Nat.add_assoc] at this
  exact this
theorem deed_val (h : w.rangeAt G o d.L) (hl : d.b.length = 16) : w.cell? ⟨G, o + 19, none⟩ = some (.int .i64 d.v) := h 19 _ (by
  have hp := prefL_len d.f d.b d.n hl
  unfold DeedD.L
  rw [List.getElem?_append_left (by simp; omega), List.getElem?_append_right (by simp; omega), List.length_append, List.length_singleton, hp]
  rfl)
theorem deed_raw (h : w.rangeAt G o d.L) (hl : d.b.length = 16) : w.cell? ⟨G, o + 20, none⟩ = some (.bool d.raw) := h 20 _ (by
  have hp := prefL_len d.f d.b d.n hl
  unfold DeedD.L
  rw [List.getElem?_append_right (by simp; omega), List.length_append, List.length_append, List.length_singleton, List.length_singleton, hp]
  rfl)
end
end Go.Proofs.YtgbajagacmfcmaaDoor
/- A row of table.Entry (a prefix and a value: 19 cells each), as a walk reads it: the reference's row (ERow, EntKit, AppE, TabFoot) at the table's own type. -/
namespace Go.Proofs.YtgbajagacmfcmaaDoor
open Go.RowKit
set_option linter.unusedVariables false
set_option maxRecDepth 20000

/-- A row of entries. -/
def RowT (w : World) (base : Nat) (v : Value) (es : List Ent) : Prop := w.ownsRow base 36 19 v es.length (flatE es) ∧ AllGood es ∧ es.length ≤ 1000
theorem RowT.below {w w' : World} {base : Nat} {v : Value} {es : List Ent} (h : RowT w base v es) (hb : Below w.heap.size w w') : RowT w' base v es := by
  obtain ⟨⟨h1, h2⟩, h3⟩ := h
  refine ⟨⟨h1, ?_⟩, h3⟩
  rcases h2 with h2 | ⟨g, cap, cur, e1, e2, e3, e4⟩
  · exact .inl h2
  · refine .inr ⟨g, cap, cur, e1, e2, ?_, e4⟩
    have hlt : g < w.heap.size := by
      apply Classical.byContradiction
      intro h
      rw [Array.getElem?_eq_none (by omega)] at e3
      cases e3
    rw [hb.block g hlt]
    exact e3
theorem RowT.nil (w : World) (base : Nat) : RowT w base (.slice none 0 0) [] := ⟨World.ownsRow_nil _ _ _ _, (fun e h => absurd h (by simp)), by decide⟩
theorem RowT.mono {w : World} {base base' : Nat} {v : Value} {es : List Ent} (h : RowT w base v es) (hb : base' ≤ base) : RowT w base' v es := by
  obtain ⟨⟨h1, h2⟩, h3⟩ := h
  refine ⟨⟨h1, ?_⟩, h3⟩
  rcases h2 with h2 | ⟨g, cap, cur, e1, e2, e3⟩
  · exact .inl h2
  · exact .inr ⟨g, cap, cur, e1, by omega, e3⟩
/-- How it reads: nil and empty, or cells of a block. -/
theorem RowT.form {w : World} {base : Nat} {v : Value} {es : List Ent} (h : RowT w base v es) : (v = .slice none 0 0 ∧ es = []) ∨ ∃ g cap, v = .slice (some ⟨g, 0, none⟩) es.length cap ∧ base ≤ g ∧ g < w.heap.size ∧ es.length ≤ cap ∧ cap ≤ maxLen ∧ w.rangeAt g 0 (flatE es) := by
  obtain ⟨hr, hg, hle⟩ := h
  obtain ⟨h1, h2⟩ := hr
  rcases h2 with ⟨e1, e2⟩ | ⟨g, cap, cur, e1, e2, e3, e4, e5, e6, e7⟩
  · exact .inl ⟨e1, List.eq_nil_of_length_eq_zero e2⟩
  · refine .inr ⟨g, cap, e1, e2, ?_, e4, e5, fun j u hu => ?_⟩
    · apply Classical.byContradiction
      intro h
      rw [Array.getElem?_eq_none (by omega)] at e3
      cases e3
    · rw [Nat.zero_add, cell_of_row w g j cur _ _ e3, ← Array.getElem?_toList]
      rw [← e7, List.getElem?_take] at hu
      split at hu
      · exact hu
      · cases hu
theorem entT_size : (Tryd.prog.info? 36).map (·.size) = some 19 := by kernel_rfl
theorem entT_zeroed (w : World) : EntAt (w.alloc (.cells zE 36)) w.heap.size 0 (List.replicate 16 0) 0 0 := EntAt.of w _ _ 0 _ 0 0 rfl rfl
/-- An entry, loaded whole from wherever it lies. -/
theorem load_entT_o {ops : Array Oper} {rest : List Oper} {op : Oper} {a : Act} {w : World} {Q : Exit → Act → World → Prop} {G o : Nat} {f : Int} {bs : List Nat} {n v : Int} (hl : Hid (bs.length = 16)) (hA : Hid (w.rangeAt G o (entL f bs n v))) (x : Operand) (hw : Region.wanted op (yielded ops a.tmps) = true) (ho : op.op = .load 36 x)
    (hx : a.eval x = .pointer (some ⟨G, o, none⟩)) (h : wpList Tryd.prog ops Q rest (a.put op.dst (entV f bs n v)) w) : wpList Tryd.prog ops Q (op :: rest) a w :=
  wpList_load_row hw 36 x ho G o hx (entL f bs n v) _ hA.out Tryd.underlying36 rfl (by rw [entT_size, entL_len f bs n v hl.out]) h
/-- An entry, stored whole. -/
theorem store_entT {ops : Array Oper} {rest : List Oper} {op : Oper} {a : Act} {w : World} {Q : Exit → Act → World → Prop} {G : Nat} {g : Int} {bs0 : List Nat} {n0 v0 : Int} (hA : Hid (EntAt w G g bs0 n0 v0)) (x y : Operand) {f : Int} {bs : List Nat} {n v : Int} (hl : Hid (bs.length = 16)) (hgd : op.guard = none) (ho : op.op = .store 36 x y)
    (hx : a.eval x = .pointer (some ⟨G, 0, none⟩)) (hy : a.eval y = entV f bs n v) (h : ∀ W, Hid (W = w.setCells G 0 (entL f bs n v)) → Hid (EntAt W G f bs n v) → wpList Tryd.prog ops Q rest (a.put op.dst undef) W) : wpList Tryd.prog ops Q (op :: rest) a w :=
  wpList_store_mid hgd 36 x y ho G 0 (entL f bs n v).toArray hx hy (by rw [List.size_toArray, entL_len f bs n v hl.out]; exact hA.out.there) (by rw [entT_size, List.size_toArray, entL_len f bs n v hl.out]) (entL_one f bs n v) (h _ (Lib.hid rfl) (Lib.hid (hA.out.stored f bs n v hl.out)))
theorem loadVar_entT {w : World} {G : Nat} {f : Int} {bs : List Nat} {n v : Int} (h : EntAt w G f bs n v) : (loadVar 36 ⟨G, 0, none⟩).run Tryd.prog w = .ok (entV f bs n v) w :=
  run_loadVar_mid w G 0 36 (entL f bs n v) _ h.range Tryd.underlying36 rfl (by rw [entT_size, entL_len f bs n v h.len])
theorem results_entT2 {fn : Func} {a t : Tmp} {tmps : Array Value} {W : World} {R : Nat} {f : Int} {bs : List Nat} {n v : Int} (h : fn.results = #[.cell a 36, .tmp t]) (ha : tmps.getD a undef = .pointer (some ⟨R, 0, none⟩)) (hA : EntAt W R f bs n v) : (results fn tmps).run Tryd.prog W = .ok (.tuple #[entV f bs n v, tmps.getD t undef]) W := by
  rw [Array.getD_eq_getD_getElem?] at ha
  simp [results, h, ha, asAddr, loadVar_entT hA]
/-- An entry, built of a prefix and a value; one of zeros. -/
theorem built_entT (f : Int) (bs : List Nat) (n v : Int) (h16 : bs.length = 16) : Tryd.prog.built 36 [(0, prefV f bs n), (1, .int .i64 v)] = some (entL f bs n v).toArray := by
  obtain ⟨y0, y1, y2, y3, y4, y5, y6, y7, y8, y9, y10, y11, y12, y13, y14, y15, rfl⟩ := list16 bs h16
  kernel_rfl
theorem built_entT0 : Tryd.prog.built 36 [] = some (entL 0 (List.replicate 16 0) 0 0).toArray := rfl
theorem build_entT {ops : Array Oper} {rest : List Oper} {op : Oper} {a : Act} {w : World} {Q : Exit → Act → World → Prop} {f : Int} {bs : List Nat} {n v : Int} (hl : Hid (bs.length = 16)) (hg : op.guard = none) (x y : Operand) (ho : op.op = .build 36 #[(0, x), (1, y)])
    (hx : a.eval x = prefV f bs n) (hy : a.eval y = .int .i64 v) (h : wpList Tryd.prog ops Q rest (a.put op.dst (entV f bs n v)) w) : wpList Tryd.prog ops Q (op :: rest) a w := by
  have e : Tryd.prog.built 36 ((#[(0, x), (1, y)] : Array (Nat × Operand)).map fun (i, x) => (i, a.eval x)).toList = some (entL f bs n v).toArray := by
    simp only [List.map_toArray, List.map_cons, List.map_nil]
    rw [hx, hy]; exact built_entT f bs n v hl.out
  refine wpList_build hg 36 _ ho (by rw [e]; rfl) ?_
  rw [e]
  exact h
theorem build_entT0 {ops : Array Oper} {rest : List Oper} {op : Oper} {a : Act} {w : World} {Q : Exit → Act → World → Prop} (hg : op.guard = none) (ho : op.op = .build 36 #[])
    (h : wpList Tryd.prog ops Q rest (a.put op.dst (entV 0 (List.replicate 16 0) 0 0)) w) : wpList Tryd.prog ops Q (op :: rest) a w := by
  have e : Tryd.prog.built 36 ((#[] : Array (Nat × Operand)).map fun (i, x) => (i, a.eval x)).toList = some (entL 0 (List.replicate 16 0) 0 0).toArray := by
    simp only [List.map_toArray, List.map_nil]
    exact built_entT0
  refine wpList_build hg 36 _ ho (by rw [e]; rfl) ?_
  rw [e]
  exact h
theorem infoT : (Tryd.prog.info? 36).map (fun i => (i.zero, i.size, i.bytes)) = some (some (.agg zE), 19, 40) := by kernel_rfl
theorem RowT.kept {w w' : World} {base : Nat} {v : Value} {es : List Ent} {row : Option Nat} (h : RowT w base v es) (hg : w.grownBy w' row) (hne : v.ownBlock = none ∨ v.ownBlock ≠ row) : RowT w' base v es := ⟨h.1.kept hg hne, h.2⟩
theorem below_grownT {w0 w w' : World} {v : Value} {es : List Ent} (hb : Below w0.heap.size w0 w) (hE : RowT w w0.heap.size v es) (hg : w.grownBy w' v.ownBlock) : Below w0.heap.size w0 w' :=
  hb.grown hg hb.size (fun k hk => (hE.1.lt k hk).1)
/-- Entries that lie somewhere are appended. -/
theorem append_entsT {ops : Array Oper} {rest : List Oper} {op : Oper} {a : Act} {w : World} {Q : Exit → Act → World → Prop} {base : Nat} {v : Value} {es : List Ent} (hE : Hid (RowT w base v es)) (s x : Operand) (hgd : op.guard = none) (ho : op.op = .call { callee := .builtin .append, args := #[s, x], argTypes := #[22, 22] })
    (hs : a.eval s = v) {G o m c : Nat} (ys : List Ent) (hx : a.eval x = .slice (some ⟨G, o, none⟩) m c) (hm : Hid (m = ys.length)) (hr : Hid (w.rangeAt G o (flatE ys))) (hy : Hid (AllGood ys)) (hle : Hid (es.length + ys.length ≤ 1000)) (hbase : Hid (base ≤ w.heap.size))
    (h : ∀ v' w', Hid (RowT w' base v' (es ++ ys)) → Hid (w.grownBy w' v.ownBlock) → Hid (v'.ownBlock = v.ownBlock ∨ v'.ownBlock = some w.heap.size) → wpList Tryd.prog ops Q rest (a.put op.dst v') w') : wpList Tryd.prog ops Q (op :: rest) a w := by
  obtain ⟨i0, hi0, hz0, hz1, hz2⟩ := info_parts infoT
  have hml := hm.out
  have hll := hle.out
  refine wpList_append_own_at w hgd s x 22 ho base 36 i0 _ 19 40 Tryd.underlying22 hi0 hz0 hz1 hz2 rfl (by decide) v es.length (flatE es) hs hE.out.1 ⟨G, o, none⟩ m c (flatE ys) hx (by rw [flatE_len ys hy.out, hml]) (fun j u hu => ?_) (flatE_one ys hy.out) (by unfold maxLen; omega) (by omega) hbase.out (fun v' w' h1 h2 _ h4 => ?_)
  · have := hr.out j u hu
    have hadd : (⟨G, o, none⟩ : Addr).add j = ⟨G, o + j, none⟩ := by unfold Addr.add; split <;> simp_all
    rw [hadd]
    exact this
  · refine h v' w' (Lib.hid ⟨?_, ?_, ?_⟩) (Lib.hid h2) (Lib.hid h4)
    · rw [List.length_append, flatE_append, ← hml]; exact h1
    · intro e he
      rcases List.mem_append.1 he with he | he
      · exact hE.out.2.1 e he
      · exact hy.out e he
    · rw [List.length_append]; exact hll
theorem append_noneT {ops : Array Oper} {rest : List Oper} {op : Oper} {a : Act} {w : World} {Q : Exit → Act → World → Prop} {base : Nat} {v : Value} {es : List Ent} (hE : Hid (RowT w base v es)) (s x : Operand) (hgd : op.guard = none) (ho : op.op = .call { callee := .builtin .append, args := #[s, x], argTypes := #[22, 22] })
    (hs : a.eval s = v) (hx : a.eval x = .slice none 0 0) (h : wpList Tryd.prog ops Q rest (a.put op.dst v) w) : wpList Tryd.prog ops Q (op :: rest) a w := by
  obtain ⟨i0, hi0, _⟩ := info_parts infoT
  refine wpList_plain hgd fun K hK => ?_
  have hr := run_append_owned_none (P := Tryd.prog) w base 22 op.type 36 i0 19 Tryd.underlying22 hi0 v es.length (flatE es) hE.out.1
  unfold Oper.wp execOp
  simp only [ho, resolve, invoke, builtin, Sem.run_bind, Sem.run_pure, Result.andThen_ok, List.map_toArray, List.map_cons, List.map_nil, hs, hx, hr]
  exact hK _ _ h
theorem run_buildT (f : Int) (bs : List Nat) (n v : Int) (w : World) (h16 : bs.length = 16) : (Instr.buildSlice 22 1 #[(0, entV f bs n v)]).run Tryd.prog w = .ok (.slice (some ⟨w.heap.size, 0, none⟩) 1 1) (w.alloc (.cells (entL f bs n v).toArray 36)) := by
  obtain ⟨i0, hi0, hz0, hz1, hz2⟩ := info_parts infoT
  have hf := fillE f bs n v h16
  obtain ⟨Z, hZ⟩ : ∃ Z : Array Value, zE = Z := ⟨_, rfl⟩
  rw [hZ] at hf hz0
  have hsz : (sizeOf 36).run Tryd.prog w = .ok 19 w := by simp [sizeOf, typeInfo, hi0, hz1]
  have hzv : (zeroValue 36).run Tryd.prog w = .ok (.agg Z) w := by simp [zeroValue, typeInfo, hi0, hz0]
  have hnr : ∀ cs : Array Value, (newRow 36 cs).run Tryd.prog w = .ok ⟨w.heap.size, 0, none⟩ (w.alloc (.cells cs 36)) := fun cs => by simp [newRow]
  have hu : (underlying 22).run Tryd.prog w = .ok _ w := run_underlying Tryd.underlying22 w
  have hfc : Instr.fill (fun i => some (i * 19, 19)) ((Array.range (1 * 19)).map fun j => (Value.agg Z).cells[j % (Value.agg Z).cells.size]!) (#[(0, entV f bs n v)] : Array (Nat × Value)).toList = some (entL f bs n v).toArray := hf
  unfold Instr.buildSlice
  simp only [Sem.run_bind, hu, Result.andThen_ok, hsz, if_neg (show ¬ (1 * 19 > 2 ^ 24) by decide), Sem.run_pure, if_neg (show ¬ (1 * 19 = 0) by decide), hzv, hfc, hnr]
theorem build_entST {ops : Array Oper} {rest : List Oper} {op : Oper} {a : Act} {w : World} {Q : Exit → Act → World → Prop} {f : Int} {bs : List Nat} {n v : Int} (hl : Hid (bs.length = 16)) (hg : op.guard = none) (x : Operand) (ho : op.op = .buildSlice 22 1 #[(0, x)])
    (hx : a.eval x = entV f bs n v) (h : ∀ W, Hid (W = w.alloc (.cells (entL f bs n v).toArray 36)) → wpList Tryd.prog ops Q rest (a.put op.dst (.slice (some ⟨w.heap.size, 0, none⟩) 1 1)) W) : wpList Tryd.prog ops Q (op :: rest) a w := by
  refine wpList_plain hg fun K hK => ?_
  unfold Oper.wp execOp
  simp only [ho, List.map_toArray, List.map_cons, List.map_nil, hx, Sem.run_bind, run_buildT f bs n v w hl.out, Result.andThen_ok]
  exact hK _ _ (h _ (Lib.hid rfl))
theorem RowT.foot {F F' : List Nat} {w w' : World} {base : Nat} {v : Value} {es : List Ent} (hr : RowT w base v es) (h : Foot F F' w w') (hn : NotIn v F) : RowT w' base v es := by
  obtain ⟨⟨h1, h2⟩, h3⟩ := hr
  refine ⟨⟨h1, ?_⟩, h3⟩
  rcases h2 with h2 | ⟨g, cap, cur, e1, e2, e3, e4⟩
  · exact .inl h2
  · refine .inr ⟨g, cap, cur, e1, e2, ?_, e4⟩
    have hlt : g < w.heap.size := by
      apply Classical.byContradiction
      intro h
      rw [Array.getElem?_eq_none (by omega)] at e3
      cases e3
    rw [h.keep g hlt (hn g (by rw [e1]; rfl))]
    exact e3
theorem RowT.blockLt {w : World} {base : Nat} {v : Value} {es : List Ent} (hr : RowT w base v es) : ∀ g, v.ownBlock = some g → base ≤ g ∧ g < w.heap.size := fun g hg => hr.1.lt g hg
theorem NotIn.footT {F F' : List Nat} {w w' : World} {base : Nat} {v : Value} {es : List Ent} (hn : NotIn v F) (hr : RowT w base v es) (h : Foot F F' w w') : NotIn v F' := fun g hg => h.out (hr.blockLt g hg).2 (hn g hg)
/-- A fresh row is not in an older footprint. -/
theorem NotIn.freshT {F : List Nat} {w w' : World} {v : Value} {es : List Ent} (hr : RowT w' w.heap.size v es) (hF : ∀ k ∈ F, k < w.heap.size) : NotIn v F := fun g hg e => by
  have h1 := (hr.blockLt g hg).1
  have h2 := hF g e
  omega
end Go.Proofs.YtgbajagacmfcmaaDoor
/- A row's block, cell by cell: copies of entries, cleared entries. -/
namespace Go.Proofs.YtgbajagacmfcmaaDoor
open Go.RowKit
set_option linter.unusedVariables false
set_option maxRecDepth 20000

/-- A block of c cells of entries. -/
def Blk (w : World) (g c : Nat) : Prop := ∃ cur : Array Value, w.heap[g]? = some (.cells cur 36 (0, 0)) ∧ cur.size = c
section
variable {w w' : World} {g c : Nat}
theorem Blk.lt (h : Blk w g c) : g < w.heap.size := by
  obtain ⟨cur, h1, _⟩ := h
  exact (Array.getElem?_eq_some_iff.1 h1).1
theorem Blk.same (h : Blk w g c) (e : w'.heap[g]? = w.heap[g]?) : Blk w' g c := by
  obtain ⟨cur, h1, h2⟩ := h
  exact ⟨cur, e.trans h1, h2⟩
theorem Blk.there (h : Blk w g c) (o n : Nat) (hn : o + n ≤ c) : w.there g o n := fun j hj => by
  obtain ⟨cur, h1, h2⟩ := h
  refine ⟨?_, ?_⟩
  · rw [cell_of_row w g (o + j) cur _ _ h1, Array.getElem?_eq_getElem (by omega)]; rfl
  · simp [World.frozen?, h1]
theorem Blk.setCell (h : Blk w g c) (b o : Nat) (v : Value) : Blk (w.setCell ⟨b, o, none⟩ v) g c := by
  obtain ⟨cur, h1, h2⟩ := h
  by_cases e : g = b
  · subst e
    obtain ⟨hlt, hk⟩ := Array.getElem?_eq_some_iff.1 h1
    refine ⟨cur.setIfInBounds o v, ?_, by simp [h2]⟩
    show (w.heap.modify g _)[g]? = _
    rw [Array.getElem?_eq_getElem (by rw [Array.size_modify]; exact hlt), Array.getElem_modify_self, hk]
    rfl
  · exact ⟨cur, (Below.heap_setCell w ⟨b, o, none⟩ v g e).trans h1, h2⟩
theorem Blk.setCells (b : Nat) : ∀ (vs : List Value) (o : Nat) (w : World), Blk w g c → Blk (w.setCells b o vs) g c
  | [], _, _, h => h
  | v :: r, o, w, h => Blk.setCells b r (o + 1) _ (h.setCell b o v)
end
theorem range_append {w : World} {b o : Nat} {xs ys : List Value} (h1 : w.rangeAt b o xs) (h2 : w.rangeAt b (o + xs.length) ys) : w.rangeAt b o (xs ++ ys) := fun j u hu => by
  by_cases hj : j < xs.length
  · exact h1 j u (by rwa [List.getElem?_append_left hj] at hu)
  · rw [List.getElem?_append_right (by omega)] at hu
    have := h2 (j - xs.length) u hu
    rw [show o + xs.length + (j - xs.length) = o + j by omega] at this
    exact this
theorem rowT_of {w : World} {g cap : Nat} {es : List Ent} (hb : Blk w g (cap * 19)) (hl : es.length ≤ cap) (hm : cap ≤ maxLen) (hr : w.rangeAt g 0 (flatE es)) (hg : AllGood es) (hle : es.length ≤ 1000) : RowT w 0 (.slice (some ⟨g, 0, none⟩) es.length cap) es := by
  obtain ⟨cur, h1, h2⟩ := hb
  have hf := flatE_len es hg
  refine ⟨⟨hf, .inr ⟨g, cap, cur, rfl, Nat.zero_le _, h1, hl, hm, h2, ?_⟩⟩, hg, hle⟩
  apply List.ext_getElem?
  intro j
  by_cases hj : j < es.length * 19
  · rw [List.getElem?_take, if_pos hj, Array.getElem?_toList]
    have h3 : j < (flatE es).length := by omega
    have := hr j _ (List.getElem?_eq_getElem h3)
    rw [Nat.zero_add, cell_of_row w g j cur _ _ h1] at this
    rw [this, List.getElem?_eq_getElem h3]
  · rw [List.getElem?_take, if_neg hj, List.getElem?_eq_none (by omega)]
theorem RowT.blk {w : World} {base : Nat} {v : Value} {es : List Ent} (h : RowT w base v es) : (v = .slice none 0 0 ∧ es = []) ∨ ∃ g cap, v = .slice (some ⟨g, 0, none⟩) es.length cap ∧ base ≤ g ∧ Blk w g (cap * 19) ∧ es.length ≤ cap ∧ cap ≤ maxLen ∧ w.rangeAt g 0 (flatE es) := by
  rcases h.form with h1 | ⟨g, cap, e1, e2, e3, e4, e5, e6⟩
  · exact .inl h1
  · refine .inr ⟨g, cap, e1, e2, ?_, e4, e5, e6⟩
    rcases h.1.2 with ⟨h2, _⟩ | ⟨g', cap', cur, f1, _, f3, _, _, f6, _⟩
    · rw [e1] at h2; cases h2
    · rw [e1] at f1
      cases f1
      exact ⟨cur, f3, f6⟩
/-- Entries copied. -/
theorem copyT (w : World) (ty : TypeId) (b o dLen dCap : Nat) (a : Addr) (sLen sCap n : Nat) (cs : List Value) (hn : n = Nat.min sLen dLen) (hl : cs.length = n * 19)
    (hsrc : ∀ j v, cs[j]? = some v → w.cell? (a.add j) = some v) (ht : w.there b o (n * 19)) (h1 : ∀ v ∈ cs, v.oneCell' = true) :
    (Builtin.copy_ #[22, 22] ty #[.slice (some ⟨b, o, none⟩) dLen dCap, .slice (some a) sLen sCap]).run Tryd.prog w = .ok (goInt n) (w.setCells b o cs) := by
  have hl2 := run_loadCells_list (P := Tryd.prog) w a cs hsrc
  have hst := run_storeCells_cells (P := Tryd.prog) b o cs 0 w (fun j hj => by simpa using (ht j (by omega)).1) (fun j hj => by simpa using (ht j (by omega)).2) h1
  rw [hl] at hl2
  cases hq : Tryd.prog.info? 36 with
  | none => have := entT_size; rw [hq] at this; cases this
  | some i =>
    have hi : i.size = 19 := by have := entT_size; rw [hq] at this; simpa using this
    simp [Builtin.copy_, run_underlying Tryd.underlying22, Builtin.lenOf, Builtin.firstCells, sizeOf, typeInfo, hq, hi, ← hn, hl2, hst]
/-- An operation that copies, whose run is known. -/
theorem wp_copyT (w : World) {o : Oper} {a : Act} {K : Act → World → Prop} {Q : Exit → Act → World → Prop} (d s : Operand)
    (ho : o.op = .call { callee := .builtin .copy, args := #[d, s], argTypes := #[22, 22] }) (v u : Value) (hd : a.eval d = v) (hs : a.eval s = u) {v' : Value} {w' : World}
    (hr : (Builtin.copy_ #[22, 22] o.type #[v, u]).run Tryd.prog w = .ok v' w') (h : K (a.put o.dst v') w') : o.wp Tryd.prog a w K Q := by
  unfold Oper.wp execOp
  simp only [ho, resolve, invoke, builtin, Sem.run_bind, Sem.run_pure, Result.andThen_ok, List.map_toArray, List.map_cons, List.map_nil, hd, hs, hr]
  exact h
theorem copy_stepT (w : World) {ops : Array Oper} {rest : List Oper} {o : Oper} {a : Act} {Q : Exit → Act → World → Prop} (hgd : o.guard = none) (d s : Operand)
    (ho : o.op = .call { callee := .builtin .copy, args := #[d, s], argTypes := #[22, 22] }) (v u : Value) (hd : a.eval d = v) (hs : a.eval s = u) {v' : Value} {w' : World}
    (hr : (Builtin.copy_ #[22, 22] o.type #[v, u]).run Tryd.prog w = .ok v' w') (h : wpList Tryd.prog ops Q rest (a.put o.dst v') w') : wpList Tryd.prog ops Q (o :: rest) a w :=
  wpList_plain hgd fun _ hK => wp_copyT w d s ho v u hd hs hr (hK _ _ h)
/-- Entries appended in place, where there is room. -/
theorem appendT_room (w : World) (ty : TypeId) (b sLen sCap : Nat) (a : Addr) (n c : Nat) (cs : List Value) (hroom : sLen + n ≤ sCap) (hl : cs.length = n * 19)
    (hsrc : ∀ j v, cs[j]? = some v → w.cell? (a.add j) = some v) (ht : w.there b (sLen * 19) (n * 19)) (h1 : ∀ v ∈ cs, v.oneCell' = true) :
    (Builtin.append_ #[22, 22] ty #[.slice (some ⟨b, 0, none⟩) sLen sCap, .slice (some a) n c]).run Tryd.prog w = .ok (.slice (some ⟨b, 0, none⟩) (sLen + n) sCap) (w.setCells b (sLen * 19) cs) := by
  have hl2 := run_loadCells_list (P := Tryd.prog) w a cs hsrc
  have hst := run_storeCells_cells (P := Tryd.prog) b (sLen * 19) cs 0 w (fun j hj => by simpa using (ht j (by omega)).1) (fun j hj => by simpa using (ht j (by omega)).2) h1
  rw [hl] at hl2
  have hadd : (⟨b, 0, none⟩ : Addr).add (sLen * 19) = ⟨b, sLen * 19, none⟩ := by rw [Addr.add_mid, Nat.zero_add]
  cases hq : Tryd.prog.info? 36 with
  | none => have := entT_size; rw [hq] at this; cases this
  | some i =>
    have hi : i.size = 19 := by have := entT_size; rw [hq] at this; simpa using this
    simp [Builtin.append_, run_underlying Tryd.underlying22, Builtin.lenOf, Builtin.firstCells, sizeOf, typeInfo, hq, hi, hl2, hst, hroom, hadd]
/-- Entries cleared. -/
theorem clearT (w : World) (b o n c : Nat) (hn : n ≠ 0) (ht : w.there b o (n * 19)) :
    ∃ cs : List Value, cs.length = n * 19 ∧ ∀ ty, (Builtin.clear_ #[22] ty #[.slice (some ⟨b, o, none⟩) n c]).run Tryd.prog w = .ok (.tuple #[]) (w.setCells b o cs) := by
  obtain ⟨i0, hi0, hz0, hz1, hz2⟩ := info_parts infoT
  obtain ⟨cs, hcs⟩ : ∃ cs, (Builtin.zeroCells (Value.agg zE).cells n).toList = cs := ⟨_, rfl⟩
  have hlen : cs.length = n * 19 := by rw [← hcs]; simp [Builtin.zeroCells, Value.cells]
  have hone : ∀ v ∈ cs, v.oneCell' = true := by
    intro v hv
    rw [← hcs] at hv
    simp only [Builtin.zeroCells, Value.cells, Array.toList_map, List.mem_map] at hv
    obtain ⟨j, _, rfl⟩ := hv
    have : ∀ k : Fin 19, (zE[k.val]!).oneCell' = true := by decide
    exact this ⟨j % 19, Nat.mod_lt _ (by decide)⟩
  refine ⟨cs, hlen, fun ty => ?_⟩
  have hst := run_storeCells_cells (P := Tryd.prog) b o cs 0 w (fun j hj => by simpa using (ht j (by omega)).1) (fun j hj => by simpa using (ht j (by omega)).2) hone
  obtain ⟨m, rfl⟩ : ∃ m, n = m + 1 := ⟨n - 1, by omega⟩
  simp [Builtin.clear_, run_underlying Tryd.underlying22, zeroValue, typeInfo, hi0, hz0, hcs, hst]
theorem clear_stepT (w : World) {ops : Array Oper} {rest : List Oper} {o : Oper} {a : Act} {Q : Exit → Act → World → Prop} (hgd : o.guard = none) (x : Operand)
    (ho : o.op = .call { callee := .builtin .clear, args := #[x], argTypes := #[22] }) (v : Value) (hx : a.eval x = v) {v' : Value} {w' : World}
    (hr : (Builtin.clear_ #[22] o.type #[v]).run Tryd.prog w = .ok v' w') (h : wpList Tryd.prog ops Q rest (a.put o.dst v') w') : wpList Tryd.prog ops Q (o :: rest) a w :=
  wpList_plain hgd fun _ hK => by
    unfold Oper.wp execOp
    simp only [ho, resolve, invoke, builtin, Sem.run_bind, Sem.run_pure, Result.andThen_ok, List.map_toArray, List.map_cons, List.map_nil, hx, hr]
    exact hK _ _ h
end Go.Proofs.YtgbajagacmfcmaaDoor
/- What the laws of layer 6 ask of a table: its contracts, whatever it is made of. -/
namespace Go.Proofs.YtgbajagacmfcmaaDoor
open Go.RowKit
set_option linter.unusedVariables false
set_option maxRecDepth 20000

/-- A prefix, loaded whole from wherever it lies. -/
theorem load_pref_o {ops : Array Oper} {rest : List Oper} {op : Oper} {a : Act} {w : World} {Q : Exit → Act → World → Prop} {G o : Nat} {f : Int} {bs : List Nat} {n : Int} (hl : Hid (bs.length = 16)) (hA : Hid (w.rangeAt G o (prefL f bs n))) (x : Operand) (hw : Region.wanted op (yielded ops a.tmps) = true) (ho : op.op = .load 27 x)
    (hx : a.eval x = .pointer (some ⟨G, o, none⟩)) (h : wpList Tryd.prog ops Q rest (a.put op.dst (prefV f bs n)) w) : wpList Tryd.prog ops Q (op :: rest) a w :=
  wpList_load_row hw 27 x ho G o hx (prefL f bs n) _ hA.out Tryd.underlying27 rfl (by rw [pref_size, prefL_len f bs n hl.out]) h
end Go.Proofs.YtgbajagacmfcmaaDoor
