/- What numbers' digits are as parts of loose and of strict texts; plain facts, and four.Loose's contract at texts put together of such. -/
import Derived.Test.YtkdinhgflkfbkaaDoorCuts
import Derived.Test.YtkdinhgflkfbkaaDoorLoose
import Derived.Test.YtkdinhgflkfbkaaDoorStrict
import Derived.Test.YtkdinhgflkfbkaaDoorRefNums
namespace Go.Proofs.YtkdinhgflkfbkaaDoor
open Go.RowKit
set_option linter.unusedVariables false

/-- Digits read one by one, 2^32 at most. -/
def readL (b : Nat) : Nat → List UInt8 → Option Nat
  | n, [] => some n
  | n, c :: l => if b ≤ digC c.toNat then none else readL b (min (n * b + digC c.toNat) 4294967296) l
theorem readL_append (b : Nat) (m : List UInt8) : ∀ (l : List UInt8) (n : Nat), readL b n (l ++ m) = match readL b n l with
    | none => none
    | some x => readL b x m
  | [], n => rfl
  | c :: l, n => by
    rw [List.cons_append, readL, readL]
    split
    · rfl
    · exact readL_append b m l _
theorem readTo_list (s : ByteArray) (b : Nat) : ∀ k, k ≤ s.size → readTo s b k = readL b 0 (s.data.toList.take k)
  | 0, _ => rfl
  | k + 1, h => by
    have hk : k < s.data.toList.length := by simp; omega
    rw [List.take_add_one, List.getElem?_eq_getElem hk, readL_append, ← readTo_list s b k (by omega), readTo]
    cases readTo s b k with
    | none => rfl
    | some n =>
      have e : byteOf s k = (s.data.toList[k]).toNat := by rw [byteOf_eq s k (by omega)]; rfl
      simp only [e, Option.toList, readL]
theorem readB_list (s : ByteArray) (b : Nat) : readB s b = readL b 0 s.data.toList := by
  unfold readB
  rw [readTo_list s b _ (Nat.le_refl _), List.take_of_length_le (by simp)]
theorem readB_ofL (l : List UInt8) (b : Nat) : readB (ofL l) b = readL b 0 l := by rw [readB_list, ofL_data]

theorem dec_mem (u : Nat) : ∀ c ∈ Lib.decDigits u, 48 ≤ c.toNat ∧ c.toNat ≤ 57 := by
  have one : ∀ d, d < 10 → 48 ≤ (UInt8.ofNat (48 + d)).toNat ∧ (UInt8.ofNat (48 + d)).toNat ≤ 57 := by
    intro d hd
    rw [UInt8.toNat_ofNat', Nat.mod_eq_of_lt (by omega)]
    omega
  induction u using Nat.strongRecOn with
  | _ u ih =>
    rw [Lib.decDigits]
    split
    · intro c hc
      simp at hc
      subst hc
      rw [show (48 : UInt8) + UInt8.ofNat u = UInt8.ofNat (48 + u) by simp]
      exact one u (by omega)
    · intro c hc
      rcases List.mem_append.1 hc with h | h
      · exact ih (u / 10) (by omega) c h
      · rw [List.mem_singleton] at h
        rw [h]
        exact one _ (by omega)
theorem dec_dot (u : Nat) : ∀ c ∈ Lib.decDigits u, c.toNat ≠ 46 := fun c hc => by have := dec_mem u c hc; omega
theorem dec_head (u : Nat) (h : 0 < u) : ∃ c l, Lib.decDigits u = c :: l ∧ c.toNat ≠ 48 := by
  induction u using Nat.strongRecOn with
  | _ u ih =>
    rw [Lib.decDigits]
    split
    · exact ⟨_, [], rfl, by rw [UInt8.toNat_ofNat', Nat.mod_eq_of_lt (by omega)]; omega⟩
    · obtain ⟨c, l, e, hc⟩ := ih (u / 10) (by omega) (by omega)
      exact ⟨c, l ++ [UInt8.ofNat (48 + u % 10)], by rw [e]; rfl, hc⟩
theorem dec_read (u : Nat) : readL 10 0 (Lib.decDigits u) = some (min u 4294967296) := by
  induction u using Nat.strongRecOn with
  | _ u ih =>
    rw [Lib.decDigits]
    split
    · rename_i h
      rw [readL, digC_dec u h, if_neg (by omega), readL]
      simp
    · rw [readL_append, ih (u / 10) (by omega)]
      simp only [readL]
      rw [digC_dec _ (by omega), if_neg (by omega)]
      congr 1
      omega

theorem byteOf_ofL (l : List UInt8) (k : Nat) : byteOf (ofL l) k = (l.getD k 0).toNat := by unfold byteOf; rw [ofL_data]
theorem partB_plain (l : List UInt8) (h0 : l ≠ []) (h : ¬ (1 < l.length ∧ (l.getD 0 0).toNat = 48)) : partB (ofL l) = readL 10 0 l := by
  have h1 : ¬ l.length = 0 := by intro h; exact h0 (List.eq_nil_of_length_eq_zero h)
  unfold partB
  rw [ofL_size, byteOf_ofL, if_neg h1, if_neg (by intro h2; exact h ⟨h2.1, h2.2.1⟩), if_neg h, readB_ofL]
theorem dec_nil (u : Nat) : Lib.decDigits u ≠ [] := by
  intro h
  have := dec_pos u
  rw [h] at this
  simp at this
theorem dec_lead (u : Nat) : ¬ (1 < (Lib.decDigits u).length ∧ ((Lib.decDigits u).getD 0 0).toNat = 48) := by
  rintro ⟨h1, h2⟩
  by_cases hu : u = 0
  · subst hu
    rw [Lib.decDigits] at h1
    simp at h1
  · obtain ⟨c, l, e, hc⟩ := dec_head u (by omega)
    rw [e] at h2
    exact hc (by simpa using h2)
theorem partB_dec (u : Nat) : partB (ofL (Lib.decDigits u)) = some (min u 4294967296) := by
  rw [partB_plain _ (dec_nil u) (dec_lead u), dec_read]
theorem partB_small (u : Nat) (h : u ≤ 4294967296) : partB (ofL (Lib.decDigits u)) = some u := by
  rw [partB_dec, Nat.min_eq_left h]
theorem octet_dec (u : Nat) (h : u < 256) : octet (ofL (Lib.decDigits u)) = some u := by
  have e : numB (ofL (Lib.decDigits u)) 10 = some u := by
    have := itoa_num (u : Int)
    rw [show Lib.itoa (u : Int) = Lib.decDigits u by unfold Lib.itoa; rw [if_neg (by omega)]; rfl, if_pos (by omega)] at this
    simp at this
    exact this
  unfold octet
  rw [e, ofL_size, byteOf_ofL]
  simp only [if_neg (show ¬ 255 < u by omega), if_neg (dec_lead u)]
theorem partB_hex (l : List UInt8) : partB (ofL (48 :: 120 :: l)) = readL 16 0 l := by
  unfold partB
  rw [if_neg (by rw [ofL_size]; simp), if_pos (by rw [ofL_size, byteOf_ofL, byteOf_ofL]; simp), readB_list, data_extract, ofL_data, ofL_size]
  simp
theorem partB_oct (c : UInt8) (l : List UInt8) (h1 : c.toNat ≠ 120) (h2 : c.toNat ≠ 88) : partB (ofL (48 :: c :: l)) = readL 8 0 (c :: l) := by
  unfold partB
  rw [if_neg (by rw [ofL_size]; simp), if_neg (by rw [ofL_size, byteOf_ofL, byteOf_ofL]; simp [h1, h2]), if_pos (by rw [ofL_size, byteOf_ofL]; simp), readB_list, data_extract, ofL_data, ofL_size]
  simp

/-- A part that ends in the letter a has no number, if it begins with a decimal number's digits. -/
theorem readL_bad (b : Nat) (hb : b ≤ 10) (l : List UInt8) (n : Nat) : readL b n (l ++ [97]) = none := by
  rw [readL_append]
  cases readL b n l with
  | none => rfl
  | some x =>
    have : digC (97 : UInt8).toNat = 10 := by decide
    simp only [readL, this, if_pos hb]
theorem partB_bad (u : Nat) : partB (ofL (Lib.decDigits u ++ [97])) = none ∧ readB (ofL (Lib.decDigits u ++ [97])) 10 = none := by
  refine ⟨?_, by rw [readB_ofL]; exact readL_bad 10 (by decide) _ _⟩
  by_cases hl : ((Lib.decDigits u ++ [97]).getD 0 0).toNat = 48
  · by_cases hu : u = 0
    · subst hu
      rw [show Lib.decDigits 0 ++ [97] = [48, 97] by rw [Lib.decDigits]; rfl, partB_oct _ _ (by decide) (by decide)]
      decide
    · obtain ⟨c, l, e, hc⟩ := dec_head u (by omega)
      rw [e] at hl
      exact absurd (by simpa using hl) hc
  · rw [partB_plain _ (by simp) (by intro h; exact hl h.2)]
    exact readL_bad 10 (by decide) _ _

theorem joinP1 (p : ByteArray) (v : Nat) (hp : partB p = some v) : joinP [p] = if 4294967296 ≤ v then none else some v := by
  unfold joinP
  simp [outTo, hp, roomB]
theorem joinP2 (p q : ByteArray) (a v : Nat) (hp : partB p = some a) (ha : a ≤ 255) (hq : partB q = some v) : joinP [p, q] = if 16777216 ≤ v then none else some (a * 16777216 + v) := by
  unfold joinP
  simp [outTo, hp, hq, roomB, show ¬ 255 < a by omega]
theorem joinP3 (p q r : ByteArray) (a b v : Nat) (hp : partB p = some a) (ha : a ≤ 255) (hq : partB q = some b) (hb : b ≤ 255) (hr : partB r = some v) : joinP [p, q, r] = if 65536 ≤ v then none else some ((a * 256 + b) * 65536 + v) := by
  unfold joinP
  simp [outTo, hp, hq, hr, roomB, show ¬ 255 < a by omega, show ¬ 255 < b by omega]
theorem joinP4 (p q r t : ByteArray) (a b c v : Nat) (hp : partB p = some a) (ha : a ≤ 255) (hq : partB q = some b) (hb : b ≤ 255) (hr : partB r = some c) (hc : c ≤ 255) (ht : partB t = some v) : joinP [p, q, r, t] = if 256 ≤ v then none else some (((a * 256 + b) * 256 + c) * 256 + v) := by
  unfold joinP
  simp [outTo, hp, hq, hr, ht, roomB, show ¬ 255 < a by omega, show ¬ 255 < b by omega, show ¬ 255 < c by omega]

theorem lparts_of {s : ByteArray} {l : List ByteArray} (h : pieces s 46 = l) (h2 : (l.getD (l.length - 1) ⟨#[]⟩).size ≠ 0) : lparts s = l := by
  unfold lparts
  rw [h, if_neg (by intro h3; exact h2 h3.2)]
theorem ofL_ne (l : List UInt8) (h : l ≠ []) : (ofL l).size ≠ 0 := by
  rw [ofL_size]; intro h2; exact h (List.eq_nil_of_length_eq_zero h2)
theorem lparts1 (A : List UInt8) (hA : ∀ c ∈ A, c.toNat ≠ 46) (h0 : A ≠ []) : lparts (ofL A) = [ofL A] :=
  lparts_of (by rw [pieces_ofL, cutL_none 46 A hA]; rfl) (by simpa using ofL_ne A h0)
theorem lparts2 (A B : List UInt8) (hA : ∀ c ∈ A, c.toNat ≠ 46) (hB : ∀ c ∈ B, c.toNat ≠ 46) (h0 : B ≠ []) : lparts (ofL (A ++ 46 :: B)) = [ofL A, ofL B] :=
  lparts_of (by rw [pieces_ofL, cutL_first 46 46 rfl B A hA, cutL_none 46 B hB]; rfl) (by simpa using ofL_ne B h0)
theorem lparts3 (A B C : List UInt8) (hA : ∀ c ∈ A, c.toNat ≠ 46) (hB : ∀ c ∈ B, c.toNat ≠ 46) (hC : ∀ c ∈ C, c.toNat ≠ 46) (h0 : C ≠ []) : lparts (ofL (A ++ 46 :: (B ++ 46 :: C))) = [ofL A, ofL B, ofL C] :=
  lparts_of (by rw [pieces_ofL, cutL_first 46 46 rfl _ A hA, cutL_first 46 46 rfl _ B hB, cutL_none 46 C hC]; rfl) (by simpa using ofL_ne C h0)
theorem cut4 (A B C D : List UInt8) (hA : ∀ c ∈ A, c.toNat ≠ 46) (hB : ∀ c ∈ B, c.toNat ≠ 46) (hC : ∀ c ∈ C, c.toNat ≠ 46) (hD : ∀ c ∈ D, c.toNat ≠ 46) : pieces (ofL (A ++ 46 :: (B ++ 46 :: (C ++ 46 :: D)))) 46 = [ofL A, ofL B, ofL C, ofL D] := by
  rw [pieces_ofL, cutL_first 46 46 rfl _ A hA, cutL_first 46 46 rfl _ B hB, cutL_first 46 46 rfl _ C hC, cutL_none 46 D hD]; rfl
theorem lparts4 (A B C D : List UInt8) (hA : ∀ c ∈ A, c.toNat ≠ 46) (hB : ∀ c ∈ B, c.toNat ≠ 46) (hC : ∀ c ∈ C, c.toNat ≠ 46) (hD : ∀ c ∈ D, c.toNat ≠ 46) (h0 : D ≠ []) : lparts (ofL (A ++ 46 :: (B ++ 46 :: (C ++ 46 :: D)))) = [ofL A, ofL B, ofL C, ofL D] :=
  lparts_of (cut4 A B C D hA hB hC hD) (by simpa using ofL_ne D h0)
theorem lparts4dot (A B C D : List UInt8) (hA : ∀ c ∈ A, c.toNat ≠ 46) (hB : ∀ c ∈ B, c.toNat ≠ 46) (hC : ∀ c ∈ C, c.toNat ≠ 46) (hD : ∀ c ∈ D, c.toNat ≠ 46) : lparts (ofL (A ++ 46 :: (B ++ 46 :: (C ++ 46 :: (D ++ 46 :: []))))) = [ofL A, ofL B, ofL C, ofL D] := by
  have h : pieces (ofL (A ++ 46 :: (B ++ 46 :: (C ++ 46 :: (D ++ 46 :: []))))) 46 = [ofL A, ofL B, ofL C, ofL D, ofL []] := by
    rw [pieces_ofL, cutL_first 46 46 rfl _ A hA, cutL_first 46 46 rfl _ B hB, cutL_first 46 46 rfl _ C hC, cutL_first 46 46 rfl _ D hD, cutL_none 46 [] (by simp)]; rfl
  unfold lparts
  rw [h, if_pos (by simp [ofL]; rfl)]
  rfl

theorem ends_of {x : ByteArray} {v : Nat} (h : partB x = some v) : endsB x = true := by
  have h0 : 0 < x.size := by
    rcases Nat.eq_zero_or_pos x.size with h0 | h0
    · unfold partB at h; rw [if_pos h0] at h; cases h
    · exact h0
  unfold endsB
  rw [h]
  simp [h0]
theorem looseB_parts {s : ByteArray} {l : List ByteArray} {v : Nat} (hl : lparts s = l) (he : partB (l.getD (l.length - 1) ⟨#[]⟩) = some v) : looseB s = match joinP l with
    | none => (0, 1)
    | some a => (a, 2) := by
  unfold looseB
  rw [hl, ends_of he]
  rfl
theorem looseB_no {s : ByteArray} {l : List ByteArray} (hl : lparts s = l) (he : partB (l.getD (l.length - 1) ⟨#[]⟩) = none) (hr : readB (l.getD (l.length - 1) ⟨#[]⟩) 10 = none) : looseB s = (0, 0) := by
  apply looseB_name
  rw [hl]
  unfold endsB
  rw [he, hr]
  simp

abbrev dec (u : Nat) : List UInt8 := Lib.decDigits u
theorem loose1 (v : Nat) : looseB (ofL (dec v)) = if 4294967296 ≤ v then (0, 1) else (v, 2) := by
  rw [looseB_parts (lparts1 _ (dec_dot v) (dec_nil v)) (by simpa using partB_dec v), joinP1 _ _ (partB_dec v)]
  by_cases h : 4294967296 ≤ v
  · rw [if_pos (by omega), if_pos h]
  · rw [if_neg (by omega), if_neg h, Nat.min_eq_left (by omega)]
theorem loose2 (x v : Nat) (hx : x < 256) (hv : v < 16777216) : looseB (ofL (dec x ++ 46 :: dec v)) = (x * 16777216 + v, 2) := by
  rw [looseB_parts (lparts2 _ _ (dec_dot x) (dec_dot v) (dec_nil v)) (by simpa using partB_dec v), joinP2 _ _ x v (partB_small x (by omega)) (by omega) (partB_small v (by omega)), if_neg (by omega)]
theorem loose2bad (x v : Nat) (hx : x < 256) (hv : 16777216 ≤ v) : looseB (ofL (dec x ++ 46 :: dec v)) = (0, 1) := by
  rw [looseB_parts (lparts2 _ _ (dec_dot x) (dec_dot v) (dec_nil v)) (by simpa using partB_dec v), joinP2 _ _ x _ (partB_small x (by omega)) (by omega) (partB_dec v), if_pos (by omega)]
theorem loose2no (x y : Nat) : looseB (ofL (dec x ++ 46 :: (dec y ++ [97]))) = (0, 0) :=
  looseB_no (lparts2 _ _ (dec_dot x) (fun c hc => by
    rcases List.mem_append.1 hc with h | h
    · exact dec_dot y c h
    · rw [List.mem_singleton] at h; rw [h]; decide) (by simp)) (by simpa using (partB_bad y).1) (by simpa using (partB_bad y).2)
theorem loose3 (x y v : Nat) (hx : x < 256) (hy : y < 256) (hv : v < 65536) : looseB (ofL (dec x ++ 46 :: (dec y ++ 46 :: dec v))) = ((x * 256 + y) * 65536 + v, 2) := by
  rw [looseB_parts (lparts3 _ _ _ (dec_dot x) (dec_dot y) (dec_dot v) (dec_nil v)) (by simpa using partB_dec v), joinP3 _ _ _ x y v (partB_small x (by omega)) (by omega) (partB_small y (by omega)) (by omega) (partB_small v (by omega)), if_neg (by omega)]
theorem loose4 (a b c d : Nat) (ha : a < 256) (hb : b < 256) (hc : c < 256) (hd : d < 256) : looseB (ofL (dec a ++ 46 :: (dec b ++ 46 :: (dec c ++ 46 :: dec d)))) = (((a * 256 + b) * 256 + c) * 256 + d, 2) := by
  rw [looseB_parts (lparts4 _ _ _ _ (dec_dot a) (dec_dot b) (dec_dot c) (dec_dot d) (dec_nil d)) (by simpa using partB_dec d), joinP4 _ _ _ _ a b c d (partB_small a (by omega)) (by omega) (partB_small b (by omega)) (by omega) (partB_small c (by omega)) (by omega) (partB_small d (by omega)), if_neg (by omega)]
theorem loose4dot (a b c d : Nat) (ha : a < 256) (hb : b < 256) (hc : c < 256) (hd : d < 256) : looseB (ofL (dec a ++ 46 :: (dec b ++ 46 :: (dec c ++ 46 :: (dec d ++ 46 :: []))))) = (((a * 256 + b) * 256 + c) * 256 + d, 2) := by
  rw [looseB_parts (lparts4dot _ _ _ _ (dec_dot a) (dec_dot b) (dec_dot c) (dec_dot d)) (by simpa using partB_dec d), joinP4 _ _ _ _ a b c d (partB_small a (by omega)) (by omega) (partB_small b (by omega)) (by omega) (partB_small c (by omega)) (by omega) (partB_small d (by omega)), if_neg (by omega)]
theorem strict4 (a b c d : Nat) (ha : a < 256) (hb : b < 256) (hc : c < 256) (hd : d < 256) : strictB (ofL (dec a ++ 46 :: (dec b ++ 46 :: (dec c ++ 46 :: dec d)))) = some (((a * 256 + b) * 256 + c) * 256 + d) := by
  unfold strictB
  rw [cut4 _ _ _ _ (dec_dot a) (dec_dot b) (dec_dot c) (dec_dot d)]
  simp [octTo, octet_dec a ha, octet_dec b hb, octet_dec c hc, octet_dec d hd]

theorem strict_list (s : ByteArray) (l : List UInt8) (r : Option Nat) (w : World) (hl : s.data.toList = l) (hn : l.length ≤ 1000) (hr : strictB (ofL l) = r) :
    Calls Tryd.prog 37 #[.string s] w fun e w' => e = .returned (strictRet r) ∧ Below w.heap.size w w' := by
  have hs := eq_ofL hl
  subst hs
  have := strict_any (ofL l) w (by rw [ofL_size]; omega)
  rw [hr] at this
  exact this
end Go.Proofs.YtkdinhgflkfbkaaDoor
