/- Texts that belong together, one behind the other: AddrGood, Parts, Loose, DecParts, RefPrints, WirAddr, LabOwn, WirMay, WirRecs, WirMayM, LabWr, LabWrOps, LabNote. -/
import Derived.Test.YticdpidngmeebaaD5
import Derived.Maps.OwnSet
import Derived.WalkArith
import Derived.Lib.SliceRun
/- Plain facts on addresses that may be, and on their row. -/
namespace Go.Proofs.Yticdpidngmeebaa
open Go.RowKit
set_option linter.unusedVariables false
set_option maxRecDepth 20000

theorem fourB_eq (bs : List Nat) : ((bs.getD 0 0 * 256 + bs.getD 1 0) * 256 + bs.getD 2 0) * 256 + bs.getD 3 0 = fourB bs := by
  simp [fourB, fourTo]
theorem fourB_le' (bs : List Nat) (h : ∀ x ∈ bs, x < 256) : fourB bs ≤ 4294967295 := by
  have := fourTo_lt bs h 4
  have e : (256 : Nat) ^ 4 = 4294967296 := by decide
  unfold fourB
  omega
theorem may4 (bs : List Nat) (h16 : bs.length = 16) (hlt : ∀ x ∈ bs, x < 256) : decide ((4 : Int) = 4 ∧ bs = b4 (fourB bs)) = mayB 4 bs := by
  obtain ⟨y0, y1, y2, y3, y4, y5, y6, y7, y8, y9, y10, y11, y12, y13, y14, y15, rfl⟩ := list16 bs h16
  simp at hlt
  rw [b4_eq, ← fourB_eq]
  have e : mayB 4 [y0, y1, y2, y3, y4, y5, y6, y7, y8, y9, y10, y11, y12, y13, y14, y15] = decide (y4 = 0 ∧ y5 = 0 ∧ y6 = 0 ∧ y7 = 0 ∧ y8 = 0 ∧ y9 = 0 ∧ y10 = 0 ∧ y11 = 0 ∧ y12 = 0 ∧ y13 = 0 ∧ y14 = 0 ∧ y15 = 0) := by
    rw [Bool.eq_iff_iff]
    simp [mayB, zeroTo, fromN]
  rw [e]
  refine decide_eq_decide.2 ?_
  simp
  omega
theorem may6 (bs : List Nat) (h16 : bs.length = 16) : mayB 6 bs = true := by
  unfold mayB
  rw [show fromN 6 = 16 from rfl, zeroTo_end bs h16]
  rfl
theorem mayElse (f : Int) (bs : List Nat) (h16 : bs.length = 16) (h4 : f ≠ 4) (h6 : f ≠ 6) : decide (f = 0 ∧ bs = List.replicate 16 0) = mayB f bs := by
  by_cases h0 : f = 0
  · subst h0
    obtain ⟨y0, y1, y2, y3, y4, y5, y6, y7, y8, y9, y10, y11, y12, y13, y14, y15, rfl⟩ := list16 bs h16
    rw [Bool.eq_iff_iff]
    simp [mayB, zeroTo, fromN]
  · rw [decide_eq_false (fun h => h0 h.1)]
    unfold mayB
    simp [h0, h4, h6]
theorem fourB_b4 (n : Nat) (hn : n ≤ 4294967295) : fourB (b4 n) = n := by
  rw [b4_eq, ← fourB_eq]
  simp
  omega
theorem b4_lt (n : Nat) : ∀ x ∈ b4 n, x < 256 := by
  rw [b4_eq]
  simp
  omega
theorem b4_inj {n m : Nat} (hn : n ≤ 4294967295) (hm : m ≤ 4294967295) (h : b4 n = b4 m) : n = m := by
  rw [← fourB_b4 n hn, h, fourB_b4 m hm]
/-- An address that may be, and is none of none. -/
inductive GoodA : Int → List Nat → Prop
  | four (n : Nat) (hn : n ≤ 4294967295) : GoodA 4 (b4 n)
  | six (bs : List Nat) (h16 : bs.length = 16) (hlt : ∀ x ∈ bs, x < 256) : GoodA 6 bs
theorem good_is (f : Int) (bs : List Nat) (h16 : bs.length = 16) (hlt : ∀ x ∈ bs, x < 256) : GoodA (goodF f) (goodB f bs) := by
  unfold goodF goodB
  by_cases h : f.tmod 2 = 0
  · rw [if_pos h, if_pos h]; exact .four _ (fourB_le' bs hlt)
  · rw [if_neg h, if_neg h]; exact .six bs h16 hlt
theorem GoodA.len {f : Int} {bs : List Nat} (h : GoodA f bs) : bs.length = 16 := by cases h <;> first | exact b4_len _ | assumption
theorem GoodA.lt {f : Int} {bs : List Nat} (h : GoodA f bs) : ∀ x ∈ bs, x < 256 := by cases h <;> first | exact b4_lt _ | assumption
theorem GoodA.may {f : Int} {bs : List Nat} (h : GoodA f bs) : mayB f bs = true := by
  cases h with
  | four n hn => rw [← may4 _ (b4_len n) (b4_lt n), fourB_b4 n hn, decide_eq_true ⟨rfl, rfl⟩]
  | six _ h16 hlt => exact may6 _ h16
theorem cmpL_range : ∀ xs ys : List Nat, cmpL xs ys = -1 ∨ cmpL xs ys = 0 ∨ cmpL xs ys = 1
  | [], _ => .inr (.inl (by cases ‹List Nat› <;> rfl))
  | _ :: _, [] => .inr (.inl rfl)
  | x :: xs, y :: ys => by
    rw [cmpL]
    split
    · exact .inl rfl
    · split
      · exact .inr (.inr rfl)
      · exact cmpL_range xs ys
theorem cmpL_neg : ∀ xs ys : List Nat, cmpL ys xs = - cmpL xs ys
  | [], [] => rfl
  | [], _ :: _ => rfl
  | _ :: _, [] => rfl
  | x :: xs, y :: ys => by
    have ih := cmpL_neg xs ys
    rw [cmpL, cmpL]
    by_cases h1 : x < y
    · rw [if_pos h1, if_neg (by omega), if_pos h1]; rfl
    · by_cases h2 : y < x
      · rw [if_pos h2, if_neg h1, if_pos h2]
      · rw [if_neg h2, if_neg h1, if_neg h1, if_neg h2, ih]
theorem cmpL_zero : ∀ xs ys : List Nat, xs.length = ys.length → (cmpL xs ys = 0 ↔ xs = ys)
  | [], [], _ => by simp [cmpL]
  | [], _ :: _, h => by cases h
  | _ :: _, [], h => by cases h
  | x :: xs, y :: ys, h => by
    have ih := cmpL_zero xs ys (by simpa using h)
    rw [cmpL]
    by_cases h1 : x < y
    · rw [if_pos h1]; simp; omega
    · by_cases h2 : y < x
      · rw [if_neg h1, if_pos h2]; simp; omega
      · rw [if_neg h1, if_neg h2, ih]
        simp
        omega
theorem cmpL_trans : ∀ xs ys zs : List Nat, xs.length = ys.length → ys.length = zs.length → cmpL xs ys ≤ 0 → cmpL ys zs ≤ 0 → cmpL xs zs ≤ 0
  | [], _, zs, _, _, _, _ => by cases zs <;> simp [cmpL]
  | _ :: _, _, [], h1, h2, _, _ => by rw [← h1] at h2; cases h2
  | x :: xs, [], z :: zs, h, _, _, _ => by cases h
  | x :: xs, y :: ys, z :: zs, h, h', a, b => by
    have ih := cmpL_trans xs ys zs (by simpa using h) (by simpa using h')
    rw [cmpL] at a b ⊢
    by_cases h1 : x < y
    · by_cases h2 : z < y
      · rw [if_neg (by omega), if_pos h2] at b; omega
      · rw [if_pos (by omega)]; decide
    · by_cases h2 : y < x
      · rw [if_neg h1, if_pos h2] at a; omega
      · obtain rfl : x = y := by omega
        rw [if_neg h1, if_neg h1] at a
        by_cases h3 : x < z
        · rw [if_pos h3]; decide
        · by_cases h4 : z < x
          · rw [if_neg h3, if_pos h4] at b; omega
          · rw [if_neg h3, if_neg h4] at b ⊢
            exact ih a b
theorem cmpA_range (f : Int) (xs : List Nat) (g : Int) (ys : List Nat) : cmpA f xs g ys = -1 ∨ cmpA f xs g ys = 0 ∨ cmpA f xs g ys = 1 := by
  unfold cmpA
  split
  · exact cmpL_range xs ys
  · split
    · exact .inl rfl
    · exact .inr (.inr rfl)
theorem cmpA_neg (f : Int) (xs : List Nat) (g : Int) (ys : List Nat) : cmpA g ys f xs = - cmpA f xs g ys := by
  unfold cmpA
  by_cases h : f = g
  · rw [if_pos h, if_pos h.symm]; exact cmpL_neg xs ys
  · rw [if_neg h, if_neg (fun e => h e.symm)]
    by_cases h1 : f < g
    · rw [if_pos h1, if_neg (by omega)]; rfl
    · rw [if_neg h1, if_pos (by omega)]
theorem cmpA_zero (f : Int) (xs : List Nat) (g : Int) (ys : List Nat) (hx : xs.length = 16) (hy : ys.length = 16) : cmpA f xs g ys = 0 ↔ (f = g ∧ xs = ys) := by
  unfold cmpA
  by_cases h : f = g
  · rw [if_pos h, cmpL_zero xs ys (by rw [hx, hy])]; simp [h]
  · rw [if_neg h]
    constructor
    · intro e; split at e <;> cases e
    · intro e; exact absurd e.1 h
theorem cmpA_trans (f : Int) (xs : List Nat) (g : Int) (ys : List Nat) (k : Int) (zs : List Nat) (hx : xs.length = 16) (hy : ys.length = 16) (hz : zs.length = 16) (a : cmpA f xs g ys ≤ 0) (b : cmpA g ys k zs ≤ 0) : cmpA f xs k zs ≤ 0 := by
  unfold cmpA at *
  by_cases h1 : f = g
  · subst h1
    rw [if_pos rfl] at a
    by_cases h2 : f = k
    · rw [if_pos h2] at b ⊢
      exact cmpL_trans xs ys zs (by rw [hx, hy]) (by rw [hy, hz]) a b
    · rw [if_neg h2] at b ⊢
      exact b
  · rw [if_neg h1] at a
    have h3 : f < g := by
      by_cases h : f < g
      · exact h
      · rw [if_neg h] at a; omega
    by_cases h2 : g = k
    · subst h2
      rw [if_neg h1, if_pos h3]; decide
    · rw [if_neg h2] at b
      have h4 : g < k := by
        by_cases h : g < k
        · exact h
        · rw [if_neg h] at b; omega
      rw [if_neg (by omega), if_pos (by omega)]; decide
end Go.Proofs.Yticdpidngmeebaa
/- Contracts of four.howRead, number, endsInNumber, and of the reference's Part: a part's number. -/
namespace Go.Proofs.Yticdpidngmeebaa
open Go.RowKit
set_option linter.unusedVariables false
set_option maxRecDepth 20000

/-- A part's number. -/
def partB (p : ByteArray) : Option Nat :=
  if p.size = 0 then none else
  if 1 < p.size ∧ byteOf p 0 = 48 ∧ (byteOf p 1 = 120 ∨ byteOf p 1 = 88) then readF (p.extract 2 p.size) 16 else
  if 1 < p.size ∧ byteOf p 0 = 48 then readF (p.extract 1 p.size) 8 else readF p 10
theorem partB_le (p : ByteArray) (n : Nat) (h : partB p = some n) : n ≤ 4294967296 := by
  unfold partB at h
  split at h
  · cases h
  · split at h
    · exact readF_le _ _ _ h
    · split at h
      · exact readF_le _ _ _ h
      · exact readF_le _ _ _ h

theorem how_end (w : World) (b : Int) : (w.alloc (.cells #[.int .i64 b] 3)).cell? ⟨w.heap.size, 0, none⟩ = some (.int .i64 b) ∧ Below w.heap.size w (w.alloc (.cells #[.int .i64 b] 3)) :=
  ⟨by simp [World.cell?_alloc_new], (Below.refl _ _).alloc (Nat.le_refl _) _⟩

theorem two_bytes (p : ByteArray) (h : 1 < p.size) (a b : UInt8) : p.extract 0 2 = { data := #[a, b] } ↔ byteOf p 0 = a.toNat ∧ byteOf p 1 = b.toNat := by
  have e : (p.extract 0 2).data.toList = [p[0], p[1]] := by
    rw [data_extract, List.drop_zero]
    have h0 : 1 < p.data.toList.length := by simpa using h
    match hl : p.data.toList, h0 with
    | x :: y :: l, _ =>
      have e0 : p[0] = x := by rw [getElem_data]; simp [hl]
      have e1 : p[1] = y := by rw [getElem_data]; simp [hl]
      rw [e0, e1]; rfl
  rw [byteOf_eq p 0 (by omega), byteOf_eq p 1 h]
  constructor
  · intro h2
    rw [h2] at e
    simp at e
    rw [← e.1, ← e.2]
    exact ⟨rfl, rfl⟩
  · rintro ⟨h1, h2⟩
    apply bytes_ext
    rw [e]
    have a1 : p[0] = a := UInt8.toNat_inj.1 h1
    have a2 : p[1] = b := UInt8.toNat_inj.1 h2
    rw [a1, a2]

/-- Whether a text whose last part this is ends in a number. -/
def endsB (p : ByteArray) : Bool := decide (0 < p.size) && ((readF p 10).isSome || (partB p).isSome)

end Go.Proofs.Yticdpidngmeebaa
/- Contracts of four.looseParts, join, Loose: the address of a loose text. -/
namespace Go.Proofs.Yticdpidngmeebaa
open Go.RowKit
set_option linter.unusedVariables false
set_option maxRecDepth 20000

/-- The parts of a loose text. -/
def lparts (s : ByteArray) : List ByteArray :=
  if 1 < (pieces s 46).length ∧ ((pieces s 46).getD ((pieces s 46).length - 1) ⟨#[]⟩).size = 0 then (pieces s 46).take ((pieces s 46).length - 1) else pieces s 46
theorem lparts_pos (s : ByteArray) : 0 < (lparts s).length := by
  unfold lparts
  split
  · simp; omega
  · exact pieces_pos s 46
theorem lparts_small (s : ByteArray) : ∀ p ∈ lparts s, p.size ≤ s.size := by
  unfold lparts
  split
  · intro p hp; exact pieces_small s 46 p (List.mem_of_mem_take hp)
  · exact pieces_small s 46
theorem lparts_len (s : ByteArray) : (lparts s).length ≤ s.size + 1 := by
  have := pieces_len s 46
  unfold lparts
  split
  · simp; omega
  · exact this

/-- The number of the first k parts, each one byte. -/
def outTo (l : List ByteArray) : Nat → Option Nat
  | 0 => some 0
  | k + 1 => match outTo l k with
    | none => none
    | some m => match partB (l.getD k ⟨#[]⟩) with
      | none => none
      | some n => if 255 < n then none else some (m * 256 + n)
theorem outTo_lt (l : List ByteArray) : ∀ k m, outTo l k = some m → m < 256 ^ k
  | 0, m, h => by simp [outTo] at h; omega
  | k + 1, m, h => by
    rw [outTo] at h
    cases hk : outTo l k with
    | none => rw [hk] at h; cases h
    | some j =>
      have := outTo_lt l k j hk
      rw [hk] at h
      simp only at h
      split at h
      · cases h
      · split at h
        · cases h
        · have := Option.some.inj h
          rw [Nat.pow_succ]
          omega
theorem outTo_none (l : List ByteArray) (k : Nat) (h : outTo l k = none) : ∀ m, outTo l (k + m) = none
  | 0 => h
  | m + 1 => by rw [← Nat.add_assoc, outTo, outTo_none l k h m]
theorem outTo_dead {l : List ByteArray} {k n : Nat} (hk : k ≤ n) (h : outTo l k = none) : outTo l n = none := by
  have := outTo_none l k h (n - k)
  rwa [show k + (n - k) = n by omega] at this
/-- How many numbers a last part may have, behind k others. -/
def roomB (k : Nat) : Nat := 256 ^ (4 - k)
/-- The parts' address. -/
def joinP (l : List ByteArray) : Option Nat :=
  if 4 < l.length then none else
  match outTo l (l.length - 1) with
  | none => none
  | some m => match partB (l.getD (l.length - 1) ⟨#[]⟩) with
    | none => none
    | some n => if roomB (l.length - 1) ≤ n then none else some (m * roomB (l.length - 1) + n)
theorem room_lt (k m n : Nat) (hk : k ≤ 3) (hm : m < 256 ^ k) (hn : n < roomB k) : m * roomB k + n < 4294967296 := by
  unfold roomB at *
  have hp : k = 0 ∨ k = 1 ∨ k = 2 ∨ k = 3 := by omega
  rcases hp with rfl | rfl | rfl | rfl
  all_goals
    simp at *
    omega
theorem joinP_lt (l : List ByteArray) (a : Nat) (h : joinP l = some a) : a < 4294967296 := by
  unfold joinP at h
  split at h
  · cases h
  · split at h
    · cases h
    · rename_i hl _ m hm
      have hm := outTo_lt l _ m hm
      split at h
      · cases h
      · split at h
        · cases h
        · rename_i n _ hn
          have h := Option.some.inj h
          rw [← h]
          exact room_lt _ _ _ (by omega) hm (by omega)
theorem joinP_dead {l : List ByteArray} {k : Nat} (hk : k ≤ l.length - 1) (h : outTo l k = none) : joinP l = none := by
  unfold joinP
  split
  · rfl
  · rw [outTo_dead hk h]
def joinRet (o : Option Nat) : Value := .tuple #[.int .u32 ((o.getD 0 : Nat) : Int), .bool o.isSome]
theorem join_ret {o p : Option Nat} (h : o = p) : Ending.returned (joinRet o) = .returned (joinRet p) := by rw [h]

theorem join_some {l : List ByteArray} {a : Nat} {v : Int} (h : joinP l = some a) (hv : v = a) : Ending.returned (.tuple #[.int .u32 v, .bool true]) = .returned (joinRet (joinP l)) := by
  rw [h, hv]; rfl

/-- A loose text's address and kind. -/
def looseB (s : ByteArray) : Nat × Nat :=
  if endsB ((lparts s).getD ((lparts s).length - 1) ⟨#[]⟩) then
    match joinP (lparts s) with
    | none => (0, 1)
    | some a => (a, 2)
  else (0, 0)
def looseRet (r : Nat × Nat) : Value := .tuple #[.int .u32 ((r.1 : Nat) : Int), .int .i64 ((r.2 : Nat) : Int)]
theorem loose_ret {o p : Nat × Nat} (h : o = p) : Ending.returned (looseRet o) = .returned (looseRet p) := by rw [h]
theorem looseB_name {s : ByteArray} (h : endsB ((lparts s).getD ((lparts s).length - 1) ⟨#[]⟩) = false) : looseB s = (0, 0) := by
  unfold looseB; rw [h]; rfl
theorem looseB_bad {s : ByteArray} (h : endsB ((lparts s).getD ((lparts s).length - 1) ⟨#[]⟩) = true) (hj : joinP (lparts s) = none) : looseB s = (0, 1) := by
  unfold looseB; rw [h, hj]; rfl
theorem looseB_good {s : ByteArray} {a : Nat} (h : endsB ((lparts s).getD ((lparts s).length - 1) ⟨#[]⟩) = true) (hj : joinP (lparts s) = some a) : looseB s = (a, 2) := by
  unfold looseB; rw [h, hj]; rfl

theorem loose_example : looseB { data := #[48, 120, 55, 102, 46, 49] } = (2130706433, 2) := by kernel_rfl

end Go.Proofs.Yticdpidngmeebaa
/- What numbers' digits are as parts of loose and of strict texts; plain facts, and four.Loose's contract at texts put together of such. -/
namespace Go.Proofs.Yticdpidngmeebaa
open Go.RowKit
set_option linter.unusedVariables false
set_option maxRecDepth 20000

/-- Digits read one by one, 2^32 at most. -/
def readL (b : Nat) : Nat → List UInt8 → Option Nat
  | n, [] => some n
  | n, c :: l => if b ≤ digC c.toNat then none else readL b (min (n * b + digC c.toNat) 4294967296) l
theorem readL_append (b : Nat) (m : List UInt8) : ∀ (l : List UInt8) (n : Nat), readL b n (l ++ m) = match readL b n l with
    | none => none
    | some x => readL b x m
  | [], n => rfl
  | c :: l, n => by
    rw [List.cons_append, readL, readL]
    split
    · rfl
    · exact readL_append b m l _
theorem readTo_list (s : ByteArray) (b : Nat) : ∀ k, k ≤ s.size → readTo s b k = readL b 0 (s.data.toList.take k)
  | 0, _ => rfl
  | k + 1, h => by
    have hk : k < s.data.toList.length := by simp; omega
    rw [List.take_add_one, List.getElem?_eq_getElem hk, readL_append, ← readTo_list s b k (by omega), readTo]
    cases readTo s b k with
    | none => rfl
    | some n =>
      have e : byteOf s k = (s.data.toList[k]).toNat := by rw [byteOf_eq s k (by omega)]; rfl
      simp only [e, Option.toList, readL]
theorem readF_list (s : ByteArray) (b : Nat) : readF s b = readL b 0 s.data.toList := by
  unfold readF
  rw [readTo_list s b _ (Nat.le_refl _), List.take_of_length_le (by simp)]
theorem readF_ofL (l : List UInt8) (b : Nat) : readF (ofL l) b = readL b 0 l := by rw [readF_list, ofL_data]

theorem dec_mem (u : Nat) : ∀ c ∈ Lib.decDigits u, 48 ≤ c.toNat ∧ c.toNat ≤ 57 := by
  have one : ∀ d, d < 10 → 48 ≤ (UInt8.ofNat (48 + d)).toNat ∧ (UInt8.ofNat (48 + d)).toNat ≤ 57 := by
    intro d hd
    rw [UInt8.toNat_ofNat', Nat.mod_eq_of_lt (by omega)]
    omega
  induction u using Nat.strongRecOn with
  | _ u ih =>
    rw [Lib.decDigits]
    split
    · intro c hc
      simp at hc
      subst hc
      rw [show (48 : UInt8) + UInt8.ofNat u = UInt8.ofNat (48 + u) by simp]
      exact one u (by omega)
    · intro c hc
      rcases List.mem_append.1 hc with h | h
      · exact ih (u / 10) (by omega) c h
      · rw [List.mem_singleton] at h
        rw [h]
        exact one _ (by omega)
theorem dec_dot (u : Nat) : ∀ c ∈ Lib.decDigits u, c.toNat ≠ 46 := fun c hc => by have := dec_mem u c hc; omega
theorem dec_head (u : Nat) (h : 0 < u) : ∃ c l, Lib.decDigits u = c :: l ∧ c.toNat ≠ 48 := by
  induction u using Nat.strongRecOn with
  | _ u ih =>
    rw [Lib.decDigits]
    split
    · exact ⟨_, [], rfl, by rw [UInt8.toNat_ofNat', Nat.mod_eq_of_lt (by omega)]; omega⟩
    · obtain ⟨c, l, e, hc⟩ := ih (u / 10) (by omega) (by omega)
      exact ⟨c, l ++ [UInt8.ofNat (48 + u % 10)], by rw [e]; rfl, hc⟩
theorem dec_read (u : Nat) : readL 10 0 (Lib.decDigits u) = some (min u 4294967296) := by
  induction u using Nat.strongRecOn with
  | _ u ih =>
    rw [Lib.decDigits]
    split
    · rename_i h
      rw [readL, digC_dec u h, if_neg (by omega), readL]
      simp
    · rw [readL_append, ih (u / 10) (by omega)]
      simp only [readL]
      rw [digC_dec _ (by omega), if_neg (by omega)]
      congr 1
      omega

theorem byteOf_ofL (l : List UInt8) (k : Nat) : byteOf (ofL l) k = (l.getD k 0).toNat := by unfold byteOf; rw [ofL_data]
theorem partB_plain (l : List UInt8) (h0 : l ≠ []) (h : ¬ (1 < l.length ∧ (l.getD 0 0).toNat = 48)) : partB (ofL l) = readL 10 0 l := by
  have h1 : ¬ l.length = 0 := by intro h; exact h0 (List.eq_nil_of_length_eq_zero h)
  unfold partB
  rw [ofL_size, byteOf_ofL, if_neg h1, if_neg (by intro h2; exact h ⟨h2.1, h2.2.1⟩), if_neg h, readF_ofL]
theorem dec_nil (u : Nat) : Lib.decDigits u ≠ [] := by
  intro h
  have := dec_pos u
  rw [h] at this
  simp at this
theorem dec_lead (u : Nat) : ¬ (1 < (Lib.decDigits u).length ∧ ((Lib.decDigits u).getD 0 0).toNat = 48) := by
  rintro ⟨h1, h2⟩
  by_cases hu : u = 0
  · subst hu
    rw [Lib.decDigits] at h1
    simp at h1
  · obtain ⟨c, l, e, hc⟩ := dec_head u (by omega)
    rw [e] at h2
    exact hc (by simpa using h2)
theorem partB_dec (u : Nat) : partB (ofL (Lib.decDigits u)) = some (min u 4294967296) := by
  rw [partB_plain _ (dec_nil u) (dec_lead u), dec_read]
theorem partB_small (u : Nat) (h : u ≤ 4294967296) : partB (ofL (Lib.decDigits u)) = some u := by
  rw [partB_dec, Nat.min_eq_left h]
theorem octet_dec (u : Nat) (h : u < 256) : octet (ofL (Lib.decDigits u)) = some u := by
  have e : numB (ofL (Lib.decDigits u)) 10 = some u := by
    have := itoa_num (u : Int)
    rw [show Lib.itoa (u : Int) = Lib.decDigits u by unfold Lib.itoa; rw [if_neg (by omega)]; rfl, if_pos (by omega)] at this
    simp at this
    exact this
  unfold octet
  rw [e, ofL_size, byteOf_ofL]
  simp only [if_neg (show ¬ 255 < u by omega), if_neg (dec_lead u)]
theorem partB_hex (l : List UInt8) : partB (ofL (48 :: 120 :: l)) = readL 16 0 l := by
  unfold partB
  rw [if_neg (by rw [ofL_size]; simp), if_pos (by rw [ofL_size, byteOf_ofL, byteOf_ofL]; simp), readF_list, data_extract, ofL_data, ofL_size]
  simp
theorem partB_oct (c : UInt8) (l : List UInt8) (h1 : c.toNat ≠ 120) (h2 : c.toNat ≠ 88) : partB (ofL (48 :: c :: l)) = readL 8 0 (c :: l) := by
  unfold partB
  rw [if_neg (by rw [ofL_size]; simp), if_neg (by rw [ofL_size, byteOf_ofL, byteOf_ofL]; simp [h1, h2]), if_pos (by rw [ofL_size, byteOf_ofL]; simp), readF_list, data_extract, ofL_data, ofL_size]
  simp

/-- A part that ends in the letter a has no number, if it begins with a decimal number's digits. -/
theorem readL_bad (b : Nat) (hb : b ≤ 10) (l : List UInt8) (n : Nat) : readL b n (l ++ [97]) = none := by
  rw [readL_append]
  cases readL b n l with
  | none => rfl
  | some x =>
    have : digC (97 : UInt8).toNat = 10 := by decide
    simp only [readL, this, if_pos hb]
theorem partB_bad (u : Nat) : partB (ofL (Lib.decDigits u ++ [97])) = none ∧ readF (ofL (Lib.decDigits u ++ [97])) 10 = none := by
  refine ⟨?_, by rw [readF_ofL]; exact readL_bad 10 (by decide) _ _⟩
  by_cases hl : ((Lib.decDigits u ++ [97]).getD 0 0).toNat = 48
  · by_cases hu : u = 0
    · subst hu
      rw [show Lib.decDigits 0 ++ [97] = [48, 97] by rw [Lib.decDigits]; rfl, partB_oct _ _ (by decide) (by decide)]
      decide
    · obtain ⟨c, l, e, hc⟩ := dec_head u (by omega)
      rw [e] at hl
      exact absurd (by simpa using hl) hc
  · rw [partB_plain _ (by simp) (by intro h; exact hl h.2)]
    exact readL_bad 10 (by decide) _ _

theorem joinP1 (p : ByteArray) (v : Nat) (hp : partB p = some v) : joinP [p] = if 4294967296 ≤ v then none else some v := by
  unfold joinP
  simp [outTo, hp, roomB]
theorem joinP2 (p q : ByteArray) (a v : Nat) (hp : partB p = some a) (ha : a ≤ 255) (hq : partB q = some v) : joinP [p, q] = if 16777216 ≤ v then none else some (a * 16777216 + v) := by
  unfold joinP
  simp [outTo, hp, hq, roomB, show ¬ 255 < a by omega]
theorem joinP3 (p q r : ByteArray) (a b v : Nat) (hp : partB p = some a) (ha : a ≤ 255) (hq : partB q = some b) (hb : b ≤ 255) (hr : partB r = some v) : joinP [p, q, r] = if 65536 ≤ v then none else some ((a * 256 + b) * 65536 + v) := by
  unfold joinP
  simp [outTo, hp, hq, hr, roomB, show ¬ 255 < a by omega, show ¬ 255 < b by omega]
theorem joinP4 (p q r t : ByteArray) (a b c v : Nat) (hp : partB p = some a) (ha : a ≤ 255) (hq : partB q = some b) (hb : b ≤ 255) (hr : partB r = some c) (hc : c ≤ 255) (ht : partB t = some v) : joinP [p, q, r, t] = if 256 ≤ v then none else some (((a * 256 + b) * 256 + c) * 256 + v) := by
  unfold joinP
  simp [outTo, hp, hq, hr, ht, roomB, show ¬ 255 < a by omega, show ¬ 255 < b by omega, show ¬ 255 < c by omega]

theorem lparts_of {s : ByteArray} {l : List ByteArray} (h : pieces s 46 = l) (h2 : (l.getD (l.length - 1) ⟨#[]⟩).size ≠ 0) : lparts s = l := by
  unfold lparts
  rw [h, if_neg (by intro h3; exact h2 h3.2)]
theorem ofL_ne (l : List UInt8) (h : l ≠ []) : (ofL l).size ≠ 0 := by
  rw [ofL_size]; intro h2; exact h (List.eq_nil_of_length_eq_zero h2)
theorem lparts1 (A : List UInt8) (hA : ∀ c ∈ A, c.toNat ≠ 46) (h0 : A ≠ []) : lparts (ofL A) = [ofL A] :=
  lparts_of (by rw [pieces_ofL, cutL_none 46 A hA]; rfl) (by simpa using ofL_ne A h0)
theorem lparts2 (A B : List UInt8) (hA : ∀ c ∈ A, c.toNat ≠ 46) (hB : ∀ c ∈ B, c.toNat ≠ 46) (h0 : B ≠ []) : lparts (ofL (A ++ 46 :: B)) = [ofL A, ofL B] :=
  lparts_of (by rw [pieces_ofL, cutL_first 46 46 rfl B A hA, cutL_none 46 B hB]; rfl) (by simpa using ofL_ne B h0)
theorem lparts3 (A B C : List UInt8) (hA : ∀ c ∈ A, c.toNat ≠ 46) (hB : ∀ c ∈ B, c.toNat ≠ 46) (hC : ∀ c ∈ C, c.toNat ≠ 46) (h0 : C ≠ []) : lparts (ofL (A ++ 46 :: (B ++ 46 :: C))) = [ofL A, ofL B, ofL C] :=
  lparts_of (by rw [pieces_ofL, cutL_first 46 46 rfl _ A hA, cutL_first 46 46 rfl _ B hB, cutL_none 46 C hC]; rfl) (by simpa using ofL_ne C h0)
theorem cut4 (A B C D : List UInt8) (hA : ∀ c ∈ A, c.toNat ≠ 46) (hB : ∀ c ∈ B, c.toNat ≠ 46) (hC : ∀ c ∈ C, c.toNat ≠ 46) (hD : ∀ c ∈ D, c.toNat ≠ 46) : pieces (ofL (A ++ 46 :: (B ++ 46 :: (C ++ 46 :: D)))) 46 = [ofL A, ofL B, ofL C, ofL D] := by
  rw [pieces_ofL, cutL_first 46 46 rfl _ A hA, cutL_first 46 46 rfl _ B hB, cutL_first 46 46 rfl _ C hC, cutL_none 46 D hD]; rfl
theorem lparts4 (A B C D : List UInt8) (hA : ∀ c ∈ A, c.toNat ≠ 46) (hB : ∀ c ∈ B, c.toNat ≠ 46) (hC : ∀ c ∈ C, c.toNat ≠ 46) (hD : ∀ c ∈ D, c.toNat ≠ 46) (h0 : D ≠ []) : lparts (ofL (A ++ 46 :: (B ++ 46 :: (C ++ 46 :: D)))) = [ofL A, ofL B, ofL C, ofL D] :=
  lparts_of (cut4 A B C D hA hB hC hD) (by simpa using ofL_ne D h0)
theorem lparts4dot (A B C D : List UInt8) (hA : ∀ c ∈ A, c.toNat ≠ 46) (hB : ∀ c ∈ B, c.toNat ≠ 46) (hC : ∀ c ∈ C, c.toNat ≠ 46) (hD : ∀ c ∈ D, c.toNat ≠ 46) : lparts (ofL (A ++ 46 :: (B ++ 46 :: (C ++ 46 :: (D ++ 46 :: []))))) = [ofL A, ofL B, ofL C, ofL D] := by
  have h : pieces (ofL (A ++ 46 :: (B ++ 46 :: (C ++ 46 :: (D ++ 46 :: []))))) 46 = [ofL A, ofL B, ofL C, ofL D, ofL []] := by
    rw [pieces_ofL, cutL_first 46 46 rfl _ A hA, cutL_first 46 46 rfl _ B hB, cutL_first 46 46 rfl _ C hC, cutL_first 46 46 rfl _ D hD, cutL_none 46 [] (by simp)]; rfl
  unfold lparts
  rw [h, if_pos (by simp [ofL]; rfl)]
  rfl

theorem ends_of {x : ByteArray} {v : Nat} (h : partB x = some v) : endsB x = true := by
  have h0 : 0 < x.size := by
    rcases Nat.eq_zero_or_pos x.size with h0 | h0
    · unfold partB at h; rw [if_pos h0] at h; cases h
    · exact h0
  unfold endsB
  rw [h]
  simp [h0]
theorem looseB_parts {s : ByteArray} {l : List ByteArray} {v : Nat} (hl : lparts s = l) (he : partB (l.getD (l.length - 1) ⟨#[]⟩) = some v) : looseB s = match joinP l with
    | none => (0, 1)
    | some a => (a, 2) := by
  unfold looseB
  rw [hl, ends_of he]
  rfl
theorem looseB_no {s : ByteArray} {l : List ByteArray} (hl : lparts s = l) (he : partB (l.getD (l.length - 1) ⟨#[]⟩) = none) (hr : readF (l.getD (l.length - 1) ⟨#[]⟩) 10 = none) : looseB s = (0, 0) := by
  apply looseB_name
  rw [hl]
  unfold endsB
  rw [he, hr]
  simp

abbrev dec (u : Nat) : List UInt8 := Lib.decDigits u
theorem loose1 (v : Nat) : looseB (ofL (dec v)) = if 4294967296 ≤ v then (0, 1) else (v, 2) := by
  rw [looseB_parts (lparts1 _ (dec_dot v) (dec_nil v)) (by simpa using partB_dec v), joinP1 _ _ (partB_dec v)]
  by_cases h : 4294967296 ≤ v
  · rw [if_pos (by omega), if_pos h]
  · rw [if_neg (by omega), if_neg h, Nat.min_eq_left (by omega)]
theorem loose2 (x v : Nat) (hx : x < 256) (hv : v < 16777216) : looseB (ofL (dec x ++ 46 :: dec v)) = (x * 16777216 + v, 2) := by
  rw [looseB_parts (lparts2 _ _ (dec_dot x) (dec_dot v) (dec_nil v)) (by simpa using partB_dec v), joinP2 _ _ x v (partB_small x (by omega)) (by omega) (partB_small v (by omega)), if_neg (by omega)]
theorem loose2bad (x v : Nat) (hx : x < 256) (hv : 16777216 ≤ v) : looseB (ofL (dec x ++ 46 :: dec v)) = (0, 1) := by
  rw [looseB_parts (lparts2 _ _ (dec_dot x) (dec_dot v) (dec_nil v)) (by simpa using partB_dec v), joinP2 _ _ x _ (partB_small x (by omega)) (by omega) (partB_dec v), if_pos (by omega)]
theorem loose2no (x y : Nat) : looseB (ofL (dec x ++ 46 :: (dec y ++ [97]))) = (0, 0) :=
  looseB_no (lparts2 _ _ (dec_dot x) (fun c hc => by
    rcases List.mem_append.1 hc with h | h
    · exact dec_dot y c h
    · rw [List.mem_singleton] at h; rw [h]; decide) (by simp)) (by simpa using (partB_bad y).1) (by simpa using (partB_bad y).2)
theorem loose3 (x y v : Nat) (hx : x < 256) (hy : y < 256) (hv : v < 65536) : looseB (ofL (dec x ++ 46 :: (dec y ++ 46 :: dec v))) = ((x * 256 + y) * 65536 + v, 2) := by
  rw [looseB_parts (lparts3 _ _ _ (dec_dot x) (dec_dot y) (dec_dot v) (dec_nil v)) (by simpa using partB_dec v), joinP3 _ _ _ x y v (partB_small x (by omega)) (by omega) (partB_small y (by omega)) (by omega) (partB_small v (by omega)), if_neg (by omega)]
theorem loose4 (a b c d : Nat) (ha : a < 256) (hb : b < 256) (hc : c < 256) (hd : d < 256) : looseB (ofL (dec a ++ 46 :: (dec b ++ 46 :: (dec c ++ 46 :: dec d)))) = (((a * 256 + b) * 256 + c) * 256 + d, 2) := by
  rw [looseB_parts (lparts4 _ _ _ _ (dec_dot a) (dec_dot b) (dec_dot c) (dec_dot d) (dec_nil d)) (by simpa using partB_dec d), joinP4 _ _ _ _ a b c d (partB_small a (by omega)) (by omega) (partB_small b (by omega)) (by omega) (partB_small c (by omega)) (by omega) (partB_small d (by omega)), if_neg (by omega)]
theorem loose4dot (a b c d : Nat) (ha : a < 256) (hb : b < 256) (hc : c < 256) (hd : d < 256) : looseB (ofL (dec a ++ 46 :: (dec b ++ 46 :: (dec c ++ 46 :: (dec d ++ 46 :: []))))) = (((a * 256 + b) * 256 + c) * 256 + d, 2) := by
  rw [looseB_parts (lparts4dot _ _ _ _ (dec_dot a) (dec_dot b) (dec_dot c) (dec_dot d)) (by simpa using partB_dec d), joinP4 _ _ _ _ a b c d (partB_small a (by omega)) (by omega) (partB_small b (by omega)) (by omega) (partB_small c (by omega)) (by omega) (partB_small d (by omega)), if_neg (by omega)]
theorem strict4 (a b c d : Nat) (ha : a < 256) (hb : b < 256) (hc : c < 256) (hd : d < 256) : strictB (ofL (dec a ++ 46 :: (dec b ++ 46 :: (dec c ++ 46 :: dec d)))) = some (((a * 256 + b) * 256 + c) * 256 + d) := by
  unfold strictB
  rw [cut4 _ _ _ _ (dec_dot a) (dec_dot b) (dec_dot c) (dec_dot d)]
  simp [octTo, octet_dec a ha, octet_dec b hb, octet_dec c hc, octet_dec d hd]

end Go.Proofs.Yticdpidngmeebaa
/- An address of 32 bits, its text, and the contract of the reference's Print. -/
namespace Go.Proofs.Yticdpidngmeebaa
open Go.RowKit
set_option linter.unusedVariables false
set_option maxRecDepth 20000

/-- The number of four bytes. -/
def num4 (a b c d : Nat) : Nat := ((a * 256 + b) * 256 + c) * 256 + d
theorem num4_ex (n : Nat) (h : n ≤ 4294967295) : ∃ a b c d : Nat, a < 256 ∧ b < 256 ∧ c < 256 ∧ d < 256 ∧ n = num4 a b c d :=
  ⟨n / 16777216, n / 65536 % 256, n / 256 % 256, n % 256, by omega, by omega, by omega, by omega, by unfold num4; omega⟩
theorem num4_inj {a b c d a' b' c' d' : Nat} (ha : a < 256) (hb : b < 256) (hc : c < 256) (hd : d < 256) (ha' : a' < 256) (hb' : b' < 256) (hc' : c' < 256) (hd' : d' < 256) (h : num4 a b c d = num4 a' b' c' d') : a = a' ∧ b = b' ∧ c = c' ∧ d = d' := by
  unfold num4 at h
  omega

def prR (a b c d : Nat) : Nat → List UInt8
  | 0 => []
  | 1 => dec d
  | 2 => dec c ++ 46 :: dec d
  | 3 => dec b ++ 46 :: (dec c ++ 46 :: dec d)
  | _ => dec a ++ 46 :: (dec b ++ 46 :: (dec c ++ 46 :: dec d))
def text4 (a b c d : Nat) : ByteArray := ofL (dec a ++ 46 :: (dec b ++ 46 :: (dec c ++ 46 :: dec d)))
theorem dec_small (u : Nat) (h : u < 256) : (dec u).length ≤ 21 := dec_length u (by omega)
theorem str_ret {s t : ByteArray} (h : s.data.toList = t.data.toList) : Ending.returned (.string s) = .returned (.string t) := by rw [bytes_ext h]

theorem text4_data (a b c d : Nat) : (text4 a b c d).data.toList = dec a ++ 46 :: (dec b ++ 46 :: (dec c ++ 46 :: dec d)) := ofL_data _
theorem text4_size (a b c d : Nat) (ha : a < 256) (hb : b < 256) (hc : c < 256) (hd : d < 256) : (text4 a b c d).size ≤ 90 := by
  have h1 := dec_small a ha
  have h2 := dec_small b hb
  have h3 := dec_small c hc
  have h4 := dec_small d hd
  unfold text4
  rw [ofL_size]
  simp only [dec] at *
  simp
  omega
theorem text4_strict (a b c d n : Nat) (ha : a < 256) (hb : b < 256) (hc : c < 256) (hd : d < 256) (hn : n = num4 a b c d) : strictB (text4 a b c d) = some n := by
  rw [hn]; exact strict4 a b c d ha hb hc hd
theorem text4_loose (a b c d n : Nat) (ha : a < 256) (hb : b < 256) (hc : c < 256) (hd : d < 256) (hn : n = num4 a b c d) : looseB (text4 a b c d) = (n, 2) := by
  rw [hn]; exact loose4 a b c d ha hb hc hd
theorem text4_dot (a b c d n : Nat) (X : ByteArray) (hX : X.data.toList = [46]) (ha : a < 256) (hb : b < 256) (hc : c < 256) (hd : d < 256) (hn : n = num4 a b c d) : looseB (text4 a b c d ++ X) = (n, 2) := by
  have e : text4 a b c d ++ X = ofL (dec a ++ 46 :: (dec b ++ 46 :: (dec c ++ 46 :: (dec d ++ 46 :: [])))) := eq_ofL (by
    rw [data_append, text4_data, hX]
    simp)
  rw [e, hn]
  exact loose4dot a b c d ha hb hc hd
end Go.Proofs.Yticdpidngmeebaa
/- Contracts of the landed addr.Four, Of4, May and four.Bytes, for a seat that prints nothing (the texts of AddrFour, AddrMay, Prints). -/
namespace Go.Proofs.Yticdpidngmeebaa
open Go.RowKit
set_option linter.unusedVariables false
set_option maxRecDepth 20000

set_option maxRecDepth 100000 in
set_option maxHeartbeats 1000000 in
theorem bytes_any (a b c d n : Nat) (w : World) (ha : a < 256) (hb : b < 256) (hc : c < 256) (hd : d < 256) (hn : n = num4 a b c d) :
    Calls Try.prog 98 #[.int .u32 (n : Int)] w fun e w' => e = .returned (arr4 a b c d) ∧ Below w.heap.size w w' := by
  unfold num4 at hn
  have hle : n ≤ 4294967295 := by omega
  have e1 : (n : Int) / 16777216 = (a : Int) := by omega
  have e2 : (n : Int) / 65536 % 256 = (b : Int) := by omega
  have e3 : (n : Int) / 256 % 256 = (c : Int) := by omega
  have e4 : (n : Int) % 256 = (d : Int) := by omega
  clear hn
  go_enter Try.func98, Try.ntmps98
  go_wp2
  refine bodyPost_ret (v := arr4 a b c d) (by simp [results, Try.results98, go_sem, arr4, e2, e3, e4]) rfl ⟨rfl, ?_⟩
  exact (Below.refl _ _).alloc (Nat.le_refl _) _
theorem of_num (a b c d n : Nat) (w : World) (ha : a < 256) (hb : b < 256) (hc : c < 256) (hd : d < 256) (hn : n = num4 a b c d) :
    Calls Try.prog 99 #[arr4 a b c d] w fun e w' => e = .returned (.int .u32 (n : Int)) ∧ Below w.heap.size w w' := by
  have := of_any a b c d w ha hb hc hd
  rw [show ((a * 256 + b) * 256 + c) * 256 + d = n from hn.symm] at this
  exact this
set_option maxRecDepth 100000 in
set_option maxHeartbeats 1000000 in
theorem addrFour_any (f : Int) (bs : List Nat) (w : World) (h16 : bs.length = 16) (hlt : ∀ x ∈ bs, x < 256) :
    Calls Try.prog 95 #[addrV f bs] w fun e w' => e = .returned (.int .u32 ((fourB bs : Nat) : Int)) ∧ Below w.heap.size w w' := by
  obtain ⟨cs, ecs, HA, HB⟩ := addr_boxed f bs w h16
  rw [ecs]
  have HO := fun W => Lib.hid (of_any (bs.getD 0 0) (bs.getD 1 0) (bs.getD 2 0) (bs.getD 3 0) W (byte_lt hlt 0) (byte_lt hlt 1) (byte_lt hlt 2) (byte_lt hlt 3))
  rw [fourB_eq] at HO
  generalize fourB bs = n at *
  clear ecs h16 hlt
  go_enter Try.func95, Try.ntmps95
  go_upto_region 1 with fail
  generalize (w.alloc (.cells cs 40)) = W at *
  have c0 : W.cell? ⟨w.heap.size, 1, none⟩ = some (.int .u8 ((bs.getD 0 0 : Nat) : Int)) := HA.out.cells 0 (by decide)
  have c1 : W.cell? ⟨w.heap.size, 2, none⟩ = some (.int .u8 ((bs.getD 1 0 : Nat) : Int)) := HA.out.cells 1 (by decide)
  have c2 : W.cell? ⟨w.heap.size, 3, none⟩ = some (.int .u8 ((bs.getD 2 0 : Nat) : Int)) := HA.out.cells 2 (by decide)
  have c3 : W.cell? ⟨w.heap.size, 4, none⟩ = some (.int .u8 ((bs.getD 3 0 : Nat) : Int)) := HA.out.cells 3 (by decide)
  generalize bs.getD 0 0 = a at *
  generalize bs.getD 1 0 = b at *
  generalize bs.getD 2 0 = c at *
  generalize bs.getD 3 0 = d at *
  unfold arr4 at HO
  go_wp2_with fail
  refine (HO W).out.mono ?_
  rintro e w1 ⟨rfl, hb1⟩
  go_wp2_with fail
  go_ret
  exact ⟨rfl, chain HB.out hb1⟩

/-- An address of 32 bits. -/
theorem b4_list (n : Nat) (hn : n ≤ 4294967295) : b4 n = [n / 16777216 % 256, n / 65536 % 256, n / 256 % 256, n % 256, 0, 0, 0, 0, 0, 0, 0, 0, 0, 0, 0, 0] := b4_eq n
set_option maxRecDepth 100000 in
set_option maxHeartbeats 1000000 in
theorem addrOf4_any (n : Nat) (w : World) (hn : n ≤ 4294967295) :
    Calls Try.prog 94 #[.int .u32 (n : Int)] w fun e w' => e = .returned (addrV 4 (b4 n)) ∧ Below w.heap.size w w' := by
  have HE := Lib.hid (b4_eq n)
  have HBy := fun W => Lib.hid (bytes_any (n / 16777216 % 256) (n / 65536 % 256) (n / 256 % 256) (n % 256) n W (by omega) (by omega) (by omega) (by omega) (by unfold num4; omega))
  have HZ := Lib.hid (addr_zeroed w)
  have HB : Hid (Below w.heap.size w (w.alloc (.cells zA 40))) := Lib.hid ((Below.refl _ _).alloc (Nat.le_refl _) _)
  generalize n / 16777216 % 256 = a at *
  generalize n / 65536 % 256 = b at *
  generalize n / 256 % 256 = c at *
  generalize n % 256 = d at *
  unfold arr4 at HBy
  go_enter Try.func94, Try.ntmps94
  go_upto_region 1 with fail
  generalize (w.alloc (.cells zA 40)) = W at *
  go_wp2_with fail
  refine (HBy W).out.mono ?_
  rintro e w1 ⟨rfl, hb1⟩
  have HZ1 := Lib.hid ((HZ.out.below hb1).alloc (.cells #[.int .u8 (a : Int), .int .u8 (b : Int), .int .u8 (c : Int), .int .u8 (d : Int)] 143))
  have HB1 := Lib.hid (chain (chain HB.out hb1) ((Below.refl w1.heap.size w1).alloc (Nat.le_refl _) (.cells #[.int .u8 (a : Int), .int .u8 (b : Int), .int .u8 (c : Int), .int .u8 (d : Int)] 143)))
  clear HZ HB hb1 HBy
  have HLN : Hid ([a, b, c, d, 0, 0, 0, 0, 0, 0, 0, 0, 0, 0, 0, 0].length = 16) := Lib.hid rfl
  go_wp2_with (refine store_addr HZ1 _ _ HLN rfl rfl rfl rfl (fun W HW HA => ?_))
  refine bodyPost_ret (v := addrV 4 [a, b, c, d, 0, 0, 0, 0, 0, 0, 0, 0, 0, 0, 0, 0]) (results_addr Try.results94 rfl HA.out) rfl ⟨by rw [HE.out], by rw [HW.out]; exact below_cells (Nat.le_refl _) _ _ _ HB1.out⟩
set_option maxRecDepth 100000 in
set_option maxHeartbeats 1000000 in
theorem addrMay_any (f : Int) (bs : List Nat) (w : World) (h16 : bs.length = 16) (hlt : ∀ x ∈ bs, x < 256) :
    Calls Try.prog 83 #[addrV f bs] w fun e w' => e = .returned (.bool (mayB f bs)) ∧ Below w.heap.size w w' := by
  obtain ⟨cs, ecs, HA, HB⟩ := addr_boxed f bs w h16
  rw [ecs]
  have HLT := Lib.hid hlt
  clear ecs hlt
  have H16 := Lib.hid h16
  clear h16
  go_enter Try.func83, Try.ntmps83
  go_upto_region 1 with fail
  generalize (w.alloc (.cells cs 40)) = W at *
  have hfam := HA.out.fam
  by_cases h4 : f = 4
  · subst h4
    have HE := Lib.hid (may4 bs H16.out HLT.out)
    have gd := guard_addr
    have q1 := fun W => run_eq_addr 4 4 bs (b4 (fourB bs)) W H16.out (b4_len _)
    rw [HE.out] at q1
    obtain ⟨L, hL⟩ : ∃ L, [(w.heap.size, 0, addrL 4 bs)] = L := ⟨_, rfl⟩
    have HK := Lib.hid (show HeldR L w W by rw [← hL]; exact (HeldR.nil HB.out).addr HA.out)
    have M1 := Lib.hid (show InA L w.heap.size 4 bs from ⟨by rw [← hL]; simp, H16.out⟩)
    have HF : ∀ w', HeldR L w w' → Hid (Calls Try.prog 95 #[addrV 4 bs] w' fun e w'' => e = .returned (.int .u32 ((fourB bs : Nat) : Int)) ∧ Below w'.heap.size w' w'') := fun w' _ => Lib.hid (addrFour_any 4 bs w' H16.out HLT.out)
    have HO : ∀ w', HeldR L w w' → Hid (Calls Try.prog 94 #[.int .u32 ((fourB bs : Nat) : Int)] w' fun e w'' => e = .returned (addrV 4 (b4 (fourB bs))) ∧ Below w'.heap.size w' w'') := fun w' _ => Lib.hid (addrOf4_any (fourB bs) w' (fourB_le' bs HLT.out))
    clear hL
    generalize b4 (fourB bs) = ys at *
    generalize fourB bs = n at *
    go_wp2_with fail
    refine wp_region_noPanic ?_
    refine wp_region_held_drew (S := HeldR L w) (by kernel_rfl) HK.out.drew (fun hHeld => ?_)
    refine wpAnyH_take (i := 0) rfl (by kernel_rfl) (by kernel_rfl) (by kernel_rfl) (fun _ _ _ h => h) (yields_addr M1 (by rfl) _ rfl rfl) (by assumption) ?_
    try simp only [Act.put, List.getElem_toArray, List.getElem_cons_zero, List.setIfInBounds_toArray, List.set_cons_zero, List.set_cons_succ]
    refine wpAnyH_take (i := 1) rfl (by kernel_rfl) (by kernel_rfl) (by kernel_rfl) (fun _ _ _ h => h) (yields_addr M1 (by rfl) _ rfl rfl) (by assumption) ?_
    try simp only [Act.put, List.getElem_toArray, List.getElem_cons_zero, List.getElem_cons_succ, List.setIfInBounds_toArray, List.set_cons_zero, List.set_cons_succ]
    refine wpAnyH_ready (rs := [2]) (by kernel_rfl) (by simp) ?_
    refine AllReadyH.cons rfl (fun K hK => ?_) AllReadyH.nil
    go_simp
    refine (Calls.heldR (HF _ (by assumption)).out (by assumption)).mono ?_
    rintro e wr2 ⟨rfl, hS2⟩
    go_wp2_with fail
    refine hK.out _ _ hS2 (fun hHeld => ?_)
    clear hK K
    try simp only [Act.put, List.getElem_toArray, List.getElem_cons_zero, List.getElem_cons_succ, List.setIfInBounds_toArray, List.set_cons_zero, List.set_cons_succ]
    refine wpAnyH_ready (rs := [3]) (by kernel_rfl) (by simp) ?_
    refine AllReadyH.cons rfl (fun K hK => ?_) AllReadyH.nil
    go_simp
    refine (Calls.heldR (HO _ (by assumption)).out (by assumption)).mono ?_
    rintro e wr3 ⟨rfl, hS3⟩
    go_wp2_with fail
    refine hK.out _ _ hS3 (fun hHeld => ?_)
    clear hK K
    try simp only [Act.put, List.getElem_toArray, List.getElem_cons_zero, List.getElem_cons_succ, List.setIfInBounds_toArray, List.set_cons_zero, List.set_cons_succ]
    refine wpAnyH_take (i := 4) (v := ?_) rfl (by kernel_rfl) (by kernel_rfl) (by kernel_rfl) (fun _ _ _ h => h) (Or.inl ⟨by rfl, ?_⟩) (by assumption) ?_
    rotate_left
    · (intro w hSw; go_simp; try (with_reducible rfl))
    try simp only [Act.put, List.getElem_toArray, List.getElem_cons_zero, List.getElem_cons_succ, List.setIfInBounds_toArray, List.set_cons_zero, List.set_cons_succ]
    refine wpAnyH_take (i := 5) (v := ?_) rfl (by kernel_rfl) (by kernel_rfl) (by kernel_rfl) (fun _ _ _ h => h) (Or.inl ⟨by rfl, ?_⟩) (by assumption) ?_
    rotate_left
    · (intro w hSw; go_simp; try (with_reducible rfl))
    try simp only [Act.put, List.getElem_toArray, List.getElem_cons_zero, List.getElem_cons_succ, List.setIfInBounds_toArray, List.set_cons_zero, List.set_cons_succ]
    refine wpAnyH_done (by kernel_rfl) ?_ _
    refine NoPanic.normal ?_
    go_wp2_with fail
    go_ret
    exact ⟨rfl, hHeld.bel⟩
  · by_cases h6 : f = 6
    · subst h6
      have HE := Lib.hid (may6 bs H16.out)
      go_wp2_with fail
      go_ret
      exact ⟨by rw [HE.out]; rfl, HB.out⟩
    · have g4 : (f == 4) = false := by simp [h4]
      have g6 : (f == 6) = false := by simp [h6]
      have HE := Lib.hid (mayElse f bs H16.out h4 h6)
      have gd := guard_zero
      have q1 := fun W => run_zero_addr f bs W H16.out
      rw [HE.out] at q1
      go_wp2_with (refine load_addr_g HA _ rfl rfl rfl ?_)
      go_ret
      exact ⟨rfl, HB.out⟩
end Go.Proofs.Yticdpidngmeebaa
/- Contracts of the landed label: Labels, May; placeOf; few of the laws. -/
namespace Go.Proofs.Yticdpidngmeebaa
open Go.RowKit
set_option linter.unusedVariables false
set_option maxRecDepth 20000

set_option maxRecDepth 100000 in
theorem labels_any (s : ByteArray) (w : World) (hs : s.size ≤ 2000000) :
    Calls Try.prog 63 #[.string s] w fun e w' => ∃ a c, e = .returned (.slice a (labelsB s).length c) ∧ RowS w' a c (labelsB s) ∧ Below w.heap.size w w' := by
  by_cases h0 : s.size = 0
  · have he := isEmpty_true s h0
    have HE : Hid (labelsB s = []) := Lib.hid (by unfold labelsB; rw [if_pos h0])
    rw [HE.out]
    clear hs h0
    go_enter Try.func63, Try.ntmps63
    go_wp2_with fail
    go_ret
    exact ⟨none, 0, rfl, .inl ⟨rfl, rfl, rfl⟩, Below.refl _ _⟩
  · have he := isEmpty_false s (by omega)
    have HE : Hid (labelsB s = pieces s 46) := Lib.hid (by unfold labelsB; rw [if_neg h0])
    have HSP := Lib.hid (split_row s 46 w hs)
    rw [HE.out]
    generalize pieces s 46 = l at *
    clear hs h0 HE
    go_enter Try.func63, Try.ntmps63
    go_wp2_with fail
    refine HSP.out.mono ?_
    rintro e w1 ⟨g, c, rfl, hg, hr, hb⟩
    have HR := Lib.hid hr
    have HB := Lib.hid hb
    clear hr hb hg HSP
    go_wp2_with fail
    go_ret
    exact ⟨_, _, rfl, .inr ⟨g, rfl, HR.out⟩, HB.out⟩
set_option maxRecDepth 100000 in
set_option maxHeartbeats 2000000 in
theorem may_any (s : ByteArray) (w : World) (hs : s.size ≤ 2000000) :
    Calls Try.prog 38 #[.string s] w fun e w' => e = .returned (.bool (mayN s)) ∧ Below w.heap.size w w' := by
  have HM := Lib.hid (may_is s)
  have HLA := Lib.hid (labels_any s w hs)
  have hsm : ∀ p ∈ labelsB s, p.size ≤ 2000000 := fun p hp => Nat.le_trans (labels_small s p hp) (by omega)
  have hln := labels_len s
  generalize mayN s = m at *
  generalize labelsB s = l at *
  by_cases h253 : 253 < s.size
  · have hd0 : decide (253 < (s.size : Int)) = true := decide_eq_true (by omega)
    have hd0n : decide (253 < s.size) = true := decide_eq_true h253
    have EM : m = false := by rw [HM.out]; exact decide_eq_false (fun h => by omega)
    subst EM
    clear HLA hsm HM
    go_enter Try.func38, Try.ntmps38
    go_wp2_with fail
    go_ret
    exact ⟨rfl, Below.refl _ _⟩
  · have hd0 : decide (253 < (s.size : Int)) = false := decide_eq_false (by omega)
    have hd0n : decide (253 < s.size) = false := decide_eq_false h253
    have HM2 : Hid (m = decide (∀ k, k < l.length → 1 ≤ (l.getD k ⟨#[]⟩).size ∧ (l.getD k ⟨#[]⟩).size ≤ 63)) := Lib.hid (by
      rw [HM.out]
      exact decide_eq_decide.2 ⟨fun h => h.2, fun h => ⟨by omega, h⟩⟩)
    have HSM := Lib.hid hsm
    clear hsm HM
    obtain ⟨N, hN⟩ : ∃ N, l.length = N := ⟨_, rfl⟩
    have HN := Lib.hid hN
    rw [hN] at hln HLA HM2
    clear hN
    go_enter Try.func38, Try.ntmps38
    go_wp2_with fail
    refine HLA.out.mono ?_
    rintro e w1 ⟨a, c, rfl, hr, hb⟩
    have HR := Lib.hid hr
    have HB := Lib.hid hb
    clear hr hb HLA
    go_wp2_with fail
    go_loop [11] (fun i => ∃ k : Nat, k ≤ N ∧ i = .int .i64 (k : Int) ∧ Hid (∀ j, j < k → 1 ≤ (l.getD j ⟨#[]⟩).size ∧ (l.getD j ⟨#[]⟩).size ≤ 63)) (fun i => N - (intOf i).toNat)
    case atStart => exact ⟨0, Nat.zero_le _, rfl, Lib.hid (fun j hj => absurd hj (by omega))⟩
    case round =>
      obtain ⟨k, hk, rfl, HO⟩ := hrel
      by_cases hkN : k < N
      · have hd : decide ((k : Int) < (N : Int)) = true := decide_eq_true (by omega)
        have hdn : decide (k < N) = true := decide_eq_true (by omega)
        rcases HR.out with ⟨_, _, h0⟩ | ⟨g, rfl, h⟩
        · have := HN.out; rw [h0] at this; simp at this; omega
        have hc := h.cells k (by rw [HN.out]; exact hkN)
        have hz := getD_small HSM.out k
        have HO2 : Hid (1 ≤ (l.getD k ⟨#[]⟩).size ∧ (l.getD k ⟨#[]⟩).size ≤ 63 → ∀ j, j < k + 1 → 1 ≤ (l.getD j ⟨#[]⟩).size ∧ (l.getD j ⟨#[]⟩).size ≤ 63) := Lib.hid (fun hp j hj => by
          by_cases h : j < k
          · exact HO.out j h
          · obtain rfl : j = k := by omega
            exact hp)
        have HF : Hid (¬ (1 ≤ (l.getD k ⟨#[]⟩).size ∧ (l.getD k ⟨#[]⟩).size ≤ 63) → m = false) := Lib.hid (fun hp => by
          rw [HM2.out]
          exact decide_eq_false (fun h => hp (h k hkN)))
        generalize l.getD k ⟨#[]⟩ = p at *
        have hb1 : (0 : Int) ≤ (k : Int) := by omega
        have hb2 : (k : Int) < (N : Int) := by omega
        clear h
        by_cases h1 : p.size < 1
        · have hd1 : decide ((p.size : Int) < 1) = true := decide_eq_true (by omega)
          have hd1n : decide (p.size < 1) = true := decide_eq_true (by omega)
          have ES := HF.out (fun h => absurd h.1 (by omega))
          subst ES
          clear HO2 HF HM2
          go_wp2_with fail
          go_ret
          exact ⟨rfl, HB.out⟩
        · have hd1 : decide ((p.size : Int) < 1) = false := decide_eq_false (by omega)
          have hd1n : decide (p.size < 1) = false := decide_eq_false (by omega)
          by_cases h2 : 63 < p.size
          · have hd2 : decide (63 < (p.size : Int)) = true := decide_eq_true (by omega)
            have hd2n : decide (63 < p.size) = true := decide_eq_true (by omega)
            have ES := HF.out (fun h => absurd h.2 (by omega))
            subst ES
            clear HO2 HF HM2
            go_wp2_with fail
            go_ret
            exact ⟨rfl, HB.out⟩
          · have hd2 : decide (63 < (p.size : Int)) = false := decide_eq_false (by omega)
            have hd2n : decide (63 < p.size) = false := decide_eq_false (by omega)
            have HO3 := Lib.hid (HO2.out (by omega))
            clear HO2 HF HO
            go_wp2_with fail
            go_round
            case rel => exact ⟨k + 1, by omega, by go_num, HO3⟩
            case measure => simp [intOf]; omega
      · obtain rfl : k = N := by omega
        have hd : decide ((k : Int) < (k : Int)) = false := by simp
        have EM : m = true := by rw [HM2.out]; exact decide_eq_true HO.out
        subst EM
        clear HM2
        go_wp2_with fail
        go_ret
        exact ⟨rfl, HB.out⟩
end Go.Proofs.Yticdpidngmeebaa
/- Contracts of the landed wire's mayNumbers, mayData, mayRecords (walks/WirMay.py prints this text). -/
namespace Go.Proofs.Yticdpidngmeebaa
open Go.RowKit
set_option linter.unusedVariables false
set_option maxRecDepth 20000

def ints9 (l : List Int) : List Value := l.map fun z => Value.int .i64 z
theorem mayNums_any (l : List Int) (g c : Nat) (w : World) (hc : ∀ j u, (ints9 l)[j]? = some u → w.cell? ⟨g, j, none⟩ = some u) (hl : l.length ≤ 1000) :
    Calls Try.prog 37 #[.slice (some ⟨g, 0, none⟩) l.length c] w fun e w' => e = .returned (.bool (l.all wordN)) ∧ w' = w := by
  obtain ⟨R, hR⟩ : ∃ R, l.all wordN = R := ⟨_, rfl⟩
  have HAL := Lib.hid hR
  rw [hR]
  obtain ⟨N, hN⟩ : ∃ N, l.length = N := ⟨_, rfl⟩
  have HN := Lib.hid hN
  have HC := Lib.hid hc
  rw [hN] at hl ⊢
  clear hR hN hc
  go_enter Try.func37, Try.ntmps37
  go_wp2_with fail
  go_loop [7] (fun i => ∃ k : Nat, k ≤ N ∧ i = .int .i64 (k : Int) ∧ Hid (∀ j (h : j < l.length), j < k → wordN l[j] = true)) (fun i => N - (intOf i).toNat)
  case atStart => exact ⟨0, Nat.zero_le _, rfl, Lib.hid (fun j _ h => absurd h (by omega))⟩
  case round =>
    obtain ⟨k, hk, rfl, HO⟩ := hrel
    by_cases hkN : k < N
    · have hd : decide ((k : Int) < (N : Int)) = true := decide_eq_true (by omega)
      have hdn : decide (k < N) = true := decide_eq_true hkN
      have hkD : k < l.length := by rw [HN.out]; exact hkN
      have hcell := HC.out k (.int .i64 l[k]) (by unfold ints9; rw [List.getElem?_map, List.getElem?_eq_getElem hkD]; rfl)
      have HO2 : Hid (wordN l[k] = true → ∀ j (h : j < l.length), j < k + 1 → wordN l[j] = true) := Lib.hid (fun e j h hj => by
        by_cases h2 : j < k
        · exact HO.out j h h2
        · obtain rfl : j = k := by omega
          exact e)
      have HF : Hid (wordN l[k] = false → R = false) := Lib.hid (fun e => by
        rw [← HAL.out, List.all_eq_false]
        exact ⟨l[k], List.getElem_mem hkD, by rw [e]; decide⟩)
      generalize l[k] = z at *
      have hb1 : (0 : Int) ≤ (k : Int) := by omega
      have hb2 : (k : Int) < (N : Int) := by omega
      clear HO
      by_cases h0 : z < 0
      · have hd0 : decide (z < 0) = true := decide_eq_true h0
        have ER := HF.out (decide_eq_false (by omega))
        subst ER
        clear HO2 HF
        go_wp2_with fail
        go_ret
        exact ⟨rfl, rfl⟩
      · have hd0 : decide (z < 0) = false := decide_eq_false h0
        by_cases h1 : 65535 < z
        · have hd1 : decide (65535 < z) = true := decide_eq_true h1
          have ER := HF.out (decide_eq_false (by omega))
          subst ER
          clear HO2 HF
          go_wp2_with fail
          go_ret
          exact ⟨rfl, rfl⟩
        · have hd1 : decide (65535 < z) = false := decide_eq_false h1
          have HO3 := Lib.hid (HO2.out (decide_eq_true (by omega)))
          clear HO2 HF
          go_wp2_with fail
          go_round
          case rel => exact ⟨k + 1, by omega, by go_num, HO3⟩
          case measure => simp [intOf]; omega
    · obtain rfl : k = N := by omega
      have hd : decide ((k : Int) < (k : Int)) = false := by simp
      have ER : R = true := by
        rw [← HAL.out, List.all_eq_true]
        intro r hr
        obtain ⟨j, hj, rfl⟩ := List.getElem_of_mem hr
        exact HO.out j hj (by rw [← HN.out]; exact hj)
      subst ER
      clear HO
      go_wp2_with fail
      go_ret
      exact ⟨rfl, rfl⟩
theorem mayNums2 (a b : Int) (w : World) : Calls Try.prog 37 #[.slice (some ⟨w.heap.size, 0, none⟩) 2 2] (w.alloc (.cells #[.int .i64 a, .int .i64 b] 3)) fun e w' => e = .returned (.bool (wordN a && wordN b)) ∧ w' = w.alloc (.cells #[.int .i64 a, .int .i64 b] 3) := by
  have := mayNums_any [a, b] w.heap.size 2 (w.alloc (.cells #[.int .i64 a, .int .i64 b] 3)) (fun j u hu => cells_new8 w [.int .i64 a, .int .i64 b] 3 j u hu) (by simp)
  simpa using this
/-- What mayData asks. -/
def mayD (r : Rec) : Bool :=
  if r.ty = 1 then decide (r.f = 4) && mayB r.f r.b && decide (r.tg.size = 0) && decide (r.da.size = 0)
  else if r.ty = 28 then decide (r.f = 6) && mayB r.f r.b && decide (r.tg.size = 0) && decide (r.da.size = 0)
  else if r.ty = 5 then decide (r.f = 0 ∧ r.b = zB) && mayN r.tg && decide (r.da.size = 0)
  else decide (r.f = 0 ∧ r.b = zB) && decide (r.tg.size = 0) && decide (r.da.size ≤ 65535)
theorem mayR_is (r : Rec) : mayR r = (mayN r.name && (wordN r.ty && wordN r.cl) && decide (0 ≤ r.ttl) && decide (r.ttl ≤ 2147483647) && mayD r) := by
  unfold mayR headR bodyR mayD
  generalize mayN r.name = a
  generalize mayN r.tg = b
  generalize mayB r.f r.b = c
  generalize wordN r.ty = d
  generalize wordN r.cl = e
  by_cases h1 : r.ty = 1
  · simp only [if_pos h1]
    by_cases h4 : r.da.size = 0
    · have : decide (r.da.size ≤ 65535) = true := decide_eq_true (by omega)
      rw [this]
      cases a <;> cases c <;> cases d <;> cases e <;> simp
    · simp [h4]
  · simp only [if_neg h1]
    by_cases h2 : r.ty = 28
    · simp only [if_pos h2]
      by_cases h4 : r.da.size = 0
      · have : decide (r.da.size ≤ 65535) = true := decide_eq_true (by omega)
        rw [this]
        cases a <;> cases c <;> cases d <;> cases e <;> simp
      · simp [h4]
    · simp only [if_neg h2]
      by_cases h3 : r.ty = 5
      · simp only [if_pos h3]
        by_cases h4 : r.da.size = 0
        · have : decide (r.da.size ≤ 65535) = true := decide_eq_true (by omega)
          rw [this]
          cases a <;> cases b <;> cases d <;> cases e <;> simp
        · simp [h4]
      · simp only [if_neg h3]
        generalize decide (r.da.size ≤ 65535) = g
        cases a <;> cases g <;> cases d <;> cases e <;> simp
set_option maxRecDepth 100000 in
set_option maxHeartbeats 4000000 in
theorem mayData_any (r : Rec) (w : World) (hf : Fit r) (ht : r.tg.size ≤ 1900000) :
    Calls Try.prog 64 #[recV r] w fun e w' => e = .returned (.bool (mayD r)) ∧ Below w.heap.size w w' := by
  have h16 := hf.1
  have hlt := hf.2.1
  have hd : r.da.size ≤ maxLen := hf.2.2.2.2.2.2.2.2
  have HBR : Hid (mayD r = if r.ty = 1 then decide (r.f = 4) && mayB r.f r.b && decide (r.tg.size = 0) && decide (r.da.size = 0) else if r.ty = 28 then decide (r.f = 6) && mayB r.f r.b && decide (r.tg.size = 0) && decide (r.da.size = 0) else if r.ty = 5 then decide (r.f = 0 ∧ r.b = zB) && mayN r.tg && decide (r.da.size = 0) else decide (r.f = 0 ∧ r.b = zB) && decide (r.tg.size = 0) && decide (r.da.size ≤ 65535)) := Lib.hid rfl
  obtain ⟨cs, ecs, HR, HB⟩ := rec_boxed r w h16
  rw [ecs]
  have HMT := fun W => Lib.hid (may_any r.tg W (by omega))
  have HMA := fun W => Lib.hid (addrMay_any r.f r.b W h16 hlt)
  have H16 := Lib.hid h16
  have gd := guard_zero
  have q := fun W => run_zero_addr r.f r.b W h16
  have hdm : r.da.size ≤ 9223372036854775807 := by unfold maxLen at hd; omega
  generalize mayD r = R at *
  obtain ⟨nm, ty, cl, ttl, f, b, tg, da⟩ := r
  simp only at HBR HMT HMA H16 q hdm
  have hzz : decide (f = 0 ∧ b = List.replicate 16 0) = decide (f = 0 ∧ b = zB) := rfl
  rw [hzz] at q
  generalize mayN tg = m2 at *
  generalize mayB f b = m3 at *
  generalize decide (f = 0 ∧ b = zB) = z3 at *
  clear ecs h16 hf ht hd hzz hlt
  go_enter Try.func64, Try.ntmps64
  go_upto_region 1 with fail
  generalize w.alloc (.cells cs 42) = W at *
  obtain ⟨G, hG⟩ : ∃ G, w.heap.size = G := ⟨_, rfl⟩
  try rw [hG] at HR
  try rw [hG]
  have c1 := HR.out.ty
  have c4 := HR.out.fam
  have c5 := HR.out.tg
  have c6 := HR.out.da
  have HRA := Lib.hid HR.out.addr
  simp only [Nat.zero_add] at c1 c4 c5 c6 HRA
  by_cases t1 : ty = 1
  · have tbt1 : (ty == 1) = true := by rw [t1]; rfl
    rw [if_pos t1] at HBR
    clear t1
    by_cases h2 : f = 4
    · have hd2 : decide (f = 4) = true := decide_eq_true h2
      rw [hd2] at HBR
      have he2 : (f == 4) = true := by rw [h2]; rfl
      clear h2
      go_wp2_with (refine load_addr_o H16 HRA _ rfl rfl rfl ?_)
      refine (HMA _).out.mono ?_
      rintro e w1 ⟨rfl, hb1⟩
      replace HR := Lib.hid (HR.out.below hb1)
      replace HB := Lib.hid (chain HB.out hb1)
      clear hb1 c1 c4 c5 c6 HRA
      have c1 := HR.out.ty
      have c4 := HR.out.fam
      have c5 := HR.out.tg
      have c6 := HR.out.da
      have HRA := Lib.hid HR.out.addr
      simp only [Nat.zero_add] at c1 c4 c5 c6 HRA
      cases m3 with
      | false =>
        have ER : R = false := by rw [HBR.out]; simp
        subst ER
        clear HBR
        go_wp2_with (refine load_addr_o H16 HRA _ rfl rfl rfl ?_)
        go_ret
        exact ⟨rfl, HB.out⟩
      | true =>
        by_cases h3 : tg.size = 0
        · have hdh3 : decide (tg.size = 0) = true := decide_eq_true h3
          rw [hdh3] at HBR
          have heh3 := isEmpty_true tg h3
          by_cases h4 : da.size = 0
          · have hdh4 : decide (da.size = 0) = true := decide_eq_true h4
            rw [hdh4] at HBR
            have heh4 := isEmpty_true da h4
            have ER : R = true := by rw [HBR.out]; rfl
            subst ER
            clear HBR
            go_wp2_with (refine load_addr_o H16 HRA _ rfl rfl rfl ?_)
            go_ret
            exact ⟨rfl, HB.out⟩
          · have hdh4 : decide (da.size = 0) = false := decide_eq_false h4
            rw [hdh4] at HBR
            have heh4 := isEmpty_false da (by omega)
            have ER : R = false := by rw [HBR.out]; simp
            subst ER
            clear HBR
            go_wp2_with (refine load_addr_o H16 HRA _ rfl rfl rfl ?_)
            go_ret
            exact ⟨rfl, HB.out⟩
        · have hdh3 : decide (tg.size = 0) = false := decide_eq_false h3
          rw [hdh3] at HBR
          have heh3 := isEmpty_false tg (by omega)
          have ER : R = false := by rw [HBR.out]; simp
          subst ER
          clear HBR
          go_wp2_with (refine load_addr_o H16 HRA _ rfl rfl rfl ?_)
          go_ret
          exact ⟨rfl, HB.out⟩
    · have hd2 : decide (f = 4) = false := decide_eq_false h2
      rw [hd2] at HBR
      have he2 : (f == 4) = false := by rw [beq_eq_false_iff_ne]; exact h2
      have ER : R = false := by rw [HBR.out]; simp
      subst ER
      clear HBR
      go_wp2_with (refine load_addr_o H16 HRA _ rfl rfl rfl ?_)
      go_ret
      exact ⟨rfl, HB.out⟩
  · have tbt1 : (ty == 1) = false := by rw [beq_eq_false_iff_ne]; exact t1
    rw [if_neg t1] at HBR
    clear t1
    by_cases t2 : ty = 28
    · have tbt2 : (ty == 28) = true := by rw [t2]; rfl
      rw [if_pos t2] at HBR
      clear t2
      by_cases h2 : f = 6
      · have hd2 : decide (f = 6) = true := decide_eq_true h2
        rw [hd2] at HBR
        have he2 : (f == 6) = true := by rw [h2]; rfl
        clear h2
        go_wp2_with (refine load_addr_o H16 HRA _ rfl rfl rfl ?_)
        refine (HMA _).out.mono ?_
        rintro e w1 ⟨rfl, hb1⟩
        replace HR := Lib.hid (HR.out.below hb1)
        replace HB := Lib.hid (chain HB.out hb1)
        clear hb1 c1 c4 c5 c6 HRA
        have c1 := HR.out.ty
        have c4 := HR.out.fam
        have c5 := HR.out.tg
        have c6 := HR.out.da
        have HRA := Lib.hid HR.out.addr
        simp only [Nat.zero_add] at c1 c4 c5 c6 HRA
        cases m3 with
        | false =>
          have ER : R = false := by rw [HBR.out]; simp
          subst ER
          clear HBR
          go_wp2_with (refine load_addr_o H16 HRA _ rfl rfl rfl ?_)
          go_ret
          exact ⟨rfl, HB.out⟩
        | true =>
          by_cases h3 : tg.size = 0
          · have hdh3 : decide (tg.size = 0) = true := decide_eq_true h3
            rw [hdh3] at HBR
            have heh3 := isEmpty_true tg h3
            by_cases h4 : da.size = 0
            · have hdh4 : decide (da.size = 0) = true := decide_eq_true h4
              rw [hdh4] at HBR
              have heh4 := isEmpty_true da h4
              have ER : R = true := by rw [HBR.out]; rfl
              subst ER
              clear HBR
              go_wp2_with (refine load_addr_o H16 HRA _ rfl rfl rfl ?_)
              go_ret
              exact ⟨rfl, HB.out⟩
            · have hdh4 : decide (da.size = 0) = false := decide_eq_false h4
              rw [hdh4] at HBR
              have heh4 := isEmpty_false da (by omega)
              have ER : R = false := by rw [HBR.out]; simp
              subst ER
              clear HBR
              go_wp2_with (refine load_addr_o H16 HRA _ rfl rfl rfl ?_)
              go_ret
              exact ⟨rfl, HB.out⟩
          · have hdh3 : decide (tg.size = 0) = false := decide_eq_false h3
            rw [hdh3] at HBR
            have heh3 := isEmpty_false tg (by omega)
            have ER : R = false := by rw [HBR.out]; simp
            subst ER
            clear HBR
            go_wp2_with (refine load_addr_o H16 HRA _ rfl rfl rfl ?_)
            go_ret
            exact ⟨rfl, HB.out⟩
      · have hd2 : decide (f = 6) = false := decide_eq_false h2
        rw [hd2] at HBR
        have he2 : (f == 6) = false := by rw [beq_eq_false_iff_ne]; exact h2
        have ER : R = false := by rw [HBR.out]; simp
        subst ER
        clear HBR
        go_wp2_with (refine load_addr_o H16 HRA _ rfl rfl rfl ?_)
        go_ret
        exact ⟨rfl, HB.out⟩
    · have tbt2 : (ty == 28) = false := by rw [beq_eq_false_iff_ne]; exact t2
      rw [if_neg t2] at HBR
      clear t2
      by_cases t3 : ty = 5
      · have tbt3 : (ty == 5) = true := by rw [t3]; rfl
        rw [if_pos t3] at HBR
        clear t3
        cases z3 with
        | false =>
          have ER : R = false := by rw [HBR.out]; simp
          subst ER
          clear HBR
          go_wp2_with (refine load_addr_o H16 HRA _ rfl rfl rfl ?_)
          go_ret
          exact ⟨rfl, HB.out⟩
        | true =>
          go_wp2_with (refine load_addr_o H16 HRA _ rfl rfl rfl ?_)
          refine (HMT _).out.mono ?_
          rintro e w1 ⟨rfl, hb1⟩
          replace HR := Lib.hid (HR.out.below hb1)
          replace HB := Lib.hid (chain HB.out hb1)
          clear hb1 c1 c4 c5 c6 HRA
          have c1 := HR.out.ty
          have c4 := HR.out.fam
          have c5 := HR.out.tg
          have c6 := HR.out.da
          have HRA := Lib.hid HR.out.addr
          simp only [Nat.zero_add] at c1 c4 c5 c6 HRA
          cases m2 with
          | false =>
            have ER : R = false := by rw [HBR.out]; simp
            subst ER
            clear HBR
            go_wp2_with (refine load_addr_o H16 HRA _ rfl rfl rfl ?_)
            go_ret
            exact ⟨rfl, HB.out⟩
          | true =>
            by_cases h4 : da.size = 0
            · have hdh4 : decide (da.size = 0) = true := decide_eq_true h4
              rw [hdh4] at HBR
              have heh4 := isEmpty_true da h4
              have ER : R = true := by rw [HBR.out]; rfl
              subst ER
              clear HBR
              go_wp2_with (refine load_addr_o H16 HRA _ rfl rfl rfl ?_)
              go_ret
              exact ⟨rfl, HB.out⟩
            · have hdh4 : decide (da.size = 0) = false := decide_eq_false h4
              rw [hdh4] at HBR
              have heh4 := isEmpty_false da (by omega)
              have ER : R = false := by rw [HBR.out]; simp
              subst ER
              clear HBR
              go_wp2_with (refine load_addr_o H16 HRA _ rfl rfl rfl ?_)
              go_ret
              exact ⟨rfl, HB.out⟩
      · have tbt3 : (ty == 5) = false := by rw [beq_eq_false_iff_ne]; exact t3
        rw [if_neg t3] at HBR
        clear t3
        cases z3 with
        | false =>
          have ER : R = false := by rw [HBR.out]; simp
          subst ER
          clear HBR
          go_wp2_with (refine load_addr_o H16 HRA _ rfl rfl rfl ?_)
          go_ret
          exact ⟨rfl, HB.out⟩
        | true =>
          by_cases h3 : tg.size = 0
          · have hdh3 : decide (tg.size = 0) = true := decide_eq_true h3
            rw [hdh3] at HBR
            have heh3 := isEmpty_true tg h3
            by_cases h5 : da.size ≤ 65535
            · have hd5 : decide (da.size ≤ 65535) = true := decide_eq_true h5
              rw [hd5] at HBR
              have he5 : decide ((da.size : Int) ≤ 65535) = true := decide_eq_true (by omega)
              have ER : R = true := by rw [HBR.out]; rfl
              subst ER
              clear HBR
              go_wp2_with (refine load_addr_o H16 HRA _ rfl rfl rfl ?_)
              go_ret
              exact ⟨rfl, HB.out⟩
            · have hd5 : decide (da.size ≤ 65535) = false := decide_eq_false h5
              rw [hd5] at HBR
              have he5 : decide ((da.size : Int) ≤ 65535) = false := decide_eq_false (by omega)
              have ER : R = false := by rw [HBR.out]; simp
              subst ER
              clear HBR
              go_wp2_with (refine load_addr_o H16 HRA _ rfl rfl rfl ?_)
              go_ret
              exact ⟨rfl, HB.out⟩
          · have hdh3 : decide (tg.size = 0) = false := decide_eq_false h3
            rw [hdh3] at HBR
            have heh3 := isEmpty_false tg (by omega)
            have ER : R = false := by rw [HBR.out]; simp
            subst ER
            clear HBR
            go_wp2_with (refine load_addr_o H16 HRA _ rfl rfl rfl ?_)
            go_ret
            exact ⟨rfl, HB.out⟩
end Go.Proofs.Yticdpidngmeebaa
/- Contract of the landed wire's mayRecords. -/
namespace Go.Proofs.Yticdpidngmeebaa
open Go.RowKit
set_option linter.unusedVariables false
set_option maxRecDepth 20000

set_option maxRecDepth 100000 in
set_option maxHeartbeats 4000000 in
theorem mayRecords_any (a : Option Addr) (cap : Nat) (D : List Rec) (w : World) (hD : RecsAt w a cap D) (hr : ∀ r ∈ D, Room r) (hl : D.length ≤ 1000000) :
    Calls Try.prog 39 #[.slice a D.length cap] w fun e w' => e = .returned (.bool (D.all mayR)) ∧ Below w.heap.size w w' := by
  have HD := Lib.hid hD
  have HRM := Lib.hid hr
  obtain ⟨R, hR⟩ : ∃ R, D.all mayR = R := ⟨_, rfl⟩
  have HAL := Lib.hid hR
  rw [hR]
  obtain ⟨N, hN⟩ : ∃ N, D.length = N := ⟨_, rfl⟩
  have HN := Lib.hid hN
  rw [hN] at hl ⊢
  clear hD hr hR hN
  go_enter Try.func39, Try.ntmps39
  go_wp2_with fail
  go_loopw [7] (fun i wr => ∃ k : Nat, k ≤ N ∧ i = .int .i64 (k : Int) ∧ Hid (∀ j (h : j < D.length), j < k → mayR D[j] = true) ∧ Hid (Below w.heap.size w wr)) (fun i _ => N - (intOf i).toNat)
  case atStart => exact ⟨0, Nat.zero_le _, rfl, Lib.hid (fun j _ h => absurd h (by omega)), Lib.hid (Below.refl _ _)⟩
  case round =>
    obtain ⟨k, hk, rfl, HO, HB⟩ := hrel
    by_cases hkN : k < N
    · have hd : decide ((k : Int) < (N : Int)) = true := decide_eq_true (by omega)
      have hdn : decide (k < N) = true := decide_eq_true hkN
      have hkD : k < D.length := by rw [HN.out]; exact hkN
      obtain ⟨g, o, ha, hg, hrg⟩ := (HD.out.below HB.out).at k hkD
      subst ha
      have HRG := Lib.hid hrg
      have hfit := HD.out.2.2.1 _ (List.getElem_mem hkD)
      have hroom := HRM.out _ (List.getElem_mem hkD)
      have H16 := Lib.hid hfit.1
      have HMN := fun W => Lib.hid (may_any (D[k]).name W (by have := hroom.1; omega))
      have HDA := fun W => Lib.hid (mayData_any D[k] W hfit hroom.2)
      have HNU := fun W => Lib.hid (mayNums2 (D[k]).ty (D[k]).cl W)
      have HIS := Lib.hid (mayR_is D[k])
      have HO2 : Hid (mayR D[k] = true → ∀ j (h : j < D.length), j < k + 1 → mayR D[j] = true) := Lib.hid (fun e j h hj => by
        by_cases h2 : j < k
        · exact HO.out j h h2
        · obtain rfl : j = k := by omega
          exact e)
      have HF : Hid (mayR D[k] = false → R = false) := Lib.hid (fun e => by
        rw [← HAL.out, List.all_eq_false]
        exact ⟨D[k], List.getElem_mem hkD, by rw [e]; decide⟩)
      generalize D[k] = r at *
      generalize mayR r = mr at *
      generalize mayD r = md at *
      generalize mayN r.name = m1 at *
      generalize (wordN r.ty && wordN r.cl) = m2 at *
      have hb1 : (0 : Int) ≤ (k : Int) := by omega
      have hb2 : (k : Int) < (N : Int) := by omega
      have HZ := Lib.hid (rec_zeroed wr)
      have HZB : Hid (Below wr.heap.size wr (wr.alloc (.cells zC 42))) := Lib.hid ((Below.refl _ _).alloc (Nat.le_refl _) _)
      have HLW : Hid (w.heap.size ≤ wr.heap.size) := Lib.hid HB.out.size
      clear hrg hfit hroom hg HO
      go_upto_region 4 with (first | refine load_rec H16 HRG _ rfl rfl rfl ?_ | refine store_rec HZ _ _ H16 rfl rfl rfl rfl (fun W HW HX => ?_))
      have HB2 : Hid (Below w.heap.size w W) := Lib.hid (by rw [HW.out]; exact below_cells HLW.out _ _ _ (chain HB.out HZB.out))
      generalize wr.heap.size = P at *
      clear HW HZ HZB HB HRG HLW
      have c0 := HX.out.parts.name
      go_wp2_with fail
      refine (HMN _).out.mono ?_
      rintro e w2 ⟨rfl, hbx⟩
      replace HX := Lib.hid (HX.out.below hbx)
      replace HB2 := Lib.hid (chain HB2.out hbx)
      clear hbx HMN c0
      have c1 := HX.out.parts.ty
      have c2 := HX.out.parts.cl
      simp only [Nat.zero_add] at c1 c2
      cases m1 with
      | false =>
        have ER := HF.out (by rw [HIS.out]; rfl)
        subst ER
        clear HO2 HF HIS
        go_wp2_with fail
        go_ret
        exact ⟨rfl, HB2.out⟩
      | true =>
        go_wp2_with fail
        refine (HNU _).out.mono ?_
        rintro e w3 ⟨rfl, hw3⟩
        have hbx : Below w2.heap.size w2 w3 := by rw [hw3]; exact (Below.refl _ _).alloc (Nat.le_refl _) _
        replace HX := Lib.hid (HX.out.below hbx)
        replace HB2 := Lib.hid (chain HB2.out hbx)
        clear hw3 hbx HNU c1 c2
        have c3 := HX.out.parts.ttl
        simp only [Nat.zero_add] at c3
        cases m2 with
        | false =>
          have ER := HF.out (by rw [HIS.out]; rfl)
          subst ER
          clear HO2 HF HIS
          go_wp2_with fail
          go_ret
          exact ⟨rfl, HB2.out⟩
        | true =>
          by_cases h0 : r.ttl < 0
          · have hd0 : decide (r.ttl < 0) = true := decide_eq_true h0
            have ER := HF.out (by rw [HIS.out, decide_eq_false (show ¬ 0 ≤ r.ttl by omega)]; rfl)
            subst ER
            clear HO2 HF HIS
            go_wp2_with fail
            go_ret
            exact ⟨rfl, HB2.out⟩
          · have hd0 : decide (r.ttl < 0) = false := decide_eq_false h0
            have he0 : decide (0 ≤ r.ttl) = true := decide_eq_true (by omega)
            rw [he0] at HIS
            by_cases h1 : 2147483647 < r.ttl
            · have hd1 : decide (2147483647 < r.ttl) = true := decide_eq_true h1
              have ER := HF.out (by rw [HIS.out, decide_eq_false (show ¬ r.ttl ≤ 2147483647 by omega)]; rfl)
              subst ER
              clear HO2 HF HIS
              go_wp2_with fail
              go_ret
              exact ⟨rfl, HB2.out⟩
            · have hd1 : decide (2147483647 < r.ttl) = false := decide_eq_false h1
              have he1 : decide (r.ttl ≤ 2147483647) = true := decide_eq_true (by omega)
              rw [he1] at HIS
              clear he0 he1
              go_wp2_with (refine load_recAt HX _ rfl rfl rfl ?_)
              refine (HDA _).out.mono ?_
              rintro e w4 ⟨rfl, hbx⟩
              replace HB2 := Lib.hid (chain HB2.out hbx)
              clear hbx HDA HX c3 hd0 hd1 h0 h1
              cases md with
              | false =>
                have ER := HF.out (by rw [HIS.out]; rfl)
                subst ER
                clear HO2 HF HIS
                go_wp2_with fail
                go_ret
                exact ⟨rfl, HB2.out⟩
              | true =>
                have HO3 := Lib.hid (HO2.out (by rw [HIS.out]; rfl))
                clear HO2 HF HIS
                go_wp2_with fail
                go_roundw
                case rel => exact ⟨k + 1, by omega, by go_num, HO3, HB2⟩
                case measure => simp [intOf]; omega
    · obtain rfl : k = N := by omega
      have hd : decide ((k : Int) < (k : Int)) = false := by simp
      have ER : R = true := by
        rw [← HAL.out, List.all_eq_true]
        intro r hr
        obtain ⟨j, hj, rfl⟩ := List.getElem_of_mem hr
        exact HO.out j hj (by rw [← HN.out]; exact hj)
      subst ER
      clear HO
      go_wp2_with fail
      go_ret
      exact ⟨rfl, HB.out⟩
end Go.Proofs.Yticdpidngmeebaa
/- Contract of the landed wire's May. -/
namespace Go.Proofs.Yticdpidngmeebaa
open Go.RowKit
set_option linter.unusedVariables false
set_option maxRecDepth 20000

/-- What was asked, loaded whole. -/
theorem load_qu {ops : Array Oper} {rest : List Oper} {op : Oper} {a : Act} {w : World} {Q : Exit → Act → World → Prop} {G o : Nat} {q : Qu} (hA : Hid (w.rangeAt G o (quL q))) (x : Operand) (hw : Region.wanted op (yielded ops a.tmps) = true) (ho : op.op = .load 51 x)
    (hx : a.eval x = .pointer (some ⟨G, o, none⟩)) (h : wpList Try.prog ops Q rest (a.put op.dst (quV q)) w) : wpList Try.prog ops Q (op :: rest) a w :=
  wpList_load_row hw 51 x ho G o hx (quL q) _ hA.out Try.underlying51 rfl (by rw [qu_size]; rfl) h
set_option maxRecDepth 100000 in
set_option maxHeartbeats 4000000 in
theorem may9_any (m : Msg) (aq a1 a2 a3 : Option Addr) (cq c1 c2 c3 : Nat) (w : World) (hM : MsgIn w m aq a1 a2 a3 cq c1 c2 c3) (hr : RoomM m) :
    Calls Try.prog 13 #[msgV m aq a1 a2 a3 cq c1 c2 c3] w fun e w' => e = .returned (.bool (mayM m)) ∧ Below w.heap.size w w' := by
  unfold msgV
  obtain ⟨hr1, hr2, hr3, hr4, hl1, hl2, hl3, hl4⟩ := hr
  have HMI := Lib.hid hM
  have HQR := Lib.hid hr1
  have HA1 := fun W (h : MsgIn W m aq a1 a2 a3 cq c1 c2 c3) => Lib.hid (mayRecords_any a1 c1 m.an W h.an hr2 hl2)
  have HA2 := fun W (h : MsgIn W m aq a1 a2 a3 cq c1 c2 c3) => Lib.hid (mayRecords_any a2 c2 m.au W h.au hr3 hl3)
  have HA3 := fun W (h : MsgIn W m aq a1 a2 a3 cq c1 c2 c3) => Lib.hid (mayRecords_any a3 c3 m.mo W h.mo hr4 hl4)
  have HNU := fun a b W => Lib.hid (mayNums2 a b W)
  obtain ⟨R, hR⟩ : ∃ R, mayM m = R := ⟨_, rfl⟩
  have HRM : Hid (R = (m.qs.all mayQ9 && wordN m.id && wordN m.fl && m.an.all mayR && m.au.all mayR && m.mo.all mayR)) := Lib.hid hR.symm
  rw [hR]
  obtain ⟨W, hW⟩ : ∃ W, w.alloc (.cells #[.int .i64 m.id, .int .i64 m.fl, .slice aq m.qs.length cq, .slice a1 m.an.length c1, .slice a2 m.au.length c2, .slice a3 m.mo.length c3] 25) = W := ⟨_, rfl⟩
  have HB0 : Hid (Below w.heap.size w W) := Lib.hid (by rw [← hW]; exact (Below.refl _ _).alloc (Nat.le_refl _) _)
  have HBX : Hid (MBox W w.heap.size (.int .i64 m.id) (.int .i64 m.fl) (.slice aq m.qs.length cq) (.slice a1 m.an.length c1) (.slice a2 m.au.length c2) (.slice a3 m.mo.length c3)) := Lib.hid (by rw [← hW]; exact MBox.new w _ _ _ _ _ _ _)
  obtain ⟨N, hN⟩ : ∃ N, m.qs.length = N := ⟨_, rfl⟩
  have HN := Lib.hid hN
  rw [hN] at hl1 HBX hW ⊢
  generalize m.an.all mayR = r1 at *
  generalize m.au.all mayR = r2 at *
  generalize m.mo.all mayR = r3 at *
  generalize m.an.length = n1 at *
  generalize m.au.length = n2 at *
  generalize m.mo.length = n3 at *
  clear hM hr1 hr2 hr3 hr4 hR hN
  go_enter Try.func13, Try.ntmps13
  go_upto_region 1 with fail
  try rw [hW]
  clear hW
  obtain ⟨G, hG⟩ : ∃ G, w.heap.size = G := ⟨_, rfl⟩
  rw [hG] at HBX
  try rw [hG]
  have x0 := HBX.out.c0
  have x1 := HBX.out.c1
  go_wp2_with fail
  refine (HNU _ _ _).out.mono ?_
  rintro e w1 ⟨rfl, hw1⟩
  have hbx : Below W.heap.size W w1 := by rw [hw1]; exact (Below.refl _ _).alloc (Nat.le_refl _) _
  replace HB0 := Lib.hid (chain HB0.out hbx)
  replace HBX := Lib.hid (HBX.out.below hbx)
  clear hw1 hbx x0 x1
  cases hw1 : (wordN m.id && wordN m.fl) with
  | false =>
    have ER : R = false := by
      rw [HRM.out]
      revert hw1
      generalize wordN m.id = u
      generalize wordN m.fl = v
      generalize m.qs.all mayQ9 = x
      cases u <;> cases v <;> cases x <;> simp
    subst ER
    clear HRM
    go_wp2_with fail
    go_ret
    exact ⟨rfl, HB0.out⟩
  | true =>
  have HRM2 : Hid (R = (m.qs.all mayQ9 && r1 && r2 && r3)) := Lib.hid (by
    rw [HRM.out]
    revert hw1
    generalize wordN m.id = u
    generalize wordN m.fl = v
    generalize m.qs.all mayQ9 = x
    cases u <;> cases v <;> cases x <;> simp)
  clear HRM hw1
  have x2 := HBX.out.c2
  go_wp2_with fail
  clear x2
  go_loopw [15] (fun i wr => ∃ k : Nat, k ≤ N ∧ i = .int .i64 (k : Int) ∧ Hid (∀ j (h : j < m.qs.length), j < k → mayQ9 m.qs[j] = true) ∧ Hid (MBox wr G (.int .i64 m.id) (.int .i64 m.fl) (.slice aq N cq) (.slice a1 n1 c1) (.slice a2 n2 c2) (.slice a3 n3 c3)) ∧ Hid (Below w.heap.size w wr)) (fun i _ => N - (intOf i).toNat)
  case atStart => exact ⟨0, Nat.zero_le _, rfl, Lib.hid (fun j _ h => absurd h (by omega)), HBX, HB0⟩
  case round =>
    clear HBX HB0
    obtain ⟨k, hk, rfl, HO, HX, HB⟩ := hrel
    by_cases hkN : k < N
    · have hd : decide ((k : Int) < (N : Int)) = true := decide_eq_true (by omega)
      have hdn : decide (k < N) = true := decide_eq_true hkN
      have hkD : k < m.qs.length := by rw [HN.out]; exact hkN
      have hroom := HQR.out _ (List.getElem_mem hkD)
      have HMN := fun W => Lib.hid (may_any (m.qs[k]).name W (by omega))
      obtain ⟨g, o, ha, hg, z0, z1, z2⟩ := (HMI.out.qs.below HB.out).at k hkD
      subst ha
      have HO2 : Hid (mayQ9 m.qs[k] = true → ∀ j (h : j < m.qs.length), j < k + 1 → mayQ9 m.qs[j] = true) := Lib.hid (fun e j h hj => by
        by_cases h2 : j < k
        · exact HO.out j h h2
        · obtain rfl : j = k := by omega
          exact e)
      have HF : Hid (mayQ9 m.qs[k] = false → R = false) := Lib.hid (fun e => by
        rw [HRM2.out]
        have : m.qs.all mayQ9 = false := by
          rw [List.all_eq_false]
          exact ⟨m.qs[k], List.getElem_mem hkD, by rw [e]; decide⟩
        rw [this]
        rfl)
      generalize m.qs[k] = q at *
      obtain ⟨nm, ty, cl⟩ := q
      simp only at HMN z0 z1 z2
      have HQE : Hid (mayQ9 ⟨nm, ty, cl⟩ = (mayN nm && (wordN ty && wordN cl))) := Lib.hid (Bool.and_assoc _ _ _)
      generalize mayQ9 ⟨nm, ty, cl⟩ = mq at *
      generalize mayN nm = m1 at *
      have hb1 : (0 : Int) ≤ (k : Int) := by omega
      have hb2 : (k : Int) < (N : Int) := by omega
      have HVB : Hid (Below wr.heap.size wr (wr.alloc (.cells #[.string nm, .int .i64 ty, .int .i64 cl] 51))) := Lib.hid ((Below.refl _ _).alloc (Nat.le_refl _) _)
      have HVC : Hid ((wr.alloc (.cells #[.string nm, .int .i64 ty, .int .i64 cl] 51)).rangeAt wr.heap.size 0 (quL ⟨nm, ty, cl⟩)) := Lib.hid (built_new 51)
      clear hroom hg HO
      go_upto_region 6 with fail
      replace HX := Lib.hid (HX.out.below HVB.out)
      replace HB := Lib.hid (chain HB.out HVB.out)
      have HLV : Hid (wr.heap.size < (wr.alloc (.cells #[.string nm, .int .i64 ty, .int .i64 cl] 51)).heap.size) := Lib.hid (by simp)
      obtain ⟨V, hV⟩ : ∃ V, wr.alloc (.cells #[.string nm, .int .i64 ty, .int .i64 cl] 51) = V := ⟨_, rfl⟩
      rw [hV] at HX HB HVC HLV
      try rw [hV]
      generalize wr.heap.size = P at *
      clear HVB hV z0 z1 z2
      have y0 := HVC.out 0 _ rfl
      go_wp2_with fail
      refine (HMN _).out.mono ?_
      rintro e w2 ⟨rfl, hbx⟩
      replace HB := Lib.hid (chain HB.out hbx)
      replace HX := Lib.hid (HX.out.below hbx)
      have y1 := (hbx.cell (p := ⟨P, 1, none⟩) HLV.out).trans (HVC.out 1 _ rfl)
      have y2 := (hbx.cell (p := ⟨P, 2, none⟩) HLV.out).trans (HVC.out 2 _ rfl)
      clear hbx HMN y0 HVC HLV
      cases m1 with
      | false =>
        have ER := HF.out HQE.out
        subst ER
        clear HF HO2 HQE
        go_wp2_with fail
        go_ret
        exact ⟨rfl, HB.out⟩
      | true =>
        go_wp2_with fail
        refine (HNU _ _ _).out.mono ?_
        rintro e w3 ⟨rfl, hw3⟩
        have hbx : Below w2.heap.size w2 w3 := by rw [hw3]; exact (Below.refl _ _).alloc (Nat.le_refl _) _
        replace HX := Lib.hid (HX.out.below hbx)
        replace HB := Lib.hid (chain HB.out hbx)
        clear hw3 hbx y1 y2
        cases hww : (wordN ty && wordN cl) with
        | false =>
          rw [hww] at HQE
          have ER := HF.out HQE.out
          subst ER
          clear HF HO2 HQE
          go_wp2_with fail
          go_ret
          exact ⟨rfl, HB.out⟩
        | true =>
          rw [hww] at HQE
          have HO3 := Lib.hid (HO2.out HQE.out)
          clear HF HO2 HQE hww
          go_wp2_with fail
          go_roundw
          case rel => exact ⟨k + 1, by omega, by go_num, HO3, HX, HB⟩
          case measure => simp [intOf]; omega
    · obtain rfl : k = N := by omega
      have hd : decide ((k : Int) < (k : Int)) = false := by simp
      have HAL : Hid (m.qs.all mayQ9 = true) := Lib.hid (by
        rw [List.all_eq_true]
        intro r hr
        obtain ⟨j, hj, rfl⟩ := List.getElem_of_mem hr
        exact HO.out j hj (by rw [← HN.out]; exact hj))
      have ER := HRM2.out
      rw [HAL.out] at ER
      subst ER
      have x3 := HX.out.c3
      clear HO HAL HRM2
      go_wp2_with fail
      refine (HA1 _ (HMI.out.below HB.out)).out.mono ?_
      rintro e w2 ⟨rfl, hbx⟩
      replace HB := Lib.hid (chain HB.out hbx)
      replace HX := Lib.hid (HX.out.below hbx)
      clear hbx HA1 x3
      have x4 := HX.out.c4
      cases r1 with
      | false =>
        go_wp2_with fail
        go_ret
        exact ⟨rfl, HB.out⟩
      | true =>
        go_wp2_with fail
        refine (HA2 _ (HMI.out.below HB.out)).out.mono ?_
        rintro e w3 ⟨rfl, hbx⟩
        replace HB := Lib.hid (chain HB.out hbx)
        replace HX := Lib.hid (HX.out.below hbx)
        clear hbx HA2 x4
        have x5 := HX.out.c5
        cases r2 with
        | false =>
          go_wp2_with fail
          go_ret
          exact ⟨rfl, HB.out⟩
        | true =>
          go_wp2_with fail
          refine (HA3 _ (HMI.out.below HB.out)).out.mono ?_
          rintro e w4 ⟨rfl, hbx⟩
          replace HB := Lib.hid (chain HB.out hbx)
          clear hbx HA3 x5 HX
          cases r3 with
          | false =>
            go_wp2_with fail
            go_ret
            exact ⟨rfl, HB.out⟩
          | true =>
            go_wp2_with fail
            go_ret
            exact ⟨rfl, HB.out⟩
end Go.Proofs.Yticdpidngmeebaa
/- A writer of names as it lies in memory: its bytes, its map of names; kept beside other writes. -/
namespace Go.Proofs.Yticdpidngmeebaa
open Go.RowKit Go.Maps
set_option linter.unusedVariables false
set_option maxRecDepth 20000

abbrev DU := DataW Unit
def keyS (x : ByteArray) : Lit := .string x.data.toList
/-- What is kept is told. -/
def TellsM (D : DU) (ns : List ByteArray) (ats : List Nat) : Prop :=
  ∀ x : ByteArray, Maps.has D (keyS x) = (find8 ns ats x).isSome ∧ ∀ n, find8 ns ats x = some n → D.atKey (keyS x) (.lit (.int .i64 0)) = .lit (.int .i64 ((n : Nat) : Int))
/-- A map of names, which may be nil. -/
def MapAt (w : World) (B : Nat) (m : Option Nat) (ns : List ByteArray) (ats : List Nat) : Prop :=
  match m with
  | none => ns = [] ∧ ats = []
  | some b => B ≤ b ∧ ∃ n D, w.ownsMap Try.prog 9 (plainElem (H := Unit) Try.prog 3) b n D ∧ n ≤ ns.length ∧ TellsM D ns ats
theorem Try.lawS : Keyed Try.prog 9 := string_keyed Try.underlying9
theorem Try.zeroInt8 (w : World) : (zeroValue 3).run Try.prog w = .ok (.int .i64 0) w := by kernel_rfl
theorem key_is (x : ByteArray) (hx : x.size ≤ 2000000) : keyOf Try.prog 9 (.string x) = some (keyS x) := WideMaps.keyOf_string_mk (P := Try.prog) Try.underlying9 (by unfold maxLen; omega)
theorem key_lit (x : ByteArray) : WideAt.IsKeyLit (keyS x) := trivial
theorem key_inj {x y : ByteArray} (h : keyS x = keyS y) : x = y := bytes_ext (by unfold keyS at h; injection h)
theorem find8_snoc : ∀ (ns : List ByteArray) (ats : List Nat) (x : ByteArray) (n : Nat) (y : ByteArray), ats.length = ns.length → find8 (ns ++ [x]) (ats ++ [n]) y = match find8 ns ats y with | some k => some k | none => if x = y then some n else none
  | [], [], x, n, y, _ => by simp [find8]
  | [], _ :: _, _, _, _, h => by simp at h
  | _ :: _, [], _, _, _, h => by simp at h
  | p :: ns, a :: ats, x, n, y, h => by
    have ih := find8_snoc ns ats x n y (by simpa using h)
    simp only [List.cons_append, find8]
    by_cases hp : p = y
    · rw [if_pos hp, if_pos hp]
    · rw [if_neg hp, if_neg hp, ih]
/-- A name looked up. -/
theorem MapAt.look {w : World} {B : Nat} {m : Option Nat} {ns : List ByteArray} {ats : List Nat} (h : MapAt w B m ns ats) (x : ByteArray) (hx : x.size ≤ 2000000) :
    (Instr.lookup 58 (.map m) (.string x) true).run Try.prog w = .ok (.tuple #[.int .i64 (((find8 ns ats x).getD 0 : Nat) : Int), .bool (find8 ns ats x).isSome]) w := by
  cases m with
  | none =>
    obtain ⟨rfl, rfl⟩ := h
    have := Maps.look_nil (P := Try.prog) (w := w) true Try.lawS Try.underlying58 (Try.zeroInt8 w) (key_is x hx)
    rw [this]
    rfl
  | some b =>
    obtain ⟨_, n, D, ho, _, ht⟩ := h
    obtain ⟨v, ps, hr, hv⟩ := ho.look_ok Try.lawS Try.underlying58 (Try.zeroInt8 w) (plainElem_int Try.underlying3 (by decide)) (key_is x hx)
    obtain ⟨c, rfl, hc, _⟩ := plainElem_int_inv Try.underlying3 hv
    rw [hr, (ht x).1]
    have hc1 : D.atKey (keyS x) (.lit (.int .i64 0)) = .lit (.int .i64 c) := (Prod.mk.inj hc).1
    cases hf : find8 ns ats x with
    | none =>
      have hn : Maps.has D (keyS x) = false := by rw [(ht x).1, hf]; rfl
      rw [Maps.atKey_of_not_has hn] at hc1
      have : c = 0 := by injection hc1 with h; injection h with _ h; exact h.symm
      rw [this]
      rfl
    | some k =>
      rw [(ht x).2 k hf] at hc1
      have : c = ((k : Nat) : Int) := by injection hc1 with h; injection h with _ h; exact h.symm
      rw [this]
      rfl
/-- A new name kept. -/
theorem MapAt.store {w : World} {B b : Nat} {ns : List ByteArray} {ats : List Nat} (h : MapAt w B (some b) ns ats) (x : ByteArray) (n : Nat) (hx : x.size ≤ 2000000) (hn : n ≤ 2000000) (hns : ns.length ≤ 2000000) (hl : ats.length = ns.length) (hf : find8 ns ats x = none) :
    ∃ w', (Instr.mapUpdate 58 (.map (some b)) (.string x) (.int .i64 (n : Int))).run Try.prog w = .ok () w' ∧ MapAt w' B (some b) (ns ++ [x]) (ats ++ [n]) ∧ w.grownBy w' (some b) := by
  obtain ⟨hB, k, D, ho, hk, ht⟩ := h
  have wf : (Lit.int .i64 (n : Int)).wf = true := WalkArith.wf_i64 (by omega)
  obtain ⟨w', hr, ho', hg⟩ := ho.update Try.lawS Try.underlying58 (by unfold maxLen; omega) (key_is x hx) (plainElem_int (H := Unit) Try.underlying3 wf)
  refine ⟨w', hr, ⟨hB, k + 1, _, ho', by simp; omega, fun y => ?_⟩, hg⟩
  rw [find8_snoc ns ats x n y hl]
  by_cases hxy : x = y
  · subst hxy
    rw [hf, if_pos rfl]
    refine ⟨Maps.has_put_same ho.isMap (key_lit x) _, fun q hq => ?_⟩
    have : n = q := by simpa using hq
    subst this
    exact Maps.atKey_put_same ho.isMap (key_lit x) _ _
  · have hne : keyS y ≠ keyS x := fun e => hxy (key_inj e).symm
    rw [if_neg hxy, Maps.has_put_other hne, Maps.atKey_put_other hne]
    have hy := ht y
    cases hf2 : find8 ns ats y with
    | none => rw [hf2] at hy; exact hy
    | some q => rw [hf2] at hy; exact hy
theorem mapAt_made (w : World) (B : Nat) (hB : B ≤ w.heap.size) : MapAt (w.alloc (.map #[] 0)) B (some w.heap.size) [] [] :=
  ⟨hB, 0, _, World.ownsMap_made w _ _ _, Nat.le_refl _, fun x => ⟨rfl, fun n hn => by cases hn⟩⟩
theorem MapAt.kept {w w' : World} {B : Nat} {m : Option Nat} {ns : List ByteArray} {ats : List Nat} (h : MapAt w B m ns ats) (hk : ∀ b, m = some b → w'.heap[b]? = w.heap[b]?) : MapAt w' B m ns ats := by
  cases m with
  | none => exact h
  | some b =>
    obtain ⟨hB, n, D, ⟨es, cl, hb, r⟩, hn, ht⟩ := h
    exact ⟨hB, n, D, ⟨es, cl, (hk b rfl).trans hb, r⟩, hn, ht⟩
theorem MapAt.block {w : World} {B b : Nat} {ns : List ByteArray} {ats : List Nat} (h : MapAt w B (some b) ns ats) : ∃ es cl, w.heap[b]? = some (.map es cl) := by
  obtain ⟨_, n, D, ⟨es, cl, hb, _⟩, _⟩ := h
  exact ⟨es, cl, hb⟩
theorem MapAt.lt {w : World} {B b : Nat} {ns : List ByteArray} {ats : List Nat} (h : MapAt w B (some b) ns ats) : b < w.heap.size := by
  obtain ⟨_, _, hb⟩ := h.block
  exact (Array.getElem?_eq_some_iff.1 hb).1
/-- A writer at block G. -/
structure WrAt (w : World) (G B : Nat) (vB : Value) (m : Option Nat) (l : List UInt8) (ns : List ByteArray) (ats : List Nat) : Prop where
  c0 : w.cell? ⟨G, 0, none⟩ = some vB
  c1 : w.cell? ⟨G, 1, none⟩ = some (.map m)
  f0 : w.frozen? ⟨G, 0, none⟩ = false
  f1 : w.frozen? ⟨G, 1, none⟩ = false
  rb : w.ownsRow B 5 1 vB l.length (bys l)
  mp : MapAt w B m ns ats
  nb : vB.ownBlock ≠ some G
  gb : B ≤ G
def wblk (G : Nat) (vB : Value) (m : Option Nat) : List Nat := [G] ++ vB.ownBlock.toList ++ m.toList
theorem mem_wblk {G k : Nat} {vB : Value} {m : Option Nat} : k ∈ wblk G vB m ↔ k = G ∨ vB.ownBlock = some k ∨ m = some k := by simp [wblk]
section
variable {w w' : World} {G B : Nat} {vB : Value} {m : Option Nat} {l : List UInt8} {ns : List ByteArray} {ats : List Nat}
theorem WrAt.lt (h : WrAt w G B vB m l ns ats) : G < w.heap.size := World.block_lt_of_cell? w ⟨G, 0, none⟩ h.c0
theorem WrAt.mG (h : WrAt w G B vB m l ns ats) : m ≠ some G := by
  rintro rfl
  obtain ⟨es, cl, hb⟩ := h.mp.block
  have := h.c0
  simp [World.cell?, hb] at this
theorem WrAt.mB (h : WrAt w G B vB m l ns ats) (b : Nat) (hm : m = some b) : vB.ownBlock ≠ some b := by
  subst hm
  intro e
  obtain ⟨es, cl, hb⟩ := h.mp.block
  rcases h.rb.2 with ⟨rfl, _⟩ | ⟨g, cap, cur, rfl, _, e3, _⟩
  · cases e
  · cases e
    rw [e3] at hb
    cases hb
theorem WrAt.kept (h : WrAt w G B vB m l ns ats) (hk : ∀ k ∈ wblk G vB m, w'.heap[k]? = w.heap[k]?) : WrAt w' G B vB m l ns ats := by
  have hG := hk G (mem_wblk.2 (.inl rfl))
  exact ⟨(World.cell?_of_block (a := ⟨G, 0, none⟩) hG).trans h.c0, (World.cell?_of_block (a := ⟨G, 1, none⟩) hG).trans h.c1, (World.frozen?_of_block (a := ⟨G, 0, none⟩) hG).trans h.f0, (World.frozen?_of_block (a := ⟨G, 1, none⟩) hG).trans h.f1, own_kept h.rb (fun g hg => hk g (mem_wblk.2 (.inr (.inl hg)))), h.mp.kept (fun b hb => hk b (mem_wblk.2 (.inr (.inr hb)))), h.nb, h.gb⟩
theorem WrAt.blk_lt (h : WrAt w G B vB m l ns ats) : ∀ k ∈ wblk G vB m, k < w.heap.size := by
  intro k hk
  rcases mem_wblk.1 hk with rfl | e | rfl
  · exact h.lt
  · exact (h.rb.lt k e).2
  · exact h.mp.lt
theorem WrAt.blk_ge (h : WrAt w G B vB m l ns ats) : ∀ k ∈ wblk G vB m, B ≤ k := by
  intro k hk
  rcases mem_wblk.1 hk with rfl | e | rfl
  · exact h.gb
  · exact (h.rb.lt k e).1
  · exact h.mp.1
theorem WrAt.below (h : WrAt w G B vB m l ns ats) (hb : Below w.heap.size w w') : WrAt w' G B vB m l ns ats := h.kept (fun k hk => hb.block k (h.blk_lt k hk))
/-- Bytes put behind, the field stored. -/
theorem WrAt.put0 (h : WrAt w G B vB m l ns ats) {v' : Value} {l' : List UInt8} (hown : w'.ownsRow B 5 1 v' l'.length (bys l')) (hg : w.grownBy w' vB.ownBlock) (hf : Foot vB.ownBlock.toList v'.ownBlock.toList w w') :
    WrAt (w'.setCell ⟨G, 0, none⟩ v') G B v' m l' ns ats ∧ Foot (wblk G vB m) (wblk G v' m) w (w'.setCell ⟨G, 0, none⟩ v') := by
  have hnew : ∀ k, v'.ownBlock = some k → vB.ownBlock = some k ∨ w.heap.size ≤ k := fun k hk => (hf.new k (by rw [hk]; simp)).imp (fun e => by simpa using e) id
  have hset : ∀ k, k ≠ G → (w'.setCell ⟨G, 0, none⟩ v').heap[k]? = w'.heap[k]? := fun k hk => Below.heap_setCell w' ⟨G, 0, none⟩ v' k hk
  have hssz : (w'.setCell ⟨G, 0, none⟩ v').heap.size = w'.heap.size := by simp [World.setCell]
  have hG : w'.heap[G]? = w.heap[G]? := hg.block G h.lt (fun e => h.nb e.symm)
  have hl := h.lt
  have hnG : v'.ownBlock ≠ some G := fun e => by
    rcases hnew G e with e | e
    · exact h.nb e
    · omega
  refine ⟨⟨World.cell?_setCell_same _ _ _ ((World.cell?_of_block (a := ⟨G, 0, none⟩) hG).trans h.c0), (World.cell?_setCell_other _ _ _ _ (by intro h; injection h; omega)).trans ((World.cell?_of_block (a := ⟨G, 1, none⟩) hG).trans h.c1), by rw [World.frozen?_setCell]; exact (World.frozen?_of_block (a := ⟨G, 0, none⟩) hG).trans h.f0, by rw [World.frozen?_setCell]; exact (World.frozen?_of_block (a := ⟨G, 1, none⟩) hG).trans h.f1, own_kept hown (fun k hk => hset k (fun e => hnG (by rw [← e]; exact hk))), h.mp.kept (fun b hb => (hset b (fun e => h.mG (by rw [hb, e]))).trans (hg.block b (by subst hb; exact h.mp.lt) (fun e => h.mB b hb e.symm))), hnG, h.gb⟩, ?_⟩
  refine ⟨hg.os, hg.tape, hg.output, by rw [hssz]; exact hg.size, fun k hk hn => ?_, fun k hk => ?_⟩
  · rw [hset k (fun e => hn (mem_wblk.2 (.inl e)))]
    exact hg.block k hk (fun e => hn (mem_wblk.2 (.inr (.inl e.symm))))
  · rcases mem_wblk.1 hk with e | e | e
    · exact .inl (mem_wblk.2 (.inl e))
    · exact (hnew k e).imp (fun e => mem_wblk.2 (.inr (.inl e))) id
    · exact .inl (mem_wblk.2 (.inr (.inr e)))
/-- A name kept. -/
theorem WrAt.noted {b : Nat} {x : ByteArray} {n : Nat} (h : WrAt w G B vB (some b) l ns ats) (hm : MapAt w' B (some b) (ns ++ [x]) (ats ++ [n])) (hg : w.grownBy w' (some b)) :
    WrAt w' G B vB (some b) l (ns ++ [x]) (ats ++ [n]) ∧ Foot (wblk G vB (some b)) (wblk G vB (some b)) w w' := by
  have hG : w'.heap[G]? = w.heap[G]? := hg.block G h.lt (fun e => h.mG e.symm)
  refine ⟨⟨(World.cell?_of_block (a := ⟨G, 0, none⟩) hG).trans h.c0, (World.cell?_of_block (a := ⟨G, 1, none⟩) hG).trans h.c1, (World.frozen?_of_block (a := ⟨G, 0, none⟩) hG).trans h.f0, (World.frozen?_of_block (a := ⟨G, 1, none⟩) hG).trans h.f1, own_kept h.rb (fun g hg2 => hg.block g (h.rb.lt g hg2).2 (fun e => h.mB b rfl (by rw [hg2]; exact e))), hm, h.nb, h.gb⟩, hg.os, hg.tape, hg.output, hg.size, fun k hk hn => hg.block k hk (fun e => hn (mem_wblk.2 (.inr (.inr e.symm)))), fun k hk => .inl hk⟩
/-- The map made. -/
theorem WrAt.made (h : WrAt w G B vB none l ns ats) (hB : B ≤ w.heap.size) :
    WrAt ((w.alloc (.map #[] 0)).setCell ⟨G, 1, none⟩ (.map (some w.heap.size))) G B vB (some w.heap.size) l ns ats ∧ Foot (wblk G vB none) (wblk G vB (some w.heap.size)) w ((w.alloc (.map #[] 0)).setCell ⟨G, 1, none⟩ (.map (some w.heap.size))) := by
  obtain ⟨rfl, rfl⟩ := h.mp
  have hl := h.lt
  have hb : Below w.heap.size w (w.alloc (.map #[] 0)) := (Below.refl _ _).alloc (Nat.le_refl _) _
  have hset : ∀ k, k ≠ G → ((w.alloc (.map #[] 0)).setCell ⟨G, 1, none⟩ (.map (some w.heap.size))).heap[k]? = (w.alloc (.map #[] 0)).heap[k]? := fun k hk => Below.heap_setCell _ ⟨G, 1, none⟩ _ k hk
  have hG : (w.alloc (.map #[] 0)).heap[G]? = w.heap[G]? := hb.block G hl
  refine ⟨⟨(World.cell?_setCell_other _ _ _ _ (by intro h; injection h; omega)).trans ((World.cell?_of_block (a := ⟨G, 0, none⟩) hG).trans h.c0), World.cell?_setCell_same _ _ _ ((World.cell?_of_block (a := ⟨G, 1, none⟩) hG).trans h.c1), by rw [World.frozen?_setCell]; exact (World.frozen?_of_block (a := ⟨G, 0, none⟩) hG).trans h.f0, by rw [World.frozen?_setCell]; exact (World.frozen?_of_block (a := ⟨G, 1, none⟩) hG).trans h.f1, own_kept (own_below8 h.rb hb) (fun k hk => hset k (fun e => h.nb (by rw [← e]; exact hk))), (mapAt_made w B hB).kept (fun b hb2 => hset b (by cases hb2; omega)), h.nb, h.gb⟩, ?_⟩
  refine ⟨rfl, rfl, rfl, by simp [World.setCell], fun k hk hn => ?_, fun k hk => ?_⟩
  · rw [hset k (fun e => hn (mem_wblk.2 (.inl e)))]
    exact hb.block k hk
  · rcases mem_wblk.1 hk with e | e | e
    · exact .inl (mem_wblk.2 (.inl e))
    · exact .inl (mem_wblk.2 (.inr (.inl e)))
    · cases e; exact .inr (Nat.le_refl _)
/-- A new writer. -/
theorem wrAt_new (w : World) (B : Nat) (hB : B ≤ w.heap.size) : WrAt (w.alloc (.cells #[.slice none 0 0, .map none] 60)) w.heap.size B (.slice none 0 0) none [] [] [] := by
  refine ⟨?_, ?_, ?_, ?_, World.ownsRow_nil _ _ _ _, ⟨rfl, rfl⟩, by simp [Value.ownBlock], hB⟩
  · rw [World.cell?_alloc_new]; rfl
  · rw [World.cell?_alloc_new]; rfl
  · exact World.frozen?_alloc_new _ _ _ _
  · exact World.frozen?_alloc_new _ _ _ _
end
end Go.Proofs.Yticdpidngmeebaa
/- Contracts of the landed writer: Len, Raw, Bytes, note. -/
namespace Go.Proofs.Yticdpidngmeebaa
open Go.RowKit Go.Maps
set_option linter.unusedVariables false
set_option maxRecDepth 20000

theorem wlen_any {w : World} {G B : Nat} {vB : Value} {m : Option Nat} {l : List UInt8} {ns : List ByteArray} {ats : List Nat} (h : WrAt w G B vB m l ns ats) :
    Calls Try.prog 58 #[.pointer (some ⟨G, 0, none⟩)] w fun e w' => e = .returned (.int .i64 (l.length : Int)) ∧ w' = w := by
  obtain ⟨a, c, rfl⟩ := own_slice h.rb
  have hc := h.c0
  clear h
  go_enter Try.func58, Try.ntmps58
  go_wp2_with fail
  go_ret
  exact ⟨rfl, rfl⟩
set_option maxRecDepth 100000 in
theorem raw_any {w : World} {G B g c : Nat} {vB : Value} {m : Option Nat} {l : List UInt8} {ns : List ByteArray} {ats : List Nat} (x : List UInt8) (h : WrAt w G B vB m l ns ats) (hx : ∀ j u, (bys x)[j]? = some u → w.cell? ⟨g, j, none⟩ = some u) (hn : l.length + x.length ≤ 1000000000) (hB : B ≤ w.heap.size) :
    Calls Try.prog 56 #[.pointer (some ⟨G, 0, none⟩), .slice (some ⟨g, 0, none⟩) x.length c] w fun e w' => e = .returned (.tuple #[]) ∧ ∃ vB', WrAt w' G B vB' m (l ++ x) ns ats ∧ Foot (wblk G vB m) (wblk G vB' m) w w' := by
  obtain ⟨a, c0, rfl⟩ := own_slice h.rb
  have hc := h.c0
  have HW := Lib.hid h
  have HO := Lib.hid h.rb
  have HX := Lib.hid hx
  have HN : Hid (l.length + x.length ≤ 1000000000 ∧ B ≤ w.heap.size) := Lib.hid ⟨hn, hB⟩
  obtain ⟨N, hN⟩ : ∃ N, x.length = N := ⟨_, rfl⟩
  have HNN := Lib.hid hN
  rw [hN]
  clear h hx hn hB hN
  go_enter Try.func56, Try.ntmps56
  go_wp2_with (at_builtin; refine wpList_plain rfl (fun K hK => wp_append_bytes (m := x) HO HX HN _ _ rfl rfl (by rw [HNN.out]; rfl) (fun v2 w4 HOw HGw HFw => hK _ _ ?_)); obtain ⟨lz, hlz⟩ : ∃ lz, l ++ x = lz := ⟨_, rfl⟩; rw [hlz] at HOw; have HLZ := Lib.hid hlz; clear hlz; obtain ⟨a2, c2, hv2⟩ := own_slice HOw.out; subst hv2; have hG4 := HGw.out.block G HW.out.lt (fun e => HW.out.nb e.symm); have hcc := (World.cell?_of_block (a := ⟨G, 0, none⟩) hG4).trans HW.out.c0; have hcf := (World.frozen?_of_block (a := ⟨G, 0, none⟩) hG4).trans HW.out.f0; clear hG4)
  have R := HW.out.put0 HOw.out HGw.out HFw.out
  go_end0
  refine ⟨rfl, _, ?_, R.2⟩
  rw [HLZ.out]
  exact R.1
theorem run_build0 (w : World) : (Instr.buildSlice 27 0 #[]).run Try.prog w = .ok (.slice (some ⟨w.heap.size, 0, none⟩) 0 0) (w.alloc (.cells #[] 5)) := by
  have hu : (underlying 27).run Try.prog w = .ok _ w := run_underlying Try.underlying27 w
  have hnr : ∀ cs : Array Value, (newRow 5 cs).run Try.prog w = .ok ⟨w.heap.size, 0, none⟩ (w.alloc (.cells cs 5)) := fun cs => by simp [newRow]
  unfold Instr.buildSlice
  simp [Sem.run_bind, hu, hnr, Instr.fill]
  rw [show Array.map (fun _ => (default : Value)) (Array.range 0) = #[] from Array.eq_empty_of_size_eq_zero (by simp)]
theorem build_step0 {ops : Array Oper} {rest : List Oper} {op : Oper} {a : Act} {w : World} {Q : Exit → Act → World → Prop} (hg : op.guard = none) (ho : op.op = .buildSlice 27 0 #[])
    (h : ∀ W, Hid (W = w.alloc (.cells #[] 5)) → wpList Try.prog ops Q rest (a.put op.dst (.slice (some ⟨w.heap.size, 0, none⟩) 0 0)) W) : wpList Try.prog ops Q (op :: rest) a w := by
  refine wpList_plain hg fun K hK => ?_
  unfold Oper.wp execOp
  simp only [ho, List.map_toArray, List.map_nil, Sem.run_bind, run_build0 w, Result.andThen_ok]
  exact hK _ _ (h _ (Lib.hid rfl))
theorem own_empty (w : World) : (w.alloc (.cells #[] 5)).ownsRow w.heap.size 5 1 (.slice (some ⟨w.heap.size, 0, none⟩) 0 0) ([] : List UInt8).length (bys []) :=
  ⟨rfl, .inr ⟨w.heap.size, 0, #[], rfl, Nat.le_refl _, by show (w.heap.push _)[w.heap.size]? = _; simp, Nat.le_refl _, Nat.zero_le _, rfl, rfl⟩⟩
/-- Bytes of a row of one's own, cell by cell. -/
theorem own_bcells {w : World} {B g n c : Nat} {l : List UInt8} (h : w.ownsRow B 5 1 (.slice (some ⟨g, 0, none⟩) n c) l.length (bys l)) : ∀ j u, (bys l)[j]? = some u → w.cell? ⟨g, j, none⟩ = some u := by
  intro j u hu
  have := h.cells (g := g) rfl j u hu
  rwa [add_none] at this
set_option maxRecDepth 100000 in
theorem clone_any {w : World} {B : Nat} {v : Value} {l : List UInt8} (h : w.ownsRow B 5 1 v l.length (bys l)) (hl : l.length ≤ 2000000) :
    Calls Try.prog 81 #[v] w fun e w' => ∃ v', e = .returned v' ∧ w'.ownsRow w.heap.size 5 1 v' l.length (bys l) ∧ Below w.heap.size w w' := by
  have q : ∀ (w : World) (a : Option Addr) (n c n' c' : Nat), (binOp .eql 27 (.slice a n c) (.slice none n' c')).run Try.prog w = .ok (.bool a.isNone) w := fun w a n c n' c' => Lib.run_eql_slice_nil w _ _ a n c n' c' Try.underlying27
  rcases h.2 with ⟨h1, h2⟩ | ⟨g, cap, cur, h1, _⟩
  · obtain rfl : l = [] := List.eq_nil_of_length_eq_zero h2
    subst h1
    clear h
    go_enter Try.func81, Try.ntmps81
    go_wp2_with fail
    go_ret
    exact ⟨_, rfl, World.ownsRow_nil _ _ _ _, Below.refl _ _⟩
  · subst h1
    have hlt := (h.lt g rfl).2
    have HC := Lib.hid (own_bcells h)
    have HL := Lib.hid hl
    obtain ⟨N, hN⟩ : ∃ N, l.length = N := ⟨_, rfl⟩
    have HNN := Lib.hid hN
    rw [hN]
    have HLT := Lib.hid hlt
    clear h hl hN hlt
    go_enter Try.func81, Try.ntmps81
    go_wp2_with (first
      | (refine build_step0 rfl rfl (fun W HW => ?_); have HE : Hid (W.ownsRow w.heap.size 5 1 (.slice (some ⟨w.heap.size, 0, none⟩) 0 0) ([] : List UInt8).length (bys [])) := Lib.hid (by rw [HW.out]; exact own_empty w); have HB : Hid (Below w.heap.size w W) := Lib.hid (by rw [HW.out]; exact (Below.refl _ _).alloc (Nat.le_refl _) _); have HX : Hid (∀ j u, (bys l)[j]? = some u → W.cell? ⟨g, j, none⟩ = some u) := Lib.hid (fun j u hu => (HB.out.cell (p := ⟨g, j, none⟩) HLT.out).trans (HC.out j u hu)); have HN : Hid (([] : List UInt8).length + l.length ≤ 1000000000 ∧ w.heap.size ≤ W.heap.size) := Lib.hid ⟨by have := HL.out; simp; omega, HB.out.size⟩)
      | (at_builtin; refine wpList_plain rfl (fun K hK => wp_append_bytes (l := []) (m := l) HE HX HN _ _ rfl rfl (by rw [HNN.out]; rfl) (fun v2 w4 HOw HGw HFw => hK _ _ ?_)); obtain ⟨a2, c2, hv2⟩ := own_slice HOw.out; subst hv2))
    have hl2 : (([] : List UInt8) ++ l).length = N := by rw [List.nil_append]; exact HNN.out
    go_ret
    refine ⟨_, rfl, ?_, HB.out.grown HGw.out HB.out.size (fun k hk => by cases hk; exact Nat.le_refl _)⟩
    have := HOw.out
    rw [List.nil_append, HNN.out] at this
    rw [HNN.out] at *
    exact this
set_option maxRecDepth 100000 in
theorem wbytes_any {w : World} {G B : Nat} {vB : Value} {m : Option Nat} {l : List UInt8} {ns : List ByteArray} {ats : List Nat} (h : WrAt w G B vB m l ns ats) (hl : l.length ≤ 2000000) :
    Calls Try.prog 60 #[.pointer (some ⟨G, 0, none⟩)] w fun e w' => ∃ v', e = .returned v' ∧ w'.ownsRow w.heap.size 5 1 v' l.length (bys l) ∧ Below w.heap.size w w' := by
  have HC := Lib.hid (clone_any h.rb hl)
  obtain ⟨a, c, rfl⟩ := own_slice h.rb
  have hc := h.c0
  clear h
  go_enter Try.func60, Try.ntmps60
  go_wp2_with fail
  refine HC.out.mono ?_
  rintro e w1 ⟨v', rfl, ho, hb⟩
  have HO := Lib.hid ho
  have HB := Lib.hid hb
  clear ho hb HC hc
  go_wp2_with fail
  go_ret
  exact ⟨_, rfl, HO.out, HB.out⟩
end Go.Proofs.Yticdpidngmeebaa
/- Contract of the landed writer's note. -/
namespace Go.Proofs.Yticdpidngmeebaa
open Go.RowKit Go.Maps
set_option linter.unusedVariables false
set_option maxRecDepth 20000

/-- What note leaves. -/
def NoteRet (w : World) (G B : Nat) (vB : Value) (m : Option Nat) (l : List UInt8) (ns : List ByteArray) (ats : List Nat) (e : Ending) (w' : World) : Prop :=
  e = .returned (.tuple #[]) ∧ ∃ m', WrAt w' G B vB m' l ns ats ∧ Foot (wblk G vB m) (wblk G vB m') w w'
set_option maxRecDepth 100000 in
set_option maxHeartbeats 2000000 in
theorem note_any {w : World} {G B : Nat} {vB : Value} {m : Option Nat} {l : List UInt8} {ns : List ByteArray} {ats : List Nat} (x : ByteArray) (h : WrAt w G B vB m l ns ats) (hx : x.size ≤ 2000000) (hl : l.length ≤ 2000000) (hns : ns.length ≤ 2000000) (hla : ats.length = ns.length) (hf : find8 ns ats x = none) (hB : B ≤ w.heap.size) :
    Calls Try.prog 78 #[.pointer (some ⟨G, 0, none⟩), .string x] w (NoteRet w G B vB m l (if l.length < 16384 then ns ++ [x] else ns) (if l.length < 16384 then ats ++ [l.length] else ats)) := by
  have HLEN := Lib.hid (wlen_any h)
  have HH := Lib.hid h
  by_cases hbig : l.length < 16384
  · rw [if_pos hbig, if_pos hbig]
    have hd : decide ((16384 : Int) ≤ (l.length : Int)) = false := decide_eq_false (by omega)
    have hdn : decide (16384 ≤ l.length) = false := decide_eq_false (by omega)
    have hc1 := h.c1
    have hf1 := h.f1
    have HHF := Lib.hid hf
    have HLA := Lib.hid hla
    have qm : ∀ (w : World) (a : Option Nat), (binOp .eql 58 (.map a) (.map none)).run Try.prog w = .ok (.bool a.isNone) w := fun w a => by cases a <;> rfl
    have hmm := @run_makeMap Try.prog
    -- what is left: the store, from a world in which the map is there
    have FIN : ∀ (b : Nat) (V : World), Hid (WrAt V G B vB (some b) l ns ats → Foot (wblk G vB m) (wblk G vB (some b)) w V → ∃ V', (Instr.mapUpdate 58 (.map (some b)) (.string x) (.int .i64 (l.length : Int))).run Try.prog V = .ok () V' ∧ V'.cell? ⟨G, 1, none⟩ = some (.map (some b)) ∧ NoteRet w G B vB m l (ns ++ [x]) (ats ++ [l.length]) (.returned (.tuple #[])) V') := fun b V => Lib.hid (fun hV hFo => by
      obtain ⟨V', hr, hm, hg⟩ := hV.mp.store x l.length hx hl hns HLA.out HHF.out
      have R := hV.noted hm hg
      exact ⟨V', hr, R.1.c1, rfl, _, R.1, hFo.trans R.2⟩)
    clear h hf hla
    go_enter Try.func78, Try.ntmps78
    go_wp2_with fail
    refine HLEN.out.mono ?_
    rintro e w1 ⟨rfl, rfl⟩
    cases m with
    | none =>
      have R := HH.out.made hB
      obtain ⟨V, hV⟩ : ∃ V, ((w1.alloc (.map #[] 0)).setCell ⟨G, 1, none⟩ (.map (some w1.heap.size))) = V := ⟨_, rfl⟩
      rw [hV] at R
      have HFI := Lib.hid ((FIN _ V.drew).out (R.1.below ((Below.refl _ _).drew)) (R.2.trans (Foot.ofBelow _ ((Below.refl _ _).drew))))
      have HLE2 := Lib.hid (wlen_any (R.1.below ((Below.refl _ _).drew)))
      have hcd : V.drew.cell? ⟨G, 1, none⟩ = some (.map (some w1.heap.size)) := R.1.c1
      have hg1 := (bcell (W := w1) (w1 := w1.alloc (.map #[] 0)) ((Below.refl _ _).alloc (Nat.le_refl _) _)).1 G 1 HH.out.lt
      have hg2 := (bcell (W := w1) (w1 := w1.alloc (.map #[] 0)) ((Below.refl _ _).alloc (Nat.le_refl _) _)).2 G 1 HH.out.lt
      rw [hc1] at hg1
      rw [hf1] at hg2
      clear R FIN HLEN
      go_upto_region 3 with fail
      try rw [hV]
      generalize hgb : w1.heap.size = b at *
      obtain ⟨V', hrun, hcell', HNR⟩ := HFI.out
      have HN2 := Lib.hid HNR
      have HRUN := Lib.hid hrun
      clear HNR HFI hrun hV
      refine wp_region_noPanic ?_
      obtain ⟨S, hS⟩ : ∃ S : World → Prop, (fun W => W.cell? ⟨G, 1, none⟩ = some (.map (some b))) = S := ⟨_, rfl⟩
      have C1 : Hid (∀ w', S w' → w'.cell? ⟨G, 1, none⟩ = some (.map (some b))) := Lib.hid (fun w' h => by rw [← hS] at h; exact h)
      have HSS : Hid (S V.drew) := Lib.hid (by rw [← hS]; exact hcd)
      have HS2 : Hid (S V') := Lib.hid (by rw [← hS]; exact hcell')
      clear hS hcell'
      refine wp_region_held_drew (S := S) (by kernel_rfl) HSS.out (fun hHeld => ?_)
      generalize V.drew = U at *
      refine wpAnyH_take (i := 0) (v := ?_) rfl (by kernel_rfl) (by kernel_rfl) (by kernel_rfl) (fun _ _ _ h => h) (Or.inl ⟨by rfl, ?_⟩) (by assumption) ?_
      rotate_left
      · (intro w hSw; go_simp; try (with_reducible rfl))
      try simp only [Act.put, List.getElem_toArray, List.getElem_cons_zero, List.setIfInBounds_toArray, List.set_cons_zero, List.set_cons_succ]
      refine wpAnyH_take (i := 1) (v := ?_) rfl (by kernel_rfl) (by kernel_rfl) (by kernel_rfl) (fun _ _ _ h => h) (Or.inl ⟨by rfl, ?_⟩) (by assumption) ?_
      rotate_left
      · (intro w hSw; go_simp; try (with_reducible rfl))
      try simp only [Act.put, List.getElem_toArray, List.getElem_cons_zero, List.getElem_cons_succ, List.setIfInBounds_toArray, List.set_cons_zero, List.set_cons_succ]
      refine wpAnyH_take (i := 2) (v := ?_) rfl (by kernel_rfl) (by kernel_rfl) (by kernel_rfl) (fun _ _ _ h => h) (Or.inl ⟨by rfl, ?_⟩) (by assumption) ?_
      rotate_left
      · (intro w hSw; go_simp; try (with_reducible rfl))
      try simp only [Act.put, List.getElem_toArray, List.getElem_cons_zero, List.getElem_cons_succ, List.setIfInBounds_toArray, List.set_cons_zero, List.set_cons_succ]
      refine wpAnyH_take (i := 3) (v := ?_) rfl (by kernel_rfl) (by kernel_rfl) (by kernel_rfl) (fun _ _ _ h => h) (Or.inl ⟨by rfl, ?_⟩) (by assumption) ?_
      rotate_left
      · (intro w hSw; have hc0 := C1.out w hSw; go_simp; try (with_reducible rfl))
      try simp only [Act.put, List.getElem_toArray, List.getElem_cons_zero, List.getElem_cons_succ, List.setIfInBounds_toArray, List.set_cons_zero, List.set_cons_succ]
      refine wpAnyH_take (i := 4) (v := ?_) rfl (by kernel_rfl) (by kernel_rfl) (by kernel_rfl) (fun _ _ _ h => h) (Or.inl ⟨by rfl, ?_⟩) (by assumption) ?_
      rotate_left
      · (intro w hSw; go_simp; try (with_reducible rfl))
      try simp only [Act.put, List.getElem_toArray, List.getElem_cons_zero, List.getElem_cons_succ, List.setIfInBounds_toArray, List.set_cons_zero, List.set_cons_succ]
      refine wpAnyH_take (i := 5) (v := ?_) rfl (by kernel_rfl) (by kernel_rfl) (by kernel_rfl) (fun _ _ _ h => h) (Or.inl ⟨by rfl, ?_⟩) (by assumption) ?_
      rotate_left
      · (intro w hSw; go_simp; try (with_reducible rfl))
      try simp only [Act.put, List.getElem_toArray, List.getElem_cons_zero, List.getElem_cons_succ, List.setIfInBounds_toArray, List.set_cons_zero, List.set_cons_succ]
      refine wpAnyH_ready (rs := [6]) (by kernel_rfl) (by simp) ?_
      refine AllReadyH.cons rfl (fun K hK => ?_) AllReadyH.nil
      go_simp
      refine HLE2.out.mono ?_
      rintro e w2 ⟨rfl, rfl⟩
      go_wp2_with fail
      refine hK.out _ _ HSS.out (fun hHeld => ?_)
      clear hK K
      try simp only [Act.put, List.getElem_toArray, List.getElem_cons_zero, List.getElem_cons_succ, List.setIfInBounds_toArray, List.set_cons_zero, List.set_cons_succ]
      refine wpAnyH_ready (rs := [7]) (by kernel_rfl) (by simp) ?_
      refine ready_one rfl rfl (fun K hK => ?_)
      have hrun2 := HRUN.out
      go_wp2_with fail
      refine hK.out _ _ HS2.out (fun hHeldb => ?_)
      clear hK K
      refine wpAnyH_done (by kernel_rfl) ?_ _
      refine NoPanic.normal ?_
      clear hrun2 HRUN hcd HSS C1 HS2 hHeld hHeldb hg1 hg2 hc1
      go_wp2_with fail
      go_end0
      exact HN2.out
    | some b =>
      have HFI := Lib.hid ((FIN b w1.drew).out (HH.out.below ((Below.refl _ _).drew)) (Foot.ofBelow _ ((Below.refl _ _).drew)))
      have HLE2 := Lib.hid (wlen_any (HH.out.below ((Below.refl w1.heap.size w1).drew)))
      have hcd : w1.drew.cell? ⟨G, 1, none⟩ = some (.map (some b)) := hc1
      clear FIN HLEN
      go_upto_region 3 with fail
      obtain ⟨V', hrun, hcell', HNR⟩ := HFI.out
      have HN2 := Lib.hid HNR
      have HRUN := Lib.hid hrun
      clear HNR HFI hrun
      refine wp_region_noPanic ?_
      obtain ⟨S, hS⟩ : ∃ S : World → Prop, (fun W => W.cell? ⟨G, 1, none⟩ = some (.map (some b))) = S := ⟨_, rfl⟩
      have C1 : Hid (∀ w', S w' → w'.cell? ⟨G, 1, none⟩ = some (.map (some b))) := Lib.hid (fun w' h => by rw [← hS] at h; exact h)
      have HSS : Hid (S w1.drew) := Lib.hid (by rw [← hS]; exact hcd)
      have HS2 : Hid (S V') := Lib.hid (by rw [← hS]; exact hcell')
      clear hS hcell'
      refine wp_region_held_drew (S := S) (by kernel_rfl) HSS.out (fun hHeld => ?_)
      generalize w1.drew = U at *
      refine wpAnyH_take (i := 0) (v := ?_) rfl (by kernel_rfl) (by kernel_rfl) (by kernel_rfl) (fun _ _ _ h => h) (Or.inl ⟨by rfl, ?_⟩) (by assumption) ?_
      rotate_left
      · (intro w hSw; go_simp; try (with_reducible rfl))
      try simp only [Act.put, List.getElem_toArray, List.getElem_cons_zero, List.setIfInBounds_toArray, List.set_cons_zero, List.set_cons_succ]
      refine wpAnyH_take (i := 1) (v := ?_) rfl (by kernel_rfl) (by kernel_rfl) (by kernel_rfl) (fun _ _ _ h => h) (Or.inl ⟨by rfl, ?_⟩) (by assumption) ?_
      rotate_left
      · (intro w hSw; go_simp; try (with_reducible rfl))
      try simp only [Act.put, List.getElem_toArray, List.getElem_cons_zero, List.getElem_cons_succ, List.setIfInBounds_toArray, List.set_cons_zero, List.set_cons_succ]
      refine wpAnyH_take (i := 2) (v := ?_) rfl (by kernel_rfl) (by kernel_rfl) (by kernel_rfl) (fun _ _ _ h => h) (Or.inl ⟨by rfl, ?_⟩) (by assumption) ?_
      rotate_left
      · (intro w hSw; go_simp; try (with_reducible rfl))
      try simp only [Act.put, List.getElem_toArray, List.getElem_cons_zero, List.getElem_cons_succ, List.setIfInBounds_toArray, List.set_cons_zero, List.set_cons_succ]
      refine wpAnyH_take (i := 3) (v := ?_) rfl (by kernel_rfl) (by kernel_rfl) (by kernel_rfl) (fun _ _ _ h => h) (Or.inl ⟨by rfl, ?_⟩) (by assumption) ?_
      rotate_left
      · (intro w hSw; have hc0 := C1.out w hSw; go_simp; try (with_reducible rfl))
      try simp only [Act.put, List.getElem_toArray, List.getElem_cons_zero, List.getElem_cons_succ, List.setIfInBounds_toArray, List.set_cons_zero, List.set_cons_succ]
      refine wpAnyH_take (i := 4) (v := ?_) rfl (by kernel_rfl) (by kernel_rfl) (by kernel_rfl) (fun _ _ _ h => h) (Or.inl ⟨by rfl, ?_⟩) (by assumption) ?_
      rotate_left
      · (intro w hSw; go_simp; try (with_reducible rfl))
      try simp only [Act.put, List.getElem_toArray, List.getElem_cons_zero, List.getElem_cons_succ, List.setIfInBounds_toArray, List.set_cons_zero, List.set_cons_succ]
      refine wpAnyH_take (i := 5) (v := ?_) rfl (by kernel_rfl) (by kernel_rfl) (by kernel_rfl) (fun _ _ _ h => h) (Or.inl ⟨by rfl, ?_⟩) (by assumption) ?_
      rotate_left
      · (intro w hSw; go_simp; try (with_reducible rfl))
      try simp only [Act.put, List.getElem_toArray, List.getElem_cons_zero, List.getElem_cons_succ, List.setIfInBounds_toArray, List.set_cons_zero, List.set_cons_succ]
      refine wpAnyH_ready (rs := [6]) (by kernel_rfl) (by simp) ?_
      refine AllReadyH.cons rfl (fun K hK => ?_) AllReadyH.nil
      go_simp
      refine HLE2.out.mono ?_
      rintro e w2 ⟨rfl, rfl⟩
      go_wp2_with fail
      refine hK.out _ _ HSS.out (fun hHeld => ?_)
      clear hK K
      try simp only [Act.put, List.getElem_toArray, List.getElem_cons_zero, List.getElem_cons_succ, List.setIfInBounds_toArray, List.set_cons_zero, List.set_cons_succ]
      refine wpAnyH_ready (rs := [7]) (by kernel_rfl) (by simp) ?_
      refine ready_one rfl rfl (fun K hK => ?_)
      have hrun2 := HRUN.out
      go_wp2_with fail
      refine hK.out _ _ HS2.out (fun hHeldb => ?_)
      clear hK K
      refine wpAnyH_done (by kernel_rfl) ?_ _
      refine NoPanic.normal ?_
      clear hrun2 HRUN hcd HSS C1 HS2 hHeld hHeldb hc1
      go_wp2_with fail
      go_end0
      exact HN2.out
  · rw [if_neg hbig, if_neg hbig]
    have hd : decide ((16384 : Int) ≤ (l.length : Int)) = true := decide_eq_true (by omega)
    have hdn : decide (16384 ≤ l.length) = true := decide_eq_true (by omega)
    clear h hf
    go_enter Try.func78, Try.ntmps78
    go_wp2_with fail
    refine HLEN.out.mono ?_
    rintro e w1 ⟨rfl, rfl⟩
    go_wp2_with fail
    go_end0
    exact ⟨rfl, m, HH.out, Foot.ofBelow _ (Below.refl _ _)⟩
end Go.Proofs.Yticdpidngmeebaa
