/- Texts that belong together, one behind the other: CidrMath, HeldLoad, ERow, EntKit, AppE, RefDrop, CidrCmp, RefSet, RefCidrHas. -/
import Derived.Test.YtgbajagacmfcmaaGreatDoorB3
import Derived.Laws.OwnMore
import Derived.Deep.AppendLies
import Derived.Maps.AppendAt
/- Plain facts on prefixes: which may be, what they have, and their row. -/
namespace Go.Proofs.YtgbajagacmfcmaaGreatDoor
open Go.RowKit
set_option linter.unusedVariables false
set_option maxRecDepth 20000

theorem bitA_zero {l : List Nat} {i : Nat} (h : l.getD (i / 8) 0 = 0) : bitA l i = 0 := by unfold bitA; rw [h]; simp
theorem byte_zero {x : Nat} (hx : x < 256) (h : ∀ r, r < 8 → x / 2 ^ (7 - r) % 2 = 0) : x = 0 := byte_ext x 0 hx (by decide) (fun r hr => by rw [h r hr]; simp)
theorem zeroTo_iff {bs : List Nat} (h16 : bs.length = 16) (hlt : ∀ x ∈ bs, x < 256) (k : Nat) : zeroTo bs k = true ↔ ∀ i, i < 128 → 8 * k ≤ i → bitA bs i = 0 := by
  have h1 : zeroTo bs k = true ↔ ∀ q, k ≤ q → q < 16 → bs.getD q 0 = 0 := by
    unfold zeroTo
    rw [List.all_eq_true]
    constructor
    · intro h q hk hq
      have : bs[q]'(by omega) ∈ bs.drop k := by
        rw [List.mem_drop_iff_getElem]
        exact ⟨q - k, by omega, by congr 1; omega⟩
      have := h _ this
      rw [List.getD_eq_getElem?_getD, List.getElem?_eq_getElem (by omega)]
      simpa using this
    · intro h x hx
      rw [List.mem_drop_iff_getElem] at hx
      obtain ⟨j, hj, rfl⟩ := hx
      have := h (k + j) (by omega) (by omega)
      rw [List.getD_eq_getElem?_getD, List.getElem?_eq_getElem (by omega)] at this
      simpa using this
  rw [h1]
  constructor
  · intro h i hi hk
    exact bitA_zero (h (i / 8) (by omega) (by omega))
  · intro h q hk hq
    refine byte_zero (getD_lt hlt q) (fun r hr => ?_)
    have := h (8 * q + r) (by omega) (by omega)
    unfold bitA at this
    rw [show (8 * q + r) / 8 = q by omega, show (8 * q + r) % 8 = r by omega] at this
    exact this
theorem with_same {bs : List Nat} (h16 : bs.length = 16) (hlt : ∀ x ∈ bs, x < 256) (N m : Nat) : bs = withL N bs m 0 ↔ ∀ i, i < 128 → (m ≤ i ∨ N ≤ i) → bitA bs i = 0 := by
  constructor
  · intro h i hi ho
    rw [h, bitA_with _ _ _ _ _ (by decide) hi]
    unfold withF
    by_cases h1 : i < N
    · rw [if_pos h1, if_pos (by omega)]
    · rw [if_neg h1]
  · intro h
    refine bits_ext h16 (withL_len _ _ _ _) hlt (withL_lt _ _ _ _ (by decide)) (fun i hi => ?_)
    rw [bitA_with _ _ _ _ _ (by decide) hi]
    unfold withF
    by_cases h1 : i < N
    · rw [if_pos h1]
      by_cases h2 : m ≤ i
      · rw [if_pos h2]; exact h i hi (.inl h2)
      · rw [if_neg h2]
    · rw [if_neg h1]; exact h i hi (.inr (by omega))
theorem mayB_bits {f : Int} {bs : List Nat} (h16 : bs.length = 16) (hlt : ∀ x ∈ bs, x < 256) (hf : f = 4 ∨ f = 6) : mayB f bs = true ↔ ∀ i, i < 128 → bitsN f ≤ i → bitA bs i = 0 := by
  rcases hf with rfl | rfl
  · unfold mayB
    rw [show fromN 4 = 4 from rfl, show bitsN 4 = 32 from rfl, show ((4 : Int) == 0 || (4 : Int) == 4 || (4 : Int) == 6) = true from rfl, Bool.and_true, zeroTo_iff h16 hlt]
  · rw [may6 bs h16, show bitsN 6 = 128 from rfl]
    exact ⟨fun _ i h1 h2 => absurd h1 (by omega), fun _ => rfl⟩
/-- Both ways to ask which prefix may be are one. -/
theorem mayQ_eq (f : Int) {bs : List Nat} (n : Int) (h16 : bs.length = 16) (hlt : ∀ x ∈ bs, x < 256) : mayQ f bs n = mayP f bs n := by
  unfold mayQ mayP
  refine decide_eq_decide.2 ?_
  rcases bitsN_cases f with ⟨hf, e⟩ | ⟨hf, e⟩ | ⟨h4, h6, e⟩
  case inr.inr =>
    constructor
    · intro h
      exfalso
      have h1 := h.1
      unfold mayB at h1
      have h2 := h.2.1
      simp [h2, h4, h6] at h1
    · intro h
      exfalso
      have := h.1
      omega
  all_goals
    have hm := mayB_bits h16 hlt (f := f) (by omega)
    rw [hm, with_same h16 hlt]
    constructor
    · rintro ⟨h1, h2, h3, h4, h5⟩
      have hk : maskN f n = n.toNat := by unfold maskN; omega
      refine ⟨by omega, fun i hi ho => ?_, by omega⟩
      by_cases h6 : i < bitsN f
      · exact h5 i h6 (by omega)
      · exact h1 i hi (by omega)
    · rintro ⟨h1, h2, h3⟩
      have hle := maskN_le f n
      refine ⟨fun i hi ho => h2 i hi (.inr ho), by omega, by omega, by omega, fun i hi ho => h2 i (by omega) (.inl (by omega))⟩
/-- A prefix that may be. -/
structure GoodP (f : Int) (bs : List Nat) (n : Nat) : Prop where
  pos : 0 < bitsN f
  len : bs.length = 16
  lt : ∀ x ∈ bs, x < 256
  le : n ≤ bitsN f
  zero : ∀ i, i < 128 → n ≤ i → bitA bs i = 0
theorem goodF_pos (f : Int) : 0 < bitsN (goodF f) := by
  unfold goodF
  split
  · show 0 < bitsN 4; decide
  · show 0 < bitsN 6; decide
theorem goodP_is (f : Int) (bs : List Nat) (n : Int) : GoodP (goodF f) (goodP f bs n) (goodN f n) := by
  refine ⟨goodF_pos f, withL_len _ _ _ _, withL_lt _ _ _ _ (by decide), goodN_le f n, fun i hi ho => ?_⟩
  unfold goodP
  rw [bitA_with _ _ _ _ _ (by decide) hi]
  unfold withF
  split
  · first | rfl | rw [if_pos ho]
  · rfl
theorem mask_is {f : Int} {bs : List Nat} (n : Int) (h : 0 < bitsN f) : GoodP f (withL (bitsN f) bs (maskN f n) 0) (maskN f n) := by
  refine ⟨h, withL_len _ _ _ _, withL_lt _ _ _ _ (by decide), maskN_le f n, fun i hi ho => ?_⟩
  rw [bitA_with _ _ _ _ _ (by decide) hi]
  unfold withF
  split
  · first | rfl | rw [if_pos ho]
  · rfl
section
variable {f g : Int} {ps qs us : List Nat} {n m : Nat}
theorem GoodP.may (h : GoodP f ps n) : mayP f ps (n : Int) = true := by
  unfold mayP
  rw [maskN_nat f n h.le]
  exact decide_eq_true ⟨h.pos, (with_same h.len h.lt _ _).2 (fun i hi ho => h.zero i hi (by have := h.le; omega)), rfl⟩
theorem GoodA.pos (h : GoodA f us) : 0 < bitsN f := by cases h <;> (first | (show 0 < bitsN 4; decide) | (show 0 < bitsN 6; decide))
theorem GoodA.zero (h : GoodA f us) : ∀ i, i < 128 → bitsN f ≤ i → bitA us i = 0 := by
  have h1 : f = 4 ∨ f = 6 := by cases h <;> simp
  exact (mayB_bits h.len h.lt h1).1 h.may
theorem GoodP.fam (h : GoodP f ps n) : f = 4 ∨ f = 6 := by
  have := h.pos
  rcases bitsN_cases f with ⟨hf, _⟩ | ⟨hf, _⟩ | ⟨_, _, e⟩ <;> omega
theorem GoodP.good (h : GoodP f ps n) : GoodA f ps := by
  have hm := (mayB_bits h.len h.lt h.fam).2 (fun i hi ho => h.zero i hi (by have := h.le; omega))
  rcases h.fam with rfl | rfl
  · rw [← may4 ps h.len h.lt] at hm
    have e := (of_decide_eq_true hm).2
    rw [e]
    exact .four _ (fourB_le' ps h.lt)
  · exact .six ps h.len h.lt
/-- The first bits are the same. -/
def Begins (xs ys : List Nat) (n : Nat) : Prop := ∀ i, i < n → bitA xs i = bitA ys i
theorem hasB_iff (h : n ≤ bitsN f) : hasB f ps n g us = true ↔ f = g ∧ Begins ps us n := by
  unfold hasB Begins
  rw [decide_eq_true_iff]
  constructor
  · rintro ⟨rfl, h2⟩
    exact ⟨rfl, fun i hi => by have := h2 i hi; rw [bitN_A _ _ _ (by omega), bitN_A _ _ _ (by omega)] at this; exact this⟩
  · rintro ⟨rfl, h2⟩
    exact ⟨rfl, fun i hi => by rw [bitN_A _ _ _ (by omega), bitN_A _ _ _ (by omega)]; exact h2 i hi⟩
theorem hasR_iff (h : GoodP f ps n) (hu : us.length = 16) : hasR f ps (n : Int) g us = true ↔ f = g ∧ Begins ps us n := by
  unfold hasR
  rw [decide_eq_true_iff]
  have hN := bitsN_le f
  have hle := h.le
  constructor
  · rintro ⟨rfl, h2, _⟩
    refine ⟨rfl, fun i hi => ?_⟩
    rw [maskN_nat f n h.le] at h2
    rw [h2, bitA_with _ _ _ _ _ (by decide) (by omega)]
    unfold withF
    rw [if_pos (by omega), if_neg (by omega)]
  · rintro ⟨rfl, h2⟩
    rw [maskN_nat f n h.le]
    refine ⟨rfl, bits_ext h.len (withL_len _ _ _ _) h.lt (withL_lt _ _ _ _ (by decide)) (fun i hi => ?_), rfl⟩
    rw [bitA_with _ _ _ _ _ (by decide) hi]
    unfold withF
    by_cases h1 : i < n
    · rw [if_pos (by omega), if_neg (by omega)]; exact h2 i h1
    · rw [h.zero i hi (by omega)]
      by_cases h3 : i < bitsN f
      · rw [if_pos h3, if_pos (by omega)]
      · rw [if_neg h3]
theorem has_same (h : GoodP f ps n) (hu : us.length = 16) : hasR f ps (n : Int) g us = hasB f ps n g us := by
  rw [Bool.eq_iff_iff, hasR_iff h hu, hasB_iff h.le]
theorem withinR_iff (hp : GoodP f ps n) (hq : GoodP g qs m) : withinR f ps (n : Int) g qs (m : Int) = true ↔ m ≤ n ∧ g = f ∧ Begins qs ps m := by
  unfold withinR
  rw [Bool.and_eq_true, hasR_iff hq hp.len, decide_eq_true_iff]
  constructor
  · rintro ⟨h1, h2⟩; exact ⟨by omega, h2⟩
  · rintro ⟨h1, h2⟩; exact ⟨by omega, h2⟩
theorem withF_at {N k b i : Nat} {bs : List Nat} (h : i < N) (h2 : i < k) : withF N bs k b i = bitA bs i := by unfold withF; rw [if_pos h, if_neg (by omega)]
/-- First and Last. -/
theorem GoodP.first (h : GoodP f ps n) : withL (bitsN f) ps n 0 = ps := ((with_same h.len h.lt _ _).2 (fun i hi ho => h.zero i hi (by have := h.le; omega))).symm
theorem GoodP.last (h : GoodP f ps n) : lastL ps n (bitsN f) = withL (bitsN f) ps n 1 :=
  ofBits_congr (lastF_le _ _ _) (fun i => withF_le _ _ _ _ _ (by decide)) (fun i hi => by
    unfold lastF withF
    by_cases h1 : i < bitsN f
    · rw [if_pos h1]
      by_cases h2 : n ≤ i
      · rw [if_pos ⟨h2, h1⟩, if_pos h2]
      · rw [if_neg (fun h => h2 h.1), if_neg h2]
    · rw [if_neg (fun h => h1 h.2), if_neg h1]
      exact h.zero i hi (by have := h.le; omega))
theorem GoodP.has_first (h : GoodP f ps n) : hasR f ps (n : Int) f ps = true := (hasR_iff h h.len).2 ⟨rfl, fun _ _ => rfl⟩
theorem begins_with (h : n ≤ bitsN f) (b : Nat) (hb : b ≤ 1) : Begins ps (withL (bitsN f) ps n b) n := fun i hi => by
  have := bitsN_le f
  rw [bitA_with _ _ _ _ _ hb (by omega), withF_at (by omega) hi]
theorem GoodP.has_last (h : GoodP f ps n) : hasR f ps (n : Int) f (withL (bitsN f) ps n 1) = true := (hasR_iff h (withL_len _ _ _ _)).2 ⟨rfl, begins_with h.le 1 (by decide)⟩
/-- A prefix is within another one just if that has its first and its last address. -/
theorem within_both (hp : GoodP f ps n) (hq : GoodP g qs m) : withinR f ps (n : Int) g qs (m : Int) = (hasB g qs m f (withL (bitsN f) ps n 0) && hasB g qs m f (withL (bitsN f) ps n 1)) := by
  rw [Bool.eq_iff_iff, withinR_iff hp hq, Bool.and_eq_true, hasB_iff hq.le, hasB_iff hq.le, hp.first]
  constructor
  · rintro ⟨h1, rfl, h2⟩
    refine ⟨⟨rfl, h2⟩, rfl, fun i hi => ?_⟩
    rw [h2 i hi]
    exact begins_with hp.le 1 (by decide) i (by omega)
  · rintro ⟨⟨rfl, h1⟩, _, h2⟩
    refine ⟨?_, rfl, h1⟩
    apply Classical.byContradiction
    intro h3
    have hN := bitsN_le g
    have hm := hq.le
    have e1 := h1 n (by omega)
    have e2 := h2 n (by omega)
    rw [hp.zero n (by omega) (Nat.le_refl _)] at e1
    rw [bitA_with _ _ _ _ _ (by decide) (by omega)] at e2
    unfold withF at e2
    rw [if_pos (by omega), if_pos (Nat.le_refl _)] at e2
    omega
theorem within_self (h : GoodP f ps n) : withinR f ps (n : Int) f ps (n : Int) = true := (withinR_iff h h).2 ⟨Nat.le_refl _, rfl, fun _ _ => rfl⟩
theorem GoodP.eq_of (hp : GoodP f ps n) (hq : GoodP f qs n) (h : Begins qs ps n) : ps = qs :=
  bits_ext hp.len hq.len hp.lt hq.lt (fun i hi => by
    by_cases h1 : i < n
    · exact (h i h1).symm
    · rw [hp.zero i hi (by omega), hq.zero i hi (by omega)])
theorem within_anti (hp : GoodP f ps n) (hq : GoodP g qs m) (h1 : withinR f ps (n : Int) g qs (m : Int) = true) (h2 : withinR g qs (m : Int) f ps (n : Int) = true) : f = g ∧ ps = qs ∧ n = m := by
  obtain ⟨a1, rfl, a2⟩ := (withinR_iff hp hq).1 h1
  obtain ⟨b1, _, b2⟩ := (withinR_iff hq hp).1 h2
  obtain rfl : n = m := by omega
  exact ⟨rfl, hp.eq_of hq a2, rfl⟩
end
end Go.Proofs.YtgbajagacmfcmaaGreatDoor
/- Prefixes and addresses that a walk holds, loaded in a plain region. -/
namespace Go.Proofs.YtgbajagacmfcmaaGreatDoor
open Go.RowKit
set_option linter.unusedVariables false
set_option maxRecDepth 20000

theorem load_pref_h {ops : Array Oper} {rest : List Oper} {op : Oper} {a : Act} {w W : World} {Q : Exit → Act → World → Prop} {L : List (Nat × Nat × List Value)} {G : Nat} {f : Int} {bs : List Nat} {n : Int} (hS : Hid (HeldR L W w)) (hm : Hid (InP L G f bs n)) (x : Operand) (hw : Region.wanted op (yielded ops a.tmps) = true) (ho : op.op = .load 45 x)
    (hx : a.eval x = .pointer (some ⟨G, 0, none⟩)) (h : wpList Tryz.prog ops Q rest (a.put op.dst (prefV f bs n)) w) : wpList Tryz.prog ops Q (op :: rest) a w :=
  wpList_load_row hw 45 x ho G 0 hx (prefL f bs n) _ (hS.out.get hm.out.1) Tryz.underlying45 rfl (by rw [pref_size, prefL_len f bs n hm.out.2]) h
theorem load_addr_h {ops : Array Oper} {rest : List Oper} {op : Oper} {a : Act} {w W : World} {Q : Exit → Act → World → Prop} {L : List (Nat × Nat × List Value)} {G : Nat} {f : Int} {bs : List Nat} (hS : Hid (HeldR L W w)) (hm : Hid (InA L G f bs)) (x : Operand) (hw : Region.wanted op (yielded ops a.tmps) = true) (ho : op.op = .load 24 x)
    (hx : a.eval x = .pointer (some ⟨G, 0, none⟩)) (h : wpList Tryz.prog ops Q rest (a.put op.dst (addrV f bs)) w) : wpList Tryz.prog ops Q (op :: rest) a w :=
  wpList_load_row hw 24 x ho G 0 hx (addrL f bs) _ (hS.out.get hm.out.1) Tryz.underlying24 rfl (by rw [addr_size, addrL_len f bs hm.out.2]) h
end Go.Proofs.YtgbajagacmfcmaaGreatDoor
/- A row of entries (abatisref06.E: a prefix and a value: 19 cells each), as a walk reads it. -/
namespace Go.Proofs.YtgbajagacmfcmaaGreatDoor
open Go.RowKit
set_option linter.unusedVariables false
set_option maxRecDepth 20000

/-- An entry: a prefix that may be, and a value. -/
structure Ent where
  f : Int
  b : List Nat
  n : Nat
  v : Int
deriving DecidableEq
def Ent.L (e : Ent) : List Value := prefL e.f e.b (e.n : Int) ++ [Value.int .i64 e.v]
def Ent.Good (e : Ent) : Prop := GoodP e.f e.b e.n ∧ (Lit.int .i64 e.v).wf = true
def flatE (es : List Ent) : List Value := es.flatMap Ent.L
def AllGood (es : List Ent) : Prop := ∀ e ∈ es, e.Good
theorem Ent.L_len (e : Ent) (h : e.b.length = 16) : e.L.length = 19 := by simp [Ent.L, prefL_len _ _ _ h]
theorem flatE_len : ∀ (es : List Ent), AllGood es → (flatE es).length = es.length * 19
  | [], _ => rfl
  | e :: es, h => by
    have h1 := Ent.L_len e (h e (by simp)).1.len
    have h2 := flatE_len es (fun x hx => h x (by simp [hx]))
    show (e.L ++ flatE es).length = _
    rw [List.length_append, h1, h2, List.length_cons]
    omega
theorem flatE_at : ∀ (es : List Ent), AllGood es → ∀ k (hk : k < es.length) j, j < 19 → (flatE es)[k * 19 + j]? = (es[k]).L[j]?
  | [], _, k, hk, j, hj => absurd hk (by simp)
  | e :: es, h, k, hk, j, hj => by
    have h1 := Ent.L_len e (h e (by simp)).1.len
    show (e.L ++ flatE es)[k * 19 + j]? = _
    cases k with
    | zero => rw [Nat.zero_mul, Nat.zero_add, List.getElem?_append_left (by omega)]; rfl
    | succ k =>
      rw [List.getElem?_append_right (by omega), h1, show (k + 1) * 19 + j - 19 = k * 19 + j by omega]
      exact flatE_at es (fun x hx => h x (by simp [hx])) k (by simpa using hk) j hj
theorem flatE_append (xs ys : List Ent) : flatE (xs ++ ys) = flatE xs ++ flatE ys := by simp [flatE]
theorem flatE_one (es : List Ent) (h : AllGood es) : ∀ u ∈ flatE es, u.oneCell' = true := by
  intro u hu
  obtain ⟨e, he, h2⟩ := List.mem_flatMap.1 hu
  rcases List.mem_append.1 h2 with h3 | h3
  · have := prefL_one e.f e.b (e.n : Int)
    rw [Array.all_eq_true_iff_forall_mem] at this
    exact this u (by simpa using h3)
  · rw [List.mem_singleton] at h3; rw [h3]; rfl
/-- A row of entries. -/
def RowE (w : World) (base : Nat) (v : Value) (es : List Ent) : Prop := w.ownsRow base 58 19 v es.length (flatE es) ∧ AllGood es ∧ es.length ≤ 1000
theorem RowE.below {w w' : World} {base : Nat} {v : Value} {es : List Ent} (h : RowE w base v es) (hb : Below w.heap.size w w') : RowE w' base v es := by
  obtain ⟨⟨h1, h2⟩, h3⟩ := h
  refine ⟨⟨h1, ?_⟩, h3⟩
  rcases h2 with h2 | ⟨g, cap, cur, e1, e2, e3, e4⟩
  · exact .inl h2
  · refine .inr ⟨g, cap, cur, e1, e2, ?_, e4⟩
    have hlt : g < w.heap.size := by
      apply Classical.byContradiction
      intro h
      rw [Array.getElem?_eq_none (by omega)] at e3
      cases e3
    rw [hb.block g hlt]
    exact e3
theorem RowE.nil (w : World) (base : Nat) : RowE w base (.slice none 0 0) [] := ⟨World.ownsRow_nil _ _ _ _, (fun e h => absurd h (by simp)), by decide⟩
theorem RowE.mono {w : World} {base base' : Nat} {v : Value} {es : List Ent} (h : RowE w base v es) (hb : base' ≤ base) : RowE w base' v es := by
  obtain ⟨⟨h1, h2⟩, h3⟩ := h
  refine ⟨⟨h1, ?_⟩, h3⟩
  rcases h2 with h2 | ⟨g, cap, cur, e1, e2, e3⟩
  · exact .inl h2
  · exact .inr ⟨g, cap, cur, e1, by omega, e3⟩
/-- How it reads: nil and empty, or cells of a block. -/
theorem RowE.form {w : World} {base : Nat} {v : Value} {es : List Ent} (h : RowE w base v es) : (v = .slice none 0 0 ∧ es = []) ∨ ∃ g cap, v = .slice (some ⟨g, 0, none⟩) es.length cap ∧ base ≤ g ∧ g < w.heap.size ∧ es.length ≤ cap ∧ cap ≤ maxLen ∧ w.rangeAt g 0 (flatE es) := by
  obtain ⟨hr, hg, hle⟩ := h
  obtain ⟨h1, h2⟩ := hr
  rcases h2 with ⟨e1, e2⟩ | ⟨g, cap, cur, e1, e2, e3, e4, e5, e6, e7⟩
  · exact .inl ⟨e1, List.eq_nil_of_length_eq_zero e2⟩
  · refine .inr ⟨g, cap, e1, e2, ?_, e4, e5, fun j u hu => ?_⟩
    · apply Classical.byContradiction
      intro h
      rw [Array.getElem?_eq_none (by omega)] at e3
      cases e3
    · rw [Nat.zero_add, cell_of_row w g j cur _ _ e3, ← Array.getElem?_toList]
      rw [← e7, List.getElem?_take] at hu
      split at hu
      · exact hu
      · cases hu
/-- The entry at a place. -/
theorem range_ent {w : World} {g : Nat} {es : List Ent} (h : w.rangeAt g 0 (flatE es)) (hg : AllGood es) (k : Nat) (hk : k < es.length) : w.rangeAt g (k * 19) (es[k]).L := by
  intro j u hu
  have hl := Ent.L_len (es[k]) (hg _ (List.getElem_mem hk)).1.len
  have hj : j < 19 := by
    apply Classical.byContradiction
    intro h2
    rw [List.getElem?_eq_none (by omega)] at hu
    cases hu
  have := h (k * 19 + j) u (by rw [flatE_at es hg k hk j hj]; exact hu)
  rw [Nat.zero_add] at this
  exact this
theorem range_pref {w : World} {g o : Nat} {e : Ent} (h : w.rangeAt g o e.L) : w.rangeAt g o (prefL e.f e.b (e.n : Int)) := by
  intro j u hu
  refine h j u ?_
  have hj : j < (prefL e.f e.b (e.n : Int)).length := by
    apply Classical.byContradiction
    intro h2
    rw [List.getElem?_eq_none (by omega)] at hu
    cases hu
  unfold Ent.L
  rw [List.getElem?_append_left hj]
  exact hu
theorem cell_val {w : World} {g o : Nat} {e : Ent} (h : w.rangeAt g o e.L) (hl : e.b.length = 16) : w.cell? ⟨g, o + 18, none⟩ = some (.int .i64 e.v) := h 18 _ (by
  unfold Ent.L; rw [List.getElem?_append_right (by rw [prefL_len _ _ _ hl]; exact Nat.le_refl _), prefL_len _ _ _ hl]; rfl)
theorem cell_bits {w : World} {g o : Nat} {e : Ent} (h : w.rangeAt g o e.L) (hl : e.b.length = 16) : w.cell? ⟨g, o + 17, none⟩ = some (.int .i64 (e.n : Int)) := range_pref h 17 _ (by
  unfold prefL; rw [List.getElem?_append_right (by rw [addrL_len _ _ hl]; exact Nat.le_refl _), addrL_len _ _ hl]; rfl)
/-- A prefix somewhere in a held range. -/
def InPo (L : List (Nat × Nat × List Value)) (W : World) (G o : Nat) (f : Int) (bs : List Nat) (n : Int) : Prop := (∀ w, HeldR L W w → w.rangeAt G o (prefL f bs n)) ∧ bs.length = 16
theorem yields_pref_o {ops : Array Oper} {op : Oper} {a : Act} {L : List (Nat × Nat × List Value)} {W : World} {G o : Nat} {f : Int} {bs : List Nat} {n : Int} (hm : Hid (InPo L W G o f bs n)) (hw : Region.wanted op (yielded ops a.tmps) = true) (x : Operand) (ho : op.op = .load 45 x)
    (hx : a.eval x = .pointer (some ⟨G, o, none⟩)) : YieldsIf Tryz.prog ops (HeldR L W) op (prefV f bs n) a :=
  yieldsIf_load_mid hw 45 x ho G o hx (prefL f bs n) _ (fun w h => hm.out.1 w h) Tryz.underlying45 rfl (by rw [pref_size, prefL_len f bs n hm.out.2])
def isEnt (f : Int) (bs : List Nat) (n : Int) (e : Ent) : Bool := decide (e.f = f ∧ e.b = bs ∧ (e.n : Int) = n)
end Go.Proofs.YtgbajagacmfcmaaGreatDoor
/- An entry (abatisref06.E) in memory: read and stored whole, given back, built. -/
namespace Go.Proofs.YtgbajagacmfcmaaGreatDoor
open Go.RowKit
set_option linter.unusedVariables false
set_option maxRecDepth 20000

/-- The cells of an entry, of whatever prefix. -/
def entL (f : Int) (bs : List Nat) (n v : Int) : List Value := prefL f bs n ++ [Value.int .i64 v]
def entV (f : Int) (bs : List Nat) (n v : Int) : Value := .agg (entL f bs n v).toArray
theorem Ent.L_eq (e : Ent) : e.L = entL e.f e.b (e.n : Int) e.v := rfl
theorem entL_len (f : Int) (bs : List Nat) (n v : Int) (h : bs.length = 16) : (entL f bs n v).length = 19 := by simp [entL, prefL_len f bs n h]
theorem entL_one (f : Int) (bs : List Nat) (n v : Int) : (entL f bs n v).toArray.all (·.oneCell') = true := all_oneCell_toArray fun u hu => by
  rcases List.mem_append.1 hu with hu | hu
  · have := prefL_one f bs n
    rw [Array.all_eq_true_iff_forall_mem] at this
    exact this u (by simpa using hu)
  · rw [List.mem_singleton] at hu; rw [hu]; rfl
theorem ent_size : (Tryz.prog.info? 58).map (·.size) = some 19 := by kernel_rfl
/-- An entry lies at G. -/
structure EntAt (w : World) (G : Nat) (f : Int) (bs : List Nat) (n v : Int) : Prop where
  len : bs.length = 16
  lt : G < w.heap.size
  range : w.rangeAt G 0 (entL f bs n v)
  there : w.there G 0 19
section
variable {w w' : World} {G : Nat} {f : Int} {bs : List Nat} {n v : Int}
theorem EntAt.below (h : EntAt w G f bs n v) (hb : Below w.heap.size w w') : EntAt w' G f bs n v :=
  ⟨h.len, Nat.lt_of_lt_of_le h.lt hb.size, fun j u hu => by rw [hb.cell (p := ⟨G, 0 + j, none⟩) h.lt]; exact h.range j u hu, fun j hj => by
    rw [hb.cell (p := ⟨G, 0 + j, none⟩) h.lt, hb.frozen (p := ⟨G, 0 + j, none⟩) h.lt]
    exact h.there j hj⟩
theorem EntAt.alloc (h : EntAt w G f bs n v) (b : Obj) : EntAt (w.alloc b) G f bs n v := h.below ((Below.refl _ _).alloc (Nat.le_refl _) _)
theorem EntAt.stored {f0 : Int} {bs0 : List Nat} {n0 v0 : Int} (h : EntAt w G f0 bs0 n0 v0) (f : Int) (bs : List Nat) (n v : Int) (hl : bs.length = 16) : EntAt (w.setCells G 0 (entL f bs n v)) G f bs n v := by
  have ht : w.there G 0 (entL f bs n v).length := by rw [entL_len f bs n v hl]; exact h.there
  exact ⟨hl, by rw [size_setCells]; exact h.lt, World.rangeAt_setCells_same w G 0 _ ht, World.there_setCells h.there G 0 _⟩
end
theorem EntAt.of (w : World) (t : TypeId) (cs : Array Value) (f : Int) (bs : List Nat) (n v : Int) (h16 : bs.length = 16) (h : cs.toList = entL f bs n v) : EntAt (w.alloc (.cells cs t)) w.heap.size f bs n v := by
  have e : ∀ j, cs[j]? = (entL f bs n v)[j]? := fun j => by rw [← h, Array.getElem?_toList]
  refine ⟨h16, by simp, fun j u hu => ?_, fun j hj => ⟨?_, World.frozen?_alloc_new _ _ _ _⟩⟩
  · rw [World.cell?_alloc_new, Nat.zero_add, e]; exact hu
  · rw [World.cell?_alloc_new, Nat.zero_add, e, List.getElem?_eq_getElem (by rw [entL_len f bs n v h16]; exact hj)]; rfl
/-- The cells of an entry of zeros. -/
abbrev zE : Array Value := #[.int .i64 0, .int .u8 0, .int .u8 0, .int .u8 0, .int .u8 0, .int .u8 0, .int .u8 0, .int .u8 0, .int .u8 0, .int .u8 0, .int .u8 0, .int .u8 0, .int .u8 0, .int .u8 0, .int .u8 0, .int .u8 0, .int .u8 0, .int .i64 0, .int .i64 0]
theorem ent_zeroed (w : World) : EntAt (w.alloc (.cells zE 58)) w.heap.size 0 (List.replicate 16 0) 0 0 := EntAt.of w _ _ 0 _ 0 0 rfl rfl
/-- An entry, loaded whole from wherever it lies. -/
theorem load_ent_o {ops : Array Oper} {rest : List Oper} {op : Oper} {a : Act} {w : World} {Q : Exit → Act → World → Prop} {G o : Nat} {f : Int} {bs : List Nat} {n v : Int} (hl : Hid (bs.length = 16)) (hA : Hid (w.rangeAt G o (entL f bs n v))) (x : Operand) (hw : Region.wanted op (yielded ops a.tmps) = true) (ho : op.op = .load 58 x)
    (hx : a.eval x = .pointer (some ⟨G, o, none⟩)) (h : wpList Tryz.prog ops Q rest (a.put op.dst (entV f bs n v)) w) : wpList Tryz.prog ops Q (op :: rest) a w :=
  wpList_load_row hw 58 x ho G o hx (entL f bs n v) _ hA.out Tryz.underlying58 rfl (by rw [ent_size, entL_len f bs n v hl.out]) h
/-- An entry, stored whole. -/
theorem store_ent {ops : Array Oper} {rest : List Oper} {op : Oper} {a : Act} {w : World} {Q : Exit → Act → World → Prop} {G : Nat} {g : Int} {bs0 : List Nat} {n0 v0 : Int} (hA : Hid (EntAt w G g bs0 n0 v0)) (x y : Operand) {f : Int} {bs : List Nat} {n v : Int} (hl : Hid (bs.length = 16)) (hgd : op.guard = none) (ho : op.op = .store 58 x y)
    (hx : a.eval x = .pointer (some ⟨G, 0, none⟩)) (hy : a.eval y = entV f bs n v) (h : ∀ W, Hid (W = w.setCells G 0 (entL f bs n v)) → Hid (EntAt W G f bs n v) → wpList Tryz.prog ops Q rest (a.put op.dst undef) W) : wpList Tryz.prog ops Q (op :: rest) a w :=
  wpList_store_mid hgd 58 x y ho G 0 (entL f bs n v).toArray hx hy (by rw [List.size_toArray, entL_len f bs n v hl.out]; exact hA.out.there) (by rw [ent_size, List.size_toArray, entL_len f bs n v hl.out]) (entL_one f bs n v) (h _ (Lib.hid rfl) (Lib.hid (hA.out.stored f bs n v hl.out)))
theorem loadVar_ent {w : World} {G : Nat} {f : Int} {bs : List Nat} {n v : Int} (h : EntAt w G f bs n v) : (loadVar 58 ⟨G, 0, none⟩).run Tryz.prog w = .ok (entV f bs n v) w :=
  run_loadVar_mid w G 0 58 (entL f bs n v) _ h.range Tryz.underlying58 rfl (by rw [ent_size, entL_len f bs n v h.len])
theorem results_ent2 {fn : Func} {a t : Tmp} {tmps : Array Value} {W : World} {R : Nat} {f : Int} {bs : List Nat} {n v : Int} (h : fn.results = #[.cell a 58, .tmp t]) (ha : tmps.getD a undef = .pointer (some ⟨R, 0, none⟩)) (hA : EntAt W R f bs n v) : (results fn tmps).run Tryz.prog W = .ok (.tuple #[entV f bs n v, tmps.getD t undef]) W := by
  rw [Array.getD_eq_getD_getElem?] at ha
  simp [results, h, ha, asAddr, loadVar_ent hA]
/-- An entry, built of a prefix and a value; one of zeros. -/
theorem built_ent (f : Int) (bs : List Nat) (n v : Int) (h16 : bs.length = 16) : Tryz.prog.built 58 [(0, prefV f bs n), (1, .int .i64 v)] = some (entL f bs n v).toArray := by
  obtain ⟨y0, y1, y2, y3, y4, y5, y6, y7, y8, y9, y10, y11, y12, y13, y14, y15, rfl⟩ := list16 bs h16
  kernel_rfl
theorem built_ent0 : Tryz.prog.built 58 [] = some (entL 0 (List.replicate 16 0) 0 0).toArray := rfl
theorem build_ent {ops : Array Oper} {rest : List Oper} {op : Oper} {a : Act} {w : World} {Q : Exit → Act → World → Prop} {f : Int} {bs : List Nat} {n v : Int} (hl : Hid (bs.length = 16)) (hg : op.guard = none) (x y : Operand) (ho : op.op = .build 58 #[(0, x), (1, y)])
    (hx : a.eval x = prefV f bs n) (hy : a.eval y = .int .i64 v) (h : wpList Tryz.prog ops Q rest (a.put op.dst (entV f bs n v)) w) : wpList Tryz.prog ops Q (op :: rest) a w := by
  have e : Tryz.prog.built 58 ((#[(0, x), (1, y)] : Array (Nat × Operand)).map fun (i, x) => (i, a.eval x)).toList = some (entL f bs n v).toArray := by
    simp only [List.map_toArray, List.map_cons, List.map_nil]
    rw [hx, hy]; exact built_ent f bs n v hl.out
  refine wpList_build hg 58 _ ho (by rw [e]; rfl) ?_
  rw [e]
  exact h
theorem build_ent0 {ops : Array Oper} {rest : List Oper} {op : Oper} {a : Act} {w : World} {Q : Exit → Act → World → Prop} (hg : op.guard = none) (ho : op.op = .build 58 #[])
    (h : wpList Tryz.prog ops Q rest (a.put op.dst (entV 0 (List.replicate 16 0) 0 0)) w) : wpList Tryz.prog ops Q (op :: rest) a w := by
  have e : Tryz.prog.built 58 ((#[] : Array (Nat × Operand)).map fun (i, x) => (i, a.eval x)).toList = some (entL 0 (List.replicate 16 0) 0 0).toArray := by
    simp only [List.map_toArray, List.map_nil]
    exact built_ent0
  refine wpList_build hg 58 _ ho (by rw [e]; rfl) ?_
  rw [e]
  exact h
end Go.Proofs.YtgbajagacmfcmaaGreatDoor
/- Entries appended to a row of one's own. -/
namespace Go.Proofs.YtgbajagacmfcmaaGreatDoor
open Go.RowKit
set_option linter.unusedVariables false
set_option maxRecDepth 20000

theorem infoE : (Tryz.prog.info? 58).map (fun i => (i.zero, i.size, i.bytes)) = some (some (.agg zE), 19, 40) := by kernel_rfl
theorem RowE.kept {w w' : World} {base : Nat} {v : Value} {es : List Ent} {row : Option Nat} (h : RowE w base v es) (hg : w.grownBy w' row) (hne : v.ownBlock = none ∨ v.ownBlock ≠ row) : RowE w' base v es := ⟨h.1.kept hg hne, h.2⟩
theorem below_grown {w0 w w' : World} {v : Value} {es : List Ent} (hb : Below w0.heap.size w0 w) (hE : RowE w w0.heap.size v es) (hg : w.grownBy w' v.ownBlock) : Below w0.heap.size w0 w' :=
  hb.grown hg hb.size (fun k hk => (hE.1.lt k hk).1)
/-- Entries that lie somewhere are appended. -/
theorem append_ents {ops : Array Oper} {rest : List Oper} {op : Oper} {a : Act} {w : World} {Q : Exit → Act → World → Prop} {base : Nat} {v : Value} {es : List Ent} (hE : Hid (RowE w base v es)) (s x : Operand) (hgd : op.guard = none) (ho : op.op = .call { callee := .builtin .append, args := #[s, x], argTypes := #[28, 28] })
    (hs : a.eval s = v) {G o m c : Nat} (ys : List Ent) (hx : a.eval x = .slice (some ⟨G, o, none⟩) m c) (hm : Hid (m = ys.length)) (hr : Hid (w.rangeAt G o (flatE ys))) (hy : Hid (AllGood ys)) (hle : Hid (es.length + ys.length ≤ 1000)) (hbase : Hid (base ≤ w.heap.size))
    (h : ∀ v' w', Hid (RowE w' base v' (es ++ ys)) → Hid (w.grownBy w' v.ownBlock) → Hid (v'.ownBlock = v.ownBlock ∨ v'.ownBlock = some w.heap.size) → wpList Tryz.prog ops Q rest (a.put op.dst v') w') : wpList Tryz.prog ops Q (op :: rest) a w := by
  obtain ⟨i0, hi0, hz0, hz1, hz2⟩ := info_parts infoE
  have hml := hm.out
  have hll := hle.out
  refine wpList_append_own_at w hgd s x 28 ho base 58 i0 _ 19 40 Tryz.underlying28 hi0 hz0 hz1 hz2 rfl (by decide) v es.length (flatE es) hs hE.out.1 ⟨G, o, none⟩ m c (flatE ys) hx (by rw [flatE_len ys hy.out, hml]) (fun j u hu => ?_) (flatE_one ys hy.out) (by unfold maxLen; omega) (by omega) hbase.out (fun v' w' h1 h2 _ h4 => ?_)
  · have := hr.out j u hu
    have hadd : (⟨G, o, none⟩ : Addr).add j = ⟨G, o + j, none⟩ := by unfold Addr.add; split <;> simp_all
    rw [hadd]
    exact this
  · refine h v' w' (Lib.hid ⟨?_, ?_, ?_⟩) (Lib.hid h2) (Lib.hid h4)
    · rw [List.length_append, flatE_append, ← hml]; exact h1
    · intro e he
      rcases List.mem_append.1 he with he | he
      · exact hE.out.2.1 e he
      · exact hy.out e he
    · rw [List.length_append]; exact hll
theorem append_none {ops : Array Oper} {rest : List Oper} {op : Oper} {a : Act} {w : World} {Q : Exit → Act → World → Prop} {base : Nat} {v : Value} {es : List Ent} (hE : Hid (RowE w base v es)) (s x : Operand) (hgd : op.guard = none) (ho : op.op = .call { callee := .builtin .append, args := #[s, x], argTypes := #[28, 28] })
    (hs : a.eval s = v) (hx : a.eval x = .slice none 0 0) (h : wpList Tryz.prog ops Q rest (a.put op.dst v) w) : wpList Tryz.prog ops Q (op :: rest) a w := by
  obtain ⟨i0, hi0, _⟩ := info_parts infoE
  refine wpList_plain hgd fun K hK => ?_
  have hr := run_append_owned_none (P := Tryz.prog) w base 28 op.type 58 i0 19 Tryz.underlying28 hi0 v es.length (flatE es) hE.out.1
  unfold Oper.wp execOp
  simp only [ho, resolve, invoke, builtin, Sem.run_bind, Sem.run_pure, Result.andThen_ok, List.map_toArray, List.map_cons, List.map_nil, hs, hx, hr]
  exact hK _ _ h
theorem fillE (f : Int) (bs : List Nat) (n v : Int) (h16 : bs.length = 16) : Instr.fill (fun i => some (i * 19, 19)) ((Array.range (1 * 19)).map fun j => zE[j % zE.size]!) [(0, entV f bs n v)] = some (entL f bs n v).toArray := by
  obtain ⟨y0, y1, y2, y3, y4, y5, y6, y7, y8, y9, y10, y11, y12, y13, y14, y15, rfl⟩ := list16 bs h16
  kernel_rfl
theorem run_buildE (f : Int) (bs : List Nat) (n v : Int) (w : World) (h16 : bs.length = 16) : (Instr.buildSlice 28 1 #[(0, entV f bs n v)]).run Tryz.prog w = .ok (.slice (some ⟨w.heap.size, 0, none⟩) 1 1) (w.alloc (.cells (entL f bs n v).toArray 58)) := by
  obtain ⟨i0, hi0, hz0, hz1, hz2⟩ := info_parts infoE
  have hf := fillE f bs n v h16
  obtain ⟨Z, hZ⟩ : ∃ Z : Array Value, zE = Z := ⟨_, rfl⟩
  rw [hZ] at hf hz0
  have hsz : (sizeOf 58).run Tryz.prog w = .ok 19 w := by simp [sizeOf, typeInfo, hi0, hz1]
  have hzv : (zeroValue 58).run Tryz.prog w = .ok (.agg Z) w := by simp [zeroValue, typeInfo, hi0, hz0]
  have hnr : ∀ cs : Array Value, (newRow 58 cs).run Tryz.prog w = .ok ⟨w.heap.size, 0, none⟩ (w.alloc (.cells cs 58)) := fun cs => by simp [newRow]
  have hu : (underlying 28).run Tryz.prog w = .ok _ w := run_underlying Tryz.underlying28 w
  have hfc : Instr.fill (fun i => some (i * 19, 19)) ((Array.range (1 * 19)).map fun j => (Value.agg Z).cells[j % (Value.agg Z).cells.size]!) (#[(0, entV f bs n v)] : Array (Nat × Value)).toList = some (entL f bs n v).toArray := hf
  unfold Instr.buildSlice
  simp only [Sem.run_bind, hu, Result.andThen_ok, hsz, if_neg (show ¬ (1 * 19 > 2 ^ 24) by decide), Sem.run_pure, if_neg (show ¬ (1 * 19 = 0) by decide), hzv, hfc, hnr]
theorem build_entS {ops : Array Oper} {rest : List Oper} {op : Oper} {a : Act} {w : World} {Q : Exit → Act → World → Prop} {f : Int} {bs : List Nat} {n v : Int} (hl : Hid (bs.length = 16)) (hg : op.guard = none) (x : Operand) (ho : op.op = .buildSlice 28 1 #[(0, x)])
    (hx : a.eval x = entV f bs n v) (h : ∀ W, Hid (W = w.alloc (.cells (entL f bs n v).toArray 58)) → wpList Tryz.prog ops Q rest (a.put op.dst (.slice (some ⟨w.heap.size, 0, none⟩) 1 1)) W) : wpList Tryz.prog ops Q (op :: rest) a w := by
  refine wpList_plain hg fun K hK => ?_
  unfold Oper.wp execOp
  simp only [ho, List.map_toArray, List.map_cons, List.map_nil, hx, Sem.run_bind, run_buildE f bs n v w hl.out, Result.andThen_ok]
  exact hK _ _ (h _ (Lib.hid rfl))
theorem run_neq_pref (f g : Int) (xs ys : List Nat) (n m : Int) (W : World) (hx : xs.length = 16) (hy : ys.length = 16) : (binOp .neq 45 (prefV f xs n) (prefV g ys m)).run Tryz.prog W = .ok (.bool (!decide (f = g ∧ xs = ys ∧ n = m))) W := by
  have h := eq_pref f g xs ys n m W hx hy
  unfold prefV at h ⊢
  rw [run_neq_struct, h]
  rfl
theorem buildS_new {w : World} {cs : List Value} (t : TypeId) : (w.alloc (.cells cs.toArray t)).rangeAt w.heap.size 0 cs := by
  intro j u hu
  rw [World.cell?_alloc_new, Nat.zero_add]
  simpa using hu
theorem below_none {w w' : World} (h : w.grownBy w' (Value.slice none 0 0).ownBlock) : Below w.heap.size w w' := ⟨h.os, h.tape, h.output, h.size, fun k hk => h.block k hk (by intro e; cases e)⟩
theorem range_far {w w' : World} {G o : Nat} {cs : List Value} {row : Option Nat} (h : w.rangeAt G o cs) (hg : w.grownBy w' row) (hlt : G < w.heap.size) (hne : some G ≠ row) : w'.rangeAt G o cs := fun j u hu => by rw [hg.cell_far ⟨G, o + j, none⟩ hlt hne]; exact h j u hu
theorem PrefAt.belowB {w w' : World} {G B : Nat} {f : Int} {bs : List Nat} {n : Int} (h : PrefAt w G f bs n) (hb : Below B w w') (hG : G < B) : PrefAt w' G f bs n :=
  PrefAt.ofRange h.addr.len (Nat.lt_of_lt_of_le h.addr.lt hb.size) (fun j u hu => by rw [hb.cell (p := ⟨G, 0 + j, none⟩) hG]; exact h.range j u hu) (fun j hj => by
    rw [hb.cell (p := ⟨G, 0 + j, none⟩) hG, hb.frozen (p := ⟨G, 0 + j, none⟩) hG]
    exact h.there j hj)
theorem range_belowB {w w' : World} {G B o : Nat} {cs : List Value} (h : w.rangeAt G o cs) (hb : Below B w w') (hG : G < B) : w'.rangeAt G o cs := fun j u hu => by rw [hb.cell (p := ⟨G, o + j, none⟩) hG]; exact h j u hu
end Go.Proofs.YtgbajagacmfcmaaGreatDoor
/- Contract of the reference's Drop of layer 6. -/
namespace Go.Proofs.YtgbajagacmfcmaaGreatDoor
open Go.RowKit
set_option linter.unusedVariables false
set_option maxRecDepth 20000

/-- All but a prefix's entry. -/
def dropE (es : List Ent) (f : Int) (bs : List Nat) (n : Int) : List Ent := es.filter (fun e => !isEnt f bs n e)
theorem dropE_len (es : List Ent) (f : Int) (bs : List Nat) (n : Int) : (dropE es f bs n).length ≤ es.length := List.length_filter_le _ _
theorem filter_take {α : Type} (p : α → Bool) (l : List α) (k : Nat) (hk : k < l.length) : (l.take (k + 1)).filter p = (l.take k).filter p ++ (if p l[k] then [l[k]] else []) := by
  rw [List.take_succ_eq_append_getElem hk, List.filter_append]
  congr 1
  simp [List.filter_cons]
set_option maxRecDepth 100000 in
set_option maxHeartbeats 1000000 in
theorem refDrop_any (v : Value) (es : List Ent) (f : Int) (bs : List Nat) (n : Int) (w : World) (base : Nat) (hE : RowE w base v es) (h16 : bs.length = 16) :
    Calls Tryz.prog 27 #[v, prefV f bs n] w fun e w' => ∃ v', e = .returned (.tuple #[v', .bool (decide ((dropE es f bs n).length < es.length))]) ∧ RowE w' w.heap.size v' (dropE es f bs n) ∧ Below w.heap.size w w' := by
  have H16 := Lib.hid h16
  have hlen := hE.2.2
  obtain ⟨cs, ecs, H1, HB⟩ := pref_boxed f bs n w h16
  have HE := Lib.hid (hE.below HB.out)
  rw [ecs]
  clear ecs h16
  rcases hE.form with ⟨rfl, rfl⟩ | ⟨g, cap, rfl, hg1, hg2, hcap, hcap2, hrg⟩
  · clear hE
    go_enter Tryz.func27, Tryz.ntmps27
    go_upto_region 1 with fail
    generalize (w.alloc (.cells cs 45)) = W at *
    go_wp2_with fail
    go_loop [6, 7] (fun o i => i = .int .i64 0 ∧ o = .slice none 0 0) (fun _ _ => 0)
    case atStart => exact ⟨rfl, rfl⟩
    case round =>
      obtain ⟨rfl, rfl⟩ := hrel
      go_wp2_with fail
      go_ret2
      exact ⟨_, rfl, RowE.nil _ _, HB.out⟩
  · go_enter Tryz.func27, Tryz.ntmps27
    go_upto_region 1 with fail
    generalize (w.alloc (.cells cs 45)) = W at *
    obtain ⟨L, hL⟩ : ∃ L, [(w.heap.size, 0, prefL f bs n), (w.heap.size, 0, addrL f bs), (g, 0, flatE es)] = L := ⟨_, rfl⟩
    have hrg2 : W.rangeAt g 0 (flatE es) := fun j u hu => by rw [HB.out.cell (p := ⟨g, 0 + j, none⟩) hg2]; exact hrg j u hu
    have HAG := Lib.hid hE.2.1
    have HW0 := Lib.hid H1.out.addr.lt
    have HRG := Lib.hid hrg2
    clear hL hrg hrg2 HE hE L
    have gd := guard_pref
    go_wp2_with fail
    go_loopw [6, 7] (fun o i wr => ∃ k : Nat, k ≤ es.length ∧ i = .int .i64 (k : Int) ∧ Hid (RowE wr (w.heap.size + 1) o (dropE (es.take k) f bs n)) ∧ Hid (PrefAt wr w.heap.size f bs n) ∧ Hid (wr.rangeAt g 0 (flatE es)) ∧ Hid (Below w.heap.size w wr)) (fun _ i _ => es.length - (intOf i).toNat)
    case atStart => exact ⟨0, Nat.zero_le _, rfl, Lib.hid (RowE.nil _ _), H1, HRG, HB⟩
    case round =>
      obtain ⟨k, hk, rfl, HO, HP, HG, HBL⟩ := hrel
      clear H1 HRG HB HW0
      by_cases hkl : k < es.length
      · have hd : decide ((k : Int) < (es.length : Int)) = true := by simp; omega
        have hdn : decide (k < es.length) = true := by simp; omega
        have hki : (k : Int) < (es.length : Int) := by omega
        obtain ⟨en, hen⟩ : ∃ en, es[k] = en := ⟨_, rfl⟩
        have hgd : en.Good := by rw [← hen]; exact HAG.out _ (List.getElem_mem hkl)
        have HGD := Lib.hid hgd
        have HLE := Lib.hid hgd.1.len
        have HFT := Lib.hid (filter_take (fun e => !isEnt f bs n e) es k hkl)
        rw [hen] at HFT
        have HKE : Hid (wr.rangeAt g (k * 19) (entL en.f en.b (en.n : Int) en.v)) := Lib.hid (by have := range_ent HG.out HAG.out k hkl; rw [hen] at this; exact this)
        have HKP : Hid (wr.rangeAt g (k * 19) (prefL en.f en.b (en.n : Int))) := Lib.hid (range_pref (e := en) HKE.out)
        have q1 := fun W => run_neq_pref en.f f en.b bs (en.n : Int) n W hgd.1.len H16.out
        have HDL : Hid ((dropE (es.take k) f bs n).length + 1 ≤ 1000) := Lib.hid (by have := dropE_len (es.take k) f bs n; rw [List.length_take] at this; omega)
        clear hen hgd
        have hglt := Nat.lt_of_lt_of_le hg2 HBL.out.size
        obtain ⟨L, hL⟩ : ∃ L, [(w.heap.size, 0, prefL f bs n), (w.heap.size, 0, addrL f bs), (g, k * 19, prefL en.f en.b (en.n : Int))] = L := ⟨_, rfl⟩
        have HK := Lib.hid (show HeldR L wr wr by rw [← hL]; exact ((HeldR.nil (Below.refl _ _)).cons HKP.out hglt).pref HP.out)
        have Mp3 := Lib.hid (show InP L w.heap.size f bs n from ⟨by rw [← hL]; simp, H16.out⟩)
        have Mk := Lib.hid (show InPo L wr g (k * 19) en.f en.b (en.n : Int) from ⟨fun w' h => h.get (by rw [← hL]; simp), HLE.out⟩)
        clear hL HKP
        replace HO := Lib.hid (HO.out.below (Below.refl _ _).drew)
        replace HP := Lib.hid (HP.out.below (Below.refl _ _).drew)
        replace HBL := Lib.hid HBL.out.drew
        have HG2 : Hid (wr.drew.rangeAt g 0 (flatE es)) := Lib.hid (fun j u hu => by rw [(Below.refl wr.heap.size wr).drew.cell (p := ⟨g, 0 + j, none⟩) hglt]; exact HG.out j u hu)
        have HKE2 : Hid (wr.drew.rangeAt g (k * 19) (entL en.f en.b (en.n : Int) en.v)) := Lib.hid (fun j u hu => by rw [(Below.refl wr.heap.size wr).drew.cell (p := ⟨g, k * 19 + j, none⟩) hglt]; exact HKE.out j u hu)
        have HGL : Hid (g < wr.drew.heap.size) := Lib.hid hglt
        clear HG HKE hglt
        go_upto_region 5 with fail
        cases hm : isEnt f bs n en with
        | true =>
          rw [show decide (en.f = f ∧ en.b = bs ∧ (en.n : Int) = n) = true from hm] at q1
          have HV : Hid (dropE (es.take (k + 1)) f bs n = dropE (es.take k) f bs n) := Lib.hid (by unfold dropE; rw [HFT.out, hm]; simp)
          clear hm
          refine wp_region_noPanic ?_
          refine wp_region_held_drew (S := HeldR L wr) (by kernel_rfl) HK.out.drew (fun hHeld => ?_)
          generalize wr.drew = V at *
          refine wpAnyH_take (i := 0) (v := ?_) rfl (by kernel_rfl) (by kernel_rfl) (by kernel_rfl) (fun _ _ _ h => h) (Or.inl ⟨by rfl, ?_⟩) (by assumption) ?_
          rotate_left
          · (intro w hSw; go_simp; try (with_reducible rfl))
          try simp only [Act.put, List.getElem_toArray, List.getElem_cons_zero, List.setIfInBounds_toArray, List.set_cons_zero, List.set_cons_succ]
          refine wpAnyH_take (i := 1) (v := ?_) rfl (by kernel_rfl) (by kernel_rfl) (by kernel_rfl) (fun _ _ _ h => h) (Or.inl ⟨by rfl, ?_⟩) (by assumption) ?_
          rotate_left
          · (intro w hSw; go_simp; try (with_reducible rfl))
          try simp only [Act.put, List.getElem_toArray, List.getElem_cons_zero, List.getElem_cons_succ, List.setIfInBounds_toArray, List.set_cons_zero, List.set_cons_succ]
          refine wpAnyH_take (i := 2) (v := ?_) rfl (by kernel_rfl) (by kernel_rfl) (by kernel_rfl) (fun _ _ _ h => h) (Or.inl ⟨by rfl, ?_⟩) (by assumption) ?_
          rotate_left
          · (intro w hSw; go_simp; try (with_reducible rfl))
          try simp only [Act.put, List.getElem_toArray, List.getElem_cons_zero, List.getElem_cons_succ, List.setIfInBounds_toArray, List.set_cons_zero, List.set_cons_succ]
          refine wpAnyH_take (i := 3) (v := ?_) rfl (by kernel_rfl) (by kernel_rfl) (by kernel_rfl) (fun _ _ _ h => h) (Or.inl ⟨by rfl, ?_⟩) (by assumption) ?_
          rotate_left
          · (intro w hSw; go_simp; try (with_reducible rfl))
          try simp only [Act.put, List.getElem_toArray, List.getElem_cons_zero, List.getElem_cons_succ, List.setIfInBounds_toArray, List.set_cons_zero, List.set_cons_succ]
          refine wpAnyH_take (i := 4) rfl (by kernel_rfl) (by kernel_rfl) (by kernel_rfl) (fun _ _ _ h => h) (yields_pref_o Mk (by rfl) _ rfl rfl) (by assumption) ?_
          try simp only [Act.put, List.getElem_toArray, List.getElem_cons_zero, List.getElem_cons_succ, List.setIfInBounds_toArray, List.set_cons_zero, List.set_cons_succ]
          refine wpAnyH_take (i := 5) rfl (by kernel_rfl) (by kernel_rfl) (by kernel_rfl) (fun _ _ _ h => h) (yields_pref Mp3 (by rfl) _ rfl rfl) (by assumption) ?_
          try simp only [Act.put, List.getElem_toArray, List.getElem_cons_zero, List.getElem_cons_succ, List.setIfInBounds_toArray, List.set_cons_zero, List.set_cons_succ]
          refine wpAnyH_take (i := 6) (v := ?_) rfl (by kernel_rfl) (by kernel_rfl) (by kernel_rfl) (fun _ _ _ h => h) (Or.inl ⟨by rfl, ?_⟩) (by assumption) ?_
          rotate_left
          · (intro w hSw; go_simp; try (with_reducible rfl))
          try simp only [Act.put, List.getElem_toArray, List.getElem_cons_zero, List.getElem_cons_succ, List.setIfInBounds_toArray, List.set_cons_zero, List.set_cons_succ]
          refine wpAnyH_done (by kernel_rfl) ?_ _
          refine NoPanic.normal ?_
          go_wp2_with fail
          go_roundw
          case rel => exact ⟨k + 1, by omega, by go_num, Lib.hid (by rw [HV.out]; exact HO.out), HP, HG2, HBL⟩
          case measure => simp [intOf]; omega
        | false =>
          rw [show decide (en.f = f ∧ en.b = bs ∧ (en.n : Int) = n) = false from hm] at q1
          have HV : Hid (dropE (es.take (k + 1)) f bs n = dropE (es.take k) f bs n ++ [en]) := Lib.hid (by unfold dropE; rw [HFT.out, hm]; simp)
          clear hm
          refine wp_region_noPanic ?_
          refine wp_region_held_drew (S := HeldR L wr) (by kernel_rfl) HK.out.drew (fun hHeld => ?_)
          generalize wr.drew = V at *
          refine wpAnyH_take (i := 0) (v := ?_) rfl (by kernel_rfl) (by kernel_rfl) (by kernel_rfl) (fun _ _ _ h => h) (Or.inl ⟨by rfl, ?_⟩) (by assumption) ?_
          rotate_left
          · (intro w hSw; go_simp; try (with_reducible rfl))
          try simp only [Act.put, List.getElem_toArray, List.getElem_cons_zero, List.setIfInBounds_toArray, List.set_cons_zero, List.set_cons_succ]
          refine wpAnyH_take (i := 1) (v := ?_) rfl (by kernel_rfl) (by kernel_rfl) (by kernel_rfl) (fun _ _ _ h => h) (Or.inl ⟨by rfl, ?_⟩) (by assumption) ?_
          rotate_left
          · (intro w hSw; go_simp; try (with_reducible rfl))
          try simp only [Act.put, List.getElem_toArray, List.getElem_cons_zero, List.getElem_cons_succ, List.setIfInBounds_toArray, List.set_cons_zero, List.set_cons_succ]
          refine wpAnyH_take (i := 2) (v := ?_) rfl (by kernel_rfl) (by kernel_rfl) (by kernel_rfl) (fun _ _ _ h => h) (Or.inl ⟨by rfl, ?_⟩) (by assumption) ?_
          rotate_left
          · (intro w hSw; go_simp; try (with_reducible rfl))
          try simp only [Act.put, List.getElem_toArray, List.getElem_cons_zero, List.getElem_cons_succ, List.setIfInBounds_toArray, List.set_cons_zero, List.set_cons_succ]
          refine wpAnyH_take (i := 3) (v := ?_) rfl (by kernel_rfl) (by kernel_rfl) (by kernel_rfl) (fun _ _ _ h => h) (Or.inl ⟨by rfl, ?_⟩) (by assumption) ?_
          rotate_left
          · (intro w hSw; go_simp; try (with_reducible rfl))
          try simp only [Act.put, List.getElem_toArray, List.getElem_cons_zero, List.getElem_cons_succ, List.setIfInBounds_toArray, List.set_cons_zero, List.set_cons_succ]
          refine wpAnyH_take (i := 4) rfl (by kernel_rfl) (by kernel_rfl) (by kernel_rfl) (fun _ _ _ h => h) (yields_pref_o Mk (by rfl) _ rfl rfl) (by assumption) ?_
          try simp only [Act.put, List.getElem_toArray, List.getElem_cons_zero, List.getElem_cons_succ, List.setIfInBounds_toArray, List.set_cons_zero, List.set_cons_succ]
          refine wpAnyH_take (i := 5) rfl (by kernel_rfl) (by kernel_rfl) (by kernel_rfl) (fun _ _ _ h => h) (yields_pref Mp3 (by rfl) _ rfl rfl) (by assumption) ?_
          try simp only [Act.put, List.getElem_toArray, List.getElem_cons_zero, List.getElem_cons_succ, List.setIfInBounds_toArray, List.set_cons_zero, List.set_cons_succ]
          refine wpAnyH_take (i := 6) (v := ?_) rfl (by kernel_rfl) (by kernel_rfl) (by kernel_rfl) (fun _ _ _ h => h) (Or.inl ⟨by rfl, ?_⟩) (by assumption) ?_
          rotate_left
          · (intro w hSw; go_simp; try (with_reducible rfl))
          try simp only [Act.put, List.getElem_toArray, List.getElem_cons_zero, List.getElem_cons_succ, List.setIfInBounds_toArray, List.set_cons_zero, List.set_cons_succ]
          refine wpAnyH_done (by kernel_rfl) ?_ _
          refine NoPanic.normal ?_
          clear hHeld HK Mk Mp3
          have HM5 : Hid (1 = [en].length) := Lib.hid rfl
          have HY5 : Hid (AllGood [en]) := Lib.hid (fun e he => by rw [List.mem_singleton.1 he]; exact HGD.out)
          have HL5 : Hid ((dropE (es.take k) f bs n).length + [en].length ≤ 1000) := HDL
          have HV5 := Lib.hid (Nat.le_of_lt HP.out.addr.lt)
          go_wp2_with (first
            | refine load_ent_o HLE HKE2 _ rfl rfl rfl ?_
            | (refine build_entS HLE rfl _ rfl rfl (fun W5 HW5 => ?_); have HB5 : Hid (Below V.heap.size V W5) := Lib.hid (by rw [HW5.out]; exact (Below.refl _ _).alloc (Nat.le_refl _) _); have HO5 := Lib.hid (HO.out.below HB5.out); have HR5 : Hid (W5.rangeAt V.heap.size 0 (flatE [en])) := Lib.hid (by rw [HW5.out, show flatE [en] = entL en.f en.b (en.n : Int) en.v from List.append_nil _]; exact buildS_new _); have HS5 : Hid (w.heap.size + 1 ≤ W5.heap.size) := Lib.hid (Nat.le_trans (Nat.succ_le_of_lt HP.out.addr.lt) HB5.out.size))
            | (at_builtin; refine append_ents HO5 _ _ rfl rfl rfl [en] rfl HM5 HR5 HY5 HL5 HS5 (fun v6 w6 HO6 HG6 HA6 => ?_)))
          have hb6 : Below (w.heap.size + 1) V w6 := ((HB5.out.mono (Nat.succ_le_of_lt HP.out.addr.lt))).grown HG6.out HS5.out (fun j hj => (HO5.out.1.lt j hj).1)
          go_roundw
          case rel => exact ⟨k + 1, by omega, by go_num, Lib.hid (by rw [HV.out]; exact HO6.out), Lib.hid (HP.out.belowB hb6 (Nat.lt_succ_self _)), Lib.hid (range_belowB HG2.out hb6 (by omega)), Lib.hid (HBL.out.trans (hb6.mono (Nat.le_succ _)))⟩
          case measure => simp [intOf]; omega
      · obtain rfl : k = es.length := by omega
        have hd : decide ((es.length : Int) < (es.length : Int)) = false := by simp
        have HO2 := HO.out
        rw [List.take_length] at HO2
        have HOE := Lib.hid (HO2.mono (Nat.le_succ _))
        rcases HO2.form with ⟨rfl, hnil⟩ | ⟨g2, cap2, rfl, _, _, _, _, _⟩
        · rw [hnil] at HOE
          have HNL := Lib.hid hnil
          clear HO HO2 hnil
          obtain ⟨b, hb⟩ : ∃ b, decide (0 < es.length) = b := ⟨_, rfl⟩
          have hbi : decide ((0 : Int) < (es.length : Int)) = b := by rw [← hb]; exact decide_eq_decide.2 (by omega)
          go_wp2_with fail
          go_ret2
          exact ⟨.slice none 0 0, by rw [HNL.out]; first | rfl | (rw [← hb]; rfl) | simp, by rw [HNL.out]; exact HOE.out, HBL.out⟩
        · clear HO HO2
          go_wp2_with fail
          go_ret2
          exact ⟨_, by first | rfl | simp, HOE.out, HBL.out⟩
end Go.Proofs.YtgbajagacmfcmaaGreatDoor
/- Contracts of cidr.Compare, of the reference's Compare of layer 5, and of cidr.First. -/
namespace Go.Proofs.YtgbajagacmfcmaaGreatDoor
open Go.RowKit
set_option linter.unusedVariables false
set_option maxRecDepth 20000

set_option maxRecDepth 100000 in
set_option maxHeartbeats 1000000 in
theorem cidrCompare_any (f : Int) (ps : List Nat) (n : Int) (g : Int) (qs : List Nat) (m : Int) (w : World) (hp : ps.length = 16) (hq : qs.length = 16) (lp : ∀ x ∈ ps, x < 256) (lq : ∀ x ∈ qs, x < 256) :
    Calls Tryz.prog 78 #[prefV f ps n, prefV g qs m] w fun e w' => e = .returned (.int .i64 (cmpP f ps n g qs m)) ∧ Below w.heap.size w w' := by
  have HH := fun W => Lib.hid (addrCompare_any f ps g qs W hp hq lp lq)
  have HI := fun W => Lib.hid (cmpInt_any n m W)
  obtain ⟨R, eR⟩ : ∃ R, cmpP f ps n g qs m = R := ⟨_, rfl⟩
  rw [eR]
  have HE : Hid ((if cmpA f ps g qs = 0 then sgn3 n m else cmpA f ps g qs) = R) := Lib.hid (by rw [← eR]; rfl)
  generalize cmpA f ps g qs = c at *
  generalize sgn3 n m = d at *
  obtain ⟨cs, ds, ecs, eds, H1, H2, HB⟩ := prefs_boxed f ps n g qs m w hp hq
  rw [ecs, eds]
  clear ecs eds hp hq lp lq eR
  go_enter Tryz.func78, Tryz.ntmps78
  go_upto_region 1 with fail
  generalize ((w.alloc (.cells cs 45)).alloc (.cells ds 45)) = W at *
  have H1a := Lib.hid H1.out.addr
  have H2a := Lib.hid H2.out.addr
  go_wp2_with (first | refine load_addr_g H1a _ rfl rfl rfl ?_ | refine load_addr_g H2a _ rfl rfl rfl ?_)
  refine (HH _).out.mono ?_
  rintro e w1 ⟨rfl, hb1⟩
  have b1 := (H1.out.below hb1).bits
  have b2 := (H2.out.below hb1).bits
  have HB1 := Lib.hid (chain HB.out hb1)
  clear H1 H2 HB hb1 H1a H2a
  by_cases h : c = 0
  · subst h
    rw [if_pos rfl] at HE
    go_wp2_with fail
    refine (HI _).out.mono ?_
    rintro e w2 ⟨rfl, rfl⟩
    go_wp2_with fail
    go_ret
    exact ⟨by rw [HE.out]; rfl, HB1.out⟩
  · rw [if_neg h] at HE
    have hd : (c != 0) = true := by simp [h]
    go_wp2_with fail
    go_ret
    exact ⟨by rw [HE.out]; rfl, HB1.out⟩
set_option maxRecDepth 100000 in
set_option maxHeartbeats 1000000 in
theorem refCompareP_any (f : Int) (ps : List Nat) (n : Int) (g : Int) (qs : List Nat) (m : Int) (w : World) (hp : ps.length = 16) (hq : qs.length = 16) :
    Calls Tryz.prog 28 #[prefV f ps n, prefV g qs m] w fun e w' => e = .returned (.int .i64 (cmpP f ps n g qs m)) ∧ Below w.heap.size w w' := by
  have HH := fun W => Lib.hid (refCompare_any f ps g qs W hp hq)
  obtain ⟨R, eR⟩ : ∃ R, cmpP f ps n g qs m = R := ⟨_, rfl⟩
  rw [eR]
  have HE : Hid ((if cmpA f ps g qs = 0 then sgn3 n m else cmpA f ps g qs) = R) := Lib.hid (by rw [← eR]; rfl)
  have HS : Hid (sgn3 n m = if n < m then -1 else if m < n then 1 else 0) := Lib.hid (by unfold sgn3; rfl)
  generalize cmpA f ps g qs = c at *
  generalize sgn3 n m = d at *
  obtain ⟨cs, ds, ecs, eds, H1, H2, HB⟩ := prefs_boxed f ps n g qs m w hp hq
  rw [ecs, eds]
  clear ecs eds hp hq eR
  go_enter Tryz.func28, Tryz.ntmps28
  go_upto_region 1 with fail
  generalize ((w.alloc (.cells cs 45)).alloc (.cells ds 45)) = W at *
  have H1a := Lib.hid H1.out.addr
  have H2a := Lib.hid H2.out.addr
  go_wp2_with (first | refine load_addr_g H1a _ rfl rfl rfl ?_ | refine load_addr_g H2a _ rfl rfl rfl ?_)
  refine (HH _).out.mono ?_
  rintro e w1 ⟨rfl, hb1⟩
  have b1 := (H1.out.below hb1).bits
  have b2 := (H2.out.below hb1).bits
  have HB1 := Lib.hid (chain HB.out hb1)
  clear H1 H2 HB hb1 H1a H2a
  by_cases h : c = 0
  · subst h
    rw [if_pos rfl] at HE
    by_cases h1 : n < m
    · rw [if_pos h1] at HS
      have hd : decide (n < m) = true := by simp [h1]
      go_wp2_with fail
      go_ret
      exact ⟨by rw [← HE.out, HS.out]; rfl, HB1.out⟩
    · rw [if_neg h1] at HS
      have hd : decide (n < m) = false := by simp; omega
      by_cases h2 : m < n
      · rw [if_pos h2] at HS
        have hd2 : decide (m < n) = true := by simp [h2]
        go_wp2_with fail
        go_ret
        exact ⟨by rw [← HE.out, HS.out]; rfl, HB1.out⟩
      · rw [if_neg h2] at HS
        have hd2 : decide (m < n) = false := by simp; omega
        go_wp2_with fail
        go_ret
        exact ⟨by rw [← HE.out, HS.out]; rfl, HB1.out⟩
  · rw [if_neg h] at HE
    have hd : (c != 0) = true := by simp [h]
    go_wp2_with fail
    go_ret
    exact ⟨by rw [HE.out]; rfl, HB1.out⟩
end Go.Proofs.YtgbajagacmfcmaaGreatDoor
/- Contract of the reference's Set of layer 6. -/
namespace Go.Proofs.YtgbajagacmfcmaaGreatDoor
open Go.RowKit
set_option linter.unusedVariables false
set_option maxRecDepth 20000

/-- Where an entry stands in the row, looked for from the end. -/
def posE (rest : List Ent) (f : Int) (bs : List Nat) (n : Int) : Nat → Nat
  | 0 => 0
  | k + 1 => match rest[k]? with
    | some e => if cmpP f bs n e.f e.b (e.n : Int) < 0 then posE rest f bs n k else k + 1
    | none => k + 1
theorem posE_le (rest : List Ent) (f : Int) (bs : List Nat) (n : Int) : ∀ k, posE rest f bs n k ≤ k
  | 0 => Nat.le_refl _
  | k + 1 => by
    rw [posE]
    split
    · split
      · exact Nat.le_trans (posE_le rest f bs n k) (Nat.le_succ _)
      · exact Nat.le_refl _
    · exact Nat.le_refl _
/-- One more entry, in its place. -/
def insE (rest : List Ent) (e : Ent) : List Ent := rest.take (posE rest e.f e.b (e.n : Int) rest.length) ++ [e] ++ rest.drop (posE rest e.f e.b (e.n : Int) rest.length)
def setE (es : List Ent) (f : Int) (bs : List Nat) (n v : Int) : List Ent := if mayP f bs n = true then insE (dropE es f bs n) ⟨f, bs, n.toNat, v⟩ else es
theorem mayP_good {f : Int} {bs : List Nat} {n : Int} (h16 : bs.length = 16) (hlt : ∀ x ∈ bs, x < 256) (h : mayP f bs n = true) : GoodP f bs n.toNat ∧ n = ((n.toNat : Nat) : Int) := by
  unfold mayP at h
  obtain ⟨h1, h2, h3⟩ := of_decide_eq_true h
  have hle := maskN_le f n
  have e : n.toNat = maskN f n := by omega
  refine ⟨⟨h1, h16, hlt, by omega, fun i hi ho => (with_same h16 hlt _ _).1 h2 i hi (.inl (by omega))⟩, by omega⟩
theorem cell_take {w : World} {g : Nat} {es : List Ent} (h : w.rangeAt g 0 (flatE es)) (k : Nat) : w.rangeAt g 0 (flatE (es.take k)) := by
  intro j u hu
  refine h j u ?_
  have e : flatE es = flatE (es.take k) ++ flatE (es.drop k) := by rw [← flatE_append, List.take_append_drop]
  rw [e, List.getElem?_append_left]
  · exact hu
  · apply Classical.byContradiction
    intro h2
    rw [List.getElem?_eq_none (by omega)] at hu
    cases hu
theorem cell_drop {w : World} {g : Nat} {es : List Ent} (h : w.rangeAt g 0 (flatE es)) (hg : AllGood es) (k : Nat) (hk : k ≤ es.length) : w.rangeAt g (k * 19) (flatE (es.drop k)) := by
  intro j u hu
  have e : flatE es = flatE (es.take k) ++ flatE (es.drop k) := by rw [← flatE_append, List.take_append_drop]
  have hl : (flatE (es.take k)).length = k * 19 := by
    rw [flatE_len _ (fun x hx => hg x (List.mem_of_mem_take hx)), List.length_take, Nat.min_eq_left hk]
  have := h (k * 19 + j) u (by rw [e, List.getElem?_append_right (by omega), hl, Nat.add_sub_cancel_left]; exact hu)
  rw [Nat.zero_add] at this
  exact this
set_option maxRecDepth 100000 in
set_option maxHeartbeats 2000000 in
theorem refSet_any (v : Value) (es : List Ent) (f : Int) (bs : List Nat) (n x : Int) (w : World) (base : Nat) (hE : RowE w base v es) (h16 : bs.length = 16) (hlt : ∀ x ∈ bs, x < 256) (hx : (Lit.int .i64 x).wf = true) (hle : es.length ≤ 900) :
    Calls Tryz.prog 16 #[v, prefV f bs n, .int .i64 x] w fun e w' => ∃ v', e = .returned (.tuple #[v', .int .i64 (if mayP f bs n = true then 0 else 1)]) ∧ RowE w' 0 v' (setE es f bs n x) ∧ (v' = v ∨ RowE w' w.heap.size v' (setE es f bs n x)) ∧ Below w.heap.size w w' := by
  have H16 := Lib.hid h16
  have HMA := fun W => Lib.hid (refMayQ_any f bs n W h16 hlt)
  rw [mayQ_eq f n h16 hlt] at HMA
  have HX := Lib.hid hx
  have HSE : Hid (setE es f bs n x = if mayP f bs n = true then insE (dropE es f bs n) ⟨f, bs, n.toNat, x⟩ else es) := Lib.hid rfl
  have HGD : Hid (mayP f bs n = true → GoodP f bs n.toNat ∧ n = ((n.toNat : Nat) : Int)) := Lib.hid (mayP_good h16 hlt)
  have hlen := hE.2.2
  obtain ⟨S, eS⟩ : ∃ S, setE es f bs n x = S := ⟨_, rfl⟩
  rw [eS] at HSE ⊢
  generalize mayP f bs n = b at *
  obtain ⟨cs, ecs, H1, HB⟩ := pref_boxed f bs n w h16
  have HE := Lib.hid (hE.below HB.out)
  rw [ecs]
  clear ecs h16 hlt eS hE hx
  cases b with
  | false =>
    rw [if_neg (by decide)] at HSE
    rw [if_neg (by decide)]
    go_enter Tryz.func16, Tryz.ntmps16
    go_upto_region 1 with fail
    generalize (w.alloc (.cells cs 45)) = W at *
    go_wp2_with (refine load_pref_g H1 _ rfl rfl rfl ?_)
    refine (HMA _).out.mono ?_
    rintro e w1 ⟨rfl, hb1⟩
    have HE1 := Lib.hid ((HE.out.below hb1).mono (Nat.zero_le _))
    have HB1 := Lib.hid (chain HB.out hb1)
    clear HE H1 HB hb1 HMA
    go_wp2_with fail
    go_ret2
    exact ⟨v, rfl, by rw [HSE.out]; exact HE1.out, .inl rfl, HB1.out⟩
  | true =>
    rw [if_pos rfl] at HSE
    rw [if_pos rfl]
    obtain ⟨hgp, hnn⟩ := HGD.out rfl
    obtain ⟨m, hm⟩ : ∃ m, n.toNat = m := ⟨_, rfl⟩
    rw [hm] at hgp hnn HSE
    subst hnn
    have HGP := Lib.hid hgp
    have HDR := fun W (h : RowE W base v es) => Lib.hid (refDrop_any v es f bs (m : Int) W base h H16.out)
    have hdl := dropE_len es f bs (m : Int)
    clear hgp hm HGD
    obtain ⟨rs, hrs⟩ : ∃ rs, dropE es f bs (m : Int) = rs := ⟨_, rfl⟩
    rw [hrs] at HDR hdl HSE
    clear hrs
    go_enter Tryz.func16, Tryz.ntmps16
    go_upto_region 1 with fail
    generalize (w.alloc (.cells cs 45)) = W at *
    go_wp2_with (refine load_pref_g H1 _ rfl rfl rfl ?_)
    refine (HMA _).out.mono ?_
    rintro e w1 ⟨rfl, hb1⟩
    replace HE := Lib.hid (HE.out.below hb1)
    replace HB := Lib.hid (chain HB.out hb1)
    replace H1 := Lib.hid (H1.out.below hb1)
    clear hb1 HMA
    have hw01 : w.heap.size < w1.heap.size := H1.out.addr.lt
    go_wp2_with (refine load_pref_g H1 _ rfl rfl rfl ?_)
    refine (HDR _ HE.out).out.mono ?_
    rintro e w2 ⟨vr, rfl, hrow, hb2⟩
    replace HB := Lib.hid (chain HB.out hb2)
    replace H1 := Lib.hid (H1.out.below hb2)
    have HW12 := Lib.hid hb2.size
    have HW01 := Lib.hid hw01
    clear hw01
    clear hb2 HDR HE
    rcases hrow.form with ⟨rfl, rfl⟩ | ⟨g, cap, rfl, hg1, hg2, hcap, hcap2, hrg⟩
    · have HIN : Hid (S = [⟨f, bs, m, x⟩]) := Lib.hid (by rw [HSE.out]; rfl)
      clear hrow HSE
      have HEN : Hid (Ent.Good ⟨f, bs, m, x⟩) := Lib.hid ⟨HGP.out, HX.out⟩
      go_wp2_with fail
      go_loopw [11] (fun i wr => i = .int .i64 0 ∧ Hid (PrefAt wr w.heap.size f bs (m : Int)) ∧ Hid (Below w.heap.size w wr)) (fun _ _ => 0)
      case atStart => exact ⟨rfl, H1, HB⟩
      case round =>
        obtain ⟨rfl, HP, HBL⟩ := hrel
        clear H1 HB
        have HK := Lib.hid ((HeldR.nil (W := wr) (Below.refl wr.heap.size wr)))
        replace HP := Lib.hid (HP.out.below (Below.refl _ _).drew)
        replace HBL := Lib.hid HBL.out.drew
        go_upto_region 6 with fail
        refine wp_region_noPanic ?_
        refine wp_region_held_drew (S := HeldR [] wr) (by kernel_rfl) HK.out.drew (fun hHeld => ?_)
        generalize wr.drew = V at *
        refine wpAnyH_take (i := 0) (v := ?_) rfl (by kernel_rfl) (by kernel_rfl) (by kernel_rfl) (fun _ _ _ h => h) (Or.inl ⟨by rfl, ?_⟩) (by assumption) ?_
        rotate_left
        · (intro w hSw; go_simp; try (with_reducible rfl))
        try simp only [Act.put, List.getElem_toArray, List.getElem_cons_zero, List.setIfInBounds_toArray, List.set_cons_zero, List.set_cons_succ]
        refine wpAnyH_take (i := 1) (v := ?_) rfl (by kernel_rfl) (by kernel_rfl) (by kernel_rfl) (fun _ _ _ h => h) (Or.inl ⟨by rfl, ?_⟩) (by assumption) ?_
        rotate_left
        · (intro w hSw; go_simp; try (with_reducible rfl))
        try simp only [Act.put, List.getElem_toArray, List.getElem_cons_zero, List.getElem_cons_succ, List.setIfInBounds_toArray, List.set_cons_zero, List.set_cons_succ]
        refine wpAnyH_take (i := 2) (v := ?_) rfl (by kernel_rfl) (by kernel_rfl) (by kernel_rfl) (fun _ _ _ h => h) (Or.inl ⟨by rfl, ?_⟩) (by assumption) ?_
        rotate_left
        · (intro w hSw; go_simp; try (with_reducible rfl))
        try simp only [Act.put, List.getElem_toArray, List.getElem_cons_zero, List.getElem_cons_succ, List.setIfInBounds_toArray, List.set_cons_zero, List.set_cons_succ]
        refine wpAnyH_take (i := 3) (v := undef) rfl (by kernel_rfl) (by kernel_rfl) (by kernel_rfl) (fun _ _ _ h => h) (Or.inr ⟨by rfl, rfl⟩) (by assumption) ?_
        try simp only [Act.put, List.getElem_toArray, List.getElem_cons_zero, List.getElem_cons_succ, List.setIfInBounds_toArray, List.set_cons_zero, List.set_cons_succ]
        refine wpAnyH_take (i := 4) (v := undef) rfl (by kernel_rfl) (by kernel_rfl) (by kernel_rfl) (fun _ _ _ h => h) (Or.inr ⟨by rfl, rfl⟩) (by assumption) ?_
        try simp only [Act.put, List.getElem_toArray, List.getElem_cons_zero, List.getElem_cons_succ, List.setIfInBounds_toArray, List.set_cons_zero, List.set_cons_succ]
        refine wpAnyH_take (i := 5) (v := undef) rfl (by kernel_rfl) (by kernel_rfl) (by kernel_rfl) (fun _ _ _ h => h) (Or.inr ⟨by rfl, rfl⟩) (by assumption) ?_
        try simp only [Act.put, List.getElem_toArray, List.getElem_cons_zero, List.getElem_cons_succ, List.setIfInBounds_toArray, List.set_cons_zero, List.set_cons_succ]
        refine wpAnyH_take (i := 6) (v := undef) rfl (by kernel_rfl) (by kernel_rfl) (by kernel_rfl) (fun _ _ _ h => h) (Or.inr ⟨by rfl, rfl⟩) (by assumption) ?_
        try simp only [Act.put, List.getElem_toArray, List.getElem_cons_zero, List.getElem_cons_succ, List.setIfInBounds_toArray, List.set_cons_zero, List.set_cons_succ]
        refine wpAnyH_take (i := 7) (v := undef) rfl (by kernel_rfl) (by kernel_rfl) (by kernel_rfl) (fun _ _ _ h => h) (Or.inr ⟨by rfl, rfl⟩) (by assumption) ?_
        try simp only [Act.put, List.getElem_toArray, List.getElem_cons_zero, List.getElem_cons_succ, List.setIfInBounds_toArray, List.set_cons_zero, List.set_cons_succ]
        refine wpAnyH_take (i := 8) (v := undef) rfl (by kernel_rfl) (by kernel_rfl) (by kernel_rfl) (fun _ _ _ h => h) (Or.inr ⟨by rfl, rfl⟩) (by assumption) ?_
        try simp only [Act.put, List.getElem_toArray, List.getElem_cons_zero, List.getElem_cons_succ, List.setIfInBounds_toArray, List.set_cons_zero, List.set_cons_succ]
        refine wpAnyH_take (i := 9) (v := undef) rfl (by kernel_rfl) (by kernel_rfl) (by kernel_rfl) (fun _ _ _ h => h) (Or.inr ⟨by rfl, rfl⟩) (by assumption) ?_
        try simp only [Act.put, List.getElem_toArray, List.getElem_cons_zero, List.getElem_cons_succ, List.setIfInBounds_toArray, List.set_cons_zero, List.set_cons_succ]
        refine wpAnyH_take (i := 10) (v := undef) rfl (by kernel_rfl) (by kernel_rfl) (by kernel_rfl) (fun _ _ _ h => h) (Or.inr ⟨by rfl, rfl⟩) (by assumption) ?_
        try simp only [Act.put, List.getElem_toArray, List.getElem_cons_zero, List.getElem_cons_succ, List.setIfInBounds_toArray, List.set_cons_zero, List.set_cons_succ]
        refine wpAnyH_take (i := 11) (v := undef) rfl (by kernel_rfl) (by kernel_rfl) (by kernel_rfl) (fun _ _ _ h => h) (Or.inr ⟨by rfl, rfl⟩) (by assumption) ?_
        try simp only [Act.put, List.getElem_toArray, List.getElem_cons_zero, List.getElem_cons_succ, List.setIfInBounds_toArray, List.set_cons_zero, List.set_cons_succ]
        refine wpAnyH_take (i := 12) (v := ?_) rfl (by kernel_rfl) (by kernel_rfl) (by kernel_rfl) (fun _ _ _ h => h) (Or.inl ⟨by rfl, ?_⟩) (by assumption) ?_
        rotate_left
        · (intro w hSw; go_simp; try (with_reducible rfl))
        try simp only [Act.put, List.getElem_toArray, List.getElem_cons_zero, List.getElem_cons_succ, List.setIfInBounds_toArray, List.set_cons_zero, List.set_cons_succ]
        refine wpAnyH_done (by kernel_rfl) ?_ _
        refine NoPanic.normal ?_
        clear hHeld HK
        have HN0 := Lib.hid (RowE.nil V w.heap.size)
        have HM5 : Hid (1 = [(⟨f, bs, m, x⟩ : Ent)].length) := Lib.hid rfl
        have HY5 : Hid (AllGood [⟨f, bs, m, x⟩]) := Lib.hid (fun e he => by rw [List.mem_singleton.1 he]; exact HEN.out)
        have HL5 : Hid (([] : List Ent).length + [(⟨f, bs, m, x⟩ : Ent)].length ≤ 1000) := Lib.hid (by simp)
        go_wp2_with (first
          | (at_builtin; refine append_none HN0 _ _ rfl rfl rfl rfl ?_)
          | refine load_pref_g HP _ rfl rfl rfl ?_
          | refine build_ent H16 rfl _ _ rfl rfl rfl ?_
          | (refine build_entS H16 rfl _ rfl rfl (fun W5 HW5 => ?_); have HB5 : Hid (Below V.heap.size V W5) := Lib.hid (by rw [HW5.out]; exact (Below.refl _ _).alloc (Nat.le_refl _) _); have HO5 := Lib.hid (RowE.nil W5 w.heap.size); have HR5 : Hid (W5.rangeAt V.heap.size 0 (flatE [⟨f, bs, m, x⟩])) := Lib.hid (by rw [HW5.out, show flatE [⟨f, bs, m, x⟩] = entL f bs (m : Int) x from List.append_nil _]; exact buildS_new _); have HS5 : Hid (w.heap.size ≤ W5.heap.size) := Lib.hid (Nat.le_trans HBL.out.size HB5.out.size))
          | (at_builtin; refine append_ents HO5 _ _ rfl rfl rfl [⟨f, bs, m, x⟩] rfl HM5 HR5 HY5 HL5 HS5 (fun v6 w6 HO6 HG6 HA6 => ?_))
          | (at_builtin; refine append_none HO6 _ _ rfl rfl rfl rfl ?_))
        go_ret2
        exact ⟨v6, rfl, by rw [HIN.out]; exact HO6.out.mono (Nat.zero_le _), .inr (by rw [HIN.out]; exact HO6.out), (chain HBL.out HB5.out).grown HG6.out HS5.out (fun k hk => by cases hk)⟩
    · have HRW := Lib.hid hrow
      have HAG := Lib.hid hrow.2.1
      have HEN : Hid (Ent.Good ⟨f, bs, m, x⟩) := Lib.hid ⟨HGP.out, HX.out⟩
      have HGW : Hid (w.heap.size < g) := Lib.hid (by have := HW01.out; omega)
      have HSP : Hid (S = rs.take (posE rs f bs (m : Int) rs.length) ++ [⟨f, bs, m, x⟩] ++ rs.drop (posE rs f bs (m : Int) rs.length)) := HSE
      have HRG := Lib.hid hrg
      have HG2 := Lib.hid hg2
      clear hrow HSE hrg hg2
      go_wp2_with fail
      go_loopw [11] (fun i wr => ∃ k : Nat, k ≤ rs.length ∧ i = .int .i64 (k : Int) ∧ Hid (posE rs f bs (m : Int) rs.length = posE rs f bs (m : Int) k) ∧ Hid (PrefAt wr w.heap.size f bs (m : Int)) ∧ Hid (wr.rangeAt g 0 (flatE rs)) ∧ Hid (g < wr.heap.size) ∧ Hid (Below w.heap.size w wr)) (fun i _ => (intOf i).toNat)
      case atStart => exact ⟨rs.length, Nat.le_refl _, rfl, Lib.hid rfl, H1, HRG, HG2, HB⟩
      case round =>
        obtain ⟨k, hk, rfl, HPO, HP, HG, HGL, HBL⟩ := hrel
        clear H1 HB HRG HG2
        cases k with
        | succ j =>
          obtain ⟨ej, hej⟩ : ∃ ej, rs[j]'(by omega) = ej := ⟨_, rfl⟩
          have hgj : ej.Good := by rw [← hej]; exact HAG.out _ (List.getElem_mem _)
          have HLJ := Lib.hid hgj.1.len
          have HQJ : Hid (rs[j]? = some ej) := Lib.hid (by rw [← hej]; exact List.getElem?_eq_getElem _)
          have HJP : Hid (wr.rangeAt g (j * 19) (prefL ej.f ej.b (ej.n : Int))) := Lib.hid (range_pref (by rw [← hej]; exact range_ent HG.out HAG.out j (by omega)))
          have HCM := fun W => Lib.hid (refCompareP_any f bs (m : Int) ej.f ej.b (ej.n : Int) W H16.out hgj.1.len)
          have HST : Hid (posE rs f bs (m : Int) (j + 1) = if cmpP f bs (m : Int) ej.f ej.b (ej.n : Int) < 0 then posE rs f bs (m : Int) j else j + 1) := Lib.hid (by rw [posE, HQJ.out])
          generalize cmpP f bs (m : Int) ej.f ej.b (ej.n : Int) = c at *
          have hd : decide ((0 : Int) < ((j + 1 : Nat) : Int)) = true := by first | (simp; done) | (simp; omega)
          have hd0 : decide ((0 : Int) < (j : Int) + 1) = true := by first | (simp; done) | (simp; omega)
          have hj1 : ((j + 1 : Nat) : Int) - 1 = (j : Int) := by omega
          have hjl : (j : Int) < (rs.length : Int) := by omega
          clear hej hgj
          obtain ⟨L, hL⟩ : ∃ L, [(w.heap.size, 0, prefL f bs (m : Int)), (w.heap.size, 0, addrL f bs), (g, j * 19, prefL ej.f ej.b (ej.n : Int))] = L := ⟨_, rfl⟩
          have HK := Lib.hid (show HeldR L wr wr by rw [← hL]; exact ((HeldR.nil (Below.refl _ _)).cons HJP.out HGL.out).pref HP.out)
          have Mp4 := Lib.hid (show InP L w.heap.size f bs (m : Int) from ⟨by rw [← hL]; simp, H16.out⟩)
          have Mj := Lib.hid (show InPo L wr g (j * 19) ej.f ej.b (ej.n : Int) from ⟨fun w' h => h.get (by rw [← hL]; simp), HLJ.out⟩)
          clear hL HJP
          have C10 : ∀ w', HeldR L wr w' → Hid (Calls Tryz.prog 28 #[prefV f bs (m : Int), prefV ej.f ej.b (ej.n : Int)] w' fun e w'' => e = .returned (.int .i64 c) ∧ Below w'.heap.size w' w'') := fun w' h => HCM w'
          replace HP := Lib.hid (HP.out.below (Below.refl _ _).drew)
          go_upto_region 6 with fail
          refine wp_region_noPanic ?_
          refine wp_region_held_drew (S := HeldR L wr) (by kernel_rfl) HK.out.drew (fun hHeld => ?_)
          refine wpAnyH_take (i := 0) (v := ?_) rfl (by kernel_rfl) (by kernel_rfl) (by kernel_rfl) (fun _ _ _ h => h) (Or.inl ⟨by rfl, ?_⟩) (by assumption) ?_
          rotate_left
          · (intro w hSw; go_simp; try (with_reducible rfl))
          try simp only [Act.put, List.getElem_toArray, List.getElem_cons_zero, List.setIfInBounds_toArray, List.set_cons_zero, List.set_cons_succ]
          refine wpAnyH_take (i := 1) (v := ?_) rfl (by kernel_rfl) (by kernel_rfl) (by kernel_rfl) (fun _ _ _ h => h) (Or.inl ⟨by rfl, ?_⟩) (by assumption) ?_
          rotate_left
          · (intro w hSw; go_simp; try (with_reducible rfl))
          try simp only [Act.put, List.getElem_toArray, List.getElem_cons_zero, List.getElem_cons_succ, List.setIfInBounds_toArray, List.set_cons_zero, List.set_cons_succ]
          refine wpAnyH_take (i := 2) (v := ?_) rfl (by kernel_rfl) (by kernel_rfl) (by kernel_rfl) (fun _ _ _ h => h) (Or.inl ⟨by rfl, ?_⟩) (by assumption) ?_
          rotate_left
          · (intro w hSw; go_simp; try (with_reducible rfl))
          try simp only [Act.put, List.getElem_toArray, List.getElem_cons_zero, List.getElem_cons_succ, List.setIfInBounds_toArray, List.set_cons_zero, List.set_cons_succ]
          refine wpAnyH_take (i := 3) rfl (by kernel_rfl) (by kernel_rfl) (by kernel_rfl) (fun _ _ _ h => h) (yields_pref Mp4 (by rfl) _ rfl rfl) (by assumption) ?_
          try simp only [Act.put, List.getElem_toArray, List.getElem_cons_zero, List.getElem_cons_succ, List.setIfInBounds_toArray, List.set_cons_zero, List.set_cons_succ]
          refine wpAnyH_take (i := 4) (v := ?_) rfl (by kernel_rfl) (by kernel_rfl) (by kernel_rfl) (fun _ _ _ h => h) (Or.inl ⟨by rfl, ?_⟩) (by assumption) ?_
          rotate_left
          · (intro w hSw; go_simp; try (with_reducible rfl))
          try simp only [Act.put, List.getElem_toArray, List.getElem_cons_zero, List.getElem_cons_succ, List.setIfInBounds_toArray, List.set_cons_zero, List.set_cons_succ]
          refine wpAnyH_take (i := 5) (v := ?_) rfl (by kernel_rfl) (by kernel_rfl) (by kernel_rfl) (fun _ _ _ h => h) (Or.inl ⟨by rfl, ?_⟩) (by assumption) ?_
          rotate_left
          · (intro w hSw; go_simp; try (with_reducible rfl))
          try simp only [Act.put, List.getElem_toArray, List.getElem_cons_zero, List.getElem_cons_succ, List.setIfInBounds_toArray, List.set_cons_zero, List.set_cons_succ]
          refine wpAnyH_take (i := 6) (v := ?_) rfl (by kernel_rfl) (by kernel_rfl) (by kernel_rfl) (fun _ _ _ h => h) (Or.inl ⟨by rfl, ?_⟩) (by assumption) ?_
          rotate_left
          · (intro w hSw; go_simp; try (with_reducible rfl))
          try simp only [Act.put, List.getElem_toArray, List.getElem_cons_zero, List.getElem_cons_succ, List.setIfInBounds_toArray, List.set_cons_zero, List.set_cons_succ]
          rw [show IntKind.i64.wrap (j : Int) = (j : Int) by rw [IntKind.wrap_i64]; omega]
          refine wpAnyH_take (i := 7) (v := ?_) rfl (by kernel_rfl) (by kernel_rfl) (by kernel_rfl) (fun _ _ _ h => h) (Or.inl ⟨by rfl, ?_⟩) (by assumption) ?_
          rotate_left
          · (intro w hSw; go_simp; try (with_reducible rfl))
          try simp only [Act.put, List.getElem_toArray, List.getElem_cons_zero, List.getElem_cons_succ, List.setIfInBounds_toArray, List.set_cons_zero, List.set_cons_succ]
          refine wpAnyH_take (i := 8) (v := ?_) rfl (by kernel_rfl) (by kernel_rfl) (by kernel_rfl) (fun _ _ _ h => h) (Or.inl ⟨by rfl, ?_⟩) (by assumption) ?_
          rotate_left
          · (intro w hSw; go_simp; try (with_reducible rfl))
          try simp only [Act.put, List.getElem_toArray, List.getElem_cons_zero, List.getElem_cons_succ, List.setIfInBounds_toArray, List.set_cons_zero, List.set_cons_succ]
          refine wpAnyH_take (i := 9) rfl (by kernel_rfl) (by kernel_rfl) (by kernel_rfl) (fun _ _ _ h => h) (yields_pref_o Mj (by rfl) _ rfl rfl) (by assumption) ?_
          try simp only [Act.put, List.getElem_toArray, List.getElem_cons_zero, List.getElem_cons_succ, List.setIfInBounds_toArray, List.set_cons_zero, List.set_cons_succ]
          refine wpAnyH_ready (rs := [10]) (by kernel_rfl) (by simp) ?_
          refine AllReadyH.cons rfl (fun K hK => ?_) AllReadyH.nil
          go_simp
          refine (C10 _ (by assumption)).out.mono ?_
          rintro e wr10 ⟨rfl, hb10⟩
          replace HP := Lib.hid (HP.out.below hb10)
          have hS10 := HeldR.next (by assumption) hb10
          clear hb10
          go_wp2_with fail
          refine hK.out _ _ hS10 (fun hHeld => ?_)
          clear hK K
          try simp only [Act.put, List.getElem_toArray, List.getElem_cons_zero, List.getElem_cons_succ, List.setIfInBounds_toArray, List.set_cons_zero, List.set_cons_succ]
          refine wpAnyH_take (i := 11) (v := ?_) rfl (by kernel_rfl) (by kernel_rfl) (by kernel_rfl) (fun _ _ _ h => h) (Or.inl ⟨by rfl, ?_⟩) (by assumption) ?_
          rotate_left
          · (intro w hSw; go_simp; try (with_reducible rfl))
          try simp only [Act.put, List.getElem_toArray, List.getElem_cons_zero, List.getElem_cons_succ, List.setIfInBounds_toArray, List.set_cons_zero, List.set_cons_succ]
          refine wpAnyH_take (i := 12) (v := ?_) rfl (by kernel_rfl) (by kernel_rfl) (by kernel_rfl) (fun _ _ _ h => h) (Or.inl ⟨by rfl, ?_⟩) (by assumption) ?_
          rotate_left
          · (intro w hSw; go_simp; try (with_reducible rfl))
          try simp only [Act.put, List.getElem_toArray, List.getElem_cons_zero, List.getElem_cons_succ, List.setIfInBounds_toArray, List.set_cons_zero, List.set_cons_succ]
          refine wpAnyH_done (by kernel_rfl) ?_ _
          refine NoPanic.normal ?_
          have HBL2 := Lib.hid (chain HBL.out hHeld.bel)
          have HG2 : Hid (wr10.rangeAt g 0 (flatE rs)) := Lib.hid (range_belowB HG.out hHeld.bel HGL.out)
          have HGL2 : Hid (g < wr10.heap.size) := Lib.hid (Nat.lt_of_lt_of_le HGL.out hHeld.bel.size)
          clear HBL HG HGL HK Mp4 Mj C10
          by_cases hc : c < 0
          · have hdc : decide (c < 0) = true := by simp [hc]
            rw [if_pos hc] at HST
            go_wp2_with fail
            go_roundw
            case rel => exact ⟨j, by omega, by first | rfl | go_num, Lib.hid (by rw [HPO.out, HST.out]), HP, HG2, HGL2, HBL2⟩
            case measure => simp [intOf]
          · have hdc : decide (c < 0) = false := by simp; omega
            rw [if_neg hc] at HST
            have HKK : Hid (posE rs f bs (m : Int) rs.length = (j + 1)) := Lib.hid (by rw [HPO.out, HST.out])
            have hkl : (j + 1) ≤ rs.length := by omega
            have HN0 := Lib.hid (RowE.nil wr10 (w.heap.size + 1))
            have HM1 : Hid ((j + 1) = (rs.take (j + 1)).length) := Lib.hid (by rw [List.length_take]; omega)
            have HR1 := Lib.hid (cell_take HG2.out (j + 1))
            have HY1 : Hid (AllGood (rs.take (j + 1))) := Lib.hid (fun e he => HAG.out e (List.mem_of_mem_take he))
            have HL1 : Hid (([] : List Ent).length + (rs.take (j + 1)).length ≤ 1000) := Lib.hid (by rw [List.length_take]; first | (simp; done) | (simp; omega))
            have HS1 : Hid (w.heap.size + 1 ≤ wr10.heap.size) := Lib.hid (Nat.succ_le_of_lt HP.out.addr.lt)
            have hki : (((j + 1) : Nat) : Int) ≤ (rs.length : Int) := by omega
            have hkc : (((j + 1) : Nat) : Int) ≤ (cap : Int) := by omega
            go_upto_region 10 with (first | (at_builtin; refine append_ents HN0 _ _ rfl rfl rfl (rs.take (j + 1)) rfl HM1 HR1 HY1 HL1 HS1 (fun v6 w6 HO6 HG6 HA6 => ?_)))
            have hb6 : Below wr10.heap.size wr10 w6 := below_none HG6.out
            have HP6 := Lib.hid (HP.out.below hb6)
            have HR6 := Lib.hid (range_belowB HG2.out hb6 HGL2.out)
            have HL6 := Lib.hid (Nat.lt_of_lt_of_le HGL2.out hb6.size)
            have HB6 := Lib.hid (chain HBL2.out hb6)
            have HN6 : Hid (v6.ownBlock ≠ some g) := Lib.hid (by rcases HA6.out with h | h <;> rw [h] <;> intro h2 <;> first | (injection h2 with h3; have := HGL2.out; omega) | cases h2)
            clear HN0 HM1 HR1 HY1 HL1 HS1 HG6 HA6 hb6 HP HG2 HGL2 HBL2
            have HM7 : Hid (1 = [(⟨f, bs, m, x⟩ : Ent)].length) := Lib.hid rfl
            have HY7 : Hid (AllGood [⟨f, bs, m, x⟩]) := Lib.hid (fun e he => by rw [List.mem_singleton.1 he]; exact HEN.out)
            have HL7 : Hid (([] ++ rs.take (j + 1)).length + [(⟨f, bs, m, x⟩ : Ent)].length ≤ 1000) := Lib.hid (by rw [List.nil_append, List.length_take]; first | (simp; done) | (simp; omega))
            go_upto_region 11 with (first
              | refine load_pref_g HP6 _ rfl rfl rfl ?_
              | refine build_ent H16 rfl _ _ rfl rfl rfl ?_
              | (refine build_entS H16 rfl _ rfl rfl (fun W7 HW7 => ?_); have HB7 : Hid (Below w6.heap.size w6 W7) := Lib.hid (by rw [HW7.out]; exact (Below.refl _ _).alloc (Nat.le_refl _) _); have HO7 := Lib.hid (HO6.out.below HB7.out); have HR7 : Hid (W7.rangeAt w6.heap.size 0 (flatE [⟨f, bs, m, x⟩])) := Lib.hid (by rw [HW7.out, show flatE [⟨f, bs, m, x⟩] = entL f bs (m : Int) x from List.append_nil _]; exact buildS_new _); have HS7 : Hid (w.heap.size + 1 ≤ W7.heap.size) := Lib.hid (Nat.le_trans (Nat.succ_le_of_lt HP6.out.addr.lt) HB7.out.size))
              | (at_builtin; refine append_ents HO7 _ _ rfl rfl rfl [⟨f, bs, m, x⟩] rfl HM7 HR7 HY7 HL7 HS7 (fun v8 w8 HO8 HG8 HA8 => ?_)))
            have HRr : Hid (W7.rangeAt g 0 (flatE rs)) := Lib.hid (range_belowB HR6.out HB7.out HL6.out)
            have HLr : Hid (g < W7.heap.size) := Lib.hid (Nat.lt_of_lt_of_le HL6.out HB7.out.size)
            have HR8 := Lib.hid (range_far HRr.out HG8.out HLr.out (fun h => HN6.out h.symm))
            have HN8 : Hid (v8.ownBlock ≠ some g) := Lib.hid (by
              rcases HA8.out with h | h <;> rw [h]
              · exact HN6.out
              · intro h2; injection h2 with h3; have := HLr.out; omega)
            have HB8 := Lib.hid ((chain HB6.out HB7.out).grown HG8.out (Nat.le_trans (Nat.le_succ _) HS7.out) (fun j hj => Nat.le_trans (Nat.le_succ _) (HO7.out.1.lt j hj).1))
            have HS8 : Hid (w.heap.size + 1 ≤ w8.heap.size) := Lib.hid (Nat.le_trans HS7.out HG8.out.size)
            clear HP6 HR6 HL6 HB6 HN6 HM7 HY7 HL7 HB7 HR7 HS7 HO7 HG8 HA8 HRr HLr HO6 HW7
            have HM9 : Hid (rs.length - (j + 1) = (rs.drop (j + 1)).length) := Lib.hid (by rw [List.length_drop])
            have HY9 : Hid (AllGood (rs.drop (j + 1))) := Lib.hid (fun e he => HAG.out e (List.mem_of_mem_drop he))
            have HL9 : Hid ((([] ++ rs.take (j + 1)) ++ [(⟨f, bs, m, x⟩ : Ent)]).length + (rs.drop (j + 1)).length ≤ 1000) := Lib.hid (by rw [List.nil_append, List.length_append, List.length_take, List.length_drop]; first | (simp; done) | (simp; omega))
            by_cases hcc : cap = (j + 1)
            · have HR9 : Hid (w8.rangeAt g 0 (flatE (rs.drop (j + 1)))) := Lib.hid (by rw [List.drop_eq_nil_of_le (by omega)]; intro j u hu; cases hu)
              have HM9z : Hid (0 = (rs.drop (j + 1)).length) := Lib.hid (by rw [List.length_drop]; omega)
              subst hcc
              go_wp2_with (at_builtin; first | refine append_ents HO8 _ _ rfl rfl rfl (rs.drop (j + 1)) rfl HM9 HR9 HY9 HL9 HS8 (fun v10 w10 HO10 HG10 HA10 => ?_) | refine append_ents HO8 _ _ rfl rfl rfl (rs.drop (j + 1)) rfl HM9z HR9 HY9 HL9 HS8 (fun v10 w10 HO10 HG10 HA10 => ?_))
              go_ret2
              exact ⟨v10, rfl, by rw [HSP.out, HKK.out]; exact HO10.out.mono (Nat.zero_le _), .inr (by rw [HSP.out, HKK.out]; exact HO10.out.mono (Nat.le_succ _)), HB8.out.grown HG10.out (Nat.le_trans (Nat.le_succ _) HS8.out) (fun j hj => Nat.le_trans (Nat.le_succ _) (HO8.out.1.lt j hj).1)⟩
            · have HR9 := Lib.hid (cell_drop HR8.out HAG.out (j + 1) hkl)
              go_wp2_with (at_builtin; first | refine append_ents HO8 _ _ rfl rfl rfl (rs.drop (j + 1)) rfl HM9 HR9 HY9 HL9 HS8 (fun v10 w10 HO10 HG10 HA10 => ?_))
              go_ret2
              exact ⟨v10, rfl, by rw [HSP.out, HKK.out]; exact HO10.out.mono (Nat.zero_le _), .inr (by rw [HSP.out, HKK.out]; exact HO10.out.mono (Nat.le_succ _)), HB8.out.grown HG10.out (Nat.le_trans (Nat.le_succ _) HS8.out) (fun j hj => Nat.le_trans (Nat.le_succ _) (HO8.out.1.lt j hj).1)⟩
        | zero =>
          have HK := Lib.hid ((HeldR.nil (W := wr) (Below.refl wr.heap.size wr)))
          replace HP := Lib.hid (HP.out.below (Below.refl _ _).drew)
          replace HG := Lib.hid (range_belowB HG.out (Below.refl wr.heap.size wr).drew HGL.out)
          replace HGL : Hid (g < wr.drew.heap.size) := Lib.hid HGL.out
          replace HBL := Lib.hid HBL.out.drew
          go_upto_region 6 with fail
          refine wp_region_noPanic ?_
          refine wp_region_held_drew (S := HeldR [] wr) (by kernel_rfl) HK.out.drew (fun hHeld => ?_)
          generalize wr.drew = V at *
          refine wpAnyH_take (i := 0) (v := ?_) rfl (by kernel_rfl) (by kernel_rfl) (by kernel_rfl) (fun _ _ _ h => h) (Or.inl ⟨by rfl, ?_⟩) (by assumption) ?_
          rotate_left
          · (intro w hSw; go_simp; try (with_reducible rfl))
          try simp only [Act.put, List.getElem_toArray, List.getElem_cons_zero, List.setIfInBounds_toArray, List.set_cons_zero, List.set_cons_succ]
          refine wpAnyH_take (i := 1) (v := ?_) rfl (by kernel_rfl) (by kernel_rfl) (by kernel_rfl) (fun _ _ _ h => h) (Or.inl ⟨by rfl, ?_⟩) (by assumption) ?_
          rotate_left
          · (intro w hSw; go_simp; try (with_reducible rfl))
          try simp only [Act.put, List.getElem_toArray, List.getElem_cons_zero, List.getElem_cons_succ, List.setIfInBounds_toArray, List.set_cons_zero, List.set_cons_succ]
          refine wpAnyH_take (i := 2) (v := ?_) rfl (by kernel_rfl) (by kernel_rfl) (by kernel_rfl) (fun _ _ _ h => h) (Or.inl ⟨by rfl, ?_⟩) (by assumption) ?_
          rotate_left
          · (intro w hSw; go_simp; try (with_reducible rfl))
          try simp only [Act.put, List.getElem_toArray, List.getElem_cons_zero, List.getElem_cons_succ, List.setIfInBounds_toArray, List.set_cons_zero, List.set_cons_succ]
          refine wpAnyH_take (i := 3) (v := undef) rfl (by kernel_rfl) (by kernel_rfl) (by kernel_rfl) (fun _ _ _ h => h) (Or.inr ⟨by rfl, rfl⟩) (by assumption) ?_
          try simp only [Act.put, List.getElem_toArray, List.getElem_cons_zero, List.getElem_cons_succ, List.setIfInBounds_toArray, List.set_cons_zero, List.set_cons_succ]
          refine wpAnyH_take (i := 4) (v := undef) rfl (by kernel_rfl) (by kernel_rfl) (by kernel_rfl) (fun _ _ _ h => h) (Or.inr ⟨by rfl, rfl⟩) (by assumption) ?_
          try simp only [Act.put, List.getElem_toArray, List.getElem_cons_zero, List.getElem_cons_succ, List.setIfInBounds_toArray, List.set_cons_zero, List.set_cons_succ]
          refine wpAnyH_take (i := 5) (v := undef) rfl (by kernel_rfl) (by kernel_rfl) (by kernel_rfl) (fun _ _ _ h => h) (Or.inr ⟨by rfl, rfl⟩) (by assumption) ?_
          try simp only [Act.put, List.getElem_toArray, List.getElem_cons_zero, List.getElem_cons_succ, List.setIfInBounds_toArray, List.set_cons_zero, List.set_cons_succ]
          refine wpAnyH_take (i := 6) (v := undef) rfl (by kernel_rfl) (by kernel_rfl) (by kernel_rfl) (fun _ _ _ h => h) (Or.inr ⟨by rfl, rfl⟩) (by assumption) ?_
          try simp only [Act.put, List.getElem_toArray, List.getElem_cons_zero, List.getElem_cons_succ, List.setIfInBounds_toArray, List.set_cons_zero, List.set_cons_succ]
          refine wpAnyH_take (i := 7) (v := undef) rfl (by kernel_rfl) (by kernel_rfl) (by kernel_rfl) (fun _ _ _ h => h) (Or.inr ⟨by rfl, rfl⟩) (by assumption) ?_
          try simp only [Act.put, List.getElem_toArray, List.getElem_cons_zero, List.getElem_cons_succ, List.setIfInBounds_toArray, List.set_cons_zero, List.set_cons_succ]
          refine wpAnyH_take (i := 8) (v := undef) rfl (by kernel_rfl) (by kernel_rfl) (by kernel_rfl) (fun _ _ _ h => h) (Or.inr ⟨by rfl, rfl⟩) (by assumption) ?_
          try simp only [Act.put, List.getElem_toArray, List.getElem_cons_zero, List.getElem_cons_succ, List.setIfInBounds_toArray, List.set_cons_zero, List.set_cons_succ]
          refine wpAnyH_take (i := 9) (v := undef) rfl (by kernel_rfl) (by kernel_rfl) (by kernel_rfl) (fun _ _ _ h => h) (Or.inr ⟨by rfl, rfl⟩) (by assumption) ?_
          try simp only [Act.put, List.getElem_toArray, List.getElem_cons_zero, List.getElem_cons_succ, List.setIfInBounds_toArray, List.set_cons_zero, List.set_cons_succ]
          refine wpAnyH_take (i := 10) (v := undef) rfl (by kernel_rfl) (by kernel_rfl) (by kernel_rfl) (fun _ _ _ h => h) (Or.inr ⟨by rfl, rfl⟩) (by assumption) ?_
          try simp only [Act.put, List.getElem_toArray, List.getElem_cons_zero, List.getElem_cons_succ, List.setIfInBounds_toArray, List.set_cons_zero, List.set_cons_succ]
          refine wpAnyH_take (i := 11) (v := undef) rfl (by kernel_rfl) (by kernel_rfl) (by kernel_rfl) (fun _ _ _ h => h) (Or.inr ⟨by rfl, rfl⟩) (by assumption) ?_
          try simp only [Act.put, List.getElem_toArray, List.getElem_cons_zero, List.getElem_cons_succ, List.setIfInBounds_toArray, List.set_cons_zero, List.set_cons_succ]
          refine wpAnyH_take (i := 12) (v := ?_) rfl (by kernel_rfl) (by kernel_rfl) (by kernel_rfl) (fun _ _ _ h => h) (Or.inl ⟨by rfl, ?_⟩) (by assumption) ?_
          rotate_left
          · (intro w hSw; go_simp; try (with_reducible rfl))
          try simp only [Act.put, List.getElem_toArray, List.getElem_cons_zero, List.getElem_cons_succ, List.setIfInBounds_toArray, List.set_cons_zero, List.set_cons_succ]
          refine wpAnyH_done (by kernel_rfl) ?_ _
          refine NoPanic.normal ?_
          clear hHeld HK
          have HKK : Hid (posE rs f bs (m : Int) rs.length = 0) := Lib.hid (by rw [HPO.out]; rfl)
          have hkl : 0 ≤ rs.length := by omega
          have HN0 := Lib.hid (RowE.nil V (w.heap.size + 1))
          have HM1 : Hid (0 = (rs.take 0).length) := Lib.hid (by rw [List.length_take]; omega)
          have HR1 := Lib.hid (cell_take HG.out 0)
          have HY1 : Hid (AllGood (rs.take 0)) := Lib.hid (fun e he => HAG.out e (List.mem_of_mem_take he))
          have HL1 : Hid (([] : List Ent).length + (rs.take 0).length ≤ 1000) := Lib.hid (by rw [List.length_take]; first | (simp; done) | (simp; omega))
          have HS1 : Hid (w.heap.size + 1 ≤ V.heap.size) := Lib.hid (Nat.succ_le_of_lt HP.out.addr.lt)
          have hki : ((0 : Nat) : Int) ≤ (rs.length : Int) := by omega
          have hkc : ((0 : Nat) : Int) ≤ (cap : Int) := by omega
          go_upto_region 10 with (first | (at_builtin; refine append_ents HN0 _ _ rfl rfl rfl (rs.take 0) rfl HM1 HR1 HY1 HL1 HS1 (fun v6 w6 HO6 HG6 HA6 => ?_)))
          have hb6 : Below V.heap.size V w6 := below_none HG6.out
          have HP6 := Lib.hid (HP.out.below hb6)
          have HR6 := Lib.hid (range_belowB HG.out hb6 HGL.out)
          have HL6 := Lib.hid (Nat.lt_of_lt_of_le HGL.out hb6.size)
          have HB6 := Lib.hid (chain HBL.out hb6)
          have HN6 : Hid (v6.ownBlock ≠ some g) := Lib.hid (by rcases HA6.out with h | h <;> rw [h] <;> intro h2 <;> first | (injection h2 with h3; have := HGL.out; omega) | cases h2)
          clear HN0 HM1 HR1 HY1 HL1 HS1 HG6 HA6 hb6 HP HG HGL HBL
          have HM7 : Hid (1 = [(⟨f, bs, m, x⟩ : Ent)].length) := Lib.hid rfl
          have HY7 : Hid (AllGood [⟨f, bs, m, x⟩]) := Lib.hid (fun e he => by rw [List.mem_singleton.1 he]; exact HEN.out)
          have HL7 : Hid (([] ++ rs.take 0).length + [(⟨f, bs, m, x⟩ : Ent)].length ≤ 1000) := Lib.hid (by rw [List.nil_append, List.length_take]; first | (simp; done) | (simp; omega))
          go_upto_region 11 with (first
            | refine load_pref_g HP6 _ rfl rfl rfl ?_
            | refine build_ent H16 rfl _ _ rfl rfl rfl ?_
            | (refine build_entS H16 rfl _ rfl rfl (fun W7 HW7 => ?_); have HB7 : Hid (Below w6.heap.size w6 W7) := Lib.hid (by rw [HW7.out]; exact (Below.refl _ _).alloc (Nat.le_refl _) _); have HO7 := Lib.hid (HO6.out.below HB7.out); have HR7 : Hid (W7.rangeAt w6.heap.size 0 (flatE [⟨f, bs, m, x⟩])) := Lib.hid (by rw [HW7.out, show flatE [⟨f, bs, m, x⟩] = entL f bs (m : Int) x from List.append_nil _]; exact buildS_new _); have HS7 : Hid (w.heap.size + 1 ≤ W7.heap.size) := Lib.hid (Nat.le_trans (Nat.succ_le_of_lt HP6.out.addr.lt) HB7.out.size))
            | (at_builtin; refine append_ents HO7 _ _ rfl rfl rfl [⟨f, bs, m, x⟩] rfl HM7 HR7 HY7 HL7 HS7 (fun v8 w8 HO8 HG8 HA8 => ?_)))
          have HRr : Hid (W7.rangeAt g 0 (flatE rs)) := Lib.hid (range_belowB HR6.out HB7.out HL6.out)
          have HLr : Hid (g < W7.heap.size) := Lib.hid (Nat.lt_of_lt_of_le HL6.out HB7.out.size)
          have HR8 := Lib.hid (range_far HRr.out HG8.out HLr.out (fun h => HN6.out h.symm))
          have HN8 : Hid (v8.ownBlock ≠ some g) := Lib.hid (by
            rcases HA8.out with h | h <;> rw [h]
            · exact HN6.out
            · intro h2; injection h2 with h3; have := HLr.out; omega)
          have HB8 := Lib.hid ((chain HB6.out HB7.out).grown HG8.out (Nat.le_trans (Nat.le_succ _) HS7.out) (fun j hj => Nat.le_trans (Nat.le_succ _) (HO7.out.1.lt j hj).1))
          have HS8 : Hid (w.heap.size + 1 ≤ w8.heap.size) := Lib.hid (Nat.le_trans HS7.out HG8.out.size)
          clear HP6 HR6 HL6 HB6 HN6 HM7 HY7 HL7 HB7 HR7 HS7 HO7 HG8 HA8 HRr HLr HO6 HW7
          have HM9 : Hid (rs.length - 0 = (rs.drop 0).length) := Lib.hid (by rw [List.length_drop])
          have HY9 : Hid (AllGood (rs.drop 0)) := Lib.hid (fun e he => HAG.out e (List.mem_of_mem_drop he))
          have HL9 : Hid ((([] ++ rs.take 0) ++ [(⟨f, bs, m, x⟩ : Ent)]).length + (rs.drop 0).length ≤ 1000) := Lib.hid (by rw [List.nil_append, List.length_append, List.length_take, List.length_drop]; first | (simp; done) | (simp; omega))
          have HM9f : Hid (rs.length = (rs.drop 0).length) := Lib.hid (by rw [List.drop_zero])
          by_cases hcc : cap = 0
          · have HR9 : Hid (w8.rangeAt g 0 (flatE (rs.drop 0))) := Lib.hid (by rw [List.drop_eq_nil_of_le (by omega)]; intro j u hu; cases hu)
            have HM9z : Hid (0 = (rs.drop 0).length) := Lib.hid (by rw [List.length_drop]; omega)
            subst hcc
            go_wp2_with (at_builtin; first | refine append_ents HO8 _ _ rfl rfl rfl (rs.drop 0) rfl HM9 HR9 HY9 HL9 HS8 (fun v10 w10 HO10 HG10 HA10 => ?_) | refine append_ents HO8 _ _ rfl rfl rfl (rs.drop 0) rfl HM9z HR9 HY9 HL9 HS8 (fun v10 w10 HO10 HG10 HA10 => ?_) | refine append_ents HO8 _ _ rfl rfl rfl (rs.drop 0) rfl HM9f HR9 HY9 HL9 HS8 (fun v10 w10 HO10 HG10 HA10 => ?_))
            go_ret2
            exact ⟨v10, rfl, by rw [HSP.out, HKK.out]; exact HO10.out.mono (Nat.zero_le _), .inr (by rw [HSP.out, HKK.out]; exact HO10.out.mono (Nat.le_succ _)), HB8.out.grown HG10.out (Nat.le_trans (Nat.le_succ _) HS8.out) (fun j hj => Nat.le_trans (Nat.le_succ _) (HO8.out.1.lt j hj).1)⟩
          · have HR9 := Lib.hid (cell_drop HR8.out HAG.out 0 hkl)
            have HR9f : Hid (w8.rangeAt g 0 (flatE (rs.drop 0))) := Lib.hid (by rw [List.drop_zero]; exact HR8.out)
            go_wp2_with (at_builtin; first | refine append_ents HO8 _ _ rfl rfl rfl (rs.drop 0) rfl HM9 HR9 HY9 HL9 HS8 (fun v10 w10 HO10 HG10 HA10 => ?_) | refine append_ents HO8 _ _ rfl rfl rfl (rs.drop 0) rfl HM9f HR9f HY9 HL9 HS8 (fun v10 w10 HO10 HG10 HA10 => ?_))
            go_ret2
            exact ⟨v10, rfl, by rw [HSP.out, HKK.out]; exact HO10.out.mono (Nat.zero_le _), .inr (by rw [HSP.out, HKK.out]; exact HO10.out.mono (Nat.le_succ _)), HB8.out.grown HG10.out (Nat.le_trans (Nat.le_succ _) HS8.out) (fun j hj => Nat.le_trans (Nat.le_succ _) (HO8.out.1.lt j hj).1)⟩
end Go.Proofs.YtgbajagacmfcmaaGreatDoor
/- Contract of the reference's Has of layer 5. -/
namespace Go.Proofs.YtgbajagacmfcmaaGreatDoor
open Go.RowKit
set_option linter.unusedVariables false
set_option maxRecDepth 20000

set_option maxRecDepth 100000 in
set_option maxHeartbeats 1000000 in
theorem refHas_any (f : Int) (ps : List Nat) (n : Nat) (g : Int) (us : List Nat) (w : World) (hp : ps.length = 16) (hu : us.length = 16) (lp : ∀ x ∈ ps, x < 256) (lu : ∀ x ∈ us, x < 256) (hn : n ≤ 1000) :
    Calls Tryz.prog 33 #[prefV f ps (n : Int), addrV g us] w fun e w' => e = .returned (.bool (hasB f ps n g us)) ∧ Below w.heap.size w w' := by
  have HP := Lib.hid hp
  have HU := Lib.hid hu
  obtain ⟨R, eR⟩ : ∃ R, hasB f ps n g us = R := ⟨_, rfl⟩
  rw [eR]
  have HE : Hid (decide (f = g ∧ ∀ i : Nat, i < n → bitN f ps (i : Int) = bitN g us (i : Int)) = R) := Lib.hid (by rw [← eR]; rfl)
  have HC1 := fun W (k : Nat) (hk : k ≤ 1000) => Lib.hid (refBit_any f ps (k : Int) W hp lp (wf_small (by omega)))
  have HC2 := fun W (k : Nat) (hk : k ≤ 1000) => Lib.hid (refBit_any g us (k : Int) W hu lu (wf_small (by omega)))
  obtain ⟨cs, ds, ecs, eds, H1, H2, HB⟩ := pref_addr_boxed f ps (n : Int) g us w hp hu
  rw [ecs, eds]
  clear ecs eds hp hu eR lp lu
  go_enter Tryz.func33, Tryz.ntmps33
  go_upto_region 1 with fail
  generalize ((w.alloc (.cells cs 45)).alloc (.cells ds 24)) = W at *
  have f1 := H1.out.addr.fam
  have f2 := H2.out.fam
  by_cases hfg : f = g
  · subst hfg
    have hd : (f != f) = false := by simp
    obtain ⟨L, hL⟩ : ∃ L, [(w.heap.size, 0, prefL f ps (n : Int)), (w.heap.size, 0, addrL f ps), (w.heap.size + 1, 0, addrL f us)] = L := ⟨_, rfl⟩
    have HK := Lib.hid (show HeldR L w W by rw [← hL]; exact ((HeldR.nil HB.out).addr H2.out).pref H1.out)
    have Mp := Lib.hid (show InP L w.heap.size f ps (n : Int) from ⟨by rw [← hL]; simp, HP.out⟩)
    have Ma := Lib.hid (show InA L w.heap.size f ps from ⟨by rw [← hL]; simp, HP.out⟩)
    have Mt3 := Lib.hid (show InA L (w.heap.size + 1) f us from ⟨by rw [← hL]; simp, HU.out⟩)
    have Cn := Lib.hid (bitsR Mp.out w)
    clear hL H1 H2 HB
    go_wp2_with fail
    go_loopw [5] (fun i wr => ∃ k : Nat, k ≤ n ∧ i = .int .i64 (k : Int) ∧ Hid (HeldR L w wr) ∧ Hid (∀ i : Nat, i < k → bitN f ps (i : Int) = bitN f us (i : Int))) (fun i _ => n - (intOf i).toNat)
    case atStart => exact ⟨0, by omega, rfl, HK, Lib.hid (fun i hi => absurd hi (by omega))⟩
    case round =>
      obtain ⟨k, hk, rfl, HS, HT⟩ := hrel
      clear HK f1 f2
      have hb17 := Cn.out wr HS.out
      by_cases hkn : k < n
      · have hd2 : decide ((k : Int) < (n : Int)) = true := by simp; omega
        have C1 : ∀ w', HeldR L w w' → Hid (Calls Tryz.prog 48 #[addrV f ps, .int .i64 (k : Int)] w' fun e w'' => e = .returned (.int .i64 ((bitN f ps (k : Int) : Nat) : Int)) ∧ Below w'.heap.size w' w'') := fun w' h => HC1 w' k (by omega)
        have C2 : ∀ w', HeldR L w w' → Hid (Calls Tryz.prog 48 #[addrV f us, .int .i64 (k : Int)] w' fun e w'' => e = .returned (.int .i64 ((bitN f us (k : Int) : Nat) : Int)) ∧ Below w'.heap.size w' w'') := fun w' h => HC2 w' k (by omega)
        have HXY : Hid (bitN f ps (k : Int) = bitN f ps (k : Int) ∧ bitN f us (k : Int) = bitN f us (k : Int)) := Lib.hid ⟨rfl, rfl⟩
        obtain ⟨x, hx⟩ : ∃ x, bitN f ps (k : Int) = x := ⟨_, rfl⟩
        obtain ⟨y, hy⟩ : ∃ y, bitN f us (k : Int) = y := ⟨_, rfl⟩
        rw [hx] at C1
        rw [hy] at C2
        have HX := Lib.hid hx
        have HY := Lib.hid hy
        clear hx hy HXY
        go_upto_region 6 with fail
        by_cases hxy : x = y
        · subst hxy
          have hd3 : ((x : Int) != (x : Int)) = false := by simp
          refine wp_region_noPanic ?_
          refine wp_region_held_drew (S := HeldR L w) (by kernel_rfl) HS.out.drew (fun hHeld => ?_)
          refine wpAnyH_take (i := 0) (v := ?_) rfl (by kernel_rfl) (by kernel_rfl) (by kernel_rfl) (fun _ _ _ h => h) (Or.inl ⟨by rfl, ?_⟩) (by assumption) ?_
          rotate_left
          · (intro w hSw; go_simp; try (with_reducible rfl))
          try simp only [Act.put, List.getElem_toArray, List.getElem_cons_zero, List.setIfInBounds_toArray, List.set_cons_zero, List.set_cons_succ]
          refine wpAnyH_take (i := 1) rfl (by kernel_rfl) (by kernel_rfl) (by kernel_rfl) (fun _ _ _ h => h) (yields_addr Ma (by rfl) _ rfl rfl) (by assumption) ?_
          try simp only [Act.put, List.getElem_toArray, List.getElem_cons_zero, List.getElem_cons_succ, List.setIfInBounds_toArray, List.set_cons_zero, List.set_cons_succ]
          refine wpAnyH_take (i := 2) (v := ?_) rfl (by kernel_rfl) (by kernel_rfl) (by kernel_rfl) (fun _ _ _ h => h) (Or.inl ⟨by rfl, ?_⟩) (by assumption) ?_
          rotate_left
          · (intro w hSw; go_simp; try (with_reducible rfl))
          try simp only [Act.put, List.getElem_toArray, List.getElem_cons_zero, List.getElem_cons_succ, List.setIfInBounds_toArray, List.set_cons_zero, List.set_cons_succ]
          refine wpAnyH_take (i := 4) rfl (by kernel_rfl) (by kernel_rfl) (by kernel_rfl) (fun _ _ _ h => h) (yields_addr Mt3 (by rfl) _ rfl rfl) (by assumption) ?_
          try simp only [Act.put, List.getElem_toArray, List.getElem_cons_zero, List.getElem_cons_succ, List.setIfInBounds_toArray, List.set_cons_zero, List.set_cons_succ]
          refine wpAnyH_take (i := 5) (v := ?_) rfl (by kernel_rfl) (by kernel_rfl) (by kernel_rfl) (fun _ _ _ h => h) (Or.inl ⟨by rfl, ?_⟩) (by assumption) ?_
          rotate_left
          · (intro w hSw; go_simp; try (with_reducible rfl))
          try simp only [Act.put, List.getElem_toArray, List.getElem_cons_zero, List.getElem_cons_succ, List.setIfInBounds_toArray, List.set_cons_zero, List.set_cons_succ]
          refine wpAnyH_ready (rs := [3]) (by kernel_rfl) (by simp) ?_
          refine AllReadyH.cons rfl (fun K hK => ?_) AllReadyH.nil
          go_simp
          refine (Calls.heldR (C1 _ (by assumption)).out (by assumption)).mono ?_
          rintro e wr3 ⟨rfl, hS3⟩
          go_wp2_with fail
          refine hK.out _ _ hS3 (fun hHeld => ?_)
          clear hK K
          try simp only [Act.put, List.getElem_toArray, List.getElem_cons_zero, List.getElem_cons_succ, List.setIfInBounds_toArray, List.set_cons_zero, List.set_cons_succ]
          refine wpAnyH_ready (rs := [6]) (by kernel_rfl) (by simp) ?_
          refine AllReadyH.cons rfl (fun K hK => ?_) AllReadyH.nil
          go_simp
          refine (Calls.heldR (C2 _ (by assumption)).out (by assumption)).mono ?_
          rintro e wr6 ⟨rfl, hS6⟩
          go_wp2_with fail
          refine hK.out _ _ hS6 (fun hHeld => ?_)
          clear hK K
          try simp only [Act.put, List.getElem_toArray, List.getElem_cons_zero, List.getElem_cons_succ, List.setIfInBounds_toArray, List.set_cons_zero, List.set_cons_succ]
          refine wpAnyH_take (i := 7) (v := ?_) rfl (by kernel_rfl) (by kernel_rfl) (by kernel_rfl) (fun _ _ _ h => h) (Or.inl ⟨by rfl, ?_⟩) (by assumption) ?_
          rotate_left
          · (intro w hSw; go_simp; try (with_reducible rfl))
          try simp only [Act.put, List.getElem_toArray, List.getElem_cons_zero, List.getElem_cons_succ, List.setIfInBounds_toArray, List.set_cons_zero, List.set_cons_succ]
          refine wpAnyH_done (by kernel_rfl) ?_ _
          refine NoPanic.normal ?_
          go_wp2_with fail
          go_roundw
          case rel => exact ⟨k + 1, by omega, by go_num, Lib.hid hHeld, Lib.hid (fun i hi => by
            by_cases e : i = k
            · subst e; rw [HX.out, HY.out]
            · exact HT.out i (by omega))⟩
          case measure => simp [intOf]; omega
        · have hd3 : ((x : Int) != (y : Int)) = true := by simp; omega
          have HE2 : Hid (false = R) := Lib.hid (by rw [← HE.out]; exact (decide_eq_false (fun h => hxy (by rw [← HX.out, ← HY.out]; exact h.2 k hkn))).symm)
          refine wp_region_noPanic ?_
          refine wp_region_held_drew (S := HeldR L w) (by kernel_rfl) HS.out.drew (fun hHeld => ?_)
          refine wpAnyH_take (i := 0) (v := ?_) rfl (by kernel_rfl) (by kernel_rfl) (by kernel_rfl) (fun _ _ _ h => h) (Or.inl ⟨by rfl, ?_⟩) (by assumption) ?_
          rotate_left
          · (intro w hSw; go_simp; try (with_reducible rfl))
          try simp only [Act.put, List.getElem_toArray, List.getElem_cons_zero, List.setIfInBounds_toArray, List.set_cons_zero, List.set_cons_succ]
          refine wpAnyH_take (i := 1) rfl (by kernel_rfl) (by kernel_rfl) (by kernel_rfl) (fun _ _ _ h => h) (yields_addr Ma (by rfl) _ rfl rfl) (by assumption) ?_
          try simp only [Act.put, List.getElem_toArray, List.getElem_cons_zero, List.getElem_cons_succ, List.setIfInBounds_toArray, List.set_cons_zero, List.set_cons_succ]
          refine wpAnyH_take (i := 2) (v := ?_) rfl (by kernel_rfl) (by kernel_rfl) (by kernel_rfl) (fun _ _ _ h => h) (Or.inl ⟨by rfl, ?_⟩) (by assumption) ?_
          rotate_left
          · (intro w hSw; go_simp; try (with_reducible rfl))
          try simp only [Act.put, List.getElem_toArray, List.getElem_cons_zero, List.getElem_cons_succ, List.setIfInBounds_toArray, List.set_cons_zero, List.set_cons_succ]
          refine wpAnyH_take (i := 4) rfl (by kernel_rfl) (by kernel_rfl) (by kernel_rfl) (fun _ _ _ h => h) (yields_addr Mt3 (by rfl) _ rfl rfl) (by assumption) ?_
          try simp only [Act.put, List.getElem_toArray, List.getElem_cons_zero, List.getElem_cons_succ, List.setIfInBounds_toArray, List.set_cons_zero, List.set_cons_succ]
          refine wpAnyH_take (i := 5) (v := ?_) rfl (by kernel_rfl) (by kernel_rfl) (by kernel_rfl) (fun _ _ _ h => h) (Or.inl ⟨by rfl, ?_⟩) (by assumption) ?_
          rotate_left
          · (intro w hSw; go_simp; try (with_reducible rfl))
          try simp only [Act.put, List.getElem_toArray, List.getElem_cons_zero, List.getElem_cons_succ, List.setIfInBounds_toArray, List.set_cons_zero, List.set_cons_succ]
          refine wpAnyH_ready (rs := [3]) (by kernel_rfl) (by simp) ?_
          refine AllReadyH.cons rfl (fun K hK => ?_) AllReadyH.nil
          go_simp
          refine (Calls.heldR (C1 _ (by assumption)).out (by assumption)).mono ?_
          rintro e wr3 ⟨rfl, hS3⟩
          go_wp2_with fail
          refine hK.out _ _ hS3 (fun hHeld => ?_)
          clear hK K
          try simp only [Act.put, List.getElem_toArray, List.getElem_cons_zero, List.getElem_cons_succ, List.setIfInBounds_toArray, List.set_cons_zero, List.set_cons_succ]
          refine wpAnyH_ready (rs := [6]) (by kernel_rfl) (by simp) ?_
          refine AllReadyH.cons rfl (fun K hK => ?_) AllReadyH.nil
          go_simp
          refine (Calls.heldR (C2 _ (by assumption)).out (by assumption)).mono ?_
          rintro e wr6 ⟨rfl, hS6⟩
          go_wp2_with fail
          refine hK.out _ _ hS6 (fun hHeld => ?_)
          clear hK K
          try simp only [Act.put, List.getElem_toArray, List.getElem_cons_zero, List.getElem_cons_succ, List.setIfInBounds_toArray, List.set_cons_zero, List.set_cons_succ]
          refine wpAnyH_take (i := 7) (v := ?_) rfl (by kernel_rfl) (by kernel_rfl) (by kernel_rfl) (fun _ _ _ h => h) (Or.inl ⟨by rfl, ?_⟩) (by assumption) ?_
          rotate_left
          · (intro w hSw; go_simp; try (with_reducible rfl))
          try simp only [Act.put, List.getElem_toArray, List.getElem_cons_zero, List.getElem_cons_succ, List.setIfInBounds_toArray, List.set_cons_zero, List.set_cons_succ]
          refine wpAnyH_done (by kernel_rfl) ?_ _
          refine NoPanic.normal ?_
          go_wp2_with fail
          go_ret
          exact ⟨by rw [← HE2.out]; rfl, hHeld.bel⟩
      · obtain rfl : k = n := by omega
        have hd2 : decide ((k : Int) < (k : Int)) = false := by simp
        have HE2 : Hid (true = R) := Lib.hid (by rw [← HE.out]; exact (decide_eq_true ⟨by trivial, HT.out⟩).symm)
        go_wp2_with fail
        go_ret
        exact ⟨by rw [← HE2.out]; rfl, HS.out.bel⟩
  · have hd : (f != g) = true := by simp [hfg]
    have HE2 : Hid (false = R) := Lib.hid (by rw [← HE.out]; exact (decide_eq_false (fun h => hfg h.1)).symm)
    go_wp2_with fail
    go_ret
    exact ⟨by rw [← HE2.out]; rfl, HB.out⟩
end Go.Proofs.YtgbajagacmfcmaaGreatDoor
