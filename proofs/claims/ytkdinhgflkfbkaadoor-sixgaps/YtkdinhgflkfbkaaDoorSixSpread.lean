/- How the landed Parse of layer 3 reads: a strict text at the end is spread into two groups, the text is cut at two colons, each side into its pieces: what it reads is what the reference reads. Plain facts. -/
import Derived.Test.YtkdinhgflkfbkaaDoorSixTexts
import Derived.Lib.CutLaws
import Derived.Lib.LastIndexByte
namespace Go.Proofs.YtkdinhgflkfbkaaDoor
open Go.RowKit
set_option linter.unusedVariables false

theorem eq58 {c : UInt8} (h : c.toNat = 58) : c = 58 := UInt8.toNat_inj.1 (h.trans rfl)

/-- What stands up to the last colon, and what behind it. -/
def tl : List UInt8 → List UInt8 × List UInt8
  | [] => ([], [])
  | c :: l => if (tl l).1 = [] then (if c.toNat = 58 then ([c], (tl l).2) else ([], c :: (tl l).2)) else (c :: (tl l).1, (tl l).2)
theorem tl_mid : ∀ a l : List UInt8, tl (a ++ 58 :: l) = (a ++ 58 :: (tl l).1, (tl l).2)
  | [], l => by
    rw [List.nil_append, tl]
    split
    · rename_i h
      rw [if_pos (show (58 : UInt8).toNat = 58 from rfl), h]
      rfl
    · rfl
  | c :: a, l => by
    rw [List.cons_append, tl, tl_mid a l, if_neg (by simp)]
    rfl
theorem tl_plain : ∀ l : List UInt8, (∀ c ∈ l, c.toNat ≠ 58) → tl l = ([], l)
  | [], _ => rfl
  | c :: l, h => by
    rw [tl, tl_plain l (fun x hx => h x (by simp [hx])), if_pos rfl, if_neg (h c (by simp))]
theorem tl_join : ∀ l : List UInt8, (tl l).1 ++ (tl l).2 = l
  | [] => rfl
  | c :: l => by
    have ih := tl_join l
    rw [tl]
    split
    · rename_i h
      rw [h] at ih
      split
      · simpa using ih
      · simpa using ih
    · simp [ih]
theorem tl_free : ∀ l : List UInt8, ∀ c ∈ (tl l).2, c.toNat ≠ 58
  | [], c, h => by simp [tl] at h
  | x :: l, c, h => by
    have ih := tl_free l
    rw [tl] at h
    split at h
    · split at h
      · exact ih c h
      · rename_i h2
        rcases List.mem_cons.1 h with h | h
        · rw [h]; exact h2
        · exact ih c h
    · exact ih c h
theorem tl_ends : ∀ l : List UInt8, (tl l).1 = [] ∨ ∃ h, (tl l).1 = h ++ [58]
  | [] => .inl rfl
  | x :: l => by
    have ih := tl_ends l
    rw [tl]
    split
    · split
      · rename_i h
        exact .inr ⟨[], by rw [eq58 h]; rfl⟩
      · exact .inl rfl
    · rename_i h
      rcases ih with ih | ⟨g, ih⟩
      · exact absurd ih h
      · exact .inr ⟨x :: g, by rw [ih]; rfl⟩

/-- A strict text at the end, spread into two groups. -/
def spreadL (l : List UInt8) : List UInt8 :=
  match strictB (ofL (tl l).2) with
  | none => l
  | some n => (tl l).1 ++ (groupL (n / 65536) ++ 58 :: groupL (n % 65536))
theorem spreadL_none {l : List UInt8} (h : strictB (ofL (tl l).2) = none) : spreadL l = l := by unfold spreadL; rw [h]
theorem spreadL_some {l : List UInt8} {n : Nat} (h : strictB (ofL (tl l).2) = some n) : spreadL l = (tl l).1 ++ (groupL (n / 65536) ++ 58 :: groupL (n % 65536)) := by unfold spreadL; rw [h]
theorem spreadL_mid (a l : List UInt8) : spreadL (a ++ 58 :: l) = a ++ 58 :: spreadL l := by
  have e := tl_mid a l
  cases h : strictB (ofL (tl l).2) with
  | none => rw [spreadL_none h, spreadL_none (by rw [e]; exact h)]
  | some n =>
    rw [spreadL_some h, spreadL_some (n := n) (by rw [e]; exact h), e]
    simp
theorem spreadL_nil : spreadL [] = [] := spreadL_none strictB_nil
theorem spreadL_plain {l : List UInt8} (h : ∀ c ∈ l, c.toNat ≠ 58) : spreadL l = l ∨ ∃ n, n < 4294967296 ∧ spreadL l = groupL (n / 65536) ++ 58 :: groupL (n % 65536) := by
  have e := tl_plain l h
  cases hs : strictB (ofL (tl l).2) with
  | none => exact .inl (spreadL_none hs)
  | some n => exact .inr ⟨n, strictB_lt _ _ hs, by rw [spreadL_some hs, e]; rfl⟩

/-- Every text: no colon, or a first one. -/
theorem colon_first : ∀ l : List UInt8, (∀ c ∈ l, c.toNat ≠ 58) ∨ ∃ a b, l = a ++ 58 :: b ∧ ∀ c ∈ a, c.toNat ≠ 58
  | [] => .inl (by simp)
  | x :: l => by
    by_cases hx : x.toNat = 58
    · exact .inr ⟨[], l, by rw [eq58 hx]; rfl, by simp⟩
    · rcases colon_first l with h | ⟨a, b, rfl, h⟩
      · exact .inl (fun c hc => by rcases List.mem_cons.1 hc with hc | hc; · rw [hc]; exact hx
                                   · exact h c hc)
      · exact .inr ⟨x :: a, b, rfl, fun c hc => by rcases List.mem_cons.1 hc with hc | hc; · rw [hc]; exact hx
                                                   · exact h c hc⟩
/-- Every text: no two colons, or first ones. -/
theorem gap_first : ∀ l : List UInt8, noGap l ∨ ∃ a b, l = a ++ 58 :: 58 :: b ∧ noGap a ∧ (a = [] ∨ (a.getD (a.length - 1) 0).toNat ≠ 58)
  | [] => .inl trivial
  | [x] => .inl trivial
  | x :: y :: r => by
    by_cases h : x.toNat = 58 ∧ y.toNat = 58
    · exact .inr ⟨[], r, by rw [eq58 h.1, eq58 h.2]; rfl, trivial, .inl rfl⟩
    · rcases gap_first (y :: r) with hg | ⟨a, b, e, hg, hl⟩
      · exact .inl ⟨h, hg⟩
      · refine .inr ⟨x :: a, b, by rw [e]; rfl, ?_, ?_⟩
        · cases a with
          | nil => exact trivial
          | cons z t =>
            have e2 : y = z := by simpa using (List.cons.inj e).1
            exact ⟨by rw [← e2]; exact h, hg⟩
        · right
          cases a with
          | nil =>
            have e2 : y = 58 := by simpa using (List.cons.inj e).1
            simp
            intro hx
            exact h ⟨hx, by rw [e2]; rfl⟩
          | cons z t =>
            rcases hl with hl | hl
            · cases hl
            · simpa using hl
theorem noGap_tail {x : UInt8} {l : List UInt8} (h : noGap (x :: l)) : noGap l := by
  cases l with
  | nil => trivial
  | cons y r => exact h.2
theorem noGap_right : ∀ (a : List UInt8) {l : List UInt8}, noGap (a ++ l) → noGap l
  | [], l, h => h
  | x :: a, l, h => noGap_right a (noGap_tail h)
theorem spreadL_head {c : UInt8} {r : List UInt8} (h : c.toNat ≠ 58) : ∃ d q, spreadL (c :: r) = d :: q ∧ d.toNat ≠ 58 := by
  rcases colon_first (c :: r) with hp | ⟨a, b, e, ha⟩
  · rcases spreadL_plain hp with e | ⟨n, hn, e⟩
    · exact ⟨c, r, e, h⟩
    · obtain ⟨d, q, e2, hd⟩ : ∃ d q, groupL (n / 65536) = d :: q ∧ d.toNat ≠ 58 := by
        cases hq : groupL (n / 65536) with
        | nil => exact absurd hq (groupL_ne _ (by omega))
        | cons d q => exact ⟨d, q, rfl, groupL_mem _ d (by rw [hq]; simp)⟩
      exact ⟨d, q ++ 58 :: groupL (n % 65536), by rw [e, e2]; rfl, hd⟩
  · rw [e, spreadL_mid]
    cases a with
    | nil =>
      have e2 : c = 58 := by simpa using (List.cons.inj e).1
      exact absurd (by rw [e2]; rfl) h
    | cons z t => exact ⟨z, t ++ 58 :: spreadL b, rfl, ha z (by simp)⟩
/-- A text ahead of a colon that is none, another that begins with none or is empty. -/
theorem noGap_mid : ∀ (a b : List UInt8), (∀ c ∈ a, c.toNat ≠ 58) → noGap b → (b = [] ∨ ∃ c r, b = c :: r ∧ c.toNat ≠ 58) → noGap (a ++ 58 :: b)
  | [], b, _, hb, h => by
    rcases h with rfl | ⟨c, r, rfl, hc⟩
    · trivial
    · exact ⟨fun h => hc h.2, hb⟩
  | [x], b, ha, hb, h => ⟨fun h2 => ha x (by simp) h2.1, noGap_mid [] b (by simp) hb h⟩
  | x :: y :: r, b, ha, hb, h => ⟨fun h2 => ha x (by simp) h2.1, noGap_mid (y :: r) b (fun c hc => ha c (by simp [hc])) hb h⟩
theorem spreadL_gap : ∀ (n : Nat) (l : List UInt8), l.length ≤ n → noGap l → noGap (spreadL l) := by
  intro n
  induction n with
  | zero =>
    intro l hl hg
    have : l = [] := List.eq_nil_of_length_eq_zero (by omega)
    subst this
    rw [spreadL_nil]; trivial
  | succ n ih =>
    intro l hl hg
    rcases colon_first l with hp | ⟨a, b, rfl, ha⟩
    · rcases spreadL_plain hp with e | ⟨m, hm, e⟩
      · rw [e]; exact hg
      · rw [e]
        refine noGap_mid _ _ (groupL_mem _) (noGap_plain _ (groupL_mem _)) (.inr ?_)
        cases hq : groupL (m % 65536) with
        | nil => exact absurd hq (groupL_ne _ (by omega))
        | cons d q => exact ⟨d, q, rfl, groupL_mem _ d (by rw [hq]; simp)⟩
    · rw [spreadL_mid]
      have hb2 := noGap_right a hg
      have hb := noGap_tail hb2
      refine noGap_mid a _ ha (ih b (by simp at hl; omega) hb) ?_
      cases b with
      | nil => exact .inl spreadL_nil
      | cons c r => exact .inr (spreadL_head (fun hc => hb2.1 ⟨rfl, hc⟩))

theorem prefix2 (x y : UInt8) (r : List UInt8) : ([58, 58] : List UInt8).isPrefixOf (x :: y :: r) = decide (x.toNat = 58 ∧ y.toNat = 58) := by
  rw [Bool.eq_iff_iff]
  simp only [List.isPrefixOf, Bool.and_eq_true, beq_iff_eq, decide_eq_true_eq, and_true]
  constructor
  · rintro ⟨rfl, rfl⟩; exact ⟨rfl, rfl⟩
  · rintro ⟨h1, h2⟩; exact ⟨(eq58 h1).symm, (eq58 h2).symm⟩
theorem index_noGap : ∀ l : List UInt8, noGap l → Lib.index l [58, 58] = -1
  | [], _ => rfl
  | [x], _ => by
    simp [Lib.index, List.isPrefixOf]
  | x :: y :: r, h => by
    rw [Lib.index, prefix2, decide_eq_false h.1, index_noGap (y :: r) h.2]
    rfl
theorem index_gap : ∀ (a b : List UInt8), noGap a → (a = [] ∨ (a.getD (a.length - 1) 0).toNat ≠ 58) → Lib.index (a ++ 58 :: 58 :: b) [58, 58] = a.length
  | [], b, _, _ => by
    rw [List.nil_append, Lib.index, prefix2]
    rfl
  | [x], b, _, hl => by
    have hx : x.toNat ≠ 58 := by simpa using hl
    have ih := index_gap [] b trivial (.inl rfl)
    rw [List.nil_append] at ih
    show Lib.index (x :: 58 :: 58 :: b) [58, 58] = _
    rw [Lib.index, prefix2, decide_eq_false (fun h => hx h.1), ih]
    rfl
  | x :: y :: r, b, hg, hl => by
    have ih := index_gap (y :: r) b hg.2 (.inr (by simpa using hl))
    show Lib.index (x :: y :: (r ++ 58 :: 58 :: b)) [58, 58] = _
    rw [Lib.index, prefix2, decide_eq_false hg.1]
    rw [show y :: (r ++ 58 :: 58 :: b) = (y :: r) ++ 58 :: 58 :: b from rfl, ih]
    have : (((y :: r).length : Int) == -1) = false := by rw [beq_eq_false_iff_ne]; omega
    rw [this]
    simp
theorem cut_noGap (l : List UInt8) (h : noGap l) : Lib.cut l [58, 58] = (l, [], false) := by
  unfold Lib.cut
  rw [index_noGap l h, if_neg (by decide)]
theorem cut_gap (a b : List UInt8) (h : noGap a) (hl : a = [] ∨ (a.getD (a.length - 1) 0).toNat ≠ 58) : Lib.cut (a ++ 58 :: 58 :: b) [58, 58] = (a, b, true) := by
  unfold Lib.cut
  rw [index_gap a b h hl, if_pos (by omega)]
  have e : a ++ 58 :: 58 :: b = (a ++ [58, 58]) ++ b := by simp
  refine Prod.ext ?_ (Prod.ext ?_ rfl)
  · simp
  · show List.drop ((a.length : Int).toNat + 2) (a ++ 58 :: 58 :: b) = b
    rw [e, List.drop_append_of_le_length (by simp), List.drop_of_length_le (by simp)]
    rfl

theorem cutL_mid : ∀ a b : List UInt8, cutL 58 (a ++ 58 :: b) = cutL 58 a ++ cutL 58 b
  | [], b => by
    show cutL 58 (58 :: b) = [] :: cutL 58 b
    rw [cutL, if_pos (show (58 : UInt8).toNat = 58 from rfl)]
  | c :: a, b => by
    rw [List.cons_append, cutL, cutL, cutL_mid a b]
    by_cases hc : c.toNat = 58
    · rw [if_pos hc, if_pos hc]; rfl
    · rw [if_neg hc, if_neg hc]
      cases h : cutL 58 a with
      | nil => exact absurd h (cutL_ne a)
      | cons x r => rfl
/-- The pieces of a text: those ahead, and those of what stands behind the last colon. -/
theorem cut_tl (l : List UInt8) : ∃ I : List (List UInt8), ∀ t, cutL 58 ((tl l).1 ++ t) = I ++ cutL 58 t := by
  rcases tl_ends l with h | ⟨g, h⟩
  · exact ⟨[], fun t => by rw [h]; rfl⟩
  · exact ⟨cutL 58 g, fun t => by rw [h, List.append_assoc]; exact cutL_mid g t⟩

def sideL (l : List UInt8) : List ByteArray := if l = [] then [] else (cutL 58 l).map ofL
theorem grTo_front (a x : List ByteArray) (dot : Bool) (hx : x ≠ [] ∨ dot = false) : ∀ k, k ≤ a.length → grTo (a ++ x) dot k = grTo a false k
  | 0, _ => rfl
  | k + 1, hk => by
    have e : (a ++ x).getD k ⟨#[]⟩ = a.getD k ⟨#[]⟩ := by
      rw [List.getD_eq_getElem?_getD, List.getD_eq_getElem?_getD, List.getElem?_append_left (by omega)]
    have hc : ¬ (dot = true ∧ ¬ k + 1 < (a ++ x).length) := by
      rintro ⟨h1, h2⟩
      rcases hx with hx | hx
      · have := List.length_pos_iff.2 hx
        rw [List.length_append] at h2
        omega
      · rw [hx] at h1; cases h1
    rw [grTo, grTo, grTo_front a x dot hx k (by omega), e]
    cases grTo a false k with
    | none => rfl
    | some out =>
      simp only []
      cases hexG (a.getD k ⟨#[]⟩) with
      | some v => rfl
      | none =>
        simp only []
        cases strictB (a.getD k ⟨#[]⟩) with
        | none => rfl
        | some v => simp only []; rw [if_neg hc, if_neg (by simp)]
theorem grTo_false (l : List ByteArray) (k : Nat) : grTo l false (k + 1) = match grTo l false k with
    | none => none
    | some out => match hexG (l.getD k ⟨#[]⟩) with
      | some v => some (out ++ [v])
      | none => none := by
  rw [grTo]
  cases grTo l false k with
  | none => rfl
  | some out =>
    simp only []
    cases hexG (l.getD k ⟨#[]⟩) with
    | some v => rfl
    | none =>
      simp only []
      cases strictB (l.getD k ⟨#[]⟩) with
      | none => rfl
      | some v => simp only []; rw [if_neg (by simp)]
def both (a b : Option (List Nat)) : Option (List Nat) :=
  match a, b with
  | some u, some v => some (u ++ v)
  | _, _ => none
theorem grTo_behind (a b : List ByteArray) : ∀ k, grTo (a ++ b) false (a.length + k) = both (grTo a false a.length) (grTo b false k)
  | 0 => by
    rw [Nat.add_zero, grTo_front a b false (.inr rfl) _ (Nat.le_refl _), grTo]
    cases grTo a false a.length with
    | none => rfl
    | some u => simp [both]
  | k + 1 => by
    have e : (a ++ b).getD (a.length + k) ⟨#[]⟩ = b.getD k ⟨#[]⟩ := by
      rw [List.getD_eq_getElem?_getD, List.getD_eq_getElem?_getD, List.getElem?_append_right (by omega), Nat.add_sub_cancel_left]
    rw [← Nat.add_assoc, grTo_false, grTo_behind a b k, grTo_false b k, e]
    cases grTo a false a.length with
    | none => rfl
    | some u =>
      cases grTo b false k with
      | none => rfl
      | some v =>
        simp only [both]
        cases hexG (b.getD k ⟨#[]⟩) with
        | none => rfl
        | some x => simp
theorem grTo_len (l : List ByteArray) : ∀ k out, grTo l false k = some out → out.length = k
  | 0, out, h => by
    have := Option.some.inj h
    subst this
    rfl
  | k + 1, out, h => by
    rw [grTo_false] at h
    cases hk : grTo l false k with
    | none => rw [hk] at h; cases h
    | some u =>
      have ih := grTo_len l k u hk
      rw [hk] at h
      simp only [] at h
      cases hx : hexG (l.getD k ⟨#[]⟩) with
      | none => rw [hx] at h; cases h
      | some v =>
        rw [hx] at h
        have := Option.some.inj h
        subst this
        simp [ih]
/-- A strict text is no group. -/
theorem strict_hex (t : List UInt8) (n : Nat) (h : strictB (ofL t) = some n) : hexG (ofL t) = none := by
  by_cases hd : ∀ c ∈ t, c.toNat ≠ 46
  · rw [strictB_plain t hd] at h; cases h
  · have : ∃ c ∈ t, c.toNat = 46 := by
      refine Classical.byContradiction fun hn => hd fun c hc h2 => hn ⟨c, hc, h2⟩
    obtain ⟨c, hc, h2⟩ := this
    obtain ⟨j, hj, rfl⟩ := List.getElem_of_mem hc
    unfold hexG
    split
    · rfl
    · apply num_bad0 _ 16 j
      · rw [ofL_size]; exact hj
      · rw [byteOf_ofL, List.getD_eq_getElem?_getD, List.getElem?_eq_getElem hj]
        show 16 ≤ digC (t[j]).toNat
        rw [h2]
        decide
theorem groupsB_false (l : List UInt8) : groupsB (ofL l) false = grTo (sideL l) false (sideL l).length := by
  unfold groupsB sideL
  rw [ofL_size, pieces_ofL]
  by_cases h : l = []
  · subst h; rfl
  · rw [if_neg (by intro e; exact h (List.eq_nil_of_length_eq_zero e)), if_neg h]
theorem groups_spread (l : List UInt8) : groupsB (ofL l) true = grTo (sideL (spreadL l)) false (sideL (spreadL l)).length := by
  by_cases h : l = []
  · subst h
    rw [spreadL_nil]
    rfl
  · obtain ⟨I, hI⟩ := cut_tl l
    have e1 : cutL 58 l = I ++ [(tl l).2] := by
      have := hI (tl l).2
      rw [tl_join, cutL_none 58 _ (tl_free l)] at this
      exact this
    have e0 : groupsB (ofL l) true = grTo (I.map ofL ++ [ofL (tl l).2]) true ((I.map ofL).length + 1) := by
      unfold groupsB
      rw [ofL_size, pieces_ofL, if_neg (by intro e; exact h (List.eq_nil_of_length_eq_zero e)), e1, List.map_append, List.length_append]
      rfl
    have eD : (I.map ofL ++ [ofL (tl l).2]).getD (I.map ofL).length ⟨#[]⟩ = ofL (tl l).2 := by
      rw [List.getD_eq_getElem?_getD, List.getElem?_append_right (Nat.le_refl _), Nat.sub_self]; rfl
    have eF := grTo_front (I.map ofL) [ofL (tl l).2] true (.inl (by simp)) _ (Nat.le_refl _)
    rw [e0]
    cases hs : strictB (ofL (tl l).2) with
    | none =>
      rw [spreadL_none hs]
      have e2 : sideL l = I.map ofL ++ [ofL (tl l).2] := by
        unfold sideL
        rw [if_neg h, e1, List.map_append]; rfl
      rw [e2, List.length_append]
      show _ = grTo _ false ((I.map ofL).length + 1)
      rw [grTo_behind, grTo, eF, eD]
      cases grTo (I.map ofL) false (I.map ofL).length with
      | none => rfl
      | some u =>
        simp only [hs]
        rw [grTo_false]
        show _ = both (some u) (match some [] with | none => none | some out => match hexG (ofL (tl l).2) with | some v => some (out ++ [v]) | none => none)
        cases hexG (ofL (tl l).2) with
        | none => rfl
        | some v => rfl
    | some n =>
      have hn := strictB_lt _ _ hs
      have hne : spreadL l ≠ [] := by
        rw [spreadL_some hs]; simp
      have e2 : sideL (spreadL l) = I.map ofL ++ [gS (n / 65536), gS (n % 65536)] := by
        unfold sideL
        rw [if_neg hne, spreadL_some hs, hI, cutL_first 58 58 rfl _ _ (groupL_mem _), cutL_none 58 _ (groupL_mem _), List.map_append]
        rfl
      rw [e2, List.length_append]
      show _ = grTo _ false ((I.map ofL).length + 2)
      have e3 : grTo [gS (n / 65536), gS (n % 65536)] false 2 = some [n / 65536, n % 65536] := by
        rw [grTo_false, grTo_false]
        show (match (match some [] with | none => none | some out => match hexG (gS (n / 65536)) with | some v => some (out ++ [v]) | none => none) with | none => none | some out => match hexG (gS (n % 65536)) with | some v => some (out ++ [v]) | none => none) = _
        rw [hexG_group _ (by omega), hexG_group _ (by omega)]
        rfl
      rw [grTo_behind, e3, grTo, eF, eD]
      cases grTo (I.map ofL) false (I.map ofL).length with
      | none => rfl
      | some u =>
        simp only [hs, strict_hex _ _ hs]
        rw [if_pos (by simp)]
        rfl

def zeroS : ByteArray := { data := #[48] }
theorem hexG_zeroS : hexG zeroS = some 0 := by decide
theorem grTo_zeros (m : Nat) : ∀ k, k ≤ m → grTo (List.replicate m zeroS) false k = some (List.replicate k 0)
  | 0, _ => rfl
  | k + 1, hk => by
    have e : (List.replicate m zeroS).getD k ⟨#[]⟩ = zeroS := by
      rw [List.getD_eq_getElem?_getD, List.getElem?_eq_getElem (by simp; omega)]
      simp
    rw [grTo_false, grTo_zeros m k (by omega), e, hexG_zeroS]
    simp only []
    rw [← List.replicate_succ']
def placesL (l : List UInt8) : Option (List ByteArray) :=
  if 8 < (sideL (Lib.cut l [58, 58]).1).length + (sideL (Lib.cut l [58, 58]).2.1).length ∨ (Lib.cut l [58, 58]).2.2 ≠ decide ((sideL (Lib.cut l [58, 58]).1).length + (sideL (Lib.cut l [58, 58]).2.1).length < 8) then none
  else some (sideL (Lib.cut l [58, 58]).1 ++ List.replicate (8 - (sideL (Lib.cut l [58, 58]).1).length - (sideL (Lib.cut l [58, 58]).2.1).length) zeroS ++ sideL (Lib.cut l [58, 58]).2.1)
def ownL (l : List UInt8) : Option (List Nat) :=
  match placesL (spreadL l) with
  | none => none
  | some p => grTo p false 8
/-- What the landed Parse reads is what the reference reads. -/
theorem own_parse (l : List UInt8) : ownL l = parseB (ofL l) := by
  unfold ownL placesL
  rcases gap_first l with hg | ⟨a, b, rfl, hg, hl⟩
  · have hc := cut_noGap _ (spreadL_gap l.length l (Nat.le_refl _) hg)
    rw [parse_plain l hg, groups_spread, hc]
    generalize sideL (spreadL l) = A
    have e : sideL [] = [] := rfl
    simp only [e, List.length_nil, Nat.add_zero, List.append_nil, Nat.sub_zero]
    by_cases h8 : A.length = 8
    · rw [h8]
      simp only [Nat.lt_irrefl, Nat.sub_self, List.replicate_zero, List.append_nil, decide_false, ne_eq, not_true_eq_false, or_self, if_false]
      cases h : grTo A false 8 with
      | none => rfl
      | some g => simp only []; rw [if_pos (grTo_len _ _ _ h)]
    · have : (8 < A.length ∨ false ≠ decide (A.length < 8)) := by
        by_cases h : A.length < 8
        · right; rw [decide_eq_true h]; simp
        · left; omega
      rw [if_pos this]
      cases h : grTo A false A.length with
      | none => rfl
      | some g => simp only []; rw [if_neg (by rw [grTo_len _ _ _ h]; exact h8)]
  · have e : spreadL (a ++ 58 :: 58 :: b) = a ++ 58 :: 58 :: spreadL b := by
      rw [spreadL_mid a (58 :: b), show (58 : UInt8) :: b = [] ++ 58 :: b from rfl, spreadL_mid]
      rfl
    rw [parse_merge a b hg hl, groupsB_false, groups_spread b, e, cut_gap a _ hg hl]
    simp only []
    generalize sideL a = A
    generalize sideL (spreadL b) = B
    by_cases h7 : A.length + B.length < 8
    · rw [if_neg (by rw [decide_eq_true h7]; simp; omega)]
      have e8 : grTo (A ++ List.replicate (8 - A.length - B.length) zeroS ++ B) false 8 = both (both (grTo A false A.length) (some (List.replicate (8 - A.length - B.length) 0))) (grTo B false B.length) := by
        have h1 := grTo_behind A (List.replicate (8 - A.length - B.length) zeroS) (8 - A.length - B.length)
        have h2 := grTo_behind (A ++ List.replicate (8 - A.length - B.length) zeroS) B B.length
        have h3 : (A ++ List.replicate (8 - A.length - B.length) zeroS).length = A.length + (8 - A.length - B.length) := by simp
        rw [h3, h1, grTo_zeros _ _ (Nat.le_refl _), show A.length + (8 - A.length - B.length) + B.length = 8 by omega] at h2
        exact h2
      simp only []
      rw [e8]
      cases hA : grTo A false A.length with
      | none => rfl
      | some u =>
        cases hB : grTo B false B.length with
        | none => rfl
        | some v =>
          have l1 := grTo_len _ _ _ hA
          have l2 := grTo_len _ _ _ hB
          show some (u ++ _ ++ v) = mergeB (some u) (some v)
          unfold mergeB
          simp only []
          rw [l1, l2, if_neg (by omega)]
    · rw [if_pos (by right; rw [decide_eq_false h7]; simp)]
      cases hA : grTo A false A.length with
      | none => rfl
      | some u =>
        cases hB : grTo B false B.length with
        | none => rfl
        | some v =>
          have l1 := grTo_len _ _ _ hA
          have l2 := grTo_len _ _ _ hB
          show none = mergeB (some u) (some v)
          unfold mergeB
          simp only []
          rw [l1, l2, if_pos (by omega)]

/-- Where the last colon stands, in the library's words. -/
theorem tl_last (s : ByteArray) : Lib.lastIndexByte s 58 + 1 = ((tl s.data.toList).1.length : Int) := by
  have get : ∀ j (hj : j < s.data.toList.length), s.data[j]! = s.data.toList[j] := by
    intro j hj
    rw [getElem!_pos s.data j (by simpa using hj)]
    rfl
  rcases Lib.lastIndexByte_spec s 58 with ⟨h, hn⟩ | ⟨i, hi, h, hc, hn⟩
  · rw [h, tl_plain]
    · rfl
    · intro c hc
      obtain ⟨j, hj, rfl⟩ := List.getElem_of_mem hc
      have := hn j (by simpa using hj)
      rw [get j hj] at this
      intro h2
      apply this
      rw [h2]
      rfl
  · have hi' : i < s.data.toList.length := by simpa using hi
    have e : s.data.toList = s.data.toList.take i ++ 58 :: s.data.toList.drop (i + 1) := by
      have e1 : s.data.toList[i] = 58 := by
        apply eq58
        rw [get i hi'] at hc
        omega
      rw [← e1, ← List.drop_eq_getElem_cons hi', List.take_append_drop]
    have hp : tl (s.data.toList.drop (i + 1)) = ([], s.data.toList.drop (i + 1)) := by
      apply tl_plain
      intro c hc2
      obtain ⟨j, hj, rfl⟩ := List.getElem_of_mem hc2
      have hj2 : i + 1 + j < s.data.toList.length := by simp at hj ⊢; omega
      have := hn (i + 1 + j) (by omega) (by simpa using hj2)
      rw [get _ hj2] at this
      intro h2
      apply this
      simp at h2
      simp [h2]
    have e3 : (tl s.data.toList).1 = s.data.toList.take i ++ [58] := by
      conv => lhs; rw [e, tl_mid, hp]
    rw [h, e3]
    simp
    simp at hi'
    omega
theorem spread_first (s : ByteArray) : s.extract 0 (tl s.data.toList).1.length = ofL (tl s.data.toList).1 := eq_ofL (by
  obtain ⟨h, t, e, e1⟩ : ∃ h t, s.data.toList = h ++ t ∧ (tl s.data.toList).1 = h := ⟨_, _, (tl_join _).symm, rfl⟩
  rw [e1, data_extract, e]
  simp)
theorem spread_last (s : ByteArray) : s.extract (tl s.data.toList).1.length s.size = ofL (tl s.data.toList).2 := eq_ofL (by
  obtain ⟨h, t, e, e1, e2⟩ : ∃ h t, s.data.toList = h ++ t ∧ (tl s.data.toList).1 = h ∧ (tl s.data.toList).2 = t := ⟨_, _, (tl_join _).symm, rfl, rfl⟩
  have hl : s.size = h.length + t.length := by
    have := congrArg List.length e
    rw [List.length_append] at this
    rw [← this]
    simp
  rw [e1, e2, data_extract, e, List.drop_left, hl, Nat.add_sub_cancel_left, List.take_of_length_le (Nat.le_refl _)])
theorem spread_le (s : ByteArray) : (tl s.data.toList).1.length ≤ s.size := by
  have := congrArg List.length (tl_join s.data.toList)
  rw [List.length_append] at this
  have h2 : s.data.toList.length = s.size := by simp
  omega
end Go.Proofs.YtkdinhgflkfbkaaDoor
