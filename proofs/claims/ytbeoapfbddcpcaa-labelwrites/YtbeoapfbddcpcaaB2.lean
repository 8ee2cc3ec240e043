/- Texts that belong together, one behind the other: LabMath, LabOwn, LabCut, LabParts, LabReadMath, RefReadAny, LabRead, Foot, AppendFoot, RefFind8, RefName8. -/
import Derived.Test.YtbeoapfbddcpcaaB1
import Derived.Lib.Join
import Derived.Lib.Bytealg
import Derived.Test.YtbeoapfbddcpcaaShelf
import Derived.Deep.RegionHeld3
import Derived.Deep.Cut
import Derived.Laws.BitsLemmas
import Derived.Laws.AppendOwnNone
import Derived.WalkMore
import Derived.Deep.MidRow
import Derived.Lib.AppendStr
import Derived.Maps.AppendAt
/- Names: their labels, the first one, what is left behind it. Plain facts. -/
namespace Go.Proofs.Ytbeoapfbddcpcaa
open Go.RowKit
set_option linter.unusedVariables false
set_option maxRecDepth 20000

/-- Up to the first dot. -/
def headL : List UInt8 → List UInt8
  | [] => []
  | c :: l => if c.toNat = 46 then [] else c :: headL l
/-- Behind the first dot. -/
def tailL : List UInt8 → List UInt8
  | [] => []
  | c :: l => if c.toNat = 46 then l else tailL l
def firstB (s : ByteArray) : ByteArray := ofL (headL s.data.toList)
def parB (s : ByteArray) : ByteArray := ofL (tailL s.data.toList)
theorem u8_dot {c : UInt8} (h : c.toNat = 46) : c = 46 := UInt8.toNat_inj.1 h
theorem head_tail : ∀ l : List UInt8, ((∀ c ∈ l, c.toNat ≠ 46) ∧ headL l = l ∧ tailL l = []) ∨ (l = headL l ++ 46 :: tailL l ∧ ∀ c ∈ headL l, c.toNat ≠ 46)
  | [] => .inl ⟨by simp, rfl, rfl⟩
  | c :: l => by
    by_cases h : c.toNat = 46
    · right
      have hc := u8_dot h
      subst hc
      unfold headL tailL
      rw [if_pos h, if_pos h]
      exact ⟨rfl, by simp⟩
    · unfold headL tailL
      rw [if_neg h, if_neg h]
      rcases head_tail l with ⟨h1, h2, h3⟩ | ⟨h1, h2⟩
      · left
        refine ⟨fun x hx => ?_, by rw [h2], h3⟩
        rcases List.mem_cons.1 hx with rfl | hx
        · exact h
        · exact h1 x hx
      · right
        refine ⟨by rw [List.cons_append, ← h1], fun x hx => ?_⟩
        rcases List.mem_cons.1 hx with rfl | hx
        · exact h
        · exact h2 x hx
theorem data_size (s : ByteArray) : s.data.toList.length = s.size := Array.length_toList
theorem pieces_head (s : ByteArray) : (pieces s 46 = [s] ∧ firstB s = s ∧ parB s = ⟨#[]⟩) ∨ (pieces s 46 = firstB s :: pieces (parB s) 46 ∧ s.data.toList = (firstB s).data.toList ++ 46 :: (parB s).data.toList) := by
  rw [pieces_cut]
  rcases head_tail s.data.toList with ⟨h1, h2, h3⟩ | ⟨h1, h2⟩
  · left
    refine ⟨?_, ?_, ?_⟩
    · rw [cutL_none 46 _ h1]
      exact congrArg (· :: []) (eq_ofL rfl).symm
    · unfold firstB; rw [h2]; exact (eq_ofL rfl).symm
    · unfold parB; rw [h3]; rfl
  · right
    have e1 : (firstB s).data.toList = headL s.data.toList := ofL_data _
    have e2 : (parB s).data.toList = tailL s.data.toList := ofL_data _
    refine ⟨?_, by rw [e1, e2]; exact h1⟩
    rw [pieces_cut, e2]
    have := cutL_first 46 46 rfl (tailL s.data.toList) (headL s.data.toList) h2
    rw [← h1] at this
    rw [this]
    rfl
theorem par_lt (s : ByteArray) (h : 0 < s.size) : (parB s).size < s.size := by
  rcases pieces_head s with ⟨_, _, h3⟩ | ⟨_, h2⟩
  · rw [h3]; exact h
  · have := congrArg List.length h2
    rw [List.length_append, List.length_cons, data_size, data_size, data_size] at this
    omega
theorem par_le (s : ByteArray) : (parB s).size ≤ s.size := by
  rcases Nat.eq_zero_or_pos s.size with h | h
  · have : s.data.toList = [] := List.eq_nil_of_length_eq_zero (by rw [data_size]; exact h)
    unfold parB
    rw [this]
    exact Nat.zero_le _
  · exact Nat.le_of_lt (par_lt s h)
theorem first_le (s : ByteArray) : (firstB s).size ≤ s.size := by
  rcases pieces_head s with ⟨_, h2, _⟩ | ⟨_, h2⟩
  · rw [h2]; exact Nat.le_refl _
  · have := congrArg List.length h2
    rw [List.length_append, data_size, data_size] at this
    omega
theorem empty_of {s : ByteArray} (h : s.size = 0) : s = ⟨#[]⟩ := bytes_ext (List.eq_nil_of_length_eq_zero (by rw [data_size]; exact h))
theorem par_empty {s : ByteArray} (h : s.size = 0) : parB s = ⟨#[]⟩ := by rw [empty_of h]; rfl
theorem labels_empty {s : ByteArray} (h : s.size = 0) : labelsB s = [] := by unfold labelsB; rw [if_pos h]
theorem labels_pieces {s : ByteArray} (h : 0 < s.size) : labelsB s = pieces s 46 := by unfold labelsB; rw [if_neg (by omega)]
theorem pieces_empty : pieces ⟨#[]⟩ 46 = [⟨#[]⟩] := by kernel_rfl
theorem labels_nil_iff (s : ByteArray) : labelsB s = [] ↔ s.size = 0 := by
  constructor
  · intro h
    apply Classical.byContradiction
    intro hn
    rw [labels_pieces (by omega)] at h
    have := pieces_pos s 46
    rw [h] at this
    exact absurd this (by simp)
  · exact labels_empty
theorem joinB_one (p : ByteArray) : joinB [p] ⟨#[46]⟩ = p := bytes_ext (by simp [joinB, joinTo])
theorem rest_zero (s : ByteArray) : restB s 0 = s := by
  unfold restB
  rcases Nat.eq_zero_or_pos s.size with h | h
  · rw [labels_empty h, if_pos (by simp), empty_of h]
  · rw [labels_pieces h, if_neg (by have := pieces_pos s 46; omega), List.drop_zero]
    exact pieces_join s 46 (by decide)
theorem rest_succ (s : ByteArray) (k : Nat) : restB s (k + 1) = restB (parB s) k := by
  rcases Nat.eq_zero_or_pos s.size with h | h
  · rw [par_empty h]
    unfold restB
    rw [labels_empty h, labels_empty (show (⟨#[]⟩ : ByteArray).size = 0 from rfl), if_pos (by simp), if_pos (by simp)]
  · rcases pieces_head s with ⟨h1, _, h3⟩ | ⟨h1, _⟩
    · rw [h3]
      unfold restB
      rw [labels_pieces h, h1, labels_empty (show (⟨#[]⟩ : ByteArray).size = 0 from rfl), if_pos (by simp), if_pos (by simp)]
    · unfold restB
      rw [labels_pieces h, h1]
      rcases Nat.eq_zero_or_pos (parB s).size with hp | hp
      · rw [labels_empty hp, empty_of hp, pieces_empty]
        rw [if_pos (show ([] : List ByteArray).length ≤ k by simp)]
        rcases k with _ | k
        · rw [if_neg (by simp)]
          exact joinB_one _
        · rw [if_pos (by simp)]
      · rw [labels_pieces hp]
        by_cases hk : (pieces (parB s) 46).length ≤ k
        · rw [if_pos hk, if_pos (by simp; omega)]
        · rw [if_neg hk, if_neg (by simp; omega), List.drop_succ_cons]
theorem rest_par : ∀ (k : Nat) (s : ByteArray), restB s (k + 1) = parB (restB s k)
  | 0, s => by rw [rest_succ, rest_zero, rest_zero]
  | k + 1, s => by rw [rest_succ, rest_par k (parB s), ← rest_succ]
theorem rest_le (s : ByteArray) : ∀ k, (restB s k).size ≤ s.size
  | 0 => by rw [rest_zero]; exact Nat.le_refl _
  | k + 1 => by rw [rest_par]; exact Nat.le_trans (par_le _) (rest_le s k)
theorem rest_out (s : ByteArray) (k : Nat) (h : (labelsB s).length ≤ k) : restB s k = ⟨#[]⟩ := by unfold restB; rw [if_pos h]
theorem rest_stay (s : ByteArray) (k : Nat) (h : (restB s k).size = 0) : ∀ m, restB s (k + m) = ⟨#[]⟩
  | 0 => empty_of h
  | m + 1 => by rw [← Nat.add_assoc, rest_par, rest_stay s k h m]; rfl
/-- No label is empty. -/
def Full (s : ByteArray) : Prop := ∀ p ∈ labelsB s, 0 < p.size
theorem labels_cons {s : ByteArray} (hf : Full s) (h : 0 < s.size) : labelsB s = firstB s :: labelsB (parB s) := by
  rcases pieces_head s with ⟨h1, h2, h3⟩ | ⟨h1, _⟩
  · rw [h3, h2, labels_pieces h, h1, labels_empty (show (⟨#[]⟩ : ByteArray).size = 0 from rfl)]
  · rcases Nat.eq_zero_or_pos (parB s).size with hp | hp
    · exfalso
      unfold Full at hf
      rw [labels_pieces h, h1, empty_of hp, pieces_empty] at hf
      exact absurd (hf ⟨#[]⟩ (by simp)) (by decide)
    · rw [labels_pieces h, h1, labels_pieces hp]
theorem Full.par {s : ByteArray} (hf : Full s) : Full (parB s) := by
  rcases Nat.eq_zero_or_pos s.size with h | h
  · rw [par_empty h]
    unfold Full
    rw [labels_empty (show (⟨#[]⟩ : ByteArray).size = 0 from rfl)]
    intro p hp
    cases hp
  · intro p hp
    exact hf p (by rw [labels_cons hf h]; exact List.mem_cons_of_mem _ hp)
theorem Full.rest {s : ByteArray} (hf : Full s) : ∀ k, Full (restB s k)
  | 0 => by rw [rest_zero]; exact hf
  | k + 1 => by rw [rest_par]; exact (hf.rest k).par
theorem labels_rest : ∀ (k : Nat) {s : ByteArray}, Full s → labelsB (restB s k) = (labelsB s).drop k
  | 0, s, _ => by rw [rest_zero, List.drop_zero]
  | k + 1, s, hf => by
    rw [rest_succ, labels_rest k hf.par]
    rcases Nat.eq_zero_or_pos s.size with h | h
    · rw [par_empty h, labels_empty h, labels_empty (show (⟨#[]⟩ : ByteArray).size = 0 from rfl), List.drop_nil, List.drop_nil]
    · rw [labels_cons hf h, List.drop_succ_cons]
theorem rest_pos {s : ByteArray} (hf : Full s) (k : Nat) : 0 < (restB s k).size ↔ k < (labelsB s).length := by
  have h1 := labels_rest k hf
  have h2 := labels_nil_iff (restB s k)
  rw [h1, List.drop_eq_nil_iff] at h2
  omega
theorem label_first {s : ByteArray} (hf : Full s) (k : Nat) (h : k < (labelsB s).length) : (labelsB s).getD k ⟨#[]⟩ = firstB (restB s k) := by
  have h1 := labels_rest k hf
  rw [labels_cons (hf.rest k) ((rest_pos hf k).2 h), List.drop_eq_getElem_cons h] at h1
  rw [List.getD_eq_getElem?_getD, List.getElem?_eq_getElem h]
  exact (List.cons.inj h1).1.symm
/-- How many bytes a name has. -/
theorem joinTo_size2 (l : List ByteArray) : ∀ k, (joinTo l ⟨#[46]⟩ k).size + (if k = 0 then 1 else 2) = sizeTo l k
  | 0 => rfl
  | k + 1 => by
    have h := joinTo_size2 l k
    have e : (joinTo l ⟨#[46]⟩ (k + 1)).size = (if 0 < k then (joinTo l ⟨#[46]⟩ k).size + 1 else (joinTo l ⟨#[46]⟩ k).size) + (l.getD k ⟨#[]⟩).size := by
      rw [joinTo, ByteArray.size_append]
      split
      · rw [ByteArray.size_append]; rfl
      · rfl
    have e2 : sizeTo l (k + 1) = sizeTo l k + 1 + (l.getD k ⟨#[]⟩).size := rfl
    rw [e, e2, if_neg (Nat.succ_ne_zero k)]
    split at h <;> split <;> omega
theorem size_labels (s : ByteArray) : sizeL (labelsB s) = if s.size = 0 then 1 else s.size + 2 := by
  by_cases h : s.size = 0
  · rw [if_pos h, labels_empty h]; rfl
  · rw [if_neg h, labels_pieces (by omega)]
    have h1 := joinTo_size2 (pieces s 46) (pieces s 46).length
    have h2 := pieces_join s 46 (by decide)
    have h3 := pieces_pos s 46
    unfold joinB at h2
    rw [if_neg (by omega)] at h1
    have h4 : (joinTo (pieces s 46) ⟨#[46]⟩ (pieces s 46).length).size = s.size := by
      have := congrArg ByteArray.size h2
      exact this
    unfold sizeL
    omega
theorem may_is (s : ByteArray) : mayN s = decide (s.size ≤ 253 ∧ ∀ k, k < (labelsB s).length → 1 ≤ ((labelsB s).getD k ⟨#[]⟩).size ∧ ((labelsB s).getD k ⟨#[]⟩).size ≤ 63) := by
  unfold mayN
  apply decide_eq_decide.2
  unfold MayL
  rw [size_labels]
  constructor
  · rintro ⟨h1, h2⟩
    refine ⟨?_, h1⟩
    split at h2 <;> omega
  · rintro ⟨h1, h2⟩
    refine ⟨h2, ?_⟩
    split <;> omega
theorem may_full {s : ByteArray} (h : mayN s = true) : Full s := by
  intro p hp
  obtain ⟨k, hk, rfl⟩ := List.getElem_of_mem hp
  have := ((of_decide_eq_true h : MayL _).1 k hk).1
  rw [List.getD_eq_getElem?_getD, List.getElem?_eq_getElem hk] at this
  exact this
theorem may_small {s : ByteArray} (h : mayN s = true) : s.size ≤ 253 := by
  rw [may_is] at h
  exact (of_decide_eq_true h).1
theorem may_label {s : ByteArray} (h : mayN s = true) : ∀ p ∈ labelsB s, 1 ≤ p.size ∧ p.size ≤ 63 := by
  intro p hp
  obtain ⟨k, hk, rfl⟩ := List.getElem_of_mem hp
  have := ((of_decide_eq_true h : MayL _).1 k hk)
  rw [List.getD_eq_getElem?_getD, List.getElem?_eq_getElem hk] at this
  exact this
theorem may_of {s : ByteArray} (h1 : s.size ≤ 253) (h2 : ∀ p ∈ labelsB s, 1 ≤ p.size ∧ p.size ≤ 63) : mayN s = true := by
  rw [may_is]
  refine decide_eq_true ⟨h1, fun k hk => ?_⟩
  rw [List.getD_eq_getElem?_getD, List.getElem?_eq_getElem hk]
  exact h2 _ (List.getElem_mem hk)
theorem may_rest {s : ByteArray} (h : mayN s = true) (k : Nat) : mayN (restB s k) = true := by
  refine may_of (Nat.le_trans (rest_le s k) (may_small h)) (fun p hp => may_label h p ?_)
  rw [labels_rest k (may_full h)] at hp
  exact List.mem_of_mem_drop hp
/-- The pieces have no dot. -/
theorem cutL_free : ∀ (l : List UInt8), ∀ p ∈ cutL 46 l, ∀ c ∈ p, c.toNat ≠ 46
  | [] => by simp [cutL]
  | x :: l => by
    have ih := cutL_free l
    unfold cutL
    split
    · intro p hp
      rcases List.mem_cons.1 hp with rfl | hp
      · simp
      · exact ih p hp
    · rename_i hx
      split
      · intro p hp c hc
        rw [List.mem_singleton.1 hp] at hc
        rw [List.mem_singleton.1 hc]
        exact hx
      · rename_i y r he
        rw [he] at ih
        intro p hp
        rcases List.mem_cons.1 hp with rfl | hp
        · intro c hc
          rcases List.mem_cons.1 hc with rfl | hc
          · exact hx
          · exact ih y (by simp) c hc
        · exact ih p (List.mem_cons_of_mem _ hp)
def NoDot (p : ByteArray) : Prop := ∀ c ∈ p.data.toList, c.toNat ≠ 46
theorem labels_free (s : ByteArray) : ∀ p ∈ labelsB s, NoDot p := by
  intro p hp
  unfold labelsB at hp
  split at hp
  · cases hp
  · rw [pieces_cut] at hp
    obtain ⟨q, hq, rfl⟩ := List.mem_map.1 hp
    unfold NoDot
    rw [ofL_data]
    exact cutL_free _ q hq
/-- Joined labels. -/
theorem joinTo_data (l : List ByteArray) : ∀ k, k ≤ l.length → (joinTo l ⟨#[46]⟩ k).data.toList = Lib.join ((l.take k).map (·.data.toList)) [46]
  | 0, _ => by rw [List.take_zero]; rfl
  | k + 1, h => by
    have ih := joinTo_data l k (by omega)
    have hk : k < l.length := h
    rw [List.take_succ_eq_append_getElem hk, List.map_append, joinTo, data_append]
    have e : l.getD k ⟨#[]⟩ = l[k] := by rw [List.getD_eq_getElem?_getD, List.getElem?_eq_getElem hk]; rfl
    rw [e]
    by_cases h0 : 0 < k
    · rw [if_pos h0, data_append, ih]
      obtain ⟨x, r, hx⟩ : ∃ x r, (l.take k).map (·.data.toList) = x :: r := by
        cases hh : (l.take k).map (·.data.toList) with
        | nil =>
          have := congrArg List.length hh
          rw [List.length_map, List.length_take, List.length_nil] at this
          omega
        | cons a t => exact ⟨a, t, rfl⟩
      rw [hx, List.cons_append, Lib.join_cons, Lib.join_cons]
      simp [Lib.joinTail]
    · obtain rfl : k = 0 := by omega
      rw [if_neg h0, ih]
      simp [Lib.join_one, Lib.join_nil]
theorem joinB_data (l : List ByteArray) : (joinB l ⟨#[46]⟩).data.toList = Lib.join (l.map (·.data.toList)) [46] := by
  have := joinTo_data l l.length (Nat.le_refl _)
  rw [List.take_of_length_le (Nat.le_refl _)] at this
  exact this
theorem cut_join : ∀ (r : List (List UInt8)) (x : List UInt8), (∀ c ∈ x, c.toNat ≠ 46) → (∀ p ∈ r, ∀ c ∈ p, c.toNat ≠ 46) → cutL 46 (x ++ Lib.joinTail [46] r) = x :: r
  | [], x, hx, _ => by simp only [Lib.joinTail, List.map_nil, List.flatten_nil, List.append_nil]; exact cutL_none 46 x hx
  | y :: r, x, hx, hr => by
    have e : Lib.joinTail [46] (y :: r) = 46 :: (y ++ Lib.joinTail [46] r) := by simp [Lib.joinTail]
    rw [e, cutL_first 46 46 rfl _ x hx, cut_join r y (hr y (by simp)) (fun p hp => hr p (List.mem_cons_of_mem _ hp))]
theorem labels_join (l : List ByteArray) (h1 : ∀ p ∈ l, 0 < p.size) (h2 : ∀ p ∈ l, NoDot p) : labelsB (joinB l ⟨#[46]⟩) = l := by
  cases l with
  | nil => exact labels_empty rfl
  | cons x r =>
    have hd := joinB_data (x :: r)
    rw [List.map_cons, Lib.join_cons] at hd
    have hs : 0 < (joinB (x :: r) ⟨#[46]⟩).size := by
      rw [← data_size, hd, List.length_append, data_size]
      have := h1 x (by simp)
      omega
    rw [labels_pieces hs, pieces_cut, hd, cut_join _ _ (h2 x (by simp)) (fun p hp => by
      obtain ⟨q, hq, rfl⟩ := List.mem_map.1 hp
      exact h2 q (List.mem_cons_of_mem _ hq)), List.map_cons, List.map_map]
    have e2 : (ofL ∘ fun p : ByteArray => p.data.toList) = id := by funext p; simp [ofL]
    rw [e2, List.map_id]
    exact congrArg (· :: r) (eq_ofL rfl).symm
/-- A dot in a text. -/
theorem hasTo_free {s : ByteArray} : ∀ k, k ≤ s.size → (hasTo s 46 k = false ↔ ∀ j, j < k → (s.data.toList.getD j 0).toNat ≠ 46)
  | 0, _ => ⟨fun _ j hj => absurd hj (by omega), fun _ => rfl⟩
  | k + 1, h => by
    have ih := hasTo_free (s := s) k (by omega)
    rw [hasTo, Bool.or_eq_false_iff, ih, decide_eq_false_iff_not]
    constructor
    · rintro ⟨h1, h2⟩ j hj
      by_cases hjk : j < k
      · exact h1 j hjk
      · obtain rfl : j = k := by omega
        exact h2
    · intro h1
      exact ⟨fun j hj => h1 j (by omega), h1 k (by omega)⟩
theorem has_free (s : ByteArray) : has8 s 46 = false ↔ NoDot s := by
  unfold has8
  rw [hasTo_free s.size (Nat.le_refl _)]
  constructor
  · intro h c hc
    obtain ⟨j, hj, rfl⟩ := List.getElem_of_mem hc
    have := h j (by rw [← data_size]; exact hj)
    rw [List.getD_eq_getElem?_getD, List.getElem?_eq_getElem hj] at this
    exact this
  · intro h j hj
    have hj2 : j < s.data.toList.length := by rw [data_size]; exact hj
    rw [List.getD_eq_getElem?_getD, List.getElem?_eq_getElem hj2]
    exact h _ (List.getElem_mem hj2)
theorem index_dot : ∀ l : List UInt8, (Lib.indexByte l 46 = -1 ∧ (∀ c ∈ l, c.toNat ≠ 46) ∧ headL l = l ∧ tailL l = []) ∨ (∃ i : Nat, Lib.indexByte l 46 = i ∧ i < l.length ∧ headL l = l.take i ∧ tailL l = l.drop (i + 1) ∧ ∃ c ∈ l, c.toNat = 46)
  | [] => .inl ⟨rfl, by simp, rfl, rfl⟩
  | x :: l => by
    unfold Lib.indexByte headL tailL
    by_cases hx : x.toNat = 46
    · have := u8_dot hx
      subst this
      right
      refine ⟨0, by simp, by simp, by simp, by simp, 46, by simp, rfl⟩
    · have hne : (x == 46) = false := by rw [beq_eq_false_iff_ne]; intro h; exact hx (by rw [h]; rfl)
      rw [hne, if_neg hx, if_neg hx]
      rcases index_dot l with ⟨h1, h2, h3, h4⟩ | ⟨i, h1, h2, h3, h4, c, h5, h6⟩
      · left
        rw [h1]
        refine ⟨rfl, fun c hc => ?_, by rw [h3], h4⟩
        rcases List.mem_cons.1 hc with rfl | hc
        · exact hx
        · exact h2 c hc
      · right
        rw [h1]
        refine ⟨i + 1, ?_, by simp; omega, by rw [h3]; rfl, by rw [h4]; rfl, c, List.mem_cons_of_mem _ h5, h6⟩
        have : ((i : Int) == -1) = false := by rw [beq_eq_false_iff_ne]; omega
        rw [this]
        simp
theorem contains_dot (s : ByteArray) : decide (0 ≤ Lib.indexByte s.data.toList 46) = has8 s 46 := by
  rcases index_dot s.data.toList with ⟨h1, h2, _, _⟩ | ⟨i, h1, _, _, _, c, h5, h6⟩
  · rw [h1, (has_free s).2 h2]; rfl
  · rw [h1]
    have : has8 s 46 ≠ false := fun h => (has_free s).1 h c h5 h6
    rw [Bool.of_not_eq_false this]
    exact decide_eq_true (by omega)
/-- Under, as a loop over parents asks it. -/
theorem like_empty (t : ByteArray) : likeB ⟨#[]⟩ t = decide (t.size = 0) := by
  by_cases h : t.size = 0
  · rw [decide_eq_true h, empty_of h]; exact (likeB_iff _ _).2 rfl
  · rw [decide_eq_false h]; exact likeB_size (fun e => h e.symm)
theorem under_hit {s t : ByteArray} {k : Nat} (hk : 0 < (restB s k).size) (h : likeB (restB s k) t = true) : underB s t = true := by
  refine decide_eq_true ⟨k, ?_, h⟩
  apply Classical.byContradiction
  intro hn
  rw [rest_out s k (by omega)] at hk
  exact absurd hk (by decide)
theorem under_end {s t : ByteArray} {k : Nat} (hk : (restB s k).size = 0) (h : ∀ j, j < k → likeB (restB s j) t = false) : underB s t = decide (t.size = 0) := by
  by_cases ht : t.size = 0
  · rw [decide_eq_true ht]
    refine decide_eq_true ⟨(labelsB s).length, by omega, ?_⟩
    rw [rest_out s _ (Nat.le_refl _), like_empty]
    exact decide_eq_true ht
  · rw [decide_eq_false ht]
    refine decide_eq_false (fun ⟨j, _, hj⟩ => ?_)
    by_cases hjk : j < k
    · rw [h j hjk] at hj; cases hj
    · have := rest_stay s k hk (j - k)
      rw [show k + (j - k) = j by omega] at this
      rw [this, like_empty, decide_eq_false ht] at hj
      cases hj
theorem like_self (t : ByteArray) : likeB t t = true := (likeB_iff t t).2 rfl
theorem under_self (s : ByteArray) : underB s s = true := decide_eq_true ⟨0, by omega, by rw [rest_zero]; exact like_self s⟩
theorem under_none (s : ByteArray) : underB s ⟨#[]⟩ = true := decide_eq_true ⟨(labelsB s).length, by omega, by rw [rest_out s _ (Nat.le_refl _)]; exact like_self _⟩
theorem under_rest (s : ByteArray) (k : Nat) : underB s (restB s k) = true := by
  by_cases h : k < (labelsB s).length + 1
  · exact decide_eq_true ⟨k, h, like_self _⟩
  · rw [rest_out s k (by omega)]; exact under_none s
theorem under_longer {s t : ByteArray} (h : s.size < t.size) : underB s t = false := by
  refine decide_eq_false (fun ⟨j, _, hj⟩ => ?_)
  have h1 := rest_le s j
  rw [likeB_size (by omega)] at hj
  cases hj
end Go.Proofs.Ytbeoapfbddcpcaa
/- Contracts of the landed label: Labels, May; placeOf; few of the laws. -/
namespace Go.Proofs.Ytbeoapfbddcpcaa
open Go.RowKit
set_option linter.unusedVariables false
set_option maxRecDepth 20000

set_option maxRecDepth 100000 in
theorem labels_any (s : ByteArray) (w : World) (hs : s.size ≤ 1000000) :
    Calls Try.prog 15 #[.string s] w fun e w' => ∃ a c, e = .returned (.slice a (labelsB s).length c) ∧ RowS w' a c (labelsB s) ∧ Below w.heap.size w w' := by
  by_cases h0 : s.size = 0
  · have he := isEmpty_true s h0
    have HE : Hid (labelsB s = []) := Lib.hid (by unfold labelsB; rw [if_pos h0])
    rw [HE.out]
    clear hs h0
    go_enter Try.func15, Try.ntmps15
    go_wp2_with fail
    go_ret
    exact ⟨none, 0, rfl, .inl ⟨rfl, rfl, rfl⟩, Below.refl _ _⟩
  · have he := isEmpty_false s (by omega)
    have HE : Hid (labelsB s = pieces s 46) := Lib.hid (by unfold labelsB; rw [if_neg h0])
    have HSP := Lib.hid (split_row s 46 w hs)
    rw [HE.out]
    generalize pieces s 46 = l at *
    clear hs h0 HE
    go_enter Try.func15, Try.ntmps15
    go_wp2_with fail
    refine HSP.out.mono ?_
    rintro e w1 ⟨g, c, rfl, hg, hr, hb⟩
    have HR := Lib.hid hr
    have HB := Lib.hid hb
    clear hr hb hg HSP
    go_wp2_with fail
    go_ret
    exact ⟨_, _, rfl, .inr ⟨g, rfl, HR.out⟩, HB.out⟩
set_option maxRecDepth 100000 in
set_option maxHeartbeats 1000000 in
theorem may_any (s : ByteArray) (w : World) (hs : s.size ≤ 1000000) :
    Calls Try.prog 13 #[.string s] w fun e w' => e = .returned (.bool (mayN s)) ∧ Below w.heap.size w w' := by
  have HM := Lib.hid (may_is s)
  have HLA := Lib.hid (labels_any s w hs)
  have hsm : ∀ p ∈ labelsB s, p.size ≤ 1000000 := fun p hp => Nat.le_trans (labels_small s p hp) (by omega)
  have hln := labels_len s
  generalize mayN s = m at *
  generalize labelsB s = l at *
  by_cases h253 : 253 < s.size
  · have hd0 : decide (253 < (s.size : Int)) = true := decide_eq_true (by omega)
    have hd0n : decide (253 < s.size) = true := decide_eq_true h253
    have EM : m = false := by rw [HM.out]; exact decide_eq_false (fun h => by omega)
    subst EM
    clear HLA hsm HM
    go_enter Try.func13, Try.ntmps13
    go_wp2_with fail
    go_ret
    exact ⟨rfl, Below.refl _ _⟩
  · have hd0 : decide (253 < (s.size : Int)) = false := decide_eq_false (by omega)
    have hd0n : decide (253 < s.size) = false := decide_eq_false h253
    have HM2 : Hid (m = decide (∀ k, k < l.length → 1 ≤ (l.getD k ⟨#[]⟩).size ∧ (l.getD k ⟨#[]⟩).size ≤ 63)) := Lib.hid (by
      rw [HM.out]
      exact decide_eq_decide.2 ⟨fun h => h.2, fun h => ⟨by omega, h⟩⟩)
    have HSM := Lib.hid hsm
    clear hsm HM
    obtain ⟨N, hN⟩ : ∃ N, l.length = N := ⟨_, rfl⟩
    have HN := Lib.hid hN
    rw [hN] at hln HLA HM2
    clear hN
    go_enter Try.func13, Try.ntmps13
    go_wp2_with fail
    refine HLA.out.mono ?_
    rintro e w1 ⟨a, c, rfl, hr, hb⟩
    have HR := Lib.hid hr
    have HB := Lib.hid hb
    clear hr hb HLA
    go_wp2_with fail
    go_loop [11] (fun i => ∃ k : Nat, k ≤ N ∧ i = .int .i64 (k : Int) ∧ Hid (∀ j, j < k → 1 ≤ (l.getD j ⟨#[]⟩).size ∧ (l.getD j ⟨#[]⟩).size ≤ 63)) (fun i => N - (intOf i).toNat)
    case atStart => exact ⟨0, Nat.zero_le _, rfl, Lib.hid (fun j hj => absurd hj (by omega))⟩
    case round =>
      obtain ⟨k, hk, rfl, HO⟩ := hrel
      by_cases hkN : k < N
      · have hd : decide ((k : Int) < (N : Int)) = true := decide_eq_true (by omega)
        have hdn : decide (k < N) = true := decide_eq_true (by omega)
        rcases HR.out with ⟨_, _, h0⟩ | ⟨g, rfl, h⟩
        · have := HN.out; rw [h0] at this; simp at this; omega
        have hc := h.cells k (by rw [HN.out]; exact hkN)
        have hz := getD_small HSM.out k
        have HO2 : Hid (1 ≤ (l.getD k ⟨#[]⟩).size ∧ (l.getD k ⟨#[]⟩).size ≤ 63 → ∀ j, j < k + 1 → 1 ≤ (l.getD j ⟨#[]⟩).size ∧ (l.getD j ⟨#[]⟩).size ≤ 63) := Lib.hid (fun hp j hj => by
          by_cases h : j < k
          · exact HO.out j h
          · obtain rfl : j = k := by omega
            exact hp)
        have HF : Hid (¬ (1 ≤ (l.getD k ⟨#[]⟩).size ∧ (l.getD k ⟨#[]⟩).size ≤ 63) → m = false) := Lib.hid (fun hp => by
          rw [HM2.out]
          exact decide_eq_false (fun h => hp (h k hkN)))
        generalize l.getD k ⟨#[]⟩ = p at *
        have hb1 : (0 : Int) ≤ (k : Int) := by omega
        have hb2 : (k : Int) < (N : Int) := by omega
        clear h
        by_cases h1 : p.size < 1
        · have hd1 : decide ((p.size : Int) < 1) = true := decide_eq_true (by omega)
          have hd1n : decide (p.size < 1) = true := decide_eq_true (by omega)
          have ES := HF.out (fun h => absurd h.1 (by omega))
          subst ES
          clear HO2 HF HM2
          go_wp2_with fail
          go_ret
          exact ⟨rfl, HB.out⟩
        · have hd1 : decide ((p.size : Int) < 1) = false := decide_eq_false (by omega)
          have hd1n : decide (p.size < 1) = false := decide_eq_false (by omega)
          by_cases h2 : 63 < p.size
          · have hd2 : decide (63 < (p.size : Int)) = true := decide_eq_true (by omega)
            have hd2n : decide (63 < p.size) = true := decide_eq_true (by omega)
            have ES := HF.out (fun h => absurd h.2 (by omega))
            subst ES
            clear HO2 HF HM2
            go_wp2_with fail
            go_ret
            exact ⟨rfl, HB.out⟩
          · have hd2 : decide (63 < (p.size : Int)) = false := decide_eq_false (by omega)
            have hd2n : decide (63 < p.size) = false := decide_eq_false (by omega)
            have HO3 := Lib.hid (HO2.out (by omega))
            clear HO2 HF HO
            go_wp2_with fail
            go_round
            case rel => exact ⟨k + 1, by omega, by go_num, HO3⟩
            case measure => simp [intOf]; omega
      · obtain rfl : k = N := by omega
        have hd : decide ((k : Int) < (k : Int)) = false := by simp
        have EM : m = true := by rw [HM2.out]; exact decide_eq_true HO.out
        subst EM
        clear HM2
        go_wp2_with fail
        go_ret
        exact ⟨rfl, HB.out⟩
/-- The first so many bytes of a slice. -/
theorem few8_any (a : Option Addr) (n c m : Nat) (w : World) (hn : n ≤ c) (hc : c ≤ maxLen) (hm : m ≤ 100000) (h1 : 1 ≤ m) :
    Calls Try.prog 24 #[.slice a n c, .int .i64 (m : Int)] w fun e w' => e = .returned (.slice a (if m < n then m else n) c) ∧ w' = w := by
  unfold maxLen at hc
  by_cases h : m < n
  · rw [if_pos h]
    have hd : decide ((m : Int) < (n : Int)) = true := decide_eq_true (by omega)
    have hdn : decide (m < n) = true := decide_eq_true h
    have hb : (m : Int) ≤ (c : Int) := by omega
    have hb2 : (0 : Int) ≤ (m : Int) := by omega
    go_enter Try.func24, Try.ntmps24
    go_wp2_with fail
    go_ret
    refine ⟨?_, rfl⟩
    first | rfl | simp
  · rw [if_neg h]
    have hd : decide ((m : Int) < (n : Int)) = false := decide_eq_false (by omega)
    have hdn : decide (m < n) = false := decide_eq_false h
    go_enter Try.func24, Try.ntmps24
    go_wp2_with fail
    go_ret
    exact ⟨rfl, rfl⟩
end Go.Proofs.Ytbeoapfbddcpcaa
/- Contracts of strings.Cut at a dot; of the landed cut, Parent, Under, labelOf. -/
namespace Go.Proofs.Ytbeoapfbddcpcaa
open Go.RowKit
set_option linter.unusedVariables false
set_option maxRecDepth 20000

/-- What Cut hands back. -/
def CutRet (a b : ByteArray) (w : World) (e : Ending) (w' : World) : Prop := ∃ f, e = .returned (.tuple #[.string a, .string b, .bool f]) ∧ Below w.heap.size w w'
theorem extract_take (s : ByteArray) (i : Nat) : s.extract 0 i = ofL (s.data.toList.take i) := bytes_ext (by rw [data_extract, ofL_data, List.drop_zero, Nat.sub_zero])
theorem extract_drop (s : ByteArray) (i : Nat) : s.extract i s.size = ofL (s.data.toList.drop i) := bytes_ext (by
  rw [data_extract, ofL_data]
  exact List.take_of_length_le (by rw [List.length_drop, data_size]; omega))
set_option maxRecDepth 100000 in
set_option maxHeartbeats 1000000 in
theorem liteCut_any (s : ByteArray) (w : World) (hs : s.size ≤ 1000000) :
    Calls Try.prog 56 #[.string s, .string ⟨#[46]⟩] w (CutRet (firstB s) (parB s) w) := by
  have HI := Lib.hid (Try.stringslite_Index_one s 46 w)
  rcases index_dot s.data.toList with ⟨h1, _, h3, h4⟩ | ⟨i, h1, h2, h3, h4, _⟩
  · have EF : firstB s = s := by unfold firstB; rw [h3]; exact (eq_ofL rfl).symm
    have EP : parB s = ⟨#[]⟩ := by unfold parB; rw [h4]; rfl
    rw [EF, EP]
    rw [h1] at HI
    clear h1 h3 h4 EF EP
    go_enter Try.func56, Try.ntmps56
    go_wp2_with fail
    refine HI.out.mono ?_
    rintro e w1 ⟨rfl, rfl⟩
    go_wp2_with fail
    go_ret3
    exact ⟨false, rfl, Below.refl _ _⟩
  · rw [data_size] at h2
    have EF : Hid (firstB s = s.extract 0 i) := Lib.hid (by unfold firstB; rw [h3, extract_take])
    have EP : Hid (parB s = s.extract (i + 1) s.size) := Lib.hid (by unfold parB; rw [h4, extract_drop])
    rw [EF.out, EP.out]
    rw [h1] at HI
    clear h1 h3 h4
    have hd : decide ((0 : Int) ≤ (i : Int)) = true := decide_eq_true (by omega)
    have c1 : (0 : Int) ≤ (i : Int) := by omega
    have c2 : (i : Int) ≤ (s.size : Int) := by omega
    have c3 : (0 : Int) ≤ (i : Int) + 1 := by omega
    have c4 : (i : Int) + 1 ≤ (s.size : Int) := by omega
    have hw1 : IntKind.i64.wrap ((i : Int) + 1) = (i : Int) + 1 := by rw [IntKind.wrap_i64]; omega
    have ht : ((i : Int) + 1).toNat = i + 1 := by omega
    clear EF EP
    go_enter Try.func56, Try.ntmps56
    go_wp2_with fail
    refine HI.out.mono ?_
    rintro e w1 ⟨rfl, rfl⟩
    go_upto_region 3 with fail
    refine wp_region_noPanic ?_
    refine wp_region_held_drew (S := fun W => W = w1.drew) (by kernel_rfl) rfl (fun hHeld => ?_)
    refine wpAnyH_take (i := 0) (v := ?_) rfl (by kernel_rfl) (by kernel_rfl) (by kernel_rfl) (fun _ _ _ h => h) (Or.inl ⟨by rfl, ?_⟩) (by assumption) ?_
    rotate_left
    · (intro w hSw; go_simp; try (with_reducible rfl))
    try simp only [Act.put, List.getElem_toArray, List.getElem_cons_zero, List.setIfInBounds_toArray, List.set_cons_zero, List.set_cons_succ]
    refine wpAnyH_take (i := 1) (v := ?_) rfl (by kernel_rfl) (by kernel_rfl) (by kernel_rfl) (fun _ _ _ h => h) (Or.inl ⟨by rfl, ?_⟩) (by assumption) ?_
    rotate_left
    · (intro w hSw; go_simp; try (with_reducible rfl))
    try simp only [Act.put, List.getElem_toArray, List.getElem_cons_zero, List.getElem_cons_succ, List.setIfInBounds_toArray, List.set_cons_zero, List.set_cons_succ]
    refine wpAnyH_take (i := 2) (v := ?_) rfl (by kernel_rfl) (by kernel_rfl) (by kernel_rfl) (fun _ _ _ h => h) (Or.inl ⟨by rfl, ?_⟩) (by assumption) ?_
    rotate_left
    · (intro w hSw; go_simp; try (with_reducible rfl))
    try simp only [Act.put, List.getElem_toArray, List.getElem_cons_zero, List.getElem_cons_succ, List.setIfInBounds_toArray, List.set_cons_zero, List.set_cons_succ]
    refine wpAnyH_take (i := 3) (v := ?_) rfl (by kernel_rfl) (by kernel_rfl) (by kernel_rfl) (fun _ _ _ h => h) (Or.inl ⟨by rfl, ?_⟩) (by assumption) ?_
    rotate_left
    · (intro w hSw; go_simp; try (with_reducible rfl))
    try simp only [Act.put, List.getElem_toArray, List.getElem_cons_zero, List.getElem_cons_succ, List.setIfInBounds_toArray, List.set_cons_zero, List.set_cons_succ]
    refine wpAnyH_take (i := 4) (v := ?_) rfl (by kernel_rfl) (by kernel_rfl) (by kernel_rfl) (fun _ _ _ h => h) (Or.inl ⟨by rfl, ?_⟩) (by assumption) ?_
    rotate_left
    · (intro w hSw; go_simp; try (with_reducible rfl))
    try simp only [Act.put, List.getElem_toArray, List.getElem_cons_zero, List.getElem_cons_succ, List.setIfInBounds_toArray, List.set_cons_zero, List.set_cons_succ]
    refine wpAnyH_take (i := 5) (v := ?_) rfl (by kernel_rfl) (by kernel_rfl) (by kernel_rfl) (fun _ _ _ h => h) (Or.inl ⟨by rfl, ?_⟩) (by assumption) ?_
    rotate_left
    · (intro w hSw; go_simp; try (with_reducible rfl))
    try simp only [Act.put, List.getElem_toArray, List.getElem_cons_zero, List.getElem_cons_succ, List.setIfInBounds_toArray, List.set_cons_zero, List.set_cons_succ]
    refine wpAnyH_take (i := 6) (v := ?_) rfl (by kernel_rfl) (by kernel_rfl) (by kernel_rfl) (fun _ _ _ h => h) (Or.inl ⟨by rfl, ?_⟩) (by assumption) ?_
    rotate_left
    · (intro w hSw; go_simp; try (with_reducible rfl))
    try simp only [Act.put, List.getElem_toArray, List.getElem_cons_zero, List.getElem_cons_succ, List.setIfInBounds_toArray, List.set_cons_zero, List.set_cons_succ]
    refine wpAnyH_take (i := 7) (v := ?_) rfl (by kernel_rfl) (by kernel_rfl) (by kernel_rfl) (fun _ _ _ h => h) (Or.inl ⟨by rfl, ?_⟩) (by assumption) ?_
    rotate_left
    · (intro w hSw; go_simp; try (with_reducible rfl))
    try simp only [Act.put, List.getElem_toArray, List.getElem_cons_zero, List.getElem_cons_succ, List.setIfInBounds_toArray, List.set_cons_zero, List.set_cons_succ]
    refine wpAnyH_take (i := 8) (v := ?_) rfl (by kernel_rfl) (by kernel_rfl) (by kernel_rfl) (fun _ _ _ h => h) (Or.inl ⟨by rfl, ?_⟩) (by assumption) ?_
    rotate_left
    · (intro w hSw; go_simp; try (with_reducible rfl))
    try simp only [Act.put, List.getElem_toArray, List.getElem_cons_zero, List.getElem_cons_succ, List.setIfInBounds_toArray, List.set_cons_zero, List.set_cons_succ]
    refine wpAnyH_take (i := 9) (v := ?_) rfl (by kernel_rfl) (by kernel_rfl) (by kernel_rfl) (fun _ _ _ h => h) (Or.inl ⟨by rfl, ?_⟩) (by assumption) ?_
    rotate_left
    · (intro w hSw; go_simp; try (with_reducible rfl))
    try simp only [Act.put, List.getElem_toArray, List.getElem_cons_zero, List.getElem_cons_succ, List.setIfInBounds_toArray, List.set_cons_zero, List.set_cons_succ]
    refine wpAnyH_take (i := 10) (v := ?_) rfl (by kernel_rfl) (by kernel_rfl) (by kernel_rfl) (fun _ _ _ h => h) (Or.inl ⟨by rfl, ?_⟩) (by assumption) ?_
    rotate_left
    · (intro w hSw; go_simp; try (with_reducible rfl))
    try simp only [Act.put, List.getElem_toArray, List.getElem_cons_zero, List.getElem_cons_succ, List.setIfInBounds_toArray, List.set_cons_zero, List.set_cons_succ]
    refine wpAnyH_take (i := 11) (v := ?_) rfl (by kernel_rfl) (by kernel_rfl) (by kernel_rfl) (fun _ _ _ h => h) (Or.inl ⟨by rfl, ?_⟩) (by assumption) ?_
    rotate_left
    · (intro w hSw; go_simp; try (with_reducible rfl))
    try simp only [Act.put, List.getElem_toArray, List.getElem_cons_zero, List.getElem_cons_succ, List.setIfInBounds_toArray, List.set_cons_zero, List.set_cons_succ]
    refine wpAnyH_done (by kernel_rfl) ?_ _
    refine NoPanic.normal ?_
    go_wp2_with fail
    go_ret3
    exact ⟨true, rfl, (Below.refl _ _).drew⟩
set_option maxRecDepth 100000 in
theorem strCut_any (s : ByteArray) (w : World) (hs : s.size ≤ 1000000) :
    Calls Try.prog 48 #[.string s, .string ⟨#[46]⟩] w (CutRet (firstB s) (parB s) w) := by
  have HC := Lib.hid (liteCut_any s w hs)
  generalize firstB s = a at *
  generalize parB s = b at *
  go_enter Try.func48, Try.ntmps48
  go_wp2_with fail
  refine HC.out.mono ?_
  rintro e w1 ⟨f, rfl, hb⟩
  have HB := Lib.hid hb
  clear hb HC
  go_wp2_with fail
  go_ret3
  exact ⟨f, rfl, HB.out⟩
set_option maxRecDepth 100000 in
theorem cut8_any (s : ByteArray) (w : World) (hs : s.size ≤ 1000000) :
    Calls Try.prog 37 #[.string s] w fun e w' => e = .returned (.tuple #[.string (firstB s), .string (parB s)]) ∧ Below w.heap.size w w' := by
  have HC := Lib.hid (strCut_any s w hs)
  generalize firstB s = a at *
  generalize parB s = b at *
  go_enter Try.func37, Try.ntmps37
  go_wp2_with fail
  refine HC.out.mono ?_
  rintro e w1 ⟨f, rfl, hb⟩
  have HB := Lib.hid hb
  clear hb HC
  go_wp2_with fail
  go_ret2
  exact ⟨rfl, HB.out⟩
set_option maxRecDepth 100000 in
theorem parent_any (s : ByteArray) (w : World) (hs : s.size ≤ 1000000) :
    Calls Try.prog 17 #[.string s] w fun e w' => e = .returned (.string (parB s)) ∧ Below w.heap.size w w' := by
  have HC := Lib.hid (cut8_any s w hs)
  generalize firstB s = a at *
  generalize parB s = b at *
  go_enter Try.func17, Try.ntmps17
  go_wp2_with fail
  refine HC.out.mono ?_
  rintro e w1 ⟨rfl, hb⟩
  have HB := Lib.hid hb
  clear hb HC
  go_wp2_with fail
  go_ret
  exact ⟨rfl, HB.out⟩
def strSz : Value → Nat
  | .string s => s.size
  | _ => 0
set_option maxRecDepth 100000 in
set_option maxHeartbeats 1000000 in
theorem under_any (s t : ByteArray) (w : World) (hs : s.size ≤ 1000000) (ht : t.size ≤ 1000000) :
    Calls Try.prog 22 #[.string s, .string t] w fun e w' => e = .returned (.bool (underB s t)) ∧ Below w.heap.size w w' := by
  have HHIT := fun k => Lib.hid (@under_hit s t k)
  have HEND := fun k => Lib.hid (@under_end s t k)
  have HPA := fun k (W : World) => Lib.hid (parent_any (restB s k) W (Nat.le_trans (rest_le s k) hs))
  have HLI := fun k (W : World) => Lib.hid (like_any (restB s k) t W (Nat.le_trans (rest_le s k) hs) ht)
  have HRP := fun k => Lib.hid (rest_par k s)
  have HPL := fun k => Lib.hid (par_lt (restB s k))
  have HR0 := Lib.hid (rest_zero s)
  generalize underB s t = R at *
  go_enter Try.func22, Try.ntmps22
  go_wp2_with fail
  go_loopw [5] (fun v wr => ∃ k : Nat, v = .string (restB s k) ∧ Hid (∀ j, j < k → likeB (restB s j) t = false) ∧ Hid (Below w.heap.size w wr)) (fun v _ => strSz v)
  case atStart => exact ⟨0, by rw [HR0.out], Lib.hid (fun j hj => absurd hj (by omega)), Lib.hid (Below.refl _ _)⟩
  case round =>
    obtain ⟨k, rfl, HO, HB⟩ := hrel
    replace HHIT := HHIT k
    replace HEND := HEND k
    replace HPA := HPA k
    replace HLI := HLI k
    replace HRP := HRP k
    replace HPL := HPL k
    have HO2 : Hid (likeB (restB s k) t = false → ∀ j, j < k + 1 → likeB (restB s j) t = false) := Lib.hid (fun e j hj => by
      by_cases h : j < k
      · exact HO.out j h
      · obtain rfl : j = k := by omega
        exact e)
    generalize restB s k = r at *
    by_cases h0 : r.size = 0
    · have he := isEmpty_true r h0
      have HER := Lib.hid (HEND.out h0 HO.out)
      clear HHIT HEND HPA HLI HRP HPL HO2 HR0
      by_cases ht0 : t.size = 0
      · have het := isEmpty_true t ht0
        have ER : R = true := by rw [HER.out]; exact decide_eq_true ht0
        subst ER
        clear HER
        go_wp2_with fail
        go_ret
        exact ⟨rfl, HB.out⟩
      · have het := isEmpty_false t (by omega)
        have ER : R = false := by rw [HER.out]; exact decide_eq_false ht0
        subst ER
        clear HER
        go_wp2_with fail
        go_ret
        exact ⟨rfl, HB.out⟩
    · have he := isEmpty_false r (by omega)
      clear HEND
      cases hli : likeB r t with
      | true =>
        have ER := HHIT.out (by omega) hli
        subst ER
        rw [hli] at HLI
        clear HPA HRP HPL HO2 hli HHIT HR0
        go_wp2_with fail
        refine (HLI _).out.mono ?_
        rintro e w3 ⟨rfl, q, hb3⟩
        replace HB := Lib.hid (belowN HB.out q)
        rw [← hb3] at HB
        clear HLI hb3
        go_wp2_with fail
        go_ret
        exact ⟨rfl, HB.out⟩
      | false =>
        have HO3 := Lib.hid (HO2.out hli)
        have hlt := HPL.out (by omega)
        rw [hli] at HLI
        clear HHIT HO2 HPL hli HO HR0
        generalize parB r = r2 at *
        go_wp2_with fail
        refine (HLI _).out.mono ?_
        rintro e w3 ⟨rfl, q, hb3⟩
        replace HB := Lib.hid (belowN HB.out q)
        rw [← hb3] at HB
        clear HLI hb3
        go_wp2_with fail
        refine (HPA _).out.mono ?_
        rintro e w4 ⟨rfl, hb4⟩
        replace HB := Lib.hid (chain HB.out hb4)
        clear HPA hb4
        go_wp2_with fail
        go_roundw
        case rel => exact ⟨k + 1, by rw [HRP.out], HO3, HB⟩
        case measure => simp [strSz]; omega
end Go.Proofs.Ytbeoapfbddcpcaa
/- Contracts of the landed labelOf and placeOf. -/
namespace Go.Proofs.Ytbeoapfbddcpcaa
open Go.RowKit
set_option linter.unusedVariables false
set_option maxRecDepth 20000

/-- What labelOf tells of bytes. -/
def labOf (ds : List UInt8) : ByteArray × Bool :=
  if ds.length < 1 + (ds.getD 0 0).toNat then (⟨#[]⟩, false) else (ownAt ds 0 (ds.getD 0 0).toNat, !has8 (ownAt ds 0 (ds.getD 0 0).toNat) 46)
set_option maxRecDepth 100000 in
set_option maxHeartbeats 1000000 in
theorem labelOf_any (y : Addr) (ds : List UInt8) (c : Nat) (w : World) (hc : ds.length ≤ c) (hcm : c ≤ maxLen) (hp : 0 < ds.length) (hcells : ∀ j (h : j < ds.length), w.cell? (y.add j) = some (.int .u8 ((ds[j].toNat : Nat) : Int))) :
    Calls Try.prog 41 #[.slice (some y) ds.length c] w fun e w' => e = .returned (.tuple #[.string (labOf ds).1, .bool (labOf ds).2]) ∧ w' = w := by
  have hcm2 : c ≤ 9223372036854775807 := by unfold maxLen at hcm; omega
  have hc0 := hcells 0 hp
  have hy0 : y.add 0 = y := by cases y; simp [Addr.add]
  rw [hy0] at hc0
  have hgd : ds.getD 0 0 = ds[0] := by rw [List.getD_eq_getElem?_getD, List.getElem?_eq_getElem hp]; rfl
  have HL : Hid (labOf ds = if ds.length < 1 + ds[0].toNat then (⟨#[]⟩, false) else (ownAt ds 0 ds[0].toNat, !has8 (ownAt ds 0 ds[0].toNat) 46)) := Lib.hid (by unfold labOf; rw [hgd])
  have HCV : Hid (∀ n c, 0 + 1 + n ≤ ds.length → (convert 24 9 (.slice (some (y.add (0 + 1))) n c)).run Try.prog w = .ok (.string (ownAt ds 0 n)) w) := Lib.hid (fun n c hn => own_text_at c hcells hn)
  have hu := ds[0].toNat_lt
  generalize ds[0].toNat = n at *
  obtain ⟨N, hN⟩ : ∃ N, ds.length = N := ⟨_, rfl⟩
  have HOS : Hid (1 + n ≤ N → (ownAt ds 0 n).size = n) := Lib.hid (fun h => ownAt_size (by omega))
  rw [hN] at hc hp HL HCV ⊢
  clear hcells hy0 hgd hcm hN
  have hnw : IntKind.i64.wrap (n : Int) = (n : Int) := by rw [IntKind.wrap_i64]; omega
  have hb0 : (0 : Int) < (N : Int) := by omega
  by_cases h : N < 1 + n
  · have EL := HL.out
    rw [if_pos h] at EL
    rw [EL]
    have hd : decide ((N : Int) < 1 + (n : Int)) = true := decide_eq_true (by omega)
    clear EL HL HCV
    go_enter Try.func41, Try.ntmps41
    go_wp2_with fail
    go_ret2
    exact ⟨rfl, rfl⟩
  · have EL := HL.out
    rw [if_neg h] at EL
    rw [EL]
    have hd : decide ((N : Int) < 1 + (n : Int)) = false := decide_eq_false (by omega)
    have hcv := HCV.out n (c - 1) (by omega)
    rw [show y.add (0 + 1) = ⟨y.block, y.off + 1, none⟩ from by simp [Addr.add]] at hcv
    have hos := HOS.out (by omega)
    have HCO := Lib.hid (Try.strings_Contains_one (ownAt ds 0 n) 46 w)
    rw [contains_dot] at HCO
    generalize ownAt ds 0 n = own at *
    generalize has8 own 46 = b at *
    have hck : ¬ c = 1 ∨ c = 1 := by omega
    have hb3 : (1 : Int) ≤ 1 + (n : Int) := by omega
    have hb4 : 1 + (n : Int) ≤ (c : Int) := by omega
    have hcs : 1 + n ≤ c := by omega
    clear EL HL HCV HOS
    by_cases hc1 : c = 1
    · obtain rfl : n = 0 := by omega
      subst hc1
      have hos0 := empty_of hos
      subst hos0
      have hcv0 : (convert 24 9 (.slice (some y) 0 0)).run Try.prog w = .ok (.string ⟨#[]⟩) w := by rfl
      clear hcv
      go_enter Try.func41, Try.ntmps41
      go_wp2_with fail
      refine HCO.out.mono ?_
      rintro e w1 ⟨rfl, rfl⟩
      go_wp2_with fail
      go_ret2
      exact ⟨rfl, rfl⟩
    · go_enter Try.func41, Try.ntmps41
      go_wp2_with fail
      refine HCO.out.mono ?_
      rintro e w1 ⟨rfl, rfl⟩
      go_wp2_with fail
      go_ret2
      exact ⟨rfl, rfl⟩
/-- What placeOf tells of bytes that begin with a pointer. -/
theorem placeOf_short (y : Addr) (c n : Nat) (w : World) (hn : n < 2) :
    Calls Try.prog 42 #[.slice (some y) n c] w fun e w' => e = .returned (.tuple #[.int .i64 0, .bool false]) ∧ Below w.heap.size w w' := by
  have hd : decide ((n : Int) < 2) = true := decide_eq_true (by omega)
  have hdn : decide (n < 2) = true := decide_eq_true hn
  go_enter Try.func42, Try.ntmps42
  go_wp2_with fail
  go_ret2
  exact ⟨rfl, Below.refl _ _⟩
set_option maxRecDepth 100000 in
set_option maxHeartbeats 1000000 in
theorem placeOf_any (y : Addr) (c n q1 q2 : Nat) (w : World) (hn : 2 ≤ n) (hc : n ≤ c) (hcm : c ≤ maxLen) (h1 : 192 ≤ q1) (h1b : q1 < 256) (h2 : q2 < 256) (hc1 : w.cell? y = some (.int .u8 (q1 : Int))) (hc2 : w.cell? (y.add 1) = some (.int .u8 (q2 : Int))) :
    Calls Try.prog 42 #[.slice (some y) n c] w fun e w' => e = .returned (.tuple #[.int .i64 ((((q1 - 192) * 256 + q2 : Nat)) : Int), .bool true]) ∧ Below w.heap.size w w' := by
  have hd : decide ((n : Int) < 2) = false := decide_eq_false (by omega)
  have hdn : decide (n < 2) = false := decide_eq_false (by omega)
  have hcm2 : c ≤ 9223372036854775807 := by unfold maxLen at hcm; omega
  have hb1 : (0 : Int) < (n : Int) := by omega
  have hb2 : (1 : Int) < (n : Int) := by omega
  have hb3 : 0 < n := by omega
  have hb4 : 1 < n := by omega
  have hw1 : IntKind.u8.wrap ((q1 : Int) - 192) = (q1 : Int) - 192 := by rw [IntKind.wrap_u8]; omega
  have hw2 : IntKind.i64.wrap ((q1 : Int) - 192) = (q1 : Int) - 192 := by rw [IntKind.wrap_i64]; omega
  have hw3 : IntKind.i64.wrap (((q1 : Int) - 192) * 256) = ((q1 : Int) - 192) * 256 := by rw [IntKind.wrap_i64]; omega
  have hw4 : IntKind.i64.wrap (q2 : Int) = (q2 : Int) := by rw [IntKind.wrap_i64]; omega
  have q : bits .or .i64 (((q1 : Int) - 192) * 256) (q2 : Int) = (((q1 - 192) * 256 + q2 : Nat) : Int) := by
    rw [bits_join .i64 32 (by decide) (fun n h0 h1 => by rw [IntKind.wrap_i64]; omega) 8 (((q1 : Int) - 192) * 256) q2 (by omega) (by omega) (by omega) (by omega) (by omega) (by omega)]
    omega
  rw [show y.add 1 = ⟨y.block, y.off + 1, none⟩ from by simp [Addr.add]] at hc2
  obtain ⟨T, hT⟩ : ∃ T, (q1 - 192) * 256 + q2 = T := ⟨_, rfl⟩
  rw [hT] at q ⊢
  clear hT
  go_enter Try.func42, Try.ntmps42
  go_upto_region 3 with fail
  obtain ⟨S, hS⟩ : ∃ S : World → Prop, (fun W => W.cell? y = some (.int .u8 (q1 : Int)) ∧ W.cell? ⟨y.block, y.off + 1, none⟩ = some (.int .u8 (q2 : Int))) = S := ⟨_, rfl⟩
  have C1 : Hid (∀ w', S w' → w'.cell? y = some (.int .u8 (q1 : Int))) := Lib.hid (fun w' h => by rw [← hS] at h; exact h.1)
  have C2 : Hid (∀ w', S w' → w'.cell? ⟨y.block, y.off + 1, none⟩ = some (.int .u8 (q2 : Int))) := Lib.hid (fun w' h => by rw [← hS] at h; exact h.2)
  have HSS : Hid (S w.drew) := Lib.hid (by rw [← hS]; exact ⟨hc1, hc2⟩)
  clear hS hc1 hc2
  refine wp_region_noPanic ?_
  refine wp_region_held_drew (S := S) (by kernel_rfl) HSS.out (fun hHeld => ?_)
  refine wpAnyH_take (i := 0) (v := ?_) rfl (by kernel_rfl) (by kernel_rfl) (by kernel_rfl) (fun _ _ _ h => h) (Or.inl ⟨by rfl, ?_⟩) (by assumption) ?_
  rotate_left
  · (intro w hSw; go_simp; try (with_reducible rfl))
  try simp only [Act.put, List.getElem_toArray, List.getElem_cons_zero, List.setIfInBounds_toArray, List.set_cons_zero, List.set_cons_succ]
  refine wpAnyH_take (i := 1) (v := ?_) rfl (by kernel_rfl) (by kernel_rfl) (by kernel_rfl) (fun _ _ _ h => h) (Or.inl ⟨by rfl, ?_⟩) (by assumption) ?_
  rotate_left
  · (intro w hSw; go_simp; try (with_reducible rfl))
  try simp only [Act.put, List.getElem_toArray, List.getElem_cons_zero, List.getElem_cons_succ, List.setIfInBounds_toArray, List.set_cons_zero, List.set_cons_succ]
  refine wpAnyH_take (i := 2) (v := ?_) rfl (by kernel_rfl) (by kernel_rfl) (by kernel_rfl) (fun _ _ _ h => h) (Or.inl ⟨by rfl, ?_⟩) (by assumption) ?_
  rotate_left
  · (intro w hSw; have hc0 := C1.out w hSw; go_simp; try (with_reducible rfl))
  try simp only [Act.put, List.getElem_toArray, List.getElem_cons_zero, List.getElem_cons_succ, List.setIfInBounds_toArray, List.set_cons_zero, List.set_cons_succ]
  refine wpAnyH_take (i := 3) (v := ?_) rfl (by kernel_rfl) (by kernel_rfl) (by kernel_rfl) (fun _ _ _ h => h) (Or.inl ⟨by rfl, ?_⟩) (by assumption) ?_
  rotate_left
  · (intro w hSw; go_simp; try (with_reducible rfl))
  try simp only [Act.put, List.getElem_toArray, List.getElem_cons_zero, List.getElem_cons_succ, List.setIfInBounds_toArray, List.set_cons_zero, List.set_cons_succ]
  refine wpAnyH_take (i := 4) (v := ?_) rfl (by kernel_rfl) (by kernel_rfl) (by kernel_rfl) (fun _ _ _ h => h) (Or.inl ⟨by rfl, ?_⟩) (by assumption) ?_
  rotate_left
  · (intro w hSw; go_simp; try (with_reducible rfl))
  try simp only [Act.put, List.getElem_toArray, List.getElem_cons_zero, List.getElem_cons_succ, List.setIfInBounds_toArray, List.set_cons_zero, List.set_cons_succ]
  refine wpAnyH_take (i := 5) (v := ?_) rfl (by kernel_rfl) (by kernel_rfl) (by kernel_rfl) (fun _ _ _ h => h) (Or.inl ⟨by rfl, ?_⟩) (by assumption) ?_
  rotate_left
  · (intro w hSw; go_simp; try (with_reducible rfl))
  try simp only [Act.put, List.getElem_toArray, List.getElem_cons_zero, List.getElem_cons_succ, List.setIfInBounds_toArray, List.set_cons_zero, List.set_cons_succ]
  refine wpAnyH_take (i := 6) (v := ?_) rfl (by kernel_rfl) (by kernel_rfl) (by kernel_rfl) (fun _ _ _ h => h) (Or.inl ⟨by rfl, ?_⟩) (by assumption) ?_
  rotate_left
  · (intro w hSw; go_simp; try (with_reducible rfl))
  try simp only [Act.put, List.getElem_toArray, List.getElem_cons_zero, List.getElem_cons_succ, List.setIfInBounds_toArray, List.set_cons_zero, List.set_cons_succ]
  refine wpAnyH_take (i := 7) (v := ?_) rfl (by kernel_rfl) (by kernel_rfl) (by kernel_rfl) (fun _ _ _ h => h) (Or.inl ⟨by rfl, ?_⟩) (by assumption) ?_
  rotate_left
  · (intro w hSw; go_simp; try (with_reducible rfl))
  try simp only [Act.put, List.getElem_toArray, List.getElem_cons_zero, List.getElem_cons_succ, List.setIfInBounds_toArray, List.set_cons_zero, List.set_cons_succ]
  refine wpAnyH_take (i := 8) (v := ?_) rfl (by kernel_rfl) (by kernel_rfl) (by kernel_rfl) (fun _ _ _ h => h) (Or.inl ⟨by rfl, ?_⟩) (by assumption) ?_
  rotate_left
  · (intro w hSw; have hc0 := C2.out w hSw; go_simp; try (with_reducible rfl))
  try simp only [Act.put, List.getElem_toArray, List.getElem_cons_zero, List.getElem_cons_succ, List.setIfInBounds_toArray, List.set_cons_zero, List.set_cons_succ]
  refine wpAnyH_take (i := 9) (v := ?_) rfl (by kernel_rfl) (by kernel_rfl) (by kernel_rfl) (fun _ _ _ h => h) (Or.inl ⟨by rfl, ?_⟩) (by assumption) ?_
  rotate_left
  · (intro w hSw; go_simp; try (with_reducible rfl))
  try simp only [Act.put, List.getElem_toArray, List.getElem_cons_zero, List.getElem_cons_succ, List.setIfInBounds_toArray, List.set_cons_zero, List.set_cons_succ]
  refine wpAnyH_take (i := 10) (v := ?_) rfl (by kernel_rfl) (by kernel_rfl) (by kernel_rfl) (fun _ _ _ h => h) (Or.inl ⟨by rfl, ?_⟩) (by assumption) ?_
  rotate_left
  · (intro w hSw; go_simp; try (with_reducible rfl))
  try simp only [Act.put, List.getElem_toArray, List.getElem_cons_zero, List.getElem_cons_succ, List.setIfInBounds_toArray, List.set_cons_zero, List.set_cons_succ]
  refine wpAnyH_take (i := 11) (v := ?_) rfl (by kernel_rfl) (by kernel_rfl) (by kernel_rfl) (fun _ _ _ h => h) (Or.inl ⟨by rfl, ?_⟩) (by assumption) ?_
  rotate_left
  · (intro w hSw; go_simp; try (with_reducible rfl))
  try simp only [Act.put, List.getElem_toArray, List.getElem_cons_zero, List.getElem_cons_succ, List.setIfInBounds_toArray, List.set_cons_zero, List.set_cons_succ]
  refine wpAnyH_take (i := 12) (v := ?_) rfl (by kernel_rfl) (by kernel_rfl) (by kernel_rfl) (fun _ _ _ h => h) (Or.inl ⟨by rfl, ?_⟩) (by assumption) ?_
  rotate_left
  · (intro w hSw; go_simp; try (with_reducible rfl))
  try simp only [Act.put, List.getElem_toArray, List.getElem_cons_zero, List.getElem_cons_succ, List.setIfInBounds_toArray, List.set_cons_zero, List.set_cons_succ]
  refine wpAnyH_done (by kernel_rfl) ?_ _
  refine NoPanic.normal ?_
  go_wp2_with fail
  go_ret2
  exact ⟨rfl, (Below.refl _ _).drew⟩
end Go.Proofs.Ytbeoapfbddcpcaa
/- How the landed Read reads is how the reference reads: plain facts. -/
namespace Go.Proofs.Ytbeoapfbddcpcaa
open Go.RowKit
set_option linter.unusedVariables false
set_option maxRecDepth 20000

/-- What follows upon a run. -/
def contR (bs : List UInt8) (g i : Nat) (l : List ByteArray) (nx : Option Nat) (r : List ByteArray × Nat × Bool × Int) : ByteArray × Nat × Int :=
  match r with
  | (l2, e, p, er) =>
    if er ≠ 0 then (⟨#[]⟩, 0, er) else
    if p = false then (joinB (l ++ l2) ⟨#[46]⟩, nx.getD (e + 1), 0) else
    if bs.length ≤ e + 1 then (⟨#[]⟩, 0, 2) else
    if i ≤ toAt bs e then (⟨#[]⟩, 0, 2) else
    readB bs g (toAt bs e) (l ++ l2) (some (nx.getD (e + 2)))
theorem readB_cont (bs : List UInt8) (g i : Nat) (l : List ByteArray) (nx : Option Nat) : readB bs (g + 1) i l nx = contR bs g i l nx (runB bs (sizeL l - 1) (bs.length + 1 - i) i []) := rfl
/-- Where reading stands: at i, of a run that began at b, with labels l. -/
def RdSt (bs : List UInt8) (R : ByteArray × Nat × Int) (i b : Nat) (l : List ByteArray) (nx : Option Nat) : Prop :=
  ∃ f g l0 l2, bs.length + 1 ≤ i + f ∧ b ≤ g ∧ l = l0 ++ l2 ∧ sizeL l ≤ 255 ∧ contR bs g b l0 nx (runB bs (sizeL l0 - 1) f i l2) = R
theorem RdSt.start (bs : List UInt8) (at0 : Nat) : RdSt bs (readB bs (at0 + 1) at0 [] none) at0 at0 [] none :=
  ⟨bs.length + 1 - at0, at0, [], [], by omega, Nat.le_refl _, rfl, by decide, rfl⟩
section
variable {bs : List UInt8} {R : ByteArray × Nat × Int} {i b : Nat} {l : List ByteArray} {nx : Option Nat}
theorem RdSt.out (h : RdSt bs R i b l nx) (hi : bs.length ≤ i) : R = (⟨#[]⟩, 0, 2) := by
  obtain ⟨f, g, l0, l2, h1, h2, h3, h4, h5⟩ := h
  cases f with
  | zero => rw [← h5]; rfl
  | succ f =>
    unfold runB at h5
    rw [if_pos hi] at h5
    rw [← h5]; rfl
theorem RdSt.zero (h : RdSt bs R i b l nx) (hi : i < bs.length) (hn : (bs.getD i 0).toNat = 0) : R = (joinB l ⟨#[46]⟩, nx.getD (i + 1), 0) := by
  obtain ⟨f, g, l0, l2, h1, h2, h3, h4, h5⟩ := h
  obtain ⟨f, rfl⟩ : ∃ k, f = k + 1 := ⟨f - 1, by omega⟩
  unfold runB at h5
  rw [if_neg (by omega), if_pos hn] at h5
  rw [← h5, h3]; rfl
theorem RdSt.bad (h : RdSt bs R i b l nx) (hi : i < bs.length) (hn : 63 < (bs.getD i 0).toNat) (hn2 : (bs.getD i 0).toNat < 192) : R = (⟨#[]⟩, 0, 2) := by
  obtain ⟨f, g, l0, l2, h1, h2, h3, h4, h5⟩ := h
  obtain ⟨f, rfl⟩ : ∃ k, f = k + 1 := ⟨f - 1, by omega⟩
  unfold runB at h5
  rw [if_neg (by omega), if_neg (by omega), if_neg (by omega), if_pos (.inl hn)] at h5
  rw [← h5]; rfl
theorem RdSt.short (h : RdSt bs R i b l nx) (hi : i < bs.length) (hn : (bs.getD i 0).toNat ≠ 0) (hn2 : (bs.getD i 0).toNat ≤ 63) (hs : bs.length < i + 1 + (bs.getD i 0).toNat) : R = (⟨#[]⟩, 0, 2) := by
  obtain ⟨f, g, l0, l2, h1, h2, h3, h4, h5⟩ := h
  obtain ⟨f, rfl⟩ : ∃ k, f = k + 1 := ⟨f - 1, by omega⟩
  unfold runB at h5
  rw [if_neg (by omega), if_neg hn, if_neg (by omega), if_pos (.inr hs)] at h5
  rw [← h5]; rfl
theorem RdSt.dot (h : RdSt bs R i b l nx) (hi : i < bs.length) (hn : (bs.getD i 0).toNat ≠ 0) (hn2 : (bs.getD i 0).toNat ≤ 63) (hs : i + 1 + (bs.getD i 0).toNat ≤ bs.length) (hd : has8 (ownAt bs i (bs.getD i 0).toNat) 46 = true) : R = (⟨#[]⟩, 0, 2) := by
  obtain ⟨f, g, l0, l2, h1, h2, h3, h4, h5⟩ := h
  obtain ⟨f, rfl⟩ : ∃ k, f = k + 1 := ⟨f - 1, by omega⟩
  unfold runB at h5
  rw [if_neg (by omega), if_neg hn, if_neg (by omega), if_neg (by omega), if_pos hd] at h5
  rw [← h5]; rfl
theorem size_three (l0 l2 : List ByteArray) (x : ByteArray) : sizeL l0 - 1 + sizeL (l2 ++ [x]) = sizeL (l0 ++ l2 ++ [x]) := by
  have := sizeL_app l0 (l2 ++ [x])
  rw [← List.append_assoc] at this
  have := sizeL_pos l0
  omega
theorem size_snoc (l : List ByteArray) (x : ByteArray) : sizeL (l ++ [x]) = sizeL l + 1 + x.size := by
  have := sizeL_app l [x]
  have e : sizeL [x] = 2 + x.size := by
    show 1 + 1 + x.size = 2 + x.size
    omega
  omega
theorem RdSt.long (h : RdSt bs R i b l nx) (hi : i < bs.length) (hn : (bs.getD i 0).toNat ≠ 0) (hn2 : (bs.getD i 0).toNat ≤ 63) (hs : i + 1 + (bs.getD i 0).toNat ≤ bs.length) (hd : has8 (ownAt bs i (bs.getD i 0).toNat) 46 = false) (hz : 255 < sizeL (l ++ [ownAt bs i (bs.getD i 0).toNat])) : R = (⟨#[]⟩, 0, 3) := by
  obtain ⟨f, g, l0, l2, h1, h2, h3, h4, h5⟩ := h
  obtain ⟨f, rfl⟩ : ∃ k, f = k + 1 := ⟨f - 1, by omega⟩
  unfold runB at h5
  rw [if_neg (by omega), if_neg hn, if_neg (by omega), if_neg (by omega), hd, if_neg (by decide), if_pos (by rw [size_three, ← h3]; exact hz)] at h5
  rw [← h5]; rfl
theorem RdSt.lab (h : RdSt bs R i b l nx) (hi : i < bs.length) (hn : (bs.getD i 0).toNat ≠ 0) (hn2 : (bs.getD i 0).toNat ≤ 63) (hs : i + 1 + (bs.getD i 0).toNat ≤ bs.length) (hd : has8 (ownAt bs i (bs.getD i 0).toNat) 46 = false) (hz : sizeL (l ++ [ownAt bs i (bs.getD i 0).toNat]) ≤ 255) : RdSt bs R (i + 1 + (bs.getD i 0).toNat) b (l ++ [ownAt bs i (bs.getD i 0).toNat]) nx := by
  obtain ⟨f, g, l0, l2, h1, h2, h3, h4, h5⟩ := h
  obtain ⟨f, rfl⟩ : ∃ k, f = k + 1 := ⟨f - 1, by omega⟩
  unfold runB at h5
  rw [if_neg (by omega), if_neg hn, if_neg (by omega), if_neg (by omega), hd, if_neg (by decide), if_neg (by rw [size_three, ← h3]; omega)] at h5
  exact ⟨f, g, l0, _, by omega, h2, by rw [h3, List.append_assoc], hz, h5⟩
theorem RdSt.ptr1 (h : RdSt bs R i b l nx) (hi : i < bs.length) (hn : 192 ≤ (bs.getD i 0).toNat) (he : bs.length ≤ i + 1) : R = (⟨#[]⟩, 0, 2) := by
  obtain ⟨f, g, l0, l2, h1, h2, h3, h4, h5⟩ := h
  obtain ⟨f, rfl⟩ : ∃ k, f = k + 1 := ⟨f - 1, by omega⟩
  unfold runB at h5
  rw [if_neg (by omega), if_neg (by omega), if_pos hn] at h5
  unfold contR at h5
  simp only at h5
  rw [if_neg (by decide), if_neg (by decide), if_pos he] at h5
  exact h5.symm
theorem RdSt.ptr2 (h : RdSt bs R i b l nx) (hi : i < bs.length) (hn : 192 ≤ (bs.getD i 0).toNat) (he : i + 1 < bs.length) (ht : b ≤ toAt bs i) : R = (⟨#[]⟩, 0, 2) := by
  obtain ⟨f, g, l0, l2, h1, h2, h3, h4, h5⟩ := h
  obtain ⟨f, rfl⟩ : ∃ k, f = k + 1 := ⟨f - 1, by omega⟩
  unfold runB at h5
  rw [if_neg (by omega), if_neg (by omega), if_pos hn] at h5
  unfold contR at h5
  simp only at h5
  rw [if_neg (by decide), if_neg (by decide), if_neg (by omega), if_pos ht] at h5
  exact h5.symm
theorem RdSt.ptr (h : RdSt bs R i b l nx) (hi : i < bs.length) (hn : 192 ≤ (bs.getD i 0).toNat) (he : i + 1 < bs.length) (ht : toAt bs i < b) : RdSt bs R (toAt bs i) (toAt bs i) l (some (nx.getD (i + 2))) := by
  obtain ⟨f, g, l0, l2, h1, h2, h3, h4, h5⟩ := h
  obtain ⟨f, rfl⟩ : ∃ k, f = k + 1 := ⟨f - 1, by omega⟩
  unfold runB at h5
  rw [if_neg (by omega), if_neg (by omega), if_pos hn] at h5
  unfold contR at h5
  simp only at h5
  rw [if_neg (by decide), if_neg (by decide), if_neg (by omega), if_neg (by omega)] at h5
  obtain ⟨g, rfl⟩ : ∃ k, g = k + 1 := ⟨g - 1, by omega⟩
  rw [readB_cont] at h5
  exact ⟨_, g, l0 ++ l2, [], by omega, by omega, by rw [List.append_nil]; exact h3, h4, h5⟩
theorem RdSt.small (h : RdSt bs R i b l nx) : sizeL l ≤ 255 := by
  obtain ⟨f, g, l0, l2, h1, h2, h3, h4, h5⟩ := h
  exact h4
end
theorem meas8 {T b N i : Nat} (h : T < b) : T * (N + 2) + (N + 1 - T) < b * (N + 2) + (N + 1 - i) := by
  have h1 := Nat.mul_le_mul_right (N + 2) (show T + 1 ≤ b from h)
  rw [Nat.succ_mul] at h1
  omega
end Go.Proofs.Ytbeoapfbddcpcaa
/- Contract of the reference's Read of layer 8. -/
namespace Go.Proofs.Ytbeoapfbddcpcaa
open Go.RowKit
set_option linter.unusedVariables false
set_option maxRecDepth 20000

theorem own_below8 {w w' : World} {B : Nat} {t : TypeId} {z : Nat} {v : Value} {n : Nat} {xs : List Value} (h : w.ownsRow B t z v n xs) (hb : Below w.heap.size w w') : w'.ownsRow B t z v n xs := by
  obtain ⟨h1, h2⟩ := h
  refine ⟨h1, ?_⟩
  rcases h2 with h2 | ⟨g, cap, cur, e, hB, hg, rest⟩
  · exact .inl h2
  · refine .inr ⟨g, cap, cur, e, hB, ?_, rest⟩
    rw [hb.block g (by
      rcases Nat.lt_or_ge g w.heap.size with h | h
      · exact h
      · rw [Array.getElem?_eq_none h] at hg; cases hg)]
    exact hg
/-- Texts behind a row of texts of one's own. -/
theorem own_more {w0 wr w1 : World} {v v' : Value} {l m : List ByteArray} (hown' : w1.ownsRow w0.heap.size 9 1 v' (l.length + m.length) (l.map Value.string ++ m.map Value.string))
    (hg : wr.grownBy w1 v.ownBlock) (hown : wr.ownsRow w0.heap.size 9 1 v l.length (l.map Value.string)) (hb : Below w0.heap.size w0 wr) :
    w1.ownsRow w0.heap.size 9 1 v' (l ++ m).length ((l ++ m).map Value.string) ∧ Below w0.heap.size w0 w1 := by
  refine ⟨by rw [List.length_append, List.map_append]; exact hown', hb.grown hg hb.size (fun k hk => (hown.lt k hk).1)⟩
def nxI : Option Nat → Int
  | none => -1
  | some n => (n : Int)
/-- One row of texts behind another one, both of one's own. -/
theorem append_own_own {ops : Array Oper} {rest : List Oper} {op : Oper} {a : Act} {w w0 : World} {Q : Exit → Act → World → Prop} {v v2 : Value} {l l2 : List ByteArray} {B2 : Nat} (hown : Hid (w.ownsRow w0.heap.size 9 1 v l.length (l.map Value.string))) (hown2 : Hid (w.ownsRow B2 9 1 v2 l2.length (l2.map Value.string))) (hb : Hid (Below w0.heap.size w0 w)) (hn : Hid (l.length ≤ 10000 ∧ l2.length ≤ 10000)) (s x : Operand) (hg : op.guard = none) (ho : op.op = .call { callee := .builtin .append, args := #[s, x], argTypes := #[29, 29] })
    (hs : a.eval s = v) (hx : a.eval x = v2) (h : ∀ v' W, Hid (W.ownsRow w0.heap.size 9 1 v' (l ++ l2).length ((l ++ l2).map Value.string)) → Hid (Below w0.heap.size w0 W) → wpList Try.prog ops Q rest (a.put op.dst v') W) : wpList Try.prog ops Q (op :: rest) a w := by
  obtain ⟨i0, hi0, hz0, hz1, hz2⟩ := info_parts Try.infoString
  have hnn := hn.out
  rcases hown2.out.2 with ⟨h1, h2⟩ | ⟨g, cap, cur, h1, _⟩
  · have hl2 : l2 = [] := List.eq_nil_of_length_eq_zero h2
    refine wpList_append_own_none hg s x 29 ho w0.heap.size 9 i0 1 Try.underlying29 hi0 v l.length _ hs hown.out (by rw [hx, h1]) ?_
    refine h v w (Lib.hid ?_) hb
    rw [hl2, List.append_nil]
    exact hown.out
  · have hcells : ∀ j u, (l2.map Value.string)[j]? = some u → w.cell? ((⟨g, 0, none⟩ : Addr).add j) = some u := by
      intro j u hu
      have hj : j < l2.length := by
        have := (List.getElem?_eq_some_iff.1 hu).1
        simpa using this
      have := own_cells (g := g) (n := l2.length) (c := cap) (B := B2) (l := l2) (by have := hown2.out; rw [h1] at this; exact this) j hj
      rw [add_none, this, ← hu]
      simp [hj]
    refine wpList_append_own _ hg s x 29 ho w0.heap.size 9 i0 _ 1 16 Try.underlying29 hi0 hz0 hz1 hz2 rfl (by decide) v l.length _ hs hown.out ⟨g, 0, none⟩ l2.length cap (l2.map Value.string) (by rw [hx, h1]) (by simp) hcells (fun u hu => by
        obtain ⟨q, _, rfl⟩ := List.mem_map.1 hu
        rfl) (by unfold maxLen; omega) (by omega) hb.out.size ?_
    intro v' w1 ho' hgr _
    have R := own_more ho' hgr hown.out hb.out
    exact h v' w1 (Lib.hid R.1) (Lib.hid R.2)
set_option maxRecDepth 100000 in
set_option maxHeartbeats 4000000 in
theorem refRead_any (a : Option Addr) (cap : Nat) (bs : List UInt8) (at0 : Nat) (w : World) (hB : BytesIn w a cap bs) (hat : at0 ≤ bs.length) (hbl : bs.length ≤ 100000) :
    Calls Try.prog 27 #[.slice a bs.length cap, .int .i64 (at0 : Int)] w fun e w' => e = .returned (.tuple #[.string (readB bs (at0 + 1) at0 [] none).1, .int .i64 (((readB bs (at0 + 1) at0 [] none).2.1 : Nat) : Int), .int .i64 (readB bs (at0 + 1) at0 [] none).2.2]) ∧ Below w.heap.size w w' := by
  have HBI := Lib.hid hB
  obtain ⟨R, hR⟩ : ∃ R, readB bs (at0 + 1) at0 [] none = R := ⟨_, rfl⟩
  have HR := Lib.hid hR
  rw [hR]
  obtain ⟨N, hN⟩ : ∃ N, bs.length = N := ⟨_, rfl⟩
  have HN := Lib.hid hN
  have HRU := fun W i had (h : BytesIn W a cap bs) h1 h2 => Lib.hid (refRun_any a cap bs i had W h h1 h2 hbl)
  rw [hN] at HRU hat hbl ⊢
  clear hB hR hN
  have FIN : ∀ (wr : World) (s : ByteArray) (nx : Nat) (er : Int), Hid (Below w.heap.size w wr → R = (s, nx, er) → (Ending.returned (.tuple #[.string s, .int .i64 (nx : Int), .int .i64 er]) = Ending.returned (.tuple #[.string R.1, .int .i64 ((R.2.1 : Nat) : Int), .int .i64 R.2.2]) ∧ Below w.heap.size w wr)) := fun wr s nx er => Lib.hid (fun h1 h2 => by
    rw [h2]; exact ⟨rfl, h1⟩)
  go_enter Try.func27, Try.ntmps27
  go_wp2_with fail
  go_loopw [1, 7, 8] (fun s1 s7 s8 wr => ∃ (i f : Nat) (l : List ByteArray) (v : Value) (nx : Option Nat), i ≤ N ∧ i + 1 ≤ f ∧ v = s7 ∧ s1 = .int .i64 (i : Int) ∧ s8 = .int .i64 (nxI nx) ∧ nxI nx ≤ (N : Int) + 2 ∧ Hid (-1 ≤ nxI nx) ∧ Hid (sizeL l ≤ 255) ∧ Hid (readB bs f i l nx = R) ∧ Hid (wr.ownsRow w.heap.size 9 1 v l.length (l.map Value.string)) ∧ Hid (Below w.heap.size w wr)) (fun s1 _ _ _ => (intOf s1).toNat)
  case atStart => exact ⟨at0, at0 + 1, [], _, none, hat, Nat.le_refl _, rfl, rfl, rfl, by show (-1 : Int) ≤ _; omega, Lib.hid (Int.le_refl _), Lib.hid (by decide), HR, Lib.hid (World.ownsRow_nil _ _ _ _), Lib.hid (Below.refl _ _)⟩
  case round =>
    clear HR
    obtain ⟨i, f0, l, v, nx, hi, hif, rfl, rfl, rfl, hnx, HNX, HSZ, HRI, HO, HB⟩ := hrel
    obtain ⟨f, rfl⟩ : ∃ f, f0 = f + 1 := ⟨f0 - 1, by omega⟩
    have hsz := HSZ.out
    have hsp := sizeL_pos l
    have hll : l.length ≤ 254 := by omega
    have HSI := Lib.hid (refSize_own HO.out (fun p hp => Nat.le_trans (piece_le l p hp) (by omega)) (by omega))
    have HRN := HRU wr i (sizeL l - 1) (HBI.out.below HB.out) hi (by omega)
    have HRB : Hid (readB bs (f + 1) i l nx = match runB bs (sizeL l - 1) (bs.length + 1 - i) i [] with
      | (l2, e, p, er) =>
        if er ≠ 0 then (⟨#[]⟩, 0, er) else
        if p = false then (joinB (l ++ l2) ⟨#[46]⟩, nx.getD (e + 1), 0) else
        if bs.length ≤ e + 1 then (⟨#[]⟩, 0, 2) else
        if i ≤ toAt bs e then (⟨#[]⟩, 0, 2) else
        readB bs f (toAt bs e) (l ++ l2) (some (nx.getD (e + 2)))) := Lib.hid rfl
    rw [HRI.out, HN.out] at HRB
    have HOK := Lib.hid (runB_ok bs (sizeL l - 1) (N + 1 - i) i [])
    generalize runB bs (sizeL l - 1) (N + 1 - i) i [] = r at *
    obtain ⟨l2, e, p, er⟩ := r
    simp only at HRB
    have HAP := Lib.hid (sizeL_app l l2)
    have hz1 : IntKind.i64.wrap (((sizeL l : Nat) : Int) - 1) = (((sizeL l - 1 : Nat) : Nat) : Int) := by rw [IntKind.wrap_i64]; omega
    have HZ : Hid (sizeL l = (sizeL l - 1) + 1) := Lib.hid (by omega)
    obtain ⟨z, hz⟩ : ∃ z, sizeL l = z + 1 := ⟨sizeL l - 1, by omega⟩
    rw [hz] at HSI HRN hz1 HOK HAP hsz HZ
    rw [Nat.add_sub_cancel] at HRN hz1 HOK
    have hzi : ((z + 1 : Nat) : Int) - 1 = (z : Int) := by omega
    clear hz HZ HSZ hsp HRI
    have hwz := HB.out.size
    go_wp2_with fail
    refine HSI.out.mono ?_
    rintro e1 w2 ⟨rfl, rfl⟩
    clear HSI
    go_wp2_with fail
    refine HRN.out.mono ?_
    rintro e1 w3 ⟨v2, rfl, hown2, hb3⟩
    have HO2 := Lib.hid hown2
    have HB3 := Lib.hid (chain HB.out hb3)
    have HO3 := Lib.hid (own_below8 HO.out hb3)
    clear hown2 hb3 HRN HO HB hz1 hzi
    by_cases her : er = 0
    · subst her
      rw [if_neg (fun h => h rfl)] at HRB
      obtain ⟨hk1, hk2, hk3, hk4⟩ := HOK.out l2 e p rfl (by show z + 1 ≤ 255; omega)
      have HK4 := Lib.hid hk4
      rw [HN.out] at hk3
      have HSZ2 : Hid (sizeL (l ++ l2) ≤ 255) := Lib.hid (by have := HAP.out; omega)
      have hl2 : l2.length ≤ 255 := by have := sizeL_pos l2; omega
      have HLL : Hid (l.length ≤ 10000 ∧ l2.length ≤ 10000) := Lib.hid (by omega)
      clear HOK HAP hk4
      go_upto_region 7 with (at_builtin; refine append_own_own HO3 HO2 HB3 HLL _ _ rfl rfl rfl rfl (fun v3 W3 HO4 HB4 => ?_))
      clear HO3 HO2 HB3 HLL
      generalize l ++ l2 = l3 at *
      have hl3 : l3.length ≤ 255 := by have := sizeL_pos l3; have := HSZ2.out; omega
      cases p with
      | false =>
        rw [if_pos rfl] at HRB
        have hj3 := joinB_size l3
        have HJO := Lib.hid (join_own HO4.out (by omega) (by have := HSZ2.out; omega))
        generalize joinB l3 ⟨#[46]⟩ = J at *
        rcases nx with _ | m
        · have hnn : nxI none = -1 := rfl
          rw [hnn]
          have HE := Lib.hid ((FIN W3 J (e + 1) 0).out HB4.out HRB.out)
          have hcast : (((e + 1 : Nat) : Nat) : Int) = (e : Int) + 1 := by omega
          rw [hcast] at HE
          clear HRB FIN HO4 HB4 hnn hnx hcast
          go_wp2_with fail
          refine HJO.out.mono ?_
          rintro e1 w5 ⟨rfl, rfl⟩
          clear HJO
          go_wp2_with fail
          go_ret3
          exact HE.out
        · have hnn : nxI (some m) = (m : Int) := rfl
          rw [hnn]
          have hd8 : decide ((m : Int) < 0) = false := decide_eq_false (by omega)
          have HE := Lib.hid ((FIN W3 J m 0).out HB4.out HRB.out)
          clear HRB FIN HO4 HB4 hnn hnx
          go_wp2_with fail
          refine HJO.out.mono ?_
          rintro e1 w5 ⟨rfl, rfl⟩
          clear HJO
          go_wp2_with fail
          go_ret3
          exact HE.out
      | true =>
        rw [if_neg (by decide)] at HRB
        by_cases hlast : N ≤ e + 1
        · have hd11 : decide ((N : Int) ≤ (e : Int) + 1) = true := decide_eq_true (by omega)
          rw [if_pos hlast] at HRB
          have HE := Lib.hid ((FIN W3 ⟨#[]⟩ 0 2).out HB4.out HRB.out)
          clear HRB FIN HO4 HB4
          go_wp2_with fail
          go_ret3
          exact HE.out
        · have hd11 : decide ((N : Int) ≤ (e : Int) + 1) = false := decide_eq_false (by omega)
          rw [if_neg hlast] at HRB
          obtain ⟨hc1, hc2, hrow⟩ := HBI.out
          have hcm : cap ≤ 9223372036854775807 := by unfold maxLen at hc2; omega
          rcases hrow with h0 | ⟨x, rfl, hcells⟩
          · rw [HN.out] at h0; omega
          have he1 : e < bs.length := by rw [HN.out]; exact hk3
          have he2 : e + 1 < bs.length := by rw [HN.out]; omega
          have hg1 : bs.getD e 0 = bs[e] := by rw [List.getD_eq_getElem?_getD, List.getElem?_eq_getElem he1]; rfl
          have hg2 : bs.getD (e + 1) 0 = bs[e + 1] := by rw [List.getD_eq_getElem?_getD, List.getElem?_eq_getElem he2]; rfl
          have h192 := HK4.out rfl
          have HTO : Hid (toAt bs e = (bs[e].toNat - 192) * 256 + bs[e + 1].toNat) := Lib.hid (by unfold toAt; rw [hg1, hg2])
          rw [hg1] at h192
          have hu1 := bs[e].toNat_lt
          have hu2 := bs[e + 1].toNat_lt
          have CK : Hid (W3.drew.cell? (x.add e) = some (.int .u8 ((bs[e].toNat : Nat) : Int)) ∧ W3.drew.cell? (x.add (e + 1)) = some (.int .u8 ((bs[e + 1].toNat : Nat) : Int))) := Lib.hid ⟨(HB4.out.cell (p := x.add e) (World.block_lt_of_cell? w _ (hcells e he1))).trans (hcells e he1), (HB4.out.cell (p := x.add (e + 1)) (World.block_lt_of_cell? w _ (hcells (e + 1) he2))).trans (hcells (e + 1) he2)⟩
          generalize bs[e].toNat = q1 at *
          generalize bs[e + 1].toNat = q2 at *
          generalize toAt bs e = T at *
          have hT : T ≤ 16383 := by rw [HTO.out]; omega
          have HTI : Hid (((q1 : Int) - 192) * 256 + (q2 : Int) = (T : Int)) := Lib.hid (by rw [HTO.out]; omega)
          clear hg1 hg2 he1 he2 hcells HK4 HTO hc1 hc2
          have hw1 : IntKind.i64.wrap ((e : Int) + 1) = (e : Int) + 1 := by rw [IntKind.wrap_i64]; omega
          have hw2 : IntKind.i64.wrap ((q1 : Int) - 192) = (q1 : Int) - 192 := by rw [IntKind.wrap_i64]; omega
          have hw3 : IntKind.i64.wrap (((q1 : Int) - 192) * 256) = ((q1 : Int) - 192) * 256 := by rw [IntKind.wrap_i64]; omega
          have hw4 : IntKind.i64.wrap (((q1 : Int) - 192) * 256 + (q2 : Int)) = ((q1 : Int) - 192) * 256 + (q2 : Int) := by rw [IntKind.wrap_i64]; omega
          have hb1 : (0 : Int) ≤ (e : Int) := by omega
          have hb2 : (e : Int) < (N : Int) := by omega
          have hb3 : (0 : Int) ≤ (e : Int) + 1 := by omega
          have hb4 : (e : Int) + 1 < (N : Int) := by omega
          go_upto_region 13 with fail
          obtain ⟨S, hS⟩ : ∃ S : World → Prop, (fun W => W.cell? (x.add e) = some (.int .u8 ((q1 : Nat) : Int)) ∧ W.cell? (x.add (e + 1)) = some (.int .u8 ((q2 : Nat) : Int)) ∧ W = W3.drew) = S := ⟨_, rfl⟩
          have C1 : Hid (∀ w', S w' → w'.cell? (x.add e) = some (.int .u8 ((q1 : Nat) : Int))) := Lib.hid (fun w' h => by rw [← hS] at h; exact h.1)
          have C2 : Hid (∀ w', S w' → w'.cell? ⟨x.block, x.off + (e + 1), none⟩ = some (.int .u8 ((q2 : Nat) : Int))) := Lib.hid (fun w' h => by rw [← hS] at h; have := h.2.1; rwa [show x.add (e + 1) = ⟨x.block, x.off + (e + 1), none⟩ from by simp [Addr.add]] at this)
          have HSS : Hid (S W3.drew) := Lib.hid (by rw [← hS]; exact ⟨CK.out.1, CK.out.2, rfl⟩)
          clear hS CK
          refine wp_region_noPanic ?_
          refine wp_region_held_drew (S := S) (by kernel_rfl) HSS.out (fun hHeld => ?_)
          refine wpAnyH_take (i := 0) (v := ?_) rfl (by kernel_rfl) (by kernel_rfl) (by kernel_rfl) (fun _ _ _ h => h) (Or.inl ⟨by rfl, ?_⟩) (by assumption) ?_
          rotate_left
          · (intro w hSw; go_simp; try (with_reducible rfl))
          try simp only [Act.put, List.getElem_toArray, List.getElem_cons_zero, List.setIfInBounds_toArray, List.set_cons_zero, List.set_cons_succ]
          refine wpAnyH_take (i := 1) (v := ?_) rfl (by kernel_rfl) (by kernel_rfl) (by kernel_rfl) (fun _ _ _ h => h) (Or.inl ⟨by rfl, ?_⟩) (by assumption) ?_
          rotate_left
          · (intro w hSw; go_simp; try (with_reducible rfl))
          try simp only [Act.put, List.getElem_toArray, List.getElem_cons_zero, List.getElem_cons_succ, List.setIfInBounds_toArray, List.set_cons_zero, List.set_cons_succ]
          refine wpAnyH_take (i := 2) (v := ?_) rfl (by kernel_rfl) (by kernel_rfl) (by kernel_rfl) (fun _ _ _ h => h) (Or.inl ⟨by rfl, ?_⟩) (by assumption) ?_
          rotate_left
          · (intro w hSw; go_simp; try (with_reducible rfl))
          try simp only [Act.put, List.getElem_toArray, List.getElem_cons_zero, List.getElem_cons_succ, List.setIfInBounds_toArray, List.set_cons_zero, List.set_cons_succ]
          refine wpAnyH_take (i := 3) (v := ?_) rfl (by kernel_rfl) (by kernel_rfl) (by kernel_rfl) (fun _ _ _ h => h) (Or.inl ⟨by rfl, ?_⟩) (by assumption) ?_
          rotate_left
          · (intro w hSw; have hc0 := C1.out w hSw; go_simp; try (with_reducible rfl))
          try simp only [Act.put, List.getElem_toArray, List.getElem_cons_zero, List.getElem_cons_succ, List.setIfInBounds_toArray, List.set_cons_zero, List.set_cons_succ]
          refine wpAnyH_take (i := 4) (v := ?_) rfl (by kernel_rfl) (by kernel_rfl) (by kernel_rfl) (fun _ _ _ h => h) (Or.inl ⟨by rfl, ?_⟩) (by assumption) ?_
          rotate_left
          · (intro w hSw; go_simp; try (with_reducible rfl))
          try simp only [Act.put, List.getElem_toArray, List.getElem_cons_zero, List.getElem_cons_succ, List.setIfInBounds_toArray, List.set_cons_zero, List.set_cons_succ]
          refine wpAnyH_take (i := 5) (v := ?_) rfl (by kernel_rfl) (by kernel_rfl) (by kernel_rfl) (fun _ _ _ h => h) (Or.inl ⟨by rfl, ?_⟩) (by assumption) ?_
          rotate_left
          · (intro w hSw; go_simp; try (with_reducible rfl))
          try simp only [Act.put, List.getElem_toArray, List.getElem_cons_zero, List.getElem_cons_succ, List.setIfInBounds_toArray, List.set_cons_zero, List.set_cons_succ]
          refine wpAnyH_take (i := 6) (v := ?_) rfl (by kernel_rfl) (by kernel_rfl) (by kernel_rfl) (fun _ _ _ h => h) (Or.inl ⟨by rfl, ?_⟩) (by assumption) ?_
          rotate_left
          · (intro w hSw; go_simp; try (with_reducible rfl))
          try simp only [Act.put, List.getElem_toArray, List.getElem_cons_zero, List.getElem_cons_succ, List.setIfInBounds_toArray, List.set_cons_zero, List.set_cons_succ]
          refine wpAnyH_take (i := 7) (v := ?_) rfl (by kernel_rfl) (by kernel_rfl) (by kernel_rfl) (fun _ _ _ h => h) (Or.inl ⟨by rfl, ?_⟩) (by assumption) ?_
          rotate_left
          · (intro w hSw; go_simp; try (with_reducible rfl))
          try simp only [Act.put, List.getElem_toArray, List.getElem_cons_zero, List.getElem_cons_succ, List.setIfInBounds_toArray, List.set_cons_zero, List.set_cons_succ]
          refine wpAnyH_take (i := 8) (v := ?_) rfl (by kernel_rfl) (by kernel_rfl) (by kernel_rfl) (fun _ _ _ h => h) (Or.inl ⟨by rfl, ?_⟩) (by assumption) ?_
          rotate_left
          · (intro w hSw; go_simp; try (with_reducible rfl))
          try simp only [Act.put, List.getElem_toArray, List.getElem_cons_zero, List.getElem_cons_succ, List.setIfInBounds_toArray, List.set_cons_zero, List.set_cons_succ]
          refine wpAnyH_take (i := 9) (v := ?_) rfl (by kernel_rfl) (by kernel_rfl) (by kernel_rfl) (fun _ _ _ h => h) (Or.inl ⟨by rfl, ?_⟩) (by assumption) ?_
          rotate_left
          · (intro w hSw; go_simp; try (with_reducible rfl))
          try simp only [Act.put, List.getElem_toArray, List.getElem_cons_zero, List.getElem_cons_succ, List.setIfInBounds_toArray, List.set_cons_zero, List.set_cons_succ]
          refine wpAnyH_take (i := 10) (v := ?_) rfl (by kernel_rfl) (by kernel_rfl) (by kernel_rfl) (fun _ _ _ h => h) (Or.inl ⟨by rfl, ?_⟩) (by assumption) ?_
          rotate_left
          · (intro w hSw; go_simp; try (with_reducible rfl))
          try simp only [Act.put, List.getElem_toArray, List.getElem_cons_zero, List.getElem_cons_succ, List.setIfInBounds_toArray, List.set_cons_zero, List.set_cons_succ]
          refine wpAnyH_take (i := 11) (v := ?_) rfl (by kernel_rfl) (by kernel_rfl) (by kernel_rfl) (fun _ _ _ h => h) (Or.inl ⟨by rfl, ?_⟩) (by assumption) ?_
          rotate_left
          · (intro w hSw; have hc0 := C2.out w hSw; go_simp; try (with_reducible rfl))
          try simp only [Act.put, List.getElem_toArray, List.getElem_cons_zero, List.getElem_cons_succ, List.setIfInBounds_toArray, List.set_cons_zero, List.set_cons_succ]
          refine wpAnyH_take (i := 12) (v := ?_) rfl (by kernel_rfl) (by kernel_rfl) (by kernel_rfl) (fun _ _ _ h => h) (Or.inl ⟨by rfl, ?_⟩) (by assumption) ?_
          rotate_left
          · (intro w hSw; go_simp; try (with_reducible rfl))
          try simp only [Act.put, List.getElem_toArray, List.getElem_cons_zero, List.getElem_cons_succ, List.setIfInBounds_toArray, List.set_cons_zero, List.set_cons_succ]
          refine wpAnyH_take (i := 13) (v := ?_) rfl (by kernel_rfl) (by kernel_rfl) (by kernel_rfl) (fun _ _ _ h => h) (Or.inl ⟨by rfl, ?_⟩) (by assumption) ?_
          rotate_left
          · (intro w hSw; go_simp; try (with_reducible rfl))
          try simp only [Act.put, List.getElem_toArray, List.getElem_cons_zero, List.getElem_cons_succ, List.setIfInBounds_toArray, List.set_cons_zero, List.set_cons_succ]
          refine wpAnyH_take (i := 14) (v := ?_) rfl (by kernel_rfl) (by kernel_rfl) (by kernel_rfl) (fun _ _ _ h => h) (Or.inl ⟨by rfl, ?_⟩) (by assumption) ?_
          rotate_left
          · (intro w hSw; go_simp; try (with_reducible rfl))
          try simp only [Act.put, List.getElem_toArray, List.getElem_cons_zero, List.getElem_cons_succ, List.setIfInBounds_toArray, List.set_cons_zero, List.set_cons_succ]
          refine wpAnyH_done (by kernel_rfl) ?_ _
          refine NoPanic.normal ?_
          have HB5 : Hid (Below w.heap.size w W3.drew) := Lib.hid HB4.out.drew
          have HO5 : Hid (W3.drew.ownsRow w.heap.size 9 1 v3 l3.length (l3.map Value.string)) := HO4
          clear HO4 HB4 hHeld HSS C1 C2
          generalize W3.drew = V at *
          have hq1w : IntKind.i64.wrap (q1 : Int) = (q1 : Int) := by rw [IntKind.wrap_i64]; omega
          have hq2w : IntKind.i64.wrap (q2 : Int) = (q2 : Int) := by rw [IntKind.wrap_i64]; omega
          have hwT : IntKind.i64.wrap (T : Int) = (T : Int) := by rw [IntKind.wrap_i64]; omega
          simp only [hq1w, hq2w, hw2, hw3, HTI.out, hwT]
          clear hw1 hw2 hw3 hw4 HTI hq1w hq2w hwT
          by_cases hto : i ≤ T
          · have hd16 : decide ((i : Int) ≤ (T : Int)) = true := decide_eq_true (by omega)
            have hd16n : decide (i ≤ T) = true := decide_eq_true hto
            rw [if_pos hto] at HRB
            have HE := Lib.hid ((FIN V ⟨#[]⟩ 0 2).out HB5.out HRB.out)
            clear HRB FIN HO5 HB5
            rcases nx with _ | m
            · have hnn : nxI none = -1 := rfl
              rw [hnn]
              clear hnn hnx
              go_wp2_with fail
              go_ret3
              exact HE.out
            · have hnn : nxI (some m) = (m : Int) := rfl
              rw [hnn]
              have hd8 : decide ((m : Int) < 0) = false := decide_eq_false (by omega)
              clear hnn hnx
              go_wp2_with fail
              go_ret3
              exact HE.out
          · have hd16 : decide ((i : Int) ≤ (T : Int)) = false := decide_eq_false (by omega)
            have hd16n : decide (i ≤ T) = false := decide_eq_false hto
            rw [if_neg hto] at HRB
            have HRR := Lib.hid HRB.out.symm
            clear HRB FIN
            rcases nx with _ | m
            · have hnn : nxI none = -1 := rfl
              rw [hnn]
              clear hnn hnx HNX
              go_wp2_with fail
              go_roundw
              case rel => exact ⟨T, f, l3, v3, some (e + 2), by omega, by omega, rfl, rfl, by show _ = Value.int .i64 (((e + 2 : Nat) : Nat) : Int); congr 1, by show (((e + 2 : Nat) : Nat) : Int) ≤ _; omega, Lib.hid (by show (-1 : Int) ≤ (((e + 2 : Nat) : Nat) : Int); omega), HSZ2, HRR, HO5, HB5⟩
              case measure => simp [intOf]; omega
            · have hnn : nxI (some m) = (m : Int) := rfl
              rw [hnn] at hnx ⊢
              have hd8 : decide ((m : Int) < 0) = false := decide_eq_false (by omega)
              clear hnn
              go_wp2_with fail
              go_roundw
              case rel => exact ⟨T, f, l3, v3, some m, by omega, by omega, rfl, rfl, rfl, hnx, HNX, HSZ2, HRR, HO5, HB5⟩
              case measure => simp [intOf]; omega
    · have hern : (er != 0) = true := by rw [bne_iff_ne]; exact her
      rw [if_pos her] at HRB
      have HE := Lib.hid ((FIN w3 ⟨#[]⟩ 0 er).out HB3.out HRB.out)
      clear HRB FIN HO2 HO3 HB3 HOK HAP
      go_wp2_with fail
      go_ret3
      exact HE.out
end Go.Proofs.Ytbeoapfbddcpcaa
/- Contract of the landed Read. -/
namespace Go.Proofs.Ytbeoapfbddcpcaa
open Go.RowKit
set_option linter.unusedVariables false
set_option maxRecDepth 20000

/-- strings.Join of a row of one's own. -/
theorem joinS_own {w : World} {B : Nat} {v : Value} {l : List ByteArray} (h : w.ownsRow B 9 1 v l.length (l.map Value.string)) (hz : sizeL l ≤ 255) :
    Calls Try.prog 43 #[v, .string ⟨#[46]⟩] w fun e w' => e = .returned (.string (joinB l ⟨#[46]⟩)) ∧ Below w.heap.size w w' := by
  have hsp := sizeL_pos l
  by_cases h0 : 0 < l.length
  · obtain ⟨g, c, rfl, hg, hr⟩ := own_row h h0
    have hj := joinB_data l
    have := Try.strings_Join g 0 c l ⟨#[46]⟩ w (fun j x hx => by
      have hj : j < l.length := (List.getElem?_eq_some_iff.1 hx).1
      rw [Nat.zero_add, hr.cells j hj, List.getD_eq_getElem?_getD, hx]
      rfl) hr.lt (by omega) hr.cap (by
      rw [show (⟨#[46]⟩ : ByteArray).data.toList = [46] from rfl, ← hj, data_size]
      have := joinB_size l
      omega)
    rw [show (⟨#[46]⟩ : ByteArray).data.toList = [46] from rfl, ← hj] at this
    exact this
  · obtain rfl : l = [] := List.eq_nil_of_length_eq_zero (by omega)
    obtain ⟨a, c, rfl, _⟩ := own_RowS h
    refine (Try.strings_Join_none a c ⟨#[46]⟩ w).mono ?_
    rintro e w' ⟨rfl, rfl⟩
    exact ⟨rfl, Below.refl _ _⟩
def nxJ : Option Nat → Int
  | none => 0
  | some n => (n : Int)
set_option maxRecDepth 100000 in
set_option maxHeartbeats 4000000 in
theorem read_any (a : Option Addr) (cap : Nat) (bs : List UInt8) (at0 : Nat) (w : World) (hB : BytesIn w a cap bs) (hat : at0 ≤ bs.length) (hbl : bs.length ≤ 100000) :
    Calls Try.prog 26 #[.slice a bs.length cap, .int .i64 (at0 : Int)] w fun e w' => e = .returned (.tuple #[.string (readB bs (at0 + 1) at0 [] none).1, .int .i64 (((readB bs (at0 + 1) at0 [] none).2.1 : Nat) : Int), .int .i64 (readB bs (at0 + 1) at0 [] none).2.2]) ∧ Below w.heap.size w w' := by
  have HBI := Lib.hid hB
  have HR0 := Lib.hid (RdSt.start bs at0)
  obtain ⟨i0, hi0, hz0, hz1, hz2⟩ := info_parts Try.infoString
  generalize readB bs (at0 + 1) at0 [] none = R at *
  obtain ⟨N, hN⟩ : ∃ N, bs.length = N := ⟨_, rfl⟩
  have HN := Lib.hid hN
  have hcl := hB.1
  have hcm : cap ≤ 9223372036854775807 := by have := hB.2.1; unfold maxLen at this; omega
  rw [hN] at hat hbl hcl ⊢
  clear hB hN
  have FIN : ∀ (wr : World) (s : ByteArray) (nx : Nat) (er : Int), Hid (Below w.heap.size w wr → R = (s, nx, er) → (Ending.returned (.tuple #[.string s, .int .i64 (nx : Int), .int .i64 er]) = Ending.returned (.tuple #[.string R.1, .int .i64 ((R.2.1 : Nat) : Int), .int .i64 R.2.2]) ∧ Below w.heap.size w wr)) := fun wr s nx er => Lib.hid (fun h1 h2 => by
    rw [h2]; exact ⟨rfl, h1⟩)
  go_enter Try.func26, Try.ntmps26
  go_wp2_with fail
  go_step3
  go_wp2_with fail
  go_step3
  go_wp2_with fail
  go_loopw [1, 7, 8, 9, 10] (fun s1 s7 s8 s9 s10 wr => ∃ (i b : Nat) (l : List ByteArray) (v : Value) (nx : Option Nat), i ≤ N ∧ b ≤ N ∧ v = s7 ∧ s1 = .int .i64 (i : Int) ∧ s8 = .int .i64 ((sizeL l : Nat) : Int) ∧ s9 = .int .i64 (b : Int) ∧ s10 = .int .i64 (nxJ nx) ∧ Hid (∀ m, nx = some m → 1 ≤ m ∧ m ≤ N) ∧ Hid (RdSt bs R i b l nx) ∧ Hid (wr.ownsRow w.heap.size 9 1 v l.length (l.map Value.string)) ∧ Hid (Below w.heap.size w wr)) (fun s1 _ _ s9 _ _ => (intOf s9).toNat * (N + 2) + (N + 1 - (intOf s1).toNat))
  case atStart => exact ⟨at0, at0, [], _, none, hat, hat, rfl, rfl, rfl, rfl, rfl, Lib.hid (fun m h => by cases h), HR0, Lib.hid (World.ownsRow_nil _ _ _ _), Lib.hid (Below.refl _ _)⟩
  case round =>
    clear HR0
    obtain ⟨i, b, l, v, nx, hi, hbN, rfl, rfl, rfl, rfl, rfl, HNX, HST, HO, HB⟩ := hrel
    have hsz := HST.out.small
    have hsp := sizeL_pos l
    have hd0 : decide ((i : Int) < 0) = false := decide_eq_false (by omega)
    have hwz := HB.out.size
    by_cases hiN : N ≤ i
    · have hd : decide ((N : Int) ≤ (i : Int)) = true := decide_eq_true (by omega)
      have hdn : decide (N ≤ i) = true := decide_eq_true hiN
      have HE := Lib.hid ((FIN wr ⟨#[]⟩ 0 2).out HB.out (HST.out.out (by rw [HN.out]; exact hiN)))
      clear HST HO HB FIN HNX
      generalize sizeL l = z at *
      go_wp2_with fail
      try rw [Exit.noGoto_ret]
      go_ret3
      exact HE.out
    · have hd : decide ((N : Int) ≤ (i : Int)) = false := decide_eq_false (by omega)
      have hdn : decide (N ≤ i) = false := decide_eq_false hiN
      obtain ⟨_, hcm0, hrow⟩ := HBI.out
      rcases hrow with h0 | ⟨x, rfl, hcells⟩
      · rw [HN.out] at h0; omega
      have hib : i < bs.length := by rw [HN.out]; omega
      have hcw := hcells i hib
      have hgd : bs.getD i 0 = bs[i] := by rw [List.getD_eq_getElem?_getD, List.getElem?_eq_getElem hib]; rfl
      have HCK : Hid (∀ j (h : j < bs.length), wr.cell? (x.add j) = some (.int .u8 ((bs[j].toNat : Nat) : Int))) := Lib.hid (fun j hj => by rw [HB.out.cell (p := x.add j) (World.block_lt_of_cell? w _ (hcells j hj))]; exact hcells j hj)
      have hcell := HCK.out i hib
      have hu := bs[i].toNat_lt
      obtain ⟨n, hn⟩ : ∃ n, bs[i].toNat = n := ⟨_, rfl⟩
      have HGD : Hid ((bs.getD i 0).toNat = n) := Lib.hid (by rw [hgd, hn])
      have HGE : Hid ((bs.drop i).getD 0 0 = bs.getD i 0) := Lib.hid (by rw [List.getD_eq_getElem?_getD, List.getElem?_drop, Nat.add_zero, ← List.getD_eq_getElem?_getD])
      have HDL : Hid ((bs.drop i).length = N - i) := Lib.hid (by rw [List.length_drop, HN.out])
      rw [hn] at hcell hu
      have hb1 : (0 : Int) ≤ (i : Int) := by omega
      have hb2 : (i : Int) < (N : Int) := by omega
      have hib2 : i < N := by omega
      have hnw : IntKind.i64.wrap (n : Int) = (n : Int) := by rw [IntKind.wrap_i64]; omega
      clear hcw hgd hcells hn
      by_cases hn0 : n = 0
      · have HRR := Lib.hid (HST.out.zero hib (by rw [HGD.out]; exact hn0))
        have HJO := Lib.hid (joinS_own HO.out HST.out.small)
        subst hn0
        generalize sizeL l = z at *
        generalize joinB l ⟨#[46]⟩ = J at *
        have hwi : IntKind.i64.wrap ((i : Int) + 1) = (i : Int) + 1 := by rw [IntKind.wrap_i64]; omega
        rcases nx with _ | m
        · have hnn : nxJ none = 0 := rfl
          rw [hnn]
          have HE := fun W => Lib.hid ((FIN W J (i + 1) 0).out)
          have hcast : (((i + 1 : Nat) : Nat) : Int) = (i : Int) + 1 := by omega
          rw [hcast] at HE
          clear FIN HST hnn HNX HCK hcast
          go_wp2_with fail
          refine HJO.out.mono ?_
          rintro e w5 ⟨rfl, hb5⟩
          have HB5 := Lib.hid (chain HB.out hb5)
          clear HJO hb5
          go_wp2_with fail
          try rw [Exit.noGoto_ret]
          go_ret3
          exact (HE _).out HB5.out HRR.out
        · have hnn : nxJ (some m) = (m : Int) := rfl
          rw [hnn]
          have hm := HNX.out m rfl
          have he10 : ((m : Int) == 0) = false := by rw [beq_eq_false_iff_ne]; omega
          have HE := fun W => Lib.hid ((FIN W J m 0).out)
          clear FIN HST hnn HNX HCK
          go_wp2_with fail
          refine HJO.out.mono ?_
          rintro e w5 ⟨rfl, hb5⟩
          have HB5 := Lib.hid (chain HB.out hb5)
          clear HJO hb5
          go_wp2_with fail
          try rw [Exit.noGoto_ret]
          go_ret3
          exact (HE _).out HB5.out HRR.out
      · have he0 : ((n : Int) == 0) = false := by rw [beq_eq_false_iff_ne]; omega
        by_cases h63 : n ≤ 63
        · have hd63 : decide ((n : Int) ≤ 63) = true := decide_eq_true (by omega)
          have hd63n : decide (n ≤ 63) = true := decide_eq_true h63
          have HLO := Lib.hid (labelOf_any (x.add i) (bs.drop i) (cap - i) wr (by rw [HDL.out]; omega) (by omega) (by rw [HDL.out]; omega) (fun j hj => by
            have hj2 : i + j < bs.length := by rw [HDL.out] at hj; rw [HN.out]; omega
            rw [add_add, HCK.out (i + j) hj2, List.getElem_drop]))
          have HLB : Hid (labOf (bs.drop i) = if N - i < 1 + n then (⟨#[]⟩, false) else (ownAt bs i n, !has8 (ownAt bs i n) 46)) := Lib.hid (by
            unfold labOf
            rw [HDL.out, HGE.out, HGD.out]
            have e : ownAt (bs.drop i) 0 n = ownAt bs i n := by
              unfold ownAt
              rw [List.drop_drop]
            rw [e])
          rw [HDL.out] at HLO
          have hck : ¬ cap = i := by omega
          have hck2 : ¬ i = cap := by omega
          have hcs : i ≤ cap := by omega
          have hb3 : (i : Int) ≤ (N : Int) := by omega
          have hib3 : i ≤ N := by omega
          by_cases hshort : N < i + 1 + n
          · have HRR := HST.out.short hib (by rw [HGD.out]; exact hn0) (by rw [HGD.out]; exact h63) (by rw [HGD.out, HN.out]; exact hshort)
            have HE := Lib.hid ((FIN wr ⟨#[]⟩ 0 2).out HB.out HRR)
            rw [show labOf (bs.drop i) = (⟨#[]⟩, false) by rw [HLB.out, if_pos (by omega)]] at HLO
            clear HLB HRR FIN HST HNX HCK
            generalize sizeL l = z at *
            go_wp2_with fail
            refine HLO.out.mono ?_
            rintro e w2 ⟨rfl, rfl⟩
            clear HLO
            go_wp2_with fail
            try rw [Exit.noGoto_ret]
            go_ret3
            exact HE.out
          · have HOA := HLB.out
            rw [if_neg (by omega)] at HOA
            rw [HOA] at HLO
            have hos : (ownAt bs i n).size = n := ownAt_size (by rw [HN.out]; omega)
            cases hhas : has8 (ownAt bs i n) 46 with
            | true =>
              have HRR := HST.out.dot hib (by rw [HGD.out]; exact hn0) (by rw [HGD.out]; exact h63) (by rw [HGD.out, HN.out]; omega) (by rw [HGD.out]; exact hhas)
              have HE := Lib.hid ((FIN wr ⟨#[]⟩ 0 2).out HB.out HRR)
              rw [hhas] at HLO
              generalize ownAt bs i n = own at *
              clear HLB HRR FIN HST HNX HCK HOA hhas
              generalize sizeL l = z at *
              go_wp2_with fail
              refine HLO.out.mono ?_
              rintro e w2 ⟨rfl, rfl⟩
              clear HLO
              go_wp2_with fail
              try rw [Exit.noGoto_ret]
              go_ret3
              exact HE.out
            | false =>
              rw [hhas] at HLO
              have hzs := size_snoc l (ownAt bs i n)
              have HLONG := Lib.hid (HST.out.long hib (by rw [HGD.out]; exact hn0) (by rw [HGD.out]; exact h63) (by rw [HGD.out, HN.out]; omega) (by rw [HGD.out]; exact hhas))
              have HLAB := Lib.hid (HST.out.lab hib (by rw [HGD.out]; exact hn0) (by rw [HGD.out]; exact h63) (by rw [HGD.out, HN.out]; omega) (by rw [HGD.out]; exact hhas))
              rw [HGD.out] at HLONG HLAB
              have hO2 : l.length ≤ 255 := by omega
              generalize ownAt bs i n = own at *
              clear HLB HST HCK HOA hhas
              by_cases hz255 : 255 < sizeL l + 1 + n
              · have HE := Lib.hid ((FIN wr ⟨#[]⟩ 0 3).out HB.out (HLONG.out (by omega)))
                clear HLONG HLAB FIN HNX hzs
                generalize sizeL l = z at *
                have hd5 : decide (255 < (z : Int) + (1 + (n : Int))) = true := decide_eq_true (by omega)
                go_wp2_with fail
                refine HLO.out.mono ?_
                rintro e w2 ⟨rfl, rfl⟩
                clear HLO
                go_wp2_with fail
                try rw [Exit.noGoto_ret]
                go_ret3
                exact HE.out
              · have HST2 := Lib.hid (HLAB.out (by omega))
                clear HLONG HLAB FIN
                have HZ : Hid (sizeL (l ++ [own]) = sizeL l + 1 + n) := Lib.hid (by rw [hzs, hos])
                clear hzs
                generalize sizeL l = z at *
                have hd5 : decide (255 < (z : Int) + (1 + (n : Int))) = false := decide_eq_false (by omega)
                go_wp2_with fail
                refine HLO.out.mono ?_
                rintro e w2 ⟨rfl, rfl⟩
                clear HLO
                have hown := HO.out
                have hbel := HB.out
                clear HO HB
                go_wp2_with (at_builtin; refine wpList_append_own _ rfl (.tmp 54) (.tmp 56) 29 rfl w.heap.size 9 i0 _ 1 16 Try.underlying29 hi0 hz0 hz1 hz2 rfl (by decide) _ _ _ rfl (hown.alloc _) ⟨w2.heap.size, 0, none⟩ 1 1 [.string own] rfl rfl ?c1 ?c2 ?c3 ?c4 ?c5 ?_)
                case c1 => exact cell_one_new _ _ _
                case c2 => intro u hu; simp at hu; subst hu; rfl
                case c3 => unfold maxLen; omega
                case c4 => omega
                case c5 => simp; omega
                intro v' w3 hown' hgrow _
                obtain ⟨R1, R2⟩ := own_snoc hown' hgrow hown hbel
                clear hown' hgrow hown hbel
                have HR1 := Lib.hid R1
                have HR2 := Lib.hid R2
                clear R1 R2
                generalize l ++ [own] = l2 at *
                go_wp2_with fail
                go_roundw
                case rel => exact ⟨i + 1 + n, b, l2, _, nx, by omega, hbN, rfl, by go_num, by rw [HZ.out]; go_num, rfl, rfl, HNX, HST2, HR1, HR2⟩
                case measure => simp [intOf]; omega
        · have hd63 : decide ((n : Int) ≤ 63) = false := decide_eq_false (by omega)
          have hd63n : decide (n ≤ 63) = false := decide_eq_false h63
          by_cases h192 : 192 ≤ n
          · have hd192 : decide (192 ≤ (n : Int)) = true := decide_eq_true (by omega)
            have hd192n : decide (192 ≤ n) = true := decide_eq_true h192
            have hck : ¬ cap = i := by omega
            have hck2 : ¬ i = cap := by omega
            have hcs : i ≤ cap := by omega
            have hb3 : (i : Int) ≤ (N : Int) := by omega
            have hib3 : i ≤ N := by omega
            by_cases hlast : N ≤ i + 1
            · have HRR := HST.out.ptr1 hib (by rw [HGD.out]; exact h192) (by rw [HN.out]; exact hlast)
              have HE := fun W => Lib.hid ((FIN W ⟨#[]⟩ 0 2).out)
              have HR3 := Lib.hid HRR
              have HPL := Lib.hid (placeOf_short (x.add i) (cap - i) (N - i) wr (by omega))
              clear HRR FIN HST HNX HCK
              generalize sizeL l = z at *
              go_wp2_with fail
              refine HPL.out.mono ?_
              rintro e w2 ⟨rfl, hb2⟩
              replace HB := Lib.hid (chain HB.out hb2)
              clear HPL hb2
              go_wp2_with fail
              try rw [Exit.noGoto_ret]
              go_ret3
              exact (HE _).out HB.out HR3.out
            · have hi1 : i + 1 < bs.length := by rw [HN.out]; omega
              have hu2 := bs[i + 1].toNat_lt
              have hc2 := HCK.out (i + 1) hi1
              have HTO : Hid (toAt bs i = (n - 192) * 256 + bs[i + 1].toNat) := Lib.hid (by
                unfold toAt
                rw [HGD.out, List.getD_eq_getElem?_getD, List.getElem?_eq_getElem hi1]
                rfl)
              generalize bs[i + 1].toNat = q2 at *
              have HPL := Lib.hid (placeOf_any (x.add i) (cap - i) (N - i) n q2 wr (by omega) (by omega) (by omega) h192 hu hu2 hcell (by rw [add_add]; exact hc2))
              rw [← HTO.out] at HPL
              have HP2 := Lib.hid (HST.out.ptr2 hib (by rw [HGD.out]; exact h192) hi1)
              have HP3 := Lib.hid (HST.out.ptr hib (by rw [HGD.out]; exact h192) hi1)
              have hT : toAt bs i ≤ 16383 := by rw [HTO.out]; omega
              generalize toAt bs i = T at *
              clear HTO HST HCK hc2
              by_cases hto : b ≤ T
              · have hd16 : decide ((b : Int) ≤ (T : Int)) = true := decide_eq_true (by omega)
                have hd16n : decide (b ≤ T) = true := decide_eq_true hto
                have HE := fun W => Lib.hid ((FIN W ⟨#[]⟩ 0 2).out)
                have HR3 := Lib.hid (HP2.out hto)
                clear FIN HP2 HP3 HNX
                generalize sizeL l = z at *
                go_wp2_with fail
                refine HPL.out.mono ?_
                rintro e w2 ⟨rfl, hb2⟩
                replace HB := Lib.hid (chain HB.out hb2)
                clear HPL hb2
                go_wp2_with fail
                try rw [Exit.noGoto_ret]
                go_ret3
                exact (HE _).out HB.out HR3.out
              · have hd16 : decide ((b : Int) ≤ (T : Int)) = false := decide_eq_false (by omega)
                have hd16n : decide (b ≤ T) = false := decide_eq_false hto
                have HST2 := Lib.hid (HP3.out (by omega))
                have hms := meas8 (T := T) (b := b) (N := N) (i := i) (by omega)
                clear FIN HP2 HP3
                obtain ⟨z, hzz⟩ : ∃ z, sizeL l = z := ⟨_, rfl⟩
                rw [hzz] at hsz hsp ⊢
                have HZ2 := Lib.hid hzz
                clear hzz
                have HO2 := fun W (hb : Below wr.heap.size wr W) => Lib.hid (own_below8 HO.out hb)
                rcases nx with _ | m
                · have hnn : nxJ none = 0 := rfl
                  rw [hnn]
                  clear hnn HNX HO
                  go_wp2_with fail
                  refine HPL.out.mono ?_
                  rintro e w2 ⟨rfl, hb2⟩
                  replace HB := Lib.hid (chain HB.out hb2)
                  replace HO2 := HO2 _ hb2
                  clear HPL hb2
                  go_wp2_with fail
                  go_roundw
                  case rel => exact ⟨T, T, l, v, some (i + 2), by omega, by omega, rfl, rfl, by rw [HZ2.out], rfl, by show _ = Value.int .i64 (((i + 2 : Nat) : Nat) : Int); congr 1, Lib.hid (fun m hm => by cases hm; omega), HST2, HO2, HB⟩
                  case measure => simp [intOf]; omega
                · have hnn : nxJ (some m) = (m : Int) := rfl
                  rw [hnn]
                  have hm := HNX.out m rfl
                  have he10 : ((m : Int) == 0) = false := by rw [beq_eq_false_iff_ne]; omega
                  clear hnn HO
                  go_wp2_with fail
                  refine HPL.out.mono ?_
                  rintro e w2 ⟨rfl, hb2⟩
                  replace HB := Lib.hid (chain HB.out hb2)
                  replace HO2 := HO2 _ hb2
                  clear HPL hb2
                  go_wp2_with fail
                  go_roundw
                  case rel => exact ⟨T, T, l, v, some m, by omega, by omega, rfl, rfl, by rw [HZ2.out], rfl, rfl, HNX, HST2, HO2, HB⟩
                  case measure => simp [intOf]; omega
          · have hd192 : decide (192 ≤ (n : Int)) = false := decide_eq_false (by omega)
            have hd192n : decide (192 ≤ n) = false := decide_eq_false h192
            have HRR := HST.out.bad hib (by rw [HGD.out]; omega) (by rw [HGD.out]; omega)
            have HE := Lib.hid ((FIN wr ⟨#[]⟩ 0 2).out HB.out HRR)
            clear HRR FIN HST HNX HCK
            generalize sizeL l = z at *
            go_wp2_with fail
            try rw [Exit.noGoto_ret]
            go_ret3
            exact HE.out
end Go.Proofs.Ytbeoapfbddcpcaa
/- What a thing of one's own may turn: the blocks of its footprint, and new ones. -/
namespace Go.Proofs.Ytbeoapfbddcpcaa
open Go.RowKit
set_option linter.unusedVariables false
set_option maxRecDepth 20000

/-- Nothing but the blocks of F has turned; F' holds such as were in F, and new ones. -/
structure Foot (F F' : List Nat) (w w' : World) : Prop where
  os : w'.os = w.os
  tape : w'.tape = w.tape
  output : w'.output = w.output
  size : w.heap.size ≤ w'.heap.size
  keep : ∀ k, k < w.heap.size → k ∉ F → w'.heap[k]? = w.heap[k]?
  new : ∀ k ∈ F', k ∈ F ∨ w.heap.size ≤ k
theorem Foot.ofBelow (F : List Nat) {w w' : World} (h : Below w.heap.size w w') : Foot F F w w' := ⟨h.os, h.tape, h.output, h.size, fun k hk _ => h.block k hk, fun k hk => .inl hk⟩
theorem Foot.trans {F F' F'' : List Nat} {a b c : World} (h : Foot F F' a b) (k : Foot F' F'' b c) : Foot F F'' a c :=
  ⟨k.os.trans h.os, k.tape.trans h.tape, k.output.trans h.output, Nat.le_trans h.size k.size, fun i hi hn => (k.keep i (Nat.lt_of_lt_of_le hi h.size) (fun e => by
    rcases h.new i e with e | e
    · exact hn e
    · omega)).trans (h.keep i hi hn), fun i hi => by
    rcases k.new i hi with e | e
    · exact h.new i e
    · exact .inr (Nat.le_trans h.size e)⟩
theorem Foot.below {F F' : List Nat} {w w' : World} {B : Nat} (h : Foot F F' w w') (hF : ∀ k ∈ F, B ≤ k) (hB : B ≤ w.heap.size) : Below B w w' :=
  ⟨h.os, h.tape, h.output, h.size, fun k hk => h.keep k (by omega) (fun e => by have := hF k e; omega)⟩
theorem Foot.out {F F' : List Nat} {w w' : World} (h : Foot F F' w w') {k : Nat} (hk : k < w.heap.size) (hn : k ∉ F) : k ∉ F' := fun e => by
  rcases h.new k e with e | e
  · exact hn e
  · omega
theorem range_foot {F F' : List Nat} {w w' : World} (h : Foot F F' w w') {G o : Nat} {cs : List Value} (hr : w.rangeAt G o cs) (hk : G < w.heap.size) (hn : G ∉ F) : w'.rangeAt G o cs := fun j u hu => by
  rw [World.cell?_of_block (w := w) (a := ⟨G, o + j, none⟩) (h.keep G hk hn)]; exact hr j u hu
/-- A row's block is none of the footprint's. -/
def NotIn (v : Value) (F : List Nat) : Prop := ∀ g, v.ownBlock = some g → g ∉ F
theorem Foot.wider {F F' K : List Nat} {w w' : World} (h : Foot F F' w w') (hk : ∀ k ∈ F, k ∈ K) : Foot K (F' ++ K) w w' :=
  ⟨h.os, h.tape, h.output, h.size, fun k hk2 hn => h.keep k hk2 (fun e => hn (hk k e)), fun k hk2 => by
    rcases List.mem_append.1 hk2 with e | e
    · rcases h.new k e with e | e
      · exact .inl (hk k e)
      · exact .inr e
    · exact .inl e⟩
/-- An append's footprint: the row's own block. -/
theorem Foot.ofGrown {w w' : World} {v v' : Value} (h : w.grownBy w' v.ownBlock) (hv : v'.ownBlock = v.ownBlock ∨ ∀ g, v'.ownBlock = some g → w.heap.size ≤ g) : Foot v.ownBlock.toList v'.ownBlock.toList w w' :=
  ⟨h.os, h.tape, h.output, h.size, fun k hk hn => h.block k hk (fun e => hn (by rw [← e]; simp)), fun k hk => by
    have hk2 : v'.ownBlock = some k := by simpa using hk
    rcases hv with e | e
    · exact .inl (by rw [← e, hk2]; simp)
    · exact .inr (e k hk2)⟩
end Go.Proofs.Ytbeoapfbddcpcaa
/- Appends to rows of one's own, with their footprints: bytes, texts, numbers; a text's bytes. -/
namespace Go.Proofs.Ytbeoapfbddcpcaa
open Go.RowKit
set_option linter.unusedVariables false
set_option maxRecDepth 20000

/-- Where a row lies when a text's bytes are behind it: where it lay, or in the newest block. -/
theorem text_block {P : Program} {w : World} {base : Nat} {t u ty e : TypeId} {i : TypeInfo} (ht : P.underlying t = some (.slice e)) (hu : P.underlying u = some .string) (hi : P.info? e = some i) (hz : i.zero = some (.int .u8 0)) (hsize : i.size = 1) (hby : i.bytes = 1)
    {v : Value} {n : Nat} {xs : List Value} (hown : w.ownsRow base e 1 v n xs) (s : ByteArray) (hn : n + s.size ≤ 1000000000) {v' : Value} {w' : World} (hr : (Builtin.append_ #[t, u] ty #[v, .string s]).run P w = .ok v' w') : v'.ownBlock = v.ownBlock ∨ v'.ownBlock = some w.heap.size := by
  have hxl : xs.length = n := by simpa using hown.1
  rcases hown.2 with ⟨rfl, rfl⟩ | ⟨g, cap, cur, rfl, hbg, hg, hnc, hcm, hcs, htake⟩
  · by_cases hm : s.size = 0
    · have hf := Lib.run_firstCells_string (P := P) w 1 s
      rw [hm] at hf
      have h2 : (Builtin.append_ #[t, u] ty #[.slice none 0 0, .string s]).run P w = .ok (.slice none 0 0) w := by
        simp [Builtin.append_, run_underlying ht, run_underlying hu, sizeOf, typeInfo, hi, hsize, Builtin.lenOf, hm, hf]
      rw [h2] at hr
      cases hr
      exact .inl rfl
    · have h2 := run_append_nil_string (P := P) w t u ty e i (.int .u8 0) ht hu hi hz s (by omega) (by omega) (by rw [hby]; omega)
      rw [h2] at hr
      cases hr
      exact .inr rfl
  · by_cases hroom : n + s.size ≤ cap
    · have hcs' : cur.size = cap := by simpa using hcs
      have h2 := Lib.run_append_room_string (P := P) w t u ty e i ht hu hi hsize g n cap cur hg s hroom (by omega)
      rw [h2] at hr
      cases hr
      exact .inl rfl
    · have holds : ∀ j u, xs[j]? = some u → w.cell? ((⟨g, 0, none⟩ : Addr).add j) = some u := hown.cells (g := g) rfl
      have h2 := Lib.run_append_grow_string (P := P) w t u ty e i (.int .u8 0) ht hu hi hz ⟨g, 0, none⟩ n cap xs (by rw [hsize]; simpa using hxl) holds s (by omega) (by omega) (by rw [hby]; exact growslice_fits (by omega) (by omega))
      rw [h2] at hr
      cases hr
      exact .inr rfl
/-- A text's bytes behind a row of bytes of one's own. -/
theorem wp_append_text {op : Oper} {a : Act} {w : World} {K : Act → World → Prop} {Q : Exit → Act → World → Prop} {B : Nat} {v : Value} {l : List UInt8} {s : ByteArray} (hown : Hid (w.ownsRow B 5 1 v l.length (bys l))) (hn : Hid (l.length + s.size ≤ 1000000000 ∧ B ≤ w.heap.size)) (sl x : Operand)
    (ho : op.op = .call { callee := .builtin .append, args := #[sl, x], argTypes := #[24, 9] }) (hs : a.eval sl = v) (hx : a.eval x = .string s)
    (h : ∀ v' w', Hid (w'.ownsRow B 5 1 v' (l ++ s.data.toList).length (bys (l ++ s.data.toList))) → Hid (w.grownBy w' v.ownBlock) → Hid (Foot v.ownBlock.toList v'.ownBlock.toList w w') → K (a.put op.dst v') w') : op.wp Try.prog a w K Q := by
  obtain ⟨i0, hi0, hz0, hz1, hz2⟩ := info_parts Try.infoByte
  obtain ⟨hn1, hn2⟩ := hn.out
  obtain ⟨v', w', hr, h2, h3, _⟩ := Lib.run_append_own_string (P := Try.prog) w B 24 9 op.type 5 i0 Try.underlying24 Try.underlying9 hi0 hz0 hz1 hz2 v l.length (bys l) hown.out s (by unfold maxLen; omega) (by omega) hn2
  have h5 := text_block Try.underlying24 Try.underlying9 hi0 hz0 hz1 hz2 hown.out s hn1 hr
  unfold Oper.wp execOp
  simp only [ho, resolve, invoke, builtin, Sem.run_bind, Sem.run_pure, Result.andThen_ok, List.map_toArray, List.map_cons, List.map_nil, hs, hx, hr]
  refine h v' w' (Lib.hid ?_) (Lib.hid h3) (Lib.hid (Foot.ofGrown h3 (h5.imp id (fun e g hg => by rw [e] at hg; cases hg; exact Nat.le_refl _))))
  have e1 : bys (l ++ s.data.toList) = bys l ++ Lib.strCells s := by simp [bys, Lib.strCells]
  have e2 : s.data.toList.length = s.size := Array.length_toList
  rw [e1, List.length_append, e2]
  exact h2
/-- Bytes that lie somewhere, behind a row of bytes of one's own. -/
theorem wp_append_bytes {op : Oper} {a : Act} {w : World} {K : Act → World → Prop} {Q : Exit → Act → World → Prop} {B G c : Nat} {v : Value} {l m : List UInt8} (hown : Hid (w.ownsRow B 5 1 v l.length (bys l))) (hm : Hid (∀ j u, (bys m)[j]? = some u → w.cell? ⟨G, j, none⟩ = some u)) (hn : Hid (l.length + m.length ≤ 1000000000 ∧ B ≤ w.heap.size)) (sl x : Operand)
    (ho : op.op = .call { callee := .builtin .append, args := #[sl, x], argTypes := #[24, 24] }) (hs : a.eval sl = v) (hx : a.eval x = .slice (some ⟨G, 0, none⟩) m.length c)
    (h : ∀ v' w', Hid (w'.ownsRow B 5 1 v' (l ++ m).length (bys (l ++ m))) → Hid (w.grownBy w' v.ownBlock) → Hid (Foot v.ownBlock.toList v'.ownBlock.toList w w') → K (a.put op.dst v') w') : op.wp Try.prog a w K Q := by
  obtain ⟨i0, hi0, hz0, hz1, hz2⟩ := info_parts Try.infoByte
  obtain ⟨hn1, hn2⟩ := hn.out
  obtain ⟨v', w', hr, h2, h3, _, h5⟩ := run_append_own_at (P := Try.prog) w B 24 op.type 5 i0 _ 1 1 Try.underlying24 hi0 hz0 hz1 hz2 rfl (by decide) v l.length (bys l) hown.out ⟨G, 0, none⟩ m.length c (bys m) (by rw [bys_length, Nat.mul_one]) (fun j u hu => by rw [add_none]; exact hm.out j u hu) (fun u hu => by
    obtain ⟨q, _, rfl⟩ := List.mem_map.1 hu
    rfl) (by unfold maxLen; omega) (by omega) hn2
  unfold Oper.wp execOp
  simp only [ho, resolve, invoke, builtin, Sem.run_bind, Sem.run_pure, Result.andThen_ok, List.map_toArray, List.map_cons, List.map_nil, hs, hx, hr]
  refine h v' w' (Lib.hid ?_) (Lib.hid h3) (Lib.hid (Foot.ofGrown h3 (h5.imp id (fun e g hg => by rw [e] at hg; cases hg; exact Nat.le_refl _))))
  have e1 : bys (l ++ m) = bys l ++ bys m := by simp [bys]
  rw [e1, List.length_append]
  exact h2
/-- A text behind a row of texts of one's own. -/
theorem wp_append_str {op : Oper} {a : Act} {w : World} {K : Act → World → Prop} {Q : Exit → Act → World → Prop} {B G c : Nat} {v : Value} {l : List ByteArray} {p : ByteArray} (hown : Hid (w.ownsRow B 9 1 v l.length (l.map Value.string))) (hm : Hid (w.cell? ⟨G, 0, none⟩ = some (.string p))) (hn : Hid (l.length ≤ 1000000 ∧ B ≤ w.heap.size)) (sl x : Operand)
    (ho : op.op = .call { callee := .builtin .append, args := #[sl, x], argTypes := #[29, 29] }) (hs : a.eval sl = v) (hx : a.eval x = .slice (some ⟨G, 0, none⟩) 1 c)
    (h : ∀ v' w', Hid (w'.ownsRow B 9 1 v' (l ++ [p]).length ((l ++ [p]).map Value.string)) → Hid (w.grownBy w' v.ownBlock) → Hid (Foot v.ownBlock.toList v'.ownBlock.toList w w') → K (a.put op.dst v') w') : op.wp Try.prog a w K Q := by
  obtain ⟨i0, hi0, hz0, hz1, hz2⟩ := info_parts Try.infoString
  obtain ⟨hn1, hn2⟩ := hn.out
  obtain ⟨v', w', hr, h2, h3, _, h5⟩ := run_append_own_at (P := Try.prog) w B 29 op.type 9 i0 _ 1 16 Try.underlying29 hi0 hz0 hz1 hz2 rfl (by decide) v l.length (l.map Value.string) hown.out ⟨G, 0, none⟩ 1 c [.string p] rfl (fun j u hu => by
      match j, hu with
      | 0, hu => rw [add_none, hm.out]; exact hu
      | j + 1, hu => simp at hu) (fun u hu => by rw [List.mem_singleton.1 hu]; rfl) (by unfold maxLen; omega) (by omega) hn2
  unfold Oper.wp execOp
  simp only [ho, resolve, invoke, builtin, Sem.run_bind, Sem.run_pure, Result.andThen_ok, List.map_toArray, List.map_cons, List.map_nil, hs, hx, hr]
  refine h v' w' (Lib.hid ?_) (Lib.hid h3) (Lib.hid (Foot.ofGrown h3 (h5.imp id (fun e g hg => by rw [e] at hg; cases hg; exact Nat.le_refl _))))
  simpa using h2
end Go.Proofs.Ytbeoapfbddcpcaa
/- Contract of the reference's find of layer 8. -/
namespace Go.Proofs.Ytbeoapfbddcpcaa
open Go.RowKit
set_option linter.unusedVariables false
set_option maxRecDepth 20000

/-- Numbers, ats cells. -/
def intsL (l : List Nat) : List Value := l.map fun n => Value.int .i64 ((n : Nat) : Int)
theorem Try.infoInt8 : (Try.prog.info? 3).map (fun i => (i.zero, i.size, i.bytes)) = some (some (.int .i64 0), 1, 8) := by kernel_rfl
/-- Where a name first began. -/
def find8 : List ByteArray → List Nat → ByteArray → Option Nat
  | n :: ns, a :: ats, x => if n = x then some a else find8 ns ats x
  | _, _, _ => none
theorem find8_at : ∀ (ns : List ByteArray) (ats : List Nat) (x : ByteArray) (k : Nat) (h : k < ns.length) (h2 : k < ats.length), ns[k] = x → (∀ j (hj : j < ns.length), j < k → ns[j] ≠ x) → find8 ns ats x = some ats[k]
  | [], _, _, _, h, _, _, _ => absurd h (by simp)
  | _ :: _, [], _, _, _, h2, _, _ => absurd h2 (by simp)
  | n :: ns, a :: ats, x, 0, _, _, he, _ => by unfold find8; rw [if_pos (show n = x from he)]; rfl
  | n :: ns, a :: ats, x, k + 1, h, h2, he, hn => by
    unfold find8
    rw [if_neg (show ¬ n = x from hn 0 (by simp) (by omega))]
    exact find8_at ns ats x k (by simpa using h) (by simpa using h2) he (fun j hj hk => hn (j + 1) (by simpa using hj) (by omega))
theorem find8_none : ∀ (ns : List ByteArray) (ats : List Nat) (x : ByteArray), (∀ j (hj : j < ns.length), ns[j] ≠ x) → find8 ns ats x = none
  | [], _, _, _ => by unfold find8; rfl
  | _ :: _, [], _, _ => by unfold find8; rfl
  | n :: ns, a :: ats, x, h => by
    unfold find8
    rw [if_neg (show ¬ n = x from h 0 (by simp))]
    exact find8_none ns ats x (fun j hj => h (j + 1) (by simpa using hj))
theorem find8_mem : ∀ (ns : List ByteArray) (ats : List Nat) (x : ByteArray) (n : Nat), find8 ns ats x = some n → n ∈ ats
  | [], _, _, _, h => by unfold find8 at h; cases h
  | _ :: _, [], _, _, h => by unfold find8 at h; cases h
  | m :: ns, a :: ats, x, n, h => by
    unfold find8 at h
    split at h
    · cases h; simp
    · exact List.mem_cons_of_mem _ (find8_mem ns ats x n h)
/-- A row of one's own of numbers, read. -/
theorem own_nums {w : World} {B : Nat} {v : Value} {l : List Nat} (h : w.ownsRow B 3 1 v l.length (intsL l)) : ∃ a c, v = .slice a l.length c ∧ (l.length = 0 ∨ ∃ g, a = some ⟨g, 0, none⟩ ∧ g < w.heap.size ∧ ∀ k (hk : k < l.length), w.cell? ⟨g, k, none⟩ = some (.int .i64 ((l[k] : Nat) : Int))) := by
  rcases h.2 with ⟨e1, e2⟩ | ⟨g, cap, cur, e1, e2, e3, e4, e5, e6, e7⟩
  · exact ⟨none, 0, by rw [e1, e2], .inl e2⟩
  · refine ⟨_, cap, e1, .inr ⟨g, rfl, ?_, fun k hk => ?_⟩⟩
    · apply Classical.byContradiction
      intro h
      rw [Array.getElem?_eq_none (by omega)] at e3
      cases e3
    · subst e1
      rw [World.ownsRow.cellAt h k (by omega)]
      unfold intsL
      simp [hk]
set_option maxRecDepth 100000 in
set_option maxHeartbeats 1000000 in
theorem refFind8_any (vB vN vA : Value) (ns : List ByteArray) (ats : List Nat) (x : ByteArray) (B B2 : Nat) (w : World) (hN : w.ownsRow B 9 1 vN ns.length (ns.map Value.string)) (hA : w.ownsRow B2 3 1 vA ats.length (intsL ats)) (hl : ats.length = ns.length) (hn : ns.length ≤ 1000000) (hsm : ∀ p ∈ ns, p.size ≤ 1000000) (hx : x.size ≤ 1000000) :
    Calls Try.prog 45 #[.agg #[vB, vN, vA], .string x] w fun e w' => e = .returned (.int .i64 (nxI (find8 ns ats x))) ∧ Below w.heap.size w w' := by
  obtain ⟨W, hW⟩ : ∃ W, w.alloc (.cells #[vB, vN, vA] 46) = W := ⟨_, rfl⟩
  have HB : Hid (Below w.heap.size w W) := Lib.hid (by rw [← hW]; exact (Below.refl _ _).alloc (Nat.le_refl _) _)
  have hc1 : W.cell? ⟨w.heap.size, 1, none⟩ = some vN := by rw [← hW, World.cell?_alloc_new]; rfl
  have hc2 : W.cell? ⟨w.heap.size, 2, none⟩ = some vA := by rw [← hW, World.cell?_alloc_new]; rfl
  obtain ⟨aN, cN, rfl, hrN⟩ := own_RowS (own_below8 hN HB.out)
  obtain ⟨aA, cA, rfl, hrA⟩ := own_nums (own_below8 hA HB.out)
  rw [hl] at hc2 hW ⊢
  have HRN := Lib.hid hrN
  have HRA := Lib.hid hrA
  have HSM := Lib.hid hsm
  have HLN := Lib.hid hl
  have HAT := Lib.hid (find8_at ns ats x)
  have HNO := Lib.hid (find8_none ns ats x)
  generalize find8 ns ats x = R at *
  obtain ⟨N, hNn⟩ : ∃ N, ns.length = N := ⟨_, rfl⟩
  have HNN := Lib.hid hNn
  rw [hNn] at hn hc1 hc2 hW ⊢
  clear hN hA hl hsm hrN hrA hNn
  go_enter Try.func45, Try.ntmps45
  go_upto_region 1 with fail
  first | rw [hW] | skip
  clear hW
  go_wp2_with fail
  go_loop [5] (fun i => ∃ k : Nat, k ≤ N ∧ i = .int .i64 (k : Int) ∧ Hid (∀ j (hj : j < ns.length), j < k → ns[j] ≠ x)) (fun i => N - (intOf i).toNat)
  case atStart => exact ⟨0, Nat.zero_le _, rfl, Lib.hid (fun j hj h => absurd h (by omega))⟩
  case round =>
    obtain ⟨k, hk, rfl, HO⟩ := hrel
    by_cases hkN : k < N
    · have hd : decide ((k : Int) < (N : Int)) = true := decide_eq_true (by omega)
      have hdn : decide (k < N) = true := decide_eq_true hkN
      have hkl : k < ns.length := by rw [HNN.out]; exact hkN
      have hka : k < ats.length := by rw [HLN.out]; exact hkl
      rcases HRN.out with hrow | h0
      · rcases hrow with ⟨_, _, h0⟩ | ⟨g, rfl, h⟩
        · rw [h0] at hkl; exact absurd hkl (by simp)
        rcases HRA.out with h0 | ⟨g2, rfl, _, h2⟩
        · omega
        have hcN := h.cells k hkl
        rw [List.getD_eq_getElem?_getD, List.getElem?_eq_getElem hkl] at hcN
        have hcA := h2 k hka
        have hz := HSM.out _ (List.getElem_mem hkl)
        have HAK : Hid (ns[k] = x → R = some ats[k]) := Lib.hid (fun e => HAT.out k hkl hka e HO.out)
        have HO2 : Hid (ns[k] ≠ x → ∀ j (hj : j < ns.length), j < k + 1 → ns[j] ≠ x) := Lib.hid (fun e j hj hjk => by
          by_cases h : j < k
          · exact HO.out j hj h
          · obtain rfl : j = k := by omega
            exact e)
        simp only [Option.getD_some] at hcN
        generalize ns[k] = p at *
        generalize ats[k] = q at *
        have hb1 : (0 : Int) ≤ (k : Int) := by omega
        have hb2 : (k : Int) < (N : Int) := by omega
        clear h h2 hkl hka HRN HRA HAT
        by_cases he : p = x
        · have hbe : (p.toList == x.toList) = true := by rw [he]; simp
          have ER := HAK.out he
          subst ER
          subst he
          clear HAK HO2 HO
          go_wp2_with fail
          go_ret
          exact ⟨rfl, HB.out⟩
        · have hbe : (p.toList == x.toList) = false := by
            rw [beq_eq_false_iff_ne]
            intro h
            rw [ByteArray.toList_eq, ByteArray.toList_eq] at h
            exact he (ByteArray.ext (Array.ext' h))
          have HO3 := Lib.hid (HO2.out he)
          clear HAK HO2 HO he
          go_wp2_with fail
          go_round
          case rel => exact ⟨k + 1, by omega, by go_num, HO3⟩
          case measure => simp [intOf]; omega
      · rw [h0] at hkl; exact absurd hkl (by simp)
    · obtain rfl : k = N := by omega
      have hd : decide ((k : Int) < (k : Int)) = false := by simp
      have ER := HNO.out (fun j hj => HO.out j hj (by rw [← HNN.out]; exact hj))
      subst ER
      clear HO HNO HAT HRN HRA
      go_wp2_with fail
      go_ret
      exact ⟨rfl, HB.out⟩
end Go.Proofs.Ytbeoapfbddcpcaa
/- The reference's Name of layer 8: what it tells; rows kept beside appends. -/
namespace Go.Proofs.Ytbeoapfbddcpcaa
open Go.RowKit
set_option linter.unusedVariables false
set_option maxRecDepth 20000

/-- What is written when a name is, from its i-th label on: the bytes, the names, their places. -/
def nm8 (s : ByteArray) (L : List ByteArray) : Nat → Nat → List UInt8 → List ByteArray → List Nat → List UInt8 × List ByteArray × List Nat
  | 0, _, l, ns, ats => (l, ns, ats)
  | f + 1, i, l, ns, ats =>
    if L.length ≤ i then (l ++ [0], ns, ats) else
    match find8 ns ats (restB s i) with
    | some n => (l ++ [UInt8.ofNat (192 + n / 256), UInt8.ofNat (n % 256)], ns, ats)
    | none => nm8 s L f (i + 1) (l ++ labL (L.getD i ⟨#[]⟩)) (if l.length < 16384 then ns ++ [restB s i] else ns) (if l.length < 16384 then ats ++ [l.length] else ats)
/-- A row of one's own stays where another block turned. -/
theorem own_kept {w w' : World} {B : Nat} {t : TypeId} {z : Nat} {v : Value} {n : Nat} {xs : List Value} (h : w.ownsRow B t z v n xs) (hk : ∀ g, v.ownBlock = some g → w'.heap[g]? = w.heap[g]?) : w'.ownsRow B t z v n xs := by
  obtain ⟨h1, h2⟩ := h
  refine ⟨h1, ?_⟩
  rcases h2 with h2 | ⟨g, cap, cur, e1, e2, e3, e4⟩
  · exact .inl h2
  · exact .inr ⟨g, cap, cur, e1, e2, (hk g (by rw [e1]; rfl)).trans e3, e4⟩
/-- Rows of other types lie in other blocks. -/
theorem own_types {w : World} {B B2 : Nat} {t t2 : TypeId} {z z2 : Nat} {v v2 : Value} {n n2 : Nat} {xs xs2 : List Value} (h : w.ownsRow B t z v n xs) (h2 : w.ownsRow B2 t2 z2 v2 n2 xs2) (ht : t ≠ t2) (g : Nat) (hg : v.ownBlock = some g) : v2.ownBlock ≠ some g := by
  intro hg2
  rcases h.2 with ⟨rfl, _⟩ | ⟨a, cap, cur, rfl, _, e3, _⟩
  · cases hg
  · rcases h2.2 with ⟨rfl, _⟩ | ⟨a2, cap2, cur2, rfl, _, e32, _⟩
    · cases hg2
    · cases hg
      cases hg2
      rw [e3] at e32
      cases e32
      exact ht rfl
theorem own_grown {w w' : World} {B B2 : Nat} {t t2 : TypeId} {z z2 : Nat} {v v2 : Value} {n n2 : Nat} {xs xs2 : List Value} (h : w.ownsRow B t z v n xs) (h2 : w.ownsRow B2 t2 z2 v2 n2 xs2) (ht : t ≠ t2) (hg : w.grownBy w' v.ownBlock) : w'.ownsRow B2 t2 z2 v2 n2 xs2 :=
  own_kept h2 (fun g hg2 => hg.block g (h2.lt g hg2).2 (fun e => own_types h h2 ht g e.symm hg2))
/-- The boxed W, and the three rows in it. -/
structure WBox (w : World) (b : Nat) (vB vN vA : Value) : Prop where
  c0 : w.cell? ⟨b, 0, none⟩ = some vB
  c1 : w.cell? ⟨b, 1, none⟩ = some vN
  c2 : w.cell? ⟨b, 2, none⟩ = some vA
  f0 : w.frozen? ⟨b, 0, none⟩ = false
  f1 : w.frozen? ⟨b, 1, none⟩ = false
  f2 : w.frozen? ⟨b, 2, none⟩ = false
theorem WBox.lt {w : World} {b : Nat} {vB vN vA : Value} (h : WBox w b vB vN vA) : b < w.heap.size := World.block_lt_of_cell? w ⟨b, 0, none⟩ h.c0
theorem WBox.kept {w w' : World} {b : Nat} {vB vN vA : Value} (h : WBox w b vB vN vA) (hk : w'.heap[b]? = w.heap[b]?) : WBox w' b vB vN vA :=
  ⟨(World.cell?_of_block (a := ⟨b, 0, none⟩) hk).trans h.c0, (World.cell?_of_block (a := ⟨b, 1, none⟩) hk).trans h.c1, (World.cell?_of_block (a := ⟨b, 2, none⟩) hk).trans h.c2, (World.frozen?_of_block (a := ⟨b, 0, none⟩) hk).trans h.f0, (World.frozen?_of_block (a := ⟨b, 1, none⟩) hk).trans h.f1, (World.frozen?_of_block (a := ⟨b, 2, none⟩) hk).trans h.f2⟩
theorem WBox.new (w : World) (vB vN vA : Value) : WBox (w.alloc (.cells #[vB, vN, vA] 46)) w.heap.size vB vN vA := by
  refine ⟨?_, ?_, ?_, ?_, ?_, ?_⟩
  · rw [World.cell?_alloc_new]; rfl
  · rw [World.cell?_alloc_new]; rfl
  · rw [World.cell?_alloc_new]; rfl
  · exact World.frozen?_alloc_new _ _ _ _
  · exact World.frozen?_alloc_new _ _ _ _
  · exact World.frozen?_alloc_new _ _ _ _
theorem WBox.set0 {w : World} {b : Nat} {vB vN vA : Value} (h : WBox w b vB vN vA) (v : Value) : WBox (w.setCell ⟨b, 0, none⟩ v) b v vN vA :=
  ⟨World.cell?_setCell_same _ _ _ h.c0, (World.cell?_setCell_other _ _ _ _ (by intro h; injection h; omega)).trans h.c1, (World.cell?_setCell_other _ _ _ _ (by intro h; injection h; omega)).trans h.c2, by rw [World.frozen?_setCell]; exact h.f0, by rw [World.frozen?_setCell]; exact h.f1, by rw [World.frozen?_setCell]; exact h.f2⟩
theorem WBox.set1 {w : World} {b : Nat} {vB vN vA : Value} (h : WBox w b vB vN vA) (v : Value) : WBox (w.setCell ⟨b, 1, none⟩ v) b vB v vA :=
  ⟨(World.cell?_setCell_other _ _ _ _ (by intro h; injection h; omega)).trans h.c0, World.cell?_setCell_same _ _ _ h.c1, (World.cell?_setCell_other _ _ _ _ (by intro h; injection h; omega)).trans h.c2, by rw [World.frozen?_setCell]; exact h.f0, by rw [World.frozen?_setCell]; exact h.f1, by rw [World.frozen?_setCell]; exact h.f2⟩
theorem WBox.set2 {w : World} {b : Nat} {vB vN vA : Value} (h : WBox w b vB vN vA) (v : Value) : WBox (w.setCell ⟨b, 2, none⟩ v) b vB vN v :=
  ⟨(World.cell?_setCell_other _ _ _ _ (by intro h; injection h; omega)).trans h.c0, (World.cell?_setCell_other _ _ _ _ (by intro h; injection h; omega)).trans h.c1, World.cell?_setCell_same _ _ _ h.c2, by rw [World.frozen?_setCell]; exact h.f0, by rw [World.frozen?_setCell]; exact h.f1, by rw [World.frozen?_setCell]; exact h.f2⟩
end Go.Proofs.Ytbeoapfbddcpcaa
