/- Texts that belong together, one behind the other: Cuts, LabMath, WirSpec, AddrHeld, Numbers, RefNums, Reads, Strict, RefStrict, RefSix, RefSixParse, RefAddrOf, RefAddrMap, RefAddrGood, RefAddrCompare, AddrCompare. -/
import Derived.Test.YticdpidngmeebaaD4
import Derived.Lib.Join
import Derived.Lib.Bytealg
import Derived.OpenShut
import Derived.Lib.ItoaLen
import Derived.Deep.RegionWith
import Derived.Deep.Cut
import Derived.Lib.BytesEntry
import Derived.Deep.QuietTactic
import Derived.BigQuiet
/- The pieces of a text, read off its bytes: what a text is cut into, whatever it was put together of. -/
namespace Go.Proofs.Yticdpidngmeebaa
open Go.RowKit
set_option linter.unusedVariables false
set_option maxRecDepth 20000

/-- Bytes, as a text. -/
def ofL (l : List UInt8) : ByteArray := ⟨l.toArray⟩
theorem ofL_data (l : List UInt8) : (ofL l).data.toList = l := by simp [ofL]
theorem ofL_size (l : List UInt8) : (ofL l).size = l.length := by simp [ofL, ByteArray.size]
theorem ofL_append (l m : List UInt8) : ofL l ++ ofL m = ofL (l ++ m) := bytes_ext (by rw [data_append, ofL_data, ofL_data, ofL_data])
theorem eq_ofL {s : ByteArray} {l : List UInt8} (h : s.data.toList = l) : s = ofL l := bytes_ext (by rw [h, ofL_data])

def cutL (sep : Nat) : List UInt8 → List (List UInt8)
  | [] => [[]]
  | c :: l => if c.toNat = sep then [] :: cutL sep l else
    match cutL sep l with
    | [] => [[c]]
    | x :: r => (c :: x) :: r
theorem cutL_none (sep : Nat) : ∀ l : List UInt8, (∀ c ∈ l, c.toNat ≠ sep) → cutL sep l = [l]
  | [], _ => rfl
  | c :: l, h => by
    rw [cutL, if_neg (h c (by simp)), cutL_none sep l (fun x hx => h x (by simp [hx]))]
theorem cutL_first (sep : Nat) (c : UInt8) (hc : c.toNat = sep) (r : List UInt8) : ∀ l : List UInt8, (∀ c ∈ l, c.toNat ≠ sep) → cutL sep (l ++ c :: r) = l :: cutL sep r
  | [], _ => by rw [List.nil_append, cutL, if_pos hc]
  | x :: l, h => by
    rw [List.cons_append, cutL, if_neg (h x (by simp)), cutL_first sep c hc r l (fun x hx => h x (by simp [hx]))]

theorem sp_cut (s : ByteArray) (sep : Nat) : ∀ k, k ≤ s.size →
    cutL sep s.data.toList = (sp s sep k).1.map (fun p => p.data.toList) ++ cutL sep (s.data.toList.drop (sp s sep k).2) ∧ ∀ j (hj : j < s.size), (sp s sep k).2 ≤ j → j < k → (s[j]).toNat ≠ sep
  | 0, _ => ⟨by simp [sp], fun j _ _ h => by omega⟩
  | k + 1, hk => by
    obtain ⟨h1, h2⟩ := sp_cut s sep k (by omega)
    have hle := sp_le s sep k
    have hkl : k < s.data.toList.length := by simp; omega
    by_cases hit : (s[k]).toNat = sep
    · rw [sp_hit s sep k (by omega) hit]
      refine ⟨?_, fun j _ h3 h4 => by simp at h3; omega⟩
      rw [h1]
      have e : s.data.toList.drop (sp s sep k).2 = (s.extract (sp s sep k).2 k).data.toList ++ s[k] :: s.data.toList.drop (k + 1) := by
        rw [data_extract]
        have e1 : s.data.toList.drop k = s[k] :: s.data.toList.drop (k + 1) := by
          rw [List.drop_eq_getElem_cons hkl]; rfl
        rw [← e1]
        have e2 : s.data.toList.drop k = (s.data.toList.drop (sp s sep k).2).drop (k - (sp s sep k).2) := by
          rw [List.drop_drop]; congr 1; omega
        rw [e2, List.take_append_drop]
      rw [e, cutL_first sep _ hit _ _ ?_]
      · simp
      · intro c hc
        rw [data_extract] at hc
        obtain ⟨i, hi, rfl⟩ := List.getElem_of_mem hc
        have hi2 : i < k - (sp s sep k).2 := by simp at hi; omega
        have := h2 ((sp s sep k).2 + i) (by omega) (by omega) (by omega)
        rw [getElem_data] at this
        simpa using this
    · rw [sp_miss s sep k (by omega) hit]
      refine ⟨h1, fun j hj h3 h4 => ?_⟩
      by_cases hjk : j = k
      · subst hjk; exact hit
      · exact h2 j hj h3 (by omega)
theorem pieces_cut (s : ByteArray) (sep : Nat) : pieces s sep = (cutL sep s.data.toList).map ofL := by
  obtain ⟨h1, h2⟩ := sp_cut s sep s.size (Nat.le_refl _)
  have hle := sp_le s sep s.size
  have e : (s.extract (sp s sep s.size).2 s.size).data.toList = s.data.toList.drop (sp s sep s.size).2 := by
    rw [data_extract]
    apply List.take_of_length_le
    simp
  have h3 : cutL sep (s.data.toList.drop (sp s sep s.size).2) = [s.data.toList.drop (sp s sep s.size).2] := by
    apply cutL_none
    intro c hc
    obtain ⟨i, hi, rfl⟩ := List.getElem_of_mem hc
    have hi2 : (sp s sep s.size).2 + i < s.size := by simp at hi; omega
    have := h2 ((sp s sep s.size).2 + i) hi2 (by omega) hi2
    rw [getElem_data] at this
    simpa using this
  rw [h1, h3, List.map_append, List.map_map]
  unfold pieces
  have e2 : (ofL ∘ fun p : ByteArray => p.data.toList) = id := by
    funext p
    simp [ofL]
  rw [e2, List.map_id]
  congr 1
  simp only [List.map_cons, List.map_nil]
  rw [← e, ← eq_ofL rfl]
theorem pieces_ofL (l : List UInt8) (sep : Nat) : pieces (ofL l) sep = (cutL sep l).map ofL := by rw [pieces_cut, ofL_data]
end Go.Proofs.Yticdpidngmeebaa
/- Names: their labels, the first one, what is left behind it. Plain facts. -/
namespace Go.Proofs.Yticdpidngmeebaa
open Go.RowKit
set_option linter.unusedVariables false
set_option maxRecDepth 20000

/-- Up to the first dot. -/
def headL : List UInt8 → List UInt8
  | [] => []
  | c :: l => if c.toNat = 46 then [] else c :: headL l
/-- Behind the first dot. -/
def tailL : List UInt8 → List UInt8
  | [] => []
  | c :: l => if c.toNat = 46 then l else tailL l
def firstB (s : ByteArray) : ByteArray := ofL (headL s.data.toList)
def parB (s : ByteArray) : ByteArray := ofL (tailL s.data.toList)
theorem u8_dot {c : UInt8} (h : c.toNat = 46) : c = 46 := UInt8.toNat_inj.1 h
theorem head_tail : ∀ l : List UInt8, ((∀ c ∈ l, c.toNat ≠ 46) ∧ headL l = l ∧ tailL l = []) ∨ (l = headL l ++ 46 :: tailL l ∧ ∀ c ∈ headL l, c.toNat ≠ 46)
  | [] => .inl ⟨by simp, rfl, rfl⟩
  | c :: l => by
    by_cases h : c.toNat = 46
    · right
      have hc := u8_dot h
      subst hc
      unfold headL tailL
      rw [if_pos h, if_pos h]
      exact ⟨rfl, by simp⟩
    · unfold headL tailL
      rw [if_neg h, if_neg h]
      rcases head_tail l with ⟨h1, h2, h3⟩ | ⟨h1, h2⟩
      · left
        refine ⟨fun x hx => ?_, by rw [h2], h3⟩
        rcases List.mem_cons.1 hx with rfl | hx
        · exact h
        · exact h1 x hx
      · right
        refine ⟨by rw [List.cons_append, ← h1], fun x hx => ?_⟩
        rcases List.mem_cons.1 hx with rfl | hx
        · exact h
        · exact h2 x hx
theorem data_size (s : ByteArray) : s.data.toList.length = s.size := Array.length_toList
theorem pieces_head (s : ByteArray) : (pieces s 46 = [s] ∧ firstB s = s ∧ parB s = ⟨#[]⟩) ∨ (pieces s 46 = firstB s :: pieces (parB s) 46 ∧ s.data.toList = (firstB s).data.toList ++ 46 :: (parB s).data.toList) := by
  rw [pieces_cut]
  rcases head_tail s.data.toList with ⟨h1, h2, h3⟩ | ⟨h1, h2⟩
  · left
    refine ⟨?_, ?_, ?_⟩
    · rw [cutL_none 46 _ h1]
      exact congrArg (· :: []) (eq_ofL rfl).symm
    · unfold firstB; rw [h2]; exact (eq_ofL rfl).symm
    · unfold parB; rw [h3]; rfl
  · right
    have e1 : (firstB s).data.toList = headL s.data.toList := ofL_data _
    have e2 : (parB s).data.toList = tailL s.data.toList := ofL_data _
    refine ⟨?_, by rw [e1, e2]; exact h1⟩
    rw [pieces_cut, e2]
    have := cutL_first 46 46 rfl (tailL s.data.toList) (headL s.data.toList) h2
    rw [← h1] at this
    rw [this]
    rfl
theorem par_lt (s : ByteArray) (h : 0 < s.size) : (parB s).size < s.size := by
  rcases pieces_head s with ⟨_, _, h3⟩ | ⟨_, h2⟩
  · rw [h3]; exact h
  · have := congrArg List.length h2
    rw [List.length_append, List.length_cons, data_size, data_size, data_size] at this
    omega
theorem par_le (s : ByteArray) : (parB s).size ≤ s.size := by
  rcases Nat.eq_zero_or_pos s.size with h | h
  · have : s.data.toList = [] := List.eq_nil_of_length_eq_zero (by rw [data_size]; exact h)
    unfold parB
    rw [this]
    exact Nat.zero_le _
  · exact Nat.le_of_lt (par_lt s h)
theorem first_le (s : ByteArray) : (firstB s).size ≤ s.size := by
  rcases pieces_head s with ⟨_, h2, _⟩ | ⟨_, h2⟩
  · rw [h2]; exact Nat.le_refl _
  · have := congrArg List.length h2
    rw [List.length_append, data_size, data_size] at this
    omega
theorem empty_of {s : ByteArray} (h : s.size = 0) : s = ⟨#[]⟩ := bytes_ext (List.eq_nil_of_length_eq_zero (by rw [data_size]; exact h))
theorem par_empty {s : ByteArray} (h : s.size = 0) : parB s = ⟨#[]⟩ := by rw [empty_of h]; rfl
theorem labels_empty {s : ByteArray} (h : s.size = 0) : labelsB s = [] := by unfold labelsB; rw [if_pos h]
theorem labels_pieces {s : ByteArray} (h : 0 < s.size) : labelsB s = pieces s 46 := by unfold labelsB; rw [if_neg (by omega)]
theorem pieces_empty : pieces ⟨#[]⟩ 46 = [⟨#[]⟩] := by kernel_rfl
theorem labels_nil_iff (s : ByteArray) : labelsB s = [] ↔ s.size = 0 := by
  constructor
  · intro h
    apply Classical.byContradiction
    intro hn
    rw [labels_pieces (by omega)] at h
    have := pieces_pos s 46
    rw [h] at this
    exact absurd this (by simp)
  · exact labels_empty
theorem joinB_one (p : ByteArray) : joinB [p] ⟨#[46]⟩ = p := bytes_ext (by simp [joinB, joinTo])
theorem rest_zero (s : ByteArray) : restB s 0 = s := by
  unfold restB
  rcases Nat.eq_zero_or_pos s.size with h | h
  · rw [labels_empty h, if_pos (by simp), empty_of h]
  · rw [labels_pieces h, if_neg (by have := pieces_pos s 46; omega), List.drop_zero]
    exact pieces_join s 46 (by decide)
theorem rest_succ (s : ByteArray) (k : Nat) : restB s (k + 1) = restB (parB s) k := by
  rcases Nat.eq_zero_or_pos s.size with h | h
  · rw [par_empty h]
    unfold restB
    rw [labels_empty h, labels_empty (show (⟨#[]⟩ : ByteArray).size = 0 from rfl), if_pos (by simp), if_pos (by simp)]
  · rcases pieces_head s with ⟨h1, _, h3⟩ | ⟨h1, _⟩
    · rw [h3]
      unfold restB
      rw [labels_pieces h, h1, labels_empty (show (⟨#[]⟩ : ByteArray).size = 0 from rfl), if_pos (by simp), if_pos (by simp)]
    · unfold restB
      rw [labels_pieces h, h1]
      rcases Nat.eq_zero_or_pos (parB s).size with hp | hp
      · rw [labels_empty hp, empty_of hp, pieces_empty]
        rw [if_pos (show ([] : List ByteArray).length ≤ k by simp)]
        rcases k with _ | k
        · rw [if_neg (by simp)]
          exact joinB_one _
        · rw [if_pos (by simp)]
      · rw [labels_pieces hp]
        by_cases hk : (pieces (parB s) 46).length ≤ k
        · rw [if_pos hk, if_pos (by simp; omega)]
        · rw [if_neg hk, if_neg (by simp; omega), List.drop_succ_cons]
theorem rest_par : ∀ (k : Nat) (s : ByteArray), restB s (k + 1) = parB (restB s k)
  | 0, s => by rw [rest_succ, rest_zero, rest_zero]
  | k + 1, s => by rw [rest_succ, rest_par k (parB s), ← rest_succ]
theorem rest_le (s : ByteArray) : ∀ k, (restB s k).size ≤ s.size
  | 0 => by rw [rest_zero]; exact Nat.le_refl _
  | k + 1 => by rw [rest_par]; exact Nat.le_trans (par_le _) (rest_le s k)
theorem rest_out (s : ByteArray) (k : Nat) (h : (labelsB s).length ≤ k) : restB s k = ⟨#[]⟩ := by unfold restB; rw [if_pos h]
theorem rest_stay (s : ByteArray) (k : Nat) (h : (restB s k).size = 0) : ∀ m, restB s (k + m) = ⟨#[]⟩
  | 0 => empty_of h
  | m + 1 => by rw [← Nat.add_assoc, rest_par, rest_stay s k h m]; rfl
/-- No label is empty. -/
def Full (s : ByteArray) : Prop := ∀ p ∈ labelsB s, 0 < p.size
theorem labels_cons {s : ByteArray} (hf : Full s) (h : 0 < s.size) : labelsB s = firstB s :: labelsB (parB s) := by
  rcases pieces_head s with ⟨h1, h2, h3⟩ | ⟨h1, _⟩
  · rw [h3, h2, labels_pieces h, h1, labels_empty (show (⟨#[]⟩ : ByteArray).size = 0 from rfl)]
  · rcases Nat.eq_zero_or_pos (parB s).size with hp | hp
    · exfalso
      unfold Full at hf
      rw [labels_pieces h, h1, empty_of hp, pieces_empty] at hf
      exact absurd (hf ⟨#[]⟩ (by simp)) (by decide)
    · rw [labels_pieces h, h1, labels_pieces hp]
theorem Full.par {s : ByteArray} (hf : Full s) : Full (parB s) := by
  rcases Nat.eq_zero_or_pos s.size with h | h
  · rw [par_empty h]
    unfold Full
    rw [labels_empty (show (⟨#[]⟩ : ByteArray).size = 0 from rfl)]
    intro p hp
    cases hp
  · intro p hp
    exact hf p (by rw [labels_cons hf h]; exact List.mem_cons_of_mem _ hp)
theorem Full.rest {s : ByteArray} (hf : Full s) : ∀ k, Full (restB s k)
  | 0 => by rw [rest_zero]; exact hf
  | k + 1 => by rw [rest_par]; exact (hf.rest k).par
theorem labels_rest : ∀ (k : Nat) {s : ByteArray}, Full s → labelsB (restB s k) = (labelsB s).drop k
  | 0, s, _ => by rw [rest_zero, List.drop_zero]
  | k + 1, s, hf => by
    rw [rest_succ, labels_rest k hf.par]
    rcases Nat.eq_zero_or_pos s.size with h | h
    · rw [par_empty h, labels_empty h, labels_empty (show (⟨#[]⟩ : ByteArray).size = 0 from rfl), List.drop_nil, List.drop_nil]
    · rw [labels_cons hf h, List.drop_succ_cons]
theorem rest_pos {s : ByteArray} (hf : Full s) (k : Nat) : 0 < (restB s k).size ↔ k < (labelsB s).length := by
  have h1 := labels_rest k hf
  have h2 := labels_nil_iff (restB s k)
  rw [h1, List.drop_eq_nil_iff] at h2
  omega
theorem label_first {s : ByteArray} (hf : Full s) (k : Nat) (h : k < (labelsB s).length) : (labelsB s).getD k ⟨#[]⟩ = firstB (restB s k) := by
  have h1 := labels_rest k hf
  rw [labels_cons (hf.rest k) ((rest_pos hf k).2 h), List.drop_eq_getElem_cons h] at h1
  rw [List.getD_eq_getElem?_getD, List.getElem?_eq_getElem h]
  exact (List.cons.inj h1).1.symm
/-- How many bytes a name has. -/
theorem joinTo_size2 (l : List ByteArray) : ∀ k, (joinTo l ⟨#[46]⟩ k).size + (if k = 0 then 1 else 2) = sizeTo l k
  | 0 => rfl
  | k + 1 => by
    have h := joinTo_size2 l k
    have e : (joinTo l ⟨#[46]⟩ (k + 1)).size = (if 0 < k then (joinTo l ⟨#[46]⟩ k).size + 1 else (joinTo l ⟨#[46]⟩ k).size) + (l.getD k ⟨#[]⟩).size := by
      rw [joinTo, ByteArray.size_append]
      split
      · rw [ByteArray.size_append]; rfl
      · rfl
    have e2 : sizeTo l (k + 1) = sizeTo l k + 1 + (l.getD k ⟨#[]⟩).size := rfl
    rw [e, e2, if_neg (Nat.succ_ne_zero k)]
    split at h <;> split <;> omega
theorem size_labels (s : ByteArray) : sizeL (labelsB s) = if s.size = 0 then 1 else s.size + 2 := by
  by_cases h : s.size = 0
  · rw [if_pos h, labels_empty h]; rfl
  · rw [if_neg h, labels_pieces (by omega)]
    have h1 := joinTo_size2 (pieces s 46) (pieces s 46).length
    have h2 := pieces_join s 46 (by decide)
    have h3 := pieces_pos s 46
    unfold joinB at h2
    rw [if_neg (by omega)] at h1
    have h4 : (joinTo (pieces s 46) ⟨#[46]⟩ (pieces s 46).length).size = s.size := by
      have := congrArg ByteArray.size h2
      exact this
    unfold sizeL
    omega
theorem may_is (s : ByteArray) : mayN s = decide (s.size ≤ 253 ∧ ∀ k, k < (labelsB s).length → 1 ≤ ((labelsB s).getD k ⟨#[]⟩).size ∧ ((labelsB s).getD k ⟨#[]⟩).size ≤ 63) := by
  unfold mayN
  apply decide_eq_decide.2
  unfold MayL
  rw [size_labels]
  constructor
  · rintro ⟨h1, h2⟩
    refine ⟨?_, h1⟩
    split at h2 <;> omega
  · rintro ⟨h1, h2⟩
    refine ⟨h2, ?_⟩
    split <;> omega
theorem may_full {s : ByteArray} (h : mayN s = true) : Full s := by
  intro p hp
  obtain ⟨k, hk, rfl⟩ := List.getElem_of_mem hp
  have := ((of_decide_eq_true h : MayL _).1 k hk).1
  rw [List.getD_eq_getElem?_getD, List.getElem?_eq_getElem hk] at this
  exact this
theorem may_small {s : ByteArray} (h : mayN s = true) : s.size ≤ 253 := by
  rw [may_is] at h
  exact (of_decide_eq_true h).1
theorem may_label {s : ByteArray} (h : mayN s = true) : ∀ p ∈ labelsB s, 1 ≤ p.size ∧ p.size ≤ 63 := by
  intro p hp
  obtain ⟨k, hk, rfl⟩ := List.getElem_of_mem hp
  have := ((of_decide_eq_true h : MayL _).1 k hk)
  rw [List.getD_eq_getElem?_getD, List.getElem?_eq_getElem hk] at this
  exact this
theorem may_of {s : ByteArray} (h1 : s.size ≤ 253) (h2 : ∀ p ∈ labelsB s, 1 ≤ p.size ∧ p.size ≤ 63) : mayN s = true := by
  rw [may_is]
  refine decide_eq_true ⟨h1, fun k hk => ?_⟩
  rw [List.getD_eq_getElem?_getD, List.getElem?_eq_getElem hk]
  exact h2 _ (List.getElem_mem hk)
theorem may_rest {s : ByteArray} (h : mayN s = true) (k : Nat) : mayN (restB s k) = true := by
  refine may_of (Nat.le_trans (rest_le s k) (may_small h)) (fun p hp => may_label h p ?_)
  rw [labels_rest k (may_full h)] at hp
  exact List.mem_of_mem_drop hp
/-- The pieces have no dot. -/
theorem cutL_free : ∀ (l : List UInt8), ∀ p ∈ cutL 46 l, ∀ c ∈ p, c.toNat ≠ 46
  | [] => by simp [cutL]
  | x :: l => by
    have ih := cutL_free l
    unfold cutL
    split
    · intro p hp
      rcases List.mem_cons.1 hp with rfl | hp
      · simp
      · exact ih p hp
    · rename_i hx
      split
      · intro p hp c hc
        rw [List.mem_singleton.1 hp] at hc
        rw [List.mem_singleton.1 hc]
        exact hx
      · rename_i y r he
        rw [he] at ih
        intro p hp
        rcases List.mem_cons.1 hp with rfl | hp
        · intro c hc
          rcases List.mem_cons.1 hc with rfl | hc
          · exact hx
          · exact ih y (by simp) c hc
        · exact ih p (List.mem_cons_of_mem _ hp)
def NoDot (p : ByteArray) : Prop := ∀ c ∈ p.data.toList, c.toNat ≠ 46
theorem labels_free (s : ByteArray) : ∀ p ∈ labelsB s, NoDot p := by
  intro p hp
  unfold labelsB at hp
  split at hp
  · cases hp
  · rw [pieces_cut] at hp
    obtain ⟨q, hq, rfl⟩ := List.mem_map.1 hp
    unfold NoDot
    rw [ofL_data]
    exact cutL_free _ q hq
/-- Joined labels. -/
theorem joinTo_data (l : List ByteArray) : ∀ k, k ≤ l.length → (joinTo l ⟨#[46]⟩ k).data.toList = Lib.join ((l.take k).map (·.data.toList)) [46]
  | 0, _ => by rw [List.take_zero]; rfl
  | k + 1, h => by
    have ih := joinTo_data l k (by omega)
    have hk : k < l.length := h
    rw [List.take_succ_eq_append_getElem hk, List.map_append, joinTo, data_append]
    have e : l.getD k ⟨#[]⟩ = l[k] := by rw [List.getD_eq_getElem?_getD, List.getElem?_eq_getElem hk]; rfl
    rw [e]
    by_cases h0 : 0 < k
    · rw [if_pos h0, data_append, ih]
      obtain ⟨x, r, hx⟩ : ∃ x r, (l.take k).map (·.data.toList) = x :: r := by
        cases hh : (l.take k).map (·.data.toList) with
        | nil =>
          have := congrArg List.length hh
          rw [List.length_map, List.length_take, List.length_nil] at this
          omega
        | cons a t => exact ⟨a, t, rfl⟩
      rw [hx, List.cons_append, Lib.join_cons, Lib.join_cons]
      simp [Lib.joinTail]
    · obtain rfl : k = 0 := by omega
      rw [if_neg h0, ih]
      simp [Lib.join_one, Lib.join_nil]
theorem joinB_data (l : List ByteArray) : (joinB l ⟨#[46]⟩).data.toList = Lib.join (l.map (·.data.toList)) [46] := by
  have := joinTo_data l l.length (Nat.le_refl _)
  rw [List.take_of_length_le (Nat.le_refl _)] at this
  exact this
theorem cut_join : ∀ (r : List (List UInt8)) (x : List UInt8), (∀ c ∈ x, c.toNat ≠ 46) → (∀ p ∈ r, ∀ c ∈ p, c.toNat ≠ 46) → cutL 46 (x ++ Lib.joinTail [46] r) = x :: r
  | [], x, hx, _ => by simp only [Lib.joinTail, List.map_nil, List.flatten_nil, List.append_nil]; exact cutL_none 46 x hx
  | y :: r, x, hx, hr => by
    have e : Lib.joinTail [46] (y :: r) = 46 :: (y ++ Lib.joinTail [46] r) := by simp [Lib.joinTail]
    rw [e, cutL_first 46 46 rfl _ x hx, cut_join r y (hr y (by simp)) (fun p hp => hr p (List.mem_cons_of_mem _ hp))]
theorem labels_join (l : List ByteArray) (h1 : ∀ p ∈ l, 0 < p.size) (h2 : ∀ p ∈ l, NoDot p) : labelsB (joinB l ⟨#[46]⟩) = l := by
  cases l with
  | nil => exact labels_empty rfl
  | cons x r =>
    have hd := joinB_data (x :: r)
    rw [List.map_cons, Lib.join_cons] at hd
    have hs : 0 < (joinB (x :: r) ⟨#[46]⟩).size := by
      rw [← data_size, hd, List.length_append, data_size]
      have := h1 x (by simp)
      omega
    rw [labels_pieces hs, pieces_cut, hd, cut_join _ _ (h2 x (by simp)) (fun p hp => by
      obtain ⟨q, hq, rfl⟩ := List.mem_map.1 hp
      exact h2 q (List.mem_cons_of_mem _ hq)), List.map_cons, List.map_map]
    have e2 : (ofL ∘ fun p : ByteArray => p.data.toList) = id := by funext p; simp [ofL]
    rw [e2, List.map_id]
    exact congrArg (· :: r) (eq_ofL rfl).symm
/-- A dot in a text. -/
theorem hasTo_free {s : ByteArray} : ∀ k, k ≤ s.size → (hasTo s 46 k = false ↔ ∀ j, j < k → (s.data.toList.getD j 0).toNat ≠ 46)
  | 0, _ => ⟨fun _ j hj => absurd hj (by omega), fun _ => rfl⟩
  | k + 1, h => by
    have ih := hasTo_free (s := s) k (by omega)
    rw [hasTo, Bool.or_eq_false_iff, ih, decide_eq_false_iff_not]
    constructor
    · rintro ⟨h1, h2⟩ j hj
      by_cases hjk : j < k
      · exact h1 j hjk
      · obtain rfl : j = k := by omega
        exact h2
    · intro h1
      exact ⟨fun j hj => h1 j (by omega), h1 k (by omega)⟩
theorem has_free (s : ByteArray) : has8 s 46 = false ↔ NoDot s := by
  unfold has8
  rw [hasTo_free s.size (Nat.le_refl _)]
  constructor
  · intro h c hc
    obtain ⟨j, hj, rfl⟩ := List.getElem_of_mem hc
    have := h j (by rw [← data_size]; exact hj)
    rw [List.getD_eq_getElem?_getD, List.getElem?_eq_getElem hj] at this
    exact this
  · intro h j hj
    have hj2 : j < s.data.toList.length := by rw [data_size]; exact hj
    rw [List.getD_eq_getElem?_getD, List.getElem?_eq_getElem hj2]
    exact h _ (List.getElem_mem hj2)
theorem index_dot : ∀ l : List UInt8, (Lib.indexByte l 46 = -1 ∧ (∀ c ∈ l, c.toNat ≠ 46) ∧ headL l = l ∧ tailL l = []) ∨ (∃ i : Nat, Lib.indexByte l 46 = i ∧ i < l.length ∧ headL l = l.take i ∧ tailL l = l.drop (i + 1) ∧ ∃ c ∈ l, c.toNat = 46)
  | [] => .inl ⟨rfl, by simp, rfl, rfl⟩
  | x :: l => by
    unfold Lib.indexByte headL tailL
    by_cases hx : x.toNat = 46
    · have := u8_dot hx
      subst this
      right
      refine ⟨0, by simp, by simp, by simp, by simp, 46, by simp, rfl⟩
    · have hne : (x == 46) = false := by rw [beq_eq_false_iff_ne]; intro h; exact hx (by rw [h]; rfl)
      rw [hne, if_neg hx, if_neg hx]
      rcases index_dot l with ⟨h1, h2, h3, h4⟩ | ⟨i, h1, h2, h3, h4, c, h5, h6⟩
      · left
        rw [h1]
        refine ⟨rfl, fun c hc => ?_, by rw [h3], h4⟩
        rcases List.mem_cons.1 hc with rfl | hc
        · exact hx
        · exact h2 c hc
      · right
        rw [h1]
        refine ⟨i + 1, ?_, by simp; omega, by rw [h3]; rfl, by rw [h4]; rfl, c, List.mem_cons_of_mem _ h5, h6⟩
        have : ((i : Int) == -1) = false := by rw [beq_eq_false_iff_ne]; omega
        rw [this]
        simp
theorem contains_dot (s : ByteArray) : decide (0 ≤ Lib.indexByte s.data.toList 46) = has8 s 46 := by
  rcases index_dot s.data.toList with ⟨h1, h2, _, _⟩ | ⟨i, h1, _, _, _, c, h5, h6⟩
  · rw [h1, (has_free s).2 h2]; rfl
  · rw [h1]
    have : has8 s 46 ≠ false := fun h => (has_free s).1 h c h5 h6
    rw [Bool.of_not_eq_false this]
    exact decide_eq_true (by omega)
/-- Under, as a loop over parents asks it. -/
theorem like_empty (t : ByteArray) : likeB ⟨#[]⟩ t = decide (t.size = 0) := by
  by_cases h : t.size = 0
  · rw [decide_eq_true h, empty_of h]; exact (likeB_iff _ _).2 rfl
  · rw [decide_eq_false h]; exact likeB_size (fun e => h e.symm)
theorem under_hit {s t : ByteArray} {k : Nat} (hk : 0 < (restB s k).size) (h : likeB (restB s k) t = true) : underB s t = true := by
  refine decide_eq_true ⟨k, ?_, h⟩
  apply Classical.byContradiction
  intro hn
  rw [rest_out s k (by omega)] at hk
  exact absurd hk (by decide)
theorem under_end {s t : ByteArray} {k : Nat} (hk : (restB s k).size = 0) (h : ∀ j, j < k → likeB (restB s j) t = false) : underB s t = decide (t.size = 0) := by
  by_cases ht : t.size = 0
  · rw [decide_eq_true ht]
    refine decide_eq_true ⟨(labelsB s).length, by omega, ?_⟩
    rw [rest_out s _ (Nat.le_refl _), like_empty]
    exact decide_eq_true ht
  · rw [decide_eq_false ht]
    refine decide_eq_false (fun ⟨j, _, hj⟩ => ?_)
    by_cases hjk : j < k
    · rw [h j hjk] at hj; cases hj
    · have := rest_stay s k hk (j - k)
      rw [show k + (j - k) = j by omega] at this
      rw [this, like_empty, decide_eq_false ht] at hj
      cases hj
theorem like_self (t : ByteArray) : likeB t t = true := (likeB_iff t t).2 rfl
theorem under_self (s : ByteArray) : underB s s = true := decide_eq_true ⟨0, by omega, by rw [rest_zero]; exact like_self s⟩
theorem under_none (s : ByteArray) : underB s ⟨#[]⟩ = true := decide_eq_true ⟨(labelsB s).length, by omega, by rw [rest_out s _ (Nat.le_refl _)]; exact like_self _⟩
theorem under_rest (s : ByteArray) (k : Nat) : underB s (restB s k) = true := by
  by_cases h : k < (labelsB s).length + 1
  · exact decide_eq_true ⟨k, h, like_self _⟩
  · rw [rest_out s k (by omega)]; exact under_none s
theorem under_longer {s t : ByteArray} (h : s.size < t.size) : underB s t = false := by
  refine decide_eq_false (fun ⟨j, _, hj⟩ => ?_)
  have h1 := rest_le s j
  rw [likeB_size (by omega)] at hj
  cases hj
end Go.Proofs.Yticdpidngmeebaa
/- What a message's bytes are, as plain functions; how bytes with sizes put in later become them. -/
namespace Go.Proofs.Yticdpidngmeebaa
open Go.RowKit
set_option linter.unusedVariables false
set_option maxRecDepth 20000

/-- What a name adds behind so many bytes. -/
theorem nm8_facts (s : ByteArray) (L : List ByteArray) (hL : ∀ p ∈ L, p.size ≤ 63) : ∀ (f i n : Nat) (ns : List ByteArray) (ats : List Nat), ∃ tl ns' ats', (∀ l : List UInt8, l.length = n → nm8 s L f i l ns ats = (l ++ tl, ns', ats')) ∧ tl.length ≤ (L.length - i) * 64 + 2 ∧ ns'.length ≤ ns.length + (L.length - i) ∧ (ats.length = ns.length → ats'.length = ns'.length) ∧ ((∀ a ∈ ats, a < 16384) → ∀ a ∈ ats', a < 16384) ∧ (∀ p ∈ ns', p ∈ ns ∨ p.size ≤ s.size) ∧ ns'.length ≤ ns.length + tl.length
  | 0, i, n, ns, ats => ⟨[], ns, ats, fun l _ => by simp [nm8], by simp, by omega, id, id, fun p hp => .inl hp, by simp⟩
  | f + 1, i, n, ns, ats => by
    by_cases hi : L.length ≤ i
    · exact ⟨[0], ns, ats, fun l _ => by rw [nm8, if_pos hi], by simp, by omega, id, id, fun p hp => .inl hp, by simp⟩
    · cases hf : find8 ns ats (restB s i) with
      | some k => exact ⟨[UInt8.ofNat (192 + k / 256), UInt8.ofNat (k % 256)], ns, ats, fun l _ => by rw [nm8, if_neg hi, hf], by simp, by omega, id, id, fun p hp => .inl hp, by simp⟩
      | none =>
        have hlab : (labL (L.getD i ⟨#[]⟩)).length ≤ 64 := by
          have : L.getD i ⟨#[]⟩ ∈ L := by
            rw [List.getD_eq_getElem?_getD, List.getElem?_eq_getElem (by omega)]
            exact List.getElem_mem _
          have := hL _ this
          generalize L.getD i ⟨#[]⟩ = q at *
          have := data_size q
          unfold labL
          simp only [List.length_cons]
          omega
        obtain ⟨tl, ns', ats', h1, h2, h3, h4, h5, h6, h7⟩ := nm8_facts s L hL f (i + 1) (n + (labL (L.getD i ⟨#[]⟩)).length) (if n < 16384 then ns ++ [restB s i] else ns) (if n < 16384 then ats ++ [n] else ats)
        refine ⟨labL (L.getD i ⟨#[]⟩) ++ tl, ns', ats', fun l hl => ?_, ?_, ?_, fun e => h4 ?_, fun e => h5 ?_, fun p hp => ?_, ?_⟩
        · rw [nm8, if_neg hi, hf]
          simp only [hl]
          rw [h1 _ (by rw [List.length_append, hl]), List.append_assoc]
        · rw [List.length_append]; omega
        · by_cases hn : n < 16384
          · rw [if_pos hn] at h3; simp at h3; omega
          · rw [if_neg hn] at h3; omega
        · by_cases hn : n < 16384
          · rw [if_pos hn, if_pos hn]; simp [e]
          · rw [if_neg hn, if_neg hn]; exact e
        · by_cases hn : n < 16384
          · rw [if_pos hn]
            intro a ha
            rcases List.mem_append.1 ha with ha | ha
            · exact e a ha
            · rw [List.mem_singleton.1 ha]; exact hn
          · rw [if_neg hn]; exact e
        · rcases h6 p hp with h | h
          · by_cases hn : n < 16384
            · rw [if_pos hn] at h
              rcases List.mem_append.1 h with h | h
              · exact .inl h
              · rw [List.mem_singleton.1 h]; exact .inr (rest_le s i)
            · rw [if_neg hn] at h; exact .inl h
          · exact .inr h
        · have hlb : 1 ≤ (labL (L.getD i ⟨#[]⟩)).length := by unfold labL; simp
          rw [List.length_append]
          by_cases hn : n < 16384
          · rw [if_pos hn] at h7; simp only [List.length_append, List.length_cons, List.length_nil] at h7; omega
          · rw [if_neg hn] at h7; omega
/-- What was written: bytes, names, places. -/
abbrev Wst := List UInt8 × List ByteArray × List Nat
def nmT (s : ByteArray) (n : Nat) (ns : List ByteArray) (ats : List Nat) : Wst :=
  ((nm8 s (labelsB s) ((labelsB s).length + 1) 0 (List.replicate n 0) ns ats).1.drop n, (nm8 s (labelsB s) ((labelsB s).length + 1) 0 (List.replicate n 0) ns ats).2)
structure NmT (s : ByteArray) (n : Nat) (ns : List ByteArray) (ats : List Nat) : Prop where
  eq : ∀ l : List UInt8, l.length = n → nm8 s (labelsB s) ((labelsB s).length + 1) 0 l ns ats = (l ++ (nmT s n ns ats).1, (nmT s n ns ats).2.1, (nmT s n ns ats).2.2)
  len : (nmT s n ns ats).1.length ≤ 16300
  lns : (nmT s n ns ats).2.1.length ≤ ns.length + 254
  two : ats.length = ns.length → (nmT s n ns ats).2.2.length = (nmT s n ns ats).2.1.length
  low : (∀ a ∈ ats, a < 16384) → ∀ a ∈ (nmT s n ns ats).2.2, a < 16384
  lnt : (nmT s n ns ats).2.1.length ≤ ns.length + (nmT s n ns ats).1.length
  sm : (∀ p ∈ ns, p.size ≤ 253) → ∀ p ∈ (nmT s n ns ats).2.1, p.size ≤ 253
theorem nmT_is {s : ByteArray} (hm : mayN s = true) (n : Nat) (ns : List ByteArray) (ats : List Nat) : NmT s n ns ats := by
  have hs := may_small hm
  have hl := labels_len s
  obtain ⟨tl, ns', ats', h1, h2, h3, h4, h5, h6, h7⟩ := nm8_facts s (labelsB s) (fun p hp => (may_label hm p hp).2) ((labelsB s).length + 1) 0 n ns ats
  have hT : nmT s n ns ats = (tl, ns', ats') := by
    unfold nmT
    rw [h1 (List.replicate n 0) (by simp)]
    simp
  refine ⟨fun l e => by rw [hT, h1 l e], ?_, ?_, ?_, ?_, ?_, ?_⟩ <;> rw [hT]
  · show tl.length ≤ 16300
    omega
  · show ns'.length ≤ _
    omega
  · exact h4
  · exact h5
  · exact h7
  · intro e p hp
    rcases h6 p hp with h | h
    · exact e p h
    · omega
/-- An address's bytes. -/
def byB (b : List Nat) : List UInt8 := b.map UInt8.ofNat
def daT (r : Rec) (n : Nat) (ns : List ByteArray) (ats : List Nat) : Wst :=
  if r.ty = 1 then (byB (r.b.take 4), ns, ats) else if r.ty = 28 then (byB r.b, ns, ats) else if r.ty = 5 then nmT r.tg n ns ats else (r.da.data.toList, ns, ats)
def numsR (r : Rec) : List UInt8 := twoL r.ty.toNat ++ twoL r.cl.toNat ++ twoL (r.ttl.toNat / 65536) ++ twoL (r.ttl.toNat % 65536)
theorem numsR_len (r : Rec) : (numsR r).length = 8 := rfl
def qW (t : Wst) (q : Qu) : Wst :=
  (t.1 ++ (nmT q.name t.1.length t.2.1 t.2.2).1 ++ (twoL q.ty.toNat ++ twoL q.cl.toNat), (nmT q.name t.1.length t.2.1 t.2.2).2)
/-- Where a record's data begins. -/
def atR (t : Wst) (r : Rec) : Nat := t.1.length + (nmT r.name t.1.length t.2.1 t.2.2).1.length + 10
def daR (t : Wst) (r : Rec) : Wst := daT r (atR t r) (nmT r.name t.1.length t.2.1 t.2.2).2.1 (nmT r.name t.1.length t.2.1 t.2.2).2.2
def rW (t : Wst) (r : Rec) : Wst :=
  (t.1 ++ (nmT r.name t.1.length t.2.1 t.2.2).1 ++ numsR r ++ twoL (daR t r).1.length ++ (daR t r).1, (daR t r).2)
def hdB (m : Msg) : List UInt8 := twoL m.id.toNat ++ twoL m.fl.toNat ++ twoL m.qs.length ++ twoL m.an.length ++ twoL m.au.length ++ twoL m.mo.length
def wM (m : Msg) : Wst := m.mo.foldl rW (m.au.foldl rW (m.an.foldl rW (m.qs.foldl qW (hdB m, [], []))))
def wB (m : Msg) : List UInt8 := (wM m).1
theorem qW_len (t : Wst) (q : Qu) : t.1.length ≤ (qW t q).1.length := by simp only [qW, List.length_append]; omega
theorem rW_len (t : Wst) (r : Rec) : t.1.length ≤ (rW t r).1.length := by simp only [rW, List.length_append]; omega
/-- As long as there is room. -/
def gd {α : Type} (f : Wst → α → Wst) (t : Wst) (x : α) : Wst := if 1232 < t.1.length then t else f t x
def Rg (t t' : Wst) : Prop := t = t' ∨ (1232 < t.1.length ∧ 1232 < t'.1.length)
theorem rg_step {α : Type} {f : Wst → α → Wst} (hf : ∀ t x, t.1.length ≤ (f t x).1.length) {t t' : Wst} (h : Rg t t') (x : α) : Rg (gd f t x) (f t' x) := by
  unfold gd
  rcases h with rfl | ⟨h1, h2⟩
  · by_cases hl : 1232 < t.1.length
    · rw [if_pos hl]; exact .inr ⟨hl, Nat.lt_of_lt_of_le hl (hf t x)⟩
    · rw [if_neg hl]; exact .inl rfl
  · rw [if_pos h1]; exact .inr ⟨h1, Nat.lt_of_lt_of_le h2 (hf t' x)⟩
theorem rg_fold {α : Type} {f : Wst → α → Wst} (hf : ∀ t x, t.1.length ≤ (f t x).1.length) : ∀ (D : List α) {t t' : Wst}, Rg t t' → Rg (D.foldl (gd f) t) (D.foldl f t')
  | [], _, _, h => h
  | x :: D, _, _, h => rg_fold hf D (rg_step hf h x)
def gM (m : Msg) : Wst := m.mo.foldl (gd rW) (m.au.foldl (gd rW) (m.an.foldl (gd rW) (m.qs.foldl (gd qW) (hdB m, [], []))))
theorem gM_is (m : Msg) : Rg (gM m) (wM m) := rg_fold rW_len _ (rg_fold rW_len _ (rg_fold rW_len _ (rg_fold qW_len _ (.inl rfl))))
theorem gM_full (m : Msg) : 1232 < (gM m).1.length ↔ 1232 < (wB m).length := by
  rcases gM_is m with e | ⟨h1, h2⟩
  · rw [e]; exact Iff.rfl
  · exact ⟨fun _ => h2, fun _ => h1⟩
theorem gM_fits (m : Msg) (h : (wB m).length ≤ 1232) : gM m = wM m := by
  rcases gM_is m with e | ⟨h1, h2⟩
  · exact e
  · exact absurd h2 (by unfold wB at h; omega)
/-- Two bytes put in later. -/
def patch (l : List UInt8) (at0 n : Nat) : List UInt8 := (l.set at0 (UInt8.ofNat (n / 256))).set (at0 + 1) (UInt8.ofNat (n % 256))
def patchAll (l : List UInt8) (zs : List (Nat × Nat)) : List UInt8 := zs.foldl (fun l z => patch l z.1 z.2) l
theorem patch_len (l : List UInt8) (a n : Nat) : (patch l a n).length = l.length := by simp [patch]
theorem patchAll_len : ∀ (zs : List (Nat × Nat)) (l : List UInt8), (patchAll l zs).length = l.length
  | [], _ => rfl
  | z :: zs, l => by
    show (patchAll (patch l z.1 z.2) zs).length = _
    rw [patchAll_len zs, patch_len]
theorem patch_more (l x : List UInt8) (a n : Nat) (h : a + 2 ≤ l.length) : patch (l ++ x) a n = patch l a n ++ x := by
  unfold patch
  rw [List.set_append_left _ _ (by omega), List.set_append_left _ _ (by simp; omega)]
theorem patchAll_more (x : List UInt8) : ∀ (zs : List (Nat × Nat)) (l : List UInt8), (∀ z ∈ zs, z.1 + 2 ≤ l.length) → patchAll (l ++ x) zs = patchAll l zs ++ x
  | [], _, _ => rfl
  | z :: zs, l, h => by
    show patchAll (patch (l ++ x) z.1 z.2) zs = patchAll (patch l z.1 z.2) zs ++ x
    rw [patch_more l x z.1 z.2 (h z (List.mem_cons_self ..)), patchAll_more x zs _ (fun y hy => by rw [patch_len]; exact h y (List.mem_cons_of_mem _ hy))]
theorem patch_mid (l x : List UInt8) (n : Nat) : patch (l ++ [0, 0] ++ x) l.length n = l ++ twoL n ++ x := by
  unfold patch twoL
  rw [List.append_assoc, List.set_append_right _ _ (Nat.le_refl _), List.set_append_right _ _ (Nat.le_succ _)]
  simp
/-- Bytes whose sizes are put in later, beside those that they become. -/
structure PR (u : Wst) (zs : List (Nat × Nat)) (t : Wst) : Prop where
  len : u.1.length = t.1.length
  two : u.2 = t.2
  eq : patchAll u.1 zs = t.1
  at0 : ∀ z ∈ zs, z.1 + 2 ≤ u.1.length
  low : ∀ z ∈ zs, z.2 ≤ 65535
theorem PR.nil (l : List UInt8) : PR (l, [], []) [] (l, [], []) := ⟨rfl, rfl, rfl, by simp, by simp⟩
theorem PR.q {u t : Wst} {zs : List (Nat × Nat)} (h : PR u zs t) (q : Qu) : PR (qW u q) zs (qW t q) := by
  unfold qW
  rw [h.len, h.two]
  refine ⟨by simp [h.len], rfl, ?_, fun z hz => ?_, h.low⟩
  · rw [List.append_assoc, List.append_assoc, patchAll_more _ zs u.1 h.at0, h.eq]
  · have := h.at0 z hz
    simp only [List.length_append]
    omega
/-- A record's bytes with noughts where its size will stand. -/
def rU (u : Wst) (r : Rec) : Wst := (u.1 ++ (nmT r.name u.1.length u.2.1 u.2.2).1 ++ numsR r ++ [0, 0] ++ (daR u r).1, (daR u r).2)
theorem PR.r {u t : Wst} {zs : List (Nat × Nat)} (h : PR u zs t) (r : Rec) (hd : (daR u r).1.length ≤ 65535) : PR (rU u r) (zs ++ [(atR u r - 2, (daR u r).1.length)]) (rW t r) := by
  have e1 : daR u r = daR t r := by unfold daR atR; rw [h.len, h.two]
  have e2 : nmT r.name u.1.length u.2.1 u.2.2 = nmT r.name t.1.length t.2.1 t.2.2 := by rw [h.len, h.two]
  have e3 : atR u r = u.1.length + (nmT r.name u.1.length u.2.1 u.2.2).1.length + 10 := rfl
  rw [e3]
  unfold rU rW
  rw [e1] at hd ⊢
  rw [e2]
  generalize (nmT r.name t.1.length t.2.1 t.2.2).1 = x at *
  generalize daR t r = d at *
  refine ⟨by simp only [List.length_append, h.len]; rfl, rfl, ?_, fun z hz => ?_, fun z hz => ?_⟩
  · unfold patchAll
    rw [List.foldl_append]
    show patch (patchAll (u.1 ++ x ++ numsR r ++ [0, 0] ++ d.1) zs) _ _ = _
    rw [List.append_assoc, List.append_assoc, List.append_assoc, patchAll_more _ zs u.1 h.at0, h.eq]
    have := patch_mid (t.1 ++ x ++ numsR r) d.1 d.1.length
    rw [show (t.1 ++ x ++ numsR r).length = u.1.length + x.length + 10 - 2 by simp only [List.length_append, h.len, numsR_len]; omega] at this
    simpa [List.append_assoc] using this
  · simp only [List.length_append, numsR_len]
    rcases List.mem_append.1 hz with hz | hz
    · have := h.at0 z hz
      omega
    · rw [List.mem_singleton.1 hz]
      show u.1.length + x.length + 10 - 2 + 2 ≤ _
      simp only [List.length_cons, List.length_nil]
      omega
  · rcases List.mem_append.1 hz with hz | hz
    · exact h.low z hz
    · rw [List.mem_singleton.1 hz]; exact hd
/-- What was written is of a size that a writer bears. -/
structure Wok (K : Nat) (t : Wst) : Prop where
  len : t.1.length ≤ K
  lns : t.2.1.length ≤ t.1.length
  two : t.2.2.length = t.2.1.length
  low : ∀ a ∈ t.2.2, a < 16384
  sm : ∀ p ∈ t.2.1, p.size ≤ 253
theorem Wok.wider {K K' : Nat} {t : Wst} (h : Wok K t) (hk : K ≤ K') : Wok K' t := ⟨Nat.le_trans h.len hk, h.lns, h.two, h.low, h.sm⟩
theorem Wok.nm {K : Nat} {t : Wst} (h : Wok K t) {s : ByteArray} (hm : mayN s = true) : Wok (K + 16300) (t.1 ++ (nmT s t.1.length t.2.1 t.2.2).1, (nmT s t.1.length t.2.1 t.2.2).2) := by
  have N := nmT_is hm t.1.length t.2.1 t.2.2
  have h1 := h.len
  have h2 := h.lns
  have h3 := N.len
  have h4 := N.lnt
  exact ⟨by rw [List.length_append]; omega, by rw [List.length_append]; exact Nat.le_trans h4 (by omega), N.two h.two, N.low h.low, N.sm h.sm⟩
theorem Wok.put {K : Nat} {t : Wst} (h : Wok K t) (x : List UInt8) : Wok (K + x.length) (t.1 ++ x, t.2) := by
  have h1 := h.len
  have h2 := h.lns
  exact ⟨by rw [List.length_append]; omega, by rw [List.length_append]; exact Nat.le_trans h2 (by omega), h.two, h.low, h.sm⟩
theorem mayQ9_name {q : Qu} (h : mayQ9 q = true) : mayN q.name = true ∧ wordN q.ty = true ∧ wordN q.cl = true := by
  unfold mayQ9 at h
  simp only [Bool.and_eq_true] at h
  exact ⟨h.1.1, h.1.2, h.2⟩
theorem Wok.q {K : Nat} {t : Wst} (h : Wok K t) {q : Qu} (hm : mayQ9 q = true) : Wok (K + 16304) (qW t q) := (h.nm (mayQ9_name hm).1).put (twoL q.ty.toNat ++ twoL q.cl.toNat)
structure MayRec (r : Rec) : Prop where
  name : mayN r.name = true
  ty : 0 ≤ r.ty ∧ r.ty ≤ 65535
  cl : 0 ≤ r.cl ∧ r.cl ≤ 65535
  ttl : 0 ≤ r.ttl ∧ r.ttl ≤ 2147483647
  tg : r.ty = 5 → mayN r.tg = true
  da : r.da.size ≤ 65535
  body : bodyR r = true
theorem mayRec {r : Rec} (h : mayR r = true) : MayRec r := by
  unfold mayR headR at h
  simp only [Bool.and_eq_true, decide_eq_true_eq, wordN] at h
  obtain ⟨⟨⟨⟨⟨⟨h1, h2⟩, h3⟩, h4⟩, h5⟩, h6⟩, h7⟩ := h
  refine ⟨h1, h2, h3, ⟨h4, h5⟩, fun e => ?_, h6, h7⟩
  unfold bodyR at h7
  rw [if_neg (by omega), if_neg (by omega), if_pos e] at h7
  simp only [Bool.and_eq_true] at h7
  exact h7.1.1
theorem byB_len (b : List Nat) : (byB b).length = b.length := by simp [byB]
theorem Wok.da {K : Nat} {t : Wst} (h : Wok K t) {r : Rec} (hm : mayR r = true) (h16 : r.b.length = 16) : Wok (K + 65535) (t.1 ++ (daT r t.1.length t.2.1 t.2.2).1, (daT r t.1.length t.2.1 t.2.2).2) ∧ (daT r t.1.length t.2.1 t.2.2).1.length ≤ 65535 := by
  have M := mayRec hm
  unfold daT
  by_cases h1 : r.ty = 1
  · rw [if_pos h1]
    refine ⟨(h.put (byB (r.b.take 4))).wider ?_, ?_⟩
    · rw [byB_len, List.length_take]; omega
    · show (byB (r.b.take 4)).length ≤ _
      rw [byB_len, List.length_take]; omega
  · rw [if_neg h1]
    by_cases h2 : r.ty = 28
    · rw [if_pos h2]
      refine ⟨(h.put (byB r.b)).wider ?_, ?_⟩
      · rw [byB_len]; omega
      · show (byB r.b).length ≤ _
        rw [byB_len]; omega
    · rw [if_neg h2]
      by_cases h3 : r.ty = 5
      · rw [if_pos h3]
        exact ⟨(h.nm (M.tg h3)).wider (by omega), Nat.le_trans (nmT_is (M.tg h3) _ _ _).len (by omega)⟩
      · rw [if_neg h3]
        have := M.da
        refine ⟨(h.put r.da.data.toList).wider (by rw [data_size]; omega), ?_⟩
        show r.da.data.toList.length ≤ _
        rw [data_size]
        omega
/-- A record's head: its name, its numbers, two bytes for its size. -/
def hR (t : Wst) (r : Rec) (x : List UInt8) : Wst := (t.1 ++ (nmT r.name t.1.length t.2.1 t.2.2).1 ++ numsR r ++ x, (nmT r.name t.1.length t.2.1 t.2.2).2)
theorem hR_len (t : Wst) (r : Rec) (x : List UInt8) (hx : x.length = 2) : (hR t r x).1.length = atR t r := by
  simp only [hR, atR, List.length_append, numsR_len, hx]
theorem daR_hR (t : Wst) (r : Rec) (x : List UInt8) (hx : x.length = 2) : daR t r = daT r (hR t r x).1.length (hR t r x).2.1 (hR t r x).2.2 := by rw [hR_len t r x hx]; rfl
theorem Wok.head {K : Nat} {t : Wst} (h : Wok K t) {r : Rec} (hm : mayR r = true) (x : List UInt8) (hx : x.length = 2) : Wok (K + 16310) (hR t r x) := by
  have := ((h.nm (mayRec hm).name).put (numsR r)).put x
  rw [numsR_len, hx] at this
  exact this
theorem Wok.r {K : Nat} {t : Wst} (h : Wok K t) {r : Rec} (hm : mayR r = true) (h16 : r.b.length = 16) : Wok (K + 81845) (rW t r) ∧ Wok (K + 81845) (rU t r) ∧ (daR t r).1.length ≤ 65535 := by
  have h1 := (h.head hm (twoL (daR t r).1.length) rfl).da hm h16
  have h2 := (h.head hm [0, 0] rfl).da hm h16
  rw [← daR_hR t r _ rfl] at h1 h2
  exact ⟨h1.1, h2.1, h1.2⟩
theorem Wok.gq {t : Wst} (h : Wok 90000 t) {q : Qu} (hm : mayQ9 q = true) : Wok 90000 (gd qW t q) := by
  unfold gd
  by_cases hl : 1232 < t.1.length
  · rw [if_pos hl]; exact h
  · rw [if_neg hl]
    exact (Wok.q (K := 1232) ⟨by omega, h.lns, h.two, h.low, h.sm⟩ hm).wider (by omega)
end Go.Proofs.Yticdpidngmeebaa
/- Addresses that a walk holds; loads of them, guarded or not, and of their bytes alone; sixteen bytes stored whole. -/
namespace Go.Proofs.Yticdpidngmeebaa
open Go.RowKit
set_option linter.unusedVariables false
set_option maxRecDepth 20000

theorem HeldR.addr {L : List (Nat × Nat × List Value)} {W w : World} {G : Nat} {f : Int} {bs : List Nat} (h : HeldR L W w) (hA : AddrAt w G f bs) : HeldR ((G, 0, addrL f bs) :: L) W w := h.cons hA.range hA.lt
/-- An address of the list. -/
def InA (L : List (Nat × Nat × List Value)) (G : Nat) (f : Int) (bs : List Nat) : Prop := (G, 0, addrL f bs) ∈ L ∧ bs.length = 16
theorem yields_addr {ops : Array Oper} {op : Oper} {a : Act} {L : List (Nat × Nat × List Value)} {W : World} {G : Nat} {f : Int} {bs : List Nat} (hm : Hid (InA L G f bs)) (hw : Region.wanted op (yielded ops a.tmps) = true) (x : Operand) (ho : op.op = .load 40 x)
    (hx : a.eval x = .pointer (some ⟨G, 0, none⟩)) : YieldsIf Try.prog ops (HeldR L W) op (addrV f bs) a :=
  yieldsIf_load_mid hw 40 x ho G 0 hx (addrL f bs) _ (fun _ h => h.get hm.out.1) Try.underlying40 rfl (by rw [addr_size, addrL_len f bs hm.out.2])
theorem famR {L : List (Nat × Nat × List Value)} {G : Nat} {f : Int} {bs : List Nat} (h : InA L G f bs) (W : World) : CellR L W G 0 (.int .i64 f) := fun w hw => hw.cell h.1 0 _ rfl
/-- An address, loaded whole, guarded or not. -/
theorem load_addr_g {ops : Array Oper} {rest : List Oper} {op : Oper} {a : Act} {w : World} {Q : Exit → Act → World → Prop} {G : Nat} {f : Int} {bs : List Nat} (hA : Hid (AddrAt w G f bs)) (x : Operand) (hw : Region.wanted op (yielded ops a.tmps) = true) (ho : op.op = .load 40 x)
    (hx : a.eval x = .pointer (some ⟨G, 0, none⟩)) (h : wpList Try.prog ops Q rest (a.put op.dst (addrV f bs)) w) : wpList Try.prog ops Q (op :: rest) a w :=
  wpList_load_row hw 40 x ho G 0 hx (addrL f bs) _ hA.out.range Try.underlying40 rfl (by rw [addr_size, addrL_len f bs hA.out.len]) h
theorem drewN_below (w : World) (q : Nat) : Below w.heap.size w (w.drewN q) := ⟨rfl, rfl, rfl, Nat.le_refl _, fun _ _ => rfl⟩
theorem arr16_size : (Try.prog.info? 38).map (·.size) = some 16 := by kernel_rfl
/-- Sixteen bytes that lie somewhere. -/
structure B16 (w : World) (G o : Nat) (bs : List Nat) : Prop where
  len : bs.length = 16
  lt : G < w.heap.size
  range : w.rangeAt G o (bs.map fun n => Value.int .u8 ((n : Nat) : Int))
  there : w.there G o 16
theorem AddrAt.b16 {w : World} {G : Nat} {f : Int} {bs : List Nat} (h : AddrAt w G f bs) : B16 w G 1 bs := by
  refine ⟨h.len, h.lt, ?_, fun j hj => ?_⟩
  · intro j v hv
    have := h.range (j + 1) v (by rw [addrL, List.getElem?_cons_succ]; exact hv)
    rw [Nat.zero_add, Nat.add_comm] at this
    exact this
  · have := h.there (1 + j) (by omega)
    rw [Nat.zero_add] at this
    exact this
theorem B16.below {w w' : World} {G o : Nat} {bs : List Nat} (h : B16 w G o bs) (hb : Below w.heap.size w w') : B16 w' G o bs :=
  ⟨h.len, Nat.lt_of_lt_of_le h.lt hb.size, fun j v hv => by rw [hb.cell (p := ⟨G, o + j, none⟩) h.lt]; exact h.range j v hv, fun j hj => by
    rw [hb.cell (p := ⟨G, o + j, none⟩) h.lt, hb.frozen (p := ⟨G, o + j, none⟩) h.lt]
    exact h.there j hj⟩
/-- Sixteen bytes, loaded whole, guarded or not. -/
theorem load_b16 {ops : Array Oper} {rest : List Oper} {op : Oper} {a : Act} {w : World} {Q : Exit → Act → World → Prop} {G o : Nat} {bs : List Nat} (hA : Hid (B16 w G o bs)) (x : Operand) (hw : Region.wanted op (yielded ops a.tmps) = true) (ho : op.op = .load 38 x)
    (hx : a.eval x = .pointer (some ⟨G, o, none⟩)) (h : wpList Try.prog ops Q rest (a.put op.dst (arr16 bs)) w) : wpList Try.prog ops Q (op :: rest) a w :=
  wpList_load_row hw 38 x ho G o hx _ _ hA.out.range Try.underlying38 rfl (by rw [arr16_size, List.length_map, hA.out.len]) h
/-- Sixteen bytes, stored whole. -/
theorem store_b16 {ops : Array Oper} {rest : List Oper} {op : Oper} {a : Act} {w : World} {Q : Exit → Act → World → Prop} {G o : Nat} {bs0 : List Nat} (hA : Hid (B16 w G o bs0)) (x y : Operand) {bs : List Nat} (hl : Hid (bs.length = 16)) (hgd : op.guard = none) (ho : op.op = .store 38 x y)
    (hx : a.eval x = .pointer (some ⟨G, o, none⟩)) (hy : a.eval y = arr16 bs) (h : ∀ W, Hid (W = w.setCells G o (bs.map fun n => Value.int .u8 ((n : Nat) : Int))) → Hid (B16 W G o bs) → wpList Try.prog ops Q rest (a.put op.dst undef) W) : wpList Try.prog ops Q (op :: rest) a w := by
  have e1 : (bs.map fun n => Value.int .u8 ((n : Nat) : Int)).length = 16 := by rw [List.length_map, hl.out]
  refine wpList_store_mid hgd 38 x y ho G o (bs.map fun n => Value.int .u8 ((n : Nat) : Int)).toArray hx hy (by rw [List.size_toArray, e1]; exact hA.out.there) (by rw [arr16_size, List.size_toArray, e1]) (all_oneCell_toArray (fun v hv => by obtain ⟨n, _, rfl⟩ := List.mem_map.1 hv; rfl)) (h _ (Lib.hid rfl) (Lib.hid ⟨hl.out, by rw [size_setCells]; exact hA.out.lt, World.rangeAt_setCells_same _ _ _ _ (by rw [e1]; exact hA.out.there), World.there_setCells hA.out.there _ _ _⟩))
/-- Sixteen bytes, given back out of their cells. -/
theorem results_b16 {fn : Func} {a : Tmp} {tmps : Array Value} {W : World} {R : Nat} {bs : List Nat} (h : fn.results = #[.cell a 38]) (ha : tmps.getD a undef = .pointer (some ⟨R, 0, none⟩)) (hA : B16 W R 0 bs) : (results fn tmps).run Try.prog W = .ok (arr16 bs) W := by
  have hl : (loadVar 38 ⟨R, 0, none⟩).run Try.prog W = .ok (arr16 bs) W :=
    run_loadVar_mid W R 0 38 _ _ hA.range Try.underlying38 rfl (by rw [arr16_size, List.length_map, hA.len])
  rw [Array.getD_eq_getD_getElem?] at ha
  simp [results, h, ha, asAddr, hl]
/-- The cells of sixteen zeros. -/
abbrev z16 : Array Value := #[.int .u8 0, .int .u8 0, .int .u8 0, .int .u8 0, .int .u8 0, .int .u8 0, .int .u8 0, .int .u8 0, .int .u8 0, .int .u8 0, .int .u8 0, .int .u8 0, .int .u8 0, .int .u8 0, .int .u8 0, .int .u8 0]
theorem b16_new (w : World) (t : TypeId) (cs : Array Value) (bs : List Nat) (hl : bs.length = 16) (h : cs.toList = bs.map fun n => Value.int .u8 ((n : Nat) : Int)) : B16 (w.alloc (.cells cs t)) w.heap.size 0 bs := by
  have e : ∀ j, cs[j]? = (bs.map fun n => Value.int .u8 ((n : Nat) : Int))[j]? := fun j => by rw [← h, Array.getElem?_toList]
  refine ⟨hl, by simp, fun j v hv => ?_, fun j hj => ⟨?_, World.frozen?_alloc_new _ _ _ _⟩⟩
  · rw [World.cell?_alloc_new, Nat.zero_add, e]; exact hv
  · rw [World.cell?_alloc_new, Nat.zero_add, e, List.getElem?_map, List.getElem?_eq_getElem (by omega)]; rfl
/-- Sixteen bytes of the list. -/
def InB (L : List (Nat × Nat × List Value)) (G o : Nat) (bs : List Nat) : Prop := (G, o, bs.map fun n => Value.int .u8 ((n : Nat) : Int)) ∈ L ∧ bs.length = 16
theorem yields_b16 {ops : Array Oper} {op : Oper} {a : Act} {L : List (Nat × Nat × List Value)} {W : World} {G o : Nat} {bs : List Nat} (hm : Hid (InB L G o bs)) (hw : Region.wanted op (yielded ops a.tmps) = true) (x : Operand) (ho : op.op = .load 38 x)
    (hx : a.eval x = .pointer (some ⟨G, o, none⟩)) : YieldsIf Try.prog ops (HeldR L W) op (arr16 bs) a :=
  yieldsIf_load_mid hw 38 x ho G o hx _ _ (fun _ h => h.get hm.out.1) Try.underlying38 rfl (by rw [arr16_size, List.length_map, hm.out.2])
end Go.Proofs.Yticdpidngmeebaa
/- Contracts of text.digit and text.Number: the number of a text's digits. -/
namespace Go.Proofs.Yticdpidngmeebaa
open Go.RowKit
set_option linter.unusedVariables false
set_option maxRecDepth 20000

/-- A digit's number; 16: it is none. -/
def digC (c : Nat) : Nat := if 48 ≤ c ∧ c ≤ 57 then c - 48 else if 97 ≤ c ∧ c ≤ 102 then c - 87 else if 65 ≤ c ∧ c ≤ 70 then c - 55 else 16
theorem digC_le (c : Nat) : digC c ≤ 16 := by unfold digC; split; · omega
                                              split; · omega
                                              split <;> omega
/-- The byte at a place, or 0. -/
def byteOf (s : ByteArray) (k : Nat) : Nat := (s.data.toList.getD k 0).toNat
theorem byteOf_eq (s : ByteArray) (k : Nat) (h : k < s.size) : byteOf s k = (s[k]).toNat := by
  unfold byteOf
  rw [List.getD_eq_getElem?_getD, List.getElem?_eq_getElem (by simpa using h)]; rfl
def most : Nat := 1099511627776
/-- The number of the first k digits, if there is one. -/
def numTo (s : ByteArray) (b : Nat) : Nat → Option Nat
  | 0 => some 0
  | k + 1 => match numTo s b k with
    | none => none
    | some n => if b ≤ digC (byteOf s k) then none else if most < n * b + digC (byteOf s k) then none else some (n * b + digC (byteOf s k))
def numB (s : ByteArray) (b : Nat) : Option Nat := if s.size = 0 then none else numTo s b s.size
theorem numTo_none (s : ByteArray) (b k : Nat) (h : numTo s b k = none) : ∀ m, numTo s b (k + m) = none
  | 0 => h
  | m + 1 => by rw [← Nat.add_assoc, numTo, numTo_none s b k h m]
theorem numTo_le (s : ByteArray) (b : Nat) : ∀ k n, numTo s b k = some n → n ≤ most
  | 0, n, h => by simp [numTo] at h; omega
  | k + 1, n, h => by
    rw [numTo] at h
    cases hk : numTo s b k with
    | none => rw [hk] at h; cases h
    | some m =>
      rw [hk] at h
      simp only at h
      split at h
      · cases h
      · split at h
        · cases h
        · have := Option.some.inj h; omega
theorem numTo_step {s : ByteArray} {b k n : Nat} (h : numTo s b k = some n) (hk : k < s.size) :
    numTo s b (k + 1) = if b ≤ digC (s[k]).toNat then none else if most < n * b + digC (s[k]).toNat then none else some (n * b + digC (s[k]).toNat) := by
  rw [numTo, h, byteOf_eq s k hk]
theorem numB_dead {s : ByteArray} {b k : Nat} (hk : k < s.size) (h : numTo s b (k + 1) = none) : numB s b = none := by
  unfold numB
  rw [if_neg (by omega)]
  have := numTo_none s b (k + 1) h (s.size - (k + 1))
  rwa [show k + 1 + (s.size - (k + 1)) = s.size by omega] at this
/-- What Number answers. -/
def numRet (o : Option Nat) : Value := .tuple #[.int .i64 ((o.getD 0 : Nat) : Int), .bool o.isSome]

theorem num_ret {o p : Option Nat} (h : o = p) : Ending.returned (numRet o) = .returned (numRet p) := by rw [h]

end Go.Proofs.Yticdpidngmeebaa
/- Contracts of the reference's digit, Number and Decimal: a number's decimal digits, and how they are read back. -/
namespace Go.Proofs.Yticdpidngmeebaa
open Go.RowKit
set_option linter.unusedVariables false
set_option maxRecDepth 20000

/-- A digit's number as the reference tells it; -1: it is none. -/
def digI (c : Nat) : Int := if digC c < 16 then (digC c : Int) else -1

/-- Texts of lists of bytes, one behind the other. -/
theorem mk_append (l m : List UInt8) : (⟨l.toArray⟩ : ByteArray) ++ ⟨m.toArray⟩ = ⟨(l ++ m).toArray⟩ := by
  apply bytes_ext
  rw [data_append]
theorem dec_length (u : Nat) (h : u ≤ 9223372036854775807) : (Lib.decDigits u).length ≤ 21 := by
  have := Lib.itoa_length_le (u : Int) (by omega) (by omega)
  unfold Lib.itoa at this
  rw [if_neg (by omega)] at this
  simpa using this

theorem itoa_min : (Lib.itoa (-9223372036854775808)) = [45, 57, 50, 50, 51, 51, 55, 50, 48, 51, 54, 56, 53, 52, 55, 55, 53, 56, 48, 56] := by
  unfold Lib.itoa
  rw [if_pos (by decide)]
  simp [Lib.decDigits]

theorem byteOf_left (s X : ByteArray) (k : Nat) (h : k < s.size) : byteOf (s ++ X) k = byteOf s k := by
  unfold byteOf
  rw [data_append]
  simp only [List.getD_eq_getElem?_getD]
  rw [List.getElem?_append_left (by simpa using h)]
theorem numTo_left (s X : ByteArray) (b : Nat) : ∀ k, k ≤ s.size → numTo (s ++ X) b k = numTo s b k
  | 0, _ => rfl
  | k + 1, h => by rw [numTo, numTo, numTo_left s X b k (by omega), byteOf_left s X k (by omega)]
theorem digC_dec (d : Nat) (h : d < 10) : digC (UInt8.ofNat (48 + d)).toNat = d := by
  rw [UInt8.toNat_ofNat', Nat.mod_eq_of_lt (by omega)]
  unfold digC
  rw [if_pos (by omega)]
  omega
/-- The digits of a number, from 0 on, are read as the number, if it is not too great. -/
theorem dec_numTo (u : Nat) : numTo ⟨(Lib.decDigits u).toArray⟩ 10 (Lib.decDigits u).length = if u ≤ most then some u else none := by
  induction u using Nat.strongRecOn with
  | _ u ih =>
    by_cases h10 : u < 10
    · have e : Lib.decDigits u = [UInt8.ofNat (48 + u)] := by rw [Lib.decDigits, dif_pos h10]
      rw [e, if_pos (by unfold most; omega)]
      have hb : byteOf ⟨[UInt8.ofNat (48 + u)].toArray⟩ 0 = (UInt8.ofNat (48 + u)).toNat := rfl
      show numTo _ 10 (0 + 1) = _
      rw [numTo, numTo, hb, digC_dec u h10]
      simp only []
      rw [if_neg (by omega), if_neg (by unfold most; omega)]
      simp
    · have e : Lib.decDigits u = Lib.decDigits (u / 10) ++ [UInt8.ofNat (48 + u % 10)] := by rw [Lib.decDigits, dif_neg h10]
      have hi := ih (u / 10) (by omega)
      rw [e, ← mk_append, List.length_append, List.length_singleton]
      have hs : (⟨(Lib.decDigits (u / 10)).toArray⟩ : ByteArray).size = (Lib.decDigits (u / 10)).length := rfl
      have hb : byteOf ((⟨(Lib.decDigits (u / 10)).toArray⟩ : ByteArray) ++ ⟨[UInt8.ofNat (48 + u % 10)].toArray⟩) (Lib.decDigits (u / 10)).length = (UInt8.ofNat (48 + u % 10)).toNat := by
        unfold byteOf
        rw [data_append, List.getD_eq_getElem?_getD, List.getElem?_append_right (by simp)]
        simp
      rw [numTo, numTo_left _ _ _ _ (by rw [hs]; exact Nat.le_refl _), hi, hb, digC_dec _ (by omega)]
      by_cases hm : u / 10 ≤ most
      · rw [if_pos hm]
        simp only []
        rw [if_neg (by omega), show u / 10 * 10 + u % 10 = u by omega]
        by_cases h2 : most < u
        · rw [if_pos h2, if_neg (by omega)]
        · rw [if_neg h2, if_pos (by omega)]
      · rw [if_neg hm, if_neg (by omega)]
theorem dec_pos (u : Nat) : 0 < (Lib.decDigits u).length := by
  rw [Lib.decDigits]
  split <;> simp
theorem num_bad0 (s : ByteArray) (b j : Nat) (hj : j < s.size) (h : b ≤ digC (byteOf s j)) : numB s b = none := by
  apply numB_dead hj
  rw [numTo]
  cases numTo s b j with
  | none => rfl
  | some n => simp only [if_pos h]
/-- What Number answers of a number's digits. -/
theorem itoa_num (n : Int) : numB ⟨(Lib.itoa n).toArray⟩ 10 = if 0 ≤ n ∧ n ≤ 1099511627776 then some n.toNat else none := by
  by_cases hn : 0 ≤ n
  · obtain ⟨u, rfl⟩ : ∃ u : Nat, n = (u : Int) := ⟨n.toNat, by omega⟩
    have e : Lib.itoa (u : Int) = Lib.decDigits u := by unfold Lib.itoa; rw [if_neg (by omega)]; rfl
    rw [e]
    unfold numB
    have hs : (⟨(Lib.decDigits u).toArray⟩ : ByteArray).size = (Lib.decDigits u).length := rfl
    have hp := dec_pos u
    rw [hs, if_neg (by omega), dec_numTo]
    by_cases h : u ≤ most
    · rw [if_pos h, if_pos (by unfold most at h; omega)]; simp
    · rw [if_neg h, if_neg (by unfold most at h; omega)]
  · rw [if_neg (by omega)]
    have e : Lib.itoa n = 45 :: Lib.decDigits n.natAbs := by unfold Lib.itoa; rw [if_pos (by omega)]
    rw [e]
    apply num_bad0 _ _ 0
    · show 0 < (45 :: Lib.decDigits n.natAbs).length
      simp
    · show 10 ≤ digC 45
      decide
end Go.Proofs.Yticdpidngmeebaa
/- Contracts of four's readers of digits (a closure over the base), and of the reference's: a part's number, 2^32 at most. -/
namespace Go.Proofs.Yticdpidngmeebaa
open Go.RowKit
set_option linter.unusedVariables false
set_option maxRecDepth 20000

/-- The number of the first k digits, 2^32 at most, if all are digits. -/
def readTo (s : ByteArray) (b : Nat) : Nat → Option Nat
  | 0 => some 0
  | k + 1 => match readTo s b k with
    | none => none
    | some n => if b ≤ digC (byteOf s k) then none else some (min (n * b + digC (byteOf s k)) 4294967296)
def readF (s : ByteArray) (b : Nat) : Option Nat := readTo s b s.size
theorem readTo_none (s : ByteArray) (b k : Nat) (h : readTo s b k = none) : ∀ m, readTo s b (k + m) = none
  | 0 => h
  | m + 1 => by rw [← Nat.add_assoc, readTo, readTo_none s b k h m]
theorem readTo_le (s : ByteArray) (b : Nat) : ∀ k n, readTo s b k = some n → n ≤ 4294967296
  | 0, n, h => by simp [readTo] at h; omega
  | k + 1, n, h => by
    rw [readTo] at h
    cases hk : readTo s b k with
    | none => rw [hk] at h; cases h
    | some m =>
      rw [hk] at h
      simp only at h
      split at h
      · cases h
      · have := Option.some.inj h; omega
theorem readF_le (s : ByteArray) (b n : Nat) (h : readF s b = some n) : n ≤ 4294967296 := readTo_le s b _ n h
theorem readTo_step {s : ByteArray} {b k n : Nat} (h : readTo s b k = some n) (hk : k < s.size) :
    readTo s b (k + 1) = if b ≤ digC (s[k]).toNat then none else some (min (n * b + digC (s[k]).toNat) 4294967296) := by
  rw [readTo, h, byteOf_eq s k hk]
theorem readF_dead {s : ByteArray} {b k : Nat} (hk : k < s.size) (h : readTo s b (k + 1) = none) : readF s b = none := by
  unfold readF
  have := readTo_none s b (k + 1) h (s.size - (k + 1))
  rwa [show k + 1 + (s.size - (k + 1)) = s.size by omega] at this

/-- One digit, read alone. -/
theorem one_sign (s : ByteArray) (k b : Nat) (hk : k < s.size) (hb : b ≤ 16) : numB (s.extract k (k + 1)) b = if b ≤ digC (s[k]).toNat then none else some (digC (s[k]).toNat) := by
  have hz : (s.extract k (k + 1)).size = 1 := by simp; omega
  have e : byteOf (s.extract k (k + 1)) 0 = (s[k]).toNat := by
    rw [← byteOf_eq s k hk]
    unfold byteOf
    rw [data_extract]
    rw [List.getD_eq_getElem?_getD, List.getD_eq_getElem?_getD, List.getElem?_take, if_pos (by omega), List.getElem?_drop, Nat.add_zero]
  have hd := digC_le (s[k]).toNat
  unfold numB
  rw [if_neg (by omega), hz]
  simp only [numTo, e]
  split
  · rfl
  · rw [if_neg (by unfold most; omega)]; simp

/-- As the reference tells it; -1: there is none. -/
def optI : Option Nat → Int
  | none => -1
  | some n => n
theorem int_ret {a b : Int} (h : a = b) : Ending.returned (.int .i64 a) = .returned (.int .i64 b) := by rw [h]

end Go.Proofs.Yticdpidngmeebaa
/- Contracts of four.Of and four.Strict: the address of four bytes, and of a strict text. -/
namespace Go.Proofs.Yticdpidngmeebaa
open Go.RowKit
set_option linter.unusedVariables false
set_option maxRecDepth 20000

def arr4 (a b c d : Nat) : Value := .agg #[.int .u8 (a : Int), .int .u8 (b : Int), .int .u8 (c : Int), .int .u8 (d : Int)]
theorem or_low (X c : Nat) (hX : X < 16777216) (hc : c < 256) : bits .or .u32 ((X : Int) * 256) (c : Int) = ((X * 256 + c : Nat) : Int) := by
  rw [bits_join .u32 32 (by decide) (fun n h0 h1 => by rw [IntKind.wrap_u32]; omega) 8 ((X : Int) * 256) c (by omega) (by omega) (by omega) (by omega) (by omega) (by omega)]
  omega
/-- The first k of four bytes, as a number. -/
def ofTo (a b c d : Nat) : Nat → Nat
  | 0 => 0
  | 1 => a
  | 2 => a * 256 + b
  | 3 => (a * 256 + b) * 256 + c
  | _ => ((a * 256 + b) * 256 + c) * 256 + d
set_option maxRecDepth 100000 in
set_option maxHeartbeats 1000000 in
theorem of_any (a b c d : Nat) (w : World) (ha : a < 256) (hb : b < 256) (hc : c < 256) (hd : d < 256) :
    Calls Try.prog 99 #[arr4 a b c d] w fun e w' => e = .returned (.int .u32 (((a * 256 + b) * 256 + c) * 256 + d : Nat)) ∧ Below w.heap.size w w' := by
  unfold arr4
  have i0 : ∀ w : World, (Instr.index 143 (.agg #[.int .u8 (a : Int), .int .u8 (b : Int), .int .u8 (c : Int), .int .u8 (d : Int)]) (.int .i64 0)).run Try.prog w = .ok (.int .u8 (a : Int)) w := fun _ => by kernel_rfl
  have i1 : ∀ w : World, (Instr.index 143 (.agg #[.int .u8 (a : Int), .int .u8 (b : Int), .int .u8 (c : Int), .int .u8 (d : Int)]) (.int .i64 1)).run Try.prog w = .ok (.int .u8 (b : Int)) w := fun _ => by kernel_rfl
  have i2 : ∀ w : World, (Instr.index 143 (.agg #[.int .u8 (a : Int), .int .u8 (b : Int), .int .u8 (c : Int), .int .u8 (d : Int)]) (.int .i64 2)).run Try.prog w = .ok (.int .u8 (c : Int)) w := fun _ => by kernel_rfl
  have i3 : ∀ w : World, (Instr.index 143 (.agg #[.int .u8 (a : Int), .int .u8 (b : Int), .int .u8 (c : Int), .int .u8 (d : Int)]) (.int .i64 3)).run Try.prog w = .ok (.int .u8 (d : Int)) w := fun _ => by kernel_rfl
  go_enter Try.func99, Try.ntmps99
  go_wp2
  go_loop [3, 7] (fun t i => ∃ k X : Nat, k ≤ 4 ∧ i = .int .i64 k ∧ t = .int .u32 (X : Int) ∧ X < 256 ^ k ∧ Hid (X = ofTo a b c d k)) (fun _ i => 4 - (intOf i).toNat)
  case atStart => exact ⟨0, 0, Nat.zero_le _, rfl, rfl, by decide, Lib.hid rfl⟩
  case round =>
    obtain ⟨k, X, hk, rfl, rfl, hX, HX⟩ := hrel
    have hk5 : k = 0 ∨ k = 1 ∨ k = 2 ∨ k = 3 ∨ k = 4 := by omega
    rcases hk5 with rfl | rfl | rfl | rfl | rfl
    · have hXb : X < 16777216 := Nat.lt_of_lt_of_le hX (by decide)
      go_wp2
      exact ⟨⟨1, X * 256 + a, by omega, rfl, by rw [or_low X a hXb ha], by simp at hX ⊢; omega, Lib.hid (by rw [HX.out]; simp [ofTo])⟩, by decide⟩
    · have hXb : X < 16777216 := Nat.lt_of_lt_of_le hX (by decide)
      go_wp2
      exact ⟨⟨2, X * 256 + b, by omega, rfl, by rw [or_low X b hXb hb], by simp at hX ⊢; omega, Lib.hid (by rw [HX.out]; simp [ofTo])⟩, by decide⟩
    · have hXb : X < 16777216 := Nat.lt_of_lt_of_le hX (by decide)
      go_wp2
      exact ⟨⟨3, X * 256 + c, by omega, rfl, by rw [or_low X c hXb hc], by simp at hX ⊢; omega, Lib.hid (by rw [HX.out]; simp [ofTo])⟩, by decide⟩
    · have hXb : X < 16777216 := Nat.lt_of_lt_of_le hX (by decide)
      go_wp2
      exact ⟨⟨4, X * 256 + d, by omega, rfl, by rw [or_low X d hXb hd], by simp at hX ⊢; omega, Lib.hid (by rw [HX.out]; simp [ofTo])⟩, by decide⟩
    · go_wp2
      go_ret
      exact ⟨by have := HX.out; rw [this]; rfl, (Below.refl _ _).alloc (Nat.le_refl _) _⟩

/-- A part of a strict text. -/
def octet (p : ByteArray) : Option Nat :=
  match numB p 10 with
  | none => none
  | some n => if 255 < n then none else if 1 < p.size ∧ byteOf p 0 = 48 then none else some n
theorem octet_lt (p : ByteArray) (n : Nat) (h : octet p = some n) : n < 256 := by
  unfold octet at h
  split at h
  · cases h
  · split at h
    · cases h
    · split at h
      · cases h
      · have := Option.some.inj h; omega
/-- The number of the first k parts. -/
def octTo (l : List ByteArray) : Nat → Option Nat
  | 0 => some 0
  | k + 1 => match octTo l k with
    | none => none
    | some m => match octet (l.getD k ⟨#[]⟩) with
      | none => none
      | some n => some (m * 256 + n)
theorem octTo_none (l : List ByteArray) (k : Nat) (h : octTo l k = none) : ∀ m, octTo l (k + m) = none
  | 0 => h
  | m + 1 => by rw [← Nat.add_assoc, octTo, octTo_none l k h m]
theorem octTo_dead {l : List ByteArray} {k n : Nat} (hk : k ≤ n) (h : octTo l k = none) : octTo l n = none := by
  have := octTo_none l k h (n - k)
  rwa [show k + (n - k) = n by omega] at this
theorem octTo_step {l : List ByteArray} {k m n : Nat} (h : octTo l k = some m) (hn : octet (l.getD k ⟨#[]⟩) = some n) : octTo l (k + 1) = some (m * 256 + n) := by
  rw [octTo, h]
  simp only [hn]
theorem octTo_stop {l : List ByteArray} {k m : Nat} (h : octTo l k = some m) (hn : octet (l.getD k ⟨#[]⟩) = none) : octTo l (k + 1) = none := by
  rw [octTo, h]
  simp only [hn]
theorem octTo_lt (l : List ByteArray) : ∀ k m, octTo l k = some m → m < 256 ^ k
  | 0, m, h => by simp [octTo] at h; omega
  | k + 1, m, h => by
    rw [octTo] at h
    cases hk : octTo l k with
    | none => rw [hk] at h; cases h
    | some j =>
      have := octTo_lt l k j hk
      rw [hk] at h
      simp only at h
      split at h
      · cases h
      · rename_i n hn
        have h2 := octet_lt _ _ hn
        have := Option.some.inj h
        rw [Nat.pow_succ]
        omega
/-- A strict text's address. -/
def strictB (s : ByteArray) : Option Nat := if (pieces s 46).length = 4 then octTo (pieces s 46) 4 else none
theorem strictB_lt (s : ByteArray) (a : Nat) (h : strictB s = some a) : a < 4294967296 := by
  unfold strictB at h
  split at h
  · exact octTo_lt _ 4 a h
  · cases h
def strictRet (o : Option Nat) : Value := .tuple #[.int .u32 ((o.getD 0 : Nat) : Int), .bool o.isSome]
theorem strict_ret {o p : Option Nat} (h : o = p) : Ending.returned (strictRet o) = .returned (strictRet p) := by rw [h]

end Go.Proofs.Yticdpidngmeebaa
/- The contract of the reference's Strict. -/
namespace Go.Proofs.Yticdpidngmeebaa
open Go.RowKit
set_option linter.unusedVariables false
set_option maxRecDepth 20000

theorem strict_some {s : ByteArray} {a : Nat} {v : Int} (h : strictB s = some a) (hv : v = a) : Ending.returned (.tuple #[.int .u32 v, .bool true]) = .returned (strictRet (strictB s)) := by
  rw [h, hv]; rfl

end Go.Proofs.Yticdpidngmeebaa
/- Contracts of the reference's readers of layer 3: hex, gap, Groups. -/
namespace Go.Proofs.Yticdpidngmeebaa
open Go.RowKit
set_option linter.unusedVariables false
set_option maxRecDepth 20000

theorem optI_some {o : Option Nat} {v : Nat} (h : o = some v) : optI o = (v : Int) := by rw [h]; rfl
theorem optI_none {o : Option Nat} (h : o = none) : optI o = -1 := by rw [h]; rfl
/-- A group's number. -/
def hexG (p : ByteArray) : Option Nat := if 4 < p.size then none else numB p 16
theorem numTo_pow (s : ByteArray) : ∀ k n, numTo s 16 k = some n → n < 16 ^ k
  | 0, n, h => by simp [numTo] at h; omega
  | k + 1, n, h => by
    rw [numTo] at h
    cases hk : numTo s 16 k with
    | none => rw [hk] at h; cases h
    | some m =>
      have := numTo_pow s k m hk
      rw [hk] at h
      simp only at h
      split at h
      · cases h
      · split at h
        · cases h
        · have := Option.some.inj h
          rw [Nat.pow_succ]
          omega
theorem hexG_lt (p : ByteArray) (n : Nat) (h : hexG p = some n) : n < 65536 := by
  unfold hexG at h
  split at h
  · cases h
  · unfold numB at h
    split at h
    · cases h
    · exact Nat.lt_of_lt_of_le (numTo_pow p _ n h) (Nat.le_trans (Nat.pow_le_pow_right (by decide) (by omega : p.size ≤ 4)) (by decide))

/-- Where two colons stand first, among the first k places. -/
def gapTo (s : ByteArray) : Nat → Option Nat
  | 0 => none
  | k + 1 => match gapTo s k with
    | some i => some i
    | none => if byteOf s k = 58 ∧ byteOf s (k + 1) = 58 then some k else none
def gapB (s : ByteArray) : Option Nat := gapTo s (s.size - 1)
theorem gapTo_some (s : ByteArray) (k i : Nat) (h : gapTo s k = some i) : ∀ m, gapTo s (k + m) = some i
  | 0 => h
  | m + 1 => by rw [← Nat.add_assoc, gapTo, gapTo_some s k i h m]
theorem gapTo_found {s : ByteArray} {k n i : Nat} (hk : k ≤ n) (h : gapTo s k = some i) : gapTo s n = some i := by
  have := gapTo_some s k i h (n - k)
  rwa [show k + (n - k) = n by omega] at this
theorem gapTo_lt (s : ByteArray) : ∀ k i, gapTo s k = some i → i < k
  | 0, i, h => by cases h
  | k + 1, i, h => by
    rw [gapTo] at h
    cases hk : gapTo s k with
    | some j =>
      rw [hk] at h
      have := Option.some.inj h
      have := gapTo_lt s k j hk
      omega
    | none =>
      rw [hk] at h
      simp only at h
      split at h
      · have := Option.some.inj h; omega
      · cases h

/-- A row of one's own, over a lower base. -/
theorem own_lower {w : World} {B B' : Nat} {t : TypeId} {z : Nat} {v : Value} {n : Nat} {xs : List Value} (h : w.ownsRow B t z v n xs) (hB : B' ≤ B) : w.ownsRow B' t z v n xs := by
  obtain ⟨h1, h2⟩ := h
  refine ⟨h1, ?_⟩
  rcases h2 with h2 | ⟨g, cap, cur, e, hb, rest⟩
  · exact .inl h2
  · exact .inr ⟨g, cap, cur, e, by omega, rest⟩
/-- A row of one's own, behind a call that turned nothing of what was there. -/
theorem own_below {w w' : World} {B : Nat} {t : TypeId} {z : Nat} {v : Value} {n : Nat} {xs : List Value} (h : w.ownsRow B t z v n xs) (hb : Below w.heap.size w w') : w'.ownsRow B t z v n xs := by
  obtain ⟨h1, h2⟩ := h
  refine ⟨h1, ?_⟩
  rcases h2 with h2 | ⟨g, cap, cur, e, hB, hg, rest⟩
  · exact .inl h2
  · refine .inr ⟨g, cap, cur, e, hB, ?_, rest⟩
    rw [hb.block g (by
      rcases Nat.lt_or_ge g w.heap.size with h | h
      · exact h
      · rw [Array.getElem?_eq_none h] at hg; cases hg)]
    exact hg
theorem cells_new (w : World) (l : List Value) (t : TypeId) : ∀ j u, l[j]? = some u → (w.alloc (.cells l.toArray t)).cell? ((⟨w.heap.size, 0, none⟩ : Addr).add j) = some u := by
  intro j u h
  rw [add_none]
  simp [World.cell?_alloc_new, h]
/-- Numbers, as cells. -/
def ints (l : List Nat) : List Value := l.map fun n => Value.int .i64 ((n : Nat) : Int)
theorem ints_length (l : List Nat) : (ints l).length = l.length := by simp [ints]
theorem ints_append (l m : List Nat) : ints (l ++ m) = ints l ++ ints m := by simp [ints]
theorem Try.infoInt : (Try.prog.info? 3).map (fun i => (i.zero, i.size, i.bytes)) = some (some (.int .i64 0), 1, 8) := by kernel_rfl
/-- More numbers behind a row of numbers of one's own. -/
theorem own_ints {w0 wr w1 : World} {v v' : Value} {l m : List Nat} {o : Obj} (hown' : w1.ownsRow w0.heap.size 3 1 v' (l.length + m.length) (ints l ++ ints m))
    (hg : (wr.alloc o).grownBy w1 v.ownBlock) (hown : wr.ownsRow w0.heap.size 3 1 v l.length (ints l)) (hb : Below w0.heap.size w0 wr) :
    w1.ownsRow w0.heap.size 3 1 v' (l ++ m).length (ints (l ++ m)) ∧ Below w0.heap.size w0 w1 := by
  refine ⟨by rw [ints_append]; simpa using hown', ?_⟩
  refine (hb.alloc hb.size o).grown hg (by have := hb.size; simp; omega) ?_
  intro k hk
  exact (hown.lt k hk).1

/-- The groups of the first k pieces. -/
def grTo (l : List ByteArray) (dot : Bool) : Nat → Option (List Nat)
  | 0 => some []
  | k + 1 => match grTo l dot k with
    | none => none
    | some out => match hexG (l.getD k ⟨#[]⟩) with
      | some v => some (out ++ [v])
      | none => match strictB (l.getD k ⟨#[]⟩) with
        | none => none
        | some v => if dot = true ∧ ¬ k + 1 < l.length then some (out ++ [v / 65536, v % 65536]) else none
def groupsB (s : ByteArray) (dot : Bool) : Option (List Nat) := if s.size = 0 then some [] else grTo (pieces s 58) dot (pieces s 58).length
theorem grTo_none (l : List ByteArray) (dot : Bool) (k : Nat) (h : grTo l dot k = none) : ∀ m, grTo l dot (k + m) = none
  | 0 => h
  | m + 1 => by rw [← Nat.add_assoc, grTo, grTo_none l dot k h m]
theorem grTo_dead {l : List ByteArray} {dot : Bool} {k n : Nat} (hk : k ≤ n) (h : grTo l dot k = none) : grTo l dot n = none := by
  have := grTo_none l dot k h (n - k)
  rwa [show k + (n - k) = n by omega] at this
theorem grTo_hex {l : List ByteArray} {dot : Bool} {k v : Nat} {out : List Nat} (h : grTo l dot k = some out) (hv : hexG (l.getD k ⟨#[]⟩) = some v) : grTo l dot (k + 1) = some (out ++ [v]) := by
  rw [grTo, h]; simp only [hv]
theorem grTo_strict {l : List ByteArray} {dot : Bool} {k v : Nat} {out : List Nat} (h : grTo l dot k = some out) (hx : hexG (l.getD k ⟨#[]⟩) = none) (hv : strictB (l.getD k ⟨#[]⟩) = some v) :
    grTo l dot (k + 1) = if dot = true ∧ ¬ k + 1 < l.length then some (out ++ [v / 65536, v % 65536]) else none := by
  rw [grTo, h]; simp only [hx, hv]
theorem grTo_stop {l : List ByteArray} {dot : Bool} {k : Nat} {out : List Nat} (h : grTo l dot k = some out) (hx : hexG (l.getD k ⟨#[]⟩) = none) (hv : strictB (l.getD k ⟨#[]⟩) = none) : grTo l dot (k + 1) = none := by
  rw [grTo, h]; simp only [hx, hv]
theorem grTo_lt (l : List ByteArray) (dot : Bool) : ∀ k out, grTo l dot k = some out → ∀ x ∈ out, x < 65536
  | 0, out, h => by
    have := Option.some.inj h
    subst this
    simp
  | k + 1, out, h => by
    cases hk : grTo l dot k with
    | none => rw [grTo, hk] at h; cases h
    | some o =>
      have ih := grTo_lt l dot k o hk
      cases hx : hexG (l.getD k ⟨#[]⟩) with
      | some v =>
        rw [grTo_hex hk hx] at h
        have := Option.some.inj h
        subst this
        intro x hm
        rcases List.mem_append.1 hm with hm | hm
        · exact ih x hm
        · rw [List.mem_singleton] at hm; rw [hm]; exact hexG_lt _ _ hx
      | none =>
        cases hv : strictB (l.getD k ⟨#[]⟩) with
        | none => rw [grTo_stop hk hx hv] at h; cases h
        | some v =>
          rw [grTo_strict hk hx hv] at h
          have hvl := strictB_lt _ _ hv
          split at h
          · have := Option.some.inj h
            subst this
            intro x hm
            rcases List.mem_append.1 hm with hm | hm
            · exact ih x hm
            · simp at hm
              omega
          · cases h
theorem groupsB_lt (s : ByteArray) (dot : Bool) (out : List Nat) (h : groupsB s dot = some out) : ∀ x ∈ out, x < 65536 := by
  unfold groupsB at h
  split at h
  · have := Option.some.inj h
    subst this
    simp
  · exact grTo_lt _ _ _ _ h
/-- What Groups hands back: a row of its own. -/
def GrRet (w : World) (o : Option (List Nat)) (e : Ending) (w' : World) : Prop :=
  ∃ v, e = .returned (.tuple #[v, .bool o.isSome]) ∧ w'.ownsRow w.heap.size 3 1 v (o.getD []).length (ints (o.getD [])) ∧ Below w.heap.size w w'
theorem gr_none {w w' : World} {o : Option (List Nat)} (h : o = none) (hb : Below w.heap.size w w') : GrRet w o (.returned (.tuple #[.slice none 0 0, .bool false])) w' := by
  subst h
  exact ⟨_, rfl, World.ownsRow_nil _ _ _ _, hb⟩
theorem gr_some {w w' : World} {o : Option (List Nat)} {l : List Nat} {v : Value} (h : o = some l) (ho : w'.ownsRow w.heap.size 3 1 v l.length (ints l)) (hb : Below w.heap.size w w') : GrRet w o (.returned (.tuple #[v, .bool true])) w' := by
  subst h
  exact ⟨_, rfl, ho, hb⟩

end Go.Proofs.Yticdpidngmeebaa
/- The contract of the reference's Parse of layer 3. -/
namespace Go.Proofs.Yticdpidngmeebaa
open Go.RowKit
set_option linter.unusedVariables false
set_option maxRecDepth 20000

/-- An array of eight groups lies at B. -/
structure Arr8 (w : World) (B : Nat) (gs : List Nat) : Prop where
  len : gs.length = 8
  lt : B < w.heap.size
  cells : ∀ j, j < 8 → w.cell? ⟨B, j, none⟩ = some (.int .u16 ((gs.getD j 0 : Nat) : Int))
  live : ∀ j, j < 8 → w.frozen? ⟨B, j, none⟩ = false
theorem Arr8.below {w w' : World} {B : Nat} {gs : List Nat} (h : Arr8 w B gs) (hb : Below w.heap.size w w') : Arr8 w' B gs :=
  ⟨h.len, Nat.lt_of_lt_of_le h.lt hb.size, fun j hj => by rw [hb.cell (p := ⟨B, j, none⟩) h.lt]; exact h.cells j hj, fun j hj => by rw [hb.frozen (p := ⟨B, j, none⟩) h.lt]; exact h.live j hj⟩
theorem Arr8.all {w : World} {B : Nat} {x0 x1 x2 x3 x4 x5 x6 x7 : Nat} (h : Arr8 w B [x0, x1, x2, x3, x4, x5, x6, x7]) :
    w.cell? ⟨B, 0, none⟩ = some (.int .u16 (x0 : Int)) ∧ w.cell? ⟨B, 1, none⟩ = some (.int .u16 (x1 : Int)) ∧ w.cell? ⟨B, 2, none⟩ = some (.int .u16 (x2 : Int)) ∧ w.cell? ⟨B, 3, none⟩ = some (.int .u16 (x3 : Int)) ∧ w.cell? ⟨B, 4, none⟩ = some (.int .u16 (x4 : Int)) ∧ w.cell? ⟨B, 5, none⟩ = some (.int .u16 (x5 : Int)) ∧ w.cell? ⟨B, 6, none⟩ = some (.int .u16 (x6 : Int)) ∧ w.cell? ⟨B, 7, none⟩ = some (.int .u16 (x7 : Int)) :=
  ⟨h.cells 0 (by decide), h.cells 1 (by decide), h.cells 2 (by decide), h.cells 3 (by decide), h.cells 4 (by decide), h.cells 5 (by decide), h.cells 6 (by decide), h.cells 7 (by decide)⟩
theorem Arr8.lives {w : World} {B : Nat} {gs : List Nat} (h : Arr8 w B gs) :
    w.frozen? ⟨B, 0, none⟩ = false ∧ w.frozen? ⟨B, 1, none⟩ = false ∧ w.frozen? ⟨B, 2, none⟩ = false ∧ w.frozen? ⟨B, 3, none⟩ = false ∧ w.frozen? ⟨B, 4, none⟩ = false ∧ w.frozen? ⟨B, 5, none⟩ = false ∧ w.frozen? ⟨B, 6, none⟩ = false ∧ w.frozen? ⟨B, 7, none⟩ = false :=
  ⟨h.live 0 (by decide), h.live 1 (by decide), h.live 2 (by decide), h.live 3 (by decide), h.live 4 (by decide), h.live 5 (by decide), h.live 6 (by decide), h.live 7 (by decide)⟩
theorem Arr8.zero (w : World) (t : TypeId) : Arr8 (w.alloc (.cells #[.int .u16 0, .int .u16 0, .int .u16 0, .int .u16 0, .int .u16 0, .int .u16 0, .int .u16 0, .int .u16 0] t)) w.heap.size [0, 0, 0, 0, 0, 0, 0, 0] := by
  refine ⟨rfl, by simp, ?_, ?_⟩
  · intro j hj
    have : j = 0 ∨ j = 1 ∨ j = 2 ∨ j = 3 ∨ j = 4 ∨ j = 5 ∨ j = 6 ∨ j = 7 := by omega
    rcases this with rfl | rfl | rfl | rfl | rfl | rfl | rfl | rfl <;> simp [World.cell?_alloc_new]
  · intro j hj
    exact World.frozen?_alloc_new _ _ _ _
theorem Arr8.set {w : World} {B k : Nat} {gs : List Nat} (h : Arr8 w B gs) (hk : k < 8) (v : Nat) : Arr8 (w.setCell ⟨B, k, none⟩ (.int .u16 ((v : Nat) : Int))) B (gs.set k v) := by
  refine ⟨by simp [h.len], by simpa using h.lt, ?_, ?_⟩
  · intro j hj
    by_cases e : j = k
    · subst e
      rw [World.cell?_setCell_same _ _ _ (h.cells j hj), List.getD_eq_getElem?_getD, List.getElem?_set_self (by rw [h.len]; exact hj)]
      rfl
    · rw [World.cell?_setCell_other _ _ _ _ (by intro h2; injection h2 with _ h3 _; exact e h3.symm), h.cells j hj, List.getD_eq_getElem?_getD, List.getD_eq_getElem?_getD, List.getElem?_set_ne (by omega)]
  · intro j hj
    rw [World.frozen?_setCell]
    exact h.live j hj
theorem Arr8.other {w : World} {B B' k : Nat} {gs : List Nat} (h : Arr8 w B gs) (hB : B' ≠ B) (u : Value) : Arr8 (w.setCell ⟨B', k, none⟩ u) B gs := by
  refine ⟨h.len, by simpa using h.lt, ?_, ?_⟩
  · intro j hj
    rw [World.cell?_setCell_other _ _ _ _ (by intro h2; injection h2 with h3 _ _; exact hB h3)]
    exact h.cells j hj
  · intro j hj
    rw [World.frozen?_setCell]
    exact h.live j hj
/-- Eight groups, stored one by one. -/
def store8 (W : World) (R : Nat) (y0 y1 y2 y3 y4 y5 y6 y7 : Nat) : World := ((((((((W.setCell ⟨R, 0, none⟩ (.int .u16 ((y0 : Nat) : Int))).setCell ⟨R, 1, none⟩ (.int .u16 ((y1 : Nat) : Int))).setCell ⟨R, 2, none⟩ (.int .u16 ((y2 : Nat) : Int))).setCell ⟨R, 3, none⟩ (.int .u16 ((y3 : Nat) : Int))).setCell ⟨R, 4, none⟩ (.int .u16 ((y4 : Nat) : Int))).setCell ⟨R, 5, none⟩ (.int .u16 ((y5 : Nat) : Int))).setCell ⟨R, 6, none⟩ (.int .u16 ((y6 : Nat) : Int))).setCell ⟨R, 7, none⟩ (.int .u16 ((y7 : Nat) : Int)))
theorem store8_arr {W : World} {R : Nat} {gs : List Nat} (y0 y1 y2 y3 y4 y5 y6 y7 : Nat) (h : Arr8 W R gs) : Arr8 (store8 W R y0 y1 y2 y3 y4 y5 y6 y7) R [y0, y1, y2, y3, y4, y5, y6, y7] := by
  obtain ⟨a, b, c, d, e, f, g, i, rfl⟩ := list8 gs h.len
  exact (((((((h.set (k := 0) (by decide) y0).set (k := 1) (by decide) y1).set (k := 2) (by decide) y2).set (k := 3) (by decide) y3).set (k := 4) (by decide) y4).set (k := 5) (by decide) y5).set (k := 6) (by decide) y6).set (k := 7) (by decide) y7
theorem store8_below {w W : World} {R : Nat} (y0 y1 y2 y3 y4 y5 y6 y7 : Nat) (h : Below w.heap.size w W) (hR : w.heap.size ≤ R) : Below w.heap.size w (store8 W R y0 y1 y2 y3 y4 y5 y6 y7) :=
  (((((((h.setCell (p := ⟨R, 0, none⟩) hR _).setCell (p := ⟨R, 1, none⟩) hR _).setCell (p := ⟨R, 2, none⟩) hR _).setCell (p := ⟨R, 3, none⟩) hR _).setCell (p := ⟨R, 4, none⟩) hR _).setCell (p := ⟨R, 5, none⟩) hR _).setCell (p := ⟨R, 6, none⟩) hR _).setCell (p := ⟨R, 7, none⟩) hR _
/-- A row of numbers, as a walk reads it; it may be nil. -/
structure IntRow (w : World) (B : Nat) (b : Option Addr) (n c : Nat) (l : List Nat) : Prop where
  len : l.length = n
  cap : n ≤ c
  capm : c ≤ maxLen
  lies : n = 0 ∨ ∃ h, b = some ⟨h, 0, none⟩ ∧ B ≤ h ∧ h < w.heap.size ∧ ∀ j, j < n → w.cell? ⟨h, j, none⟩ = some (.int .i64 ((l.getD j 0 : Nat) : Int))
theorem IntRow.of_own {w : World} {B : Nat} {v : Value} {l : List Nat} (h : w.ownsRow B 3 1 v l.length (ints l)) : ∃ b c, v = .slice b l.length c ∧ IntRow w B b l.length c l := by
  have hh := h
  rcases h.2 with ⟨rfl, h0⟩ | ⟨g, cap, cur, rfl, hB, hg, h1, h2, _⟩
  · exact ⟨none, 0, by rw [h0], rfl, by omega, Nat.zero_le _, .inl h0⟩
  · refine ⟨some ⟨g, 0, none⟩, cap, rfl, rfl, h1, h2, .inr ⟨g, rfl, hB, ?_, ?_⟩⟩
    · rcases Nat.lt_or_ge g w.heap.size with h | h
      · exact h
      · rw [Array.getElem?_eq_none h] at hg; cases hg
    · intro j hj
      rw [hh.cellAt j (by omega)]
      simp [ints, hj]
theorem IntRow.below {w w' : World} {B n c : Nat} {b : Option Addr} {l : List Nat} (h : IntRow w B b n c l) (hb : Below w.heap.size w w') : IntRow w' B b n c l :=
  ⟨h.len, h.cap, h.capm, h.lies.imp id fun ⟨g, e, hB, hg, hc⟩ => ⟨g, e, hB, Nat.lt_of_lt_of_le hg hb.size, fun j hj => by rw [hb.cell (p := ⟨g, j, none⟩) hg]; exact hc j hj⟩⟩
theorem IntRow.other {w : World} {B B' k n c : Nat} {b : Option Addr} {l : List Nat} (h : IntRow w B b n c l) (hB' : B' < B) (u : Value) : IntRow (w.setCell ⟨B', k, none⟩ u) B b n c l :=
  ⟨h.len, h.cap, h.capm, h.lies.imp id fun ⟨g, e, hB, hg, hc⟩ => ⟨g, e, hB, by simpa using hg, fun j hj => by
    rw [World.cell?_setCell_other _ _ _ _ (by intro h2; injection h2 with h3 _ _; omega)]
    exact hc j hj⟩⟩
theorem groupsB_len (s : ByteArray) (dot : Bool) : ((groupsB s dot).getD []).length ≤ 2 * (s.size + 1) := by
  have key : ∀ (l : List ByteArray) k out, grTo l dot k = some out → out.length ≤ 2 * k := by
    intro l k
    induction k with
    | zero => intro out h; have := Option.some.inj h; subst this; simp
    | succ k ih =>
      intro out h
      cases hk : grTo l dot k with
      | none => rw [grTo, hk] at h; cases h
      | some o =>
        have := ih o hk
        cases hx : hexG (l.getD k ⟨#[]⟩) with
        | some v =>
          rw [grTo_hex hk hx] at h
          have := Option.some.inj h
          subst this
          simp
          omega
        | none =>
          cases hv : strictB (l.getD k ⟨#[]⟩) with
          | none => rw [grTo_stop hk hx hv] at h; cases h
          | some v =>
            rw [grTo_strict hk hx hv] at h
            split at h
            · have := Option.some.inj h
              subst this
              simp
              omega
            · cases h
  unfold groupsB
  split
  · simp
  · cases h : grTo (pieces s 58) dot (pieces s 58).length with
    | none => simp
    | some out =>
      have h1 := key _ _ _ h
      have h2 := pieces_len s 58
      show out.length ≤ _
      omega
theorem set_behind (a b : List Nat) (na nb m q : Nat) (ha : a.length = na) (hb : b.length = nb) (h7 : na + nb ≤ 7) (hm : m < nb) (hq : 8 - nb + m = q) :
    ((a ++ List.replicate (8 - na - nb) 0) ++ (b.take m ++ List.replicate (nb - m) 0)).set q (b.getD m 0) = (a ++ List.replicate (8 - na - nb) 0) ++ (b.take (m + 1) ++ List.replicate (nb - (m + 1)) 0) := by
  have e : b.take (m + 1) = b.take m ++ [b.getD m 0] := by rw [List.take_add_one, List.getD_eq_getElem?_getD, List.getElem?_eq_getElem (by omega)]; rfl
  have hl : (b.take m).length = m := by simp; omega
  have hp : (a ++ List.replicate (8 - na - nb) 0).length = 8 - nb := by simp; omega
  rw [List.set_append_right _ _ (by rw [hp]; omega), hp, show q - (8 - nb) = m by omega, List.set_append_right _ _ (by omega), hl, Nat.sub_self, show nb - m = (nb - (m + 1)) + 1 by omega, List.replicate_succ, List.set_cons_zero, e]
  simp
theorem set_next (a : List Nat) (k : Nat) (hk : k < a.length) (h8 : k < 8) : (a.take k ++ List.replicate (8 - k) 0).set k (a.getD k 0) = a.take (k + 1) ++ List.replicate (8 - (k + 1)) 0 := by
  have hl : (a.take k).length = k := by simp; omega
  have e : a.take (k + 1) = a.take k ++ [a.getD k 0] := by rw [List.take_add_one, List.getD_eq_getElem?_getD, List.getElem?_eq_getElem hk]; rfl
  rw [e, List.set_append_right _ _ (by omega), hl, Nat.sub_self, show 8 - k = (8 - (k + 1)) + 1 by omega, List.replicate_succ, List.set_cons_zero, List.append_assoc]
  rfl
/-- The groups ahead of two colons, zeros, the groups behind. -/
def mergeB (oa ob : Option (List Nat)) : Option (List Nat) :=
  match oa, ob with
  | some a, some b => if 7 < a.length + b.length then none else some (a ++ List.replicate (8 - a.length - b.length) 0 ++ b)
  | _, _ => none
def parseB (s : ByteArray) : Option (List Nat) :=
  match gapB s with
  | none => match groupsB s true with
    | none => none
    | some l => if l.length = 8 then some l else none
  | some k => mergeB (groupsB (s.extract 0 k) false) (groupsB (s.extract (k + 2) s.size) true)
def arr8 (l : List Nat) : Value := .agg (l.map fun n => Value.int .u16 ((n : Nat) : Int)).toArray
def parseRet (o : Option (List Nat)) : Value := .tuple #[arr8 (o.getD [0, 0, 0, 0, 0, 0, 0, 0]), .bool o.isSome]

end Go.Proofs.Yticdpidngmeebaa
/- Contracts of the reference's Of4 and Of6 of layer 4. -/
namespace Go.Proofs.Yticdpidngmeebaa
open Go.RowKit
set_option linter.unusedVariables false
set_option maxRecDepth 20000

/-- Eight groups in a block (where the dump holds 92). -/
theorem Arr8.of8 (w : World) (t : TypeId) (x0 x1 x2 x3 x4 x5 x6 x7 : Nat) : Arr8 (w.alloc (.cells #[.int .u16 (x0 : Int), .int .u16 (x1 : Int), .int .u16 (x2 : Int), .int .u16 (x3 : Int), .int .u16 (x4 : Int), .int .u16 (x5 : Int), .int .u16 (x6 : Int), .int .u16 (x7 : Int)] t)) w.heap.size [x0, x1, x2, x3, x4, x5, x6, x7] := by
  refine ⟨rfl, by simp, ?_, fun j _ => World.frozen?_alloc_new _ _ _ _⟩
  intro j hj
  have : j = 0 ∨ j = 1 ∨ j = 2 ∨ j = 3 ∨ j = 4 ∨ j = 5 ∨ j = 6 ∨ j = 7 := by omega
  rcases this with rfl | rfl | rfl | rfl | rfl | rfl | rfl | rfl <;> simp [World.cell?_alloc_new]

/-- What Of4 has laid behind k rounds. -/
def lo4 (n : Nat) : Nat → List Nat
  | 0 => List.replicate 16 0
  | k + 1 => (lo4 n k).set (3 - k) (n / 256 ^ k % 256)
def b4 (n : Nat) : List Nat := lo4 n 4
theorem b4_eq (n : Nat) : b4 n = [n / 16777216 % 256, n / 65536 % 256, n / 256 % 256, n % 256, 0, 0, 0, 0, 0, 0, 0, 0, 0, 0, 0, 0] := by
  simp [b4, lo4]
theorem b4_len (n : Nat) : (b4 n).length = 16 := by rw [b4_eq]; rfl
theorem zero_addr (f : Int) : (#[.int .i64 f, .int .u8 0, .int .u8 0, .int .u8 0, .int .u8 0, .int .u8 0, .int .u8 0, .int .u8 0, .int .u8 0, .int .u8 0, .int .u8 0, .int .u8 0, .int .u8 0, .int .u8 0, .int .u8 0, .int .u8 0, .int .u8 0] : Array Value).toList = Value.int .i64 f :: (List.replicate 16 0).map fun n => Value.int .u8 ((n : Nat) : Int) := rfl
set_option maxRecDepth 100000 in
set_option maxHeartbeats 2000000 in
theorem refOf4_any (n : Nat) (w : World) (hn : n ≤ 4294967295) :
    Calls Try.prog 75 #[.int .u32 (n : Int)] w fun e w' => e = .returned (addrV 4 (b4 n)) ∧ Below w.heap.size w w' := by
  have hR := AddrAt.of w 40 #[.int .i64 0, .int .u8 0, .int .u8 0, .int .u8 0, .int .u8 0, .int .u8 0, .int .u8 0, .int .u8 0, .int .u8 0, .int .u8 0, .int .u8 0, .int .u8 0, .int .u8 0, .int .u8 0, .int .u8 0, .int .u8 0, .int .u8 0] 0 (List.replicate 16 0) rfl (zero_addr 0)
  have hP := AddrAt.of (w.alloc (.cells #[.int .i64 0, .int .u8 0, .int .u8 0, .int .u8 0, .int .u8 0, .int .u8 0, .int .u8 0, .int .u8 0, .int .u8 0, .int .u8 0, .int .u8 0, .int .u8 0, .int .u8 0, .int .u8 0, .int .u8 0, .int .u8 0, .int .u8 0] 40)) 40 #[.int .i64 4, .int .u8 0, .int .u8 0, .int .u8 0, .int .u8 0, .int .u8 0, .int .u8 0, .int .u8 0, .int .u8 0, .int .u8 0, .int .u8 0, .int .u8 0, .int .u8 0, .int .u8 0, .int .u8 0, .int .u8 0, .int .u8 0] 4 (List.replicate 16 0) rfl (zero_addr 4)
  have b1 : Below w.heap.size w (w.alloc (.cells #[.int .i64 0, .int .u8 0, .int .u8 0, .int .u8 0, .int .u8 0, .int .u8 0, .int .u8 0, .int .u8 0, .int .u8 0, .int .u8 0, .int .u8 0, .int .u8 0, .int .u8 0, .int .u8 0, .int .u8 0, .int .u8 0, .int .u8 0] 40)) := (Below.refl _ _).alloc (Nat.le_refl _) _
  have b2 := b1.alloc b1.size (.cells #[.int .i64 4, .int .u8 0, .int .u8 0, .int .u8 0, .int .u8 0, .int .u8 0, .int .u8 0, .int .u8 0, .int .u8 0, .int .u8 0, .int .u8 0, .int .u8 0, .int .u8 0, .int .u8 0, .int .u8 0, .int .u8 0, .int .u8 0] 40)
  have hR2 := hR.below ((Below.refl _ _).alloc (Nat.le_refl _) (.cells #[.int .i64 4, .int .u8 0, .int .u8 0, .int .u8 0, .int .u8 0, .int .u8 0, .int .u8 0, .int .u8 0, .int .u8 0, .int .u8 0, .int .u8 0, .int .u8 0, .int .u8 0, .int .u8 0, .int .u8 0, .int .u8 0, .int .u8 0] 40))
  have e1 : (w.alloc (.cells #[.int .i64 0, .int .u8 0, .int .u8 0, .int .u8 0, .int .u8 0, .int .u8 0, .int .u8 0, .int .u8 0, .int .u8 0, .int .u8 0, .int .u8 0, .int .u8 0, .int .u8 0, .int .u8 0, .int .u8 0, .int .u8 0, .int .u8 0] 40)).heap.size = w.heap.size + 1 := by simp
  rw [e1] at hP
  clear hR b1
  go_enter Try.func75, Try.ntmps75
  go_wp2_with fail
  generalize ((w.alloc (.cells #[.int .i64 0, .int .u8 0, .int .u8 0, .int .u8 0, .int .u8 0, .int .u8 0, .int .u8 0, .int .u8 0, .int .u8 0, .int .u8 0, .int .u8 0, .int .u8 0, .int .u8 0, .int .u8 0, .int .u8 0, .int .u8 0, .int .u8 0] 40)).alloc (.cells #[.int .i64 4, .int .u8 0, .int .u8 0, .int .u8 0, .int .u8 0, .int .u8 0, .int .u8 0, .int .u8 0, .int .u8 0, .int .u8 0, .int .u8 0, .int .u8 0, .int .u8 0, .int .u8 0, .int .u8 0, .int .u8 0, .int .u8 0] 40)) = W at *
  clear e1
  have HR := Lib.hid hR2
  have HP := Lib.hid hP
  clear hR2 hP
  go_loopw [0, 4] (fun t i wr => ∃ (k X : Nat) (l : List Nat), k ≤ 4 ∧ i = .int .i64 ((3 : Int) - (k : Int)) ∧ t = .int .u32 (X : Int) ∧ X ≤ 4294967295 ∧ Hid (X = n / 256 ^ k) ∧ Hid (AddrAt wr w.heap.size 0 (List.replicate 16 0)) ∧ Hid (AddrAt wr (w.heap.size + 1) 4 l) ∧ Hid (l = lo4 n k) ∧ Below w.heap.size w wr) (fun _ i _ => ((intOf i) + 1).toNat)
  case atStart => exact ⟨0, n, _, by decide, rfl, rfl, hn, Lib.hid (by simp), HR, HP, Lib.hid rfl, b2⟩
  case round =>
    obtain ⟨k, X, l, hk, rfl, rfl, hX, HX, HR2, HP2, HL, hbel⟩ := hrel
    by_cases hk4 : k < 4
    · obtain ⟨j, hj, ej⟩ : ∃ j : Nat, 3 - k = j ∧ (3 : Int) - (k : Int) = (j : Int) := ⟨_, rfl, by omega⟩
      have hp0 := HP2.out.cells j (by omega)
      have hl0 := HP2.out.live (1 + j) (by omega)
      obtain ⟨m, hm, em⟩ : ∃ m : Nat, X % 256 = m ∧ (X : Int) % 256 = (m : Int) := ⟨_, rfl, by omega⟩
      have wm : IntKind.u8.wrap (m : Int) = (m : Int) := by rw [IntKind.wrap_u8]; omega
      have hj16 : (j : Int) < 16 := by omega
      have HS := Lib.hid (HP2.out.set (i := j) (by omega) m)
      have HE : Hid (l.set j m = lo4 n (k + 1)) := Lib.hid (by rw [HL.out, lo4, hj, ← hm, HX.out])
      have HX2 : Hid (X / 256 = n / 256 ^ (k + 1)) := Lib.hid (by rw [HX.out, Nat.pow_succ, Nat.div_div_eq_div_mul])
      have hjk : j + k = 3 := by omega
      generalize l.getD j 0 = o0 at hp0
      clear hj hm
      go_wp2_with fail
      go_roundw
      case rel => exact ⟨k + 1, X / 256, l.set j m, by omega, by congr 1; omega, by first | rfl | (congr 1; omega), by omega, HX2, Lib.hid (HR2.out.other (by omega) _), HS, HE, hbel.setCell (p := ⟨w.heap.size + 1, 1 + j, none⟩) (by show w.heap.size ≤ w.heap.size + 1; omega) _⟩
      case measure => simp [intOf]; omega
    · obtain rfl : k = 4 := by omega
      have hll : l = b4 n := HL.out
      subst hll
      have HLN : Hid ((b4 n).length = 16) := Lib.hid HP2.out.len
      go_wp2_with (first | refine load_addr HP2 _ rfl rfl rfl ?_ | (refine store_addr HR2 _ _ HLN rfl rfl rfl rfl (fun W HW HA => ?_)))
      refine bodyPost_ret (v := addrV 4 (b4 n)) (results_addr Try.results75 rfl HA.out) rfl ⟨rfl, by rw [HW.out]; exact below_cells (by omega) _ _ _ hbel⟩

set_option maxRecDepth 100000 in
set_option maxHeartbeats 2000000 in
theorem refOf6_any (gs : List Nat) (w : World) (h8 : gs.length = 8) (hlt : ∀ x ∈ gs, x < 65536) :
    Calls Try.prog 92 #[arr8 gs] w fun e w' => e = .returned (addrV 6 (byL gs)) ∧ Below w.heap.size w w' := by
  obtain ⟨x0, x1, x2, x3, x4, x5, x6, x7, hgs⟩ := list8 gs h8
  have ha : arr8 gs = .agg #[.int .u16 (x0 : Int), .int .u16 (x1 : Int), .int .u16 (x2 : Int), .int .u16 (x3 : Int), .int .u16 (x4 : Int), .int .u16 (x5 : Int), .int .u16 (x6 : Int), .int .u16 (x7 : Int)] := by rw [hgs]; rfl
  have hA := Arr8.of8 w 140 x0 x1 x2 x3 x4 x5 x6 x7
  rw [← hgs] at hA
  have b1 : Below w.heap.size w (w.alloc (.cells #[.int .u16 (x0 : Int), .int .u16 (x1 : Int), .int .u16 (x2 : Int), .int .u16 (x3 : Int), .int .u16 (x4 : Int), .int .u16 (x5 : Int), .int .u16 (x6 : Int), .int .u16 (x7 : Int)] 140)) := (Below.refl _ _).alloc (Nat.le_refl _) _
  have b2 := b1.alloc b1.size (.cells #[.int .i64 0, .int .u8 0, .int .u8 0, .int .u8 0, .int .u8 0, .int .u8 0, .int .u8 0, .int .u8 0, .int .u8 0, .int .u8 0, .int .u8 0, .int .u8 0, .int .u8 0, .int .u8 0, .int .u8 0, .int .u8 0, .int .u8 0] 40)
  have b3 := b2.alloc b2.size (.cells #[.int .i64 6, .int .u8 0, .int .u8 0, .int .u8 0, .int .u8 0, .int .u8 0, .int .u8 0, .int .u8 0, .int .u8 0, .int .u8 0, .int .u8 0, .int .u8 0, .int .u8 0, .int .u8 0, .int .u8 0, .int .u8 0, .int .u8 0] 40)
  have hR := AddrAt.of (w.alloc (.cells #[.int .u16 (x0 : Int), .int .u16 (x1 : Int), .int .u16 (x2 : Int), .int .u16 (x3 : Int), .int .u16 (x4 : Int), .int .u16 (x5 : Int), .int .u16 (x6 : Int), .int .u16 (x7 : Int)] 140)) 40 #[.int .i64 0, .int .u8 0, .int .u8 0, .int .u8 0, .int .u8 0, .int .u8 0, .int .u8 0, .int .u8 0, .int .u8 0, .int .u8 0, .int .u8 0, .int .u8 0, .int .u8 0, .int .u8 0, .int .u8 0, .int .u8 0, .int .u8 0] 0 (List.replicate 16 0) rfl (zero_addr 0)
  have hP := AddrAt.of ((w.alloc (.cells #[.int .u16 (x0 : Int), .int .u16 (x1 : Int), .int .u16 (x2 : Int), .int .u16 (x3 : Int), .int .u16 (x4 : Int), .int .u16 (x5 : Int), .int .u16 (x6 : Int), .int .u16 (x7 : Int)] 140)).alloc (.cells #[.int .i64 0, .int .u8 0, .int .u8 0, .int .u8 0, .int .u8 0, .int .u8 0, .int .u8 0, .int .u8 0, .int .u8 0, .int .u8 0, .int .u8 0, .int .u8 0, .int .u8 0, .int .u8 0, .int .u8 0, .int .u8 0, .int .u8 0] 40)) 40 #[.int .i64 6, .int .u8 0, .int .u8 0, .int .u8 0, .int .u8 0, .int .u8 0, .int .u8 0, .int .u8 0, .int .u8 0, .int .u8 0, .int .u8 0, .int .u8 0, .int .u8 0, .int .u8 0, .int .u8 0, .int .u8 0, .int .u8 0] 6 (List.replicate 16 0) rfl (zero_addr 6)
  have hA2 := (hA.below ((Below.refl _ _).alloc (Nat.le_refl _) (.cells #[.int .i64 0, .int .u8 0, .int .u8 0, .int .u8 0, .int .u8 0, .int .u8 0, .int .u8 0, .int .u8 0, .int .u8 0, .int .u8 0, .int .u8 0, .int .u8 0, .int .u8 0, .int .u8 0, .int .u8 0, .int .u8 0, .int .u8 0] 40))).below ((Below.refl _ _).alloc (Nat.le_refl _) (.cells #[.int .i64 6, .int .u8 0, .int .u8 0, .int .u8 0, .int .u8 0, .int .u8 0, .int .u8 0, .int .u8 0, .int .u8 0, .int .u8 0, .int .u8 0, .int .u8 0, .int .u8 0, .int .u8 0, .int .u8 0, .int .u8 0, .int .u8 0] 40))
  have hR2 := hR.below ((Below.refl _ _).alloc (Nat.le_refl _) (.cells #[.int .i64 6, .int .u8 0, .int .u8 0, .int .u8 0, .int .u8 0, .int .u8 0, .int .u8 0, .int .u8 0, .int .u8 0, .int .u8 0, .int .u8 0, .int .u8 0, .int .u8 0, .int .u8 0, .int .u8 0, .int .u8 0, .int .u8 0] 40))
  have e1 : (w.alloc (.cells #[.int .u16 (x0 : Int), .int .u16 (x1 : Int), .int .u16 (x2 : Int), .int .u16 (x3 : Int), .int .u16 (x4 : Int), .int .u16 (x5 : Int), .int .u16 (x6 : Int), .int .u16 (x7 : Int)] 140)).heap.size = w.heap.size + 1 := by simp
  have e2 : ((w.alloc (.cells #[.int .u16 (x0 : Int), .int .u16 (x1 : Int), .int .u16 (x2 : Int), .int .u16 (x3 : Int), .int .u16 (x4 : Int), .int .u16 (x5 : Int), .int .u16 (x6 : Int), .int .u16 (x7 : Int)] 140)).alloc (.cells #[.int .i64 0, .int .u8 0, .int .u8 0, .int .u8 0, .int .u8 0, .int .u8 0, .int .u8 0, .int .u8 0, .int .u8 0, .int .u8 0, .int .u8 0, .int .u8 0, .int .u8 0, .int .u8 0, .int .u8 0, .int .u8 0, .int .u8 0] 40)).heap.size = w.heap.size + 1 + 1 := by simp
  rw [e1] at hR2
  rw [e2] at hP
  rw [ha]
  have H8 := Lib.hid h8
  have HLT := Lib.hid hlt
  clear ha hgs h8 hlt hA hR b1 b2
  go_enter Try.func92, Try.ntmps92
  go_wp2_with fail
  generalize (((w.alloc (.cells #[.int .u16 (x0 : Int), .int .u16 (x1 : Int), .int .u16 (x2 : Int), .int .u16 (x3 : Int), .int .u16 (x4 : Int), .int .u16 (x5 : Int), .int .u16 (x6 : Int), .int .u16 (x7 : Int)] 140)).alloc (.cells #[.int .i64 0, .int .u8 0, .int .u8 0, .int .u8 0, .int .u8 0, .int .u8 0, .int .u8 0, .int .u8 0, .int .u8 0, .int .u8 0, .int .u8 0, .int .u8 0, .int .u8 0, .int .u8 0, .int .u8 0, .int .u8 0, .int .u8 0] 40)).alloc (.cells #[.int .i64 6, .int .u8 0, .int .u8 0, .int .u8 0, .int .u8 0, .int .u8 0, .int .u8 0, .int .u8 0, .int .u8 0, .int .u8 0, .int .u8 0, .int .u8 0, .int .u8 0, .int .u8 0, .int .u8 0, .int .u8 0, .int .u8 0] 40)) = W at *
  clear e1 e2
  have HA := Lib.hid hA2
  have HR := Lib.hid hR2
  have HP := Lib.hid hP
  clear hA2 hR2 hP
  go_loopw [4] (fun i wr => ∃ (k : Nat) (l : List Nat), k ≤ 8 ∧ i = .int .i64 k ∧ Hid (Arr8 wr w.heap.size gs) ∧ Hid (AddrAt wr (w.heap.size + 1) 0 (List.replicate 16 0)) ∧ Hid (AddrAt wr (w.heap.size + 1 + 1) 6 l) ∧ Hid (l = byL (gs.take k) ++ List.replicate (16 - 2 * k) 0) ∧ Below w.heap.size w wr) (fun i _ => 8 - (intOf i).toNat)
  case atStart => exact ⟨0, _, by decide, rfl, HA, HR, HP, Lib.hid rfl, b3⟩
  case round =>
    obtain ⟨k, l, hk, rfl, HA2, HR2, HP2, HL, hbel⟩ := hrel
    by_cases hk8 : k < 8
    · have hcell := HA2.out.cells k hk8
      have hx : gs.getD k 0 < 65536 := by
        rw [List.getD_eq_getElem?_getD, List.getElem?_eq_getElem (by rw [H8.out]; exact hk8)]
        exact HLT.out _ (List.getElem_mem _)
      have et : gs.take (k + 1) = gs.take k ++ [gs.getD k 0] := by
        rw [List.take_add_one, List.getD_eq_getElem?_getD, List.getElem?_eq_getElem (by rw [H8.out]; exact hk8)]; rfl
      obtain ⟨x, ex⟩ : ∃ x, gs.getD k 0 = x := ⟨_, rfl⟩
      rw [ex] at hcell hx et
      obtain ⟨c, hc, ec⟩ : ∃ c : Nat, 2 * k = c ∧ (2 : Int) * (k : Int) = (c : Int) := ⟨_, rfl, by omega⟩
      obtain ⟨hi, hhi, ehi⟩ : ∃ hi : Nat, x / 256 = hi ∧ (x : Int) / 256 = (hi : Int) := ⟨_, rfl, by omega⟩
      obtain ⟨lo, hlo, elo⟩ : ∃ lo : Nat, x % 256 = lo ∧ (x : Int) % 256 = (lo : Int) := ⟨_, rfl, by omega⟩
      have whi : IntKind.u8.wrap (hi : Int) = (hi : Int) := by rw [IntKind.wrap_u8]; omega
      have wlo : IntKind.u8.wrap (lo : Int) = (lo : Int) := by rw [IntKind.wrap_u8]; omega
      have hc15 : c + 1 < 16 := by omega
      have c1 : (c : Int) < 16 := by omega
      have c2 : (c : Int) + 1 < 16 := by omega
      have k1 : (k : Int) < 8 := by omega
      have hp0 := HP2.out.cells c (by omega)
      have hl0 := HP2.out.live (1 + c) (by omega)
      have hcell2 := (HA2.out.other (B' := w.heap.size + 1 + 1) (k := 1 + c) (by omega) (.int .u8 (hi : Int))).cells k hk8
      rw [ex] at hcell2
      have HP3 := Lib.hid (HP2.out.set (i := c) (by omega) hi)
      have hp1 := HP3.out.cells (c + 1) (by omega)
      have hl1 := HP3.out.live (1 + (c + 1)) (by omega)
      have HS := Lib.hid (HP3.out.set (i := c + 1) (by omega) lo)
      have HE : Hid (((l.set c hi).set (c + 1) lo) = byL (gs.take (k + 1)) ++ List.replicate (16 - 2 * (k + 1)) 0) := Lib.hid (by
        rw [HL.out, et, byL_snoc, ← hc, ← hhi, ← hlo]
        exact set_two _ k _ _ hk8 (by rw [byL_len, List.length_take, H8.out]; omega))
      generalize l.getD c 0 = o0 at hp0
      generalize (l.set c hi).getD (c + 1) 0 = o1 at hp1
      clear ex et hc hhi hlo
      go_wp2_with fail
      go_roundw
      case rel => exact ⟨k + 1, (l.set c hi).set (c + 1) lo, by omega, by go_num, Lib.hid ((HA2.out.other (by omega) _).other (by omega) _), Lib.hid ((HR2.out.other (by omega) _).other (by omega) _), HS, HE, (hbel.setCell (p := ⟨w.heap.size + 1 + 1, 1 + c, none⟩) (by show w.heap.size ≤ w.heap.size + 1 + 1; omega) _).setCell (p := ⟨w.heap.size + 1 + 1, 1 + (c + 1), none⟩) (by show w.heap.size ≤ w.heap.size + 1 + 1; omega) _⟩
      case measure => simp [intOf]; omega
    · obtain rfl : k = 8 := by omega
      have hll : l = byL gs := by rw [HL.out, List.take_of_length_le (by rw [H8.out]; exact Nat.le_refl _)]; simp
      subst hll
      have HLN : Hid ((byL gs).length = 16) := Lib.hid HP2.out.len
      go_wp2_with (first | refine load_addr HP2 _ rfl rfl rfl ?_ | (refine store_addr HR2 _ _ HLN rfl rfl rfl rfl (fun W HW HA => ?_)))
      refine bodyPost_ret (v := addrV 6 (byL gs)) (results_addr Try.results92 rfl HA.out) rfl ⟨rfl, by rw [HW.out]; exact below_cells (by omega) _ _ _ hbel⟩
end Go.Proofs.Yticdpidngmeebaa
/- Contracts of the reference's Map, Unmap, Good of layer 4. -/
namespace Go.Proofs.Yticdpidngmeebaa
open Go.RowKit
set_option linter.unusedVariables false
set_option maxRecDepth 20000

/-- The groups of a mapped one. -/
def map8 (n : Nat) : List Nat := [0, 0, 0, 0, 0, 65535, n / 65536, n % 65536]
theorem map8_lt (n : Nat) (h : n ≤ 4294967295) : ∀ x ∈ map8 n, x < 65536 := by
  intro x hx
  simp [map8] at hx
  omega
def mapF (f : Int) : Int := if f = 4 then 6 else f
def mapB (f : Int) (bs : List Nat) : List Nat := if f = 4 then byL (map8 (fourB bs)) else bs
theorem fourB_le (bs : List Nat) (h : ∀ x ∈ bs, x < 256) : fourB bs ≤ 4294967295 := Nat.le_of_lt_succ (fourTo_lt bs h 4)
set_option maxRecDepth 100000 in
set_option maxHeartbeats 1000000 in
theorem refMap_any (f : Int) (bs : List Nat) (w : World) (h16 : bs.length = 16) (hlt : ∀ x ∈ bs, x < 256) :
    Calls Try.prog 77 #[addrV f bs] w fun e w' => e = .returned (addrV (mapF f) (mapB f bs)) ∧ Below w.heap.size w w' := by
  have HLT := Lib.hid hlt
  have H16 := Lib.hid h16
  obtain ⟨y0, y1, y2, y3, y4, y5, y6, y7, y8, y9, y10, y11, y12, y13, y14, y15, hbs⟩ := list16 bs h16
  have ha : addrV f bs = .agg #[.int .i64 f, .int .u8 (y0 : Int), .int .u8 (y1 : Int), .int .u8 (y2 : Int), .int .u8 (y3 : Int), .int .u8 (y4 : Int), .int .u8 (y5 : Int), .int .u8 (y6 : Int), .int .u8 (y7 : Int), .int .u8 (y8 : Int), .int .u8 (y9 : Int), .int .u8 (y10 : Int), .int .u8 (y11 : Int), .int .u8 (y12 : Int), .int .u8 (y13 : Int), .int .u8 (y14 : Int), .int .u8 (y15 : Int)] := by rw [hbs]; rfl
  have HBS := Lib.hid hbs
  by_cases h4 : f = 4
  · subst h4
    rw [show mapF 4 = 6 from rfl, show mapB 4 bs = byL (map8 (fourB bs)) from rfl, ha]
    obtain ⟨n, hn⟩ : ∃ n, fourB bs = n := ⟨_, rfl⟩
    have hn2 := fourB_le bs hlt
    rw [hn] at hn2
    rw [hn]
    have HF := fun W => Lib.hid (refFour_any 4 bs W h16 hlt)
    have HO := fun W => Lib.hid (refOf6_any (map8 n) W rfl (map8_lt n hn2))
    rw [hn] at HF
    have hA := AddrAt.new w 40 4 y0 y1 y2 y3 y4 y5 y6 y7 y8 y9 y10 y11 y12 y13 y14 y15
    rw [← hbs] at hA
    have HP2 := Lib.hid (hA.below ((Below.refl _ _).alloc (Nat.le_refl _) (.cells #[.int .i64 0, .int .u8 0, .int .u8 0, .int .u8 0, .int .u8 0, .int .u8 0, .int .u8 0, .int .u8 0, .int .u8 0, .int .u8 0, .int .u8 0, .int .u8 0, .int .u8 0, .int .u8 0, .int .u8 0, .int .u8 0, .int .u8 0] 40)))
    have hR := AddrAt.of (w.alloc (.cells #[.int .i64 4, .int .u8 (y0 : Int), .int .u8 (y1 : Int), .int .u8 (y2 : Int), .int .u8 (y3 : Int), .int .u8 (y4 : Int), .int .u8 (y5 : Int), .int .u8 (y6 : Int), .int .u8 (y7 : Int), .int .u8 (y8 : Int), .int .u8 (y9 : Int), .int .u8 (y10 : Int), .int .u8 (y11 : Int), .int .u8 (y12 : Int), .int .u8 (y13 : Int), .int .u8 (y14 : Int), .int .u8 (y15 : Int)] 40)) 40 #[.int .i64 0, .int .u8 0, .int .u8 0, .int .u8 0, .int .u8 0, .int .u8 0, .int .u8 0, .int .u8 0, .int .u8 0, .int .u8 0, .int .u8 0, .int .u8 0, .int .u8 0, .int .u8 0, .int .u8 0, .int .u8 0, .int .u8 0] 0 (List.replicate 16 0) rfl (zero_addr 0)
    have b1 : Below w.heap.size w (w.alloc (.cells #[.int .i64 4, .int .u8 (y0 : Int), .int .u8 (y1 : Int), .int .u8 (y2 : Int), .int .u8 (y3 : Int), .int .u8 (y4 : Int), .int .u8 (y5 : Int), .int .u8 (y6 : Int), .int .u8 (y7 : Int), .int .u8 (y8 : Int), .int .u8 (y9 : Int), .int .u8 (y10 : Int), .int .u8 (y11 : Int), .int .u8 (y12 : Int), .int .u8 (y13 : Int), .int .u8 (y14 : Int), .int .u8 (y15 : Int)] 40)) := (Below.refl _ _).alloc (Nat.le_refl _) _
    have b2 := b1.alloc b1.size (.cells #[.int .i64 0, .int .u8 0, .int .u8 0, .int .u8 0, .int .u8 0, .int .u8 0, .int .u8 0, .int .u8 0, .int .u8 0, .int .u8 0, .int .u8 0, .int .u8 0, .int .u8 0, .int .u8 0, .int .u8 0, .int .u8 0, .int .u8 0] 40)
    have e1 : (w.alloc (.cells #[.int .i64 4, .int .u8 (y0 : Int), .int .u8 (y1 : Int), .int .u8 (y2 : Int), .int .u8 (y3 : Int), .int .u8 (y4 : Int), .int .u8 (y5 : Int), .int .u8 (y6 : Int), .int .u8 (y7 : Int), .int .u8 (y8 : Int), .int .u8 (y9 : Int), .int .u8 (y10 : Int), .int .u8 (y11 : Int), .int .u8 (y12 : Int), .int .u8 (y13 : Int), .int .u8 (y14 : Int), .int .u8 (y15 : Int)] 40)).heap.size = w.heap.size + 1 := by simp
    rw [e1] at hR
    have q1 : ((n / 65536 : Nat) : Int) = (n : Int) / 65536 := by omega
    have q2 : ((n % 65536 : Nat) : Int) = (n : Int) % 65536 := by omega
    have q3 : IntKind.u16.wrap ((n : Int) / 65536) = (n : Int) / 65536 := by rw [IntKind.wrap_u16]; omega
    have q4 : IntKind.u16.wrap ((n : Int) % 65536) = (n : Int) % 65536 := by rw [IntKind.wrap_u16]; omega
    have HQ := Lib.hid (show arr8 (map8 n) = .agg #[.int .u16 0, .int .u16 0, .int .u16 0, .int .u16 0, .int .u16 0, .int .u16 65535, .int .u16 ((n : Int) / 65536), .int .u16 ((n : Int) % 65536)] by rw [← q1, ← q2]; rfl)
    rw [HQ.out] at HO
    have HR := Lib.hid hR
    have HB := Lib.hid b2
    clear hn ha hbs h16 hlt hA hR b1 b2 q1 q2
    go_enter Try.func77, Try.ntmps77
    go_wp2_with (refine load_addr HP2 _ rfl rfl rfl ?_)
    generalize ((w.alloc (.cells #[.int .i64 4, .int .u8 (y0 : Int), .int .u8 (y1 : Int), .int .u8 (y2 : Int), .int .u8 (y3 : Int), .int .u8 (y4 : Int), .int .u8 (y5 : Int), .int .u8 (y6 : Int), .int .u8 (y7 : Int), .int .u8 (y8 : Int), .int .u8 (y9 : Int), .int .u8 (y10 : Int), .int .u8 (y11 : Int), .int .u8 (y12 : Int), .int .u8 (y13 : Int), .int .u8 (y14 : Int), .int .u8 (y15 : Int)] 40)).alloc (.cells #[.int .i64 0, .int .u8 0, .int .u8 0, .int .u8 0, .int .u8 0, .int .u8 0, .int .u8 0, .int .u8 0, .int .u8 0, .int .u8 0, .int .u8 0, .int .u8 0, .int .u8 0, .int .u8 0, .int .u8 0, .int .u8 0, .int .u8 0] 40)) = W at *
    clear e1
    refine (HF W).out.mono ?_
    rintro e w1 ⟨rfl, hb1⟩
    go_wp2_with fail
    refine (HO w1).out.mono ?_
    rintro e w2 ⟨rfl, hb2⟩
    have HR2 := Lib.hid ((HR.out.below hb1).below hb2)
    have hbel := chain (chain HB.out hb1) hb2
    have HLN : Hid ((byL (map8 n)).length = 16) := Lib.hid (by rw [byL_len]; rfl)
    clear HR HB hb1 hb2
    go_wp2_with (refine store_addr HR2 _ _ HLN rfl rfl rfl rfl (fun W HW HA => ?_))
    refine bodyPost_ret (v := addrV 6 (byL (map8 n))) (results_addr Try.results77 rfl HA.out) rfl ⟨rfl, by rw [HW.out]; exact below_cells (by omega) _ _ _ hbel⟩
  · rw [show mapF f = f from if_neg h4, show mapB f bs = bs from if_neg h4]
    have hA := AddrAt.new w 40 f y0 y1 y2 y3 y4 y5 y6 y7 y8 y9 y10 y11 y12 y13 y14 y15
    rw [← hbs] at hA
    have hR := AddrAt.of (w.alloc (.cells #[.int .i64 f, .int .u8 (y0 : Int), .int .u8 (y1 : Int), .int .u8 (y2 : Int), .int .u8 (y3 : Int), .int .u8 (y4 : Int), .int .u8 (y5 : Int), .int .u8 (y6 : Int), .int .u8 (y7 : Int), .int .u8 (y8 : Int), .int .u8 (y9 : Int), .int .u8 (y10 : Int), .int .u8 (y11 : Int), .int .u8 (y12 : Int), .int .u8 (y13 : Int), .int .u8 (y14 : Int), .int .u8 (y15 : Int)] 40)) 40 #[.int .i64 0, .int .u8 0, .int .u8 0, .int .u8 0, .int .u8 0, .int .u8 0, .int .u8 0, .int .u8 0, .int .u8 0, .int .u8 0, .int .u8 0, .int .u8 0, .int .u8 0, .int .u8 0, .int .u8 0, .int .u8 0, .int .u8 0] 0 (List.replicate 16 0) rfl (zero_addr 0)
    have b1 : Below w.heap.size w (w.alloc (.cells #[.int .i64 f, .int .u8 (y0 : Int), .int .u8 (y1 : Int), .int .u8 (y2 : Int), .int .u8 (y3 : Int), .int .u8 (y4 : Int), .int .u8 (y5 : Int), .int .u8 (y6 : Int), .int .u8 (y7 : Int), .int .u8 (y8 : Int), .int .u8 (y9 : Int), .int .u8 (y10 : Int), .int .u8 (y11 : Int), .int .u8 (y12 : Int), .int .u8 (y13 : Int), .int .u8 (y14 : Int), .int .u8 (y15 : Int)] 40)) := (Below.refl _ _).alloc (Nat.le_refl _) _
    have HB := Lib.hid (b1.alloc b1.size (.cells #[.int .i64 0, .int .u8 0, .int .u8 0, .int .u8 0, .int .u8 0, .int .u8 0, .int .u8 0, .int .u8 0, .int .u8 0, .int .u8 0, .int .u8 0, .int .u8 0, .int .u8 0, .int .u8 0, .int .u8 0, .int .u8 0, .int .u8 0] 40))
    have e1 : (w.alloc (.cells #[.int .i64 f, .int .u8 (y0 : Int), .int .u8 (y1 : Int), .int .u8 (y2 : Int), .int .u8 (y3 : Int), .int .u8 (y4 : Int), .int .u8 (y5 : Int), .int .u8 (y6 : Int), .int .u8 (y7 : Int), .int .u8 (y8 : Int), .int .u8 (y9 : Int), .int .u8 (y10 : Int), .int .u8 (y11 : Int), .int .u8 (y12 : Int), .int .u8 (y13 : Int), .int .u8 (y14 : Int), .int .u8 (y15 : Int)] 40)).heap.size = w.heap.size + 1 := by simp
    rw [e1] at hR
    have HP2 := Lib.hid (hA.below ((Below.refl _ _).alloc (Nat.le_refl _) (.cells #[.int .i64 0, .int .u8 0, .int .u8 0, .int .u8 0, .int .u8 0, .int .u8 0, .int .u8 0, .int .u8 0, .int .u8 0, .int .u8 0, .int .u8 0, .int .u8 0, .int .u8 0, .int .u8 0, .int .u8 0, .int .u8 0, .int .u8 0] 40)))
    have HR2 := Lib.hid hR
    have hfam := (hA.below ((Below.refl _ _).alloc (Nat.le_refl _) (.cells #[.int .i64 0, .int .u8 0, .int .u8 0, .int .u8 0, .int .u8 0, .int .u8 0, .int .u8 0, .int .u8 0, .int .u8 0, .int .u8 0, .int .u8 0, .int .u8 0, .int .u8 0, .int .u8 0, .int .u8 0, .int .u8 0, .int .u8 0] 40))).fam
    rw [show addrV f bs = .agg #[.int .i64 f, .int .u8 (y0 : Int), .int .u8 (y1 : Int), .int .u8 (y2 : Int), .int .u8 (y3 : Int), .int .u8 (y4 : Int), .int .u8 (y5 : Int), .int .u8 (y6 : Int), .int .u8 (y7 : Int), .int .u8 (y8 : Int), .int .u8 (y9 : Int), .int .u8 (y10 : Int), .int .u8 (y11 : Int), .int .u8 (y12 : Int), .int .u8 (y13 : Int), .int .u8 (y14 : Int), .int .u8 (y15 : Int)] from ha]
    go_enter Try.func77, Try.ntmps77
    clear hR hA b1 ha hbs h16 hlt hfam
    go_upto_if 6 with fail
    generalize ((w.alloc (.cells #[.int .i64 f, .int .u8 (y0 : Int), .int .u8 (y1 : Int), .int .u8 (y2 : Int), .int .u8 (y3 : Int), .int .u8 (y4 : Int), .int .u8 (y5 : Int), .int .u8 (y6 : Int), .int .u8 (y7 : Int), .int .u8 (y8 : Int), .int .u8 (y9 : Int), .int .u8 (y10 : Int), .int .u8 (y11 : Int), .int .u8 (y12 : Int), .int .u8 (y13 : Int), .int .u8 (y14 : Int), .int .u8 (y15 : Int)] 40)).alloc (.cells #[.int .i64 0, .int .u8 0, .int .u8 0, .int .u8 0, .int .u8 0, .int .u8 0, .int .u8 0, .int .u8 0, .int .u8 0, .int .u8 0, .int .u8 0, .int .u8 0, .int .u8 0, .int .u8 0, .int .u8 0, .int .u8 0, .int .u8 0] 40)) = W at *
    clear e1
    go_wp2_with (first | refine load_addr HP2 _ rfl rfl rfl ?_ | (refine store_addr HR2 _ _ H16 rfl rfl rfl rfl (fun W HW HA => ?_)))
    refine bodyPost_ret (v := addrV f bs) (results_addr Try.results77 rfl HA.out) rfl ⟨?_, by rw [HW.out]; exact below_cells (by omega) _ _ _ HB.out⟩
    rw [HBS.out]; rfl
end Go.Proofs.Yticdpidngmeebaa
/- Contract of the reference's Good of layer 4. -/
namespace Go.Proofs.Yticdpidngmeebaa
open Go.RowKit
set_option linter.unusedVariables false
set_option maxRecDepth 20000

def goodF (f : Int) : Int := if f.tmod 2 = 0 then 4 else 6
def goodB (f : Int) (bs : List Nat) : List Nat := if f.tmod 2 = 0 then b4 (fourB bs) else bs
theorem tmod_two (f : Int) : f.tmod 2 = 0 ∨ f.tmod 2 = 1 ∨ f.tmod 2 = -1 := by have := Int.tmod_two_eq f; omega
set_option maxRecDepth 100000 in
set_option maxHeartbeats 1000000 in
theorem refGood_any (f : Int) (bs : List Nat) (w : World) (h16 : bs.length = 16) (hlt : ∀ x ∈ bs, x < 256) :
    Calls Try.prog 74 #[addrV f bs] w fun e w' => e = .returned (addrV (goodF f) (goodB f bs)) ∧ Below w.heap.size w w' := by
  have H16 := Lib.hid h16
  have HF := fun W => Lib.hid (refFour_any f bs W h16 hlt)
  have HO := fun W => Lib.hid (refOf4_any (fourB bs) W (fourB_le bs hlt))
  obtain ⟨y0, y1, y2, y3, y4, y5, y6, y7, y8, y9, y10, y11, y12, y13, y14, y15, hbs⟩ := list16 bs h16
  have ha : addrV f bs = .agg #[.int .i64 f, .int .u8 (y0 : Int), .int .u8 (y1 : Int), .int .u8 (y2 : Int), .int .u8 (y3 : Int), .int .u8 (y4 : Int), .int .u8 (y5 : Int), .int .u8 (y6 : Int), .int .u8 (y7 : Int), .int .u8 (y8 : Int), .int .u8 (y9 : Int), .int .u8 (y10 : Int), .int .u8 (y11 : Int), .int .u8 (y12 : Int), .int .u8 (y13 : Int), .int .u8 (y14 : Int), .int .u8 (y15 : Int)] := by rw [hbs]; rfl
  have hA := AddrAt.new w 40 f y0 y1 y2 y3 y4 y5 y6 y7 y8 y9 y10 y11 y12 y13 y14 y15
  rw [← hbs] at hA
  have hR := AddrAt.of (w.alloc (.cells #[.int .i64 f, .int .u8 (y0 : Int), .int .u8 (y1 : Int), .int .u8 (y2 : Int), .int .u8 (y3 : Int), .int .u8 (y4 : Int), .int .u8 (y5 : Int), .int .u8 (y6 : Int), .int .u8 (y7 : Int), .int .u8 (y8 : Int), .int .u8 (y9 : Int), .int .u8 (y10 : Int), .int .u8 (y11 : Int), .int .u8 (y12 : Int), .int .u8 (y13 : Int), .int .u8 (y14 : Int), .int .u8 (y15 : Int)] 40)) 40 #[.int .i64 0, .int .u8 0, .int .u8 0, .int .u8 0, .int .u8 0, .int .u8 0, .int .u8 0, .int .u8 0, .int .u8 0, .int .u8 0, .int .u8 0, .int .u8 0, .int .u8 0, .int .u8 0, .int .u8 0, .int .u8 0, .int .u8 0] 0 (List.replicate 16 0) rfl (zero_addr 0)
  have b1 : Below w.heap.size w (w.alloc (.cells #[.int .i64 f, .int .u8 (y0 : Int), .int .u8 (y1 : Int), .int .u8 (y2 : Int), .int .u8 (y3 : Int), .int .u8 (y4 : Int), .int .u8 (y5 : Int), .int .u8 (y6 : Int), .int .u8 (y7 : Int), .int .u8 (y8 : Int), .int .u8 (y9 : Int), .int .u8 (y10 : Int), .int .u8 (y11 : Int), .int .u8 (y12 : Int), .int .u8 (y13 : Int), .int .u8 (y14 : Int), .int .u8 (y15 : Int)] 40)) := (Below.refl _ _).alloc (Nat.le_refl _) _
  have HB := Lib.hid (b1.alloc b1.size (.cells #[.int .i64 0, .int .u8 0, .int .u8 0, .int .u8 0, .int .u8 0, .int .u8 0, .int .u8 0, .int .u8 0, .int .u8 0, .int .u8 0, .int .u8 0, .int .u8 0, .int .u8 0, .int .u8 0, .int .u8 0, .int .u8 0, .int .u8 0] 40))
  have e1 : (w.alloc (.cells #[.int .i64 f, .int .u8 (y0 : Int), .int .u8 (y1 : Int), .int .u8 (y2 : Int), .int .u8 (y3 : Int), .int .u8 (y4 : Int), .int .u8 (y5 : Int), .int .u8 (y6 : Int), .int .u8 (y7 : Int), .int .u8 (y8 : Int), .int .u8 (y9 : Int), .int .u8 (y10 : Int), .int .u8 (y11 : Int), .int .u8 (y12 : Int), .int .u8 (y13 : Int), .int .u8 (y14 : Int), .int .u8 (y15 : Int)] 40)).heap.size = w.heap.size + 1 := by simp
  rw [e1] at hR
  have HP2 := Lib.hid (hA.below ((Below.refl _ _).alloc (Nat.le_refl _) (.cells #[.int .i64 0, .int .u8 0, .int .u8 0, .int .u8 0, .int .u8 0, .int .u8 0, .int .u8 0, .int .u8 0, .int .u8 0, .int .u8 0, .int .u8 0, .int .u8 0, .int .u8 0, .int .u8 0, .int .u8 0, .int .u8 0, .int .u8 0] 40)))
  have HR2 := Lib.hid hR
  rw [ha]
  clear hR hA b1 ha hbs h16 hlt e1
  by_cases h2 : f.tmod 2 = 0
  · rw [show goodF f = 4 from if_pos h2, show goodB f bs = b4 (fourB bs) from if_pos h2]
    go_enter Try.func74, Try.ntmps74
    go_upto_if 6 with fail
    generalize ((w.alloc (.cells #[.int .i64 f, .int .u8 (y0 : Int), .int .u8 (y1 : Int), .int .u8 (y2 : Int), .int .u8 (y3 : Int), .int .u8 (y4 : Int), .int .u8 (y5 : Int), .int .u8 (y6 : Int), .int .u8 (y7 : Int), .int .u8 (y8 : Int), .int .u8 (y9 : Int), .int .u8 (y10 : Int), .int .u8 (y11 : Int), .int .u8 (y12 : Int), .int .u8 (y13 : Int), .int .u8 (y14 : Int), .int .u8 (y15 : Int)] 40)).alloc (.cells #[.int .i64 0, .int .u8 0, .int .u8 0, .int .u8 0, .int .u8 0, .int .u8 0, .int .u8 0, .int .u8 0, .int .u8 0, .int .u8 0, .int .u8 0, .int .u8 0, .int .u8 0, .int .u8 0, .int .u8 0, .int .u8 0, .int .u8 0] 40)) = W at *
    go_wp2_with (refine load_addr HP2 _ rfl rfl rfl ?_)
    refine (HF W).out.mono ?_
    rintro e w1 ⟨rfl, hb1⟩
    go_wp2_with fail
    refine (HO w1).out.mono ?_
    rintro e w2 ⟨rfl, hb2⟩
    have HR3 := Lib.hid ((HR2.out.below hb1).below hb2)
    have hbel := chain (chain HB.out hb1) hb2
    have HLN := Lib.hid (b4_len (fourB bs))
    clear HR2 HB hb1 hb2 HP2
    go_wp2_with (refine store_addr HR3 _ _ HLN rfl rfl rfl rfl (fun W HW HA => ?_))
    refine bodyPost_ret (v := addrV 4 (b4 (fourB bs))) (results_addr Try.results74 rfl HA.out) rfl ⟨rfl, by rw [HW.out]; exact below_cells (by omega) _ _ _ hbel⟩
  · rw [show goodF f = 6 from if_neg h2, show goodB f bs = bs from if_neg h2]
    have h3 : f.tmod 2 = 1 ∨ f.tmod 2 = -1 := (tmod_two f).resolve_left h2
    clear h2 HF HO
    rcases h3 with h3 | h3
    · go_enter Try.func74, Try.ntmps74
      go_upto_if 6 with fail
      generalize ((w.alloc (.cells #[.int .i64 f, .int .u8 (y0 : Int), .int .u8 (y1 : Int), .int .u8 (y2 : Int), .int .u8 (y3 : Int), .int .u8 (y4 : Int), .int .u8 (y5 : Int), .int .u8 (y6 : Int), .int .u8 (y7 : Int), .int .u8 (y8 : Int), .int .u8 (y9 : Int), .int .u8 (y10 : Int), .int .u8 (y11 : Int), .int .u8 (y12 : Int), .int .u8 (y13 : Int), .int .u8 (y14 : Int), .int .u8 (y15 : Int)] 40)).alloc (.cells #[.int .i64 0, .int .u8 0, .int .u8 0, .int .u8 0, .int .u8 0, .int .u8 0, .int .u8 0, .int .u8 0, .int .u8 0, .int .u8 0, .int .u8 0, .int .u8 0, .int .u8 0, .int .u8 0, .int .u8 0, .int .u8 0, .int .u8 0] 40)) = W at *
      have hfam := HP2.out.fam
      have hl0 := HP2.out.live 0 (by decide)
      have HP3 := Lib.hid (HP2.out.setFam 6)
      have HR3 := Lib.hid (HR2.out.other (G' := w.heap.size) (i := 0) (by omega) (.int .i64 6))
      have hbel := HB.out.setCell (p := ⟨w.heap.size, 0, none⟩) (Nat.le_refl _) (.int .i64 6)
      go_wp2_with (first | refine load_addr HP3 _ rfl rfl rfl ?_ | (refine store_addr HR3 _ _ H16 rfl rfl rfl rfl (fun W HW HA => ?_)))
      refine bodyPost_ret (v := addrV 6 bs) (results_addr Try.results74 rfl HA.out) rfl ⟨rfl, by rw [HW.out]; exact below_cells (by omega) _ _ _ hbel⟩
    · go_enter Try.func74, Try.ntmps74
      go_upto_if 6 with fail
      generalize ((w.alloc (.cells #[.int .i64 f, .int .u8 (y0 : Int), .int .u8 (y1 : Int), .int .u8 (y2 : Int), .int .u8 (y3 : Int), .int .u8 (y4 : Int), .int .u8 (y5 : Int), .int .u8 (y6 : Int), .int .u8 (y7 : Int), .int .u8 (y8 : Int), .int .u8 (y9 : Int), .int .u8 (y10 : Int), .int .u8 (y11 : Int), .int .u8 (y12 : Int), .int .u8 (y13 : Int), .int .u8 (y14 : Int), .int .u8 (y15 : Int)] 40)).alloc (.cells #[.int .i64 0, .int .u8 0, .int .u8 0, .int .u8 0, .int .u8 0, .int .u8 0, .int .u8 0, .int .u8 0, .int .u8 0, .int .u8 0, .int .u8 0, .int .u8 0, .int .u8 0, .int .u8 0, .int .u8 0, .int .u8 0, .int .u8 0] 40)) = W at *
      have hfam := HP2.out.fam
      have hl0 := HP2.out.live 0 (by decide)
      have HP3 := Lib.hid (HP2.out.setFam 6)
      have HR3 := Lib.hid (HR2.out.other (G' := w.heap.size) (i := 0) (by omega) (.int .i64 6))
      have hbel := HB.out.setCell (p := ⟨w.heap.size, 0, none⟩) (Nat.le_refl _) (.int .i64 6)
      go_wp2_with (first | refine load_addr HP3 _ rfl rfl rfl ?_ | (refine store_addr HR3 _ _ H16 rfl rfl rfl rfl (fun W HW HA => ?_)))
      refine bodyPost_ret (v := addrV 6 bs) (results_addr Try.results74 rfl HA.out) rfl ⟨rfl, by rw [HW.out]; exact below_cells (by omega) _ _ _ hbel⟩
end Go.Proofs.Yticdpidngmeebaa
/- Contract of the reference's Compare of layer 4. -/
namespace Go.Proofs.Yticdpidngmeebaa
open Go.RowKit
set_option linter.unusedVariables false
set_option maxRecDepth 20000

/-- Which of two rows of bytes comes first. -/
def cmpL : List Nat → List Nat → Int
  | x :: xs, y :: ys => if x < y then -1 else if y < x then 1 else cmpL xs ys
  | _, _ => 0
/-- The row of addresses. -/
def cmpA (f : Int) (xs : List Nat) (g : Int) (ys : List Nat) : Int := if f = g then cmpL xs ys else if f < g then -1 else 1
theorem cmpL_at (xs ys : List Nat) (k : Nat) (hx : xs.length = 16) (hy : ys.length = 16) (hk : k < 16) :
    cmpL (xs.drop k) (ys.drop k) = if xs.getD k 0 < ys.getD k 0 then -1 else if ys.getD k 0 < xs.getD k 0 then 1 else cmpL (xs.drop (k + 1)) (ys.drop (k + 1)) := by
  rw [List.drop_eq_getElem_cons (show k < xs.length by omega), List.drop_eq_getElem_cons (show k < ys.length by omega), cmpL, List.getD_eq_getElem?_getD, List.getD_eq_getElem?_getD, List.getElem?_eq_getElem (by omega), List.getElem?_eq_getElem (by omega)]
  rfl
theorem cmpL_end (xs ys : List Nat) (hx : xs.length = 16) : cmpL (xs.drop 16) (ys.drop 16) = 0 := by
  rw [List.drop_eq_nil_of_le (by omega)]
  rfl
end Go.Proofs.Yticdpidngmeebaa
/- Contracts of cmp.Compare at ints, bytes.Compare at two rows of sixteen bytes, addr.Compare. -/
namespace Go.Proofs.Yticdpidngmeebaa
open Go.RowKit
set_option linter.unusedVariables false
set_option maxRecDepth 20000

/-- Which of two numbers comes first. -/
def sgn3 (x y : Int) : Int := if x < y then -1 else if y < x then 1 else 0
theorem compare_nats : ∀ (xs ys : List Nat), xs.length = ys.length → (∀ x ∈ xs, x < 256) → (∀ x ∈ ys, x < 256) →
    Lib.compareBytes (Lib.bytesOf (xs.map fun n : Nat => (n : Int))) (Lib.bytesOf (ys.map fun n : Nat => (n : Int))) = cmpL xs ys
  | [], [], _, _, _ => rfl
  | [], _ :: _, h, _, _ => by cases h
  | _ :: _, [], h, _, _ => by cases h
  | x :: xs, y :: ys, h, hx, hy => by
    have ih := compare_nats xs ys (by simpa using h) (fun z hz => hx z (List.mem_cons_of_mem _ hz)) (fun z hz => hy z (List.mem_cons_of_mem _ hz))
    have hx0 := hx x (by simp)
    have hy0 := hy y (by simp)
    have o1 : (UInt8.ofNat x < UInt8.ofNat y) ↔ x < y := by rw [UInt8.lt_iff_toNat_lt]; simp; omega
    have o2 : (UInt8.ofNat y < UInt8.ofNat x) ↔ y < x := by rw [UInt8.lt_iff_toNat_lt]; simp; omega
    show Lib.compareBytes (UInt8.ofNat ((x : Int).toNat) :: Lib.bytesOf (xs.map fun n : Nat => (n : Int))) (UInt8.ofNat ((y : Int).toNat) :: Lib.bytesOf (ys.map fun n : Nat => (n : Int))) = _
    rw [Int.toNat_natCast, Int.toNat_natCast, Lib.compareBytes, cmpL, ih]
    simp only [o1, o2]
theorem run_loadB16 {P : Program} {w : World} {G o : Nat} {xs : List Nat} (hl : xs.length = 16) (h : w.rangeAt G o (xs.map fun n => Value.int .u8 ((n : Nat) : Int))) : (Extern.Bytes.loadBytes ⟨G, o, none⟩ 16 .empty).run P w = .ok ⟨(Lib.bytesOf (xs.map fun n : Nat => (n : Int))).toArray⟩ w := by
  have hr := Lib.run_loadBytesX (P := P) w (xs.map fun n : Nat => (n : Int)) ⟨G, o, none⟩ .empty (fun j x hj => by
    rw [Addr.add_mid]
    refine h j _ ?_
    rw [List.getElem?_map] at hj ⊢
    cases hx : xs[j]? with
    | none => rw [hx] at hj; cases hj
    | some y => rw [hx] at hj; cases hj; rfl)
  rw [List.length_map, hl] at hr
  rw [hr]
  congr 1
  apply ByteArray.ext
  show (#[] : Array UInt8) ++ _ = _
  simp
theorem run_compare16 {P : Program} {w : World} {G o G' o' : Nat} {xs ys : List Nat} (lx : xs.length = 16) (ly : ys.length = 16) (h : w.rangeAt G o (xs.map fun n => Value.int .u8 ((n : Nat) : Int))) (h' : w.rangeAt G' o' (ys.map fun n => Value.int .u8 ((n : Nat) : Int))) (hx : ∀ x ∈ xs, x < 256) (hy : ∀ x ∈ ys, x < 256) (c c' : Nat) :
    (Extern.BytealgCompare.compare #[.slice (some ⟨G, o, none⟩) 16 c, .slice (some ⟨G', o', none⟩) 16 c']).run P w = .ok (.int .i64 (cmpL xs ys)) w := by
  change Sem.run P (do
    let a ← Extern.Bytes.bytesOf (.slice (some ⟨G, o, none⟩) 16 c)
    let b ← Extern.Bytes.bytesOf (.slice (some ⟨G', o', none⟩) 16 c')
    pure (goInt (Extern.BytealgCompare.cmp a b))) w = _
  simp only [Extern.Bytes.bytesOf, Sem.run_bind, Sem.run_pure, run_loadB16 lx h, run_loadB16 ly h', Result.andThen, Lib.cmp_eq]
  rw [compare_nats xs ys (by rw [lx, ly]) hx hy]
  rfl
theorem cmpA_ne {f g : Int} (xs ys : List Nat) (h : f ≠ g) : cmpA f xs g ys = sgn3 f g := by
  unfold cmpA sgn3
  rw [if_neg h]
  by_cases h1 : f < g
  · rw [if_pos h1, if_pos h1]
  · rw [if_neg h1, if_neg h1, if_pos (by omega)]
end Go.Proofs.Yticdpidngmeebaa
