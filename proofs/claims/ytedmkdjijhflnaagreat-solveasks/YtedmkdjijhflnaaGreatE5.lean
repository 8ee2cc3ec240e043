/- Texts that belong together, one behind the other: LabMath, LabOwn, SolStart, CacSort, CacSweep, CacLeast. -/
import Derived.Test.YtedmkdjijhflnaaGreatE4
import Derived.Lib.Join
import Derived.Lib.Bytealg
import Derived.Test.YtedmkdjijhflnaaGreatShelf
import Derived.Deep.RegionHeld3
set_option linter.unusedVariables false
set_option linter.unusedSimpArgs false
set_option maxRecDepth 20000
namespace Go.Proofs.YtedmkdjijhflnaaGreat
open Go.RowKit

def headL : List UInt8 → List UInt8
  | [] => []
  | c :: l => if c.toNat = 46 then [] else c :: headL l
def tailL : List UInt8 → List UInt8
  | [] => []
  | c :: l => if c.toNat = 46 then l else tailL l
def firstB (s : ByteArray) : ByteArray := ofL (headL s.data.toList)
def parB (s : ByteArray) : ByteArray := ofL (tailL s.data.toList)
theorem u8_dot {c : UInt8} (h : c.toNat = 46) : c = 46 := UInt8.toNat_inj.1 h
theorem head_tail : ∀ l : List UInt8, ((∀ c ∈ l, c.toNat ≠ 46) ∧ headL l = l ∧ tailL l = []) ∨ (l = headL l ++ 46 :: tailL l ∧ ∀ c ∈ headL l, c.toNat ≠ 46)
  | [] => .inl ⟨by simp, rfl, rfl⟩
  | c :: l => by
    by_cases h : c.toNat = 46
    · right
      have hc := u8_dot h
      subst hc
      unfold headL tailL
      rw [if_pos h, if_pos h]
      exact ⟨rfl, by simp⟩
    · unfold headL tailL
      rw [if_neg h, if_neg h]
      rcases head_tail l with ⟨h1, h2, h3⟩ | ⟨h1, h2⟩
      · left
        refine ⟨fun x hx => ?_, by rw [h2], h3⟩
        rcases List.mem_cons.1 hx with rfl | hx
        · exact h
        · exact h1 x hx
      · right
        refine ⟨by rw [List.cons_append, ← h1], fun x hx => ?_⟩
        rcases List.mem_cons.1 hx with rfl | hx
        · exact h
        · exact h2 x hx
theorem data_size (s : ByteArray) : s.data.toList.length = s.size := Array.length_toList
theorem pieces_head (s : ByteArray) : (pieces s 46 = [s] ∧ firstB s = s ∧ parB s = ⟨#[]⟩) ∨ (pieces s 46 = firstB s :: pieces (parB s) 46 ∧ s.data.toList = (firstB s).data.toList ++ 46 :: (parB s).data.toList) := by
  rw [pieces_cut]
  rcases head_tail s.data.toList with ⟨h1, h2, h3⟩ | ⟨h1, h2⟩
  · left
    refine ⟨?_, ?_, ?_⟩
    · rw [cutL_none 46 _ h1]
      exact congrArg (· :: []) (eq_ofL rfl).symm
    · unfold firstB; rw [h2]; exact (eq_ofL rfl).symm
    · unfold parB; rw [h3]; rfl
  · right
    have e1 : (firstB s).data.toList = headL s.data.toList := ofL_data _
    have e2 : (parB s).data.toList = tailL s.data.toList := ofL_data _
    refine ⟨?_, by rw [e1, e2]; exact h1⟩
    rw [pieces_cut, e2]
    have := cutL_first 46 46 rfl (tailL s.data.toList) (headL s.data.toList) h2
    rw [← h1] at this
    rw [this]
    rfl
theorem par_lt (s : ByteArray) (h : 0 < s.size) : (parB s).size < s.size := by
  rcases pieces_head s with ⟨_, _, h3⟩ | ⟨_, h2⟩
  · rw [h3]; exact h
  · have := congrArg List.length h2
    rw [List.length_append, List.length_cons, data_size, data_size, data_size] at this
    omega
theorem par_le (s : ByteArray) : (parB s).size ≤ s.size := by
  rcases Nat.eq_zero_or_pos s.size with h | h
  · have : s.data.toList = [] := List.eq_nil_of_length_eq_zero (by rw [data_size]; exact h)
    unfold parB
    rw [this]
    exact Nat.zero_le _
  · exact Nat.le_of_lt (par_lt s h)
theorem empty_of {s : ByteArray} (h : s.size = 0) : s = ⟨#[]⟩ := bytes_ext (List.eq_nil_of_length_eq_zero (by rw [data_size]; exact h))
theorem par_empty {s : ByteArray} (h : s.size = 0) : parB s = ⟨#[]⟩ := by rw [empty_of h]; rfl
theorem labels_empty {s : ByteArray} (h : s.size = 0) : labelsB s = [] := by unfold labelsB; rw [if_pos h]
theorem labels_pieces {s : ByteArray} (h : 0 < s.size) : labelsB s = pieces s 46 := by unfold labelsB; rw [if_neg (by omega)]
theorem pieces_empty : pieces ⟨#[]⟩ 46 = [⟨#[]⟩] := by kernel_rfl
theorem labels_nil_iff (s : ByteArray) : labelsB s = [] ↔ s.size = 0 := by
  constructor
  · intro h
    apply Classical.byContradiction
    intro hn
    rw [labels_pieces (by omega)] at h
    have := pieces_pos s 46
    rw [h] at this
    exact absurd this (by simp)
  · exact labels_empty
theorem joinB_one (p : ByteArray) : joinB [p] ⟨#[46]⟩ = p := bytes_ext (by simp [joinB, joinTo])
theorem rest_zero (s : ByteArray) : restB s 0 = s := by
  unfold restB
  rcases Nat.eq_zero_or_pos s.size with h | h
  · rw [labels_empty h, if_pos (by simp), empty_of h]
  · rw [labels_pieces h, if_neg (by have := pieces_pos s 46; omega), List.drop_zero]
    exact pieces_join s 46 (by decide)
theorem rest_succ (s : ByteArray) (k : Nat) : restB s (k + 1) = restB (parB s) k := by
  rcases Nat.eq_zero_or_pos s.size with h | h
  · rw [par_empty h]
    unfold restB
    rw [labels_empty h, labels_empty (show (⟨#[]⟩ : ByteArray).size = 0 from rfl), if_pos (by simp), if_pos (by simp)]
  · rcases pieces_head s with ⟨h1, _, h3⟩ | ⟨h1, _⟩
    · rw [h3]
      unfold restB
      rw [labels_pieces h, h1, labels_empty (show (⟨#[]⟩ : ByteArray).size = 0 from rfl), if_pos (by simp), if_pos (by simp)]
    · unfold restB
      rw [labels_pieces h, h1]
      rcases Nat.eq_zero_or_pos (parB s).size with hp | hp
      · rw [labels_empty hp, empty_of hp, pieces_empty]
        rw [if_pos (show ([] : List ByteArray).length ≤ k by simp)]
        rcases k with _ | k
        · rw [if_neg (by simp)]
          exact joinB_one _
        · rw [if_pos (by simp)]
      · rw [labels_pieces hp]
        by_cases hk : (pieces (parB s) 46).length ≤ k
        · rw [if_pos hk, if_pos (by simp; omega)]
        · rw [if_neg hk, if_neg (by simp; omega), List.drop_succ_cons]
theorem rest_par : ∀ (k : Nat) (s : ByteArray), restB s (k + 1) = parB (restB s k)
  | 0, s => by rw [rest_succ, rest_zero, rest_zero]
  | k + 1, s => by rw [rest_succ, rest_par k (parB s), ← rest_succ]
theorem rest_le (s : ByteArray) : ∀ k, (restB s k).size ≤ s.size
  | 0 => by rw [rest_zero]; exact Nat.le_refl _
  | k + 1 => by rw [rest_par]; exact Nat.le_trans (par_le _) (rest_le s k)
def Full (s : ByteArray) : Prop := ∀ p ∈ labelsB s, 0 < p.size
theorem labels_cons {s : ByteArray} (hf : Full s) (h : 0 < s.size) : labelsB s = firstB s :: labelsB (parB s) := by
  rcases pieces_head s with ⟨h1, h2, h3⟩ | ⟨h1, _⟩
  · rw [h3, h2, labels_pieces h, h1, labels_empty (show (⟨#[]⟩ : ByteArray).size = 0 from rfl)]
  · rcases Nat.eq_zero_or_pos (parB s).size with hp | hp
    · exfalso
      unfold Full at hf
      rw [labels_pieces h, h1, empty_of hp, pieces_empty] at hf
      exact absurd (hf ⟨#[]⟩ (by simp)) (by decide)
    · rw [labels_pieces h, h1, labels_pieces hp]
theorem Full.par {s : ByteArray} (hf : Full s) : Full (parB s) := by
  rcases Nat.eq_zero_or_pos s.size with h | h
  · rw [par_empty h]
    unfold Full
    rw [labels_empty (show (⟨#[]⟩ : ByteArray).size = 0 from rfl)]
    intro p hp
    cases hp
  · intro p hp
    exact hf p (by rw [labels_cons hf h]; exact List.mem_cons_of_mem _ hp)
theorem labels_rest : ∀ (k : Nat) {s : ByteArray}, Full s → labelsB (restB s k) = (labelsB s).drop k
  | 0, s, _ => by rw [rest_zero, List.drop_zero]
  | k + 1, s, hf => by
    rw [rest_succ, labels_rest k hf.par]
    rcases Nat.eq_zero_or_pos s.size with h | h
    · rw [par_empty h, labels_empty h, labels_empty (show (⟨#[]⟩ : ByteArray).size = 0 from rfl), List.drop_nil, List.drop_nil]
    · rw [labels_cons hf h, List.drop_succ_cons]
theorem rest_pos {s : ByteArray} (hf : Full s) (k : Nat) : 0 < (restB s k).size ↔ k < (labelsB s).length := by
  have h1 := labels_rest k hf
  have h2 := labels_nil_iff (restB s k)
  rw [h1, List.drop_eq_nil_iff] at h2
  omega
theorem joinTo_size2 (l : List ByteArray) : ∀ k, (joinTo l ⟨#[46]⟩ k).size + (if k = 0 then 1 else 2) = sizeTo l k
  | 0 => rfl
  | k + 1 => by
    have h := joinTo_size2 l k
    have e : (joinTo l ⟨#[46]⟩ (k + 1)).size = (if 0 < k then (joinTo l ⟨#[46]⟩ k).size + 1 else (joinTo l ⟨#[46]⟩ k).size) + (l.getD k ⟨#[]⟩).size := by
      rw [joinTo, ByteArray.size_append]
      split
      · rw [ByteArray.size_append]; rfl
      · rfl
    have e2 : sizeTo l (k + 1) = sizeTo l k + 1 + (l.getD k ⟨#[]⟩).size := rfl
    rw [e, e2, if_neg (Nat.succ_ne_zero k)]
    split at h <;> split <;> omega
theorem size_labels (s : ByteArray) : sizeL (labelsB s) = if s.size = 0 then 1 else s.size + 2 := by
  by_cases h : s.size = 0
  · rw [if_pos h, labels_empty h]; rfl
  · rw [if_neg h, labels_pieces (by omega)]
    have h1 := joinTo_size2 (pieces s 46) (pieces s 46).length
    have h2 := pieces_join s 46 (by decide)
    have h3 := pieces_pos s 46
    unfold joinB at h2
    rw [if_neg (by omega)] at h1
    have h4 : (joinTo (pieces s 46) ⟨#[46]⟩ (pieces s 46).length).size = s.size := by
      have := congrArg ByteArray.size h2
      exact this
    unfold sizeL
    omega
theorem may_is (s : ByteArray) : mayN s = decide (s.size ≤ 253 ∧ ∀ k, k < (labelsB s).length → 1 ≤ ((labelsB s).getD k ⟨#[]⟩).size ∧ ((labelsB s).getD k ⟨#[]⟩).size ≤ 63) := by
  unfold mayN
  apply decide_eq_decide.2
  unfold MayL
  rw [size_labels]
  constructor
  · rintro ⟨h1, h2⟩
    refine ⟨?_, h1⟩
    split at h2 <;> omega
  · rintro ⟨h1, h2⟩
    refine ⟨h2, ?_⟩
    split <;> omega
theorem may_full {s : ByteArray} (h : mayN s = true) : Full s := by
  intro p hp
  obtain ⟨k, hk, rfl⟩ := List.getElem_of_mem hp
  have := ((of_decide_eq_true h : MayL _).1 k hk).1
  rw [List.getD_eq_getElem?_getD, List.getElem?_eq_getElem hk] at this
  exact this
theorem may_small {s : ByteArray} (h : mayN s = true) : s.size ≤ 253 := by
  rw [may_is] at h
  exact (of_decide_eq_true h).1
theorem may_label {s : ByteArray} (h : mayN s = true) : ∀ p ∈ labelsB s, 1 ≤ p.size ∧ p.size ≤ 63 := by
  intro p hp
  obtain ⟨k, hk, rfl⟩ := List.getElem_of_mem hp
  have := ((of_decide_eq_true h : MayL _).1 k hk)
  rw [List.getD_eq_getElem?_getD, List.getElem?_eq_getElem hk] at this
  exact this
theorem cutL_free : ∀ (l : List UInt8), ∀ p ∈ cutL 46 l, ∀ c ∈ p, c.toNat ≠ 46
  | [] => by simp [cutL]
  | x :: l => by
    have ih := cutL_free l
    unfold cutL
    split
    · intro p hp
      rcases List.mem_cons.1 hp with rfl | hp
      · simp
      · exact ih p hp
    · rename_i hx
      split
      · intro p hp c hc
        rw [List.mem_singleton.1 hp] at hc
        rw [List.mem_singleton.1 hc]
        exact hx
      · rename_i y r he
        rw [he] at ih
        intro p hp
        rcases List.mem_cons.1 hp with rfl | hp
        · intro c hc
          rcases List.mem_cons.1 hc with rfl | hc
          · exact hx
          · exact ih y (by simp) c hc
        · exact ih p (List.mem_cons_of_mem _ hp)
def NoDot (p : ByteArray) : Prop := ∀ c ∈ p.data.toList, c.toNat ≠ 46
theorem labels_free (s : ByteArray) : ∀ p ∈ labelsB s, NoDot p := by
  intro p hp
  unfold labelsB at hp
  split at hp
  · cases hp
  · rw [pieces_cut] at hp
    obtain ⟨q, hq, rfl⟩ := List.mem_map.1 hp
    unfold NoDot
    rw [ofL_data]
    exact cutL_free _ q hq
theorem joinTo_data (l : List ByteArray) : ∀ k, k ≤ l.length → (joinTo l ⟨#[46]⟩ k).data.toList = Lib.join ((l.take k).map (·.data.toList)) [46]
  | 0, _ => by rw [List.take_zero]; rfl
  | k + 1, h => by
    have ih := joinTo_data l k (by omega)
    have hk : k < l.length := h
    rw [List.take_succ_eq_append_getElem hk, List.map_append, joinTo, data_append]
    have e : l.getD k ⟨#[]⟩ = l[k] := by rw [List.getD_eq_getElem?_getD, List.getElem?_eq_getElem hk]; rfl
    rw [e]
    by_cases h0 : 0 < k
    · rw [if_pos h0, data_append, ih]
      obtain ⟨x, r, hx⟩ : ∃ x r, (l.take k).map (·.data.toList) = x :: r := by
        cases hh : (l.take k).map (·.data.toList) with
        | nil =>
          have := congrArg List.length hh
          rw [List.length_map, List.length_take, List.length_nil] at this
          omega
        | cons a t => exact ⟨a, t, rfl⟩
      rw [hx, List.cons_append, Lib.join_cons, Lib.join_cons]
      simp [Lib.joinTail]
    · obtain rfl : k = 0 := by omega
      rw [if_neg h0, ih]
      simp [Lib.join_one, Lib.join_nil]
theorem joinB_data (l : List ByteArray) : (joinB l ⟨#[46]⟩).data.toList = Lib.join (l.map (·.data.toList)) [46] := by
  have := joinTo_data l l.length (Nat.le_refl _)
  rw [List.take_of_length_le (Nat.le_refl _)] at this
  exact this
theorem cut_join : ∀ (r : List (List UInt8)) (x : List UInt8), (∀ c ∈ x, c.toNat ≠ 46) → (∀ p ∈ r, ∀ c ∈ p, c.toNat ≠ 46) → cutL 46 (x ++ Lib.joinTail [46] r) = x :: r
  | [], x, hx, _ => by simp only [Lib.joinTail, List.map_nil, List.flatten_nil, List.append_nil]; exact cutL_none 46 x hx
  | y :: r, x, hx, hr => by
    have e : Lib.joinTail [46] (y :: r) = 46 :: (y ++ Lib.joinTail [46] r) := by simp [Lib.joinTail]
    rw [e, cutL_first 46 46 rfl _ x hx, cut_join r y (hr y (by simp)) (fun p hp => hr p (List.mem_cons_of_mem _ hp))]
theorem labels_join (l : List ByteArray) (h1 : ∀ p ∈ l, 0 < p.size) (h2 : ∀ p ∈ l, NoDot p) : labelsB (joinB l ⟨#[46]⟩) = l := by
  cases l with
  | nil => exact labels_empty rfl
  | cons x r =>
    have hd := joinB_data (x :: r)
    rw [List.map_cons, Lib.join_cons] at hd
    have hs : 0 < (joinB (x :: r) ⟨#[46]⟩).size := by
      rw [← data_size, hd, List.length_append, data_size]
      have := h1 x (by simp)
      omega
    rw [labels_pieces hs, pieces_cut, hd, cut_join _ _ (h2 x (by simp)) (fun p hp => by
      obtain ⟨q, hq, rfl⟩ := List.mem_map.1 hp
      exact h2 q (List.mem_cons_of_mem _ hq)), List.map_cons, List.map_map]
    have e2 : (ofL ∘ fun p : ByteArray => p.data.toList) = id := by funext p; simp [ofL]
    rw [e2, List.map_id]
    exact congrArg (· :: r) (eq_ofL rfl).symm
theorem hasTo_free {s : ByteArray} : ∀ k, k ≤ s.size → (hasTo s 46 k = false ↔ ∀ j, j < k → (s.data.toList.getD j 0).toNat ≠ 46)
  | 0, _ => ⟨fun _ j hj => absurd hj (by omega), fun _ => rfl⟩
  | k + 1, h => by
    have ih := hasTo_free (s := s) k (by omega)
    rw [hasTo, Bool.or_eq_false_iff, ih, decide_eq_false_iff_not]
    constructor
    · rintro ⟨h1, h2⟩ j hj
      by_cases hjk : j < k
      · exact h1 j hjk
      · obtain rfl : j = k := by omega
        exact h2
    · intro h1
      exact ⟨fun j hj => h1 j (by omega), h1 k (by omega)⟩
theorem has_free (s : ByteArray) : has8 s 46 = false ↔ NoDot s := by
  unfold has8
  rw [hasTo_free s.size (Nat.le_refl _)]
  constructor
  · intro h c hc
    obtain ⟨j, hj, rfl⟩ := List.getElem_of_mem hc
    have := h j (by rw [← data_size]; exact hj)
    rw [List.getD_eq_getElem?_getD, List.getElem?_eq_getElem hj] at this
    exact this
  · intro h j hj
    have hj2 : j < s.data.toList.length := by rw [data_size]; exact hj
    rw [List.getD_eq_getElem?_getD, List.getElem?_eq_getElem hj2]
    exact h _ (List.getElem_mem hj2)
theorem index_dot : ∀ l : List UInt8, (Lib.indexByte l 46 = -1 ∧ (∀ c ∈ l, c.toNat ≠ 46) ∧ headL l = l ∧ tailL l = []) ∨ (∃ i : Nat, Lib.indexByte l 46 = i ∧ i < l.length ∧ headL l = l.take i ∧ tailL l = l.drop (i + 1) ∧ ∃ c ∈ l, c.toNat = 46)
  | [] => .inl ⟨rfl, by simp, rfl, rfl⟩
  | x :: l => by
    unfold Lib.indexByte headL tailL
    by_cases hx : x.toNat = 46
    · have := u8_dot hx
      subst this
      right
      refine ⟨0, by simp, by simp, by simp, by simp, 46, by simp, rfl⟩
    · have hne : (x == 46) = false := by rw [beq_eq_false_iff_ne]; intro h; exact hx (by rw [h]; rfl)
      rw [hne, if_neg hx, if_neg hx]
      rcases index_dot l with ⟨h1, h2, h3, h4⟩ | ⟨i, h1, h2, h3, h4, c, h5, h6⟩
      · left
        rw [h1]
        refine ⟨rfl, fun c hc => ?_, by rw [h3], h4⟩
        rcases List.mem_cons.1 hc with rfl | hc
        · exact hx
        · exact h2 c hc
      · right
        rw [h1]
        refine ⟨i + 1, ?_, by simp; omega, by rw [h3]; rfl, by rw [h4]; rfl, c, List.mem_cons_of_mem _ h5, h6⟩
        have : ((i : Int) == -1) = false := by rw [beq_eq_false_iff_ne]; omega
        rw [this]
        simp
theorem contains_dot (s : ByteArray) : decide (0 ≤ Lib.indexByte s.data.toList 46) = has8 s 46 := by
  rcases index_dot s.data.toList with ⟨h1, h2, _, _⟩ | ⟨i, h1, _, _, _, c, h5, h6⟩
  · rw [h1, (has_free s).2 h2]; rfl
  · rw [h1]
    have : has8 s 46 ≠ false := fun h => (has_free s).1 h c h5 h6
    rw [Bool.of_not_eq_false this]
    exact decide_eq_true (by omega)
end Go.Proofs.YtedmkdjijhflnaaGreat
namespace Go.Proofs.YtedmkdjijhflnaaGreat
open Go.RowKit

set_option maxRecDepth 100000 in
theorem labels_any (s : ByteArray) (w : World) (hs : s.size ≤ 2000000) :
    Calls Tryz.prog 89 #[.string s] w fun e w' => ∃ a c, e = .returned (.slice a (labelsB s).length c) ∧ RowS w' a c (labelsB s) ∧ Below w.heap.size w w' := by
  by_cases h0 : s.size = 0
  · have he := isEmpty_true s h0
    have HE : Hid (labelsB s = []) := Lib.hid (by unfold labelsB; rw [if_pos h0])
    rw [HE.out]
    clear hs h0
    go_enter Tryz.func89, Tryz.ntmps89
    go_wp2_with fail
    go_ret
    exact ⟨none, 0, rfl, .inl ⟨rfl, rfl, rfl⟩, Below.refl _ _⟩
  · have he := isEmpty_false s (by omega)
    have HE : Hid (labelsB s = pieces s 46) := Lib.hid (by unfold labelsB; rw [if_neg h0])
    have HSP := Lib.hid (split_row s 46 w hs)
    rw [HE.out]
    generalize pieces s 46 = l at *
    clear hs h0 HE
    go_enter Tryz.func89, Tryz.ntmps89
    go_wp2_with fail
    refine HSP.out.mono ?_
    rintro e w1 ⟨g, c, rfl, hg, hr, hb⟩
    have HR := Lib.hid hr
    have HB := Lib.hid hb
    clear hr hb hg HSP
    go_wp2_with fail
    go_ret
    exact ⟨_, _, rfl, .inr ⟨g, rfl, HR.out⟩, HB.out⟩
set_option maxRecDepth 100000 in
set_option maxHeartbeats 2000000 in
theorem may_any (s : ByteArray) (w : World) (hs : s.size ≤ 2000000) :
    Calls Tryz.prog 50 #[.string s] w fun e w' => e = .returned (.bool (mayN s)) ∧ Below w.heap.size w w' := by
  have HM := Lib.hid (may_is s)
  have HLA := Lib.hid (labels_any s w hs)
  have hsm : ∀ p ∈ labelsB s, p.size ≤ 2000000 := fun p hp => Nat.le_trans (labels_small s p hp) (by omega)
  have hln := labels_len s
  generalize mayN s = m at *
  generalize labelsB s = l at *
  by_cases h253 : 253 < s.size
  · have hd0 : decide (253 < (s.size : Int)) = true := decide_eq_true (by omega)
    have hd0n : decide (253 < s.size) = true := decide_eq_true h253
    have EM : m = false := by rw [HM.out]; exact decide_eq_false (fun h => by omega)
    subst EM
    clear HLA hsm HM
    go_enter Tryz.func50, Tryz.ntmps50
    go_wp2_with fail
    go_ret
    exact ⟨rfl, Below.refl _ _⟩
  · have hd0 : decide (253 < (s.size : Int)) = false := decide_eq_false (by omega)
    have hd0n : decide (253 < s.size) = false := decide_eq_false h253
    have HM2 : Hid (m = decide (∀ k, k < l.length → 1 ≤ (l.getD k ⟨#[]⟩).size ∧ (l.getD k ⟨#[]⟩).size ≤ 63)) := Lib.hid (by
      rw [HM.out]
      exact decide_eq_decide.2 ⟨fun h => h.2, fun h => ⟨by omega, h⟩⟩)
    have HSM := Lib.hid hsm
    clear hsm HM
    obtain ⟨N, hN⟩ : ∃ N, l.length = N := ⟨_, rfl⟩
    have HN := Lib.hid hN
    rw [hN] at hln HLA HM2
    clear hN
    go_enter Tryz.func50, Tryz.ntmps50
    go_wp2_with fail
    refine HLA.out.mono ?_
    rintro e w1 ⟨a, c, rfl, hr, hb⟩
    have HR := Lib.hid hr
    have HB := Lib.hid hb
    clear hr hb HLA
    go_wp2_with fail
    go_loop [11] (fun i => ∃ k : Nat, k ≤ N ∧ i = .int .i64 (k : Int) ∧ Hid (∀ j, j < k → 1 ≤ (l.getD j ⟨#[]⟩).size ∧ (l.getD j ⟨#[]⟩).size ≤ 63)) (fun i => N - (intOf i).toNat)
    case atStart => exact ⟨0, Nat.zero_le _, rfl, Lib.hid (fun j hj => absurd hj (by omega))⟩
    case round =>
      obtain ⟨k, hk, rfl, HO⟩ := hrel
      by_cases hkN : k < N
      · have hd : decide ((k : Int) < (N : Int)) = true := decide_eq_true (by omega)
        have hdn : decide (k < N) = true := decide_eq_true (by omega)
        rcases HR.out with ⟨_, _, h0⟩ | ⟨g, rfl, h⟩
        · have := HN.out; rw [h0] at this; simp at this; omega
        have hc := h.cells k (by rw [HN.out]; exact hkN)
        have hz := getD_small HSM.out k
        have HO2 : Hid (1 ≤ (l.getD k ⟨#[]⟩).size ∧ (l.getD k ⟨#[]⟩).size ≤ 63 → ∀ j, j < k + 1 → 1 ≤ (l.getD j ⟨#[]⟩).size ∧ (l.getD j ⟨#[]⟩).size ≤ 63) := Lib.hid (fun hp j hj => by
          by_cases h : j < k
          · exact HO.out j h
          · obtain rfl : j = k := by omega
            exact hp)
        have HF : Hid (¬ (1 ≤ (l.getD k ⟨#[]⟩).size ∧ (l.getD k ⟨#[]⟩).size ≤ 63) → m = false) := Lib.hid (fun hp => by
          rw [HM2.out]
          exact decide_eq_false (fun h => hp (h k hkN)))
        generalize l.getD k ⟨#[]⟩ = p at *
        have hb1 : (0 : Int) ≤ (k : Int) := by omega
        have hb2 : (k : Int) < (N : Int) := by omega
        clear h
        by_cases h1 : p.size < 1
        · have hd1 : decide ((p.size : Int) < 1) = true := decide_eq_true (by omega)
          have hd1n : decide (p.size < 1) = true := decide_eq_true (by omega)
          have ES := HF.out (fun h => absurd h.1 (by omega))
          subst ES
          clear HO2 HF HM2
          go_wp2_with fail
          go_ret
          exact ⟨rfl, HB.out⟩
        · have hd1 : decide ((p.size : Int) < 1) = false := decide_eq_false (by omega)
          have hd1n : decide (p.size < 1) = false := decide_eq_false (by omega)
          by_cases h2 : 63 < p.size
          · have hd2 : decide (63 < (p.size : Int)) = true := decide_eq_true (by omega)
            have hd2n : decide (63 < p.size) = true := decide_eq_true (by omega)
            have ES := HF.out (fun h => absurd h.2 (by omega))
            subst ES
            clear HO2 HF HM2
            go_wp2_with fail
            go_ret
            exact ⟨rfl, HB.out⟩
          · have hd2 : decide (63 < (p.size : Int)) = false := decide_eq_false (by omega)
            have hd2n : decide (63 < p.size) = false := decide_eq_false (by omega)
            have HO3 := Lib.hid (HO2.out (by omega))
            clear HO2 HF HO
            go_wp2_with fail
            go_round
            case rel => exact ⟨k + 1, by omega, by go_num, HO3⟩
            case measure => simp [intOf]; omega
      · obtain rfl : k = N := by omega
        have hd : decide ((k : Int) < (k : Int)) = false := by simp
        have EM : m = true := by rw [HM2.out]; exact decide_eq_true HO.out
        subst EM
        clear HM2
        go_wp2_with fail
        go_ret
        exact ⟨rfl, HB.out⟩
end Go.Proofs.YtedmkdjijhflnaaGreat
namespace Go.Proofs.YtedmkdjijhflnaaGreat
open Go.RowKit Go.Sort Go.Shelf Go.Maps

def askOk (nm : ByteArray) (kd : Int) : Bool := !nm.toList.isEmpty && (mayN nm && (decide (kd = 1) || decide (kd = 28)))
def newLk (c : Cfg) (n : Int) (nm : ByteArray) (kd draw now : Int) : Lk := sendL c ⟨n, nm, ⟨0, nm, kd, 0⟩, 0, 0, 0, 604800⟩ draw now
def StRet (w : World) (G cp : Nat) (c : Cfg) (n : Int) (v : Value) (A : List PL) (nm : ByteArray) (kd draw now : Int) (E : Ce) (hb : Bool) (L : List Ad) (e : Ending) (w' : World) : Prop :=
  ∃ ev v' A', e = .returned (.tuple #[.int .i64 n, evV ev]) ∧ SolO w' G cp c (n + 1) v' A' ∧ Foot (fpO G v A) (fpO G v' A') w w' ∧
    ((askOk nm kd = false ∧ ev = evF n 1 ∧ v' = v ∧ A' = A) ∨
     (askOk nm kd = true ∧ hb = true ∧ now < E.u ∧ v' = v ∧ A' = A ∧ ∃ a c, ev = evD n a L.length c ∧ RowA w' w.heap.size (.slice a L.length c) L) ∨
     (askOk nm kd = true ∧ (hb = false ∨ E.u ≤ now) ∧ A.length = 16 ∧ ev = evF n 6 ∧ v' = v ∧ A' = A) ∨
     (askOk nm kd = true ∧ (hb = false ∨ E.u ≤ now) ∧ A.length ≠ 16 ∧ ev = evS (newLk c n nm kd draw now) ∧ ∃ g, w.heap.size ≤ g ∧ A' = A ++ [(g, newLk c n nm kd draw now)]))
theorem SolO.begun {w : World} {G cp : Nat} {c : Cfg} {n m : Int} {v : Value} {A : List PL} (h : SolO w G cp c n v A) : SolO (w.setCell ⟨G, 5, none⟩ (.int .i64 m)) G cp c m v A := by
  have hf : Foot [G] [G] w (w.setCell ⟨G, 5, none⟩ (.int .i64 m)) := foot_cells G 5 [.int .i64 m]
  refine ⟨?_, h.row.foot hf (fun g hg => by simpa using (h.vb g hg).1), fun p hp => ⟨(h.lk p hp).1.foot hf (by simpa using h.gp p hp), (h.lk p hp).2.foot hf (by simpa using h.gp p hp)⟩, h.nd, h.gp, h.vb, h.ok, h.cf⟩
  have := h.cs.set 5 (.int .i64 m) (show 5 < 7 by decide)
  simpa [solL] using this
theorem fpO_lt {w : World} {G cp : Nat} {c : Cfg} {n : Int} {v : Value} {A : List PL} (h : SolO w G cp c n v A) : ∀ k ∈ fpO G v A, k < w.heap.size := fun k hk => by
  rcases List.mem_cons.1 hk with rfl | hk
  · exact h.cs.lt
  rcases List.mem_append.1 hk with hk | hk
  · exact (h.row.lt k (by simpa using hk)).2
  · obtain ⟨q, hq, rfl⟩ := List.mem_map.1 hk
    exact (h.lk q hq).1.lt
theorem SolO.grow {W6 V6 : World} {G cp g : Nat} {c : Cfg} {n : Int} {v v' : Value} {A : List PL} {l : Lk} (h : SolO W6 G cp c n v A) (hc : CellsAt W6 g (lkL l)) (hk : Blk W6 g) (hg : ∀ k ∈ fpO G v A, k ≠ g) (ho : l.Ok c) (hr : RowP V6 0 v' (A.map Prod.fst ++ [g])) (hf : Foot v.ownBlock.toList v'.ownBlock.toList W6 V6) :
    SolO (V6.setCell ⟨G, 6, none⟩ v') G cp c n v' (A ++ [(g, l)]) ∧ Foot (g :: fpO G v A) (fpO G v' (A ++ [(g, l)])) W6 (V6.setCell ⟨G, 6, none⟩ v') := by
  have hGv : G ∉ v.ownBlock.toList := by simp; exact fun e => (h.vb G e).1 rfl
  have hGg : G ≠ g := hg G (by simp [fpO])
  have hvg : ∀ b, v.ownBlock = some b → b ≠ g := fun b e => hg b (by simp [fpO, e])
  have hAg : ∀ p ∈ A, p.1 ≠ g := fun p hp => hg _ (mem_fpO hp)
  have hgv : g ∉ v.ownBlock.toList := by simp; exact fun e => hvg g e rfl
  have hvA : ∀ p ∈ A, p.1 ∉ v.ownBlock.toList := fun p hp => by simp; exact fun e => (h.vb _ e).2 p hp rfl
  have hf2 : Foot [G] [G] V6 (V6.setCell ⟨G, 6, none⟩ v') := foot_cells G 6 [v']
  have hlt := fpO_lt h
  have hv' : ∀ b, v'.ownBlock = some b → v.ownBlock = some b ∨ W6.heap.size ≤ b := fun b e => by
    rcases hf.new b (by simp [e]) with e2 | e2
    · exact .inl (by simpa using e2)
    · exact .inr e2
  have hvb : ∀ b, v'.ownBlock = some b → b ≠ G ∧ b ≠ g ∧ ∀ p ∈ A, p.1 ≠ b := fun b e => by
    rcases hv' b e with e2 | e2
    · exact ⟨(h.vb b e2).1, hvg b e2, (h.vb b e2).2⟩
    · refine ⟨?_, ?_, fun p hp => ?_⟩
      · have := hlt G (by simp [fpO]); omega
      · have := hk.lt; omega
      · have := hlt p.1 (mem_fpO hp); omega
  refine ⟨⟨?_, ?_, fun p hp => ?_, ?_, fun p hp => ?_, fun b e => ⟨(hvb b e).1, fun p hp => ?_⟩, fun p hp => ?_, h.cf⟩, ?_⟩
  · have := (h.cs.foot hf hGv).set 6 v' (show 6 < 7 by decide)
    simpa [solL] using this
  · rw [List.map_append]
    exact hr.foot hf2 (fun b e => by simpa using (hvb b e).1)
  · rcases List.mem_append.1 hp with hp | hp
    · exact ⟨((h.lk p hp).1.foot hf (hvA p hp)).foot hf2 (by simpa using h.gp p hp), ((h.lk p hp).2.foot hf (hvA p hp)).foot hf2 (by simpa using h.gp p hp)⟩
    · rw [List.mem_singleton.1 hp]
      exact ⟨(hc.foot hf hgv).foot hf2 (by simpa using hGg.symm), (hk.foot hf hgv).foot hf2 (by simpa using hGg.symm)⟩
  · rw [List.map_append, List.nodup_append]
    refine ⟨h.nd, by simp, fun a ha b hb => ?_⟩
    obtain ⟨p, hp, rfl⟩ := List.mem_map.1 ha
    have : b = g := by simpa using hb
    rw [this]
    exact hAg p hp
  · rcases List.mem_append.1 hp with hp | hp
    · exact h.gp p hp
    · rw [List.mem_singleton.1 hp]; exact hGg.symm
  · rcases List.mem_append.1 hp with hp | hp
    · exact (hvb b e).2.2 p hp
    · rw [List.mem_singleton.1 hp]; exact (hvb b e).2.1.symm
  · rcases List.mem_append.1 hp with hp | hp
    · exact h.ok p hp
    · rw [List.mem_singleton.1 hp]; exact ho
  · refine ⟨hf2.os.trans hf.os, hf2.tape.trans hf.tape, hf2.output.trans hf.output, Nat.le_trans hf.size hf2.size, fun k hk2 hn => ?_, fun k hk2 => ?_⟩
    · have n1 : k ∉ v.ownBlock.toList := fun e => hn (List.mem_cons_of_mem _ (List.mem_cons_of_mem _ (List.mem_append_left _ e)))
      have n2 : k ∉ [G] := fun e => hn (by rw [List.mem_singleton.1 e]; simp [fpO])
      exact (hf2.keep k (Nat.lt_of_lt_of_le hk2 hf.size) n2).trans (hf.keep k hk2 n1)
    · rcases List.mem_cons.1 hk2 with rfl | hk2
      · exact .inl (by simp [fpO])
      rcases List.mem_append.1 hk2 with hk2 | hk2
      · rcases hv' k (by simpa using hk2) with e2 | e2
        · exact .inl (by simp [fpO, e2])
        · exact .inr e2
      · rw [List.map_append] at hk2
        rcases List.mem_append.1 hk2 with hk2 | hk2
        · exact .inl (List.mem_cons_of_mem _ (List.mem_cons_of_mem _ (List.mem_append_right _ hk2)))
        · exact .inl (by simp at hk2; simp [hk2])
theorem setA_last {A : List PL} {g : Nat} {l l' : Lk} (h : ∀ p ∈ A, p.1 ≠ g) : setA (A ++ [(g, l)]) g l' = A ++ [(g, l')] := by
  unfold setA
  rw [List.map_append]
  congr 1
  · conv => rhs; rw [← List.map_id A]
    exact List.map_congr_left (fun q hq => by rw [if_neg (h q hq)]; rfl)
  · simp
theorem newLk_ok {c : Cfg} (hc : c.Ok) {n : Int} {nm : ByteArray} {kd tt : Int} (h0 : 0 ≤ n) (h1 : n ≤ 999999) (hn : nm.size ≤ 2000000) (hk : kd = 1 ∨ kd = 28) (ht : tt ≤ 604800) (hw : (Lit.int .i64 tt).wf = true) : Lk.Ok c ⟨n, nm, ⟨0, nm, kd, 0⟩, 0, 0, 0, tt⟩ :=
  ⟨Int.le_refl _, by have := hc.t1; show 0 ≤ c.tr; omega, Int.le_refl _, by have := hc.s1; show 0 < c.sv; omega, h0, by show n ≤ 1000000; omega, Int.le_refl _, by show (0 : Int) ≤ 2199023256552; decide, Int.le_refl _, by show (0 : Int) ≤ 1000; decide, hw, ht, hk, Int.le_refl _, by show (0 : Int) < 65536; decide, hn, hn⟩
theorem lk_new (w : World) (t : TypeId) (n : Int) (nm : ByteArray) (kd tt : Int) : CellsAt (w.alloc (.cells #[.int .i64 n, .string nm, .int .i64 0, .string nm, .int .i64 kd, .int .i64 0, .int .i64 0, .int .i64 0, .int .i64 0, .int .i64 tt] t)) w.heap.size (lkL ⟨n, nm, ⟨0, nm, kd, 0⟩, 0, 0, 0, tt⟩) := CellsAt.new w t (lkL ⟨n, nm, ⟨0, nm, kd, 0⟩, 0, 0, 0, tt⟩)
theorem built_q (nm : ByteArray) (kd : Int) : Tryz.prog.built 74 [(1, .string nm), (2, .int .i64 kd)] = some #[.int .i64 0, .string nm, .int .i64 kd, .int .i64 0] := rfl
theorem built_lk (n : Int) (nm : ByteArray) (kd tt : Int) : Tryz.prog.built 112 [(0, .int .i64 n), (1, .string nm), (2, .agg #[.int .i64 0, .string nm, .int .i64 kd, .int .i64 0]), (6, .int .i64 tt)] = some #[.int .i64 n, .string nm, .int .i64 0, .string nm, .int .i64 kd, .int .i64 0, .int .i64 0, .int .i64 0, .int .i64 0, .int .i64 tt] := by kernel_rfl
theorem build_of {ops : Array Oper} {rest : List Oper} {op : Oper} {a : Act} {w : World} {Q : Exit → Act → World → Prop} {t : TypeId} {parts : Array (Nat × Operand)} {vals : List (Nat × Value)} {cs : Array Value} (hg : op.guard = none) (ho : op.op = .build t parts) (hb : Tryz.prog.built t vals = some cs) (hv : (parts.map fun (i, x) => (i, a.eval x)).toList = vals) (h : wpList Tryz.prog ops Q rest (a.put op.dst (.agg cs)) w) : wpList Tryz.prog ops Q (op :: rest) a w := by
  refine wpList_build hg t _ ho (by rw [hv, hb]; rfl) ?_
  rw [hv, hb]
  exact h
theorem results_te {w : World} {fn : Func} {a t : Tmp} {tmps : Array Value} {R : Nat} {ty : TypeId} {d : TypeDesc} {vs : List Value} (h : fn.results = #[.tmp t, .cell a ty]) (ha : tmps.getD a undef = .pointer (some ⟨R, 0, none⟩)) (hA : CellsAt w R vs) (hu : Tryz.prog.underlying ty = some d) (hd : d.isRow = true) (hl : (Tryz.prog.info? ty).map (·.size) = some vs.length) : (results fn tmps).run Tryz.prog w = .ok (.tuple #[tmps.getD t undef, .agg vs.toArray]) w := by
  rw [Array.getD_eq_getD_getElem?] at ha
  have := run_loadVar_mid w R 0 ty vs _ hA.range hu hd hl
  simp [results, h, ha, asAddr, this]
set_option maxRecDepth 100000 in
set_option maxHeartbeats 4000000 in
theorem start_any (G cp b : Nat) (rm : Int) (es : List Ce) (nm : ByteArray) (kd draw now : Int) (L : List Ad) (c : Cfg) (n : Int) (v : Value) (A : List PL) (w : World) (h : SolO w G cp c n v A)
    (hca : ∀ W, Foot (fpO G v A) (fpO G v A) w W → CacAt W cp b rm es) (hL : ∀ W, Foot (fpO G v A) (fpO G v A) w W → ∀ e, getE es (lowB nm) kd = some e → e.n = L.length ∧ AdsIn W e.a e.c L) (hl : L.length ≤ 1000)
    (hn : nm.size ≤ 2000000) (hk : (Lit.int .i64 kd).wf = true) (hd : (Lit.int .i64 draw).wf = true) (h0 : 0 ≤ now) (h1 : now ≤ 2199023255552) (hn0 : 0 ≤ n) (hn1 : n ≤ 999999) (hA : A.length ≤ 16) :
    Calls Tryz.prog 24 #[.pointer (some ⟨G, 0, none⟩), .string nm, .int .i64 kd, .int .i64 draw, .int .i64 now] w (StRet w G cp c n v A nm kd draw now (theE es (lowB nm) kd) (getE es (lowB nm) kd).isSome L) := by
  obtain ⟨ao, co, hv⟩ := h.row.slice
  rw [List.length_map] at hv
  have HVV := Lib.hid hv
  clear hv
  have HZ := Lib.hid (zeroEv w 77)
  obtain ⟨W, hW⟩ : ∃ W, w.alloc (.cells #[.int .i64 0, .int .i64 0, .int .i64 0, .string ⟨#[]⟩, .int .i64 0, .int .i64 0, .slice none 0 0, .int .i64 0] 77) = W := ⟨_, rfl⟩
  have hb : Below w.heap.size w W := by rw [← hW]; exact (Below.refl _ _).alloc (Nat.le_refl _) _
  have hRW : w.heap.size < W.heap.size := by rw [← hW]; simp
  rw [hW] at HZ
  obtain ⟨R, hR⟩ : ∃ R, w.heap.size = R := ⟨_, rfl⟩
  rw [hR] at HZ hRW
  have HRR := Lib.hid hR
  have HFW : Hid (Foot (fpO G v A) (fpO G v A) w W) := Lib.hid (Foot.ofBelow _ hb)
  have HIN : Hid (∀ k ∈ fpO G v A, k < R) := Lib.hid (by rw [← hR]; exact fpO_lt h)
  have HS := Lib.hid (h.below hb)
  have HNM := Lib.hid hn
  have HGET := fun W (hf : Foot (fpO G v A) (fpO G v A) w W) => Lib.hid (get_any cp b rm es nm kd now W (hca W hf) hn hk L (hL W hf) hl)
  obtain ⟨E, hE⟩ : ∃ E, theE es (lowB nm) kd = E := ⟨_, rfl⟩
  obtain ⟨hbv, hhb⟩ : ∃ hbv, (getE es (lowB nm) kd).isSome = hbv := ⟨_, rfl⟩
  simp only [hE, hhb] at HGET
  rw [hE, hhb]
  clear hE hhb
  have HDW := Lib.hid hd
  have HN0 := Lib.hid h0
  have HN1 := Lib.hid h1
  have HB0 := Lib.hid hn0
  have HB1 := Lib.hid hn1
  have HAL := Lib.hid hA
  have HMAY := fun W => Lib.hid (may_any nm W hn)
  have hw5 : IntKind.i64.wrap (n + 1) = n + 1 := by rw [IntKind.wrap_i64]; omega
  have hGR : G < R := HIN.out G (by simp [fpO])
  clear h hb hca hL hl hn hk hd h0 h1 hn0 hn1 hA hRW
  go_enter Tryz.func24, Tryz.ntmps24
  go_upto_region 1 with fail
  try rw [hW]
  try rw [hR]
  clear hW hR
  have hc5 := HS.out.cs.cell 5 _ rfl
  have hf5 := HS.out.cs.live 5 (show 5 < 7 by decide)
  go_upto_region 3 with fail
  have HS2 := Lib.hid (HS.out.begun (m := n + 1))
  have hfG : Foot [G] [G] W (W.setCell ⟨G, 5, none⟩ (.int .i64 (n + 1))) := foot_cells G 5 [.int .i64 (n + 1)]
  have HF2 : Hid (Foot (fpO G v A) (fpO G v A) w (W.setCell ⟨G, 5, none⟩ (.int .i64 (n + 1)))) := Lib.hid (HFW.out.trans (foot_sub hfG (fun k hk => by rw [List.mem_singleton.1 hk]; simp [fpO])))
  have HZ2 := Lib.hid (HZ.out.foot hfG (by simp; omega))
  clear hc5 hf5 hfG HS HFW HZ
  generalize W.setCell ⟨G, 5, none⟩ (.int .i64 (n + 1)) = W2 at *
  have FIN : Hid (∀ W3 U A' v' vs, SolO W3 G cp c (n + 1) v' A' → Foot (fpO G v A) (fpO G v' A') w W3 → (∀ k ∈ fpO G v' A', k < R) → U = W3.setCells R 0 vs → SolO U G cp c (n + 1) v' A' ∧ Foot (fpO G v A) (fpO G v' A') w U) := Lib.hid (fun W3 U A' v' vs hs hf hk hU => by
    refine ⟨hs.foot (by rw [hU]; exact foot_cells R 0 vs) (fun k hk2 => ?_), by rw [hU]; exact foot_new hf (by have := HRR.out; omega)⟩
    have := hk k hk2
    simp
    omega)
  have HFL := fun x W => Lib.hid (failed_any n x W)
  have HRW : Hid (R < W2.heap.size) := Lib.hid HZ2.out.lt
  by_cases he : nm.toList = []
  · have heb : nm.toList.isEmpty = true := by rw [he]; rfl
    have HAK : Hid (askOk nm kd = false) := Lib.hid (by unfold askOk; rw [heb]; rfl)
    clear HMAY
    go_wp2_with fail
    refine (HFL 1 _).out.mono ?_
    rintro e w9 ⟨rfl, hb9⟩
    have HZ9 := Lib.hid (HZ2.out.below hb9)
    have HS9 := Lib.hid (HS2.out.below hb9)
    have HF9 := Lib.hid (HF2.out.trans (Foot.ofBelow _ hb9))
    clear hb9 HFL
    unfold evV
    go_wp2_with (refine store_of HZ9 rfl ev_size _ _ rfl rfl rfl (vs := evL (evF n 1)) rfl rfl rfl (fun U HU HUC => ?_))
    have HX := FIN.out w9 U A v (evL (evF n 1)) HS9.out HF9.out (fun k hk => HIN.out k hk) HU.out
    exact bodyPost_ret (results_te Tryz.results24 rfl HUC.out Tryz.underlying77 rfl ev_size) rfl ⟨evF n 1, v, A, rfl, HX.1, HX.2, .inl ⟨HAK.out, rfl, rfl, rfl⟩⟩
  · have heb : nm.toList.isEmpty = false := by
      cases h : nm.toList.isEmpty with
      | false => rfl
      | true => exact absurd (by simpa using h) he
    have HEB := Lib.hid heb
    go_wp2_with fail
    refine (HMAY _).out.mono ?_
    rintro e w3 ⟨rfl, hb3⟩
    have HZ3 := Lib.hid (HZ2.out.below hb3)
    have HS3 := Lib.hid (HS2.out.below hb3)
    have HF3 := Lib.hid (HF2.out.trans (Foot.ofBelow _ hb3))
    have HRW3 : Hid (R < w3.heap.size) := Lib.hid (Nat.lt_of_lt_of_le HRW.out hb3.size)
    clear hb3 HMAY HZ2 HS2 HF2 HRW
    cases hm : mayN nm with
    | false =>
      have HAK : Hid (askOk nm kd = false) := Lib.hid (by unfold askOk; rw [hm]; simp)
      go_wp2_with fail
      refine (HFL 1 _).out.mono ?_
      rintro e w9 ⟨rfl, hb9⟩
      have HZ9 := Lib.hid (HZ3.out.below hb9)
      have HS9 := Lib.hid (HS3.out.below hb9)
      have HF9 := Lib.hid (HF3.out.trans (Foot.ofBelow _ hb9))
      clear hb9 HFL
      unfold evV
      go_wp2_with (refine store_of HZ9 rfl ev_size _ _ rfl rfl rfl (vs := evL (evF n 1)) rfl rfl rfl (fun U HU HUC => ?_))
      have HX := FIN.out w9 U A v (evL (evF n 1)) HS9.out HF9.out (fun k hk => HIN.out k hk) HU.out
      exact bodyPost_ret (results_te Tryz.results24 rfl HUC.out Tryz.underlying77 rfl ev_size) rfl ⟨evF n 1, v, A, rfl, HX.1, HX.2, .inl ⟨HAK.out, rfl, rfl, rfl⟩⟩
    | true =>
      by_cases hk : kd = 1 ∨ kd = 28
      · rcases hk with rfl | rfl
        · have HAK : Hid (askOk nm 1 = true) := Lib.hid (by unfold askOk; rw [hm, HEB.out]; rfl)
          have HG := HGET w3 HF3.out
          have hc0 := HS3.out.cs.cell 0 _ rfl
          unfold ptV at hc0
          clear hm HEB HGET
          go_wp2_with fail
          refine HG.out.mono ?_
          rintro e w4 ⟨hgot, hb4⟩
          have HZ4 := Lib.hid (HZ3.out.below hb4)
          have HS4 := Lib.hid (HS3.out.below hb4)
          have HF4 := Lib.hid (HF3.out.trans (Foot.ofBelow _ hb4))
          have HRW4 : Hid (R < w4.heap.size) := Lib.hid (Nat.lt_of_lt_of_le HRW3.out hb4.size)
          have HB34 := Lib.hid hb4
          clear hb4 HG hc0 HZ3 HS3 HF3
          rcases hgot with ⟨hno, rfl⟩ | ⟨hyes, hnow, vv, rfl, hrow⟩
          · have HNO := Lib.hid hno
            have hc6 := HS4.out.cs.cell 6 _ rfl
            rw [HVV.out] at hc6
            clear hno
            by_cases h16 : A.length = 16
            · have hl16 : ((A.length : Int) == 16) = true := by simp; omega
              have H16 := Lib.hid h16
              clear h16
              go_wp2_with fail
              refine (HFL 6 _).out.mono ?_
              rintro e w9 ⟨rfl, hb9⟩
              have HZ9 := Lib.hid (HZ4.out.below hb9)
              have HS9 := Lib.hid (HS4.out.below hb9)
              have HF9 := Lib.hid (HF4.out.trans (Foot.ofBelow _ hb9))
              clear hb9 HFL
              unfold evV
              go_wp2_with (refine store_of HZ9 rfl ev_size _ _ rfl rfl rfl (vs := evL (evF n 6)) rfl rfl rfl (fun U HU HUC => ?_))
              have HX := FIN.out w9 U A v (evL (evF n 6)) HS9.out HF9.out (fun k hk => HIN.out k hk) HU.out
              exact bodyPost_ret (results_te Tryz.results24 rfl HUC.out Tryz.underlying77 rfl ev_size) rfl ⟨evF n 6, v, A, rfl, HX.1, HX.2, .inr (.inr (.inl ⟨HAK.out, HNO.out, H16.out, rfl, rfl, rfl⟩))⟩
            · have hl16 : ((A.length : Int) == 16) = false := by simp; omega
              have H16 := Lib.hid h16
              clear h16
              obtain ⟨g, hg⟩ : ∃ g, w4.heap.size = g := ⟨_, rfl⟩
              obtain ⟨W5, hW5⟩ : ∃ W5, w4.alloc (.cells #[.int .i64 n, .string nm, .int .i64 0, .string nm, .int .i64 1, .int .i64 0, .int .i64 0, .int .i64 0, .int .i64 0, .int .i64 604800] 112) = W5 := ⟨_, rfl⟩
              have hb5 : Below w4.heap.size w4 W5 := by rw [← hW5]; exact (Below.refl _ _).alloc (Nat.le_refl _) _
              have HC5 : Hid (CellsAt W5 g (lkL ⟨n, nm, ⟨0, nm, 1, 0⟩, 0, 0, 0, 604800⟩)) := Lib.hid (by rw [← hW5, ← hg]; exact lk_new w4 _ n nm 1 604800)
              have HK5 : Hid (Blk W5 g) := Lib.hid (by rw [← hW5, ← hg]; exact Blk.new w4 _ _)
              have HGN : Hid (∀ k ∈ fpO G v A, k ≠ g) := Lib.hid (fun k hk e => by have := fpO_lt HS4.out k hk; omega)
              have HGR : Hid (R < g) := Lib.hid (by have := HRW4.out; omega)
              have HS5 := Lib.hid (HS4.out.below hb5)
              have HZ5 := Lib.hid (HZ4.out.below hb5)
              have HF5 := Lib.hid (HF4.out.trans (Foot.ofBelow _ hb5))
              go_upto_region 10 with fail
              go_upto_region 11 with (first | exact build_of rfl rfl (built_q nm 1) (by simp only [List.map_toArray, List.map_cons, List.map_nil]; rfl) | exact build_of rfl rfl (built_lk n nm 1 604800) (by simp only [List.map_toArray, List.map_cons, List.map_nil]; rfl))
              try rw [hW5]
              try rw [hg]
              clear hW5 hg hb5 hc6 hl16 HS4 HZ4 HF4 HRW4 HB34
              have hc6 := HS5.out.cs.cell 6 _ rfl
              rw [HVV.out] at hc6
              go_upto_region 12 with (first
                | (refine build_stepPt1 rfl _ rfl rfl (fun W6 HW6 => ?_); have hb6 : Below W5.heap.size W5 W6 := (by rw [HW6.out]; exact (Below.refl _ _).alloc (Nat.le_refl _) _); have HM6 : Hid (W6.cell? ⟨W5.heap.size, 0, none⟩ = some (ptV g)) := Lib.hid (by rw [HW6.out]; exact (CellsAt.new W5 110 [ptV g]).cell 0 _ rfl); have HS6 := Lib.hid (HS5.out.below hb6); have HZ6 := Lib.hid (HZ5.out.below hb6); have HF6 := Lib.hid (HF5.out.trans (Foot.ofBelow _ hb6)); have HC6 := Lib.hid (HC5.out.below hb6); have HK6 := Lib.hid (HK5.out.below hb6); have HR6 : Hid (RowP W6 0 v (A.map Prod.fst)) := Lib.hid HS6.out.row; have HN6 : Hid ((A.map Prod.fst).length ≤ 900 ∧ 0 ≤ W6.heap.size) := Lib.hid ⟨by rw [List.length_map]; have := HAL.out; omega, Nat.zero_le _⟩; have HRG6 : Hid (R < W6.heap.size) := Lib.hid HZ6.out.lt; clear hb6 hc6 HS5 HZ5 HF5 HC5 HK5)
                | (at_builtin; refine wpList_plain rfl (fun K hK => wp_append_pt HR6 HM6 HN6 _ _ rfl HVV.out.symm rfl (fun v6 V6 h1 h2 h3 => hK _ _ ?_)); obtain ⟨a6, m6, c6, hv6⟩ : ∃ a m c, v6 = .slice a m c := (by obtain ⟨a, c, e⟩ := h1.out.slice; exact ⟨a, _, c, e⟩); subst hv6; have hcs := HS6.out.cs.foot h3.out (by simp; exact fun e => (HS6.out.vb G e).1 rfl); have hcc := hcs.cell 6 _ rfl; have hcf := hcs.live 6 (show 6 < 7 by decide); rw [HVV.out] at hcc; clear hcs))
              have HGR8 := SolO.grow HS6.out HC6.out HK6.out HGN.out (newLk_ok HS6.out.cf HB0.out HB1.out HNM.out (by decide) (by decide) (by decide)) h1.out h3.out
              have HS8 := Lib.hid HGR8.1
              have HF8 : Hid (Foot (fpO G v A) (fpO G (.slice a6 m6 c6) (A ++ [(g, ⟨n, nm, ⟨0, nm, 1, 0⟩, 0, 0, 0, 604800⟩)])) w (V6.setCell ⟨G, 6, none⟩ (.slice a6 m6 c6))) := Lib.hid (by
                have f1 := HF6.out
                have f2 := HGR8.2
                have hgw : w.heap.size ≤ g := by have := HRR.out; have := HGR.out; omega
                refine ⟨f2.os.trans f1.os, f2.tape.trans f1.tape, f2.output.trans f1.output, Nat.le_trans f1.size f2.size, fun k hk hn => (f2.keep k (Nat.lt_of_lt_of_le hk f1.size) (fun e => ?_)).trans (f1.keep k hk hn), fun k hk => ?_⟩
                · rcases List.mem_cons.1 e with rfl | e
                  · omega
                  · exact hn e
                · rcases f2.new k hk with e | e
                  · rcases List.mem_cons.1 e with rfl | e
                    · exact .inr hgw
                    · exact .inl e
                  · exact .inr (Nat.le_trans f1.size e))
              have HZ8 : Hid (CellsAt (V6.setCell ⟨G, 6, none⟩ (.slice a6 m6 c6)) R evZ) := Lib.hid (HZ6.out.foot HGR8.2 (fun e => by
                rcases List.mem_cons.1 e with rfl | e
                · have := HGR.out; omega
                · have := HIN.out R e; omega))
              have HM8 : (g, (⟨n, nm, ⟨0, nm, 1, 0⟩, 0, 0, 0, 604800⟩ : Lk)) ∈ A ++ [(g, ⟨n, nm, ⟨0, nm, 1, 0⟩, 0, 0, 0, 604800⟩)] := by simp
              have HAg : Hid (∀ p ∈ A, p.1 ≠ g) := Lib.hid (fun p hp => HGN.out _ (mem_fpO hp))
              have HV8 : Hid (∀ k ∈ fpO G (.slice a6 m6 c6) (A ++ [(g, ⟨n, nm, ⟨0, nm, 1, 0⟩, 0, 0, 0, 604800⟩)]), k ≠ R) := Lib.hid (fun k hk e => by
                subst e
                rcases HGR8.2.new k hk with e | e
                · rcases List.mem_cons.1 e with e | e
                  · have := HGR.out; omega
                  · have := HIN.out k e; omega
                · have := HRG6.out; omega)
              clear HGR8 h1 h2 h3 hcc hcf HS6 HZ6 HF6 HC6 HK6 HR6 HN6 HM6 HRG6 HFL
              generalize V6.setCell ⟨G, 6, none⟩ (.slice a6 m6 c6) = W8 at *
              have HSN := Lib.hid (send_any G g c ⟨n, nm, ⟨0, nm, 1, 0⟩, 0, 0, 0, 604800⟩ draw now W8 (HS8.out.cs.cell 3 _ rfl) HS8.out.cs.lt (HS8.out.lk _ HM8).1 (HS8.out.lk _ HM8).2 (by have := HS8.out.gp _ HM8; exact fun e => this e.symm) HDW.out HN0.out HN1.out HS8.out.cf)
              have HOK9 := Lib.hid (sendL_ok HS8.out.cf (HS8.out.ok _ HM8) draw now HN0.out HN1.out)
              have HGW : Hid (w.heap.size ≤ g) := Lib.hid (by have := HRR.out; have := HGR.out; omega)
              have HEQ : Hid (newLk c n nm 1 draw now = sendL c ⟨n, nm, ⟨0, nm, 1, 0⟩, 0, 0, 0, 604800⟩ draw now) := Lib.hid rfl
              obtain ⟨l9, hl9⟩ : ∃ l9, sendL c ⟨n, nm, ⟨0, nm, 1, 0⟩, 0, 0, 0, 604800⟩ draw now = l9 := ⟨_, rfl⟩
              rw [hl9] at HOK9 HEQ
              simp only [hl9] at HSN
              clear hl9
              go_wp2_with fail
              refine HSN.out.mono ?_
              rintro e w9 ⟨rfl, hc9, hk9, hf9⟩
              have HS9 := Lib.hid (HS8.out.put HM8 hc9 hk9 HOK9.out hf9)
              rw [setA_last HAg.out] at HS9
              have HZ9 := Lib.hid (HZ8.out.foot hf9 (by have := HGR.out; simp; omega))
              have HFP : Hid (fpO G (.slice a6 m6 c6) (A ++ [(g, ⟨n, nm, ⟨0, nm, 1, 0⟩, 0, 0, 0, 604800⟩)]) = fpO G (.slice a6 m6 c6) (A ++ [(g, l9)])) := Lib.hid (by unfold fpO; rw [List.map_append, List.map_append]; rfl)
              rw [HFP.out] at HF8 HV8
              have HF9 := Lib.hid (HF8.out.trans (foot_sub hf9 (fun k hk => by rw [List.mem_singleton.1 hk]; exact mem_fpO (p := (g, l9)) (by simp))))
              clear hc9 hk9 hf9 HSN HS8 HZ8 HF8 HFP HM8
              unfold evV
              go_wp2_with (refine store_of HZ9 rfl ev_size _ _ rfl rfl rfl (vs := evL (evS l9)) rfl rfl rfl (fun U HU HUC => ?_))
              have HX1 : SolO U G cp c (n + 1) (.slice a6 m6 c6) (A ++ [(g, l9)]) := HS9.out.foot (by rw [HU.out]; exact foot_cells R 0 _) (fun k hk => by have := HV8.out k hk; simpa using this)
              have HX2 : Foot (fpO G v A) (fpO G (.slice a6 m6 c6) (A ++ [(g, l9)])) w U := by rw [HU.out]; exact foot_new HF9.out (by have := HRR.out; omega)
              exact bodyPost_ret (results_te Tryz.results24 rfl HUC.out Tryz.underlying77 rfl ev_size) rfl ⟨evS l9, .slice a6 m6 c6, A ++ [(g, l9)], rfl, HX1, HX2, .inr (.inr (.inr ⟨HAK.out, HNO.out, H16.out, by rw [HEQ.out], g, HGW.out, by rw [HEQ.out]⟩))⟩
          · have HYES := Lib.hid hyes
            have HNOW := Lib.hid hnow
            have hrow2 := hrow.mono (Nat.le_of_lt HRW3.out)
            obtain ⟨a5, c5, e5, _⟩ := hrow.ads
            subst e5
            have HROW := Lib.hid hrow
            clear hyes hnow hrow hrow2
            go_wp2_with fail
            refine (done_any n a5 L.length c5 _).mono ?_
            rintro e w9 ⟨rfl, hb9⟩
            have HZ9 := Lib.hid (HZ4.out.below hb9)
            have HS9 := Lib.hid (HS4.out.below hb9)
            have HF9 := Lib.hid (HF4.out.trans (Foot.ofBelow _ hb9))
            have HR9 := Lib.hid (HROW.out.below hb9)
            clear hb9 HFL HROW HZ4 HS4 HF4
            unfold evV
            go_wp2_with (refine store_of HZ9 rfl ev_size _ _ rfl rfl rfl (vs := evL (evD n a5 L.length c5)) rfl rfl rfl (fun U HU HUC => ?_))
            have HX := FIN.out w9 U A v (evL (evD n a5 L.length c5)) HS9.out HF9.out (fun k hk => HIN.out k hk) HU.out
            have HRU : RowA U w.heap.size (.slice a5 L.length c5) L := (HR9.out.kept2 (fun g hg => by rw [HU.out]; exact heap_setCells_other _ _ _ _ _ (by have := HR9.out.lt g hg; have := HRW3.out; omega))).mono (by have := HRR.out; have := HRW3.out; omega)
            exact bodyPost_ret (results_te Tryz.results24 rfl HUC.out Tryz.underlying77 rfl ev_size) rfl ⟨evD n a5 L.length c5, v, A, rfl, HX.1, HX.2, .inr (.inl ⟨HAK.out, HYES.out, HNOW.out, rfl, rfl, a5, c5, rfl, HRU⟩)⟩
        · have HAK : Hid (askOk nm 28 = true) := Lib.hid (by unfold askOk; rw [hm, HEB.out]; rfl)
          have HG := HGET w3 HF3.out
          have hc0 := HS3.out.cs.cell 0 _ rfl
          unfold ptV at hc0
          clear hm HEB HGET
          go_wp2_with fail
          refine HG.out.mono ?_
          rintro e w4 ⟨hgot, hb4⟩
          have HZ4 := Lib.hid (HZ3.out.below hb4)
          have HS4 := Lib.hid (HS3.out.below hb4)
          have HF4 := Lib.hid (HF3.out.trans (Foot.ofBelow _ hb4))
          have HRW4 : Hid (R < w4.heap.size) := Lib.hid (Nat.lt_of_lt_of_le HRW3.out hb4.size)
          have HB34 := Lib.hid hb4
          clear hb4 HG hc0 HZ3 HS3 HF3
          rcases hgot with ⟨hno, rfl⟩ | ⟨hyes, hnow, vv, rfl, hrow⟩
          · have HNO := Lib.hid hno
            have hc6 := HS4.out.cs.cell 6 _ rfl
            rw [HVV.out] at hc6
            clear hno
            by_cases h16 : A.length = 16
            · have hl16 : ((A.length : Int) == 16) = true := by simp; omega
              have H16 := Lib.hid h16
              clear h16
              go_wp2_with fail
              refine (HFL 6 _).out.mono ?_
              rintro e w9 ⟨rfl, hb9⟩
              have HZ9 := Lib.hid (HZ4.out.below hb9)
              have HS9 := Lib.hid (HS4.out.below hb9)
              have HF9 := Lib.hid (HF4.out.trans (Foot.ofBelow _ hb9))
              clear hb9 HFL
              unfold evV
              go_wp2_with (refine store_of HZ9 rfl ev_size _ _ rfl rfl rfl (vs := evL (evF n 6)) rfl rfl rfl (fun U HU HUC => ?_))
              have HX := FIN.out w9 U A v (evL (evF n 6)) HS9.out HF9.out (fun k hk => HIN.out k hk) HU.out
              exact bodyPost_ret (results_te Tryz.results24 rfl HUC.out Tryz.underlying77 rfl ev_size) rfl ⟨evF n 6, v, A, rfl, HX.1, HX.2, .inr (.inr (.inl ⟨HAK.out, HNO.out, H16.out, rfl, rfl, rfl⟩))⟩
            · have hl16 : ((A.length : Int) == 16) = false := by simp; omega
              have H16 := Lib.hid h16
              clear h16
              obtain ⟨g, hg⟩ : ∃ g, w4.heap.size = g := ⟨_, rfl⟩
              obtain ⟨W5, hW5⟩ : ∃ W5, w4.alloc (.cells #[.int .i64 n, .string nm, .int .i64 0, .string nm, .int .i64 28, .int .i64 0, .int .i64 0, .int .i64 0, .int .i64 0, .int .i64 604800] 112) = W5 := ⟨_, rfl⟩
              have hb5 : Below w4.heap.size w4 W5 := by rw [← hW5]; exact (Below.refl _ _).alloc (Nat.le_refl _) _
              have HC5 : Hid (CellsAt W5 g (lkL ⟨n, nm, ⟨0, nm, 28, 0⟩, 0, 0, 0, 604800⟩)) := Lib.hid (by rw [← hW5, ← hg]; exact lk_new w4 _ n nm 28 604800)
              have HK5 : Hid (Blk W5 g) := Lib.hid (by rw [← hW5, ← hg]; exact Blk.new w4 _ _)
              have HGN : Hid (∀ k ∈ fpO G v A, k ≠ g) := Lib.hid (fun k hk e => by have := fpO_lt HS4.out k hk; omega)
              have HGR : Hid (R < g) := Lib.hid (by have := HRW4.out; omega)
              have HS5 := Lib.hid (HS4.out.below hb5)
              have HZ5 := Lib.hid (HZ4.out.below hb5)
              have HF5 := Lib.hid (HF4.out.trans (Foot.ofBelow _ hb5))
              go_upto_region 10 with fail
              go_upto_region 11 with (first | exact build_of rfl rfl (built_q nm 28) (by simp only [List.map_toArray, List.map_cons, List.map_nil]; rfl) | exact build_of rfl rfl (built_lk n nm 28 604800) (by simp only [List.map_toArray, List.map_cons, List.map_nil]; rfl))
              try rw [hW5]
              try rw [hg]
              clear hW5 hg hb5 hc6 hl16 HS4 HZ4 HF4 HRW4 HB34
              have hc6 := HS5.out.cs.cell 6 _ rfl
              rw [HVV.out] at hc6
              go_upto_region 12 with (first
                | (refine build_stepPt1 rfl _ rfl rfl (fun W6 HW6 => ?_); have hb6 : Below W5.heap.size W5 W6 := (by rw [HW6.out]; exact (Below.refl _ _).alloc (Nat.le_refl _) _); have HM6 : Hid (W6.cell? ⟨W5.heap.size, 0, none⟩ = some (ptV g)) := Lib.hid (by rw [HW6.out]; exact (CellsAt.new W5 110 [ptV g]).cell 0 _ rfl); have HS6 := Lib.hid (HS5.out.below hb6); have HZ6 := Lib.hid (HZ5.out.below hb6); have HF6 := Lib.hid (HF5.out.trans (Foot.ofBelow _ hb6)); have HC6 := Lib.hid (HC5.out.below hb6); have HK6 := Lib.hid (HK5.out.below hb6); have HR6 : Hid (RowP W6 0 v (A.map Prod.fst)) := Lib.hid HS6.out.row; have HN6 : Hid ((A.map Prod.fst).length ≤ 900 ∧ 0 ≤ W6.heap.size) := Lib.hid ⟨by rw [List.length_map]; have := HAL.out; omega, Nat.zero_le _⟩; have HRG6 : Hid (R < W6.heap.size) := Lib.hid HZ6.out.lt; clear hb6 hc6 HS5 HZ5 HF5 HC5 HK5)
                | (at_builtin; refine wpList_plain rfl (fun K hK => wp_append_pt HR6 HM6 HN6 _ _ rfl HVV.out.symm rfl (fun v6 V6 h1 h2 h3 => hK _ _ ?_)); obtain ⟨a6, m6, c6, hv6⟩ : ∃ a m c, v6 = .slice a m c := (by obtain ⟨a, c, e⟩ := h1.out.slice; exact ⟨a, _, c, e⟩); subst hv6; have hcs := HS6.out.cs.foot h3.out (by simp; exact fun e => (HS6.out.vb G e).1 rfl); have hcc := hcs.cell 6 _ rfl; have hcf := hcs.live 6 (show 6 < 7 by decide); rw [HVV.out] at hcc; clear hcs))
              have HGR8 := SolO.grow HS6.out HC6.out HK6.out HGN.out (newLk_ok HS6.out.cf HB0.out HB1.out HNM.out (by decide) (by decide) (by decide)) h1.out h3.out
              have HS8 := Lib.hid HGR8.1
              have HF8 : Hid (Foot (fpO G v A) (fpO G (.slice a6 m6 c6) (A ++ [(g, ⟨n, nm, ⟨0, nm, 28, 0⟩, 0, 0, 0, 604800⟩)])) w (V6.setCell ⟨G, 6, none⟩ (.slice a6 m6 c6))) := Lib.hid (by
                have f1 := HF6.out
                have f2 := HGR8.2
                have hgw : w.heap.size ≤ g := by have := HRR.out; have := HGR.out; omega
                refine ⟨f2.os.trans f1.os, f2.tape.trans f1.tape, f2.output.trans f1.output, Nat.le_trans f1.size f2.size, fun k hk hn => (f2.keep k (Nat.lt_of_lt_of_le hk f1.size) (fun e => ?_)).trans (f1.keep k hk hn), fun k hk => ?_⟩
                · rcases List.mem_cons.1 e with rfl | e
                  · omega
                  · exact hn e
                · rcases f2.new k hk with e | e
                  · rcases List.mem_cons.1 e with rfl | e
                    · exact .inr hgw
                    · exact .inl e
                  · exact .inr (Nat.le_trans f1.size e))
              have HZ8 : Hid (CellsAt (V6.setCell ⟨G, 6, none⟩ (.slice a6 m6 c6)) R evZ) := Lib.hid (HZ6.out.foot HGR8.2 (fun e => by
                rcases List.mem_cons.1 e with rfl | e
                · have := HGR.out; omega
                · have := HIN.out R e; omega))
              have HM8 : (g, (⟨n, nm, ⟨0, nm, 28, 0⟩, 0, 0, 0, 604800⟩ : Lk)) ∈ A ++ [(g, ⟨n, nm, ⟨0, nm, 28, 0⟩, 0, 0, 0, 604800⟩)] := by simp
              have HAg : Hid (∀ p ∈ A, p.1 ≠ g) := Lib.hid (fun p hp => HGN.out _ (mem_fpO hp))
              have HV8 : Hid (∀ k ∈ fpO G (.slice a6 m6 c6) (A ++ [(g, ⟨n, nm, ⟨0, nm, 28, 0⟩, 0, 0, 0, 604800⟩)]), k ≠ R) := Lib.hid (fun k hk e => by
                subst e
                rcases HGR8.2.new k hk with e | e
                · rcases List.mem_cons.1 e with e | e
                  · have := HGR.out; omega
                  · have := HIN.out k e; omega
                · have := HRG6.out; omega)
              clear HGR8 h1 h2 h3 hcc hcf HS6 HZ6 HF6 HC6 HK6 HR6 HN6 HM6 HRG6 HFL
              generalize V6.setCell ⟨G, 6, none⟩ (.slice a6 m6 c6) = W8 at *
              have HSN := Lib.hid (send_any G g c ⟨n, nm, ⟨0, nm, 28, 0⟩, 0, 0, 0, 604800⟩ draw now W8 (HS8.out.cs.cell 3 _ rfl) HS8.out.cs.lt (HS8.out.lk _ HM8).1 (HS8.out.lk _ HM8).2 (by have := HS8.out.gp _ HM8; exact fun e => this e.symm) HDW.out HN0.out HN1.out HS8.out.cf)
              have HOK9 := Lib.hid (sendL_ok HS8.out.cf (HS8.out.ok _ HM8) draw now HN0.out HN1.out)
              have HGW : Hid (w.heap.size ≤ g) := Lib.hid (by have := HRR.out; have := HGR.out; omega)
              have HEQ : Hid (newLk c n nm 28 draw now = sendL c ⟨n, nm, ⟨0, nm, 28, 0⟩, 0, 0, 0, 604800⟩ draw now) := Lib.hid rfl
              obtain ⟨l9, hl9⟩ : ∃ l9, sendL c ⟨n, nm, ⟨0, nm, 28, 0⟩, 0, 0, 0, 604800⟩ draw now = l9 := ⟨_, rfl⟩
              rw [hl9] at HOK9 HEQ
              simp only [hl9] at HSN
              clear hl9
              go_wp2_with fail
              refine HSN.out.mono ?_
              rintro e w9 ⟨rfl, hc9, hk9, hf9⟩
              have HS9 := Lib.hid (HS8.out.put HM8 hc9 hk9 HOK9.out hf9)
              rw [setA_last HAg.out] at HS9
              have HZ9 := Lib.hid (HZ8.out.foot hf9 (by have := HGR.out; simp; omega))
              have HFP : Hid (fpO G (.slice a6 m6 c6) (A ++ [(g, ⟨n, nm, ⟨0, nm, 28, 0⟩, 0, 0, 0, 604800⟩)]) = fpO G (.slice a6 m6 c6) (A ++ [(g, l9)])) := Lib.hid (by unfold fpO; rw [List.map_append, List.map_append]; rfl)
              rw [HFP.out] at HF8 HV8
              have HF9 := Lib.hid (HF8.out.trans (foot_sub hf9 (fun k hk => by rw [List.mem_singleton.1 hk]; exact mem_fpO (p := (g, l9)) (by simp))))
              clear hc9 hk9 hf9 HSN HS8 HZ8 HF8 HFP HM8
              unfold evV
              go_wp2_with (refine store_of HZ9 rfl ev_size _ _ rfl rfl rfl (vs := evL (evS l9)) rfl rfl rfl (fun U HU HUC => ?_))
              have HX1 : SolO U G cp c (n + 1) (.slice a6 m6 c6) (A ++ [(g, l9)]) := HS9.out.foot (by rw [HU.out]; exact foot_cells R 0 _) (fun k hk => by have := HV8.out k hk; simpa using this)
              have HX2 : Foot (fpO G v A) (fpO G (.slice a6 m6 c6) (A ++ [(g, l9)])) w U := by rw [HU.out]; exact foot_new HF9.out (by have := HRR.out; omega)
              exact bodyPost_ret (results_te Tryz.results24 rfl HUC.out Tryz.underlying77 rfl ev_size) rfl ⟨evS l9, .slice a6 m6 c6, A ++ [(g, l9)], rfl, HX1, HX2, .inr (.inr (.inr ⟨HAK.out, HNO.out, H16.out, by rw [HEQ.out], g, HGW.out, by rw [HEQ.out]⟩))⟩
          · have HYES := Lib.hid hyes
            have HNOW := Lib.hid hnow
            have hrow2 := hrow.mono (Nat.le_of_lt HRW3.out)
            obtain ⟨a5, c5, e5, _⟩ := hrow.ads
            subst e5
            have HROW := Lib.hid hrow
            clear hyes hnow hrow hrow2
            go_wp2_with fail
            refine (done_any n a5 L.length c5 _).mono ?_
            rintro e w9 ⟨rfl, hb9⟩
            have HZ9 := Lib.hid (HZ4.out.below hb9)
            have HS9 := Lib.hid (HS4.out.below hb9)
            have HF9 := Lib.hid (HF4.out.trans (Foot.ofBelow _ hb9))
            have HR9 := Lib.hid (HROW.out.below hb9)
            clear hb9 HFL HROW HZ4 HS4 HF4
            unfold evV
            go_wp2_with (refine store_of HZ9 rfl ev_size _ _ rfl rfl rfl (vs := evL (evD n a5 L.length c5)) rfl rfl rfl (fun U HU HUC => ?_))
            have HX := FIN.out w9 U A v (evL (evD n a5 L.length c5)) HS9.out HF9.out (fun k hk => HIN.out k hk) HU.out
            have HRU : RowA U w.heap.size (.slice a5 L.length c5) L := (HR9.out.kept2 (fun g hg => by rw [HU.out]; exact heap_setCells_other _ _ _ _ _ (by have := HR9.out.lt g hg; have := HRW3.out; omega))).mono (by have := HRR.out; have := HRW3.out; omega)
            exact bodyPost_ret (results_te Tryz.results24 rfl HUC.out Tryz.underlying77 rfl ev_size) rfl ⟨evD n a5 L.length c5, v, A, rfl, HX.1, HX.2, .inr (.inl ⟨HAK.out, HYES.out, HNOW.out, rfl, rfl, a5, c5, rfl, HRU⟩)⟩
      · have HAK : Hid (askOk nm kd = false) := Lib.hid (by unfold askOk; rw [hm]; simp; omega)
        have hk1 : (kd != 1) = true := by simp; omega
        have hk28 : (kd != 28) = true := by simp; omega
        go_wp2_with fail
        refine (HFL 1 _).out.mono ?_
        rintro e w9 ⟨rfl, hb9⟩
        have HZ9 := Lib.hid (HZ3.out.below hb9)
        have HS9 := Lib.hid (HS3.out.below hb9)
        have HF9 := Lib.hid (HF3.out.trans (Foot.ofBelow _ hb9))
        clear hb9 HFL
        unfold evV
        go_wp2_with (refine store_of HZ9 rfl ev_size _ _ rfl rfl rfl (vs := evL (evF n 1)) rfl rfl rfl (fun U HU HUC => ?_))
        have HX := FIN.out w9 U A v (evL (evF n 1)) HS9.out HF9.out (fun k hk => HIN.out k hk) HU.out
        exact bodyPost_ret (results_te Tryz.results24 rfl HUC.out Tryz.underlying77 rfl ev_size) rfl ⟨evF n 1, v, A, rfl, HX.1, HX.2, .inl ⟨HAK.out, rfl, rfl, rfl⟩⟩
end Go.Proofs.YtedmkdjijhflnaaGreat
namespace Go.Proofs.YtedmkdjijhflnaaGreat
open Go.RowKit Go.Maps

def KeysAt (w : World) (B : Nat) (v : Value) (ks : List (ByteArray × Int)) : Prop :=
  ks.length ≤ 1000 ∧ ((v = .slice none 0 0 ∧ ks = []) ∨ ∃ g cap, v = .slice (some ⟨g, 0, none⟩) ks.length cap ∧ B ≤ g ∧ g < w.heap.size ∧ ks.length ≤ cap ∧ cap ≤ maxLen ∧ w.rangeAt g 0 (flatK ks))
theorem KeysAt.mono {w : World} {B B' : Nat} {v : Value} {ks : List (ByteArray × Int)} (h : KeysAt w B v ks) (hb : B' ≤ B) : KeysAt w B' v ks := by
  refine ⟨h.1, h.2.imp id ?_⟩
  rintro ⟨g, cap, e, h1, h2⟩
  exact ⟨g, cap, e, Nat.le_trans hb h1, h2⟩
theorem KeysAt.slice {w : World} {B : Nat} {v : Value} {ks : List (ByteArray × Int)} (h : KeysAt w B v ks) : ∃ ad c, v = .slice ad ks.length c := by
  rcases h.2 with ⟨rfl, rfl⟩ | ⟨g, cap, rfl, _⟩
  · exact ⟨none, 0, rfl⟩
  · exact ⟨_, _, rfl⟩
theorem swoK : Sort.SWO (ltOf cmpKey) := by
  have e : ltOf cmpKey = ltK := by funext x y; exact cmpKey_neg x y
  rw [e]
  refine ⟨ltK_irrefl, fun x y z => ltK_trans, fun x y z h1 h2 => ?_⟩
  cases h3 : ltK x z
  · rfl
  · by_cases e : x = y
    · subst e; rw [h3] at h2; cases h2
    · rcases ltK_total e with h4 | h4
      · rw [h4] at h1; cases h1
      · rw [ltK_trans h4 h3] at h2; cases h2
theorem partsK (x y : ByteArray × Int) (h1 : ltOf cmpKey x y = false) (h2 : ltOf cmpKey y x = false) : x = y := by
  have e : ltOf cmpKey = ltK := by funext x y; exact cmpKey_neg x y
  rw [e] at h1 h2
  by_cases h : x = y
  · exact h
  · rcases ltK_total h with h3 | h3
    · rw [h3] at h1; cases h1
    · rw [h3] at h2; cases h2
theorem cmpLaysK (blk off size : Nat) (w : World) : CmpLays Tryz.prog 145 #[] keyL 2 cmpKey blk off size w := fun m os dk _ x y => by
  have := compare_any x y (sortWorldK keyL 2 w blk off m dk os)
  simpa [keyV] using this
theorem sortWorld_keep (w : World) (blk n : Nat) (d : Array (ByteArray × Int)) (os : Array Obj) (B : Nat) (hB : B ≤ blk) (hlt : blk < w.heap.size) : Below B w (sortWorldK keyL 2 w blk 0 n d os) := by
  have e : ∀ k, k < B → (sortWorldK keyL 2 w blk 0 n d os).heap[k]? = w.heap[k]? := fun k hk => by
    show ((w.heap.modify blk _) ++ os)[k]? = _
    rw [Array.getElem?_append_left (by simp; omega), Array.getElem?_modify, if_neg (by omega)]
  exact ⟨rfl, rfl, rfl, by show w.heap.size ≤ ((w.heap.modify blk _) ++ os).size; simp, e⟩
theorem holdsK_of {w : World} {B : Nat} {v : Value} {ks : List (ByteArray × Int)} (h : RowK w B v ks) : (v = .slice none 0 0 ∧ ks = []) ∨ ∃ g cap, v = .slice (some ⟨g, 0, none⟩) ks.length cap ∧ B ≤ g ∧ g < w.heap.size ∧ ks.length ≤ cap ∧ cap ≤ maxLen ∧ Sort.HoldsK keyL 2 w g 0 ks.toArray := by
  rcases h.1.2 with ⟨e1, e2⟩ | ⟨g, cap, cur, e1, e2, e3, e4, e5, e6, e7⟩
  · exact .inl ⟨e1, List.eq_nil_of_length_eq_zero e2⟩
  · refine .inr ⟨g, cap, e1, e2, ?_, e4, e5, fun j hj => ?_⟩
    · apply Classical.byContradiction
      intro h
      rw [Array.getElem?_eq_none (by omega)] at e3
      cases e3
    · have hj2 : j < ks.length * 2 := by simpa using hj
      have hq : j / 2 < ks.length := by omega
      have hr := range_key (o := 0) (w := w) (g := g) (es := ks) (by
        rcases h.form with ⟨e8, e9⟩ | ⟨g2, cap2, e8, _, _, _, _, h8⟩
        · rw [e1] at e8; cases e8
        · rw [e1] at e8; cases e8; exact h8) (j / 2) hq
      refine ⟨?_, by simp [World.frozen?, e3]⟩
      rw [Sort.get_flatK keyL 2 _ j (by simpa using hj2)]
      have hlen : (keyL ks[j / 2]).length = 2 := rfl
      have hm : j % 2 < (keyL ks[j / 2]).length := by rw [hlen]; omega
      have hk := hr (j % 2) (keyL ks[j / 2])[j % 2] (List.getElem?_eq_getElem hm)
      have e : 0 + j / 2 * 2 + j % 2 = 0 + j := by omega
      rw [e] at hk
      rw [hk]
      congr 1
      rw [getElem!_pos _ (j / 2) (by simpa using hq)]
      rw [List.getElem_toArray, getElem!_pos _ (j % 2) hm]
      rfl
theorem range_of_holds {w : World} {g : Nat} {ks : List (ByteArray × Int)} (h : Sort.HoldsK keyL 2 w g 0 ks.toArray) : w.rangeAt g 0 (flatK ks) := by
  intro j u hu
  have hj : j < (flatK ks).length := by
    apply Classical.byContradiction
    intro h2
    rw [List.getElem?_eq_none (by omega)] at hu
    cases hu
  rw [flatK_len] at hj
  have hq : j / 2 < ks.length := by omega
  have e : j = j / 2 * 2 + j % 2 := by omega
  have h1 := flatK_at ks (j / 2) hq (j % 2) (by omega)
  rw [← e, hu] at h1
  have hlen : (keyL ks[j / 2]).length = 2 := rfl
  have hm : j % 2 < (keyL ks[j / 2]).length := by rw [hlen]; omega
  have h2 := (h.cell (i := j / 2) (c := j % 2) (by simpa using hq) (by omega)).1
  rw [List.getElem?_eq_getElem hm] at h1
  cases h1
  rw [show 0 + j / 2 * 2 + j % 2 = 0 + j by omega] at h2
  rw [h2]
  congr 1
  rw [getElem!_pos _ (j / 2) (by simpa using hq), List.getElem_toArray, getElem!_pos _ (j % 2) hm]
set_option maxHeartbeats 1000000 in
theorem sortK_any (v : Value) (ks : List (ByteArray × Int)) (w : World) (B : Nat) (h : RowK w B v ks) :
    Calls Tryz.prog 152 #[v, .func (.func 145) #[] #[]] w fun e w' => e = .returned (.tuple #[]) ∧ KeysAt w' B v (ks.mergeSort (fun x y => !ltK y x)) ∧ Below B w w' := by
  have eg : ∀ args w, (callFunc 145 args).run Tryz.prog w = .ok (.enter 145 args) w := enters_of Tryz.func145 (by kernel_rfl) rfl
  have elt : (fun x y => !(ltOf cmpKey) y x) = (fun x y : ByteArray × Int => !ltK y x) := by funext x y; rw [show ltOf cmpKey y x = ltK y x from cmpKey_neg y x]
  have h1000 := h.2
  rcases holdsK_of h with ⟨rfl, rfl⟩ | ⟨g, cap, rfl, h1, h2, h3, h4, hH⟩
  · have hc := AnyF.slices_SortFunc_none (P := Tryz.prog) Tryz.sortK none 0 (.func (.func 145) #[] #[]) w
    refine Calls.mono hc ?_
    rintro e w' ⟨rfl, rfl⟩
    exact ⟨rfl, ⟨by simp, .inl ⟨rfl, by simp⟩⟩, Below.refl _ _⟩
  · have hc := AnyQ.slices_SortFunc_total Tryz.sortK 2 (fun w => by kernel_rfl) (fun w => by kernel_rfl) keyL (fun _ => rfl) (fun x v hv => by simp [keyL] at hv; rcases hv with rfl | rfl <;> rfl) cmpKey swoK 145 #[] g 0 cap ks.toArray w eg (cmpLaysK g 0 _ w) hH h2 (by simp; omega) partsK
    have hc2 : Calls Tryz.prog 152 #[.slice (some ⟨g, 0, none⟩) ks.length cap, .func (.func 145) #[] #[]] w _ := hc
    refine Calls.mono hc2 ?_
    rintro e w' ⟨rfl, n, os, rfl⟩
    rw [elt]
    have hlen : (ks.mergeSort (fun x y => !ltK y x)).length = ks.length := List.length_mergeSort _
    refine ⟨rfl, ⟨by rw [hlen]; omega, .inr ⟨g, cap, by rw [hlen], h1, ?_, by rw [hlen]; exact h3, h4, ?_⟩⟩, sortWorld_keep w g n _ os B h1 h2⟩
    · have := (sortWorld_keep w g n (ks.mergeSort (fun x y => !ltK y x)).toArray os g (Nat.le_refl _) h2).size
      exact Nat.lt_of_lt_of_le h2 this
    · refine range_of_holds (Sort.holdsK_grow keyL 2 _ os g 0 _ ?_ (Sort.holdsK_putRowK keyL 2 (Sort.ahead w n) g 0 ks.toArray _ hH (by simp)))
      show g < (w.heap.modify g _).size
      simpa using h2
set_option maxHeartbeats 1000000 in
theorem sortedFunc_any (Bm b : Nat) (es : List Ce) (w : World) (hB : w.cell? ⟨Bm, 0, none⟩ = some (.map (some b))) (hM : CacMap w b es) (hk : KeysOk es) (hs : SortedC es) (hl : es.length ≤ 999) :
    Calls Tryz.prog 143 #[.func (.func 153) #[] #[.pointer (some ⟨Bm, 0, none⟩)], .func (.func 145) #[] #[]] w fun e w' => ∃ v, e = .returned v ∧ KeysAt w' w.heap.size v (es.map keyC) ∧ Below w.heap.size w w' := by
  have HC := Lib.hid (collect_any 153 #[.pointer (some ⟨Bm, 0, none⟩)] (enters_of Tryz.func153 (by kernel_rfl) rfl) _ es.length hl w (keysGives Bm b es w hB hM hk hs.apart))
  have HS := Lib.hid (fun ks => @sorted_keys es hs ks)
  clear hB hM hk hs
  go_enter Tryz.func143, Tryz.ntmps143
  go_wp2_with fail
  refine HC.out.mono ?_
  rintro e w1 ⟨v, ks, rfl, hS, hr, hb⟩
  have HST := Lib.hid (sortK_any v ks w1 w.heap.size hr)
  have HE : Hid (ks.mergeSort (fun x y => !ltK y x) = es.map keyC) := Lib.hid (HS.out ks hS)
  obtain ⟨ad, c, rfl⟩ := hr.slice
  have HB := Lib.hid hb
  clear hS hr hb HC HS
  go_wp2_with fail
  refine HST.out.mono ?_
  rintro e w2 ⟨rfl, hk2, hb2⟩
  rw [HE.out] at hk2
  have HK2 := Lib.hid hk2
  have HB2 := Lib.hid (HB.out.trans hb2)
  clear hk2 hb2 HST
  go_wp2_with fail
  go_ret
  exact ⟨_, rfl, HK2.out, HB2.out⟩
set_option maxHeartbeats 1000000 in
theorem keys_any (G b : Nat) (room : Int) (es : List Ce) (w : World) (h : CacAt w G b room es) : Calls Tryz.prog 137 #[.pointer (some ⟨G, 0, none⟩)] w fun e w' => ∃ v, e = .returned v ∧ KeysAt w' w.heap.size v (es.map keyC) ∧ Below w.heap.size w w' := by
  have h1 := h.cs.cell 1 _ rfl
  have HMK := Lib.hid (mapsKeys_any b w)
  have HSF : Hid (Calls Tryz.prog 143 #[.func (.func 153) #[] #[.pointer (some ⟨w.heap.size, 0, none⟩)], .func (.func 145) #[] #[]] (w.alloc (.cells #[.map (some b)] 151)) fun e w' => ∃ v, e = .returned v ∧ KeysAt w' w.heap.size v (es.map keyC) ∧ Below w.heap.size w w') := Lib.hid (by
    have hb : Below w.heap.size w (w.alloc (.cells #[.map (some b)] 151)) := (Below.refl _ _).alloc (Nat.le_refl _) _
    have h2 := h.below hb
    refine (sortedFunc_any w.heap.size b es _ (by rw [World.cell?_alloc_new]; rfl) h2.mp h2.ok h2.so (by have := h.len; omega)).mono ?_
    rintro e w' ⟨v, rfl, hk, hb2⟩
    exact ⟨v, rfl, hk.mono (by simp), chain hb hb2⟩)
  clear h
  go_enter Tryz.func137, Tryz.ntmps137
  go_wp2_with fail
  refine HMK.out.mono ?_
  rintro e w1 ⟨rfl, rfl⟩
  clear HMK
  go_wp2_with fail
  refine HSF.out.mono ?_
  rintro e w2 ⟨v, rfl, hk, hb⟩
  obtain ⟨ad, c, rfl⟩ := hk.slice
  have HK := Lib.hid hk
  have HB := Lib.hid hb
  clear hk hb HSF
  go_wp2_with fail
  go_ret
  exact ⟨_, rfl, by have := HK.out; rw [List.length_map] at this; exact this, HB.out⟩
end Go.Proofs.YtedmkdjijhflnaaGreat
namespace Go.Proofs.YtedmkdjijhflnaaGreat
open Go.RowKit Go.Maps

def uOf (v : Value) : Int := match v with
  | .agg cs => (match cs[1]? with
    | some (Value.int _ u) => u
    | _ => 0)
  | _ => 0
def pdC (now : Int) (kl : Lit) (d : DataW Value) : Bool := match d with
  | .held v => decide (uOf v ≤ now)
  | _ => false
theorem pdC_ent (now : Int) (e : Ce) (kl : Lit) : pdC now kl (.held (entV e)) = decide (e.u ≤ now) := rfl
theorem sweep_tells {l : List (Lit × DataW Value)} {es : List Ce} (hl : l.Perm (es.map entD)) (now : Int) : TellsC (Lib.deleteFuncD (pdC now) (.map l)) (sweepC es now) := by
  refine ⟨_, rfl, (hl.filter _).trans ?_⟩
  rw [List.filter_map]
  unfold sweepC
  refine List.Perm.of_eq ?_
  congr 1
  refine List.filter_congr (fun e he => ?_)
  show (!pdC now (entD e).1 (entD e).2) = _
  rw [show (entD e).2 = .held (entV e) from rfl, pdC_ent]
  by_cases h : e.u ≤ now
  · have h2 : ¬ now < e.u := by omega
    simp [h, h2]
  · have h2 : now < e.u := by omega
    simp [h, h2]
theorem ent_of_at {l l' : List (Lit × DataW Value)} {es : List Ce} (hl : l.Perm (es.map entD)) (hk : KeysOk es) (ha : KeysApart es) (hs : l'.Sublist l) {key v : Value} {kl : Lit} {y : DataW Value} {ps : List MemPlace} (hkey : keyOf Tryz.prog 155 key = some kl) (hv : elemV v = some (y, ps)) (hat : ∀ zd, (DataW.map l').atKey kl zd = y) :
    ∃ e ∈ es, kl = keyLit (keyC e) ∧ key = keyV (keyC e) ∧ v = entV e ∧ y = .held (entV e) := by
  have hh := Maps.has_true_of_atKey hat
  rw [has_eq, List.any_eq_true] at hh
  obtain ⟨p, hp, hsk⟩ := hh
  obtain ⟨e, he, rfl⟩ := List.mem_map.1 (hl.mem_iff.1 (hs.mem hp))
  have e1 : keyLit (keyC e) = kl := WideAt.sameKey_eq hsk
  subst e1
  have hap : l'.Pairwise (fun p q => p.1 ≠ q.1) := ((hl.pairwise_iff (fun {_ _} hne => Ne.symm hne)).2 (entD_apart hk ha)).sublist hs
  have h2 := WideAt.atKey_mem .nil (isKeyLit (keyC e)) hap hp
  have h3 : y = .held (entV e) := (hat .nil).symm.trans h2
  have h4 := elemV_inv hv
  rw [h3] at h4
  injection h4 with h4
  exact ⟨e, he, rfl, lawK.inj hkey (keyOf_key _ (hk e he)), h4.symm, h3⟩
theorem yields_key {ops : Array Oper} {S : World → Prop} {op : Oper} {a : Act} {G o : Nat} {p : ByteArray × Int} (hS : Hid (∀ w, S w → w.rangeAt G o (keyL p))) (hw : Region.wanted op (yielded ops a.tmps) = true) (x : Operand) (ho : op.op = .load 155 x) (hx : a.eval x = .pointer (some ⟨G, o, none⟩)) : YieldsIf Tryz.prog ops S op (keyV p) a :=
  yieldsIf_load_mid hw 155 x ho G o hx (keyL p) _ (fun w h => hS.out w h) Tryz.underlying155 rfl (by rw [key_size]; rfl)
theorem grown_of_below {w w' : World} (h : Below w.heap.size w w') : w.grownBy w' none := ⟨h.os, h.tape, h.output, h.size, fun k hk _ => h.block k hk⟩
theorem grown_undrew {w w' : World} {r : Option Nat} (h : w.drew.grownBy w' r) : w.grownBy w' r := ⟨h.os, h.tape, h.output, h.size, h.block⟩
theorem wp_delete_ranges {o : Oper} {a : Act} {w : World} {K : Act → World → Prop} {Q : Exit → Act → World → Prop} (m x : Operand) (hop : o.op = Op.call { callee := Callee.builtin Builtin.delete, args := #[m, x], argTypes := #[151, 155] })
    {b r n : Nat} {D : DataW Value} {left : Lit → Bool} {cnt : Nat} (hm : a.eval m = .map (some b)) (h : w.ranges Tryz.prog 155 elemV b r n D left cnt) {key : Value} {kl : Lit} (hx : a.eval x = key) (hkey : keyOf Tryz.prog 155 key = some kl)
    (hK : ∀ w' cnt', w'.ranges Tryz.prog 155 elemV b r n (D.del kl) (fun z => left z && !z.sameKey kl) cnt' → cnt' ≤ cnt → w.mapTurned w' b → K (a.put o.dst (.tuple #[])) w') : o.wp Tryz.prog a w K Q := by
  obtain ⟨w', cnt', hrun, r1, r2, r3⟩ := h.drop lawK Tryz.underlying151 hkey o.type
  unfold Oper.wp
  simp [execOp, hop, resolve, invoke, builtin, hm, hx, hrun, Result.andThen]
  exact hK w' cnt' r1 r2 r3
set_option maxRecDepth 100000 in
set_option maxHeartbeats 2000000 in
theorem sweep_any (G b : Nat) (room : Int) (es : List Ce) (now : Int) (w : World) (h : CacAt w G b room es) :
    Calls Tryz.prog 130 #[.pointer (some ⟨G, 0, none⟩), .int .i64 now] w fun e w' => e = .returned (.int .i64 ((es.length - (sweepC es now).length : Nat) : Int)) ∧ CacAt w' G b room (sweepC es now) ∧ w.grownBy w' (some b) := by
  have h64 := h.len
  have h1 := h.cs.cell 1 _ rfl
  have HG1 : Hid (∀ W, w.grownBy W (some b) → W.cell? ⟨G, 1, none⟩ = some (.map (some b))) := Lib.hid (fun W hg => (World.cell?_of_block (w := w) (a := ⟨G, 1, none⟩) (hg.block G h.lt.1 (fun e => h.ne (by injection e)))).trans h1)
  have HLEN := Lib.hid (len_any G b room es w h)
  have HFIN : Hid (∀ W n l, w.grownBy W (some b) → W.ownsMap Tryz.prog 155 elemV b n (Lib.deleteFuncD (pdC now) (.map l)) → n ≤ 1000000 → l.Perm (es.map entD) → CacAt W G b room (sweepC es now)) := Lib.hid (fun W n l hg ho hn hl =>
    ⟨h.cs.kept hg.size (hg.block G h.lt.1 (fun e => h.ne (by injection e))), ⟨n, _, ho, hn, sweep_tells hl now⟩, sweepC_sorted h.so now, (fun e he => h.ok e (List.mem_filter.1 he).1), by have := sweepC_len es now; have := h.le; omega, h.r1, h.r2⟩)
  obtain ⟨D, hown, l, rfl, hl⟩ := h.mp.owns
  have HL := Lib.hid hl
  have HK := Lib.hid h.ok
  have HA := Lib.hid h.so.apart
  have HLT := Lib.hid h.lt
  obtain ⟨l0, hl0, hap, hkeys⟩ := hown.entries lawK
  obtain rfl : l = l0 := by injection hl0
  have HAP := Lib.hid hap
  have HKEYS := Lib.hid hkeys
  have hle := sweepC_len es now
  obtain ⟨n, hn⟩ : ∃ n, es.length = n := ⟨_, rfl⟩
  have HSL := Lib.hid (show ∀ W, CacAt W G b room (sweepC es now) → Calls Tryz.prog 129 #[.pointer (some ⟨G, 0, none⟩)] W fun e w' => e = .returned (.int .i64 ((sweepC es now).length : Int)) ∧ w' = W from fun W hc => len_any G b room _ W hc)
  obtain ⟨m, hm⟩ : ∃ m, (sweepC es now).length = m := ⟨_, rfl⟩
  rw [hm] at hle HSL ⊢
  rw [hn] at hle hown HLEN ⊢ h64
  clear h hl hap hkeys hl0 hm hn
  go_enter Tryz.func130, Tryz.ntmps130
  go_wp2_with fail
  refine HLEN.out.mono ?_
  rintro e w0 ⟨rfl, rfl⟩
  clear HLEN
  go_wp2_with (first
    | (at_range; refine wpList_range_own _ rfl _ 151 rfl 155 149 lawK Tryz.underlying151 _ b n _ rfl hown ?_; intro w1 hrg1 hg1 hs1))
  go_frame
  have HG0 := Lib.hid (hg1.but (some b))
  have HRG : Hid (w1.ranges Tryz.prog 155 elemV b w0.heap.size n (Fk (pdC now) l (Maps.has (.map l))) (Maps.has (.map l)) (Maps.size (.map l))) := Lib.hid (by rw [Fk_start HKEYS.out]; exact hrg1)
  clear hrg1 hg1 hs1 hown h1
  go_loopw [6, 7, 15] (fun _ _ _ wr => ∃ (left : Lit → Bool) (cnt : Nat), Hid (wr.ranges Tryz.prog 155 elemV b w0.heap.size n (Fk (pdC now) l left) left cnt) ∧ Hid (w0.grownBy wr (some b))) (fun _ _ _ wr => wr.rangeLeft b w0.heap.size)
  case atStart => exact ⟨_, _, HRG, HG0⟩
  case round =>
    clear HRG HG0
    obtain ⟨left, cnt, HR, HG⟩ := hrel
    have hrg := HR.out
    go_wp2_with (first
      | (at_next; refine wpList_next_ranges _ rfl _ rfl 155 lawK elemV id id (fun key _ _ => ⟨key, rfl⟩) (fun v _ _ => ⟨v, rfl⟩) b w0.heap.size n _ _ _ rfl hrg ?_ ?_))
    · intro hc0 hl0
      have HC : Hid (CacAt wr G b room (sweepC es now)) := Lib.hid (HFIN.out wr n l HG.out (by rw [← Fk_end hl0]; exact hrg.owns) (by omega) HL.out)
      have HSL2 := Lib.hid (HSL.out wr HC.out)
      clear hl0 hc0 hrg HR HSL
      go_wp2_with fail
      refine HSL2.out.mono ?_
      rintro e w5 ⟨rfl, rfl⟩
      clear HSL2
      have hw : IntKind.i64.wrap ((n : Int) - (m : Int)) = ((n - m : Nat) : Int) := by rw [IntKind.wrap_i64]; omega
      go_wp2_with fail
      go_ret
      exact ⟨by first | rfl | (rw [← hw]; rfl), HC.out, HG.out⟩
    · intro key v kl y yp w2 cnt2 hkey hlk hv hat hrg2 hlt hg2 hs2 hen
      obtain ⟨e, he, rfl, hke, hve, rfl⟩ := ent_of_at HL.out HK.out HA.out (List.filter_sublist) hkey hv hat
      have HLT2 : Hid (cnt2 < cnt) := Lib.hid hlt
      have HLE := Lib.hid hrg.left_eq
      have HKE := Lib.hid hkey
      have HDEL : Hid (e.u ≤ now → (Fk (pdC now) l left).del (keyLit (keyC e)) = Fk (pdC now) l (fun z => left z && !z.sameKey (keyLit (keyC e)))) := Lib.hid (fun hu => Fk_struck HAP.out (isKeyLit _) hlk (by rw [pdC_ent]; exact decide_eq_true hu) hat)
      have HSTY : Hid (¬ e.u ≤ now → Fk (pdC now) l left = Fk (pdC now) l (fun z => left z && !z.sameKey (keyLit (keyC e)))) := Lib.hid (fun hu => Fk_stays HAP.out (isKeyLit _) hlk (by rw [pdC_ent]; exact decide_eq_false hu) hat)
      have HR2 := Lib.hid hrg2
      have HG2 := Lib.hid (HG.out.andThen hg2 (fun j hj => by cases hj; exact .inl (Nat.le_refl _)))
      clear hrg hrg2 hkey hlk hv hat hlt hg2 hs2 HR HG
      obtain ⟨s, t, ea, en, ec, u⟩ := e
      have hke2 : key = .agg #[.string s, .int .i64 t] := hke
      have hve2 : v = .agg #[.slice ea en ec, .int .i64 u] := hve
      subst hke2
      subst hve2
      clear hke hve he
      rw [show keyC ⟨s, t, ea, en, ec, u⟩ = (s, t) from rfl] at *
      have HOV := fun W => Lib.hid (over_any ⟨s, t, ea, en, ec, u⟩ now W)
      unfold entV at HOV
      obtain ⟨W3, hW3⟩ : ∃ W3, (w2.alloc (.cells #[.string s, .int .i64 t] 155)).alloc (.cells #[.slice ea en ec, .int .i64 u] 149) = W3 := ⟨_, rfl⟩
      have HR3 := Lib.hid (show W3.ranges Tryz.prog 155 elemV b w0.heap.size n _ _ cnt2 from by rw [← hW3]; exact (HR2.out.alloc _).alloc _)
      have HG3 := Lib.hid (show w0.grownBy W3 (some b) from by rw [← hW3]; exact (HG2.out.andThen (World.grownBy_alloc _ _ (some b)) (fun j hj => by cases hj; exact .inr rfl)).andThen (World.grownBy_alloc _ _ (some b)) (fun j hj => by cases hj; exact .inr rfl))
      have HKB := Lib.hid (show W3.rangeAt w2.heap.size 0 (keyL (s, t)) ∧ w2.heap.size < W3.heap.size from by
        rw [← hW3]
        exact ⟨range_belowC (CellsAt.new w2 155 (keyL (s, t))).range ((Below.refl _ _).alloc (Nat.le_refl _) _) (by simp), by simp; omega⟩)
      have hE : CellsAt W3 (w2.heap.size + 1) [.slice ea en ec, .int .i64 u] := by
        have := CellsAt.new (w2.alloc (.cells #[.string s, .int .i64 t] 155)) 149 [.slice ea en ec, .int .i64 u]
        rw [← hW3]; simpa using this
      have hE0 := hE.cell 0 _ rfl
      have hE1 := hE.cell 1 _ rfl
      clear HR2 HG2 hE
      go_upto_region 5 with fail
      first | rw [hW3] | skip
      clear hen
      go_wp2_with fail
      first | rw [hW3] | skip
      clear hW3
      refine (HOV _).out.mono ?_
      rintro e w4 ⟨rfl, hb4⟩
      have HR4 := Lib.hid (HR3.out.kept (row := none) (grown_of_below hb4) (by simp) (by simp))
      have HG4 := Lib.hid (HG3.out.andThen (grown_of_below hb4) (fun j hj => by cases hj))
      have HK4 := Lib.hid (range_belowC HKB.out.1 hb4 HKB.out.2)
      have HKL4 := Lib.hid (Nat.lt_of_lt_of_le HKB.out.2 hb4.size)
      clear hb4 HR3 HG3 HKB HOV
      by_cases hu : u ≤ now
      · have hd : decide (u ≤ now) = true := decide_eq_true hu
        have HD := Lib.hid (HDEL.out hu)
        clear HDEL HSTY
        obtain ⟨S, hS⟩ : ∃ S : World → Prop, (fun W => W.cell? ⟨G, 1, none⟩ = some (.map (some b)) ∧ W.rangeAt w2.heap.size 0 (keyL (s, t))) = S := ⟨_, rfl⟩
        have HS0 : Hid (S w4.drew) := Lib.hid (by rw [← hS]; exact ⟨HG1.out w4 HG4.out, HK4.out⟩)
        have HS1 : Hid (∀ W, w4.drew.mapTurned W b → S W) := Lib.hid (fun W ht => by
          rw [← hS]
          have hg : w4.grownBy W (some b) := grown_undrew ht.grown
          refine ⟨HG1.out W (HG4.out.andThen hg (fun j hj => .inr hj)), range_farC HK4.out hg HKL4.out (fun e => ?_)⟩
          injection e with e
          obtain ⟨e0, cl, hb⟩ := (show ∃ e0 cl, w4.heap[b]? = some (.map e0 cl) from by obtain ⟨e0, cl, _, _, hb, _⟩ := ht; exact ⟨e0, cl, hb⟩)
          have := HK4.out 0 _ rfl
          rw [e] at this
          simp [World.cell?, hb] at this)
        have M1 : Hid (∀ W, S W → W.cell? ⟨G, 1, none⟩ = some (.map (some b))) := Lib.hid (fun W h => by rw [← hS] at h; exact h.1)
        have M2 : Hid (∀ W, S W → W.rangeAt w2.heap.size 0 (keyL (s, t))) := Lib.hid (fun W h => by rw [← hS] at h; exact h.2)
        have HR4D := Lib.hid (HR4.out.kept (w' := w4.drew) (row := none) ⟨rfl, rfl, rfl, Nat.le_refl _, fun _ _ _ => rfl⟩ (by simp) (by simp))
        clear hS
        go_upto_region 6 with fail
        refine wp_region_noPanic ?_
        refine wp_region_held_drew (S := S) (by kernel_rfl) HS0.out (fun hHeld => ?_)
        refine tkT 0 ?_ rfl (Or.inl ⟨by rfl, ?_⟩) ?_
        rotate_left
        · (intro w hSw; go_simp; try (with_reducible rfl))
        try simp only [Act.put, pZ]
        refine tkT 1 ?_ rfl (Or.inl ⟨by rfl, ?_⟩) ?_
        rotate_left
        · (intro w hSw; go_simp; try (with_reducible rfl))
        try simp only [Act.put, pZ]
        refine tkT 2 ?_ rfl (Or.inl ⟨by rfl, ?_⟩) ?_
        rotate_left
        · (intro w hSw; go_simp; try (with_reducible rfl))
        try simp only [Act.put, pZ]
        refine tkT 3 ?_ rfl (Or.inl ⟨by rfl, ?_⟩) ?_
        rotate_left
        · (intro w hSw; have hc0 := M1.out w hSw; go_simp; try (with_reducible rfl))
        try simp only [Act.put, pZ]
        refine wpAnyH_take (i := 4) rfl (by kernel_rfl) (by kernel_rfl) (by kernel_rfl) (fun _ _ _ h => h) (yields_key M2 (by rfl) _ rfl rfl) (by assumption) ?_
        try simp only [Act.put, pZ]
        refine wpAnyH_ready (rs := [5]) (by kernel_rfl) (by simp) ?_
        refine AllReadyH.one rfl rfl (fun K hK => ?_)
        refine wp_delete_ranges (w := w4.drew) _ _ rfl rfl HR4D.out rfl HKE.out (fun w5 cnt3 hr5 hle5 ht5 => ?_)
        rw [strike_twice, HD.out] at hr5
        have HR5 := Lib.hid hr5
        have HLE5 := Lib.hid hle5
        have HG5 := Lib.hid (HG4.out.andThen (grown_undrew ht5.grown) (fun j hj => .inr hj))
        refine hK.out _ _ (HS1.out _ ht5) (fun hHeld => ?_)
        clear hK K hr5 hle5 ht5
        try simp only [Act.put]
        refine wpAnyH_done (by kernel_rfl) ?_ _
        refine NoPanic.normal ?_
        go_wp2_with fail
        go_roundw
        case rel => exact ⟨_, cnt3, HR5, HG5⟩
        case measure => rw [HR5.out.left_eq, HLE.out]; have := HLE5.out; have := HLT2.out; omega
      · have hd : decide (u ≤ now) = false := decide_eq_false hu
        have hst := HSTY.out (by omega)
        have HR5 := HR4.out
        rw [hst] at HR5
        have HR6 := Lib.hid HR5
        clear HDEL HSTY hst HR5
        go_wp2_with fail
        go_roundw
        case rel => exact ⟨_, cnt2, HR6, HG4⟩
        case measure => rw [HR6.out.left_eq, HLE.out]; exact HLT2.out
end Go.Proofs.YtedmkdjijhflnaaGreat
namespace Go.Proofs.YtedmkdjijhflnaaGreat
open Go.RowKit Go.Maps

theorem CacMap.look1 {w : World} {b : Nat} {es : List Ce} (h : CacMap w b es) (hk : KeysOk es) (ha : KeysApart es) (x : ByteArray) (t : Int) (hp : KeyOk (x, t)) :
    (Instr.lookup 151 (.map (some b)) (keyV (x, t)) false).run Tryz.prog w = .ok (entV (theE es x t)) w := by
  obtain ⟨n, D, ho, hn, l, rfl, hl⟩ := h
  have hz : (zeroValue 149).run Tryz.prog w = .ok zeroE w := by kernel_rfl
  obtain ⟨v, ps, hr, hv⟩ := ho.lookup lawK Tryz.underlying151 hz (show elemV zeroE = some (.held zeroE, []) from rfl) (keyOf_key _ hp)
  have hv2 := elemV_inv hv
  rw [hr]
  unfold theE
  cases hg : getE es x t with
  | none =>
    have hno : Maps.has (DataW.map l) (keyLit (x, t)) = false := by
      rw [has_eq, List.any_eq_false]
      intro p hp2
      obtain ⟨e, he, rfl⟩ := List.mem_map.1 (hl.mem_iff.1 hp2)
      show ¬ (keyLit (keyC e)).sameKey (keyLit (x, t)) = true
      rw [same_lit (hk e he) hp]
      simpa using getE_none hg e he
    rw [Maps.atKey_of_not_has hno] at hv2
    injection hv2 with hv2
    rw [← hv2]; rfl
  | some e =>
    obtain ⟨he, hke⟩ := getE_some hg
    have hm : (keyLit (x, t), DataW.held (entV e)) ∈ l := hl.mem_iff.2 (by rw [← hke]; exact List.mem_map.2 ⟨e, he, rfl⟩)
    have hap : l.Pairwise (fun p q => p.1 ≠ q.1) := (hl.pairwise_iff (fun {_ _} hne => Ne.symm hne)).2 (entD_apart hk ha)
    rw [WideAt.atKey_mem _ (isKeyLit (x, t)) hap hm] at hv2
    injection hv2 with hv2
    rw [← hv2]; rfl
theorem getE_at {es : List Ce} (ha : KeysApart es) (j : Nat) (hj : j < es.length) : getE es es[j].s es[j].t = some es[j] := by
  unfold getE
  rw [findC_at es[j].s es[j].t es j hj ⟨rfl, rfl⟩ (fun i hi hij h => by
    have := List.pairwise_iff_getElem.1 ha i j hi hj hij
    exact this (Prod.ext h.1 h.2))]
  simp only [List.getElem?_eq_getElem hj]
theorem theE_at {es : List Ce} (ha : KeysApart es) (j : Nat) (hj : j < es.length) : theE es es[j].s es[j].t = es[j] := by unfold theE; rw [getE_at ha j hj]; rfl
theorem cmpI_neg (a b : Int) : decide (cmpI a b < 0) = decide (a < b) := by
  unfold cmpI
  by_cases h : a < b
  · simp [h]
  · by_cases h2 : b < a <;> simp [h, h2]
set_option maxRecDepth 100000 in
set_option maxHeartbeats 1000000 in
theorem sooner_any (Bx G b : Nat) (room : Int) (es : List Ce) (p q : ByteArray × Int) (w : World) (h : CacAt w G b room es) (hB : w.cell? ⟨Bx, 0, none⟩ = some (.pointer (some ⟨G, 0, none⟩))) (hp : KeyOk p) (hq : KeyOk q) :
    Calls Tryz.prog 138 #[keyV p, keyV q, .pointer (some ⟨Bx, 0, none⟩)] w fun e w' => e = .returned (.int .i64 (cmpI (theE es p.1 p.2).u (theE es q.1 q.2).u)) ∧ Below w.heap.size w w' := by
  obtain ⟨x, i⟩ := p
  obtain ⟨y, j⟩ := q
  have hBl : Bx < w.heap.size := World.block_lt_of_cell? w ⟨Bx, 0, none⟩ hB
  obtain ⟨W2, hW2⟩ : ∃ W2, (w.alloc (.cells #[.string x, .int .i64 i] 155)).alloc (.cells #[.string y, .int .i64 j] 155) = W2 := ⟨_, rfl⟩
  have hb2 : Below w.heap.size w W2 := by rw [← hW2]; exact ((Below.refl _ _).alloc (Nat.le_refl _) _).alloc (by simp) _
  have hz2 : W2.heap.size = w.heap.size + 2 := by rw [← hW2]; simp
  have hk1 : W2.rangeAt w.heap.size 0 (keyL (x, i)) := by rw [← hW2]; exact range_belowC (CellsAt.new w 155 (keyL (x, i))).range ((Below.refl _ _).alloc (Nat.le_refl _) _) (by simp)
  have hk2 : W2.rangeAt (w.heap.size + 1) 0 (keyL (y, j)) := by
    have := CellsAt.new (w.alloc (.cells #[.string x, .int .i64 i] 155)) 155 (keyL (y, j))
    rw [← hW2]; simpa [keyL] using this.range
  obtain ⟨S, hS⟩ : ∃ S : World → Prop, (fun W => Below W2.heap.size W2 W) = S := ⟨_, rfl⟩
  have h2 := h.below hb2
  have HEND : Hid (∀ W, S W → Below w.heap.size w W) := Lib.hid (fun W hW => by rw [← hS] at hW; exact chain hb2 hW)
  have HS0 : Hid (S W2.drew) := Lib.hid (by rw [← hS]; exact (Below.refl _ _).drew)
  have MB : Hid (∀ W, S W → W.cell? ⟨Bx, 0, none⟩ = some (.pointer (some ⟨G, 0, none⟩))) := Lib.hid (fun W hW => by
    rw [← hS] at hW
    exact (hW.cell (p := ⟨Bx, 0, none⟩) (Nat.lt_of_lt_of_le hBl hb2.size)).trans ((hb2.cell (p := ⟨Bx, 0, none⟩) hBl).trans hB))
  have MG : Hid (∀ W, S W → W.cell? ⟨G, 1, none⟩ = some (.map (some b))) := Lib.hid (fun W hW => by rw [← hS] at hW; exact (h2.below hW).cs.cell 1 _ rfl)
  have MK1 : Hid (∀ W, S W → W.rangeAt w.heap.size 0 (keyL (x, i))) := Lib.hid (fun W hW => by rw [← hS] at hW; exact range_belowC hk1 hW (by omega))
  have MK2 : Hid (∀ W, S W → W.rangeAt (w.heap.size + 1) 0 (keyL (y, j))) := Lib.hid (fun W hW => by rw [← hS] at hW; exact range_belowC hk2 hW (by omega))
  have HL1 : Hid (∀ W, S W → (Instr.lookup 151 (.map (some b)) (keyV (x, i)) false).run Tryz.prog W = .ok (entV (theE es x i)) W) := Lib.hid (fun W hW => by rw [← hS] at hW; exact (h2.below hW).mp.look1 h.ok h.so.apart x i hp)
  have HL2 : Hid (∀ W, S W → (Instr.lookup 151 (.map (some b)) (keyV (y, j)) false).run Tryz.prog W = .ok (entV (theE es y j)) W) := Lib.hid (fun W hW => by rw [← hS] at hW; exact (h2.below hW).mp.look1 h.ok h.so.apart y j hq)
  have HC : ∀ W, S W → Hid (Calls Tryz.prog 139 #[.int .i64 (theE es x i).u, .int .i64 (theE es y j).u] W fun e w' => e = .returned (.int .i64 (cmpI (theE es x i).u (theE es y j).u)) ∧ S w') := fun W hW => Lib.hid ((cmpI_any _ _ W).mono (by rintro e w' ⟨rfl, rfl⟩; exact ⟨rfl, hW⟩))
  clear hS h h2 hb2 hz2 hk1 hk2 hB hBl hp hq
  generalize theE es x i = E1 at *
  generalize theE es y j = E2 at *
  obtain ⟨s1, t1, a1, n1, c1, u1⟩ := E1
  obtain ⟨s2, t2, a2, n2, c2, u2⟩ := E2
  unfold entV at HL1 HL2
  have HF1 : Hid (∀ W, S W → (Instr.field 149 (.agg #[.slice a1 n1 c1, .int .i64 u1]) 1).run Tryz.prog W = .ok (.int .i64 u1) W) := Lib.hid (fun W _ => by kernel_rfl)
  have HF2 : Hid (∀ W, S W → (Instr.field 149 (.agg #[.slice a2 n2 c2, .int .i64 u2]) 1).run Tryz.prog W = .ok (.int .i64 u2) W) := Lib.hid (fun W _ => by kernel_rfl)
  simp only at HL1 HL2 HC
  unfold keyV keyL
  go_enter Tryz.func138, Tryz.ntmps138
  go_upto_region 1 with fail
  first | rw [hW2] | skip
  clear hW2
  refine wp_region_noPanic ?_
  refine wp_region_held_drew (S := S) (by kernel_rfl) HS0.out (fun hHeld => ?_)
  refine tkT 0 ?_ rfl (Or.inl ⟨by rfl, ?_⟩) ?_
  rotate_left
  · (intro w hSw; have hc0 := MB.out w hSw; go_simp; try (with_reducible rfl))
  try simp only [Act.put, pZ]
  refine tkT 1 ?_ rfl (Or.inl ⟨by rfl, ?_⟩) ?_
  rotate_left
  · (intro w hSw; go_simp; try (with_reducible rfl))
  try simp only [Act.put, pZ]
  refine tkT 2 ?_ rfl (Or.inl ⟨by rfl, ?_⟩) ?_
  rotate_left
  · (intro w hSw; go_simp; try (with_reducible rfl))
  try simp only [Act.put, pZ]
  refine tkT 3 ?_ rfl (Or.inl ⟨by rfl, ?_⟩) ?_
  rotate_left
  · (intro w hSw; have hc0 := MG.out w hSw; go_simp; try (with_reducible rfl))
  try simp only [Act.put, pZ]
  refine wpAnyH_take (i := 4) rfl (by kernel_rfl) (by kernel_rfl) (by kernel_rfl) (fun _ _ _ h => h) (yields_key (p:=(x,i)) MK1 (by rfl) _ rfl rfl) (by assumption) ?_
  try simp only [Act.put, pZ]
  refine tkT 5 ?_ rfl (Or.inl ⟨by rfl, ?_⟩) ?_
  rotate_left
  · (intro w hSw; have hc0 := HL1.out w hSw; go_simp; try (with_reducible rfl))
  try simp only [Act.put, pZ]
  refine tkT 6 ?_ rfl (Or.inl ⟨by rfl, ?_⟩) ?_
  rotate_left
  · (intro w hSw; have hc0 := HF1.out w hSw; go_simp; try (with_reducible rfl))
  try simp only [Act.put, pZ]
  refine tkT 7 ?_ rfl (Or.inl ⟨by rfl, ?_⟩) ?_
  rotate_left
  · (intro w hSw; have hc0 := MB.out w hSw; go_simp; try (with_reducible rfl))
  try simp only [Act.put, pZ]
  refine tkT 8 ?_ rfl (Or.inl ⟨by rfl, ?_⟩) ?_
  rotate_left
  · (intro w hSw; go_simp; try (with_reducible rfl))
  try simp only [Act.put, pZ]
  refine tkT 9 ?_ rfl (Or.inl ⟨by rfl, ?_⟩) ?_
  rotate_left
  · (intro w hSw; go_simp; try (with_reducible rfl))
  try simp only [Act.put, pZ]
  refine tkT 10 ?_ rfl (Or.inl ⟨by rfl, ?_⟩) ?_
  rotate_left
  · (intro w hSw; have hc0 := MG.out w hSw; go_simp; try (with_reducible rfl))
  try simp only [Act.put, pZ]
  refine wpAnyH_take (i := 11) rfl (by kernel_rfl) (by kernel_rfl) (by kernel_rfl) (fun _ _ _ h => h) (yields_key (p:=(y,j)) MK2 (by rfl) _ rfl rfl) (by assumption) ?_
  try simp only [Act.put, pZ]
  refine tkT 12 ?_ rfl (Or.inl ⟨by rfl, ?_⟩) ?_
  rotate_left
  · (intro w hSw; have hc0 := HL2.out w hSw; go_simp; try (with_reducible rfl))
  try simp only [Act.put, pZ]
  refine tkT 13 ?_ rfl (Or.inl ⟨by rfl, ?_⟩) ?_
  rotate_left
  · (intro w hSw; have hc0 := HF2.out w hSw; go_simp; try (with_reducible rfl))
  try simp only [Act.put, pZ]
  refine wpAnyH_ready (rs := [14]) (by kernel_rfl) (by simp) ?_
  refine AllReadyH.cons rfl (fun K hK => ?_) AllReadyH.nil
  go_simp
  refine (HC _ (by assumption)).out.mono ?_
  rintro e wr14 ⟨rfl, hS14⟩
  go_wp2_with fail
  refine hK.out _ _ hS14 (fun hHeld => ?_)
  clear hK K
  try simp only [Act.put, pZ]
  refine tkT 15 ?_ rfl (Or.inl ⟨by rfl, ?_⟩) ?_
  rotate_left
  · (intro w hSw; go_simp; try (with_reducible rfl))
  try simp only [Act.put, pZ]
  refine wpAnyH_done (by kernel_rfl) ?_ _
  refine NoPanic.normal ?_
  go_wp2_with fail
  go_ret
  exact ⟨rfl, HEND.out _ hHeld⟩
def kAt (es : List Ce) (k : Nat) : ByteArray × Int := match es[k]? with
  | some e => keyC e
  | none => noKey
theorem kAt_eq {es : List Ce} {k : Nat} (hk : k < es.length) : kAt es k = keyC es[k] := by unfold kAt; rw [List.getElem?_eq_getElem hk]
theorem bestC_next (es : List Ce) (k : Nat) : bestC es (k + 1) = if uAt es k < uAt es (bestC es k) then k else bestC es k := rfl
set_option maxRecDepth 100000 in
set_option maxHeartbeats 2000000 in
theorem minFunc_any (Bx G b g cap : Nat) (room : Int) (es : List Ce) (w : World) (h : CacAt w G b room es) (hB : w.cell? ⟨Bx, 0, none⟩ = some (.pointer (some ⟨G, 0, none⟩))) (hr : w.rangeAt g 0 (flatK (es.map keyC))) (hg : g < w.heap.size) (h1 : 1 ≤ es.length) :
    Calls Tryz.prog 136 #[.slice (some ⟨g, 0, none⟩) es.length cap, .func (.func 138) #[] #[.pointer (some ⟨Bx, 0, none⟩)]] w fun e w' => e = .returned (keyV (kAt es (bestC es es.length))) ∧ Below w.heap.size w w' := by
  have h64 := h.len
  have hBl : Bx < w.heap.size := World.block_lt_of_cell? w ⟨Bx, 0, none⟩ hB
  have HKR : Hid (∀ W k, Below w.heap.size w W → k < es.length → W.rangeAt g (k * 2) (keyL (kAt es k))) := Lib.hid (fun W k hb hk => by
    have := range_key (range_belowC hr hb hg) k (by simpa using hk)
    rw [kAt_eq hk]
    simpa using this)
  have HCL : Hid (∀ W k j, Below w.heap.size w W → k < es.length → j < es.length → Calls Tryz.prog 138 #[keyV (kAt es k), keyV (kAt es j), .pointer (some ⟨Bx, 0, none⟩)] W fun e w' => e = .returned (.int .i64 (cmpI (uAt es k) (uAt es j))) ∧ Below W.heap.size W w') := Lib.hid (fun W k j hb hk hj => by
    have := sooner_any Bx G b room es (keyC es[k]) (keyC es[j]) W (h.below hb) ((hb.cell (p := ⟨Bx, 0, none⟩) hBl).trans hB) (h.ok _ (List.getElem_mem hk)) (h.ok _ (List.getElem_mem hj))
    rw [kAt_eq hk, kAt_eq hj, uAt_eq hk, uAt_eq hj]
    rw [show theE es (keyC es[k]).1 (keyC es[k]).2 = es[k] from theE_at h.so.apart k hk, show theE es (keyC es[j]).1 (keyC es[j]).2 = es[j] from theE_at h.so.apart j hj] at this
    exact this)
  have HBE : Hid (∀ k, k ≤ es.length → bestC es k < es.length) := Lib.hid (fun k hk => by
    cases k with
    | zero => exact h1
    | succ k => have := bestC_lt es k; omega)
  have HNX := Lib.hid (bestC_next es)
  have HB1 := Lib.hid (bestC_one es)
  obtain ⟨uu, huu⟩ : ∃ uu, uAt es = uu := ⟨_, rfl⟩
  obtain ⟨kk, hkk⟩ : ∃ kk, kAt es = kk := ⟨_, rfl⟩
  obtain ⟨bb, hbb⟩ : ∃ bb, bestC es = bb := ⟨_, rfl⟩
  obtain ⟨n, hn⟩ : ∃ n, es.length = n := ⟨_, rfl⟩
  rw [huu, hbb] at HNX
  rw [huu] at HCL
  rw [hkk, hn] at HKR HCL
  rw [hbb, hn] at HBE
  rw [hbb] at HB1
  rw [hkk, hbb, hn]
  rw [hn] at h1 h64
  clear h hB hr hBl huu hkk hbb hn
  obtain ⟨W0, hW0⟩ : ∃ W0, w.alloc (.cells #[.string ⟨#[]⟩, .int .i64 0] 155) = W0 := ⟨_, rfl⟩
  have HB0 : Hid (Below w.heap.size w W0) := Lib.hid (by rw [← hW0]; exact (Below.refl _ _).alloc (Nat.le_refl _) _)
  have HZ0 : Hid (CellsAt W0 w.heap.size (keyL noKey)) := Lib.hid (by rw [← hW0]; exact CellsAt.new w 155 (keyL noKey))
  have hn1 : ¬ ((n : Int) < 1) := by omega
  have hd1 : decide ((n : Int) < 1) = false := decide_eq_false hn1
  have HK0 := Lib.hid (show W0.rangeAt g 0 (keyL (kk 0)) from by have := HKR.out W0 0 HB0.out (by omega); rw [Nat.zero_mul] at this; exact this)
  have hn0 : (0 : Int) < (n : Int) := by omega
  go_enter Tryz.func136, Tryz.ntmps136
  go_upto_region 1 with fail
  first | rw [hW0] | skip
  clear hW0
  have HZ5 : Hid (CellsAt (W0.alloc (.cells #[.string ⟨#[]⟩, .int .i64 0] 155)) W0.heap.size (keyL noKey)) := Lib.hid (CellsAt.new W0 155 (keyL noKey))
  have HB5 : Hid (Below w.heap.size w (W0.alloc (.cells #[.string ⟨#[]⟩, .int .i64 0] 155))) := Lib.hid (HB0.out.alloc HB0.out.size _)
  have HZ4 : Hid (CellsAt (W0.alloc (.cells #[.string ⟨#[]⟩, .int .i64 0] 155)) w.heap.size (keyL noKey)) := Lib.hid (HZ0.out.below ((Below.refl _ _).alloc (Nat.le_refl _) _))
  have HLT0 : Hid (w.heap.size < W0.heap.size) := Lib.hid HZ0.out.lt
  go_upto_region 4 with (first | refine load_key HK0 _ rfl rfl rfl ?_ | (refine store_key HZ5 _ _ rfl rfl rfl rfl (fun W1 HW1 HC1 => ?_)))
  have HB1' : Hid (Below w.heap.size w W1) := Lib.hid (by rw [HW1.out]; exact below_cells HB0.out.size _ _ _ HB5.out)
  have HZ1 : Hid (CellsAt W1 w.heap.size (keyL noKey)) := Lib.hid (by rw [HW1.out]; exact HZ4.out.apart (by have := HLT0.out; omega) _)
  generalize hP5 : W0.heap.size = P5 at *
  clear HW1 HZ5 HB5 HZ4 HZ0 HB0 HK0 hP5
  go_wp2_with fail
  go_loopw [6] (fun i wr => ∃ k : Nat, 1 ≤ k ∧ k ≤ n ∧ i = .int .i64 (k : Int) ∧ Hid (CellsAt wr w.heap.size (keyL noKey)) ∧ Hid (CellsAt wr P5 (keyL (kk (bb k)))) ∧ Hid (Below w.heap.size w wr)) (fun i _ => n - (intOf i).toNat)
  case atStart => exact ⟨1, Nat.le_refl _, h1, rfl, HZ1, by rw [HB1.out]; exact HC1, HB1'⟩
  case round =>
    obtain ⟨k, hk1, hk, rfl, HZ, HM, HB⟩ := hrel
    clear HZ1 HC1 HB1'
    by_cases hkn : k < n
    · have hd : decide ((k : Int) < (n : Int)) = true := decide_eq_true (by omega)
      have hdn : decide (k < n) = true := decide_eq_true hkn
      have hb1 : (0 : Int) ≤ (k : Int) := by omega
      have hb2 : (k : Int) < (n : Int) := by omega
      obtain ⟨S, hS⟩ : ∃ S : World → Prop, (fun W => Below w.heap.size w W ∧ CellsAt W w.heap.size (keyL noKey) ∧ CellsAt W P5 (keyL (kk (bb k)))) = S := ⟨_, rfl⟩
      have HS0 : Hid (S wr.drew) := Lib.hid (by rw [← hS]; exact ⟨HB.out.drew, HZ.out.below (Below.refl _ _).drew, HM.out.below (Below.refl _ _).drew⟩)
      have HSO : Hid (∀ W, S W → Below w.heap.size w W ∧ CellsAt W w.heap.size (keyL noKey) ∧ CellsAt W P5 (keyL (kk (bb k)))) := Lib.hid (fun W h => by rw [← hS] at h; exact h)
      have MK : Hid (∀ W, S W → W.rangeAt g (k * 2) (keyL (kk k))) := Lib.hid (fun W h => HKR.out W k (HSO.out W h).1 hkn)
      have MM : Hid (∀ W, S W → W.rangeAt P5 0 (keyL (kk (bb k)))) := Lib.hid (fun W h => (HSO.out W h).2.2.range)
      have HC6 : ∀ W, S W → Hid (Calls Tryz.prog 138 #[keyV (kk k), keyV (kk (bb k)), .pointer (some ⟨Bx, 0, none⟩)] W fun e w' => e = .returned (.int .i64 (cmpI (uu k) (uu (bb k)))) ∧ S w') := fun W h => Lib.hid ((HCL.out W k (bb k) (HSO.out W h).1 hkn (HBE.out k hk)).mono (by
        rintro e w' ⟨rfl, hb⟩
        refine ⟨rfl, ?_⟩
        rw [← hS]
        obtain ⟨h1, h2, h3⟩ := HSO.out W h
        exact ⟨chain h1 hb, h2.below hb, h3.below hb⟩))
      have HNXK := Lib.hid (HNX.out k)
      have HCN := Lib.hid (cmpI_neg (uu k) (uu (bb k)))
      generalize cmpI (uu k) (uu (bb k)) = c at HC6 HCN
      clear hS HZ HM HB
      go_upto_region 7 with fail
      refine wp_region_noPanic ?_
      refine wp_region_held_drew (S := S) (by kernel_rfl) HS0.out (fun hHeld => ?_)
      refine tkT 0 ?_ rfl (Or.inl ⟨by rfl, ?_⟩) ?_
      rotate_left
      · (intro w hSw; go_simp; try (with_reducible rfl))
      try simp only [Act.put, pZ]
      refine tkT 1 ?_ rfl (Or.inl ⟨by rfl, ?_⟩) ?_
      rotate_left
      · (intro w hSw; go_simp; try (with_reducible rfl))
      try simp only [Act.put, pZ]
      refine tkT 2 ?_ rfl (Or.inl ⟨by rfl, ?_⟩) ?_
      rotate_left
      · (intro w hSw; go_simp; try (with_reducible rfl))
      try simp only [Act.put, pZ]
      refine tkT 3 ?_ rfl (Or.inl ⟨by rfl, ?_⟩) ?_
      rotate_left
      · (intro w hSw; go_simp; try (with_reducible rfl))
      try simp only [Act.put, pZ]
      refine wpAnyH_take (i := 4) rfl (by kernel_rfl) (by kernel_rfl) (by kernel_rfl) (fun _ _ _ h => h) (yields_key (p:=kk k) MK (by rfl) _ rfl rfl) (by assumption) ?_
      try simp only [Act.put, pZ]
      refine wpAnyH_take (i := 5) rfl (by kernel_rfl) (by kernel_rfl) (by kernel_rfl) (fun _ _ _ h => h) (yields_key (p:=kk (bb k)) MM (by rfl) _ rfl rfl) (by assumption) ?_
      try simp only [Act.put, pZ]
      refine wpAnyH_ready (rs := [6]) (by kernel_rfl) (by simp) ?_
      refine AllReadyH.cons rfl (fun K hK => ?_) AllReadyH.nil
      go_simp
      refine (HC6 _ (by assumption)).out.mono ?_
      rintro e wr6 ⟨rfl, hS6⟩
      go_wp2_with fail
      refine hK.out _ _ hS6 (fun hHeld => ?_)
      clear hK K
      try simp only [Act.put, pZ]
      refine tkT 7 ?_ rfl (Or.inl ⟨by rfl, ?_⟩) ?_
      rotate_left
      · (intro w hSw; go_simp; try (with_reducible rfl))
      try simp only [Act.put, pZ]
      refine wpAnyH_done (by kernel_rfl) ?_ _
      refine NoPanic.normal ?_
      have hH := HSO.out _ hHeld
      have HB7 := Lib.hid hH.1
      have HZ7 := Lib.hid hH.2.1
      have HM7 := Lib.hid hH.2.2
      have HK7 := Lib.hid (HKR.out _ k HB7.out hkn)
      clear hH HSO MK MM HC6 HS0
      by_cases hu : uu k < uu (bb k)
      · have hc : decide (c < 0) = true := by rw [HCN.out]; exact decide_eq_true hu
        have hc2 : c < 0 := of_decide_eq_true hc
        have HN := HNXK.out
        rw [if_pos hu] at HN
        have HN2 := Lib.hid HN
        clear HN HNXK HCN
        go_wp2_with (first | refine load_key HK7 _ rfl rfl rfl ?_ | (refine store_key HM7 _ _ rfl rfl rfl rfl (fun W8 HW8 HC8 => ?_)))
        have hlt := HZ7.out.lt
        go_roundw
        case rel => exact ⟨k + 1, by omega, by omega, by go_num, Lib.hid (by rw [HW8.out]; exact HZ7.out.apart (by have := HLT0.out; omega) _), by rw [HN2.out]; exact HC8, Lib.hid (by rw [HW8.out]; exact below_cells (by have := HLT0.out; omega) _ _ _ HB7.out)⟩
        case measure => simp [intOf]; omega
      · have hc : decide (c < 0) = false := by rw [HCN.out]; exact decide_eq_false hu
        have hc2 : ¬ c < 0 := of_decide_eq_false hc
        have HN := HNXK.out
        rw [if_neg hu] at HN
        have HN2 := Lib.hid HN
        clear HN HNXK HCN
        go_wp2_with fail
        go_roundw
        case rel => exact ⟨k + 1, by omega, by omega, by go_num, HZ7, by rw [HN2.out]; exact HM7, HB7⟩
        case measure => simp [intOf]; omega
    · obtain rfl : k = n := by omega
      have hd : decide ((k : Int) < (k : Int)) = false := by simp
      have HMR := Lib.hid HM.out.range
      go_wp2_with (first | refine load_key HMR _ rfl rfl rfl ?_ | (refine store_key HZ _ _ rfl rfl rfl rfl (fun W8 HW8 HC8 => ?_)))
      refine bodyPost_ret (results_key Tryz.results136 rfl HC8.out) rfl ⟨rfl, ?_⟩
      rw [HW8.out]
      exact below_cells (Nat.le_refl _) _ _ _ HB.out
set_option maxRecDepth 100000 in
set_option maxHeartbeats 1000000 in
theorem soonest_any (G b : Nat) (room : Int) (es : List Ce) (w : World) (h : CacAt w G b room es) (h1 : 1 ≤ es.length) :
    Calls Tryz.prog 131 #[.pointer (some ⟨G, 0, none⟩)] w fun e w' => e = .returned (keyV (kAt es (bestC es es.length))) ∧ Below w.heap.size w w' := by
  obtain ⟨W1, hW1⟩ : ∃ W1, (w.alloc (.cells #[.pointer (some ⟨G, 0, none⟩)] 90)).alloc (.cells #[.string ⟨#[]⟩, .int .i64 0] 155) = W1 := ⟨_, rfl⟩
  have hb1 : Below w.heap.size w W1 := by rw [← hW1]; exact ((Below.refl _ _).alloc (Nat.le_refl _) _).alloc (by simp) _
  have hbx : W1.cell? ⟨w.heap.size, 0, none⟩ = some (.pointer (some ⟨G, 0, none⟩)) := by rw [← hW1, World.cell?_alloc_old _ _ _ (by simp), World.cell?_alloc_new]; rfl
  have hz1 : CellsAt W1 (w.heap.size + 1) (keyL noKey) := by
    have := CellsAt.new (w.alloc (.cells #[.pointer (some ⟨G, 0, none⟩)] 90)) 155 (keyL noKey)
    rw [← hW1]; simpa [keyL] using this
  have hlt : w.heap.size + 2 = W1.heap.size := by rw [← hW1]; simp
  have HKS := Lib.hid (keys_any G b room es W1 (h.below hb1))
  have HMF : Hid (∀ W v, Below W1.heap.size W1 W → KeysAt W W1.heap.size v (es.map keyC) → ∃ g cap, v = .slice (some ⟨g, 0, none⟩) es.length cap ∧ Calls Tryz.prog 136 #[.slice (some ⟨g, 0, none⟩) es.length cap, .func (.func 138) #[] #[.pointer (some ⟨w.heap.size, 0, none⟩)]] W fun e w' => e = .returned (keyV (kAt es (bestC es es.length))) ∧ Below W.heap.size W w') := Lib.hid (fun W v hb hk => by
    rcases hk.2 with ⟨_, e⟩ | ⟨g, cap, rfl, _, hg, _, _, hr⟩
    · have := congrArg List.length e
      simp at this
      rw [this] at h1; simp at h1
    · refine ⟨g, cap, by rw [List.length_map], minFunc_any w.heap.size G b g cap room es W ((h.below hb1).below hb) ?_ hr hg h1⟩
      exact (hb.cell (p := ⟨w.heap.size, 0, none⟩) (by show w.heap.size < _; omega)).trans hbx)
  have HZ := Lib.hid hz1
  have HB := Lib.hid hb1
  have HLT := Lib.hid hlt
  clear h hb1 hz1 hlt h1
  generalize kAt es (bestC es es.length) = kb at *
  go_enter Tryz.func131, Tryz.ntmps131
  go_upto_region 1 with fail
  first | rw [hW1] | skip
  clear hW1
  go_wp2_with fail
  refine HKS.out.mono ?_
  rintro e w2 ⟨v, rfl, hk, hb2⟩
  obtain ⟨g, cap, rfl, hmf⟩ := HMF.out w2 v hb2 hk
  have HMF2 := Lib.hid hmf
  have HZ2 := Lib.hid (HZ.out.below hb2)
  have HB2 := Lib.hid (chain HB.out hb2)
  clear hk hb2 hmf HMF HKS HZ HB hbx
  go_wp2_with fail
  refine HMF2.out.mono ?_
  rintro e w3 ⟨rfl, hb3⟩
  have HZ3 := Lib.hid (HZ2.out.below hb3)
  have HB3 := Lib.hid (chain HB2.out hb3)
  clear hb3 HMF2 HZ2 HB2
  go_wp2_with (first | (refine store_key HZ3 _ _ rfl rfl rfl rfl (fun W8 HW8 HC8 => ?_)))
  refine bodyPost_ret (results_key Tryz.results131 rfl HC8.out) rfl ⟨rfl, ?_⟩
  rw [HW8.out]
  exact below_cells (Nat.le_succ _) _ _ _ HB3.out
end Go.Proofs.YtedmkdjijhflnaaGreat
