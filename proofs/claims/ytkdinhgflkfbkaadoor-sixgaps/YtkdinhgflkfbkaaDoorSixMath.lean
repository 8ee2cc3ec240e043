/- What is printed of an address of 128 bits is read as it was: plain facts on texts. -/
import Derived.Test.YtkdinhgflkfbkaaDoorRefSixRow
namespace Go.Proofs.YtkdinhgflkfbkaaDoor
open Go.RowKit
set_option linter.unusedVariables false

/-- Digits read one by one, as Number reads them. -/
def numL (b : Nat) : Nat → List UInt8 → Option Nat
  | n, [] => some n
  | n, c :: l => if b ≤ digC c.toNat then none else if most < n * b + digC c.toNat then none else numL b (n * b + digC c.toNat) l
theorem numL_append (b : Nat) (m : List UInt8) : ∀ (l : List UInt8) (n : Nat), numL b n (l ++ m) = match numL b n l with
    | none => none
    | some x => numL b x m
  | [], n => rfl
  | c :: l, n => by
    rw [List.cons_append, numL, numL]
    split
    · rfl
    · split
      · rfl
      · exact numL_append b m l _
theorem numTo_list (s : ByteArray) (b : Nat) : ∀ k, k ≤ s.size → numTo s b k = numL b 0 (s.data.toList.take k)
  | 0, _ => rfl
  | k + 1, h => by
    have hk : k < s.data.toList.length := by simp; omega
    rw [List.take_add_one, List.getElem?_eq_getElem hk, numL_append, ← numTo_list s b k (by omega), numTo]
    cases numTo s b k with
    | none => rfl
    | some n =>
      have e : byteOf s k = (s.data.toList[k]).toNat := by rw [byteOf_eq s k (by omega)]; rfl
      simp only [e, Option.toList, numL]
theorem numB_ofL (l : List UInt8) (b : Nat) (h : l ≠ []) : numB (ofL l) b = numL b 0 l := by
  unfold numB
  rw [ofL_size, if_neg (by intro h2; exact h (List.eq_nil_of_length_eq_zero h2)), numTo_list _ _ _ (by rw [ofL_size]; exact Nat.le_refl _), ofL_data, List.take_of_length_le (Nat.le_refl _)]
theorem groupL_num (n : Nat) (h : n ≤ most) : numL 16 0 (groupL n) = some n := by
  induction n using Nat.strongRecOn with
  | _ n ih =>
    by_cases h1 : n < 16
    · rw [groupL_one h1, numL, digC_hexc n h1, if_neg (by omega), if_neg (by omega), numL]
      simp
    · rw [groupL_more h1, numL_append, ih (n / 16) (by omega) (by omega)]
      simp only [numL]
      rw [digC_hexc _ (by omega), if_neg (by omega), if_neg (by omega)]
      congr 1
      omega
theorem groupL_ne (n : Nat) (h : n < 65536) : groupL n ≠ [] := by
  intro e
  have := (groupL_length n h).1
  rw [e] at this
  simp at this
theorem hexG_group (n : Nat) (h : n < 65536) : hexG (gS n) = some n := by
  unfold hexG gS
  rw [if_neg (by rw [ofL_size]; have := (groupL_length n h).2; omega), numB_ofL _ _ (groupL_ne n h), groupL_num n (by unfold most; omega)]
theorem groupL_mem (n : Nat) : ∀ c ∈ groupL n, c.toNat ≠ 58 := by
  have one : ∀ d, d < 16 → (hexc d).toNat ≠ 58 := by
    intro d hd
    rw [hexc_nat d hd]
    split <;> omega
  induction n using Nat.strongRecOn with
  | _ n ih =>
    by_cases h1 : n < 16
    · rw [groupL_one h1]
      intro c hc
      rw [List.mem_singleton] at hc
      rw [hc]
      exact one n h1
    · rw [groupL_more h1]
      intro c hc
      rcases List.mem_append.1 hc with h | h
      · exact ih (n / 16) (by omega) c h
      · rw [List.mem_singleton] at h
        rw [h]
        exact one _ (by omega)

/-- Groups with colons between, byte by byte. -/
def rowL : List Nat → List UInt8
  | [] => []
  | [x] => groupL x
  | x :: y :: r => groupL x ++ 58 :: rowL (y :: r)
theorem rowL_snoc (x : Nat) : ∀ l : List Nat, rowL (l ++ [x]) = (if 0 < l.length then rowL l ++ [58] else rowL l) ++ groupL x
  | [] => by simp [rowL]
  | [y] => by simp [rowL]
  | y :: z :: r => by
    have ih := rowL_snoc x (z :: r)
    rw [if_pos (by simp)] at ih
    rw [if_pos (by simp)]
    show rowL (y :: z :: (r ++ [x])) = _
    rw [rowL, rowL]
    have e : z :: (r ++ [x]) = (z :: r) ++ [x] := rfl
    rw [e, ih]
    simp
theorem rowS_list (l : List Nat) : (rowS l).data.toList = rowL l := by
  have key : ∀ n (l : List Nat), l.length = n → (joinB (l.map gS) { data := #[58] }).data.toList = rowL l := by
    intro n
    induction n with
    | zero =>
      intro l h
      have := List.eq_nil_of_length_eq_zero h
      subst this
      rfl
    | succ n ih =>
      intro l h
      obtain ⟨l', x, rfl⟩ : ∃ l' x, l = l' ++ [x] := ⟨l.dropLast, l.getLast (by intro e; rw [e] at h; simp at h), (List.dropLast_concat_getLast _).symm⟩
      have hl' : l'.length = n := by simp at h; exact h
      rw [List.map_append, List.map_cons, List.map_nil, joinB_snoc, rowL_snoc, data_append, List.length_map]
      have ih' := ih l' hl'
      by_cases h0 : 0 < l'.length
      · rw [if_pos h0, if_pos h0, data_append, ih']
        rfl
      · rw [if_neg h0, if_neg h0, ih']
        rfl
  have := key l.length l rfl
  unfold joinB at this
  rw [List.length_map] at this
  exact this
theorem rowS_ofL (l : List Nat) : rowS l = ofL (rowL l) := eq_ofL (rowS_list l)
theorem rowL_cut : ∀ l : List Nat, l ≠ [] → cutL 58 (rowL l) = l.map groupL
  | [], h => absurd rfl h
  | [x], _ => by rw [rowL, cutL_none 58 _ (groupL_mem x)]; rfl
  | x :: y :: r, _ => by
    rw [rowL, cutL_first 58 58 rfl _ _ (groupL_mem x), rowL_cut (y :: r) (by simp)]
    rfl
theorem rowL_ne (l : List Nat) (h : l ≠ []) (hlt : ∀ x ∈ l, x < 65536) : rowL l ≠ [] := by
  match l, h with
  | [x], _ => rw [rowL]; exact groupL_ne x (hlt x (by simp))
  | x :: y :: r, _ => rw [rowL]; simp
theorem grTo_row (l : List Nat) (dot : Bool) (hlt : ∀ x ∈ l, x < 65536) : ∀ k, k ≤ l.length → grTo (l.map gS) dot k = some (l.take k)
  | 0, _ => rfl
  | k + 1, h => by
    have hx : (l.map gS).getD k ⟨#[]⟩ = gS (l.getD k 0) := by
      rw [List.getD_eq_getElem?_getD, List.getD_eq_getElem?_getD, List.getElem?_map, List.getElem?_eq_getElem (by omega)]
      rfl
    have hl : l.getD k 0 < 65536 := by
      rw [List.getD_eq_getElem?_getD, List.getElem?_eq_getElem (by omega)]
      exact hlt _ (List.getElem_mem _)
    rw [grTo_hex (grTo_row l dot hlt k (by omega)) (by rw [hx]; exact hexG_group _ hl)]
    congr 1
    rw [List.take_add_one, List.getD_eq_getElem?_getD, List.getElem?_eq_getElem (by omega)]
    rfl
theorem groupsB_row (l : List Nat) (dot : Bool) (hlt : ∀ x ∈ l, x < 65536) : groupsB (ofL (rowL l)) dot = some l := by
  unfold groupsB
  by_cases h : l = []
  · subst h
    rw [if_pos (by rw [ofL_size]; rfl)]
  · have h2 : ¬ (ofL (rowL l)).size = 0 := by
      rw [ofL_size]
      intro e
      exact rowL_ne l h hlt (List.eq_nil_of_length_eq_zero e)
    have e : pieces (ofL (rowL l)) 58 = l.map gS := by
      rw [pieces_ofL, rowL_cut l h, List.map_map]
      rfl
    rw [if_neg h2, e, List.length_map, grTo_row l dot hlt _ (Nat.le_refl _), List.take_of_length_le (Nat.le_refl _)]

/-- No two colons stand side by side. -/
def noGap : List UInt8 → Prop
  | x :: y :: r => ¬ (x.toNat = 58 ∧ y.toNat = 58) ∧ noGap (y :: r)
  | _ => True
theorem noGap_at : ∀ (l : List UInt8) (j : Nat), noGap l → ¬ ((l.getD j 0).toNat = 58 ∧ (l.getD (j + 1) 0).toNat = 58)
  | [], j, _ => by simp
  | [x], 0, _ => by simp
  | [x], j + 1, _ => by simp
  | x :: y :: r, 0, h => by simpa using h.1
  | x :: y :: r, j + 1, h => by
    have := noGap_at (y :: r) j h.2
    simpa using this
theorem noGap_plain : ∀ l : List UInt8, (∀ c ∈ l, c.toNat ≠ 58) → noGap l
  | [], _ => trivial
  | [x], _ => trivial
  | x :: y :: r, h => ⟨fun h2 => h x (by simp) h2.1, noGap_plain (y :: r) (fun c hc => h c (by simp [hc]))⟩
/-- One text without colons, a colon, another text that begins with none. -/
theorem noGap_join : ∀ (a b : List UInt8), (∀ c ∈ a, c.toNat ≠ 58) → noGap b → (∃ c r, b = c :: r ∧ c.toNat ≠ 58) → a ≠ [] → noGap (a ++ 58 :: b)
  | [], b, _, _, _, h => absurd rfl h
  | [x], b, ha, hb, ⟨c, r, e, hc⟩, _ => by
    subst e
    exact ⟨fun h => ha x (by simp) h.1, fun h => hc h.2, hb⟩
  | x :: y :: r, b, ha, hb, he, _ => ⟨fun h => ha x (by simp) h.1, noGap_join (y :: r) b (fun c hc => ha c (by simp [hc])) hb he (by simp)⟩
theorem rowL_head : ∀ (l : List Nat), l ≠ [] → (∀ x ∈ l, x < 65536) → ∃ c r, rowL l = c :: r ∧ c.toNat ≠ 58
  | [], h, _ => absurd rfl h
  | [x], _, hlt => by
    rw [rowL]
    cases hg : groupL x with
    | nil => exact absurd hg (groupL_ne x (hlt x (by simp)))
    | cons c r => exact ⟨c, r, rfl, groupL_mem x c (by rw [hg]; simp)⟩
  | x :: y :: r, _, hlt => by
    rw [rowL]
    cases hg : groupL x with
    | nil => exact absurd hg (groupL_ne x (hlt x (by simp)))
    | cons c t => exact ⟨c, t ++ 58 :: rowL (y :: r), rfl, groupL_mem x c (by rw [hg]; simp)⟩
theorem rowL_gap : ∀ (l : List Nat), (∀ x ∈ l, x < 65536) → noGap (rowL l)
  | [], _ => trivial
  | [x], _ => by rw [rowL]; exact noGap_plain _ (groupL_mem x)
  | x :: y :: r, hlt => by
    rw [rowL]
    exact noGap_join _ _ (groupL_mem x) (rowL_gap (y :: r) (fun z hz => hlt z (by simp [hz]))) (rowL_head (y :: r) (by simp) (fun z hz => hlt z (by simp [hz]))) (groupL_ne x (hlt x (by simp)))
theorem rowL_last : ∀ (l : List Nat), (∀ x ∈ l, x < 65536) → l ≠ [] → ((rowL l).getD ((rowL l).length - 1) 0).toNat ≠ 58
  | [], _, h => absurd rfl h
  | [x], hlt, _ => by
    rw [rowL]
    have h0 := (groupL_length x (hlt x (by simp))).1
    rw [List.getD_eq_getElem?_getD, List.getElem?_eq_getElem (by omega)]
    exact groupL_mem x _ (List.getElem_mem _)
  | x :: y :: r, hlt, _ => by
    have ih := rowL_last (y :: r) (fun z hz => hlt z (by simp [hz])) (by simp)
    have hn : 0 < (rowL (y :: r)).length := List.length_pos_iff.2 (rowL_ne (y :: r) (by simp) (fun z hz => hlt z (by simp [hz])))
    rw [rowL]
    have e : (groupL x ++ 58 :: rowL (y :: r)).getD ((groupL x ++ 58 :: rowL (y :: r)).length - 1) 0 = (rowL (y :: r)).getD ((rowL (y :: r)).length - 1) 0 := by
      rw [List.getD_eq_getElem?_getD, List.getD_eq_getElem?_getD, List.length_append, List.length_cons, List.getElem?_append_right (by omega), show (groupL x).length + ((rowL (y :: r)).length + 1) - 1 - (groupL x).length = ((rowL (y :: r)).length - 1) + 1 by omega, List.getElem?_cons_succ]
    rw [e]
    exact ih

theorem gapTo_none_of (s : ByteArray) : ∀ k, (∀ j, j < k → ¬ (byteOf s j = 58 ∧ byteOf s (j + 1) = 58)) → gapTo s k = none
  | 0, _ => rfl
  | k + 1, h => by rw [gapTo, gapTo_none_of s k (fun j hj => h j (by omega))]; simp only [if_neg (h k (by omega))]
theorem gapB_none_of (l : List UInt8) (h : noGap l) : gapB (ofL l) = none :=
  gapTo_none_of _ _ (fun j _ => by rw [byteOf_ofL, byteOf_ofL]; exact noGap_at l j h)
theorem gapB_some_of (a b : List UInt8) (ha : noGap a) (hl : a = [] ∨ (a.getD (a.length - 1) 0).toNat ≠ 58) : gapB (ofL (a ++ 58 :: 58 :: b)) = some a.length := by
  unfold gapB
  apply gapTo_found (k := a.length + 1) (by rw [ofL_size]; simp)
  rw [gapTo, gapTo_none_of]
  · have e1 : byteOf (ofL (a ++ 58 :: 58 :: b)) a.length = 58 := by
      rw [byteOf_ofL, List.getD_eq_getElem?_getD, List.getElem?_append_right (Nat.le_refl _)]; simp
    have e2 : byteOf (ofL (a ++ 58 :: 58 :: b)) (a.length + 1) = 58 := by
      rw [byteOf_ofL, List.getD_eq_getElem?_getD, List.getElem?_append_right (by omega)]; simp
    simp only [e1, e2, and_self, if_true]
  · intro j hj
    rw [byteOf_ofL, byteOf_ofL]
    by_cases hj2 : j + 1 < a.length
    · have := noGap_at a j ha
      rw [List.getD_eq_getElem?_getD, List.getD_eq_getElem?_getD] at this ⊢
      rw [List.getElem?_append_left (by omega), List.getElem?_append_left hj2]
      exact this
    · have hj3 : j = a.length - 1 := by omega
      intro h
      rcases hl with hl | hl
      · subst hl; simp at hj
      · apply hl
        rw [← hj3]
        have := h.1
        rw [List.getD_eq_getElem?_getD, List.getElem?_append_left hj] at this
        rw [List.getD_eq_getElem?_getD]
        exact this

/-- What stands ahead of two colons and behind them, read. -/
theorem parse_merge (a b : List UInt8) (ha : noGap a) (hl : a = [] ∨ (a.getD (a.length - 1) 0).toNat ≠ 58) : parseB (ofL (a ++ 58 :: 58 :: b)) = mergeB (groupsB (ofL a) false) (groupsB (ofL b) true) := by
  unfold parseB
  rw [gapB_some_of a b ha hl]
  have e1 : (ofL (a ++ 58 :: 58 :: b)).extract 0 a.length = ofL a := eq_ofL (by rw [data_extract, ofL_data]; simp)
  have e2 : (ofL (a ++ 58 :: 58 :: b)).extract (a.length + 2) (ofL (a ++ 58 :: 58 :: b)).size = ofL b := eq_ofL (by
    rw [data_extract, ofL_data, ofL_size, show a ++ 58 :: 58 :: b = (a ++ [58, 58]) ++ b by simp, List.drop_append_of_le_length (by simp), List.drop_of_length_le (by simp)]
    simp
    exact List.take_of_length_le (by omega))
  simp only []
  rw [e1, e2]
theorem parse_plain (l : List UInt8) (h : noGap l) : parseB (ofL l) = match groupsB (ofL l) true with
    | none => none
    | some g => if g.length = 8 then some g else none := by
  unfold parseB
  rw [gapB_none_of l h]
  cases groupsB (ofL l) true <;> rfl

theorem zrun_zeros (gs : List Nat) : ∀ m i, zrun gs i = m → i + m ≤ 8 → ∀ j, i ≤ j → j < i + m → gs.getD j 0 = 0
  | 0, i, _, _, j, h1, h2 => by omega
  | m + 1, i, h, h8, j, h1, h2 => by
    by_cases h0 : gs.getD i 0 = 0
    · have e := zrun_zero (gs := gs) (i := i) (by omega) h0
      by_cases hj : j = i
      · rw [hj]; exact h0
      · exact zrun_zeros gs m (i + 1) (by omega) (by omega) j (by omega) (by omega)
    · have e := zrun_stop (gs := gs) (i := i) (.inr h0)
      omega
theorem runTo_zrun (gs : List Nat) : ∀ k, (runTo gs k).2 = 0 ∨ (2 ≤ (runTo gs k).2 ∧ (runTo gs k).2 = zrun gs (runTo gs k).1)
  | 0 => .inl rfl
  | k + 1 => by
    rw [runTo]
    split
    · rename_i h
      exact .inr ⟨h.1, rfl⟩
    · exact runTo_zrun gs k
/-- The groups ahead of a row of zeros, the zeros, the groups behind. -/
theorem run_split (gs : List Nat) (A K : Nat) (h8 : gs.length = 8) (hAK : A ≤ K) (hK : K ≤ 8) (hz : ∀ j, A ≤ j → j < K → gs.getD j 0 = 0) : gs.take A ++ List.replicate (K - A) 0 ++ gs.drop K = gs := by
  have e : List.replicate (K - A) 0 = (gs.drop A).take (K - A) := by
    apply List.ext_getElem
    · simp; omega
    · intro j h1 h2
      have hj : j < K - A := by simpa using h1
      have := hz (A + j) (by omega) (by omega)
      rw [List.getD_eq_getElem?_getD, List.getElem?_eq_getElem (by omega)] at this
      simp
      exact this.symm
  rw [e]
  have e2 : gs.drop K = (gs.drop A).drop (K - A) := by rw [List.drop_drop]; congr 1; omega
  rw [e2, List.append_assoc, List.take_append_drop, List.take_append_drop]

theorem parseB_len (s : ByteArray) (l : List Nat) (h : parseB s = some l) : l.length = 8 ∧ ∀ x ∈ l, x < 65536 := by
  unfold parseB at h
  cases hg : gapB s with
  | none =>
    rw [hg] at h
    simp only at h
    cases hq : groupsB s true with
    | none => rw [hq] at h; cases h
    | some g =>
      rw [hq] at h
      simp only at h
      split at h
      · have e := Option.some.inj h
        subst e
        exact ⟨by assumption, groupsB_lt _ _ _ hq⟩
      · cases h
  | some k =>
    rw [hg] at h
    simp only at h
    cases ha : groupsB (s.extract 0 k) false with
    | none => rw [ha] at h; cases h
    | some a =>
      cases hb : groupsB (s.extract (k + 2) s.size) true with
      | none => rw [ha, hb] at h; cases h
      | some b =>
        rw [ha, hb] at h
        change (if 7 < a.length + b.length then none else some (a ++ List.replicate (8 - a.length - b.length) 0 ++ b)) = some l at h
        split at h
        · cases h
        · have e := Option.some.inj h
          subst e
          refine ⟨by simp; omega, fun x hx => ?_⟩
          rcases List.mem_append.1 hx with hx | hx
          · rcases List.mem_append.1 hx with hx | hx
            · exact groupsB_lt _ _ _ ha x hx
            · have := List.eq_of_mem_replicate hx
              omega
          · exact groupsB_lt _ _ _ hb x hx
/-- What Parse answers, written out. -/
theorem parse_form (s : ByteArray) : ∃ (x0 x1 x2 x3 x4 x5 x6 x7 : Nat) (b : Bool), parseRet (parseB s) = .tuple #[.agg #[.int .u16 (x0 : Int), .int .u16 (x1 : Int), .int .u16 (x2 : Int), .int .u16 (x3 : Int), .int .u16 (x4 : Int), .int .u16 (x5 : Int), .int .u16 (x6 : Int), .int .u16 (x7 : Int)], .bool b] := by
  cases h : parseB s with
  | none => exact ⟨0, 0, 0, 0, 0, 0, 0, 0, false, rfl⟩
  | some l =>
    obtain ⟨x0, x1, x2, x3, x4, x5, x6, x7, rfl⟩ := list8 l (parseB_len s l h).1
    exact ⟨x0, x1, x2, x3, x4, x5, x6, x7, true, rfl⟩
theorem printB_small (gs : List Nat) (h8 : gs.length = 8) (hlt : ∀ x ∈ gs, x < 65536) : (printB gs).size ≤ 1000 := by
  unfold printB
  split
  · obtain ⟨x0, x1, x2, x3, x4, x5, x6, x7, rfl⟩ := list8 gs h8
    have l6 : x6 < 65536 := hlt x6 (by simp)
    have l7 : x7 < 65536 := hlt x7 (by simp)
    have := text4_size (x6 / 256) (x6 % 256) (x7 / 256) (x7 % 256) (by omega) (by omega) (by omega) (by omega)
    rw [ByteArray.size_append, ofL_size]
    show 7 + (text4 (x6 / 256) (x6 % 256) (x7 / 256) (x7 % 256)).size ≤ 1000
    omega
  · split
    · have := rowS_small gs hlt
      omega
    · have h1 := rowS_small (gs.take (runB gs).1) (fun x hx => hlt x (List.mem_of_mem_take hx))
      have h2 := rowS_small (gs.drop ((runB gs).1 + (runB gs).2)) (fun x hx => hlt x (List.mem_of_mem_drop hx))
      have h3 : (gs.take (runB gs).1).length ≤ 8 := by simp; omega
      have h4 : (gs.drop ((runB gs).1 + (runB gs).2)).length ≤ 8 := by simp; omega
      rw [ByteArray.size_append, ByteArray.size_append, ofL_size]
      show _ + 2 + _ ≤ 1000
      omega
theorem hexG_dots (a b c d : Nat) (ha : a < 256) : hexG (text4 a b c d) = none := by
  unfold hexG
  split
  · rfl
  · have hl : (dec a).length < (dec a ++ 46 :: (dec b ++ 46 :: (dec c ++ 46 :: dec d))).length := by simp
    unfold text4
    apply num_bad0 _ 16 (dec a).length
    · rw [ofL_size]; exact hl
    · rw [byteOf_ofL, List.getD_eq_getElem?_getD, List.getElem?_append_right (Nat.le_refl _)]
      simp
      decide
theorem text4_mem (a b c d : Nat) : ∀ x ∈ dec a ++ 46 :: (dec b ++ 46 :: (dec c ++ 46 :: dec d)), x.toNat ≠ 58 := by
  intro x hx
  have hd : ∀ u, ∀ x ∈ dec u, x.toNat ≠ 58 := fun u x hx => by have := dec_mem u x hx; omega
  simp only [List.mem_append, List.mem_cons] at hx
  rcases hx with h | h | h | h | h | h | h
  · exact hd a x h
  · rw [h]; decide
  · exact hd b x h
  · rw [h]; decide
  · exact hd c x h
  · rw [h]; decide
  · exact hd d x h
theorem zer_at (gs : List Nat) : ∀ k, zer gs k = true → ∀ j, j < k → gs.getD j 0 = 0
  | 0, _, j, h => by omega
  | k + 1, h, j, hj => by
    rw [zer, Bool.and_eq_true, decide_eq_true_eq] at h
    by_cases e : j = k
    · rw [e]; exact h.2
    · exact zer_at gs k h.1 j (by omega)
/-- What is printed is read as it was. -/
theorem parse_print (gs : List Nat) (h8 : gs.length = 8) (hlt : ∀ x ∈ gs, x < 65536) : parseB (printB gs) = some gs := by
  unfold printB
  by_cases hm : mappedB gs = true
  · rw [if_pos hm]
    unfold mappedB at hm
    rw [Bool.and_eq_true, decide_eq_true_eq] at hm
    obtain ⟨x0, x1, x2, x3, x4, x5, x6, x7, rfl⟩ := list8 gs h8
    have z0 := zer_at _ 5 hm.1 0 (by decide)
    have z1 := zer_at _ 5 hm.1 1 (by decide)
    have z2 := zer_at _ 5 hm.1 2 (by decide)
    have z3 := zer_at _ 5 hm.1 3 (by decide)
    have z4 := zer_at _ 5 hm.1 4 (by decide)
    have z5 := hm.2
    simp at z0 z1 z2 z3 z4 z5
    subst z0 z1 z2 z3 z4 z5
    have l6 : x6 < 65536 := hlt x6 (by simp)
    have l7 : x7 < 65536 := hlt x7 (by simp)
    show parseB (ofL [58, 58, 102, 102, 102, 102, 58] ++ text4 (x6 / 256) (x6 % 256) (x7 / 256) (x7 % 256)) = _
    have e : ofL [58, 58, 102, 102, 102, 102, 58] ++ text4 (x6 / 256) (x6 % 256) (x7 / 256) (x7 % 256) = ofL ([] ++ 58 :: 58 :: ([102, 102, 102, 102] ++ 58 :: (dec (x6 / 256) ++ 46 :: (dec (x6 % 256) ++ 46 :: (dec (x7 / 256) ++ 46 :: dec (x7 % 256)))))) := eq_ofL (by
      rw [data_append, ofL_data, text4_data]; rfl)
    rw [e, parse_merge [] _ trivial (.inl rfl)]
    have g1 : groupsB (ofL []) false = some [] := rfl
    have g2 : groupsB (ofL ([102, 102, 102, 102] ++ 58 :: (dec (x6 / 256) ++ 46 :: (dec (x6 % 256) ++ 46 :: (dec (x7 / 256) ++ 46 :: dec (x7 % 256)))))) true = some [65535, x6, x7] := by
      unfold groupsB
      have hp : pieces (ofL ([102, 102, 102, 102] ++ 58 :: (dec (x6 / 256) ++ 46 :: (dec (x6 % 256) ++ 46 :: (dec (x7 / 256) ++ 46 :: dec (x7 % 256)))))) 58 = [ofL [102, 102, 102, 102], text4 (x6 / 256) (x6 % 256) (x7 / 256) (x7 % 256)] := by
        rw [pieces_ofL, cutL_first 58 58 rfl _ _ (by decide), cutL_none 58 _ (text4_mem _ _ _ _)]
        rfl
      rw [if_neg (by rw [ofL_size]; simp), hp]
      have k1 : grTo [ofL [102, 102, 102, 102], text4 (x6 / 256) (x6 % 256) (x7 / 256) (x7 % 256)] true 1 = some [65535] := grTo_hex (k := 0) (out := []) rfl (by
        show hexG (ofL [102, 102, 102, 102]) = some 65535
        unfold hexG
        rw [numB_ofL _ _ (by simp)]
        decide)
      have k2 := grTo_strict (v := num4 (x6 / 256) (x6 % 256) (x7 / 256) (x7 % 256)) k1 (hexG_dots _ _ _ _ (by omega)) (text4_strict _ _ _ _ _ (by omega) (by omega) (by omega) (by omega) rfl)
      show grTo _ true (1 + 1) = _
      rw [k2, if_pos ⟨rfl, by simp⟩]
      have v1 : num4 (x6 / 256) (x6 % 256) (x7 / 256) (x7 % 256) / 65536 = x6 := by unfold num4; omega
      have v2 : num4 (x6 / 256) (x6 % 256) (x7 / 256) (x7 % 256) % 65536 = x7 := by unfold num4; omega
      rw [v1, v2]
      rfl
    rw [g1, g2]
    rfl
  · rw [if_neg hm]
    by_cases h0 : (runB gs).2 = 0
    · rw [if_pos h0, rowS_ofL, parse_plain _ (rowL_gap gs hlt), groupsB_row gs true hlt]
      simp only [if_pos h8]
    · rw [if_neg h0]
      have hr := runTo_zrun gs 8
      have hle := runTo_le gs 8 (Nat.le_refl _)
      change (runB gs).2 = 0 ∨ (2 ≤ (runB gs).2 ∧ (runB gs).2 = zrun gs (runB gs).1) at hr
      change (runB gs).1 + (runB gs).2 ≤ 8 at hle
      generalize (runB gs).1 = A at *
      generalize (runB gs).2 = M at *
      rcases hr with hr | ⟨h2, hz⟩
      · exact absurd hr h0
      · have lt1 : ∀ x ∈ gs.take A, x < 65536 := fun x hx => hlt x (List.mem_of_mem_take hx)
        have lt2 : ∀ x ∈ gs.drop (A + M), x < 65536 := fun x hx => hlt x (List.mem_of_mem_drop hx)
        have e : rowS (gs.take A) ++ ofL [58, 58] ++ rowS (gs.drop (A + M)) = ofL (rowL (gs.take A) ++ 58 :: 58 :: rowL (gs.drop (A + M))) := eq_ofL (by
          rw [data_append, data_append, rowS_list, rowS_list, ofL_data]; simp)
        have hl : rowL (gs.take A) = [] ∨ ((rowL (gs.take A)).getD ((rowL (gs.take A)).length - 1) 0).toNat ≠ 58 := by
          by_cases hA : gs.take A = []
          · rw [hA]; exact .inl rfl
          · exact .inr (rowL_last _ lt1 hA)
        rw [e, parse_merge _ _ (rowL_gap _ lt1) hl, groupsB_row _ _ lt1, groupsB_row _ _ lt2]
        have n1 : (gs.take A).length = A := by simp; omega
        have n2 : (gs.drop (A + M)).length = 8 - (A + M) := by simp; omega
        show (if 7 < (gs.take A).length + (gs.drop (A + M)).length then none else _) = _
        rw [n1, n2, if_neg (by omega), show 8 - A - (8 - (A + M)) = A + M - A by omega, run_split gs A (A + M) h8 (by omega) hle (zrun_zeros gs M A hz.symm hle)]
end Go.Proofs.YtkdinhgflkfbkaaDoor
