/- Texts of addresses of 128 bits, put together of groups' texts: how they are read; plain facts. -/
import Derived.Test.YtkdinhgflkfbkaaDoorSixMath
namespace Go.Proofs.YtkdinhgflkfbkaaDoor
open Go.RowKit
set_option linter.unusedVariables false

/-- Texts with colons between. -/
def rowT : List (List UInt8) → List UInt8
  | [] => []
  | [t] => t
  | t :: u :: r => t ++ 58 :: rowT (u :: r)
theorem rowT_rowL : ∀ l : List Nat, rowL l = rowT (l.map groupL)
  | [] => rfl
  | [x] => rfl
  | x :: y :: r => by
    rw [rowL, rowT_rowL (y :: r)]
    rfl
/-- A text of a group: not empty, without colons. -/
def Plain6 (t : List UInt8) : Prop := t ≠ [] ∧ ∀ c ∈ t, c.toNat ≠ 58
theorem rowT_cut : ∀ ts : List (List UInt8), ts ≠ [] → (∀ t ∈ ts, ∀ c ∈ t, c.toNat ≠ 58) → cutL 58 (rowT ts) = ts
  | [], h, _ => absurd rfl h
  | [t], _, h => by rw [rowT, cutL_none 58 _ (h t (by simp))]
  | t :: u :: r, _, h => by rw [rowT, cutL_first 58 58 rfl _ _ (h t (by simp)), rowT_cut (u :: r) (by simp) (fun x hx => h x (by simp [hx]))]
theorem rowT_head : ∀ ts : List (List UInt8), ts ≠ [] → (∀ t ∈ ts, Plain6 t) → ∃ c r, rowT ts = c :: r ∧ c.toNat ≠ 58
  | [], h, _ => absurd rfl h
  | [t], _, h => by
    rw [rowT]
    cases ht : t with
    | nil => exact absurd ht (h t (by simp)).1
    | cons c r => exact ⟨c, r, rfl, (h t (by simp)).2 c (by rw [ht]; simp)⟩
  | t :: u :: r, _, h => by
    rw [rowT]
    cases ht : t with
    | nil => exact absurd ht (h t (by simp)).1
    | cons c z => exact ⟨c, z ++ 58 :: rowT (u :: r), rfl, (h t (by simp)).2 c (by rw [ht]; simp)⟩
theorem rowT_gap : ∀ ts : List (List UInt8), (∀ t ∈ ts, Plain6 t) → noGap (rowT ts)
  | [], _ => trivial
  | [t], h => by rw [rowT]; exact noGap_plain _ (h t (by simp)).2
  | t :: u :: r, h => by
    rw [rowT]
    exact noGap_join _ _ (h t (by simp)).2 (rowT_gap (u :: r) (fun x hx => h x (by simp [hx]))) (rowT_head (u :: r) (by simp) (fun x hx => h x (by simp [hx]))) (h t (by simp)).1
theorem rowT_ne (ts : List (List UInt8)) (h0 : ts ≠ []) (h : ∀ t ∈ ts, Plain6 t) : rowT ts ≠ [] := by
  obtain ⟨c, r, e, _⟩ := rowT_head ts h0 h
  rw [e]; simp
theorem rowT_last : ∀ ts : List (List UInt8), (∀ t ∈ ts, Plain6 t) → ts ≠ [] → ((rowT ts).getD ((rowT ts).length - 1) 0).toNat ≠ 58
  | [], _, h => absurd rfl h
  | [t], h, _ => by
    rw [rowT]
    have h0 : 0 < t.length := List.length_pos_iff.2 (h t (by simp)).1
    rw [List.getD_eq_getElem?_getD, List.getElem?_eq_getElem (by omega)]
    exact (h t (by simp)).2 _ (List.getElem_mem _)
  | t :: u :: r, h, _ => by
    have ih := rowT_last (u :: r) (fun z hz => h z (by simp [hz])) (by simp)
    have hn : 0 < (rowT (u :: r)).length := List.length_pos_iff.2 (rowT_ne (u :: r) (by simp) (fun z hz => h z (by simp [hz])))
    rw [rowT]
    have e : (t ++ 58 :: rowT (u :: r)).getD ((t ++ 58 :: rowT (u :: r)).length - 1) 0 = (rowT (u :: r)).getD ((rowT (u :: r)).length - 1) 0 := by
      rw [List.getD_eq_getElem?_getD, List.getD_eq_getElem?_getD, List.length_append, List.length_cons, List.getElem?_append_right (by omega), show t.length + ((rowT (u :: r)).length + 1) - 1 - t.length = ((rowT (u :: r)).length - 1) + 1 by omega, List.getElem?_cons_succ]
    rw [e]
    exact ih
/-- A colon behind a row of texts stays single. -/
theorem noGap_colon : ∀ l : List UInt8, noGap l → (l.getD (l.length - 1) 0).toNat ≠ 58 → l ≠ [] → noGap (l ++ [58])
  | [], _, _, h => absurd rfl h
  | [x], _, h, _ => ⟨fun h2 => h (by simpa using h2.1), trivial⟩
  | x :: y :: r, hg, h, _ => ⟨hg.1, noGap_colon (y :: r) hg.2 (by simpa using h) (by simp)⟩
theorem noGap_ahead (l : List UInt8) (hg : noGap l) (h : ∃ c r, l = c :: r ∧ c.toNat ≠ 58) : noGap (58 :: l) := by
  obtain ⟨c, r, rfl, hc⟩ := h
  exact ⟨fun h2 => hc h2.2, hg⟩

theorem pieces_cutL (l : List UInt8) : pieces (ofL l) 58 = (cutL 58 l).map ofL := pieces_ofL l 58
/-- A piece that is neither a group nor a strict text: there are no groups. -/
theorem groups_stuck (l : List UInt8) (dot : Bool) (ts : List (List UInt8)) (h0 : l ≠ []) (hc : cutL 58 l = ts) (t : List UInt8) (ht : t ∈ ts) (hx : hexG (ofL t) = none) (hs : strictB (ofL t) = none) : groupsB (ofL l) dot = none := by
  unfold groupsB
  rw [if_neg (by rw [ofL_size]; intro e; exact h0 (List.eq_nil_of_length_eq_zero e)), pieces_cutL, hc]
  obtain ⟨k, hk, rfl⟩ := List.getElem_of_mem ht
  have e : (ts.map ofL).getD k ⟨#[]⟩ = ofL ts[k] := by
    rw [List.getD_eq_getElem?_getD, List.getElem?_map, List.getElem?_eq_getElem hk]
    rfl
  apply grTo_dead (k := k + 1) (by rw [List.length_map]; omega)
  cases h : grTo (ts.map ofL) dot k with
  | none => rw [grTo, h]
  | some out => exact grTo_stop h (by rw [e]; exact hx) (by rw [e]; exact hs)
theorem hexG_nil : hexG (ofL []) = none := rfl
theorem strictB_plain (t : List UInt8) (h : ∀ c ∈ t, c.toNat ≠ 46) : strictB (ofL t) = none := by
  unfold strictB
  rw [pieces_ofL, cutL_none 46 t h]
  rfl
theorem strictB_nil : strictB (ofL []) = none := strictB_plain [] (by simp)
/-- Groups of texts that are all numbers. -/
theorem grTo_texts (ts : List (List UInt8)) (xs : List Nat) (dot : Bool) (hl : ts.length ≤ xs.length) (h : ∀ k (hk : k < ts.length), hexG (ofL ts[k]) = some (xs.getD k 0)) (us : List (List UInt8)) : ∀ k, k ≤ ts.length → grTo ((ts ++ us).map ofL) dot k = some (xs.take k)
  | 0, _ => by simp [grTo]
  | k + 1, hk => by
    have e : ((ts ++ us).map ofL).getD k ⟨#[]⟩ = ofL (ts[k]'(by omega)) := by
      rw [List.getD_eq_getElem?_getD, List.getElem?_map, List.getElem?_append_left (by omega), List.getElem?_eq_getElem (by omega)]
      rfl
    rw [grTo_hex (grTo_texts ts xs dot hl h us k (by omega)) (by rw [e]; exact h k (by omega))]
    congr 1
    rw [List.take_add_one, List.getD_eq_getElem?_getD, List.getElem?_eq_getElem (by omega)]
    rfl
theorem groups_texts (ts : List (List UInt8)) (xs : List Nat) (dot : Bool) (h0 : ts ≠ []) (hp : ∀ t ∈ ts, Plain6 t) (hl : ts.length = xs.length) (h : ∀ k (hk : k < ts.length), hexG (ofL ts[k]) = some (xs.getD k 0)) : groupsB (ofL (rowT ts)) dot = some xs := by
  unfold groupsB
  rw [if_neg (by rw [ofL_size]; intro e; exact rowT_ne ts h0 hp (List.eq_nil_of_length_eq_zero e)), pieces_cutL, rowT_cut ts h0 (fun t ht => (hp t ht).2), List.length_map]
  have := grTo_texts ts xs dot (by omega) h [] ts.length (Nat.le_refl _)
  rw [List.append_nil] at this
  rw [this, List.take_of_length_le (by omega)]

theorem rowT_snoc (x : List UInt8) : ∀ ts : List (List UInt8), rowT (ts ++ [x]) = (if 0 < ts.length then rowT ts ++ [58] else rowT ts) ++ x
  | [] => by simp [rowT]
  | [y] => by simp [rowT]
  | y :: z :: r => by
    have ih := rowT_snoc x (z :: r)
    rw [if_pos (by simp)] at ih
    rw [if_pos (by simp)]
    show rowT (y :: z :: (r ++ [x])) = _
    rw [rowT, rowT]
    have e : z :: (r ++ [x]) = (z :: r) ++ [x] := rfl
    rw [e, ih]
    simp
/-- What the reference's Join makes of texts. -/
theorem join_rowT (ts : List (List UInt8)) : (joinB (ts.map ofL) { data := #[58] }).data.toList = rowT ts := by
  have key : ∀ n (l : List (List UInt8)), l.length = n → (joinB (l.map ofL) { data := #[58] }).data.toList = rowT l := by
    intro n
    induction n with
    | zero =>
      intro l h
      have := List.eq_nil_of_length_eq_zero h
      subst this
      rfl
    | succ n ih =>
      intro l h
      obtain ⟨l', x, rfl⟩ : ∃ l' x, l = l' ++ [x] := ⟨l.dropLast, l.getLast (by intro e; rw [e] at h; simp at h), (List.dropLast_concat_getLast _).symm⟩
      have hl' : l'.length = n := by simp at h; exact h
      rw [List.map_append, List.map_cons, List.map_nil, joinB_snoc, rowT_snoc, data_append, List.length_map, ofL_data]
      have ih' := ih l' hl'
      by_cases h0 : 0 < l'.length
      · rw [if_pos h0, if_pos h0, data_append, ih']
      · rw [if_neg h0, if_neg h0, ih']
  exact key ts.length ts rfl

/-- A great digit. -/
def hexU (d : Nat) : UInt8 := if d < 10 then UInt8.ofNat (48 + d) else UInt8.ofNat (55 + d)
theorem hexU_nat (d : Nat) (h : d < 16) : (hexU d).toNat = if d < 10 then 48 + d else 55 + d := by
  unfold hexU
  split
  · rw [UInt8.toNat_ofNat', Nat.mod_eq_of_lt (by omega)]
  · rw [UInt8.toNat_ofNat', Nat.mod_eq_of_lt (by omega)]
theorem digC_hexU (d : Nat) (h : d < 16) : digC (hexU d).toNat = d := by
  rw [hexU_nat d h]
  unfold digC
  by_cases h1 : d < 10
  · rw [if_pos h1, if_pos (by omega)]; omega
  · rw [if_neg h1, if_neg (by omega), if_neg (by omega), if_pos (by omega)]; omega
/-- A group's four great digits. -/
def upL (n : Nat) : List UInt8 := [hexU (n / 4096 % 16), hexU (n / 256 % 16), hexU (n / 16 % 16), hexU (n % 16)]
theorem upL_mem (n : Nat) : ∀ c ∈ upL n, c.toNat ≠ 58 ∧ c.toNat ≠ 46 := by
  intro c hc
  have one : ∀ d, d < 16 → (hexU d).toNat ≠ 58 ∧ (hexU d).toNat ≠ 46 := by
    intro d hd
    rw [hexU_nat d hd]
    split <;> omega
  simp only [upL, List.mem_cons, List.not_mem_nil, or_false] at hc
  rcases hc with h | h | h | h <;> (rw [h]; exact one _ (by omega))
theorem upL_plain (n : Nat) : Plain6 (upL n) := ⟨by simp [upL], fun c hc => (upL_mem n c hc).1⟩
theorem upL_hex (n : Nat) (h : n < 65536) : hexG (ofL (upL n)) = some n := by
  unfold hexG
  rw [if_neg (by rw [ofL_size]; simp [upL]), numB_ofL _ _ (by simp [upL])]
  unfold upL
  simp only [numL]
  rw [digC_hexU _ (by omega), digC_hexU _ (by omega), digC_hexU _ (by omega), digC_hexU _ (by omega)]
  unfold most
  rw [if_neg (by omega), if_neg (by omega), if_neg (by omega), if_neg (by omega), if_neg (by omega), if_neg (by omega), if_neg (by omega), if_neg (by omega)]
  congr 1
  omega
theorem ups_plain (gs : List Nat) : ∀ t ∈ gs.map upL, Plain6 t := by
  intro t ht
  obtain ⟨x, _, rfl⟩ := List.mem_map.1 ht
  exact upL_plain x
theorem ups_hex (gs : List Nat) (hlt : ∀ x ∈ gs, x < 65536) : ∀ k (hk : k < (gs.map upL).length), hexG (ofL (gs.map upL)[k]) = some (gs.getD k 0) := by
  intro k hk
  have hk2 : k < gs.length := by simpa using hk
  rw [List.getElem_map, List.getD_eq_getElem?_getD, List.getElem?_eq_getElem hk2]
  exact upL_hex _ (hlt _ (List.getElem_mem _))
theorem parse_groups (ts : List (List UInt8)) (xs : List Nat) (h0 : ts ≠ []) (hp : ∀ t ∈ ts, Plain6 t) (hl : ts.length = xs.length) (h : ∀ k (hk : k < ts.length), hexG (ofL ts[k]) = some (xs.getD k 0)) : parseB (ofL (rowT ts)) = if xs.length = 8 then some xs else none := by
  rw [parse_plain _ (rowT_gap ts hp), groups_texts ts xs true h0 hp hl h]
theorem parse_stuck (l : List UInt8) (ts : List (List UInt8)) (hg : noGap l) (h0 : l ≠ []) (hc : cutL 58 l = ts) (t : List UInt8) (ht : t ∈ ts) (hx : hexG (ofL t) = none) (hs : strictB (ofL t) = none) : parseB (ofL l) = none := by
  rw [parse_plain _ hg, groups_stuck l true ts h0 hc t ht hx hs]
theorem ups_ne (gs : List Nat) (h8 : gs.length = 8) : gs.map upL ≠ [] := by
  intro e
  have := congrArg List.length e
  simp [h8] at this
theorem whole_ok (gs : List Nat) (h8 : gs.length = 8) (hlt : ∀ x ∈ gs, x < 65536) : parseB (ofL (rowT (gs.map upL))) = some gs := by
  rw [parse_groups _ gs (ups_ne gs h8) (ups_plain gs) (by simp) (ups_hex gs hlt), if_pos h8]
theorem whole_less (gs : List Nat) (h8 : gs.length = 8) (hlt : ∀ x ∈ gs, x < 65536) : parseB (ofL (rowT ((gs.take 7).map upL))) = none := by
  rw [parse_groups _ (gs.take 7) (by intro e; have := congrArg List.length e; simp [h8] at this) (ups_plain _) (by simp) (ups_hex _ (fun x hx => hlt x (List.mem_of_mem_take hx))), if_neg (by simp [h8])]
theorem whole_more (gs : List Nat) (h8 : gs.length = 8) (hlt : ∀ x ∈ gs, x < 65536) : parseB (ofL (rowT (gs.map upL) ++ [58, 48])) = none := by
  have e : rowT (gs.map upL) ++ [58, 48] = rowT (gs.map upL ++ [[48]]) := by
    rw [rowT_snoc, if_pos (by simp [h8])]; simp
  have hp : ∀ t ∈ gs.map upL ++ [[48]], Plain6 t := by
    intro t ht
    rcases List.mem_append.1 ht with h | h
    · exact ups_plain gs t h
    · rw [List.mem_singleton] at h; rw [h]; exact ⟨by simp, by decide⟩
  rw [e, parse_groups _ (gs ++ [0]) (by simp) hp (by simp) ?_, if_neg (by simp [h8])]
  intro k hk
  by_cases hk8 : k < 8
  · have hk2 : k < (gs.map upL).length := by simp [h8]; exact hk8
    rw [List.getElem_append_left hk2, ups_hex gs hlt k hk2, List.getD_eq_getElem?_getD, List.getD_eq_getElem?_getD, List.getElem?_append_left (by omega)]
  · have hk9 : k = 8 := by simp [h8] at hk; omega
    subst hk9
    have e1 : (gs.map upL ++ [[48]])[8] = [48] := by
      rw [List.getElem_append_right (by simp [h8])]; simp [h8]
    have e2 : (gs ++ [0]).getD 8 0 = 0 := by
      rw [List.getD_eq_getElem?_getD, List.getElem?_append_right (by omega)]; simp [h8]
    rw [e1, e2]
    rfl
theorem whole_long (gs : List Nat) (h8 : gs.length = 8) : parseB (ofL (48 :: rowT (gs.map upL))) = none := by
  obtain ⟨x0, x1, x2, x3, x4, x5, x6, x7, rfl⟩ := list8 gs h8
  have e : 48 :: rowT ([x0, x1, x2, x3, x4, x5, x6, x7].map upL) = rowT ((48 :: upL x0) :: [x1, x2, x3, x4, x5, x6, x7].map upL) := rfl
  have hp : ∀ t ∈ (48 :: upL x0) :: [x1, x2, x3, x4, x5, x6, x7].map upL, Plain6 t := by
    intro t ht
    rcases List.mem_cons.1 ht with h | h
    · rw [h]
      exact ⟨by simp, fun c hc => by
        rcases List.mem_cons.1 hc with h | h
        · rw [h]; decide
        · exact (upL_mem x0 c h).1⟩
    · exact ups_plain _ t h
  rw [e]
  refine parse_stuck _ _ (rowT_gap _ hp) (rowT_ne _ (by simp) hp) (rowT_cut _ (by simp) (fun t ht => (hp t ht).2)) (48 :: upL x0) (by simp) ?_ (strictB_plain _ (fun c hc => by
    rcases List.mem_cons.1 hc with h | h
    · rw [h]; decide
    · exact (upL_mem x0 c h).2))
  unfold hexG
  rw [if_pos (by rw [ofL_size]; simp [upL])]
theorem whole_ahead (gs : List Nat) (h8 : gs.length = 8) : parseB (ofL (58 :: rowT (gs.map upL))) = none := by
  have hc : cutL 58 (58 :: rowT (gs.map upL)) = [] :: gs.map upL := by
    show cutL 58 ([] ++ 58 :: rowT (gs.map upL)) = _
    rw [cutL_first 58 58 rfl _ _ (by simp), rowT_cut _ (ups_ne gs h8) (fun t ht => (ups_plain gs t ht).2)]
  exact parse_stuck _ _ (noGap_ahead _ (rowT_gap _ (ups_plain gs)) (rowT_head _ (ups_ne gs h8) (ups_plain gs))) (by simp) hc [] (by simp) hexG_nil strictB_nil
theorem whole_behind (gs : List Nat) (h8 : gs.length = 8) : parseB (ofL (rowT (gs.map upL) ++ [58])) = none := by
  have e : rowT (gs.map upL) ++ [58] = rowT (gs.map upL ++ [[]]) := by
    rw [rowT_snoc, if_pos (by simp [h8])]; simp
  have hc : cutL 58 (rowT (gs.map upL) ++ [58]) = gs.map upL ++ [[]] := by
    rw [e, rowT_cut _ (by simp) (fun t ht => by
      rcases List.mem_append.1 ht with h | h
      · exact (ups_plain gs t h).2
      · rw [List.mem_singleton] at h; rw [h]; simp)]
  exact parse_stuck _ _ (noGap_colon _ (rowT_gap _ (ups_plain gs)) (rowT_last _ (ups_plain gs) (ups_ne gs h8)) (rowT_ne _ (ups_ne gs h8) (ups_plain gs))) (by simp) hc [] (by simp) hexG_nil strictB_nil

/-- Two colons in place of a row of zeros. -/
theorem gaps_ok (gs : List Nat) (A K : Nat) (h8 : gs.length = 8) (hlt : ∀ x ∈ gs, x < 65536) (hAK : A < K) (hK : K ≤ 8) (hz : ∀ j, A ≤ j → j < K → gs.getD j 0 = 0) :
    parseB (ofL (rowL (gs.take A) ++ 58 :: 58 :: rowL (gs.drop K))) = some gs := by
  have lt1 : ∀ x ∈ gs.take A, x < 65536 := fun x hx => hlt x (List.mem_of_mem_take hx)
  have lt2 : ∀ x ∈ gs.drop K, x < 65536 := fun x hx => hlt x (List.mem_of_mem_drop hx)
  have hl : rowL (gs.take A) = [] ∨ ((rowL (gs.take A)).getD ((rowL (gs.take A)).length - 1) 0).toNat ≠ 58 := by
    by_cases hA : gs.take A = []
    · rw [hA]; exact .inl rfl
    · exact .inr (rowL_last _ lt1 hA)
  rw [parse_merge _ _ (rowL_gap _ lt1) hl, groupsB_row _ _ lt1, groupsB_row _ _ lt2]
  have n1 : (gs.take A).length = A := by simp; omega
  have n2 : (gs.drop K).length = 8 - K := by simp; omega
  show (if 7 < (gs.take A).length + (gs.drop K).length then none else some (gs.take A ++ List.replicate (8 - (gs.take A).length - (gs.drop K).length) 0 ++ gs.drop K)) = _
  rw [n1, n2, if_neg (by omega), show 8 - A - (8 - K) = K - A by omega, run_split gs A K h8 (by omega) hK hz]
theorem cutL_ne : ∀ l : List UInt8, cutL 58 l ≠ []
  | [] => by simp [cutL]
  | c :: l => by
    rw [cutL]
    split
    · simp
    · split <;> simp
theorem cutL_behind : ∀ (l : List UInt8), cutL 58 (l ++ [58]) = cutL 58 l ++ [[]]
  | [] => rfl
  | c :: l => by
    have ih := cutL_behind l
    have hn := cutL_ne l
    rw [List.cons_append, cutL, cutL, ih]
    split
    · rfl
    · cases h : cutL 58 l with
      | nil => exact absurd h hn
      | cons x r => rfl
theorem cutL_ahead (l : List UInt8) : cutL 58 (58 :: l) = [] :: cutL 58 l := by
  show cutL 58 ([] ++ 58 :: l) = _
  rw [cutL_first 58 58 rfl _ _ (by simp)]
theorem mergeB_none (oa : Option (List Nat)) : mergeB oa none = none := by cases oa <;> rfl
theorem rowL_ends (l : List Nat) (hlt : ∀ x ∈ l, x < 65536) : rowL l = [] ∨ ((rowL l).getD ((rowL l).length - 1) 0).toNat ≠ 58 := by
  by_cases h : l = []
  · rw [h]; exact .inl rfl
  · exact .inr (rowL_last _ hlt h)
theorem gaps_twice (a b : List Nat) (ha : ∀ x ∈ a, x < 65536) : parseB (ofL ((rowL a ++ 58 :: 58 :: rowL b) ++ [58, 58])) = none := by
  have e : (rowL a ++ 58 :: 58 :: rowL b) ++ [58, 58] = rowL a ++ 58 :: 58 :: (rowL b ++ [58] ++ [58]) := by simp
  rw [e, parse_merge _ _ (rowL_gap _ ha) (rowL_ends a ha), groups_stuck (rowL b ++ [58] ++ [58]) true _ (by simp) (cutL_behind _) [] (by simp) hexG_nil strictB_nil, mergeB_none]
theorem gaps_three (a b : List Nat) (ha : ∀ x ∈ a, x < 65536) : parseB (ofL (58 :: (rowL a ++ 58 :: 58 :: rowL b))) = none := by
  by_cases h : a = []
  · subst h
    show parseB (ofL ([] ++ 58 :: 58 :: (58 :: rowL b))) = none
    rw [parse_merge [] _ trivial (.inl rfl), groups_stuck (58 :: rowL b) true _ (by simp) (cutL_ahead _) [] (by simp) hexG_nil strictB_nil, mergeB_none]
  · have e : 58 :: (rowL a ++ 58 :: 58 :: rowL b) = (58 :: rowL a) ++ 58 :: 58 :: rowL b := rfl
    have hne := rowL_ne a h ha
    have hl : ((58 :: rowL a).getD ((58 :: rowL a).length - 1) 0).toNat ≠ 58 := by
      have := rowL_last a ha h
      have hp : 0 < (rowL a).length := List.length_pos_iff.2 hne
      rw [List.getD_eq_getElem?_getD] at this ⊢
      rw [List.length_cons, Nat.add_sub_cancel, show (rowL a).length = ((rowL a).length - 1) + 1 by omega, List.getElem?_cons_succ]
      exact this
    rw [e, parse_merge _ _ (noGap_ahead _ (rowL_gap a ha) (rowL_head a h ha)) (.inr hl), groups_stuck (58 :: rowL a) false _ (by simp) (cutL_ahead _) [] (by simp) hexG_nil strictB_nil]
    rfl

/-- A strict text's bytes. -/
def d4 (a b c d : Nat) : List UInt8 := dec a ++ 46 :: (dec b ++ 46 :: (dec c ++ 46 :: dec d))
theorem d4_plain (a b c d : Nat) : Plain6 (d4 a b c d) := ⟨by unfold d4; simp, text4_mem a b c d⟩
theorem groupL_plain (n : Nat) (h : n < 65536) : Plain6 (groupL n) := ⟨groupL_ne n h, groupL_mem n⟩
theorem ts_plain (l : List Nat) (hlt : ∀ x ∈ l, x < 65536) : ∀ t ∈ l.map groupL, Plain6 t := by
  intro t ht
  obtain ⟨x, hx, rfl⟩ := List.mem_map.1 ht
  exact groupL_plain x (hlt x hx)
theorem ts_hex (l : List Nat) (hlt : ∀ x ∈ l, x < 65536) : ∀ k (hk : k < (l.map groupL).length), hexG (ofL (l.map groupL)[k]) = some (l.getD k 0) := by
  intro k hk
  have hk2 : k < l.length := by simpa using hk
  rw [List.getElem_map, List.getD_eq_getElem?_getD, List.getElem?_eq_getElem hk2]
  exact hexG_group _ (hlt _ (List.getElem_mem _))
/-- Groups, and a strict text behind them. -/
theorem groups_dots (l : List Nat) (a b c d : Nat) (hlt : ∀ x ∈ l, x < 65536) (ha : a < 256) (hb : b < 256) (hc : c < 256) (hd : d < 256) :
    groupsB (ofL (rowT (l.map groupL ++ [d4 a b c d]))) true = some (l ++ [num4 a b c d / 65536, num4 a b c d % 65536]) := by
  have hp : ∀ t ∈ l.map groupL ++ [d4 a b c d], Plain6 t := by
    intro t ht
    rcases List.mem_append.1 ht with h | h
    · exact ts_plain l hlt t h
    · rw [List.mem_singleton] at h; rw [h]; exact d4_plain a b c d
  unfold groupsB
  rw [if_neg (by rw [ofL_size]; intro e; exact rowT_ne _ (by simp) hp (List.eq_nil_of_length_eq_zero e)), pieces_cutL, rowT_cut _ (by simp) (fun t ht => (hp t ht).2), List.length_map]
  have h1 := grTo_texts (l.map groupL) l true (by simp) (ts_hex l hlt) [d4 a b c d] l.length (by simp)
  have e : ((l.map groupL ++ [d4 a b c d]).map ofL).getD l.length ⟨#[]⟩ = text4 a b c d := by
    rw [List.getD_eq_getElem?_getD, List.getElem?_map, List.getElem?_append_right (by simp)]
    simp
    rfl
  have h2 := grTo_strict h1 (by rw [e]; exact hexG_dots a b c d ha) (by rw [e]; exact text4_strict a b c d _ ha hb hc hd rfl)
  rw [show (l.map groupL ++ [d4 a b c d]).length = l.length + 1 by simp, h2, if_pos ⟨rfl, by simp⟩, List.take_of_length_le (Nat.le_refl _)]
theorem dots_parse (l : List Nat) (a b c d : Nat) (hlt : ∀ x ∈ l, x < 65536) (ha : a < 256) (hb : b < 256) (hc : c < 256) (hd : d < 256) :
    parseB (ofL (rowT (l.map groupL ++ [d4 a b c d]))) = if l.length = 6 then some (l ++ [num4 a b c d / 65536, num4 a b c d % 65536]) else none := by
  have hp : ∀ t ∈ l.map groupL ++ [d4 a b c d], Plain6 t := by
    intro t ht
    rcases List.mem_append.1 ht with h | h
    · exact ts_plain l hlt t h
    · rw [List.mem_singleton] at h; rw [h]; exact d4_plain a b c d
  rw [parse_plain _ (rowT_gap _ hp), groups_dots l a b c d hlt ha hb hc hd]
  by_cases h : l.length = 6
  · simp [h]
  · simp [h]
theorem dots_ahead (l : List Nat) (a b c d : Nat) (h0 : l ≠ []) (hlt : ∀ x ∈ l, x < 65536) (ha : a < 256) (hb : b < 256) (hc : c < 256) (hd : d < 256) :
    parseB (ofL (rowT (d4 a b c d :: l.map groupL))) = none := by
  have hp : ∀ t ∈ d4 a b c d :: l.map groupL, Plain6 t := by
    intro t ht
    rcases List.mem_cons.1 ht with h | h
    · rw [h]; exact d4_plain a b c d
    · exact ts_plain l hlt t h
  rw [parse_plain _ (rowT_gap _ hp)]
  have hg : groupsB (ofL (rowT (d4 a b c d :: l.map groupL))) true = none := by
    unfold groupsB
    rw [if_neg (by rw [ofL_size]; intro e; exact rowT_ne _ (by simp) hp (List.eq_nil_of_length_eq_zero e)), pieces_cutL, rowT_cut _ (by simp) (fun t ht => (hp t ht).2)]
    have hl : 0 < l.length := List.length_pos_iff.2 h0
    have k1 : grTo ((d4 a b c d :: l.map groupL).map ofL) true (0 + 1) = none := by
      rw [grTo_strict (l := (d4 a b c d :: l.map groupL).map ofL) (dot := true) (k := 0) (v := num4 a b c d) (out := []) rfl (by exact hexG_dots a b c d ha) (by exact text4_strict a b c d _ ha hb hc hd rfl), if_neg (by simp; omega)]
    exact grTo_dead (by simp) k1
  rw [hg]

/-- What is printed of seven ones and a group. -/
theorem ones_run (x : Nat) : (runB [1, 1, 1, 1, 1, 1, 1, x]).2 = 0 := by
  unfold runB
  by_cases h : x = 0
  · subst h; decide
  · simp [runTo, zrun, zl, h]
theorem ones_list (x : Nat) : (printB [1, 1, 1, 1, 1, 1, 1, x]).data.toList = [49, 58, 49, 58, 49, 58, 49, 58, 49, 58, 49, 58, 49, 58] ++ groupL x := by
  have g1 : groupL 1 = [49] := by rw [groupL_one (by decide)]; decide
  have hm : mappedB [1, 1, 1, 1, 1, 1, 1, x] = false := by simp [mappedB, zer]
  unfold printB
  rw [hm, if_neg (by simp), if_pos (ones_run x), rowS_list]
  simp [rowL, g1]
theorem ones_cut (x : Nat) : (printB [1, 1, 1, 1, 1, 1, 1, x]).extract 14 (printB [1, 1, 1, 1, 1, 1, 1, x]).size = ofL (groupL x) := by
  have h : printB [1, 1, 1, 1, 1, 1, 1, x] = ofL ([49, 58, 49, 58, 49, 58, 49, 58, 49, 58, 49, 58, 49, 58] ++ groupL x) := eq_ofL (ones_list x)
  rw [h]
  apply eq_ofL
  rw [data_extract, ofL_data, ofL_size]
  simp
/-- The printed text of seven ones and a group, and what of it is cut. -/
theorem ones_text (x : Nat) (hx : x < 65536) : ∃ P : ByteArray, printB [1, 1, 1, 1, 1, 1, 1, x] = P ∧ P.extract 14 P.size = ofL (groupL x) ∧ 14 ≤ P.size ∧ P.size ≤ 1000 := by
  refine ⟨_, rfl, ones_cut x, ?_, printB_small _ rfl (by
    intro y hy
    simp at hy
    rcases hy with h | h <;> omega)⟩
  have h : printB [1, 1, 1, 1, 1, 1, 1, x] = ofL ([49, 58, 49, 58, 49, 58, 49, 58, 49, 58, 49, 58, 49, 58] ++ groupL x) := eq_ofL (ones_list x)
  rw [h, ofL_size]
  simp
end Go.Proofs.YtkdinhgflkfbkaaDoor
