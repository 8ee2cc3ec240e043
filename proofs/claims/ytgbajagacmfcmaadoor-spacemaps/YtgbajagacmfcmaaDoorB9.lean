/- Texts that belong together, one behind the other: RefSpaceDef, SixTexts, SixSpread, SixSides, SixPlaces, SixParseOwn, AddrTextsOwn, AddrMath, CidrNum, CidrParse. -/
import Derived.Test.YtgbajagacmfcmaaDoorB8
import Derived.Lib.CutLaws
import Derived.Lib.LastIndexByte
import Derived.Test.YtgbajagacmfcmaaDoorShelf
import Derived.Laws.CopyOwn
/- Contract of the reference's Default of layer 7. -/
namespace Go.Proofs.YtgbajagacmfcmaaDoor
open Go.RowKit
set_option linter.unusedVariables false
set_option maxRecDepth 20000

def T7 : List ByteArray := [text7_0, text7_1, text7_2, text7_3, text7_4, text7_5, text7_6, text7_7, text7_8, text7_9, text7_10]
/-- Family, bytes, bits and space of each. -/
def D7 : List (Int × List Nat × Int × Int) := [(4, [127, 0, 0, 0, 0, 0, 0, 0, 0, 0, 0, 0, 0, 0, 0, 0], 8, 0), (6, [0, 0, 0, 0, 0, 0, 0, 0, 0, 0, 0, 0, 0, 0, 0, 1], 128, 0), (4, [0, 0, 0, 0, 0, 0, 0, 0, 0, 0, 0, 0, 0, 0, 0, 0], 32, 0), (6, [0, 0, 0, 0, 0, 0, 0, 0, 0, 0, 0, 0, 0, 0, 0, 0], 128, 0), (4, [10, 0, 0, 0, 0, 0, 0, 0, 0, 0, 0, 0, 0, 0, 0, 0], 8, 1), (4, [100, 64, 0, 0, 0, 0, 0, 0, 0, 0, 0, 0, 0, 0, 0, 0], 10, 1), (4, [169, 254, 0, 0, 0, 0, 0, 0, 0, 0, 0, 0, 0, 0, 0, 0], 16, 1), (4, [172, 16, 0, 0, 0, 0, 0, 0, 0, 0, 0, 0, 0, 0, 0, 0], 12, 1), (4, [192, 168, 0, 0, 0, 0, 0, 0, 0, 0, 0, 0, 0, 0, 0, 0], 16, 1), (6, [252, 0, 0, 0, 0, 0, 0, 0, 0, 0, 0, 0, 0, 0, 0, 0], 7, 1), (6, [254, 128, 0, 0, 0, 0, 0, 0, 0, 0, 0, 0, 0, 0, 0, 0], 10, 1)]
def defE (k : Nat) : List Ent := (D7.take k).foldl (fun es d => setE es d.1 d.2.1 d.2.2.1 d.2.2.2) []
theorem read7 : ∀ k (h : k < 11), ∃ f b n s, D7[k]? = some (f, b, n, s) ∧ parseP (T7.getD k ByteArray.empty) = (f, b, n, 0) ∧ b.length = 16 ∧ (∀ x ∈ b, x < 256) ∧ s = (if 4 ≤ k then 1 else 0) ∧ (T7.getD k ByteArray.empty).size ≤ 100
  | 0, _ => ⟨_, _, _, _, rfl, read7_0, by decide, by decide, by decide, by decide⟩
  | 1, _ => ⟨_, _, _, _, rfl, read7_1, by decide, by decide, by decide, by decide⟩
  | 2, _ => ⟨_, _, _, _, rfl, read7_2, by decide, by decide, by decide, by decide⟩
  | 3, _ => ⟨_, _, _, _, rfl, read7_3, by decide, by decide, by decide, by decide⟩
  | 4, _ => ⟨_, _, _, _, rfl, read7_4, by decide, by decide, by decide, by decide⟩
  | 5, _ => ⟨_, _, _, _, rfl, read7_5, by decide, by decide, by decide, by decide⟩
  | 6, _ => ⟨_, _, _, _, rfl, read7_6, by decide, by decide, by decide, by decide⟩
  | 7, _ => ⟨_, _, _, _, rfl, read7_7, by decide, by decide, by decide, by decide⟩
  | 8, _ => ⟨_, _, _, _, rfl, read7_8, by decide, by decide, by decide, by decide⟩
  | 9, _ => ⟨_, _, _, _, rfl, read7_9, by decide, by decide, by decide, by decide⟩
  | 10, _ => ⟨_, _, _, _, rfl, read7_10, by decide, by decide, by decide, by decide⟩
  | k + 11, h => absurd h (by omega)
theorem defE_succ (k : Nat) (f : Int) (b : List Nat) (n s : Int) (h : D7[k]? = some (f, b, n, s)) : defE (k + 1) = setE (defE k) f b n s := by
  obtain ⟨hk, e⟩ := List.getElem?_eq_some_iff.1 h
  have := foldl_take (fun (es : List Ent) (d : Int × List Nat × Int × Int) => setE es d.1 d.2.1 d.2.2.1 d.2.2.2) [] D7 k hk
  rw [e] at this
  exact this
theorem defE_len : ∀ k, (defE k).length ≤ k
  | 0 => by simp [defE]
  | k + 1 => by
    by_cases hk : k < D7.length
    · have h1 := defE_succ k (D7[k]).1 (D7[k]).2.1 (D7[k]).2.2.1 (D7[k]).2.2.2 (List.getElem?_eq_getElem hk)
      rw [h1]
      have h2 := setE_len (defE k) (D7[k]).1 (D7[k]).2.1 (D7[k]).2.2.1 (D7[k]).2.2.2
      have h3 := defE_len k
      omega
    · have : D7.take (k + 1) = D7.take k := by rw [List.take_of_length_le (by omega), List.take_of_length_le (by omega)]
      unfold defE
      rw [this]
      exact Nat.le_trans (defE_len k) (Nat.le_succ _)
theorem defE_eleven : (defE 11).length = 11 := by kernel_rfl
/-- The document's example. -/
theorem def_example : ofE (defE 11) 4 [192, 168, 0, 1, 0, 0, 0, 0, 0, 0, 0, 0, 0, 0, 0, 0] = 1 := by kernel_rfl
end Go.Proofs.YtgbajagacmfcmaaDoor
/- Texts of addresses of 128 bits, put together of groups' texts: how they are read; plain facts. -/
namespace Go.Proofs.YtgbajagacmfcmaaDoor
open Go.RowKit
set_option linter.unusedVariables false
set_option maxRecDepth 20000

/-- Texts with colons between. -/
def rowT : List (List UInt8) → List UInt8
  | [] => []
  | [t] => t
  | t :: u :: r => t ++ 58 :: rowT (u :: r)
theorem rowT_rowL : ∀ l : List Nat, rowL l = rowT (l.map groupL)
  | [] => rfl
  | [x] => rfl
  | x :: y :: r => by
    rw [rowL, rowT_rowL (y :: r)]
    rfl
/-- A text of a group: not empty, without colons. -/
def Plain6 (t : List UInt8) : Prop := t ≠ [] ∧ ∀ c ∈ t, c.toNat ≠ 58
theorem rowT_cut : ∀ ts : List (List UInt8), ts ≠ [] → (∀ t ∈ ts, ∀ c ∈ t, c.toNat ≠ 58) → cutL 58 (rowT ts) = ts
  | [], h, _ => absurd rfl h
  | [t], _, h => by rw [rowT, cutL_none 58 _ (h t (by simp))]
  | t :: u :: r, _, h => by rw [rowT, cutL_first 58 58 rfl _ _ (h t (by simp)), rowT_cut (u :: r) (by simp) (fun x hx => h x (by simp [hx]))]
theorem rowT_head : ∀ ts : List (List UInt8), ts ≠ [] → (∀ t ∈ ts, Plain6 t) → ∃ c r, rowT ts = c :: r ∧ c.toNat ≠ 58
  | [], h, _ => absurd rfl h
  | [t], _, h => by
    rw [rowT]
    cases ht : t with
    | nil => exact absurd ht (h t (by simp)).1
    | cons c r => exact ⟨c, r, rfl, (h t (by simp)).2 c (by rw [ht]; simp)⟩
  | t :: u :: r, _, h => by
    rw [rowT]
    cases ht : t with
    | nil => exact absurd ht (h t (by simp)).1
    | cons c z => exact ⟨c, z ++ 58 :: rowT (u :: r), rfl, (h t (by simp)).2 c (by rw [ht]; simp)⟩
theorem rowT_gap : ∀ ts : List (List UInt8), (∀ t ∈ ts, Plain6 t) → noGap (rowT ts)
  | [], _ => trivial
  | [t], h => by rw [rowT]; exact noGap_plain _ (h t (by simp)).2
  | t :: u :: r, h => by
    rw [rowT]
    exact noGap_join _ _ (h t (by simp)).2 (rowT_gap (u :: r) (fun x hx => h x (by simp [hx]))) (rowT_head (u :: r) (by simp) (fun x hx => h x (by simp [hx]))) (h t (by simp)).1
theorem rowT_ne (ts : List (List UInt8)) (h0 : ts ≠ []) (h : ∀ t ∈ ts, Plain6 t) : rowT ts ≠ [] := by
  obtain ⟨c, r, e, _⟩ := rowT_head ts h0 h
  rw [e]; simp
theorem rowT_last : ∀ ts : List (List UInt8), (∀ t ∈ ts, Plain6 t) → ts ≠ [] → ((rowT ts).getD ((rowT ts).length - 1) 0).toNat ≠ 58
  | [], _, h => absurd rfl h
  | [t], h, _ => by
    rw [rowT]
    have h0 : 0 < t.length := List.length_pos_iff.2 (h t (by simp)).1
    rw [List.getD_eq_getElem?_getD, List.getElem?_eq_getElem (by omega)]
    exact (h t (by simp)).2 _ (List.getElem_mem _)
  | t :: u :: r, h, _ => by
    have ih := rowT_last (u :: r) (fun z hz => h z (by simp [hz])) (by simp)
    have hn : 0 < (rowT (u :: r)).length := List.length_pos_iff.2 (rowT_ne (u :: r) (by simp) (fun z hz => h z (by simp [hz])))
    rw [rowT]
    have e : (t ++ 58 :: rowT (u :: r)).getD ((t ++ 58 :: rowT (u :: r)).length - 1) 0 = (rowT (u :: r)).getD ((rowT (u :: r)).length - 1) 0 := by
      rw [List.getD_eq_getElem?_getD, List.getD_eq_getElem?_getD, List.length_append, List.length_cons, List.getElem?_append_right (by omega), show t.length + ((rowT (u :: r)).length + 1) - 1 - t.length = ((rowT (u :: r)).length - 1) + 1 by omega, List.getElem?_cons_succ]
    rw [e]
    exact ih
/-- A colon behind a row of texts stays single. -/
theorem noGap_colon : ∀ l : List UInt8, noGap l → (l.getD (l.length - 1) 0).toNat ≠ 58 → l ≠ [] → noGap (l ++ [58])
  | [], _, _, h => absurd rfl h
  | [x], _, h, _ => ⟨fun h2 => h (by simpa using h2.1), trivial⟩
  | x :: y :: r, hg, h, _ => ⟨hg.1, noGap_colon (y :: r) hg.2 (by simpa using h) (by simp)⟩
theorem noGap_ahead (l : List UInt8) (hg : noGap l) (h : ∃ c r, l = c :: r ∧ c.toNat ≠ 58) : noGap (58 :: l) := by
  obtain ⟨c, r, rfl, hc⟩ := h
  exact ⟨fun h2 => hc h2.2, hg⟩

theorem pieces_cutL (l : List UInt8) : pieces (ofL l) 58 = (cutL 58 l).map ofL := pieces_ofL l 58
/-- A piece that is neither a group nor a strict text: there are no groups. -/
theorem groups_stuck (l : List UInt8) (dot : Bool) (ts : List (List UInt8)) (h0 : l ≠ []) (hc : cutL 58 l = ts) (t : List UInt8) (ht : t ∈ ts) (hx : hexG (ofL t) = none) (hs : strictB (ofL t) = none) : groupsB (ofL l) dot = none := by
  unfold groupsB
  rw [if_neg (by rw [ofL_size]; intro e; exact h0 (List.eq_nil_of_length_eq_zero e)), pieces_cutL, hc]
  obtain ⟨k, hk, rfl⟩ := List.getElem_of_mem ht
  have e : (ts.map ofL).getD k ⟨#[]⟩ = ofL ts[k] := by
    rw [List.getD_eq_getElem?_getD, List.getElem?_map, List.getElem?_eq_getElem hk]
    rfl
  apply grTo_dead (k := k + 1) (by rw [List.length_map]; omega)
  cases h : grTo (ts.map ofL) dot k with
  | none => rw [grTo, h]
  | some out => exact grTo_stop h (by rw [e]; exact hx) (by rw [e]; exact hs)
theorem hexG_nil : hexG (ofL []) = none := rfl
theorem strictB_plain (t : List UInt8) (h : ∀ c ∈ t, c.toNat ≠ 46) : strictB (ofL t) = none := by
  unfold strictB
  rw [pieces_ofL, cutL_none 46 t h]
  rfl
theorem strictB_nil : strictB (ofL []) = none := strictB_plain [] (by simp)
/-- Groups of texts that are all numbers. -/
theorem grTo_texts (ts : List (List UInt8)) (xs : List Nat) (dot : Bool) (hl : ts.length ≤ xs.length) (h : ∀ k (hk : k < ts.length), hexG (ofL ts[k]) = some (xs.getD k 0)) (us : List (List UInt8)) : ∀ k, k ≤ ts.length → grTo ((ts ++ us).map ofL) dot k = some (xs.take k)
  | 0, _ => by simp [grTo]
  | k + 1, hk => by
    have e : ((ts ++ us).map ofL).getD k ⟨#[]⟩ = ofL (ts[k]'(by omega)) := by
      rw [List.getD_eq_getElem?_getD, List.getElem?_map, List.getElem?_append_left (by omega), List.getElem?_eq_getElem (by omega)]
      rfl
    rw [grTo_hex (grTo_texts ts xs dot hl h us k (by omega)) (by rw [e]; exact h k (by omega))]
    congr 1
    rw [List.take_add_one, List.getD_eq_getElem?_getD, List.getElem?_eq_getElem (by omega)]
    rfl
theorem groups_texts (ts : List (List UInt8)) (xs : List Nat) (dot : Bool) (h0 : ts ≠ []) (hp : ∀ t ∈ ts, Plain6 t) (hl : ts.length = xs.length) (h : ∀ k (hk : k < ts.length), hexG (ofL ts[k]) = some (xs.getD k 0)) : groupsB (ofL (rowT ts)) dot = some xs := by
  unfold groupsB
  rw [if_neg (by rw [ofL_size]; intro e; exact rowT_ne ts h0 hp (List.eq_nil_of_length_eq_zero e)), pieces_cutL, rowT_cut ts h0 (fun t ht => (hp t ht).2), List.length_map]
  have := grTo_texts ts xs dot (by omega) h [] ts.length (Nat.le_refl _)
  rw [List.append_nil] at this
  rw [this, List.take_of_length_le (by omega)]

theorem rowT_snoc (x : List UInt8) : ∀ ts : List (List UInt8), rowT (ts ++ [x]) = (if 0 < ts.length then rowT ts ++ [58] else rowT ts) ++ x
  | [] => by simp [rowT]
  | [y] => by simp [rowT]
  | y :: z :: r => by
    have ih := rowT_snoc x (z :: r)
    rw [if_pos (by simp)] at ih
    rw [if_pos (by simp)]
    show rowT (y :: z :: (r ++ [x])) = _
    rw [rowT, rowT]
    have e : z :: (r ++ [x]) = (z :: r) ++ [x] := rfl
    rw [e, ih]
    simp
/-- What the reference's Join makes of texts. -/
theorem join_rowT (ts : List (List UInt8)) : (joinB (ts.map ofL) { data := #[58] }).data.toList = rowT ts := by
  have key : ∀ n (l : List (List UInt8)), l.length = n → (joinB (l.map ofL) { data := #[58] }).data.toList = rowT l := by
    intro n
    induction n with
    | zero =>
      intro l h
      have := List.eq_nil_of_length_eq_zero h
      subst this
      rfl
    | succ n ih =>
      intro l h
      obtain ⟨l', x, rfl⟩ : ∃ l' x, l = l' ++ [x] := ⟨l.dropLast, l.getLast (by intro e; rw [e] at h; simp at h), (List.dropLast_concat_getLast _).symm⟩
      have hl' : l'.length = n := by simp at h; exact h
      rw [List.map_append, List.map_cons, List.map_nil, joinB_snoc, rowT_snoc, data_append, List.length_map, ofL_data]
      have ih' := ih l' hl'
      by_cases h0 : 0 < l'.length
      · rw [if_pos h0, if_pos h0, data_append, ih']
      · rw [if_neg h0, if_neg h0, ih']
  exact key ts.length ts rfl

/-- A great digit. -/
def hexU (d : Nat) : UInt8 := if d < 10 then UInt8.ofNat (48 + d) else UInt8.ofNat (55 + d)
theorem hexU_nat (d : Nat) (h : d < 16) : (hexU d).toNat = if d < 10 then 48 + d else 55 + d := by
  unfold hexU
  split
  · rw [UInt8.toNat_ofNat', Nat.mod_eq_of_lt (by omega)]
  · rw [UInt8.toNat_ofNat', Nat.mod_eq_of_lt (by omega)]
theorem digC_hexU (d : Nat) (h : d < 16) : digC (hexU d).toNat = d := by
  rw [hexU_nat d h]
  unfold digC
  by_cases h1 : d < 10
  · rw [if_pos h1, if_pos (by omega)]; omega
  · rw [if_neg h1, if_neg (by omega), if_neg (by omega), if_pos (by omega)]; omega
/-- A group's four great digits. -/
def upL (n : Nat) : List UInt8 := [hexU (n / 4096 % 16), hexU (n / 256 % 16), hexU (n / 16 % 16), hexU (n % 16)]
theorem upL_mem (n : Nat) : ∀ c ∈ upL n, c.toNat ≠ 58 ∧ c.toNat ≠ 46 := by
  intro c hc
  have one : ∀ d, d < 16 → (hexU d).toNat ≠ 58 ∧ (hexU d).toNat ≠ 46 := by
    intro d hd
    rw [hexU_nat d hd]
    split <;> omega
  simp only [upL, List.mem_cons, List.not_mem_nil, or_false] at hc
  rcases hc with h | h | h | h <;> (rw [h]; exact one _ (by omega))
theorem upL_plain (n : Nat) : Plain6 (upL n) := ⟨by simp [upL], fun c hc => (upL_mem n c hc).1⟩
theorem upL_hex (n : Nat) (h : n < 65536) : hexG (ofL (upL n)) = some n := by
  unfold hexG
  rw [if_neg (by rw [ofL_size]; simp [upL]), numB_ofL _ _ (by simp [upL])]
  unfold upL
  simp only [numL]
  rw [digC_hexU _ (by omega), digC_hexU _ (by omega), digC_hexU _ (by omega), digC_hexU _ (by omega)]
  unfold most
  rw [if_neg (by omega), if_neg (by omega), if_neg (by omega), if_neg (by omega), if_neg (by omega), if_neg (by omega), if_neg (by omega), if_neg (by omega)]
  congr 1
  omega
theorem ups_plain (gs : List Nat) : ∀ t ∈ gs.map upL, Plain6 t := by
  intro t ht
  obtain ⟨x, _, rfl⟩ := List.mem_map.1 ht
  exact upL_plain x
theorem ups_hex (gs : List Nat) (hlt : ∀ x ∈ gs, x < 65536) : ∀ k (hk : k < (gs.map upL).length), hexG (ofL (gs.map upL)[k]) = some (gs.getD k 0) := by
  intro k hk
  have hk2 : k < gs.length := by simpa using hk
  rw [List.getElem_map, List.getD_eq_getElem?_getD, List.getElem?_eq_getElem hk2]
  exact upL_hex _ (hlt _ (List.getElem_mem _))
theorem parse_groups (ts : List (List UInt8)) (xs : List Nat) (h0 : ts ≠ []) (hp : ∀ t ∈ ts, Plain6 t) (hl : ts.length = xs.length) (h : ∀ k (hk : k < ts.length), hexG (ofL ts[k]) = some (xs.getD k 0)) : parseB (ofL (rowT ts)) = if xs.length = 8 then some xs else none := by
  rw [parse_plain _ (rowT_gap ts hp), groups_texts ts xs true h0 hp hl h]
theorem parse_stuck (l : List UInt8) (ts : List (List UInt8)) (hg : noGap l) (h0 : l ≠ []) (hc : cutL 58 l = ts) (t : List UInt8) (ht : t ∈ ts) (hx : hexG (ofL t) = none) (hs : strictB (ofL t) = none) : parseB (ofL l) = none := by
  rw [parse_plain _ hg, groups_stuck l true ts h0 hc t ht hx hs]
theorem ups_ne (gs : List Nat) (h8 : gs.length = 8) : gs.map upL ≠ [] := by
  intro e
  have := congrArg List.length e
  simp [h8] at this
theorem whole_ok (gs : List Nat) (h8 : gs.length = 8) (hlt : ∀ x ∈ gs, x < 65536) : parseB (ofL (rowT (gs.map upL))) = some gs := by
  rw [parse_groups _ gs (ups_ne gs h8) (ups_plain gs) (by simp) (ups_hex gs hlt), if_pos h8]
theorem whole_less (gs : List Nat) (h8 : gs.length = 8) (hlt : ∀ x ∈ gs, x < 65536) : parseB (ofL (rowT ((gs.take 7).map upL))) = none := by
  rw [parse_groups _ (gs.take 7) (by intro e; have := congrArg List.length e; simp [h8] at this) (ups_plain _) (by simp) (ups_hex _ (fun x hx => hlt x (List.mem_of_mem_take hx))), if_neg (by simp [h8])]
theorem whole_more (gs : List Nat) (h8 : gs.length = 8) (hlt : ∀ x ∈ gs, x < 65536) : parseB (ofL (rowT (gs.map upL) ++ [58, 48])) = none := by
  have e : rowT (gs.map upL) ++ [58, 48] = rowT (gs.map upL ++ [[48]]) := by
    rw [rowT_snoc, if_pos (by simp [h8])]; simp
  have hp : ∀ t ∈ gs.map upL ++ [[48]], Plain6 t := by
    intro t ht
    rcases List.mem_append.1 ht with h | h
    · exact ups_plain gs t h
    · rw [List.mem_singleton] at h; rw [h]; exact ⟨by simp, by decide⟩
  rw [e, parse_groups _ (gs ++ [0]) (by simp) hp (by simp) ?_, if_neg (by simp [h8])]
  intro k hk
  by_cases hk8 : k < 8
  · have hk2 : k < (gs.map upL).length := by simp [h8]; exact hk8
    rw [List.getElem_append_left hk2, ups_hex gs hlt k hk2, List.getD_eq_getElem?_getD, List.getD_eq_getElem?_getD, List.getElem?_append_left (by omega)]
  · have hk9 : k = 8 := by simp [h8] at hk; omega
    subst hk9
    have e1 : (gs.map upL ++ [[48]])[8] = [48] := by
      rw [List.getElem_append_right (by simp [h8])]; simp [h8]
    have e2 : (gs ++ [0]).getD 8 0 = 0 := by
      rw [List.getD_eq_getElem?_getD, List.getElem?_append_right (by omega)]; simp [h8]
    rw [e1, e2]
    rfl
theorem whole_long (gs : List Nat) (h8 : gs.length = 8) : parseB (ofL (48 :: rowT (gs.map upL))) = none := by
  obtain ⟨x0, x1, x2, x3, x4, x5, x6, x7, rfl⟩ := list8 gs h8
  have e : 48 :: rowT ([x0, x1, x2, x3, x4, x5, x6, x7].map upL) = rowT ((48 :: upL x0) :: [x1, x2, x3, x4, x5, x6, x7].map upL) := rfl
  have hp : ∀ t ∈ (48 :: upL x0) :: [x1, x2, x3, x4, x5, x6, x7].map upL, Plain6 t := by
    intro t ht
    rcases List.mem_cons.1 ht with h | h
    · rw [h]
      exact ⟨by simp, fun c hc => by
        rcases List.mem_cons.1 hc with h | h
        · rw [h]; decide
        · exact (upL_mem x0 c h).1⟩
    · exact ups_plain _ t h
  rw [e]
  refine parse_stuck _ _ (rowT_gap _ hp) (rowT_ne _ (by simp) hp) (rowT_cut _ (by simp) (fun t ht => (hp t ht).2)) (48 :: upL x0) (by simp) ?_ (strictB_plain _ (fun c hc => by
    rcases List.mem_cons.1 hc with h | h
    · rw [h]; decide
    · exact (upL_mem x0 c h).2))
  unfold hexG
  rw [if_pos (by rw [ofL_size]; simp [upL])]
theorem whole_ahead (gs : List Nat) (h8 : gs.length = 8) : parseB (ofL (58 :: rowT (gs.map upL))) = none := by
  have hc : cutL 58 (58 :: rowT (gs.map upL)) = [] :: gs.map upL := by
    show cutL 58 ([] ++ 58 :: rowT (gs.map upL)) = _
    rw [cutL_first 58 58 rfl _ _ (by simp), rowT_cut _ (ups_ne gs h8) (fun t ht => (ups_plain gs t ht).2)]
  exact parse_stuck _ _ (noGap_ahead _ (rowT_gap _ (ups_plain gs)) (rowT_head _ (ups_ne gs h8) (ups_plain gs))) (by simp) hc [] (by simp) hexG_nil strictB_nil
theorem whole_behind (gs : List Nat) (h8 : gs.length = 8) : parseB (ofL (rowT (gs.map upL) ++ [58])) = none := by
  have e : rowT (gs.map upL) ++ [58] = rowT (gs.map upL ++ [[]]) := by
    rw [rowT_snoc, if_pos (by simp [h8])]; simp
  have hc : cutL 58 (rowT (gs.map upL) ++ [58]) = gs.map upL ++ [[]] := by
    rw [e, rowT_cut _ (by simp) (fun t ht => by
      rcases List.mem_append.1 ht with h | h
      · exact (ups_plain gs t h).2
      · rw [List.mem_singleton] at h; rw [h]; simp)]
  exact parse_stuck _ _ (noGap_colon _ (rowT_gap _ (ups_plain gs)) (rowT_last _ (ups_plain gs) (ups_ne gs h8)) (rowT_ne _ (ups_ne gs h8) (ups_plain gs))) (by simp) hc [] (by simp) hexG_nil strictB_nil

/-- Two colons in place of a row of zeros. -/
theorem gaps_ok (gs : List Nat) (A K : Nat) (h8 : gs.length = 8) (hlt : ∀ x ∈ gs, x < 65536) (hAK : A < K) (hK : K ≤ 8) (hz : ∀ j, A ≤ j → j < K → gs.getD j 0 = 0) :
    parseB (ofL (rowL (gs.take A) ++ 58 :: 58 :: rowL (gs.drop K))) = some gs := by
  have lt1 : ∀ x ∈ gs.take A, x < 65536 := fun x hx => hlt x (List.mem_of_mem_take hx)
  have lt2 : ∀ x ∈ gs.drop K, x < 65536 := fun x hx => hlt x (List.mem_of_mem_drop hx)
  have hl : rowL (gs.take A) = [] ∨ ((rowL (gs.take A)).getD ((rowL (gs.take A)).length - 1) 0).toNat ≠ 58 := by
    by_cases hA : gs.take A = []
    · rw [hA]; exact .inl rfl
    · exact .inr (rowL_last _ lt1 hA)
  rw [parse_merge _ _ (rowL_gap _ lt1) hl, groupsB_row _ _ lt1, groupsB_row _ _ lt2]
  have n1 : (gs.take A).length = A := by simp; omega
  have n2 : (gs.drop K).length = 8 - K := by simp; omega
  show (if 7 < (gs.take A).length + (gs.drop K).length then none else some (gs.take A ++ List.replicate (8 - (gs.take A).length - (gs.drop K).length) 0 ++ gs.drop K)) = _
  rw [n1, n2, if_neg (by omega), show 8 - A - (8 - K) = K - A by omega, run_split gs A K h8 (by omega) hK hz]
theorem cutL_ne : ∀ l : List UInt8, cutL 58 l ≠ []
  | [] => by simp [cutL]
  | c :: l => by
    rw [cutL]
    split
    · simp
    · split <;> simp
theorem cutL_behind : ∀ (l : List UInt8), cutL 58 (l ++ [58]) = cutL 58 l ++ [[]]
  | [] => rfl
  | c :: l => by
    have ih := cutL_behind l
    have hn := cutL_ne l
    rw [List.cons_append, cutL, cutL, ih]
    split
    · rfl
    · cases h : cutL 58 l with
      | nil => exact absurd h hn
      | cons x r => rfl
theorem cutL_ahead (l : List UInt8) : cutL 58 (58 :: l) = [] :: cutL 58 l := by
  show cutL 58 ([] ++ 58 :: l) = _
  rw [cutL_first 58 58 rfl _ _ (by simp)]
theorem mergeB_none (oa : Option (List Nat)) : mergeB oa none = none := by cases oa <;> rfl
theorem rowL_ends (l : List Nat) (hlt : ∀ x ∈ l, x < 65536) : rowL l = [] ∨ ((rowL l).getD ((rowL l).length - 1) 0).toNat ≠ 58 := by
  by_cases h : l = []
  · rw [h]; exact .inl rfl
  · exact .inr (rowL_last _ hlt h)
theorem gaps_twice (a b : List Nat) (ha : ∀ x ∈ a, x < 65536) : parseB (ofL ((rowL a ++ 58 :: 58 :: rowL b) ++ [58, 58])) = none := by
  have e : (rowL a ++ 58 :: 58 :: rowL b) ++ [58, 58] = rowL a ++ 58 :: 58 :: (rowL b ++ [58] ++ [58]) := by simp
  rw [e, parse_merge _ _ (rowL_gap _ ha) (rowL_ends a ha), groups_stuck (rowL b ++ [58] ++ [58]) true _ (by simp) (cutL_behind _) [] (by simp) hexG_nil strictB_nil, mergeB_none]
theorem gaps_three (a b : List Nat) (ha : ∀ x ∈ a, x < 65536) : parseB (ofL (58 :: (rowL a ++ 58 :: 58 :: rowL b))) = none := by
  by_cases h : a = []
  · subst h
    show parseB (ofL ([] ++ 58 :: 58 :: (58 :: rowL b))) = none
    rw [parse_merge [] _ trivial (.inl rfl), groups_stuck (58 :: rowL b) true _ (by simp) (cutL_ahead _) [] (by simp) hexG_nil strictB_nil, mergeB_none]
  · have e : 58 :: (rowL a ++ 58 :: 58 :: rowL b) = (58 :: rowL a) ++ 58 :: 58 :: rowL b := rfl
    have hne := rowL_ne a h ha
    have hl : ((58 :: rowL a).getD ((58 :: rowL a).length - 1) 0).toNat ≠ 58 := by
      have := rowL_last a ha h
      have hp : 0 < (rowL a).length := List.length_pos_iff.2 hne
      rw [List.getD_eq_getElem?_getD] at this ⊢
      rw [List.length_cons, Nat.add_sub_cancel, show (rowL a).length = ((rowL a).length - 1) + 1 by omega, List.getElem?_cons_succ]
      exact this
    rw [e, parse_merge _ _ (noGap_ahead _ (rowL_gap a ha) (rowL_head a h ha)) (.inr hl), groups_stuck (58 :: rowL a) false _ (by simp) (cutL_ahead _) [] (by simp) hexG_nil strictB_nil]
    rfl

/-- A strict text's bytes. -/
def d4 (a b c d : Nat) : List UInt8 := dec a ++ 46 :: (dec b ++ 46 :: (dec c ++ 46 :: dec d))
theorem d4_plain (a b c d : Nat) : Plain6 (d4 a b c d) := ⟨by unfold d4; simp, text4_mem a b c d⟩
theorem groupL_plain (n : Nat) (h : n < 65536) : Plain6 (groupL n) := ⟨groupL_ne n h, groupL_mem n⟩
theorem ts_plain (l : List Nat) (hlt : ∀ x ∈ l, x < 65536) : ∀ t ∈ l.map groupL, Plain6 t := by
  intro t ht
  obtain ⟨x, hx, rfl⟩ := List.mem_map.1 ht
  exact groupL_plain x (hlt x hx)
theorem ts_hex (l : List Nat) (hlt : ∀ x ∈ l, x < 65536) : ∀ k (hk : k < (l.map groupL).length), hexG (ofL (l.map groupL)[k]) = some (l.getD k 0) := by
  intro k hk
  have hk2 : k < l.length := by simpa using hk
  rw [List.getElem_map, List.getD_eq_getElem?_getD, List.getElem?_eq_getElem hk2]
  exact hexG_group _ (hlt _ (List.getElem_mem _))
/-- Groups, and a strict text behind them. -/
theorem groups_dots (l : List Nat) (a b c d : Nat) (hlt : ∀ x ∈ l, x < 65536) (ha : a < 256) (hb : b < 256) (hc : c < 256) (hd : d < 256) :
    groupsB (ofL (rowT (l.map groupL ++ [d4 a b c d]))) true = some (l ++ [num4 a b c d / 65536, num4 a b c d % 65536]) := by
  have hp : ∀ t ∈ l.map groupL ++ [d4 a b c d], Plain6 t := by
    intro t ht
    rcases List.mem_append.1 ht with h | h
    · exact ts_plain l hlt t h
    · rw [List.mem_singleton] at h; rw [h]; exact d4_plain a b c d
  unfold groupsB
  rw [if_neg (by rw [ofL_size]; intro e; exact rowT_ne _ (by simp) hp (List.eq_nil_of_length_eq_zero e)), pieces_cutL, rowT_cut _ (by simp) (fun t ht => (hp t ht).2), List.length_map]
  have h1 := grTo_texts (l.map groupL) l true (by simp) (ts_hex l hlt) [d4 a b c d] l.length (by simp)
  have e : ((l.map groupL ++ [d4 a b c d]).map ofL).getD l.length ⟨#[]⟩ = text4 a b c d := by
    rw [List.getD_eq_getElem?_getD, List.getElem?_map, List.getElem?_append_right (by simp)]
    simp
    rfl
  have h2 := grTo_strict h1 (by rw [e]; exact hexG_dots a b c d ha) (by rw [e]; exact text4_strict a b c d _ ha hb hc hd rfl)
  rw [show (l.map groupL ++ [d4 a b c d]).length = l.length + 1 by simp, h2, if_pos ⟨rfl, by simp⟩, List.take_of_length_le (Nat.le_refl _)]
theorem dots_parse (l : List Nat) (a b c d : Nat) (hlt : ∀ x ∈ l, x < 65536) (ha : a < 256) (hb : b < 256) (hc : c < 256) (hd : d < 256) :
    parseB (ofL (rowT (l.map groupL ++ [d4 a b c d]))) = if l.length = 6 then some (l ++ [num4 a b c d / 65536, num4 a b c d % 65536]) else none := by
  have hp : ∀ t ∈ l.map groupL ++ [d4 a b c d], Plain6 t := by
    intro t ht
    rcases List.mem_append.1 ht with h | h
    · exact ts_plain l hlt t h
    · rw [List.mem_singleton] at h; rw [h]; exact d4_plain a b c d
  rw [parse_plain _ (rowT_gap _ hp), groups_dots l a b c d hlt ha hb hc hd]
  by_cases h : l.length = 6
  · simp [h]
  · simp [h]
theorem dots_ahead (l : List Nat) (a b c d : Nat) (h0 : l ≠ []) (hlt : ∀ x ∈ l, x < 65536) (ha : a < 256) (hb : b < 256) (hc : c < 256) (hd : d < 256) :
    parseB (ofL (rowT (d4 a b c d :: l.map groupL))) = none := by
  have hp : ∀ t ∈ d4 a b c d :: l.map groupL, Plain6 t := by
    intro t ht
    rcases List.mem_cons.1 ht with h | h
    · rw [h]; exact d4_plain a b c d
    · exact ts_plain l hlt t h
  rw [parse_plain _ (rowT_gap _ hp)]
  have hg : groupsB (ofL (rowT (d4 a b c d :: l.map groupL))) true = none := by
    unfold groupsB
    rw [if_neg (by rw [ofL_size]; intro e; exact rowT_ne _ (by simp) hp (List.eq_nil_of_length_eq_zero e)), pieces_cutL, rowT_cut _ (by simp) (fun t ht => (hp t ht).2)]
    have hl : 0 < l.length := List.length_pos_iff.2 h0
    have k1 : grTo ((d4 a b c d :: l.map groupL).map ofL) true (0 + 1) = none := by
      rw [grTo_strict (l := (d4 a b c d :: l.map groupL).map ofL) (dot := true) (k := 0) (v := num4 a b c d) (out := []) rfl (by exact hexG_dots a b c d ha) (by exact text4_strict a b c d _ ha hb hc hd rfl), if_neg (by simp; omega)]
    exact grTo_dead (by simp) k1
  rw [hg]

/-- What is printed of seven ones and a group. -/
theorem ones_run (x : Nat) : (runB [1, 1, 1, 1, 1, 1, 1, x]).2 = 0 := by
  unfold runB
  by_cases h : x = 0
  · subst h; decide
  · simp [runTo, zrun, zl, h]
theorem ones_list (x : Nat) : (printB [1, 1, 1, 1, 1, 1, 1, x]).data.toList = [49, 58, 49, 58, 49, 58, 49, 58, 49, 58, 49, 58, 49, 58] ++ groupL x := by
  have g1 : groupL 1 = [49] := by rw [groupL_one (by decide)]; decide
  have hm : mappedB [1, 1, 1, 1, 1, 1, 1, x] = false := by simp [mappedB, zer]
  unfold printB
  rw [hm, if_neg (by simp), if_pos (ones_run x), rowS_list]
  simp [rowL, g1]
theorem ones_cut (x : Nat) : (printB [1, 1, 1, 1, 1, 1, 1, x]).extract 14 (printB [1, 1, 1, 1, 1, 1, 1, x]).size = ofL (groupL x) := by
  have h : printB [1, 1, 1, 1, 1, 1, 1, x] = ofL ([49, 58, 49, 58, 49, 58, 49, 58, 49, 58, 49, 58, 49, 58] ++ groupL x) := eq_ofL (ones_list x)
  rw [h]
  apply eq_ofL
  rw [data_extract, ofL_data, ofL_size]
  simp
/-- The printed text of seven ones and a group, and what of it is cut. -/
theorem ones_text (x : Nat) (hx : x < 65536) : ∃ P : ByteArray, printB [1, 1, 1, 1, 1, 1, 1, x] = P ∧ P.extract 14 P.size = ofL (groupL x) ∧ 14 ≤ P.size ∧ P.size ≤ 1000 := by
  refine ⟨_, rfl, ones_cut x, ?_, printB_small _ rfl (by
    intro y hy
    simp at hy
    rcases hy with h | h <;> omega)⟩
  have h : printB [1, 1, 1, 1, 1, 1, 1, x] = ofL ([49, 58, 49, 58, 49, 58, 49, 58, 49, 58, 49, 58, 49, 58] ++ groupL x) := eq_ofL (ones_list x)
  rw [h, ofL_size]
  simp
end Go.Proofs.YtgbajagacmfcmaaDoor
/- How the landed Parse of layer 3 reads: a strict text at the end is spread into two groups, the text is cut at two colons, each side into its pieces: what it reads is what the reference reads. Plain facts. -/
namespace Go.Proofs.YtgbajagacmfcmaaDoor
open Go.RowKit
set_option linter.unusedVariables false
set_option maxRecDepth 20000

theorem eq58 {c : UInt8} (h : c.toNat = 58) : c = 58 := UInt8.toNat_inj.1 (h.trans rfl)

/-- What stands up to the last colon, and what behind it. -/
def tl : List UInt8 → List UInt8 × List UInt8
  | [] => ([], [])
  | c :: l => if (tl l).1 = [] then (if c.toNat = 58 then ([c], (tl l).2) else ([], c :: (tl l).2)) else (c :: (tl l).1, (tl l).2)
theorem tl_mid : ∀ a l : List UInt8, tl (a ++ 58 :: l) = (a ++ 58 :: (tl l).1, (tl l).2)
  | [], l => by
    rw [List.nil_append, tl]
    split
    · rename_i h
      rw [if_pos (show (58 : UInt8).toNat = 58 from rfl), h]
      rfl
    · rfl
  | c :: a, l => by
    rw [List.cons_append, tl, tl_mid a l, if_neg (by simp)]
    rfl
theorem tl_plain : ∀ l : List UInt8, (∀ c ∈ l, c.toNat ≠ 58) → tl l = ([], l)
  | [], _ => rfl
  | c :: l, h => by
    rw [tl, tl_plain l (fun x hx => h x (by simp [hx])), if_pos rfl, if_neg (h c (by simp))]
theorem tl_join : ∀ l : List UInt8, (tl l).1 ++ (tl l).2 = l
  | [] => rfl
  | c :: l => by
    have ih := tl_join l
    rw [tl]
    split
    · rename_i h
      rw [h] at ih
      split
      · simpa using ih
      · simpa using ih
    · simp [ih]
theorem tl_free : ∀ l : List UInt8, ∀ c ∈ (tl l).2, c.toNat ≠ 58
  | [], c, h => by simp [tl] at h
  | x :: l, c, h => by
    have ih := tl_free l
    rw [tl] at h
    split at h
    · split at h
      · exact ih c h
      · rename_i h2
        rcases List.mem_cons.1 h with h | h
        · rw [h]; exact h2
        · exact ih c h
    · exact ih c h
theorem tl_ends : ∀ l : List UInt8, (tl l).1 = [] ∨ ∃ h, (tl l).1 = h ++ [58]
  | [] => .inl rfl
  | x :: l => by
    have ih := tl_ends l
    rw [tl]
    split
    · split
      · rename_i h
        exact .inr ⟨[], by rw [eq58 h]; rfl⟩
      · exact .inl rfl
    · rename_i h
      rcases ih with ih | ⟨g, ih⟩
      · exact absurd ih h
      · exact .inr ⟨x :: g, by rw [ih]; rfl⟩

/-- A strict text at the end, spread into two groups. -/
def spreadL (l : List UInt8) : List UInt8 :=
  match strictB (ofL (tl l).2) with
  | none => l
  | some n => (tl l).1 ++ (groupL (n / 65536) ++ 58 :: groupL (n % 65536))
theorem spreadL_none {l : List UInt8} (h : strictB (ofL (tl l).2) = none) : spreadL l = l := by unfold spreadL; rw [h]
theorem spreadL_some {l : List UInt8} {n : Nat} (h : strictB (ofL (tl l).2) = some n) : spreadL l = (tl l).1 ++ (groupL (n / 65536) ++ 58 :: groupL (n % 65536)) := by unfold spreadL; rw [h]
theorem spreadL_mid (a l : List UInt8) : spreadL (a ++ 58 :: l) = a ++ 58 :: spreadL l := by
  have e := tl_mid a l
  cases h : strictB (ofL (tl l).2) with
  | none => rw [spreadL_none h, spreadL_none (by rw [e]; exact h)]
  | some n =>
    rw [spreadL_some h, spreadL_some (n := n) (by rw [e]; exact h), e]
    simp
theorem spreadL_nil : spreadL [] = [] := spreadL_none strictB_nil
theorem spreadL_plain {l : List UInt8} (h : ∀ c ∈ l, c.toNat ≠ 58) : spreadL l = l ∨ ∃ n, n < 4294967296 ∧ spreadL l = groupL (n / 65536) ++ 58 :: groupL (n % 65536) := by
  have e := tl_plain l h
  cases hs : strictB (ofL (tl l).2) with
  | none => exact .inl (spreadL_none hs)
  | some n => exact .inr ⟨n, strictB_lt _ _ hs, by rw [spreadL_some hs, e]; rfl⟩

/-- Every text: no colon, or a first one. -/
theorem colon_first : ∀ l : List UInt8, (∀ c ∈ l, c.toNat ≠ 58) ∨ ∃ a b, l = a ++ 58 :: b ∧ ∀ c ∈ a, c.toNat ≠ 58
  | [] => .inl (by simp)
  | x :: l => by
    by_cases hx : x.toNat = 58
    · exact .inr ⟨[], l, by rw [eq58 hx]; rfl, by simp⟩
    · rcases colon_first l with h | ⟨a, b, rfl, h⟩
      · exact .inl (fun c hc => by rcases List.mem_cons.1 hc with hc | hc; · rw [hc]; exact hx
                                   · exact h c hc)
      · exact .inr ⟨x :: a, b, rfl, fun c hc => by rcases List.mem_cons.1 hc with hc | hc; · rw [hc]; exact hx
                                                   · exact h c hc⟩
/-- Every text: no two colons, or first ones. -/
theorem gap_first : ∀ l : List UInt8, noGap l ∨ ∃ a b, l = a ++ 58 :: 58 :: b ∧ noGap a ∧ (a = [] ∨ (a.getD (a.length - 1) 0).toNat ≠ 58)
  | [] => .inl trivial
  | [x] => .inl trivial
  | x :: y :: r => by
    by_cases h : x.toNat = 58 ∧ y.toNat = 58
    · exact .inr ⟨[], r, by rw [eq58 h.1, eq58 h.2]; rfl, trivial, .inl rfl⟩
    · rcases gap_first (y :: r) with hg | ⟨a, b, e, hg, hl⟩
      · exact .inl ⟨h, hg⟩
      · refine .inr ⟨x :: a, b, by rw [e]; rfl, ?_, ?_⟩
        · cases a with
          | nil => exact trivial
          | cons z t =>
            have e2 : y = z := by simpa using (List.cons.inj e).1
            exact ⟨by rw [← e2]; exact h, hg⟩
        · right
          cases a with
          | nil =>
            have e2 : y = 58 := by simpa using (List.cons.inj e).1
            simp
            intro hx
            exact h ⟨hx, by rw [e2]; rfl⟩
          | cons z t =>
            rcases hl with hl | hl
            · cases hl
            · simpa using hl
theorem noGap_tail {x : UInt8} {l : List UInt8} (h : noGap (x :: l)) : noGap l := by
  cases l with
  | nil => trivial
  | cons y r => exact h.2
theorem noGap_right : ∀ (a : List UInt8) {l : List UInt8}, noGap (a ++ l) → noGap l
  | [], l, h => h
  | x :: a, l, h => noGap_right a (noGap_tail h)
theorem spreadL_head {c : UInt8} {r : List UInt8} (h : c.toNat ≠ 58) : ∃ d q, spreadL (c :: r) = d :: q ∧ d.toNat ≠ 58 := by
  rcases colon_first (c :: r) with hp | ⟨a, b, e, ha⟩
  · rcases spreadL_plain hp with e | ⟨n, hn, e⟩
    · exact ⟨c, r, e, h⟩
    · obtain ⟨d, q, e2, hd⟩ : ∃ d q, groupL (n / 65536) = d :: q ∧ d.toNat ≠ 58 := by
        cases hq : groupL (n / 65536) with
        | nil => exact absurd hq (groupL_ne _ (by omega))
        | cons d q => exact ⟨d, q, rfl, groupL_mem _ d (by rw [hq]; simp)⟩
      exact ⟨d, q ++ 58 :: groupL (n % 65536), by rw [e, e2]; rfl, hd⟩
  · rw [e, spreadL_mid]
    cases a with
    | nil =>
      have e2 : c = 58 := by simpa using (List.cons.inj e).1
      exact absurd (by rw [e2]; rfl) h
    | cons z t => exact ⟨z, t ++ 58 :: spreadL b, rfl, ha z (by simp)⟩
/-- A text ahead of a colon that is none, another that begins with none or is empty. -/
theorem noGap_mid : ∀ (a b : List UInt8), (∀ c ∈ a, c.toNat ≠ 58) → noGap b → (b = [] ∨ ∃ c r, b = c :: r ∧ c.toNat ≠ 58) → noGap (a ++ 58 :: b)
  | [], b, _, hb, h => by
    rcases h with rfl | ⟨c, r, rfl, hc⟩
    · trivial
    · exact ⟨fun h => hc h.2, hb⟩
  | [x], b, ha, hb, h => ⟨fun h2 => ha x (by simp) h2.1, noGap_mid [] b (by simp) hb h⟩
  | x :: y :: r, b, ha, hb, h => ⟨fun h2 => ha x (by simp) h2.1, noGap_mid (y :: r) b (fun c hc => ha c (by simp [hc])) hb h⟩
theorem spreadL_gap : ∀ (n : Nat) (l : List UInt8), l.length ≤ n → noGap l → noGap (spreadL l) := by
  intro n
  induction n with
  | zero =>
    intro l hl hg
    have : l = [] := List.eq_nil_of_length_eq_zero (by omega)
    subst this
    rw [spreadL_nil]; trivial
  | succ n ih =>
    intro l hl hg
    rcases colon_first l with hp | ⟨a, b, rfl, ha⟩
    · rcases spreadL_plain hp with e | ⟨m, hm, e⟩
      · rw [e]; exact hg
      · rw [e]
        refine noGap_mid _ _ (groupL_mem _) (noGap_plain _ (groupL_mem _)) (.inr ?_)
        cases hq : groupL (m % 65536) with
        | nil => exact absurd hq (groupL_ne _ (by omega))
        | cons d q => exact ⟨d, q, rfl, groupL_mem _ d (by rw [hq]; simp)⟩
    · rw [spreadL_mid]
      have hb2 := noGap_right a hg
      have hb := noGap_tail hb2
      refine noGap_mid a _ ha (ih b (by simp at hl; omega) hb) ?_
      cases b with
      | nil => exact .inl spreadL_nil
      | cons c r => exact .inr (spreadL_head (fun hc => hb2.1 ⟨rfl, hc⟩))

theorem prefix2 (x y : UInt8) (r : List UInt8) : ([58, 58] : List UInt8).isPrefixOf (x :: y :: r) = decide (x.toNat = 58 ∧ y.toNat = 58) := by
  rw [Bool.eq_iff_iff]
  simp only [List.isPrefixOf, Bool.and_eq_true, beq_iff_eq, decide_eq_true_eq, and_true]
  constructor
  · rintro ⟨rfl, rfl⟩; exact ⟨rfl, rfl⟩
  · rintro ⟨h1, h2⟩; exact ⟨(eq58 h1).symm, (eq58 h2).symm⟩
theorem index_noGap : ∀ l : List UInt8, noGap l → Lib.index l [58, 58] = -1
  | [], _ => rfl
  | [x], _ => by
    simp [Lib.index, List.isPrefixOf]
  | x :: y :: r, h => by
    rw [Lib.index, prefix2, decide_eq_false h.1, index_noGap (y :: r) h.2]
    rfl
theorem index_gap : ∀ (a b : List UInt8), noGap a → (a = [] ∨ (a.getD (a.length - 1) 0).toNat ≠ 58) → Lib.index (a ++ 58 :: 58 :: b) [58, 58] = a.length
  | [], b, _, _ => by
    rw [List.nil_append, Lib.index, prefix2]
    rfl
  | [x], b, _, hl => by
    have hx : x.toNat ≠ 58 := by simpa using hl
    have ih := index_gap [] b trivial (.inl rfl)
    rw [List.nil_append] at ih
    show Lib.index (x :: 58 :: 58 :: b) [58, 58] = _
    rw [Lib.index, prefix2, decide_eq_false (fun h => hx h.1), ih]
    rfl
  | x :: y :: r, b, hg, hl => by
    have ih := index_gap (y :: r) b hg.2 (.inr (by simpa using hl))
    show Lib.index (x :: y :: (r ++ 58 :: 58 :: b)) [58, 58] = _
    rw [Lib.index, prefix2, decide_eq_false hg.1]
    rw [show y :: (r ++ 58 :: 58 :: b) = (y :: r) ++ 58 :: 58 :: b from rfl, ih]
    have : (((y :: r).length : Int) == -1) = false := by rw [beq_eq_false_iff_ne]; omega
    rw [this]
    simp
theorem cut_noGap (l : List UInt8) (h : noGap l) : Lib.cut l [58, 58] = (l, [], false) := by
  unfold Lib.cut
  rw [index_noGap l h, if_neg (by decide)]
theorem cut_gap (a b : List UInt8) (h : noGap a) (hl : a = [] ∨ (a.getD (a.length - 1) 0).toNat ≠ 58) : Lib.cut (a ++ 58 :: 58 :: b) [58, 58] = (a, b, true) := by
  unfold Lib.cut
  rw [index_gap a b h hl, if_pos (by omega)]
  have e : a ++ 58 :: 58 :: b = (a ++ [58, 58]) ++ b := by simp
  refine Prod.ext ?_ (Prod.ext ?_ rfl)
  · simp
  · show List.drop ((a.length : Int).toNat + 2) (a ++ 58 :: 58 :: b) = b
    rw [e, List.drop_append_of_le_length (by simp), List.drop_of_length_le (by simp)]
    rfl

theorem cutL_mid : ∀ a b : List UInt8, cutL 58 (a ++ 58 :: b) = cutL 58 a ++ cutL 58 b
  | [], b => by
    show cutL 58 (58 :: b) = [] :: cutL 58 b
    rw [cutL, if_pos (show (58 : UInt8).toNat = 58 from rfl)]
  | c :: a, b => by
    rw [List.cons_append, cutL, cutL, cutL_mid a b]
    by_cases hc : c.toNat = 58
    · rw [if_pos hc, if_pos hc]; rfl
    · rw [if_neg hc, if_neg hc]
      cases h : cutL 58 a with
      | nil => exact absurd h (cutL_ne a)
      | cons x r => rfl
/-- The pieces of a text: those ahead, and those of what stands behind the last colon. -/
theorem cut_tl (l : List UInt8) : ∃ I : List (List UInt8), ∀ t, cutL 58 ((tl l).1 ++ t) = I ++ cutL 58 t := by
  rcases tl_ends l with h | ⟨g, h⟩
  · exact ⟨[], fun t => by rw [h]; rfl⟩
  · exact ⟨cutL 58 g, fun t => by rw [h, List.append_assoc]; exact cutL_mid g t⟩

def sideL (l : List UInt8) : List ByteArray := if l = [] then [] else (cutL 58 l).map ofL
theorem grTo_front (a x : List ByteArray) (dot : Bool) (hx : x ≠ [] ∨ dot = false) : ∀ k, k ≤ a.length → grTo (a ++ x) dot k = grTo a false k
  | 0, _ => rfl
  | k + 1, hk => by
    have e : (a ++ x).getD k ⟨#[]⟩ = a.getD k ⟨#[]⟩ := by
      rw [List.getD_eq_getElem?_getD, List.getD_eq_getElem?_getD, List.getElem?_append_left (by omega)]
    have hc : ¬ (dot = true ∧ ¬ k + 1 < (a ++ x).length) := by
      rintro ⟨h1, h2⟩
      rcases hx with hx | hx
      · have := List.length_pos_iff.2 hx
        rw [List.length_append] at h2
        omega
      · rw [hx] at h1; cases h1
    rw [grTo, grTo, grTo_front a x dot hx k (by omega), e]
    cases grTo a false k with
    | none => rfl
    | some out =>
      simp only []
      cases hexG (a.getD k ⟨#[]⟩) with
      | some v => rfl
      | none =>
        simp only []
        cases strictB (a.getD k ⟨#[]⟩) with
        | none => rfl
        | some v => simp only []; rw [if_neg hc, if_neg (by simp)]
theorem grTo_false (l : List ByteArray) (k : Nat) : grTo l false (k + 1) = match grTo l false k with
    | none => none
    | some out => match hexG (l.getD k ⟨#[]⟩) with
      | some v => some (out ++ [v])
      | none => none := by
  rw [grTo]
  cases grTo l false k with
  | none => rfl
  | some out =>
    simp only []
    cases hexG (l.getD k ⟨#[]⟩) with
    | some v => rfl
    | none =>
      simp only []
      cases strictB (l.getD k ⟨#[]⟩) with
      | none => rfl
      | some v => simp only []; rw [if_neg (by simp)]
def both (a b : Option (List Nat)) : Option (List Nat) :=
  match a, b with
  | some u, some v => some (u ++ v)
  | _, _ => none
theorem grTo_behind (a b : List ByteArray) : ∀ k, grTo (a ++ b) false (a.length + k) = both (grTo a false a.length) (grTo b false k)
  | 0 => by
    rw [Nat.add_zero, grTo_front a b false (.inr rfl) _ (Nat.le_refl _), grTo]
    cases grTo a false a.length with
    | none => rfl
    | some u => simp [both]
  | k + 1 => by
    have e : (a ++ b).getD (a.length + k) ⟨#[]⟩ = b.getD k ⟨#[]⟩ := by
      rw [List.getD_eq_getElem?_getD, List.getD_eq_getElem?_getD, List.getElem?_append_right (by omega), Nat.add_sub_cancel_left]
    rw [← Nat.add_assoc, grTo_false, grTo_behind a b k, grTo_false b k, e]
    cases grTo a false a.length with
    | none => rfl
    | some u =>
      cases grTo b false k with
      | none => rfl
      | some v =>
        simp only [both]
        cases hexG (b.getD k ⟨#[]⟩) with
        | none => rfl
        | some x => simp
theorem grTo_len (l : List ByteArray) : ∀ k out, grTo l false k = some out → out.length = k
  | 0, out, h => by
    have := Option.some.inj h
    subst this
    rfl
  | k + 1, out, h => by
    rw [grTo_false] at h
    cases hk : grTo l false k with
    | none => rw [hk] at h; cases h
    | some u =>
      have ih := grTo_len l k u hk
      rw [hk] at h
      simp only [] at h
      cases hx : hexG (l.getD k ⟨#[]⟩) with
      | none => rw [hx] at h; cases h
      | some v =>
        rw [hx] at h
        have := Option.some.inj h
        subst this
        simp [ih]
/-- A strict text is no group. -/
theorem strict_hex (t : List UInt8) (n : Nat) (h : strictB (ofL t) = some n) : hexG (ofL t) = none := by
  by_cases hd : ∀ c ∈ t, c.toNat ≠ 46
  · rw [strictB_plain t hd] at h; cases h
  · have : ∃ c ∈ t, c.toNat = 46 := by
      refine Classical.byContradiction fun hn => hd fun c hc h2 => hn ⟨c, hc, h2⟩
    obtain ⟨c, hc, h2⟩ := this
    obtain ⟨j, hj, rfl⟩ := List.getElem_of_mem hc
    unfold hexG
    split
    · rfl
    · apply num_bad0 _ 16 j
      · rw [ofL_size]; exact hj
      · rw [byteOf_ofL, List.getD_eq_getElem?_getD, List.getElem?_eq_getElem hj]
        show 16 ≤ digC (t[j]).toNat
        rw [h2]
        decide
theorem groupsB_false (l : List UInt8) : groupsB (ofL l) false = grTo (sideL l) false (sideL l).length := by
  unfold groupsB sideL
  rw [ofL_size, pieces_ofL]
  by_cases h : l = []
  · subst h; rfl
  · rw [if_neg (by intro e; exact h (List.eq_nil_of_length_eq_zero e)), if_neg h]
theorem groups_spread (l : List UInt8) : groupsB (ofL l) true = grTo (sideL (spreadL l)) false (sideL (spreadL l)).length := by
  by_cases h : l = []
  · subst h
    rw [spreadL_nil]
    rfl
  · obtain ⟨I, hI⟩ := cut_tl l
    have e1 : cutL 58 l = I ++ [(tl l).2] := by
      have := hI (tl l).2
      rw [tl_join, cutL_none 58 _ (tl_free l)] at this
      exact this
    have e0 : groupsB (ofL l) true = grTo (I.map ofL ++ [ofL (tl l).2]) true ((I.map ofL).length + 1) := by
      unfold groupsB
      rw [ofL_size, pieces_ofL, if_neg (by intro e; exact h (List.eq_nil_of_length_eq_zero e)), e1, List.map_append, List.length_append]
      rfl
    have eD : (I.map ofL ++ [ofL (tl l).2]).getD (I.map ofL).length ⟨#[]⟩ = ofL (tl l).2 := by
      rw [List.getD_eq_getElem?_getD, List.getElem?_append_right (Nat.le_refl _), Nat.sub_self]; rfl
    have eF := grTo_front (I.map ofL) [ofL (tl l).2] true (.inl (by simp)) _ (Nat.le_refl _)
    rw [e0]
    cases hs : strictB (ofL (tl l).2) with
    | none =>
      rw [spreadL_none hs]
      have e2 : sideL l = I.map ofL ++ [ofL (tl l).2] := by
        unfold sideL
        rw [if_neg h, e1, List.map_append]; rfl
      rw [e2, List.length_append]
      show _ = grTo _ false ((I.map ofL).length + 1)
      rw [grTo_behind, grTo, eF, eD]
      cases grTo (I.map ofL) false (I.map ofL).length with
      | none => rfl
      | some u =>
        simp only [hs]
        rw [grTo_false]
        show _ = both (some u) (match some [] with | none => none | some out => match hexG (ofL (tl l).2) with | some v => some (out ++ [v]) | none => none)
        cases hexG (ofL (tl l).2) with
        | none => rfl
        | some v => rfl
    | some n =>
      have hn := strictB_lt _ _ hs
      have hne : spreadL l ≠ [] := by
        rw [spreadL_some hs]; simp
      have e2 : sideL (spreadL l) = I.map ofL ++ [gS (n / 65536), gS (n % 65536)] := by
        unfold sideL
        rw [if_neg hne, spreadL_some hs, hI, cutL_first 58 58 rfl _ _ (groupL_mem _), cutL_none 58 _ (groupL_mem _), List.map_append]
        rfl
      rw [e2, List.length_append]
      show _ = grTo _ false ((I.map ofL).length + 2)
      have e3 : grTo [gS (n / 65536), gS (n % 65536)] false 2 = some [n / 65536, n % 65536] := by
        rw [grTo_false, grTo_false]
        show (match (match some [] with | none => none | some out => match hexG (gS (n / 65536)) with | some v => some (out ++ [v]) | none => none) with | none => none | some out => match hexG (gS (n % 65536)) with | some v => some (out ++ [v]) | none => none) = _
        rw [hexG_group _ (by omega), hexG_group _ (by omega)]
        rfl
      rw [grTo_behind, e3, grTo, eF, eD]
      cases grTo (I.map ofL) false (I.map ofL).length with
      | none => rfl
      | some u =>
        simp only [hs, strict_hex _ _ hs]
        rw [if_pos (by simp)]
        rfl

def zeroS : ByteArray := { data := #[48] }
theorem hexG_zeroS : hexG zeroS = some 0 := by decide
theorem grTo_zeros (m : Nat) : ∀ k, k ≤ m → grTo (List.replicate m zeroS) false k = some (List.replicate k 0)
  | 0, _ => rfl
  | k + 1, hk => by
    have e : (List.replicate m zeroS).getD k ⟨#[]⟩ = zeroS := by
      rw [List.getD_eq_getElem?_getD, List.getElem?_eq_getElem (by simp; omega)]
      simp
    rw [grTo_false, grTo_zeros m k (by omega), e, hexG_zeroS]
    simp only []
    rw [← List.replicate_succ']
def placesL (l : List UInt8) : Option (List ByteArray) :=
  if 8 < (sideL (Lib.cut l [58, 58]).1).length + (sideL (Lib.cut l [58, 58]).2.1).length ∨ (Lib.cut l [58, 58]).2.2 ≠ decide ((sideL (Lib.cut l [58, 58]).1).length + (sideL (Lib.cut l [58, 58]).2.1).length < 8) then none
  else some (sideL (Lib.cut l [58, 58]).1 ++ List.replicate (8 - (sideL (Lib.cut l [58, 58]).1).length - (sideL (Lib.cut l [58, 58]).2.1).length) zeroS ++ sideL (Lib.cut l [58, 58]).2.1)
def ownL (l : List UInt8) : Option (List Nat) :=
  match placesL (spreadL l) with
  | none => none
  | some p => grTo p false 8
/-- What the landed Parse reads is what the reference reads. -/
theorem own_parse (l : List UInt8) : ownL l = parseB (ofL l) := by
  unfold ownL placesL
  rcases gap_first l with hg | ⟨a, b, rfl, hg, hl⟩
  · have hc := cut_noGap _ (spreadL_gap l.length l (Nat.le_refl _) hg)
    rw [parse_plain l hg, groups_spread, hc]
    generalize sideL (spreadL l) = A
    have e : sideL [] = [] := rfl
    simp only [e, List.length_nil, Nat.add_zero, List.append_nil, Nat.sub_zero]
    by_cases h8 : A.length = 8
    · rw [h8]
      simp only [Nat.lt_irrefl, Nat.sub_self, List.replicate_zero, List.append_nil, decide_false, ne_eq, not_true_eq_false, or_self, if_false]
      cases h : grTo A false 8 with
      | none => rfl
      | some g => simp only []; rw [if_pos (grTo_len _ _ _ h)]
    · have : (8 < A.length ∨ false ≠ decide (A.length < 8)) := by
        by_cases h : A.length < 8
        · right; rw [decide_eq_true h]; simp
        · left; omega
      rw [if_pos this]
      cases h : grTo A false A.length with
      | none => rfl
      | some g => simp only []; rw [if_neg (by rw [grTo_len _ _ _ h]; exact h8)]
  · have e : spreadL (a ++ 58 :: 58 :: b) = a ++ 58 :: 58 :: spreadL b := by
      rw [spreadL_mid a (58 :: b), show (58 : UInt8) :: b = [] ++ 58 :: b from rfl, spreadL_mid]
      rfl
    rw [parse_merge a b hg hl, groupsB_false, groups_spread b, e, cut_gap a _ hg hl]
    simp only []
    generalize sideL a = A
    generalize sideL (spreadL b) = B
    by_cases h7 : A.length + B.length < 8
    · rw [if_neg (by rw [decide_eq_true h7]; simp; omega)]
      have e8 : grTo (A ++ List.replicate (8 - A.length - B.length) zeroS ++ B) false 8 = both (both (grTo A false A.length) (some (List.replicate (8 - A.length - B.length) 0))) (grTo B false B.length) := by
        have h1 := grTo_behind A (List.replicate (8 - A.length - B.length) zeroS) (8 - A.length - B.length)
        have h2 := grTo_behind (A ++ List.replicate (8 - A.length - B.length) zeroS) B B.length
        have h3 : (A ++ List.replicate (8 - A.length - B.length) zeroS).length = A.length + (8 - A.length - B.length) := by simp
        rw [h3, h1, grTo_zeros _ _ (Nat.le_refl _), show A.length + (8 - A.length - B.length) + B.length = 8 by omega] at h2
        exact h2
      simp only []
      rw [e8]
      cases hA : grTo A false A.length with
      | none => rfl
      | some u =>
        cases hB : grTo B false B.length with
        | none => rfl
        | some v =>
          have l1 := grTo_len _ _ _ hA
          have l2 := grTo_len _ _ _ hB
          show some (u ++ _ ++ v) = mergeB (some u) (some v)
          unfold mergeB
          simp only []
          rw [l1, l2, if_neg (by omega)]
    · rw [if_pos (by right; rw [decide_eq_false h7]; simp)]
      cases hA : grTo A false A.length with
      | none => rfl
      | some u =>
        cases hB : grTo B false B.length with
        | none => rfl
        | some v =>
          have l1 := grTo_len _ _ _ hA
          have l2 := grTo_len _ _ _ hB
          show none = mergeB (some u) (some v)
          unfold mergeB
          simp only []
          rw [l1, l2, if_pos (by omega)]

/-- Where the last colon stands, in the library's words. -/
theorem tl_last (s : ByteArray) : Lib.lastIndexByte s 58 + 1 = ((tl s.data.toList).1.length : Int) := by
  have get : ∀ j (hj : j < s.data.toList.length), s.data[j]! = s.data.toList[j] := by
    intro j hj
    rw [getElem!_pos s.data j (by simpa using hj)]
    rfl
  rcases Lib.lastIndexByte_spec s 58 with ⟨h, hn⟩ | ⟨i, hi, h, hc, hn⟩
  · rw [h, tl_plain]
    · rfl
    · intro c hc
      obtain ⟨j, hj, rfl⟩ := List.getElem_of_mem hc
      have := hn j (by simpa using hj)
      rw [get j hj] at this
      intro h2
      apply this
      rw [h2]
      rfl
  · have hi' : i < s.data.toList.length := by simpa using hi
    have e : s.data.toList = s.data.toList.take i ++ 58 :: s.data.toList.drop (i + 1) := by
      have e1 : s.data.toList[i] = 58 := by
        apply eq58
        rw [get i hi'] at hc
        omega
      rw [← e1, ← List.drop_eq_getElem_cons hi', List.take_append_drop]
    have hp : tl (s.data.toList.drop (i + 1)) = ([], s.data.toList.drop (i + 1)) := by
      apply tl_plain
      intro c hc2
      obtain ⟨j, hj, rfl⟩ := List.getElem_of_mem hc2
      have hj2 : i + 1 + j < s.data.toList.length := by simp at hj ⊢; omega
      have := hn (i + 1 + j) (by omega) (by simpa using hj2)
      rw [get _ hj2] at this
      intro h2
      apply this
      simp at h2
      simp [h2]
    have e3 : (tl s.data.toList).1 = s.data.toList.take i ++ [58] := by
      conv => lhs; rw [e, tl_mid, hp]
    rw [h, e3]
    simp
    simp at hi'
    omega
theorem spread_first (s : ByteArray) : s.extract 0 (tl s.data.toList).1.length = ofL (tl s.data.toList).1 := eq_ofL (by
  obtain ⟨h, t, e, e1⟩ : ∃ h t, s.data.toList = h ++ t ∧ (tl s.data.toList).1 = h := ⟨_, _, (tl_join _).symm, rfl⟩
  rw [e1, data_extract, e]
  simp)
theorem spread_last (s : ByteArray) : s.extract (tl s.data.toList).1.length s.size = ofL (tl s.data.toList).2 := eq_ofL (by
  obtain ⟨h, t, e, e1, e2⟩ : ∃ h t, s.data.toList = h ++ t ∧ (tl s.data.toList).1 = h ∧ (tl s.data.toList).2 = t := ⟨_, _, (tl_join _).symm, rfl, rfl⟩
  have hl : s.size = h.length + t.length := by
    have := congrArg List.length e
    rw [List.length_append] at this
    rw [← this]
    simp
  rw [e1, e2, data_extract, e, List.drop_left, hl, Nat.add_sub_cancel_left, List.take_of_length_le (Nat.le_refl _)])
theorem spread_le (s : ByteArray) : (tl s.data.toList).1.length ≤ s.size := by
  have := congrArg List.length (tl_join s.data.toList)
  rw [List.length_append] at this
  have h2 : s.data.toList.length = s.size := by simp
  omega
end Go.Proofs.YtgbajagacmfcmaaDoor
/- Contracts of six.pieces, six.group and six.spread. -/
namespace Go.Proofs.YtgbajagacmfcmaaDoor
open Go.RowKit
set_option linter.unusedVariables false
set_option maxRecDepth 20000

/-- A row of texts, as a walk reads it; it may be nil. -/
structure SideRow (w : World) (B : Nat) (p : Option Addr) (n c : Nat) (l : List ByteArray) : Prop where
  len : l.length = n
  cap : n ≤ c
  capm : c ≤ maxLen
  lies : n = 0 ∨ ∃ g, p = some ⟨g, 0, none⟩ ∧ B ≤ g ∧ g < w.heap.size ∧ ∀ i, i < n → w.cell? ⟨g, i, none⟩ = some (.string (l.getD i ⟨#[]⟩))
theorem SideRow.below {w w' : World} {B n c : Nat} {p : Option Addr} {l : List ByteArray} (h : SideRow w B p n c l) (hb : Below w.heap.size w w') : SideRow w' B p n c l :=
  ⟨h.len, h.cap, h.capm, h.lies.imp id fun ⟨g, e, hB, hg, hc⟩ => ⟨g, e, hB, Nat.lt_of_lt_of_le hg hb.size, fun i hi => by rw [hb.cell (p := ⟨g, i, none⟩) hg]; exact hc i hi⟩⟩
theorem sideL_eq (s : ByteArray) : sideL s.data.toList = if s.size = 0 then [] else pieces s 58 := by
  unfold sideL
  rw [pieces_cut]
  have hl : s.data.toList.length = s.size := by simp
  by_cases h : s.size = 0
  · rw [if_pos h, if_pos (List.eq_nil_of_length_eq_zero (hl.trans h))]
  · rw [if_neg h, if_neg (fun e => h (by rw [← hl, e]; rfl))]
theorem sideL_small (s : ByteArray) : ∀ p ∈ sideL s.data.toList, p.size ≤ s.size := by
  rw [sideL_eq]
  split
  · simp
  · exact pieces_small s 58
theorem sideL_len (s : ByteArray) : (sideL s.data.toList).length ≤ s.size + 1 := by
  rw [sideL_eq]
  split
  · simp
  · exact pieces_len s 58

set_option maxHeartbeats 400000 in
theorem sidePieces_any (s : ByteArray) (w : World) (hs : s.size ≤ 1000000) :
    Calls Tryd.prog 95 #[.string s] w fun e w' => ∃ p c, e = .returned (.slice p (sideL s.data.toList).length c) ∧ SideRow w' w.heap.size p (sideL s.data.toList).length c (sideL s.data.toList) ∧ Below w.heap.size w w' := by
  rw [sideL_eq]
  by_cases h0 : s.size = 0
  · rw [if_pos h0]
    have hE := isEmpty_true s h0
    have hE2 : s.toList = [] := by simpa using hE
    clear h0
    go_enter Tryd.func95, Tryd.ntmps95
    go_wp2_with fail
    go_ret
    exact ⟨none, 0, rfl, ⟨rfl, Nat.le_refl _, Nat.zero_le _, .inl rfl⟩, Below.refl _ _⟩
  · rw [if_neg h0]
    have hE := isEmpty_false s (by omega)
    go_enter Tryd.func95, Tryd.ntmps95
    go_wp2_with fail
    refine (split_row s 58 _ hs).mono ?_
    rintro e w1 ⟨g, c, rfl, hg, hr, hb⟩
    have HR := Lib.hid hr
    clear hr
    go_wp2_with fail
    go_ret
    exact ⟨some ⟨g, 0, none⟩, c, rfl, ⟨rfl, HR.out.cap, HR.out.capm, .inr ⟨g, rfl, hg, HR.out.lt, HR.out.cells⟩⟩, hb⟩

def groupRet (o : Option Nat) : Value := .tuple #[.int .u16 ((o.getD 0 : Nat) : Int), .bool o.isSome]
set_option maxHeartbeats 400000 in
theorem sixGroup_any (s : ByteArray) (w : World) (hs : s.size ≤ 1000000) :
    Calls Tryd.prog 89 #[.string s] w fun e w' => e = .returned (groupRet (hexG s)) ∧ Below w.heap.size w w' := by
  by_cases h4 : 4 < s.size
  · have HG : Hid (hexG s = none) := Lib.hid (by unfold hexG; rw [if_pos h4])
    go_enter Tryd.func89, Tryd.ntmps89
    go_wp2_with fail
    go_ret2
    exact ⟨by rw [HG.out]; rfl, Below.refl _ _⟩
  · have HG : Hid (hexG s = numB s 16) := Lib.hid (by unfold hexG; rw [if_neg h4])
    have hlt := fun n h => hexG_lt s n h
    rw [HG.out] at hlt
    have hw : IntKind.u16.wrap ((((numB s 16).getD 0 : Nat)) : Int) = (((numB s 16).getD 0 : Nat) : Int) := by
      rw [IntKind.wrap_u16]
      cases h : numB s 16 with
      | none => rfl
      | some n => have := hlt n h; show (n : Int) % 65536 = (n : Int); omega
    clear hlt
    go_enter Tryd.func89, Tryd.ntmps89
    go_wp2_with fail
    refine (number_any s 16 _ hs (.inr (.inr rfl))).mono ?_
    rintro e w1 ⟨rfl, hb⟩
    unfold numRet
    generalize (numB s 16) = o at *
    generalize hn : o.getD 0 = n at *
    generalize hi : o.isSome = b at *
    have HN := Lib.hid hn
    have HI := Lib.hid hi
    clear hn hi
    go_wp2_with fail
    go_ret2
    exact ⟨by rw [HG.out]; unfold groupRet; rw [HN.out, HI.out]; rfl, by first | exact hb | (subst hb; exact Below.refl _ _)⟩

/-- What a group's digits are, at whatever spelling of the number. -/
def DigFact (z : Int) (X : ByteArray) : Prop := ∃ n : Nat, z = (n : Int) ∧ n < 65536 ∧ gS n = X
theorem dig_held (z : Int) (X : ByteArray) (W w : World) (h : Hid (DigFact z X)) (hA : Hid (BruIs w ∧ Below W.heap.size W w)) :
    Calls Tryd.prog 96 #[.int .u16 z] w fun e w' => e = .returned (.string X) ∧ Hid (BruIs w' ∧ Below W.heap.size W w') := by
  obtain ⟨n, rfl, hn, rfl⟩ := h.out
  refine (digits_any n w hn hA.out.1).mono ?_
  rintro e w' ⟨rfl, hb⟩
  exact ⟨rfl, Lib.hid ⟨hA.out.1.below hb, chain hA.out.2 hb⟩⟩

theorem spreadL_size (l : List UInt8) : (spreadL l).length ≤ l.length + 9 := by
  have h1 : (tl l).1.length ≤ l.length := by
    have := congrArg List.length (tl_join l)
    rw [List.length_append] at this
    omega
  cases h : strictB (ofL (tl l).2) with
  | none => rw [spreadL_none h]; omega
  | some n =>
    have hn := strictB_lt _ _ h
    have h2 := (groupL_length (n / 65536) (by omega)).2
    have h3 := (groupL_length (n % 65536) (by omega)).2
    rw [spreadL_some h, List.length_append, List.length_append, List.length_cons]
    omega

set_option maxRecDepth 100000 in
set_option maxHeartbeats 1000000 in
theorem spread_any (s : ByteArray) (w : World) (hs : s.size ≤ 900000) (ht : Tabs w) :
    Calls Tryd.prog 88 #[.string s] w fun e w' => e = .returned (.string (ofL (spreadL s.data.toList))) ∧ Below w.heap.size w w' := by
  have HT := Lib.hid ht
  clear ht
  have hl := tl_last s
  have hf := spread_first s
  have hb := spread_last s
  have hE := spread_le s
  obtain ⟨E, eE⟩ : ∃ E, (tl s.data.toList).1.length = E := ⟨_, rfl⟩
  rw [eE] at hl hf hb hE
  have hEi : (E : Int) ≤ (s.size : Int) := by omega
  have hE0 : (0 : Int) ≤ (E : Int) := by omega
  have hw : IntKind.i64.wrap (E : Int) = (E : Int) := by rw [IntKind.wrap_i64]; omega
  obtain ⟨q, eq⟩ : ∃ q, Lib.lastIndexByte s 58 = q := ⟨_, rfl⟩
  have HC := Lib.hid (fun w => Tryd.strings_LastIndexByte s 58 (by omega) w)
  rw [eq] at hl HC
  have HF := Lib.hid hf
  have HL := Lib.hid hb
  have HEE := Lib.hid eE
  clear hf hb eE eq
  go_enter Tryd.func88, Tryd.ntmps88
  go_wp2_with fail
  refine (HC.out _).mono ?_
  rintro e w1 ⟨rfl, rfl⟩
  go_wp2_with fail
  refine (strict_any _ _ (by simp; omega)).mono ?_
  rintro e w2 ⟨rfl, hb2⟩
  rw [HL.out]
  cases h : strictB (ofL (tl s.data.toList).2) with
  | none =>
    have HS : Hid (spreadL s.data.toList = s.data.toList) := Lib.hid (spreadL_none h)
    unfold strictRet
    clear h
    go_wp2_with fail
    go_ret
    exact ⟨str_ret (by rw [HS.out, ofL_data]), hb2⟩
  | some n =>
    have hn : n ≤ 4294967295 := by have := strictB_lt _ _ h; omega
    have HS : Hid (ofL (spreadL s.data.toList) = s.extract 0 E ++ gS (n / 65536) ++ { data := #[58] } ++ gS (n % 65536)) := Lib.hid (by
      rw [spreadL_some h, HF.out]
      symm
      apply eq_ofL
      rw [data_append, data_append, data_append, ofL_data, gS, gS, ofL_data, ofL_data]
      simp)
    unfold strictRet
    rw [show (some n).getD 0 = n from rfl, show (some n).isSome = true from rfl]
    obtain ⟨hi, ehi⟩ : ∃ hi : Nat, n / 65536 = hi := ⟨_, rfl⟩
    obtain ⟨lo, elo⟩ : ∃ lo : Nat, n % 65536 = lo := ⟨_, rfl⟩
    have hhi : hi < 65536 := by omega
    have hlo : lo < 65536 := by omega
    rw [ehi, elo] at HS
    have e1 : (n : Int) / 65536 = (hi : Int) := by omega
    have e2 : IntKind.u16.wrap (hi : Int) = (hi : Int) := by rw [IntKind.wrap_u16]; omega
    have e3 : IntKind.u16.wrap (n : Int) = (lo : Int) := by rw [IntKind.wrap_u16]; omega
    have z1 := gS_size hi hhi
    have z2 := gS_size lo hlo
    have z0 : (s.extract 0 E).size ≤ 900000 := by simp; omega
    obtain ⟨X, hX⟩ : ∃ X, gS hi = X := ⟨_, rfl⟩
    obtain ⟨Y, hY⟩ : ∃ Y, gS lo = Y := ⟨_, rfl⟩
    rw [hX] at z1 HS
    rw [hY] at z2 HS
    have F1 : Hid (DigFact (hi : Int) X) := Lib.hid ⟨hi, rfl, hhi, hX⟩
    have F2 : Hid (DigFact (lo : Int) Y) := Lib.hid ⟨lo, rfl, hlo, hY⟩
    have F3 : Hid (DigFact (IntKind.u16.wrap (hi : Int)) X) := Lib.hid ⟨hi, e2, hhi, hX⟩
    have F4 : Hid (DigFact (IntKind.u16.wrap (n : Int)) Y) := Lib.hid ⟨lo, e3, hlo, hY⟩
    have F5 : Hid (DigFact (IntKind.u16.wrap ((n : Int) / 65536)) X) := Lib.hid ⟨hi, by rw [e1, e2], hhi, hX⟩
    have hA3 : Hid (BruIs w2.drew ∧ Below w1.heap.size w1 w2.drew) := Lib.hid ⟨(HT.out.below hb2).bru.below (Below.refl _ _).drew, hb2.drew⟩
    clear h ehi elo hX hY
    go_wp2_with fail
    go_region_with (first
      | (go_at_call 96; refine (dig_held _ _ _ _ (by with_reducible assumption) (by with_reducible assumption)).mono ?_; rintro e w3 ⟨rfl, hA4⟩))
    all_goals
      go_wp2_with fail
      go_ret
      exact ⟨str_ret (by rw [HS.out]), hA4.out.2⟩
end Go.Proofs.YtgbajagacmfcmaaDoor
/- The contract of six.inPlaces: the texts of the eight groups. -/
namespace Go.Proofs.YtgbajagacmfcmaaDoor
open Go.RowKit
set_option linter.unusedVariables false
set_option maxRecDepth 20000

/-- An array of eight texts lies at B, whole. -/
structure ArrS (w : World) (B : Nat) (l : List ByteArray) : Prop where
  len : l.length = 8
  row : w.heap[B]? = some (.cells (l.map Value.string).toArray 123 (0, 0))
theorem ArrS.lt {w : World} {B : Nat} {l : List ByteArray} (h : ArrS w B l) : B < w.heap.size := (Array.getElem?_eq_some_iff.1 h.row).1
theorem ArrS.cell {w : World} {B : Nat} {l : List ByteArray} (h : ArrS w B l) (j : Nat) (hj : j < 8) : w.cell? ⟨B, j, none⟩ = some (.string (l.getD j ⟨#[]⟩)) := by
  have hl := h.len
  simp [World.cell?, h.row, List.getD_eq_getElem?_getD, show j < l.length by omega]
theorem ArrS.live {w : World} {B : Nat} {l : List ByteArray} (h : ArrS w B l) (j : Nat) : w.frozen? ⟨B, j, none⟩ = false := by
  simp [World.frozen?, h.row]
theorem ArrS.below {w w' : World} {B : Nat} {l : List ByteArray} (h : ArrS w B l) (hb : Below w.heap.size w w') : ArrS w' B l :=
  ⟨h.len, by rw [hb.block B h.lt]; exact h.row⟩
theorem ArrS.set {w : World} {B i : Nat} {l : List ByteArray} (h : ArrS w B l) (hi : i < 8) (v : ByteArray) : ArrS (w.setCell ⟨B, i, none⟩ (.string v)) B (l.set i v) := by
  refine ⟨by simp [h.len], ?_⟩
  rw [setCell_eq_setRow w B i _ 123 (0, 0) (.string v) h.row]
  have := setRow_heap w B _ ((l.map Value.string).toArray.setIfInBounds i (.string v)) 123 (0, 0) h.row
  rw [this]
  congr 2
  simp [List.map_set]
theorem ArrS.zero (w : World) : ArrS (w.alloc (.cells #[.string { data := #[] }, .string { data := #[] }, .string { data := #[] }, .string { data := #[] }, .string { data := #[] }, .string { data := #[] }, .string { data := #[] }, .string { data := #[] }] 123)) w.heap.size (List.replicate 8 ⟨#[]⟩) := by
  refine ⟨rfl, ?_⟩
  show (w.heap.push _)[w.heap.size]? = _
  rw [Array.getElem?_push_size]
  rfl

theorem cut_bounds (s : ByteArray) : (Lib.cut s.data.toList [58, 58]).1.length ≤ s.size ∧ (Lib.cut s.data.toList [58, 58]).2.1.length ≤ s.size := by
  have hl : s.data.toList.length = s.size := by simp
  unfold Lib.cut
  split
  · simp
    omega
  · simp

theorem drewN_bel (w : World) (q : Nat) : Below w.heap.size w (w.drewN q) := ⟨rfl, rfl, rfl, Nat.le_refl _, fun _ _ => rfl⟩

/-- Eight texts, stored one by one. -/
def storeS (W : World) (R : Nat) (y0 y1 y2 y3 y4 y5 y6 y7 : ByteArray) : World := ((((((((W.setCell ⟨R, 0, none⟩ (.string y0)).setCell ⟨R, 1, none⟩ (.string y1)).setCell ⟨R, 2, none⟩ (.string y2)).setCell ⟨R, 3, none⟩ (.string y3)).setCell ⟨R, 4, none⟩ (.string y4)).setCell ⟨R, 5, none⟩ (.string y5)).setCell ⟨R, 6, none⟩ (.string y6)).setCell ⟨R, 7, none⟩ (.string y7))
theorem storeS_arr {W : World} {R : Nat} {l : List ByteArray} (y0 y1 y2 y3 y4 y5 y6 y7 : ByteArray) (h : ArrS W R l) : ArrS (storeS W R y0 y1 y2 y3 y4 y5 y6 y7) R [y0, y1, y2, y3, y4, y5, y6, y7] := by
  obtain ⟨a, b, c, d, e, f, g, i, rfl⟩ := list8 l h.len
  exact ((((((((h.set (i := 0) (by decide) y0).set (i := 1) (by decide) y1).set (i := 2) (by decide) y2).set (i := 3) (by decide) y3).set (i := 4) (by decide) y4).set (i := 5) (by decide) y5).set (i := 6) (by decide) y6).set (i := 7) (by decide) y7)
theorem storeS_below {w W : World} {R : Nat} (y0 y1 y2 y3 y4 y5 y6 y7 : ByteArray) (h : Below w.heap.size w W) (hR : w.heap.size ≤ R) : Below w.heap.size w (storeS W R y0 y1 y2 y3 y4 y5 y6 y7) :=
  ((((((((h.setCell (p := ⟨R, 0, none⟩) hR _).setCell (p := ⟨R, 1, none⟩) hR _).setCell (p := ⟨R, 2, none⟩) hR _).setCell (p := ⟨R, 3, none⟩) hR _).setCell (p := ⟨R, 4, none⟩) hR _).setCell (p := ⟨R, 5, none⟩) hR _).setCell (p := ⟨R, 6, none⟩) hR _).setCell (p := ⟨R, 7, none⟩) hR _)
theorem ArrS.all {w : World} {B : Nat} {y0 y1 y2 y3 y4 y5 y6 y7 : ByteArray} (h : ArrS w B [y0, y1, y2, y3, y4, y5, y6, y7]) :
    w.cell? ⟨B, 0, none⟩ = some (.string y0) ∧ w.cell? ⟨B, 1, none⟩ = some (.string y1) ∧ w.cell? ⟨B, 2, none⟩ = some (.string y2) ∧ w.cell? ⟨B, 3, none⟩ = some (.string y3) ∧ w.cell? ⟨B, 4, none⟩ = some (.string y4) ∧ w.cell? ⟨B, 5, none⟩ = some (.string y5) ∧ w.cell? ⟨B, 6, none⟩ = some (.string y6) ∧ w.cell? ⟨B, 7, none⟩ = some (.string y7) :=
  ⟨h.cell 0 (by decide), h.cell 1 (by decide), h.cell 2 (by decide), h.cell 3 (by decide), h.cell 4 (by decide), h.cell 5 (by decide), h.cell 6 (by decide), h.cell 7 (by decide)⟩
theorem ArrS.lives {w : World} {B : Nat} {l : List ByteArray} (h : ArrS w B l) :
    w.frozen? ⟨B, 0, none⟩ = false ∧ w.frozen? ⟨B, 1, none⟩ = false ∧ w.frozen? ⟨B, 2, none⟩ = false ∧ w.frozen? ⟨B, 3, none⟩ = false ∧ w.frozen? ⟨B, 4, none⟩ = false ∧ w.frozen? ⟨B, 5, none⟩ = false ∧ w.frozen? ⟨B, 6, none⟩ = false ∧ w.frozen? ⟨B, 7, none⟩ = false :=
  ⟨h.live 0, h.live 1, h.live 2, h.live 3, h.live 4, h.live 5, h.live 6, h.live 7⟩
/-- Texts ahead, noughts, room. -/
theorem set_zero (F : List ByteArray) (nf k : Nat) (e : ByteArray) (h : F.length = nf) (hk : nf + k < 8) : (F ++ List.replicate k zeroS ++ List.replicate (8 - nf - k) e).set (nf + k) zeroS = F ++ List.replicate (k + 1) zeroS ++ List.replicate (8 - nf - (k + 1)) e := by
  rw [List.set_append_right _ _ (by simp; omega), List.length_append, List.length_replicate, h, Nat.sub_self, show 8 - nf - k = (8 - nf - (k + 1)) + 1 by omega, List.replicate_succ, List.set_cons_zero, List.replicate_succ']
  simp
theorem splice_front (F : List ByteArray) (nf : Nat) (h : F.length = nf) (h8 : nf ≤ 8) : splice ((List.replicate 8 (⟨#[]⟩ : ByteArray)).map Value.string) 0 (F.map Value.string) = (F ++ List.replicate 0 zeroS ++ List.replicate (8 - nf - 0) (⟨#[]⟩ : ByteArray)).map Value.string := by
  unfold splice
  rw [List.take_zero, List.nil_append, List.length_map, h, ← List.map_drop, List.drop_replicate, ← List.map_append, Nat.zero_add, Nat.sub_zero, List.replicate_zero, List.append_nil]
theorem splice_back (F G : List ByteArray) (nf ng z : Nat) (h : F.length = nf) (hg : G.length = ng) (h8 : nf + z + ng = 8) : splice ((F ++ List.replicate z zeroS ++ List.replicate (8 - nf - z) (⟨#[]⟩ : ByteArray)).map Value.string) (8 - ng) (G.map Value.string) = (F ++ List.replicate z zeroS ++ G).map Value.string := by
  unfold splice
  have e : ((F ++ List.replicate z zeroS ++ List.replicate (8 - nf - z) (⟨#[]⟩ : ByteArray)).map Value.string) = (F ++ List.replicate z zeroS).map Value.string ++ (List.replicate (8 - nf - z) (⟨#[]⟩ : ByteArray)).map Value.string := by rw [List.map_append]
  have hl : ((F ++ List.replicate z zeroS).map Value.string).length = 8 - ng := by simp [h]; omega
  rw [e, List.take_append_of_le_length (by omega), List.take_of_length_le (by omega), List.drop_of_length_le (by simp [h, hg]; omega), List.append_nil, ← List.map_append]

def arrS (l : List ByteArray) : Value := .agg (l.map Value.string).toArray
def placesRet (o : Option (List ByteArray)) : Value := .tuple #[arrS (o.getD (List.replicate 8 ⟨#[]⟩)), .bool o.isSome]

set_option maxRecDepth 100000 in
set_option maxHeartbeats 2000000 in
theorem inPlaces_any (s : ByteArray) (w : World) (hs : s.size ≤ 900000) (ht : Tabs w) :
    Calls Tryd.prog 87 #[.string s] w fun e w' => e = .returned (placesRet (placesL s.data.toList)) ∧ Below w.heap.size w w' := by
  have hz := ArrS.zero w
  have b0 : Below w.heap.size w (w.alloc (.cells #[.string { data := #[] }, .string { data := #[] }, .string { data := #[] }, .string { data := #[] }, .string { data := #[] }, .string { data := #[] }, .string { data := #[] }, .string { data := #[] }] 123)) := (Below.refl _ _).alloc (Nat.le_refl _) _
  have ht0 := ht.below b0
  clear ht
  have hcb := cut_bounds s
  have hC := fun m w hm => Tryd.strings_Cut s { data := #[58, 58] } m w (by omega) hm
  rw [show ({ data := #[58, 58] } : ByteArray).data.toList = [58, 58] from rfl] at hC
  obtain ⟨a, b, f, eC⟩ : ∃ a b f, Lib.cut s.data.toList [58, 58] = (a, b, f) := ⟨_, _, _, rfl⟩
  obtain ⟨R, hR⟩ : ∃ R, placesL s.data.toList = R := ⟨_, rfl⟩
  have hR2 := hR
  unfold placesL at hR2
  rw [eC] at hC hcb hR2
  rw [hR]
  simp only at hR2 hC hcb
  obtain ⟨ha, hb⟩ := hcb
  have hF := fun w => sidePieces_any ⟨a.toArray⟩ w (by show a.toArray.size ≤ _; simp; omega)
  have hG := fun w => sidePieces_any ⟨b.toArray⟩ w (by show b.toArray.size ≤ _; simp; omega)
  have lF := sideL_len ⟨a.toArray⟩
  have lG := sideL_len ⟨b.toArray⟩
  rw [show (⟨a.toArray⟩ : ByteArray).data.toList = a by simp] at hF lF
  rw [show (⟨b.toArray⟩ : ByteArray).data.toList = b by simp] at hG lG
  rw [show (⟨a.toArray⟩ : ByteArray).size = a.length by show a.toArray.size = _; simp] at lF
  rw [show (⟨b.toArray⟩ : ByteArray).size = b.length by show b.toArray.size = _; simp] at lG
  generalize sideL a = F at *
  generalize sideL b = G at *
  generalize (⟨a.toArray⟩ : ByteArray) = sa at *
  generalize (⟨b.toArray⟩ : ByteArray) = sb at *
  obtain ⟨nf, hnf⟩ : ∃ nf, F.length = nf := ⟨_, rfl⟩
  obtain ⟨ng, hng⟩ : ∃ ng, G.length = ng := ⟨_, rfl⟩
  rw [hnf] at hF lF hR2
  rw [hng] at hG lG hR2
  have hfm : nf ≤ 900001 := by omega
  have hgm : ng ≤ 900001 := by omega
  have HF := Lib.hid hF
  have HG := Lib.hid hG
  have HC := Lib.hid hC
  have HR := Lib.hid hR2
  have HNF := Lib.hid hnf
  have HNG := Lib.hid hng
  clear hF hG hC hR hR2 hnf hng lF lG ha hb eC
  go_enter Tryd.func87, Tryd.ntmps87
  go_wp2_with fail
  generalize w.alloc (.cells #[.string { data := #[] }, .string { data := #[] }, .string { data := #[] }, .string { data := #[] }, .string { data := #[] }, .string { data := #[] }, .string { data := #[] }, .string { data := #[] }] 123) = W at *
  have HZ := Lib.hid hz
  have HT := Lib.hid ht0
  clear hz ht0
  obtain ⟨m, hm⟩ := HT.out.max
  refine (HC.out m _ hm).mono ?_
  rintro e w1 ⟨rfl, q, rfl⟩
  clear hm
  go_wp2_with fail
  refine (HF.out _).mono ?_
  rintro e w2 ⟨p1, c1, rfl, r1, hb2⟩
  have hc1 := r1.cap
  have hc1m := r1.capm
  have R1 := Lib.hid r1
  clear r1
  go_wp2_with fail
  refine (HG.out _).mono ?_
  rintro e w3 ⟨p2, c2, rfl, r2, hb3⟩
  have hc2 := r2.cap
  have hc2m := r2.capm
  unfold maxLen at hc1m hc2m
  have R2 := Lib.hid r2
  have R1b := Lib.hid (R1.out.below hb3)
  have hbq : Below W.heap.size W (W.drewN q) := drewN_bel W q
  have b1 : Below w.heap.size w w3 := chain b0 (chain hbq (chain hb2 hb3))
  have HZ3 := Lib.hid (((HZ.out.below hbq).below hb2).below hb3)
  clear r2 R1 HZ
  obtain ⟨Y, eY⟩ : ∃ Y : Int, (8 : Int) - (nf : Int) = Y := ⟨_, rfl⟩
  obtain ⟨Z, eZ⟩ : ∃ Z : Int, Y - (ng : Int) = Z := ⟨_, rfl⟩
  have wY : IntKind.i64.wrap Y = Y := by rw [IntKind.wrap_i64]; omega
  have wZ : IntKind.i64.wrap Z = Z := by rw [IntKind.wrap_i64]; omega
  by_cases hbad : 8 < nf + ng ∨ f ≠ decide (nf + ng < 8)
  · have HD : Hid (R = none) := Lib.hid (by rw [← HR.out, if_pos hbad])
    have hfalse : ∀ (P : Prop), (Z < 0 → P) → (f = true → ¬ Z < 0 → ¬ 0 < Z → P) → (f = false → ¬ Z < 0 → 0 < Z → P) → P := by
      intro P h1 h2 h3
      by_cases hz : Z < 0
      · exact h1 hz
      · rcases hbad with hbad | hbad
        · omega
        · by_cases h8 : nf + ng < 8
          · rw [decide_eq_true h8] at hbad
            exact h3 (by cases f <;> simp_all) hz (by omega)
          · rw [decide_eq_false h8] at hbad
            exact h2 (by cases f <;> simp_all) hz (by omega)
    clear hbad
    obtain ⟨r0, r1, r2, r3, r4, r5, r6, r7⟩ := HZ3.out.all
    obtain ⟨f0, f1, f2, f3, f4, f5, f6, f7⟩ := HZ3.out.lives
    have E1 := Lib.hid (storeS_arr ⟨#[]⟩ ⟨#[]⟩ ⟨#[]⟩ ⟨#[]⟩ ⟨#[]⟩ ⟨#[]⟩ ⟨#[]⟩ ⟨#[]⟩ HZ3.out)
    have E2 := Lib.hid (storeS_below ⟨#[]⟩ ⟨#[]⟩ ⟨#[]⟩ ⟨#[]⟩ ⟨#[]⟩ ⟨#[]⟩ ⟨#[]⟩ ⟨#[]⟩ b1 (Nat.le_refl w.heap.size))
    refine hfalse _ (fun hz => ?_) (fun hf hz hz2 => ?_) (fun hf hz hz2 => ?_)
    rotate_left
    · have dz : decide (Z < 0) = false := decide_eq_false hz
      have dp : decide (0 < Z) = false := decide_eq_false hz2
      clear hfalse hz hz2
      subst hf
      go_wp2_with fail
      change bodyPost _ _ _ _ _ (storeS w3 w.heap.size ⟨#[]⟩ ⟨#[]⟩ ⟨#[]⟩ ⟨#[]⟩ ⟨#[]⟩ ⟨#[]⟩ ⟨#[]⟩ ⟨#[]⟩)
      generalize storeS w3 w.heap.size ⟨#[]⟩ ⟨#[]⟩ ⟨#[]⟩ ⟨#[]⟩ ⟨#[]⟩ ⟨#[]⟩ ⟨#[]⟩ ⟨#[]⟩ = W at *
      clear r0 r1 r2 r3 r4 r5 r6 r7 f0 f1 f2 f3 f4 f5 f6 f7
      obtain ⟨r0, r1, r2, r3, r4, r5, r6, r7⟩ := E1.out.all
      refine bodyPost_ret (v := placesRet none) (by simp [results, Tryd.results87, go_sem, r0, r1, r2, r3, r4, r5, r6, r7, placesRet, arrS, List.replicate]) rfl ⟨by rw [HD.out], E2.out⟩
    · have dz : decide (Z < 0) = false := decide_eq_false hz
      have dp : decide (0 < Z) = true := decide_eq_true hz2
      clear hfalse hz hz2
      subst hf
      go_wp2_with fail
      change bodyPost _ _ _ _ _ (storeS w3 w.heap.size ⟨#[]⟩ ⟨#[]⟩ ⟨#[]⟩ ⟨#[]⟩ ⟨#[]⟩ ⟨#[]⟩ ⟨#[]⟩ ⟨#[]⟩)
      generalize storeS w3 w.heap.size ⟨#[]⟩ ⟨#[]⟩ ⟨#[]⟩ ⟨#[]⟩ ⟨#[]⟩ ⟨#[]⟩ ⟨#[]⟩ ⟨#[]⟩ = W at *
      clear r0 r1 r2 r3 r4 r5 r6 r7 f0 f1 f2 f3 f4 f5 f6 f7
      obtain ⟨r0, r1, r2, r3, r4, r5, r6, r7⟩ := E1.out.all
      refine bodyPost_ret (v := placesRet none) (by simp [results, Tryd.results87, go_sem, r0, r1, r2, r3, r4, r5, r6, r7, placesRet, arrS, List.replicate]) rfl ⟨by rw [HD.out], E2.out⟩
    · have dz : decide (Z < 0) = true := decide_eq_true hz
      clear hfalse hz
      go_wp2_with fail
      change bodyPost _ _ _ _ _ (storeS w3 w.heap.size ⟨#[]⟩ ⟨#[]⟩ ⟨#[]⟩ ⟨#[]⟩ ⟨#[]⟩ ⟨#[]⟩ ⟨#[]⟩ ⟨#[]⟩)
      generalize storeS w3 w.heap.size ⟨#[]⟩ ⟨#[]⟩ ⟨#[]⟩ ⟨#[]⟩ ⟨#[]⟩ ⟨#[]⟩ ⟨#[]⟩ ⟨#[]⟩ = W at *
      clear r0 r1 r2 r3 r4 r5 r6 r7 f0 f1 f2 f3 f4 f5 f6 f7
      obtain ⟨r0, r1, r2, r3, r4, r5, r6, r7⟩ := E1.out.all
      refine bodyPost_ret (v := placesRet none) (by simp [results, Tryd.results87, go_sem, r0, r1, r2, r3, r4, r5, r6, r7, placesRet, arrS, List.replicate]) rfl ⟨by rw [HD.out], E2.out⟩
  · have hle : nf + ng ≤ 8 := by omega
    have hfd : f = decide (nf + ng < 8) := by
      by_cases h : f = decide (nf + ng < 8)
      · exact h
      · exact absurd (.inr h) hbad
    have HD : Hid (R = some (F ++ List.replicate (8 - nf - ng) zeroS ++ G)) := Lib.hid (by rw [← HR.out, if_neg hbad])
    obtain ⟨z, hz⟩ : ∃ z : Nat, 8 - nf - ng = z := ⟨_, rfl⟩
    rw [hz] at HD
    obtain rfl : Z = (z : Int) := by omega
    have dz : decide ((z : Int) < 0) = false := decide_eq_false (by omega)
    have dp : decide ((0 : Int) < (z : Int)) = f := by rw [hfd, decide_eq_decide]; omega
    have dpn : decide (0 < z) = f := by rw [hfd, decide_eq_decide]; omega
    have hsum : nf + z + ng = 8 := by omega
    clear hbad hfd HR hz
    obtain ⟨X1, hX1⟩ : ∃ X1, F.map Value.string = X1 := ⟨_, rfl⟩
    obtain ⟨X2, hX2⟩ : ∃ X2, G.map Value.string = X2 := ⟨_, rfl⟩
    obtain ⟨C1, hC1⟩ : ∃ C1, (List.replicate 8 (⟨#[]⟩ : ByteArray)).map Value.string = C1 := ⟨_, rfl⟩
    have lX1 : X1.length = nf := by rw [← hX1, List.length_map, HNF.out]
    have lX2 : X2.length = ng := by rw [← hX2, List.length_map, HNG.out]
    have lC1 : C1.length = 8 := by rw [← hC1]; rfl
    have one : ∀ l : List ByteArray, ∀ v ∈ l.map Value.string, v.oneCell' = true := by
      intro l v hv
      obtain ⟨x, _, rfl⟩ := List.mem_map.1 hv
      rfl
    have src : ∀ {w' : World} {B : Nat} {p : Option Addr} {n c : Nat} {l : List ByteArray}, SideRow w' B p n c l → 0 < n → ∃ ad, p = some ad ∧ ∀ j v, (l.map Value.string)[j]? = some v → w'.cell? (ad.add j) = some v := by
      intro w' B p n c l h h0
      rcases h.lies with h1 | ⟨g, e, _, _, hc⟩
      · omega
      · refine ⟨_, e, fun j v hv => ?_⟩
        rw [List.getElem?_map] at hv
        cases hj : l[j]? with
        | none => rw [hj] at hv; cases hv
        | some x =>
          rw [hj] at hv
          have hjl : j < l.length := (List.getElem?_eq_some_iff.1 hj).1
          rw [add_none, hc j (by rw [← h.len]; exact hjl), List.getD_eq_getElem?_getD, hj]
          exact hv
    have ba : Below w3.heap.size w3 (w3.alloc (.cells #[.string { data := #[] }, .string { data := #[] }, .string { data := #[] }, .string { data := #[] }, .string { data := #[] }, .string { data := #[] }, .string { data := #[] }, .string { data := #[] }] 123)) := (Below.refl _ _).alloc (Nat.le_refl _) _
    have G1 : Hid ((w3.alloc (.cells #[.string { data := #[] }, .string { data := #[] }, .string { data := #[] }, .string { data := #[] }, .string { data := #[] }, .string { data := #[] }, .string { data := #[] }, .string { data := #[] }] 123)).heap[w3.heap.size]? = some (.cells C1.toArray 123 (0, 0))) := Lib.hid (by rw [← hC1]; exact (ArrS.zero w3).row)
    have G2 : Hid (0 < X1.length → ∃ ad, p1 = some ad ∧ ∀ j v, X1[j]? = some v → (w3.alloc (.cells #[.string { data := #[] }, .string { data := #[] }, .string { data := #[] }, .string { data := #[] }, .string { data := #[] }, .string { data := #[] }, .string { data := #[] }, .string { data := #[] }] 123)).cell? (ad.add j) = some v) := Lib.hid (fun h => by
      rw [← hX1]
      exact src (R1b.out.below ba) (by omega))
    have G3 : Hid (∀ v ∈ X1, v.oneCell' = true) := Lib.hid (by rw [← hX1]; exact one F)
    have G4 : Hid (∀ v ∈ X2, v.oneCell' = true) := Lib.hid (by rw [← hX2]; exact one G)
    have G5 : Hid (∀ w' : World, Below w3.heap.size w3 w' → 0 < X2.length → ∃ ad, p2 = some ad ∧ ∀ j v, X2[j]? = some v → w'.cell? (ad.add j) = some v) := Lib.hid (fun w' hb' h => by
      rw [← hX2]
      exact src (R2.out.below hb') (by omega))
    have HX1 := Lib.hid hX1
    have HX2 := Lib.hid hX2
    have HC1 := Lib.hid hC1
    have hi1 : (Tryd.prog.info? 9).map (·.size) = some 1 := by kernel_rfl
    have HI := Lib.hid hi1
    have HB0 := Lib.hid ba
    have L1 := Lib.hid lX1
    have L2 := Lib.hid lX2
    have LC := Lib.hid lC1
    clear src one hX1 hX2 hC1 hi1 ba lX1 lX2 lC1
    have N1 : Hid (X1.length = Nat.min nf 8) := Lib.hid (by rw [L1.out]; exact (Nat.min_eq_left (by omega)).symm)
    go_wp2_with (with_reducible refine wpList_copy_splice (o := ⟨some 39, _, _, _, _, _⟩) rfl (.tmp 37) (.tmp 38) 83 83 rfl 9 Tryd.underlying83 HI.out _ _ _ _ _ _ rfl rfl w3.heap.size 0 C1 123 G1.out X1 N1.out (fun h => ⟨rfl, G2.out h⟩) (by rw [L1.out, LC.out]; omega) G3.out w3.heap.size w3 HB0.out (Nat.le_refl _) (fun w5 HG5 hB5 => ?_))
    have A5 : Hid (ArrS w5 w3.heap.size (F ++ List.replicate 0 zeroS ++ List.replicate (8 - nf - 0) ⟨#[]⟩)) := Lib.hid ⟨by have := HNF.out; simp; omega, by rw [HG5.out, ← HC1.out, ← HX1.out, splice_front F nf HNF.out (by omega)]⟩
    clear HG5 G1 G2 G3 N1
    go_wp2_with fail
    go_loopw [41] (fun i wr => ∃ k : Nat, k ≤ z ∧ i = .int .i64 k ∧ Hid (ArrS wr w3.heap.size (F ++ List.replicate k zeroS ++ List.replicate (8 - nf - k) ⟨#[]⟩)) ∧ Below w3.heap.size w3 wr) (fun i _ => z - (intOf i).toNat)
    case atStart => exact ⟨0, Nat.zero_le _, rfl, A5, hB5⟩
    case round =>
      obtain ⟨k, hk, rfl, HA, hbel⟩ := hrel
      by_cases hkz : k < z
      · have hcell := HA.out.cell (nf + k) (by omega)
        have hlive := HA.out.live (nf + k)
        have hix : (nf : Int) + (k : Int) < 8 := by omega
        have HS := Lib.hid (HA.out.set (i := nf + k) (by omega) zeroS)
        rw [set_zero F nf k ⟨#[]⟩ HNF.out (by omega)] at HS
        generalize (F ++ List.replicate k zeroS ++ List.replicate (8 - nf - k) (⟨#[]⟩ : ByteArray)).getD (nf + k) ⟨#[]⟩ = old at *
        go_wp2_with fail
        go_roundw
        case rel => exact ⟨k + 1, by omega, by go_num, HS, hbel.setCell (p := ⟨w3.heap.size, nf + k, none⟩) (Nat.le_refl _) _⟩
        case measure => simp [intOf]; omega
      · obtain rfl : k = z := by omega
        obtain ⟨C2, hC2⟩ : ∃ C2, (F ++ List.replicate k zeroS ++ List.replicate (8 - nf - k) (⟨#[]⟩ : ByteArray)).map Value.string = C2 := ⟨_, rfl⟩
        have G6 : Hid (wr.heap[w3.heap.size]? = some (.cells C2.toArray 123 (0, 0))) := Lib.hid (by rw [← hC2]; exact HA.out.row)
        have LC2 : Hid (C2.length = 8) := Lib.hid (by rw [← hC2]; have := HNF.out; simp; omega)
        have HC2 := Lib.hid hC2
        clear hC2
        obtain ⟨mg, hmg⟩ : ∃ mg : Nat, 8 - ng = mg := ⟨_, rfl⟩
        have emg : (8 : Int) - (ng : Int) = (mg : Int) := by omega
        have wmg : IntKind.i64.wrap (mg : Int) = (mg : Int) := by rw [IntKind.wrap_i64]; omega
        have mg0 : (0 : Int) ≤ (mg : Int) := by omega
        have mg8 : (mg : Int) ≤ 8 := by omega
        by_cases hg0 : ng = 0
        · have HM : Hid (mg = 8) := Lib.hid (by omega)
          obtain rfl : mg = 8 := HM.out
          subst hg0
          clear wmg emg mg0 mg8 hmg
          have N2 : Hid (X2.length = Nat.min 0 0) := Lib.hid (by rw [L2.out]; rfl)
          go_wp2_with (with_reducible refine wpList_copy_splice (o := ⟨some 55, _, _, _, _, _⟩) rfl (.tmp 53) (.tmp 54) 83 83 rfl 9 Tryd.underlying83 HI.out _ _ _ _ _ _ rfl rfl w3.heap.size 8 C2 123 G6.out X2 N2.out (fun h => absurd h (by rw [L2.out]; omega)) (by rw [L2.out, LC2.out]; omega) G4.out w3.heap.size w3 hbel (Nat.le_refl _) (fun w6 HG6 hB6 => ?_); have A6 : Hid (ArrS w6 w3.heap.size (F ++ List.replicate k zeroS ++ G)) := Lib.hid ⟨by have := HNF.out; have := HNG.out; simp; omega, by rw [HG6.out, ← HC2.out, ← HX2.out, show 8 = 8 - 0 from rfl, splice_back F G nf 0 k HNF.out HNG.out hsum]⟩; clear HG6; have hl8 := A6.out.len; obtain ⟨y0, y1, y2, y3, y4, y5, y6, y7, hy⟩ := list8 _ hl8; rw [hy] at A6 HD; obtain ⟨k0, k1, k2, k3, k4, k5, k6, k7⟩ := A6.out.all; obtain ⟨r0, r1, r2, r3, r4, r5, r6, r7⟩ := (HZ3.out.below hB6).all; obtain ⟨f0, f1, f2, f3, f4, f5, f6, f7⟩ := (HZ3.out.below hB6).lives; have E1 := Lib.hid (storeS_arr y0 y1 y2 y3 y4 y5 y6 y7 (HZ3.out.below hB6)); have E2 := Lib.hid (storeS_below y0 y1 y2 y3 y4 y5 y6 y7 (chain b1 hB6) (Nat.le_refl w.heap.size)); clear hy hl8)
          change bodyPost _ _ _ _ _ (storeS w6 w.heap.size y0 y1 y2 y3 y4 y5 y6 y7)
          generalize storeS w6 w.heap.size y0 y1 y2 y3 y4 y5 y6 y7 = W at *
          clear r0 r1 r2 r3 r4 r5 r6 r7 f0 f1 f2 f3 f4 f5 f6 f7 k0 k1 k2 k3 k4 k5 k6 k7
          obtain ⟨r0, r1, r2, r3, r4, r5, r6, r7⟩ := E1.out.all
          refine bodyPost_ret (v := placesRet (some [y0, y1, y2, y3, y4, y5, y6, y7])) (by simp [results, Tryd.results87, go_sem, r0, r1, r2, r3, r4, r5, r6, r7, placesRet, arrS]) rfl ⟨by rw [HD.out], E2.out⟩
        · have hmn : ¬ 8 = mg := by omega
          have N2 : Hid (X2.length = Nat.min ng (8 - mg)) := Lib.hid (by rw [L2.out]; exact (Nat.min_eq_left (by omega)).symm)
          have HMG := Lib.hid hmg
          clear hmg
          go_wp2_with (with_reducible refine wpList_copy_splice (o := ⟨some 55, _, _, _, _, _⟩) rfl (.tmp 53) (.tmp 54) 83 83 rfl 9 Tryd.underlying83 HI.out _ _ _ _ _ _ rfl rfl w3.heap.size mg C2 123 G6.out X2 N2.out (fun h => ⟨rfl, G5.out _ hbel h⟩) (by have := HMG.out; rw [L2.out, LC2.out]; omega) G4.out w3.heap.size w3 hbel (Nat.le_refl _) (fun w6 HG6 hB6 => ?_); have A6 : Hid (ArrS w6 w3.heap.size (F ++ List.replicate k zeroS ++ G)) := Lib.hid ⟨by have := HNF.out; have := HNG.out; simp; omega, by rw [HG6.out, ← HC2.out, ← HX2.out, ← HMG.out, splice_back F G nf ng k HNF.out HNG.out hsum]⟩; clear HG6; have hl8 := A6.out.len; obtain ⟨y0, y1, y2, y3, y4, y5, y6, y7, hy⟩ := list8 _ hl8; rw [hy] at A6 HD; obtain ⟨k0, k1, k2, k3, k4, k5, k6, k7⟩ := A6.out.all; obtain ⟨r0, r1, r2, r3, r4, r5, r6, r7⟩ := (HZ3.out.below hB6).all; obtain ⟨f0, f1, f2, f3, f4, f5, f6, f7⟩ := (HZ3.out.below hB6).lives; have E1 := Lib.hid (storeS_arr y0 y1 y2 y3 y4 y5 y6 y7 (HZ3.out.below hB6)); have E2 := Lib.hid (storeS_below y0 y1 y2 y3 y4 y5 y6 y7 (chain b1 hB6) (Nat.le_refl w.heap.size)); clear hy hl8)
          change bodyPost _ _ _ _ _ (storeS w6 w.heap.size y0 y1 y2 y3 y4 y5 y6 y7)
          generalize storeS w6 w.heap.size y0 y1 y2 y3 y4 y5 y6 y7 = W at *
          clear r0 r1 r2 r3 r4 r5 r6 r7 f0 f1 f2 f3 f4 f5 f6 f7 k0 k1 k2 k3 k4 k5 k6 k7
          obtain ⟨r0, r1, r2, r3, r4, r5, r6, r7⟩ := E1.out.all
          refine bodyPost_ret (v := placesRet (some [y0, y1, y2, y3, y4, y5, y6, y7])) (by simp [results, Tryd.results87, go_sem, r0, r1, r2, r3, r4, r5, r6, r7, placesRet, arrS]) rfl ⟨by rw [HD.out], E2.out⟩
end Go.Proofs.YtgbajagacmfcmaaDoor
/- The contract of six.Parse. -/
namespace Go.Proofs.YtgbajagacmfcmaaDoor
open Go.RowKit
set_option linter.unusedVariables false
set_option maxRecDepth 20000

theorem placesL_facts (l : List UInt8) (p : List ByteArray) (h : placesL l = some p) : p.length = 8 ∧ ∀ q ∈ p, q.size ≤ l.length + 1 := by
  have hcb := cut_bounds (ofL l)
  rw [ofL_data, ofL_size] at hcb
  unfold placesL at h
  generalize Lib.cut l [58, 58] = C at *
  obtain ⟨a, b, f⟩ := C
  simp only at h hcb
  have hA := sideL_small (ofL a)
  have hB := sideL_small (ofL b)
  rw [ofL_data, ofL_size] at hA hB
  split at h
  · cases h
  · rename_i hn
    have e := Option.some.inj h
    subst e
    refine ⟨by simp; omega, fun q hq => ?_⟩
    rcases List.mem_append.1 hq with hq | hq
    · rcases List.mem_append.1 hq with hq | hq
      · have := hA q hq; omega
      · rw [List.eq_of_mem_replicate hq]
        show 1 ≤ _
        omega
    · have := hB q hq; omega
theorem ArrS.of (w : World) (p : List ByteArray) (y0 y1 y2 y3 y4 y5 y6 y7 : ByteArray) (h : p = [y0, y1, y2, y3, y4, y5, y6, y7]) : ArrS (w.alloc (.cells #[.string y0, .string y1, .string y2, .string y3, .string y4, .string y5, .string y6, .string y7] 123)) w.heap.size p := by
  subst h
  refine ⟨rfl, ?_⟩
  show (w.heap.push _)[w.heap.size]? = _
  rw [Array.getElem?_push_size]
  rfl
def readP (R : Option (List ByteArray)) : Option (List Nat) :=
  match R with
  | none => none
  | some p => grTo p false 8
theorem groupRet_some {o : Option Nat} {v : Nat} (h : o = some v) : groupRet o = .tuple #[.int .u16 (v : Int), .bool true] := by rw [h]; rfl
theorem groupRet_none {o : Option Nat} (h : o = none) : groupRet o = .tuple #[.int .u16 0, .bool false] := by rw [h]; rfl

set_option maxRecDepth 100000 in
set_option maxHeartbeats 1500000 in
theorem sixParse_any (s : ByteArray) (w : World) (hs : s.size ≤ 100000) (ht : Tabs w) :
    Calls Tryd.prog 80 #[.string s] w fun e w' => e = .returned (parseRet (parseB s)) ∧ Below w.heap.size w w' := by
  have HP : Hid (parseB s = ownL s.data.toList) := Lib.hid (by rw [own_parse, ← eq_ofL rfl])
  obtain ⟨T, hT⟩ : ∃ T, ofL (spreadL s.data.toList) = T := ⟨_, rfl⟩
  have hTd : T.data.toList = spreadL s.data.toList := by rw [← hT, ofL_data]
  have hTs : T.size ≤ 100009 := by
    have h1 := spreadL_size s.data.toList
    have h2 : s.data.toList.length = s.size := by simp
    rw [← hT, ofL_size]
    omega
  obtain ⟨R, hR⟩ : ∃ R, placesL T.data.toList = R := ⟨_, rfl⟩
  have HPl : Hid (parseB s = readP R) := Lib.hid (by
    rw [HP.out]
    unfold ownL
    rw [← hTd, hR]
    cases R <;> rfl)
  have HPf : Hid (∀ p, R = some p → p.length = 8 ∧ ∀ q ∈ p, q.size ≤ 100010) := Lib.hid (fun p hp => by
    have h1 := placesL_facts T.data.toList p (hR.trans hp)
    have h2 : T.data.toList.length = T.size := by simp
    exact ⟨h1.1, fun q hq => by have := h1.2 q hq; omega⟩)
  have HS := Lib.hid (fun w ht => spread_any s w (by omega) ht)
  have HI := Lib.hid (fun w ht => inPlaces_any T w (by omega) ht)
  rw [hT] at HS
  rw [hR] at HI
  clear hT hTd hR HP
  have hz0 := Arr8.zero w 76
  have b0 : Below w.heap.size w (w.alloc (.cells #[.int .u16 0, .int .u16 0, .int .u16 0, .int .u16 0, .int .u16 0, .int .u16 0, .int .u16 0, .int .u16 0] 76)) := (Below.refl _ _).alloc (Nat.le_refl _) _
  have ht0 := ht.below b0
  clear ht
  go_enter Tryd.func80, Tryd.ntmps80
  go_wp2_with fail
  generalize w.alloc (.cells #[.int .u16 0, .int .u16 0, .int .u16 0, .int .u16 0, .int .u16 0, .int .u16 0, .int .u16 0, .int .u16 0] 76) = W at *
  have HZ := Lib.hid hz0
  have HT := Lib.hid ht0
  clear hz0 ht0
  refine (HS.out _ HT.out).mono ?_
  rintro e w1 ⟨rfl, hb1⟩
  go_wp2_with fail
  refine (HI.out _ (HT.out.below hb1)).mono ?_
  rintro e w2 ⟨rfl, hb2⟩
  have b2 := chain b0 (chain hb1 hb2)
  have HZ2 := Lib.hid ((HZ.out.below hb1).below hb2)
  have HT2 := Lib.hid ((HT.out.below hb1).below hb2)
  clear HZ
  cases R with
  | none =>
    have HD : Hid (parseB s = none) := Lib.hid (by rw [HPl.out]; rfl)
    rw [show placesRet none = .tuple #[.agg #[.string { data := #[] }, .string { data := #[] }, .string { data := #[] }, .string { data := #[] }, .string { data := #[] }, .string { data := #[] }, .string { data := #[] }, .string { data := #[] }], .bool false] from rfl]
    have bz : ∀ o, Below w2.heap.size w2 (w2.alloc o) := fun o => (Below.refl w2.heap.size w2).alloc (Nat.le_refl _) o
    obtain ⟨r0, r1, r2, r3, r4, r5, r6, r7⟩ := HZ2.out.all
    obtain ⟨f0, f1, f2, f3, f4, f5, f6, f7⟩ := HZ2.out.lives
    have q0 := fun o => (HZ2.out.below (bz o)).all
    have q1 := fun o => (HZ2.out.below (bz o)).lives
    have E1 := Lib.hid (store8_arr 0 0 0 0 0 0 0 0 (HZ2.out.below (bz (.cells #[.string { data := #[] }, .string { data := #[] }, .string { data := #[] }, .string { data := #[] }, .string { data := #[] }, .string { data := #[] }, .string { data := #[] }, .string { data := #[] }] 123))))
    have E2 := Lib.hid (store8_below 0 0 0 0 0 0 0 0 (chain b2 (bz (.cells #[.string { data := #[] }, .string { data := #[] }, .string { data := #[] }, .string { data := #[] }, .string { data := #[] }, .string { data := #[] }, .string { data := #[] }, .string { data := #[] }] 123))) (Nat.le_refl w.heap.size))
    go_wp2_with fail
    change bodyPost _ _ _ _ _ (store8 (w2.alloc (.cells #[.string { data := #[] }, .string { data := #[] }, .string { data := #[] }, .string { data := #[] }, .string { data := #[] }, .string { data := #[] }, .string { data := #[] }, .string { data := #[] }] 123)) w.heap.size 0 0 0 0 0 0 0 0)
    generalize store8 (w2.alloc (.cells #[.string { data := #[] }, .string { data := #[] }, .string { data := #[] }, .string { data := #[] }, .string { data := #[] }, .string { data := #[] }, .string { data := #[] }, .string { data := #[] }] 123)) w.heap.size 0 0 0 0 0 0 0 0 = W at *
    clear r0 r1 r2 r3 r4 r5 r6 r7 f0 f1 f2 f3 f4 f5 f6 f7
    obtain ⟨r0, r1, r2, r3, r4, r5, r6, r7⟩ := E1.out.all
    refine bodyPost_ret (v := parseRet none) (by simp [results, Tryd.results80, go_sem, r0, r1, r2, r3, r4, r5, r6, r7, parseRet, arr8]) rfl ⟨by rw [HD.out], E2.out⟩
  | some p =>
    obtain ⟨hp8, hps⟩ := HPf.out p rfl
    have HPs := Lib.hid hps
    have HD0 : Hid (parseB s = grTo p false 8) := Lib.hid HPl.out
    have hH8 := Lib.hid hp8
    obtain ⟨y0, y1, y2, y3, y4, y5, y6, y7, hy⟩ := list8 p hp8
    rw [show placesRet (some p) = .tuple #[.agg #[.string y0, .string y1, .string y2, .string y3, .string y4, .string y5, .string y6, .string y7], .bool true] by rw [hy]; rfl]
    have hAS := ArrS.of w2 p y0 y1 y2 y3 y4 y5 y6 y7 hy
    have bz : Below w2.heap.size w2 (w2.alloc (.cells #[.string y0, .string y1, .string y2, .string y3, .string y4, .string y5, .string y6, .string y7] 123)) := (Below.refl w2.heap.size w2).alloc (Nat.le_refl _) _
    have HZ3 := Lib.hid (HZ2.out.below bz)
    have hlt2 := HZ2.out.lt
    have b3 := chain b2 bz
    have hsz : (w2.alloc (.cells #[.string y0, .string y1, .string y2, .string y3, .string y4, .string y5, .string y6, .string y7] 123)).heap.size = w2.heap.size + 1 := by simp
    have hG := Arr8.zero (w2.alloc (.cells #[.string y0, .string y1, .string y2, .string y3, .string y4, .string y5, .string y6, .string y7] 123)) 76
    have bG : Below (w2.heap.size + 1) (w2.alloc (.cells #[.string y0, .string y1, .string y2, .string y3, .string y4, .string y5, .string y6, .string y7] 123)) ((w2.alloc (.cells #[.string y0, .string y1, .string y2, .string y3, .string y4, .string y5, .string y6, .string y7] 123)).alloc (.cells #[.int .u16 0, .int .u16 0, .int .u16 0, .int .u16 0, .int .u16 0, .int .u16 0, .int .u16 0, .int .u16 0] 76)) := by
      rw [← hsz]
      exact (Below.refl _ _).alloc (Nat.le_refl _) _
    rw [hsz] at hG
    go_wp2_with fail
    generalize (w2.alloc (.cells #[.string y0, .string y1, .string y2, .string y3, .string y4, .string y5, .string y6, .string y7] 123)).alloc (.cells #[.int .u16 0, .int .u16 0, .int .u16 0, .int .u16 0, .int .u16 0, .int .u16 0, .int .u16 0, .int .u16 0] 76) = W4 at *
    generalize w2.alloc (.cells #[.string y0, .string y1, .string y2, .string y3, .string y4, .string y5, .string y6, .string y7] 123) = W3 at *
    have HAS := Lib.hid hAS
    have HG := Lib.hid hG
    clear hAS hG hps hp8 hy HPf
    go_loopw [19] (fun i wr => ∃ (k : Nat) (out gs : List Nat), k ≤ 8 ∧ i = .int .i64 k ∧ out.length = k ∧ Hid (grTo p false k = some out) ∧ Hid (Arr8 wr (w2.heap.size + 1) gs) ∧ Hid (gs = out ++ List.replicate (8 - k) 0) ∧ Below (w2.heap.size + 1) W3 wr) (fun i _ => 8 - (intOf i).toNat)
    case atStart => exact ⟨0, [], [0, 0, 0, 0, 0, 0, 0, 0], by decide, rfl, rfl, Lib.hid rfl, HG, Lib.hid rfl, bG⟩
    case round =>
      obtain ⟨k, out, gs, hk, rfl, hout, HK, HA, HGs, hbel⟩ := hrel
      have hbel3 : Below W3.heap.size W3 wr := by rw [hsz]; exact hbel
      by_cases hk8 : k < 8
      · have hcell := (HAS.out.below hbel3).cell k hk8
        have hqs : (p.getD k ⟨#[]⟩).size ≤ 1000000 := Nat.le_trans (getD_small HPs.out k) (by decide)
        obtain ⟨t, ht⟩ : ∃ t, p.getD k ⟨#[]⟩ = t := ⟨_, rfl⟩
        rw [ht] at hcell hqs
        have Ht := Lib.hid ht
        clear ht
        go_wp2_with fail
        refine (sixGroup_any t _ hqs).mono ?_
        rintro e w5 ⟨rfl, hb5⟩
        have b5 : Below (w2.heap.size + 1) W3 w5 := hbel.trans (hb5.mono (by have := hbel.size; rw [hsz] at this; exact this))
        cases hx : hexG t with
        | none =>
          have HD : Hid (parseB s = none) := Lib.hid (by
            rw [HD0.out]
            apply grTo_dead (k := k + 1) (by omega)
            rw [grTo_false, HK.out]
            simp only []
            rw [Ht.out, hx])
          rw [groupRet_none rfl]
          have b53 : Below W3.heap.size W3 w5 := by rw [hsz]; exact b5
          obtain ⟨r0, r1, r2, r3, r4, r5, r6, r7⟩ := (HZ3.out.below b53).all
          obtain ⟨f0, f1, f2, f3, f4, f5, f6, f7⟩ := (HZ3.out.below b53).lives
          have E1 := Lib.hid (store8_arr 0 0 0 0 0 0 0 0 (HZ3.out.below b53))
          have E2 := Lib.hid (store8_below 0 0 0 0 0 0 0 0 (chain b3 b53) (Nat.le_refl w.heap.size))
          clear hcell
          go_wp2_with fail
          change bodyPost _ _ _ _ _ (store8 w5 w.heap.size 0 0 0 0 0 0 0 0)
          generalize store8 w5 w.heap.size 0 0 0 0 0 0 0 0 = W at *
          clear r0 r1 r2 r3 r4 r5 r6 r7 f0 f1 f2 f3 f4 f5 f6 f7
          obtain ⟨r0, r1, r2, r3, r4, r5, r6, r7⟩ := E1.out.all
          refine bodyPost_ret (v := parseRet none) (by simp [results, Tryd.results80, go_sem, r0, r1, r2, r3, r4, r5, r6, r7, parseRet, arr8]) rfl ⟨by rw [HD.out], E2.out⟩
        | some v =>
          have hv := hexG_lt _ _ hx
          have HK2 : Hid (grTo p false (k + 1) = some (out ++ [v])) := Lib.hid (by
            rw [grTo_false, HK.out]
            simp only []
            rw [Ht.out, hx])
          rw [groupRet_some rfl]
          clear hx
          have HA5 := Lib.hid (HA.out.below hb5)
          have hgc := HA5.out.cells k hk8
          have hgl := HA5.out.live k hk8
          have HS5 := Lib.hid (HA5.out.set hk8 v)
          clear hcell
          go_wp2_with fail
          go_roundw
          case rel => exact ⟨k + 1, out ++ [v], gs.set k v, by omega, by go_num, by simp [hout], HK2, HS5, Lib.hid (by
            rw [HGs.out, List.set_append_right _ _ (by omega), hout, Nat.sub_self, show 8 - k = (8 - (k + 1)) + 1 by omega, List.replicate_succ, List.set_cons_zero]
            simp), b5.setCell (p := ⟨w2.heap.size + 1, k, none⟩) (Nat.le_refl _) _⟩
          case measure => simp [intOf]; omega
      · obtain rfl : k = 8 := by omega
        have hgo : gs = out := by rw [HGs.out]; simp
        subst hgo
        have HD : Hid (parseB s = some gs) := Lib.hid (by rw [HD0.out, HK.out])
        have hA := HA.out
        obtain ⟨x0, x1, x2, x3, x4, x5, x6, x7, hg8⟩ := list8 gs hout
        rw [hg8] at hA HD
        obtain ⟨c0, c1, c2, c3, c4, c5, c6, c7⟩ := hA.all
        obtain ⟨r0, r1, r2, r3, r4, r5, r6, r7⟩ := (HZ3.out.below hbel3).all
        obtain ⟨f0, f1, f2, f3, f4, f5, f6, f7⟩ := (HZ3.out.below hbel3).lives
        have E1 := Lib.hid (store8_arr x0 x1 x2 x3 x4 x5 x6 x7 (HZ3.out.below hbel3))
        have E2 := Lib.hid (store8_below x0 x1 x2 x3 x4 x5 x6 x7 (chain b3 hbel3) (Nat.le_refl w.heap.size))
        clear hA hg8
        go_wp2_with fail
        change bodyPost _ _ _ _ _ (store8 wr w.heap.size x0 x1 x2 x3 x4 x5 x6 x7)
        generalize store8 wr w.heap.size x0 x1 x2 x3 x4 x5 x6 x7 = W at *
        clear r0 r1 r2 r3 r4 r5 r6 r7 f0 f1 f2 f3 f4 f5 f6 f7 c0 c1 c2 c3 c4 c5 c6 c7
        obtain ⟨r0, r1, r2, r3, r4, r5, r6, r7⟩ := E1.out.all
        refine bodyPost_ret (v := parseRet (some [x0, x1, x2, x3, x4, x5, x6, x7])) (by simp [results, Tryd.results80, go_sem, r0, r1, r2, r3, r4, r5, r6, r7, parseRet, arr8]) rfl ⟨by rw [HD.out], E2.out⟩
end Go.Proofs.YtgbajagacmfcmaaDoor
/- Contracts of addr.Print, addr.Parse. -/
namespace Go.Proofs.YtgbajagacmfcmaaDoor
open Go.RowKit
set_option linter.unusedVariables false
set_option maxRecDepth 20000

theorem Tabs.pows {w : World} (h : Tabs w) : ∀ w', Below w.heap.size w w' → Lib.TabIs Tryd.prog w' "internal/strconv.uint64pow10" .u64 Lib.pow10Tab := fun _ hb => (h.below hb).pow
set_option maxRecDepth 100000 in
set_option maxHeartbeats 1000000 in
theorem addrParse_any (s : ByteArray) (w : World) (hs : s.size ≤ 100000) (ht : Tabs w) :
    Calls Tryd.prog 72 #[.string s] w fun e w' => e = .returned (addrRet (parseA s)) ∧ Below w.heap.size w w' := by
  have H2 := fun W => Lib.hid (strict_any s W (by omega))
  have HT := Lib.hid ht
  have HR := Lib.hid (AddrAt.of w 25 #[.int .i64 0, .int .u8 0, .int .u8 0, .int .u8 0, .int .u8 0, .int .u8 0, .int .u8 0, .int .u8 0, .int .u8 0, .int .u8 0, .int .u8 0, .int .u8 0, .int .u8 0, .int .u8 0, .int .u8 0, .int .u8 0, .int .u8 0] 0 (List.replicate 16 0) rfl (zero_addr 0))
  have B0 : Hid (Below w.heap.size w (w.alloc (.cells #[.int .i64 0, .int .u8 0, .int .u8 0, .int .u8 0, .int .u8 0, .int .u8 0, .int .u8 0, .int .u8 0, .int .u8 0, .int .u8 0, .int .u8 0, .int .u8 0, .int .u8 0, .int .u8 0, .int .u8 0, .int .u8 0, .int .u8 0] 25))) := Lib.hid ((Below.refl _ _).alloc (Nat.le_refl _) _)
  go_enter Tryd.func72, Tryd.ntmps72
  go_wp2_with fail
  generalize (w.alloc (.cells #[.int .i64 0, .int .u8 0, .int .u8 0, .int .u8 0, .int .u8 0, .int .u8 0, .int .u8 0, .int .u8 0, .int .u8 0, .int .u8 0, .int .u8 0, .int .u8 0, .int .u8 0, .int .u8 0, .int .u8 0, .int .u8 0, .int .u8 0] 25)) = W at *
  refine (H2 W).out.mono ?_
  rintro e w1 ⟨rfl, hb1⟩
  have HR1 := Lib.hid (HR.out.below hb1)
  have B1 := Lib.hid (chain B0.out hb1)
  have H3 := Lib.hid (sixParse_any s w1 hs (HT.out.below B1.out))
  clear HR B0 hb1 H2
  cases hq : strictB s with
  | some n =>
    have hn := strictB_lt s n hq
    have HO := Lib.hid (addrOf4_any n w1 (by omega))
    have HE : Hid (parseA s = some (4, b4 n)) := Lib.hid (by simp [parseA, hq])
    clear H3 hq hn
    simp only [strictRet]
    go_wp2_with fail
    refine HO.out.mono ?_
    rintro e w2 ⟨rfl, hb2⟩
    have HR2 := Lib.hid (HR1.out.below hb2)
    have hbel := chain B1.out hb2
    have HLN := Lib.hid (b4_len n)
    clear HO HR1 B1 hb2
    go_wp2_with (refine store_addr HR2 _ _ HLN rfl rfl rfl rfl (fun W HW HA => ?_))
    refine bodyPost_ret (results_addr2 Tryd.results72 rfl HA.out) rfl ⟨by rw [HE.out]; rfl, by rw [HW.out]; exact below_cells (by omega) _ _ _ hbel⟩
  | none =>
    simp only [strictRet]
    go_wp2_with fail
    refine H3.out.mono ?_
    rintro e w2 ⟨rfl, hb2⟩
    have HR2 := Lib.hid (HR1.out.below hb2)
    have B2 := Lib.hid (chain B1.out hb2)
    clear H3 HR1 B1 hb2
    cases hp : parseB s with
    | some gs =>
      obtain ⟨hl, hlt⟩ := parseB_len s gs hp
      have HO := fun W => Lib.hid (addrOf6_any gs W hl hlt)
      have HE : Hid (parseA s = some (6, byL gs)) := Lib.hid (by simp [parseA, hq, hp])
      have HLN : Hid ((byL gs).length = 16) := Lib.hid (by rw [byL_len, hl])
      obtain ⟨x0, x1, x2, x3, x4, x5, x6, x7, hgs⟩ := list8 gs hl
      have ha : arr8 gs = .agg #[.int .u16 (x0 : Int), .int .u16 (x1 : Int), .int .u16 (x2 : Int), .int .u16 (x3 : Int), .int .u16 (x4 : Int), .int .u16 (x5 : Int), .int .u16 (x6 : Int), .int .u16 (x7 : Int)] := by rw [hgs]; rfl
      rw [ha] at HO
      simp only [parseRet, Option.getD_some, Option.isSome_some, ha]
      have ba : Below w2.heap.size w2 (w2.alloc (.cells #[.int .u16 (x0 : Int), .int .u16 (x1 : Int), .int .u16 (x2 : Int), .int .u16 (x3 : Int), .int .u16 (x4 : Int), .int .u16 (x5 : Int), .int .u16 (x6 : Int), .int .u16 (x7 : Int)] 76)) := (Below.refl _ _).alloc (Nat.le_refl _) _
      have HR2a := Lib.hid (HR2.out.below ba)
      have B2a := Lib.hid (chain B2.out ba)
      clear hq hp hl hlt hgs ha HR2 B2 ba
      go_wp2_with fail
      generalize (w2.alloc (.cells #[.int .u16 (x0 : Int), .int .u16 (x1 : Int), .int .u16 (x2 : Int), .int .u16 (x3 : Int), .int .u16 (x4 : Int), .int .u16 (x5 : Int), .int .u16 (x6 : Int), .int .u16 (x7 : Int)] 76)) = W2 at *
      refine (HO W2).out.mono ?_
      rintro e w3 ⟨rfl, hb3⟩
      have HR3 := Lib.hid (HR2a.out.below hb3)
      have hbel := chain B2a.out hb3
      clear HO HR2a B2a hb3
      go_wp2_with (refine store_addr HR3 _ _ HLN rfl rfl rfl rfl (fun W HW HA => ?_))
      refine bodyPost_ret (results_addr2 Tryd.results72 rfl HA.out) rfl ⟨by rw [HE.out]; rfl, by rw [HW.out]; exact below_cells (by omega) _ _ _ hbel⟩
    | none =>
      have HE : Hid (parseA s = none) := Lib.hid (by simp [parseA, hq, hp])
      have HLN : Hid ((List.replicate 16 0).length = 16) := Lib.hid rfl
      have hz : arr8 [0, 0, 0, 0, 0, 0, 0, 0] = .agg #[.int .u16 0, .int .u16 0, .int .u16 0, .int .u16 0, .int .u16 0, .int .u16 0, .int .u16 0, .int .u16 0] := rfl
      simp only [parseRet, Option.getD_none, Option.isSome_none, hz]
      have ba : Below w2.heap.size w2 (w2.alloc (.cells #[.int .u16 0, .int .u16 0, .int .u16 0, .int .u16 0, .int .u16 0, .int .u16 0, .int .u16 0, .int .u16 0] 76)) := (Below.refl _ _).alloc (Nat.le_refl _) _
      have HR2a := Lib.hid (HR2.out.below ba)
      have B2a := Lib.hid (chain B2.out ba)
      clear hq hp hz HR2 B2 ba
      go_wp2_with (refine store_addr HR2a _ _ (f := 0) (bs := List.replicate 16 0) HLN rfl rfl rfl rfl (fun W HW HA => ?_))
      refine bodyPost_ret (results_addr2 Tryd.results72 rfl HA.out) rfl ⟨by rw [HE.out]; rfl, by rw [HW.out]; exact below_cells (by omega) _ _ _ B2a.out⟩

end Go.Proofs.YtgbajagacmfcmaaDoor
/- Plain facts on addresses: what is printed is read as it was; mapped and unmapped; the row of addresses is an order. -/
namespace Go.Proofs.YtgbajagacmfcmaaDoor
open Go.RowKit
set_option linter.unusedVariables false
set_option maxRecDepth 20000

theorem groupL_nodot (n : Nat) : ∀ c ∈ groupL n, c.toNat ≠ 46 := by
  have one : ∀ d, d < 16 → (hexc d).toNat ≠ 46 := by
    intro d hd
    rw [hexc_nat d hd]
    split <;> omega
  induction n using Nat.strongRecOn with
  | _ n ih =>
    by_cases h1 : n < 16
    · rw [groupL_one h1]
      intro c hc
      rw [List.mem_singleton] at hc
      rw [hc]
      exact one n h1
    · rw [groupL_more h1]
      intro c hc
      rcases List.mem_append.1 hc with h | h
      · exact ih (n / 16) (by omega) c h
      · rw [List.mem_singleton] at h
        rw [h]
        exact one _ (by omega)
theorem rowL_nodot : ∀ l : List Nat, ∀ c ∈ rowL l, c.toNat ≠ 46
  | [], c, h => by cases h
  | [x], c, h => groupL_nodot x c h
  | x :: y :: r, c, h => by
    rcases List.mem_append.1 (show c ∈ groupL x ++ 58 :: rowL (y :: r) from h) with h | h
    · exact groupL_nodot x c h
    · rcases List.mem_cons.1 h with rfl | h
      · decide
      · exact rowL_nodot (y :: r) c h
theorem strict_nodot (s : ByteArray) (h : ∀ c ∈ s.data.toList, c.toNat ≠ 46) : strictB s = none := by
  have e : pieces s 46 = [s] := by rw [show s = ofL s.data.toList from eq_ofL rfl, pieces_ofL, cutL_none 46 _ (by simpa using h)]; rfl
  unfold strictB
  rw [e]
  rfl
/-- What is printed of groups is no strict text. -/
theorem strict_print (gs : List Nat) (h8 : gs.length = 8) (hlt : ∀ x ∈ gs, x < 65536) : strictB (printB gs) = none := by
  unfold printB
  by_cases hm : mappedB gs = true
  · rw [if_pos hm]
    generalize gs.getD 6 0 / 256 = a
    generalize gs.getD 6 0 % 256 = b
    generalize gs.getD 7 0 / 256 = c
    generalize gs.getD 7 0 % 256 = d
    have e : ofL [58, 58, 102, 102, 102, 102, 58] ++ text4 a b c d = ofL ((58 :: ([58, 102, 102, 102, 102, 58] ++ dec a)) ++ 46 :: (dec b ++ 46 :: (dec c ++ 46 :: dec d))) := eq_ofL (by rw [data_append, ofL_data, text4_data]; simp)
    have hp : pieces (ofL ((58 :: ([58, 102, 102, 102, 102, 58] ++ dec a)) ++ 46 :: (dec b ++ 46 :: (dec c ++ 46 :: dec d)))) 46 = ofL (58 :: ([58, 102, 102, 102, 102, 58] ++ dec a)) :: (cutL 46 (dec b ++ 46 :: (dec c ++ 46 :: dec d))).map ofL := by
      rw [pieces_ofL, cutL_first 46 46 rfl _ _ (fun x hx => by
        rcases List.mem_append.1 (show x ∈ [58, 58, 102, 102, 102, 102, 58] ++ dec a from hx) with h | h
        · simp at h; rcases h with rfl | rfl | rfl <;> decide
        · exact dec_dot a x h)]
      rfl
    have ho : octet (ofL (58 :: ([58, 102, 102, 102, 102, 58] ++ dec a))) = none := by
      unfold octet
      rw [numB_ofL _ _ (by simp)]
      rfl
    rw [e]
    unfold strictB
    rw [hp]
    split
    · exact octTo_dead (k := 1) (by decide) (octTo_stop (k := 0) rfl ho)
    · rfl
  · rw [if_neg hm]
    by_cases h0 : (runB gs).2 = 0
    · rw [if_pos h0]
      exact strict_nodot _ (by rw [rowS_list]; exact rowL_nodot gs)
    · rw [if_neg h0]
      refine strict_nodot _ (fun c hc => ?_)
      rw [data_append, data_append, rowS_list, rowS_list, ofL_data] at hc
      rcases List.mem_append.1 hc with h | h
      · rcases List.mem_append.1 h with h | h
        · exact rowL_nodot _ c h
        · simp at h; rw [h]; decide
      · exact rowL_nodot _ c h
theorem parse_print4 (n : Nat) (hn : n ≤ 4294967295) : parseA (printA 4 (b4 n)) = some (4, b4 n) := by
  have e : printA 4 (b4 n) = text4 (n / 16777216 % 256) (n / 65536 % 256) (n / 256 % 256) (n % 256) := by rw [b4_eq]; rfl
  have hs : strictB (printA 4 (b4 n)) = some n := by
    rw [e]
    exact text4_strict _ _ _ _ _ (by omega) (by omega) (by omega) (by omega) (by unfold num4; omega)
  unfold parseA
  rw [hs]
theorem parse_print6 (bs : List Nat) (h16 : bs.length = 16) (hlt : ∀ x ∈ bs, x < 256) : parseA (printA 6 bs) = some (6, bs) := by
  have e : printA 6 bs = printB (grL bs 8) := rfl
  unfold parseA
  rw [e, strict_print _ (grL_len bs 8) (grL_lt bs hlt 8), parse_print _ (grL_len bs 8) (grL_lt bs hlt 8)]
  show some ((6 : Int), byL (grL bs 8)) = _
  rw [byL_grL bs h16 hlt]
theorem GoodA.parse {f : Int} {bs : List Nat} (h : GoodA f bs) : parseA (printA f bs) = some (f, bs) := by
  cases h with
  | four n hn => exact parse_print4 n hn
  | six _ h16 hlt => exact parse_print6 _ h16 hlt
theorem printA_small (f : Int) (bs : List Nat) (h16 : bs.length = 16) (hlt : ∀ x ∈ bs, x < 256) : (printA f bs).size ≤ 1000 := by
  unfold printA
  split
  · exact Nat.le_trans (text4_size _ _ _ _ (byte_lt hlt 0) (byte_lt hlt 1) (byte_lt hlt 2) (byte_lt hlt 3)) (by decide)
  · split
    · exact printB_small _ (grL_len bs 8) (grL_lt bs hlt 8)
    · decide
theorem GoodA.inj {f g : Int} {xs ys : List Nat} (h : GoodA f xs) (h' : GoodA g ys) (e : printA f xs = printA g ys) : f = g ∧ xs = ys := by
  have h1 := h.parse
  rw [e, h'.parse] at h1
  have := Option.some.inj h1
  exact ⟨(congrArg Prod.fst this).symm, (congrArg Prod.snd this).symm⟩
theorem unmap_four (bs : List Nat) : unmapF 4 bs = 4 ∧ unmapB 4 bs = bs := ⟨rfl, rfl⟩
theorem mapL_lt (n : Nat) : ∀ x ∈ mapL n, x < 256 := by
  unfold mapL
  simp
  omega
theorem last4_mapL (n : Nat) (hn : n ≤ 4294967295) : last4 (mapL n) = n := by
  unfold last4 mapL
  simp
  omega
theorem unmap_mapL (n : Nat) (hn : n ≤ 4294967295) : unmapF 6 (mapL n) = 4 ∧ unmapB 6 (mapL n) = b4 n := by
  have hm : mappedB (grL (mapL n) 8) = true := by
    rw [← mapped_mapL _ (mapL_len n) (mapL_lt n), last4_mapL n hn, decide_eq_true rfl]
  have hi : isMap 6 (mapL n) = true := by unfold isMap; rw [hm]; rfl
  refine ⟨by unfold unmapF; rw [if_pos hi], ?_⟩
  unfold unmapB
  rw [if_pos hi, last4_gr, last4_mapL n hn]
/-- Unmapped, an address is as it was, or one of 32 bits. -/
theorem unmap_or (f : Int) (bs : List Nat) (hlt : ∀ x ∈ bs, x < 256) : (unmapF f bs = f ∧ unmapB f bs = bs ∧ isMap f bs = false) ∨ ∃ n, n ≤ 4294967295 ∧ unmapF f bs = 4 ∧ unmapB f bs = b4 n := by
  cases h : isMap f bs with
  | false => exact .inl ⟨by unfold unmapF; rw [h]; rfl, by unfold unmapB; rw [h]; rfl, rfl⟩
  | true => exact .inr ⟨last4 bs, last4_le bs hlt, by unfold unmapF; rw [if_pos h], by unfold unmapB; rw [if_pos h, last4_gr]⟩
theorem unmap_len (f : Int) (bs : List Nat) (h16 : bs.length = 16) (hlt : ∀ x ∈ bs, x < 256) : (unmapB f bs).length = 16 ∧ ∀ x ∈ unmapB f bs, x < 256 := by
  rcases unmap_or f bs hlt with ⟨_, e, _⟩ | ⟨n, _, _, e⟩
  · rw [e]; exact ⟨h16, hlt⟩
  · rw [e]; exact ⟨b4_len n, b4_lt n⟩
theorem unmap_unmap (f : Int) (bs : List Nat) (hlt : ∀ x ∈ bs, x < 256) : unmapF (unmapF f bs) (unmapB f bs) = unmapF f bs ∧ unmapB (unmapF f bs) (unmapB f bs) = unmapB f bs := by
  rcases unmap_or f bs hlt with ⟨e1, e2, _⟩ | ⟨n, _, e1, e2⟩
  · rw [e1, e2]; exact ⟨e1, e2⟩
  · rw [e1, e2]; exact unmap_four _
theorem mapB_four (bs : List Nat) (hlt : ∀ x ∈ bs, x < 256) : mapB 4 bs = mapL (fourB bs) := (show mapB 4 bs = byL (map8 (fourB bs)) from rfl).trans (map_map8 _ (fourB_le' bs hlt))
theorem map_len (f : Int) (bs : List Nat) (h16 : bs.length = 16) (hlt : ∀ x ∈ bs, x < 256) : (mapB f bs).length = 16 ∧ ∀ x ∈ mapB f bs, x < 256 := by
  by_cases h : f = 4
  · subst h; rw [mapB_four bs hlt]; exact ⟨mapL_len _, mapL_lt _⟩
  · rw [show mapB f bs = bs from if_neg h]; exact ⟨h16, hlt⟩
/-- What is mapped, and then unmapped, is what is unmapped. -/
theorem GoodA.back {f : Int} {bs : List Nat} (h : GoodA f bs) : unmapF (mapF f) (mapB f bs) = unmapF f bs ∧ unmapB (mapF f) (mapB f bs) = unmapB f bs := by
  cases h with
  | four n hn =>
    rw [mapB_four _ (b4_lt n), fourB_b4 n hn]
    exact unmap_mapL n hn
  | six _ h16 hlt => exact ⟨rfl, rfl⟩
theorem GoodA.four_back {f : Int} {bs : List Nat} (h : GoodA f bs) (h4 : f = 4) : mapF f = 6 ∧ unmapF f bs = f ∧ unmapB f bs = bs := by
  subst h4
  exact ⟨rfl, rfl, rfl⟩
/-- The document's example. -/
theorem example_parse : parseA (ofL [58, 58, 102, 102, 102, 102, 58, 49, 48, 46, 48, 46, 48, 46, 49]) = some (6, mapL 167772161) := by decide +kernel
theorem example_print : (printA 4 (b4 167772161)).data.toList = [49, 48, 46, 48, 46, 48, 46, 49] := by decide +kernel
end Go.Proofs.YtgbajagacmfcmaaDoor
/- Contract of cidr.number. -/
namespace Go.Proofs.YtgbajagacmfcmaaDoor
open Go.RowKit
set_option linter.unusedVariables false
set_option maxRecDepth 20000

set_option maxRecDepth 100000 in
set_option maxHeartbeats 1000000 in
theorem cidrNumber_any (s : ByteArray) (w : World) (hs : s.size ≤ 1000000) :
    Calls Tryd.prog 73 #[.string s] w fun e w' => e = .returned (numRet (numP s)) ∧ w = w' := by
  have HN := fun W => Lib.hid (number_any s 10 W hs (.inr (.inl rfl)))
  obtain ⟨R, eR⟩ : ∃ R, numP s = R := ⟨_, rfl⟩
  rw [eR]
  have HE : Hid ((if 1 < s.size ∧ byteOf s 0 = 48 then none else numB s 10) = R) := Lib.hid eR
  clear eR
  by_cases h1 : 1 < s.size
  · have hd : decide (1 < (s.size : Int)) = true := by simp; omega
    have hsz : 0 < s.size := by omega
    have hb := byteOf_eq s 0 hsz
    by_cases h48 : byteOf s 0 = 48
    · rw [if_pos ⟨h1, h48⟩] at HE
      have hd2 : (((s[0]'hsz).toNat : Int) == 48) = true := by rw [← hb, h48]; rfl
      clear h48 hb
      go_enter Tryd.func73, Tryd.ntmps73
      go_wp2_with fail
      go_ret2
      exact ⟨by rw [← HE.out]; rfl, rfl⟩
    · rw [if_neg (fun h => h48 h.2)] at HE
      have hd2 : (((s[0]'hsz).toNat : Int) == 48) = false := by rw [← hb]; simp; omega
      clear h48 hb
      go_enter Tryd.func73, Tryd.ntmps73
      go_wp2_with fail
      refine (HN _).out.mono ?_
      rintro e w1 ⟨rfl, rfl⟩
      rw [HE.out]
      unfold numRet
      go_wp2_with fail
      go_ret2
      exact ⟨rfl, rfl⟩
  · have hd : decide (1 < (s.size : Int)) = false := by simp; omega
    rw [if_neg (fun h => h1 h.1)] at HE
    go_enter Tryd.func73, Tryd.ntmps73
    go_wp2_with fail
    refine (HN _).out.mono ?_
    rintro e w1 ⟨rfl, rfl⟩
    rw [HE.out]
    unfold numRet
    go_wp2_with fail
    go_ret2
    exact ⟨rfl, rfl⟩
end Go.Proofs.YtgbajagacmfcmaaDoor
/- Contracts of cidr.Parse and of the reference's Parse of layer 5. -/
namespace Go.Proofs.YtgbajagacmfcmaaDoor
open Go.RowKit
set_option linter.unusedVariables false
set_option maxRecDepth 20000

set_option maxRecDepth 100000 in
set_option maxHeartbeats 2000000 in
theorem cidrParse_any (s : ByteArray) (w : World) (hs : s.size ≤ 100000) (ht : Tabs w) :
    Calls Tryd.prog 59 #[.string s] w fun e w' => e = .returned (prefRet (parseP s)) ∧ Below w.heap.size w w' := by
  have HT := Lib.hid ht
  have HLZ : Hid ((List.replicate 16 0).length = 16) := Lib.hid rfl
  have HC := Lib.hid (fun w => Tryd.strings_LastIndexByte s 47 (by omega) w)
  have HR := Lib.hid (pref_zeroed w)
  have HB := Lib.hid ((Below.refl w.heap.size w).alloc (Nat.le_refl _) (.cells zP 27))
  obtain ⟨R, eR⟩ : ∃ R, parseP s = R := ⟨_, rfl⟩
  rw [eR]
  unfold parseP at eR
  rcases last_range s with hq | ⟨E, hq, hE⟩
  · rw [if_pos hq] at eR
    have HE := Lib.hid eR
    clear eR ht
    obtain ⟨q, eq⟩ : ∃ q, Lib.lastIndexByte s 47 = q := ⟨_, rfl⟩
    rw [eq] at hq HC
    have hd : decide (q < 0) = true := by simp [hq]
    clear eq
    go_enter Tryd.func59, Tryd.ntmps59
    go_upto_region 1 with fail
    generalize (w.alloc (.cells zP 27)) = W at *
    go_wp2_with fail
    refine (HC.out _).mono ?_
    rintro e w1 ⟨rfl, rfl⟩
    go_wp2_with (first | refine build_zero rfl rfl ?_ | refine store_pref HR _ _ HLZ rfl rfl rfl rfl (fun W HW HP => ?_))
    refine bodyPost_ret (results_pref2 Tryd.results59 rfl HP.out) rfl ⟨by rw [← HE.out]; rfl, by rw [HW.out]; exact below_cells (Nat.le_refl _) _ _ _ HB.out⟩
  · rw [if_neg (by rw [hq]; omega), hq, Int.toNat_natCast] at eR
    rw [hq] at HC
    have HE := Lib.hid eR
    have hE1 : (E : Int) ≤ (s.size : Int) := by omega
    have hE2 : (E : Int) + 1 ≤ (s.size : Int) := by omega
    have hd : decide ((E : Int) < 0) = false := by simp
    have HA := fun W (h : Tabs W) => Lib.hid (addrParse_any (s.extract 0 E) W (by simp; omega) h)
    have HNB := fun W => Lib.hid (cidrNumber_any (s.extract (E + 1) s.size) W (by simp; omega))
    have HOK := Lib.hid (parseA_ok (s.extract 0 E))
    have HNL := Lib.hid (numP_le (s.extract (E + 1) s.size))
    clear eR ht hq
    go_enter Tryd.func59, Tryd.ntmps59
    go_upto_region 1 with fail
    generalize (w.alloc (.cells zP 27)) = W at *
    go_wp2_with fail
    refine (HC.out _).mono ?_
    rintro e w1 ⟨rfl, rfl⟩
    go_wp2_with fail
    refine (HA _ (HT.out.below HB.out)).out.mono ?_
    rintro e w1 ⟨rfl, hb1⟩
    have HR1 := Lib.hid (HR.out.below hb1)
    have HB1 := Lib.hid (chain HB.out hb1)
    have HZ1 := Lib.hid (addr_zeroed w1)
    clear HR HB hb1 HA HC
    cases ho : parseA (s.extract 0 E) with
    | none =>
      rw [ho] at HE
      have HE2 : Hid (((0 : Int), List.replicate 16 0, (0 : Int), (2 : Int)) = R) := HE
      clear HE ho
      unfold addrRet
      go_upto_region 5 with (refine store_addr HZ1 _ _ HLZ rfl rfl rfl rfl (fun W1 HW1 HO1 => ?_))
      have HR2 := Lib.hid (HR1.out.below (below_newA HW1))
      have HB2 := Lib.hid (chain HB1.out (below_newA HW1))
      generalize w1.heap.size = G1 at *
      clear HR1 HB1 HZ1 HW1
      go_wp2_with fail
      refine (HNB _).out.mono ?_
      rintro e w2 ⟨rfl, rfl⟩
      unfold numRet
      go_wp2_with (first | refine build_zero rfl rfl ?_ | refine store_pref HR2 _ _ HLZ rfl rfl rfl rfl (fun W HW HP => ?_))
      refine bodyPost_ret (results_pref2 Tryd.results59 rfl HP.out) rfl ⟨by rw [← HE2.out]; rfl, by rw [HW.out]; exact below_cells (Nat.le_refl _) _ _ _ HB2.out⟩
    | some fb =>
      obtain ⟨f, bs⟩ := fb
      rw [ho] at HE
      obtain ⟨h16, hlt⟩ := HOK.out f bs ho
      have H16 := Lib.hid h16
      have HLT := Lib.hid hlt
      clear ho HOK h16 hlt
      unfold addrRet
      go_upto_region 5 with (refine store_addr HZ1 _ _ H16 rfl rfl rfl rfl (fun W1 HW1 HO1 => ?_))
      have HR2 := Lib.hid (HR1.out.below (below_newA HW1))
      have HB2 := Lib.hid (chain HB1.out (below_newA HW1))
      generalize w1.heap.size = G1 at *
      clear HR1 HB1 HZ1 HW1
      go_wp2_with fail
      refine (HNB _).out.mono ?_
      rintro e w2 ⟨rfl, rfl⟩
      cases hn : numP (s.extract (E + 1) s.size) with
      | none =>
        rw [hn] at HE
        have HE2 : Hid (((0 : Int), List.replicate 16 0, (0 : Int), (2 : Int)) = R) := HE
        clear HE hn HNL
        rw [show numRet none = .tuple #[.int .i64 ((0 : Nat) : Int), .bool false] from rfl]
        go_wp2_with (first | refine build_zero rfl rfl ?_ | refine store_pref HR2 _ _ HLZ rfl rfl rfl rfl (fun W HW HP => ?_))
        refine bodyPost_ret (results_pref2 Tryd.results59 rfl HP.out) rfl ⟨by rw [← HE2.out]; rfl, by rw [HW.out]; exact below_cells (Nat.le_refl _) _ _ _ HB2.out⟩
      | some n =>
        rw [hn] at HE
        have hnl := HNL.out n hn
        have HM := fun W => Lib.hid (cidrMay_any f bs (n : Int) W H16.out HLT.out (WalkArith.wf_i64 ⟨by omega, by omega⟩))
        have HE2 : Hid ((if mayP f bs (n : Int) = true then (f, bs, (n : Int), 0) else (0, List.replicate 16 0, 0, 1)) = R) := HE
        clear HE hn HNL hnl
        generalize mayP f bs (n : Int) = b at *
        rw [show numRet (some n) = .tuple #[.int .i64 (n : Int), .bool true] from rfl]
        have HZ3 := Lib.hid (pref_zeroed W1)
        go_upto_region 9 with (first | refine load_addr_g HO1 _ rfl rfl rfl ?_ | refine build_pref H16 rfl _ _ rfl rfl rfl ?_ | refine store_pref HZ3 _ _ H16 rfl rfl rfl rfl (fun W3 HW3 HP3 => ?_))
        have HR4 := Lib.hid (HR2.out.below (below_newP HW3))
        have HB4 := Lib.hid (chain HB2.out (below_newP HW3))
        generalize W1.heap.size = G3 at *
        clear HR2 HB2 HZ3 HW3 HO1
        go_wp2_with (refine load_pref_g HP3 _ rfl rfl rfl ?_)
        refine (HM _).out.mono ?_
        rintro e w5 ⟨rfl, hb5⟩
        have HR5 := Lib.hid (HR4.out.below hb5)
        have HP5 := Lib.hid (HP3.out.below hb5)
        have HB5 := Lib.hid (chain HB4.out hb5)
        clear HR4 HP3 HB4 hb5 HM
        cases b with
        | true =>
          rw [if_pos rfl] at HE2
          go_wp2_with (first | refine load_pref_g HP5 _ rfl rfl rfl ?_ | refine store_pref HR5 _ _ H16 rfl rfl rfl rfl (fun W HW HP => ?_))
          refine bodyPost_ret (results_pref2 Tryd.results59 rfl HP.out) rfl ⟨by rw [← HE2.out]; rfl, by rw [HW.out]; exact below_cells (Nat.le_refl _) _ _ _ HB5.out⟩
        | false =>
          rw [if_neg (by decide)] at HE2
          go_wp2_with (first | refine build_zero rfl rfl ?_ | refine store_pref HR5 _ _ HLZ rfl rfl rfl rfl (fun W HW HP => ?_))
          refine bodyPost_ret (results_pref2 Tryd.results59 rfl HP.out) rfl ⟨by rw [← HE2.out]; rfl, by rw [HW.out]; exact below_cells (Nat.le_refl _) _ _ _ HB5.out⟩
end Go.Proofs.YtgbajagacmfcmaaDoor
