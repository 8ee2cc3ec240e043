/- Texts that belong together, one behind the other: Util, Base, StrRows, RefSplit, Pieces, Cases, RefLabel, RefRest, RefLabBytes, RefLabGood, RefRun, RefRunAny, RefReadDefs, Cuts. -/
import Derived.WalkKit
import Derived.Lib.Strings
import Derived.Test.YtbeoapfbddcpcaaRows
import Derived.WalkSpells
import Derived.WalkLawsBesides
import Derived.Deep.QuietTactic
import Derived.BigQuiet
import Derived.Lib.Hide
import Derived.Deep.AppendLies
import Derived.Laws.IdiomStrings
import Derived.Lib.ConvBytes
import Derived.Lib.AppendStr
/- Plain facts on texts as rows of bytes; nothing here speaks of the program. -/
namespace Go.Proofs.Ytbeoapfbddcpcaa
open Go.RowKit
set_option linter.unusedVariables false
set_option maxRecDepth 20000

theorem bytes_ext {a b : ByteArray} (h : a.data.toList = b.data.toList) : a = b := by
  cases a; cases b
  simp only at h
  congr
  exact Array.ext' h
theorem isEmpty_true (s : ByteArray) (h : s.size = 0) : s.toList.isEmpty = true := by
  rw [ByteArray.toList_eq]
  have h2 : s.data.toList.length = s.size := by simp
  rw [List.eq_nil_of_length_eq_zero (h2.trans h)]
  rfl
theorem isEmpty_false (s : ByteArray) (h : 0 < s.size) : s.toList.isEmpty = false := by
  rw [ByteArray.toList_eq]
  have h2 : s.data.toList.length = s.size := by simp
  cases h3 : s.data.toList with
  | nil => rw [h3] at h2; simp at h2; omega
  | cons x l => rfl
theorem get!_eq (s : ByteArray) (j : Nat) (h : j < s.size) : s.get! j = s[j] := by
  cases s with | mk d => exact getElem!_pos d j h
theorem getElem_data (s : ByteArray) (j : Nat) (h : j < s.size) : s[j] = s.data.toList[j]'(by simpa using h) := rfl
theorem data_append (a b : ByteArray) : (a ++ b).data.toList = a.data.toList ++ b.data.toList := by simp
theorem data_extract (s : ByteArray) (i j : Nat) : (s.extract i j).data.toList = (s.data.toList.drop i).take (j - i) := Lib.toList_data (s.extract i j) ▸ Lib.extract_toList s i j
theorem append_left (a b : ByteArray) (j : Nat) (h : j < a.size) : ((a ++ b).get! j) = a[j] := by
  have h2 : j < (a ++ b).size := by simp; omega
  rw [get!_eq _ _ h2, getElem_data, getElem_data]
  have e := data_append a b
  have : ((a ++ b).data.toList)[j]? = (a.data.toList ++ b.data.toList)[j]? := by rw [e]
  rw [List.getElem?_eq_getElem (by simpa using h2), List.getElem?_append_left (by simpa using h), List.getElem?_eq_getElem (by simpa using h)] at this
  exact Option.some.inj this
theorem extract_right (a b : ByteArray) : (a ++ b).extract a.size (a ++ b).size = b := by
  apply bytes_ext
  rw [data_extract, data_append, List.drop_append_of_le_length (by simp)]
  have : a.data.toList.drop a.size = [] := List.drop_eq_nil_of_le (by simp)
  rw [this, List.nil_append]
  apply List.take_of_length_le
  simp
end Go.Proofs.Ytbeoapfbddcpcaa
/- Contracts of the small functions of text and of its reference that every statement of the layer runs: Few, Split, Same, lives. -/
namespace Go.Proofs.Ytbeoapfbddcpcaa
open Go.RowKit
set_option linter.unusedVariables false
set_option maxRecDepth 20000

theorem bool_ret {a b : Bool} (h : a = b) : Ending.returned (.bool a) = .returned (.bool b) := by rw [h]
theorem chain {a b c : World} (h : Below a.heap.size a b) (k : Below b.heap.size b c) : Below a.heap.size a c := h.trans (k.mono h.size)

theorem quiet_left {P : Program} {f : FuncId} {args : Array Value} {w : World} {n : Nat} {v : Value}
    (h : Calls P f args (w.drewN n) fun e w' => e = .returned v ∧ w.drewN n = w') : Calls P f args (w.drewN n) fun e w'' => e = .returned v ∧ ∃ m, w'' = w.drewN m :=
  h.mono fun _ _ ⟨he, hm⟩ => ⟨he, n, hm.symm⟩
theorem quiet_add_left {P : Program} {f : FuncId} {args : Array Value} {w : World} {a n : Nat} {v : Value}
    (h : Calls P f args (w.drewN (a + n)) fun e w' => e = .returned v ∧ w.drewN (a + n) = w') :
    Calls P f args (w.drewN (a + n)) fun e w'' => e = .returned v ∧ ∃ m, w'' = w.drewN (a + m) :=
  h.mono fun _ _ ⟨he, hm⟩ => ⟨he, n, hm.symm⟩

theorem add_none (b j : Nat) : (⟨b, 0, none⟩ : Addr).add j = ⟨b, j, none⟩ := by
  unfold Addr.add
  split <;> simp_all

/-- Bytes, as cells. -/
def bys (l : List UInt8) : List Value := l.map fun c => Value.int .u8 ((c.toNat : Nat) : Int)
theorem bys_length (l : List UInt8) : (bys l).length = l.length := by simp [bys]
theorem bys_snoc (l : List UInt8) (c : UInt8) : bys (l ++ [c]) = bys l ++ [.int .u8 ((c.toNat : Nat) : Int)] := by simp [bys]
theorem Try.infoByte : (Try.prog.info? 5).map (fun i => (i.zero, i.size, i.bytes)) = some (some (.int .u8 0), 1, 1) := by kernel_rfl
/-- 'string(b)' of a row of bytes of one's own. -/
theorem own_bytes_back {w : World} {B : Nat} {v : Value} {l : List UInt8} (h : w.ownsRow B 5 1 v l.length (bys l)) :
    (convert 24 9 v).run Try.prog w = .ok (.string ⟨l.toArray⟩) w := by
  by_cases h0 : 0 < l.length
  · obtain ⟨g, c, rfl, _, _⟩ := h.form h0
    refine run_convert_bytes_back (P := Try.prog) w 24 9 5 ⟨g, 0, none⟩ c l Try.underlying24 Try.underlying5 Try.underlying9 (fun j hj => ?_)
    rw [add_none, h.cellAt j (by omega)]
    simp [bys, hj]
  · have hl : l = [] := List.eq_nil_of_length_eq_zero (by omega)
    subst hl
    rcases h.2 with ⟨rfl, _⟩ | ⟨g, cap, cur, rfl, _⟩
    · rw [run_convert_bytes_string w 24 9 5 none 0 0 Try.underlying24 Try.underlying5 Try.underlying9]
      simp [Conv.bytesToString]
      rfl
    · exact run_convert_bytes_back (P := Try.prog) w 24 9 5 ⟨g, 0, none⟩ cap [] Try.underlying24 Try.underlying5 Try.underlying9 (fun j hj => by simp at hj)
/-- One more byte behind a row of bytes of one's own. -/
theorem own_byte {w0 wr w1 : World} {v v' : Value} {l : List UInt8} {x : UInt8} {o : Obj} (hown' : w1.ownsRow w0.heap.size 5 1 v' (l.length + 1) (bys l ++ [.int .u8 ((x.toNat : Nat) : Int)]))
    (hg : (wr.alloc o).grownBy w1 v.ownBlock) (hown : wr.ownsRow w0.heap.size 5 1 v l.length (bys l)) (hb : Below w0.heap.size w0 wr) :
    w1.ownsRow w0.heap.size 5 1 v' (l ++ [x]).length (bys (l ++ [x])) ∧ Below w0.heap.size w0 w1 := by
  refine ⟨by rw [bys_snoc]; simpa using hown', ?_⟩
  refine (hb.alloc hb.size o).grown hg (by have := hb.size; simp; omega) ?_
  intro k hk
  exact (hown.lt k hk).1

/-- 'string([]byte{c})'. -/
theorem one_byte (c : Nat) (hc : c < 256) (W : World) :
    (convert 24 9 (.slice (some ⟨W.heap.size, 0, none⟩) 1 1)).run Try.prog (W.alloc (.cells #[.int .u8 (c : Int)] 5)) = .ok (.string { data := #[UInt8.ofNat c] }) (W.alloc (.cells #[.int .u8 (c : Int)] 5)) := by
  have hb := run_convert_bytes_back (P := Try.prog) (W.alloc (.cells #[.int .u8 (c : Int)] 5)) 24 9 5 ⟨W.heap.size, 0, none⟩ 1 [UInt8.ofNat c] Try.underlying24 Try.underlying5 Try.underlying9 (by
    intro j hj
    obtain rfl : j = 0 := by simpa using hj
    rw [add_none]
    simp [World.cell?_alloc_new]
    omega)
  exact hb

/-- The first so many bytes. -/
def few (s : ByteArray) (n : Nat) : ByteArray := if n < s.size then s.extract 0 n else s
theorem few_size (s : ByteArray) (n : Nat) : (few s n).size ≤ n := by
  unfold few
  split
  · simp; omega
  · omega

set_option maxHeartbeats 400000 in
theorem few_any (s : ByteArray) (n : Nat) (w : World) (hs : s.size ≤ maxLen) (hn : n ≤ 100000) :
    Calls Try.prog 10 #[.string s, .int .i64 n] w fun e w' => e = .returned (.string (few s n)) ∧ w = w' := by
  unfold maxLen at hs
  by_cases h : n < s.size
  · have e : few s n = s.extract 0 n := by unfold few; rw [if_pos h]
    rw [e]
    go_enter Try.func10, Try.ntmps10
    go_wp2
    go_ret
    exact ⟨rfl, rfl⟩
  · have e : few s n = s := by unfold few; rw [if_neg h]
    rw [e]
    go_enter Try.func10, Try.ntmps10
    go_wp2
    go_ret
    exact ⟨rfl, rfl⟩

set_option maxHeartbeats 400000 in
theorem same_true (g h n c d : Nat) (xs : List ByteArray) (w : World) (hn : xs.length = n) (hle : n ≤ 1000000)
    (hg : ∀ i (hi : i < xs.length), w.cell? ⟨g, i, none⟩ = some (.string xs[i])) (hh : ∀ i (hi : i < xs.length), w.cell? ⟨h, i, none⟩ = some (.string xs[i])) :
    Calls Try.prog 14 #[.slice (some ⟨g, 0, none⟩) n c, .slice (some ⟨h, 0, none⟩) n d] w fun e w' => e = .returned (.bool true) ∧ ∃ q, w' = w.drewN q := by
  have HG := Lib.hid hg
  have HH := Lib.hid hh
  have HN := Lib.hid hn
  clear hg hh hn
  go_enter Try.func14, Try.ntmps14
  go_wp2
  go_loopw [5] (fun i wr => ∃ k q : Nat, k ≤ n ∧ i = .int .i64 k ∧ wr = w.drewN q) (fun i _ => n - (intOf i).toNat)
  case atStart => exact ⟨0, 0, Nat.zero_le _, rfl, rfl⟩
  case round =>
    obtain ⟨k, q, hk, rfl, rfl⟩ := hrel
    by_cases hlt : k < n
    · have hk' : k < xs.length := by rw [HN.out]; exact hlt
      have c1 := HG.out k hk'
      have c2 := HH.out k hk'
      have b1 : (k : Int) < (n : Int) := by omega
      have b0 : (0 : Int) ≤ (k : Int) := by omega
      go_wp2
      go_quiet (fail)
      go_wp2
      go_roundw
      case rel => exact ⟨k + 1, _, by omega, by go_num, rfl⟩
      case measure => simp [intOf]; omega
    · go_wp2
      go_ret
      exact ⟨rfl, _, rfl⟩

/-- What a splitting reader holds behind the first k bytes: the pieces so far, and where the next one begins. -/
def sp (s : ByteArray) (sep : Nat) : Nat → List ByteArray × Nat
  | 0 => ([], 0)
  | k + 1 => if (s.data.toList.getD k 0).toNat = sep then ((sp s sep k).1 ++ [s.extract (sp s sep k).2 k], k + 1) else sp s sep k
def pieces (s : ByteArray) (sep : Nat) : List ByteArray := (sp s sep s.size).1 ++ [s.extract (sp s sep s.size).2 s.size]
theorem sp_le (s : ByteArray) (sep : Nat) : ∀ k, (sp s sep k).2 ≤ k ∧ (sp s sep k).1.length ≤ k
  | 0 => by simp [sp]
  | k + 1 => by
    have := sp_le s sep k
    unfold sp
    split
    · simp; omega
    · omega
theorem sp_hit (s : ByteArray) (sep k : Nat) (hk : k < s.size) (h : (s[k]).toNat = sep) : sp s sep (k + 1) = ((sp s sep k).1 ++ [s.extract (sp s sep k).2 k], k + 1) := by
  have e : s.data.toList.getD k 0 = s[k] := by
    rw [List.getD_eq_getElem?_getD, List.getElem?_eq_getElem (by simpa using hk)]; rfl
  rw [sp, e, if_pos h]
theorem sp_miss (s : ByteArray) (sep k : Nat) (hk : k < s.size) (h : ¬ (s[k]).toNat = sep) : sp s sep (k + 1) = sp s sep k := by
  have e : s.data.toList.getD k 0 = s[k] := by
    rw [List.getD_eq_getElem?_getD, List.getElem?_eq_getElem (by simpa using hk)]; rfl
  rw [sp, e, if_neg h]

/-- It returns a slice of its own that holds just these texts, and nothing that was there has turned. -/
def RetStrs (w : World) (l : List ByteArray) (e : Ending) (w' : World) : Prop :=
  ∃ v, e = .returned v ∧ w'.ownsRow w.heap.size 9 1 v l.length (l.map Value.string) ∧ Below w.heap.size w w'

theorem Try.infoString : (Try.prog.info? 9).map (fun i => (i.zero, i.size, i.bytes)) = some (some (.string ByteArray.empty), 1, 16) := by kernel_rfl

/-- One more text behind a row of texts of one's own. -/
theorem own_snoc {w0 wr w1 : World} {v v' : Value} {l : List ByteArray} {x : ByteArray} {o : Obj} (hown' : w1.ownsRow w0.heap.size 9 1 v' (l.length + 1) (l.map Value.string ++ [.string x]))
    (hg : (wr.alloc o).grownBy w1 v.ownBlock) (hown : wr.ownsRow w0.heap.size 9 1 v l.length (l.map Value.string)) (hb : Below w0.heap.size w0 wr) :
    w1.ownsRow w0.heap.size 9 1 v' (l ++ [x]).length ((l ++ [x]).map Value.string) ∧ Below w0.heap.size w0 w1 := by
  refine ⟨by simpa using hown', ?_⟩
  refine (hb.alloc hb.size o).grown hg (by have := hb.size; simp; omega) ?_
  intro k hk
  exact (hown.lt k hk).1

set_option maxHeartbeats 400000 in
theorem split_any (s : ByteArray) (sep : Nat) (w : World) (hs : s.size ≤ 1000000) :
    Calls Try.prog 35 #[.string s, .int .u8 sep] w (RetStrs w (pieces s sep)) := by
  obtain ⟨i0, hi0, hz0, hz1, hz2⟩ := info_parts Try.infoString
  go_enter Try.func35, Try.ntmps35
  go_wp2
  go_loopw [5, 6, 10] (fun v f i wr => ∃ k : Nat, k ≤ s.size ∧ i = .int .i64 k ∧ f = .int .i64 (sp s sep k).2 ∧ wr.ownsRow w.heap.size 9 1 v (sp s sep k).1.length ((sp s sep k).1.map Value.string) ∧ Below w.heap.size w wr) (fun _ _ i _ => s.size - (intOf i).toNat)
  case atStart => exact ⟨0, Nat.zero_le _, rfl, rfl, World.ownsRow_nil _ _ _ _, Below.refl _ _⟩
  case round =>
    obtain ⟨k, hk, rfl, rfl, hown, hbel⟩ := hrel
    have hle := sp_le s sep k
    have hsz := hbel.size
    by_cases hlt : k < s.size
    · by_cases hit : (s[k]).toNat = sep
      · have HS := Lib.hid (sp_hit s sep k hlt hit)
        go_wp2_with (at_builtin; refine wpList_append_own _ rfl (.tmp 18) (.tmp 23) 29 rfl w.heap.size 9 i0 _ 1 16 Try.underlying29 hi0 hz0 hz1 hz2 rfl (by decide) _ _ _ rfl (hown.alloc _) ⟨wr.heap.size, 0, none⟩ 1 1 [.string (s.extract (sp s sep k).2 k)] rfl rfl ?c1 ?c2 ?c3 ?c4 ?c5 ?_)
        case c1 => exact cell_one_new _ _ _
        case c2 => intro u hu; simp at hu; subst hu; rfl
        case c3 => unfold maxLen; omega
        case c4 => omega
        case c5 => simp; omega
        intro v' w1 hown' hgrow _
        have R := own_snoc hown' hgrow hown hbel
        clear hown' hgrow hown hbel
        go_wp2
        go_roundw
        case rel => exact ⟨k + 1, by omega, by go_num, by rw [HS.out]; go_num, by rw [HS.out]; exact R.1, R.2⟩
        case measure => simp [intOf]; omega
      · have HS := Lib.hid (sp_miss s sep k hlt hit)
        go_wp2
        go_roundw
        case rel => exact ⟨k + 1, by omega, by go_num, by rw [HS.out], by rw [HS.out]; exact hown, hbel⟩
        case measure => simp [intOf]; omega
    · have hks : k = s.size := by omega
      subst hks
      go_wp2_with (at_builtin; refine wpList_append_own _ rfl (.tmp 28) (.tmp 32) 29 rfl w.heap.size 9 i0 _ 1 16 Try.underlying29 hi0 hz0 hz1 hz2 rfl (by decide) _ _ _ rfl (hown.alloc _) ⟨wr.heap.size, 0, none⟩ 1 1 [.string (s.extract (sp s sep s.size).2 s.size)] rfl rfl ?c1 ?c2 ?c3 ?c4 ?c5 ?_)
      case c1 => exact cell_one_new _ _ _
      case c2 => intro u hu; simp at hu; subst hu; rfl
      case c3 => unfold maxLen; omega
      case c4 => omega
      case c5 => simp; omega
      intro v' w1 hown' hgrow _
      have R := own_snoc hown' hgrow hown hbel
      clear hown' hgrow hown hbel
      go_wp2
      go_ret
      exact ⟨_, rfl, R.1, R.2⟩

theorem pieces_example : pieces { data := #[97, 46, 46, 98] } 46 = [{ data := #[97] }, { data := #[] }, { data := #[98] }] := by kernel_rfl

/-- The cells of a row of texts. -/
theorem own_cells {w : World} {B g n c : Nat} {l : List ByteArray} (h : w.ownsRow B 9 1 (.slice (some ⟨g, 0, none⟩) n c) n (l.map Value.string)) :
    ∀ i (hi : i < l.length), w.cell? ⟨g, i, none⟩ = some (.string l[i]) := by
  intro i hi
  have hl : l.length = n := by simpa using h.1
  rw [h.cellAt i (by omega)]
  simp [hi]

theorem bcell {W w1 : World} (hb : Below W.heap.size W w1) : (∀ b o, b < W.heap.size → w1.cell? ⟨b, o, none⟩ = W.cell? ⟨b, o, none⟩) ∧ (∀ b o, b < W.heap.size → w1.frozen? ⟨b, o, none⟩ = W.frozen? ⟨b, o, none⟩) :=
  ⟨fun b o h => hb.cell (p := ⟨b, o, none⟩) h, fun b o h => hb.frozen (p := ⟨b, o, none⟩) h⟩
theorem belowN {B : Nat} {a w : World} (h : Below B a w) (n : Nat) : Below B a (w.drewN n) := ⟨h.os, h.tape, h.output, h.size, h.block⟩

end Go.Proofs.Ytbeoapfbddcpcaa
/- Rows of texts as a walk reads them; the pieces of a text are no longer than the text. -/
namespace Go.Proofs.Ytbeoapfbddcpcaa
open Go.RowKit
set_option linter.unusedVariables false
set_option maxRecDepth 20000

/-- A row of these texts lies at g. -/
structure StrRow (w : World) (g n c : Nat) (l : List ByteArray) : Prop where
  len : l.length = n
  cap : n ≤ c
  capm : c ≤ maxLen
  lt : g < w.heap.size
  cells : ∀ i, i < n → w.cell? ⟨g, i, none⟩ = some (.string (l.getD i ⟨#[]⟩))
theorem StrRow.below {w w' : World} {g n c : Nat} {l : List ByteArray} (h : StrRow w g n c l) (hb : Below w.heap.size w w') : StrRow w' g n c l :=
  ⟨h.len, h.cap, h.capm, Nat.lt_of_lt_of_le h.lt hb.size, fun i hi => by rw [hb.cell (p := ⟨g, i, none⟩) h.lt]; exact h.cells i hi⟩
theorem StrRow.front {w : World} {g n c : Nat} {l : List ByteArray} (h : StrRow w g n c l) (m : Nat) (hm : m ≤ n) : StrRow w g m c (l.take m) :=
  ⟨by have := h.len; simp; omega, by have := h.cap; omega, h.capm, h.lt, fun i hi => by
    rw [h.cells i (by omega)]
    simp only [List.getD_eq_getElem?_getD, List.getElem?_take, if_pos hi]⟩
theorem own_row {w : World} {B : Nat} {v : Value} {l : List ByteArray} (h : w.ownsRow B 9 1 v l.length (l.map Value.string)) (h0 : 0 < l.length) :
    ∃ g c, v = .slice (some ⟨g, 0, none⟩) l.length c ∧ B ≤ g ∧ StrRow w g l.length c l := by
  have hh := h
  obtain ⟨g, c, rfl, hg1, hg2⟩ := h.form h0
  have hc : l.length ≤ c ∧ c ≤ maxLen := by
    rcases hh.2 with ⟨h1, _⟩ | ⟨g', cap, cur, h1, _, _, h2, h3, _⟩
    · simp at h1
    · simp only [Value.slice.injEq, Option.some.injEq, Addr.mk.injEq, and_true, true_and] at h1
      obtain ⟨rfl, rfl⟩ := h1
      exact ⟨h2, h3⟩
  refine ⟨g, c, rfl, hg1, rfl, hc.1, hc.2, hg2, fun i hi => ?_⟩
  rw [own_cells hh i hi, List.getD_eq_getElem?_getD, List.getElem?_eq_getElem hi]
  rfl

theorem pieces_pos (s : ByteArray) (sep : Nat) : 0 < (pieces s sep).length := by unfold pieces; simp
theorem sp_small (s : ByteArray) (sep : Nat) : ∀ k, ∀ p ∈ (sp s sep k).1, p.size ≤ s.size
  | 0 => by simp [sp]
  | k + 1 => by
    unfold sp
    split
    · intro p hp
      rcases List.mem_append.1 hp with h | h
      · exact sp_small s sep k p h
      · simp at h; subst h; simp; omega
    · exact sp_small s sep k
theorem pieces_small (s : ByteArray) (sep : Nat) : ∀ p ∈ pieces s sep, p.size ≤ s.size := by
  intro p hp
  unfold pieces at hp
  rcases List.mem_append.1 hp with h | h
  · exact sp_small s sep _ p h
  · simp at h; subst h; simp
theorem getD_small {l : List ByteArray} {m : Nat} (h : ∀ p ∈ l, p.size ≤ m) (i : Nat) : (l.getD i ⟨#[]⟩).size ≤ m := by
  rw [List.getD_eq_getElem?_getD]
  cases hi : l[i]? with
  | none => exact Nat.zero_le _
  | some p => exact h p (List.mem_of_getElem? hi)
theorem pieces_len (s : ByteArray) (sep : Nat) : (pieces s sep).length ≤ s.size + 1 := by
  unfold pieces
  have := (sp_le s sep s.size).2
  simp
  omega

/-- What Split hands back, as a row. -/
theorem split_row (s : ByteArray) (sep : Nat) (w : World) (hs : s.size ≤ 1000000) :
    Calls Try.prog 35 #[.string s, .int .u8 sep] w fun e w' => ∃ g c, e = .returned (.slice (some ⟨g, 0, none⟩) (pieces s sep).length c) ∧ w.heap.size ≤ g ∧ StrRow w' g (pieces s sep).length c (pieces s sep) ∧ Below w.heap.size w w' := by
  refine (split_any s sep w hs).mono ?_
  rintro e w' ⟨v, rfl, ho, hb⟩
  obtain ⟨g, c, rfl, h1, h2⟩ := own_row ho (pieces_pos s sep)
  exact ⟨g, c, rfl, h1, h2, hb⟩
end Go.Proofs.Ytbeoapfbddcpcaa
/- The contract of the reference's Split. -/
namespace Go.Proofs.Ytbeoapfbddcpcaa
open Go.RowKit
set_option linter.unusedVariables false
set_option maxRecDepth 20000

set_option maxHeartbeats 400000 in
theorem refSplit_any (s : ByteArray) (sep : Nat) (w : World) (hs : s.size ≤ 1000000) :
    Calls Try.prog 36 #[.string s, .int .u8 sep] w (RetStrs w (pieces s sep)) := by
  obtain ⟨i0, hi0, hz0, hz1, hz2⟩ := info_parts Try.infoString
  go_enter Try.func36, Try.ntmps36
  go_wp2
  go_loopw [5, 6, 7] (fun v f i wr => ∃ k : Nat, k ≤ s.size ∧ i = .int .i64 k ∧ f = .int .i64 (sp s sep k).2 ∧ wr.ownsRow w.heap.size 9 1 v (sp s sep k).1.length ((sp s sep k).1.map Value.string) ∧ Below w.heap.size w wr) (fun _ _ i _ => s.size - (intOf i).toNat)
  case atStart => exact ⟨0, Nat.zero_le _, rfl, rfl, World.ownsRow_nil _ _ _ _, Below.refl _ _⟩
  case round =>
    obtain ⟨k, hk, rfl, rfl, hown, hbel⟩ := hrel
    have hle := sp_le s sep k
    have hsz := hbel.size
    by_cases hlt : k < s.size
    · by_cases hit : (s[k]).toNat = sep
      · have HS := Lib.hid (sp_hit s sep k hlt hit)
        go_wp2_with (at_builtin; refine wpList_append_own _ rfl (.tmp 19) (.tmp 24) 29 rfl w.heap.size 9 i0 _ 1 16 Try.underlying29 hi0 hz0 hz1 hz2 rfl (by decide) _ _ _ rfl (hown.alloc _) ⟨wr.heap.size, 0, none⟩ 1 1 [.string (s.extract (sp s sep k).2 k)] rfl rfl ?c1 ?c2 ?c3 ?c4 ?c5 ?_)
        case c1 => exact cell_one_new _ _ _
        case c2 => intro u hu; simp at hu; subst hu; rfl
        case c3 => unfold maxLen; omega
        case c4 => omega
        case c5 => simp; omega
        intro v' w1 hown' hgrow _
        have R := own_snoc hown' hgrow hown hbel
        clear hown' hgrow hown hbel
        go_wp2
        go_roundw
        case rel => exact ⟨k + 1, by omega, by go_num, by rw [HS.out]; go_num, by rw [HS.out]; exact R.1, R.2⟩
        case measure => simp [intOf]; omega
      · have HS := Lib.hid (sp_miss s sep k hlt hit)
        go_wp2
        go_roundw
        case rel => exact ⟨k + 1, by omega, by go_num, by rw [HS.out], by rw [HS.out]; exact hown, hbel⟩
        case measure => simp [intOf]; omega
    · have hks : k = s.size := by omega
      subst hks
      go_wp2_with (at_builtin; refine wpList_append_own _ rfl (.tmp 28) (.tmp 32) 29 rfl w.heap.size 9 i0 _ 1 16 Try.underlying29 hi0 hz0 hz1 hz2 rfl (by decide) _ _ _ rfl (hown.alloc _) ⟨wr.heap.size, 0, none⟩ 1 1 [.string (s.extract (sp s sep s.size).2 s.size)] rfl rfl ?c1 ?c2 ?c3 ?c4 ?c5 ?_)
      case c1 => exact cell_one_new _ _ _
      case c2 => intro u hu; simp at hu; subst hu; rfl
      case c3 => unfold maxLen; omega
      case c4 => omega
      case c5 => simp; omega
      intro v' w1 hown' hgrow _
      have R := own_snoc hown' hgrow hown hbel
      clear hown' hgrow hown hbel
      go_wp2
      go_ret
      exact ⟨_, rfl, R.1, R.2⟩
/-- What the reference's Split hands back, as a row. -/
theorem refSplit_row (s : ByteArray) (sep : Nat) (w : World) (hs : s.size ≤ 1000000) :
    Calls Try.prog 36 #[.string s, .int .u8 sep] w fun e w' => ∃ g c, e = .returned (.slice (some ⟨g, 0, none⟩) (pieces s sep).length c) ∧ w.heap.size ≤ g ∧ StrRow w' g (pieces s sep).length c (pieces s sep) ∧ Below w.heap.size w w' := by
  refine (refSplit_any s sep w hs).mono ?_
  rintro e w' ⟨v, rfl, ho, hb⟩
  obtain ⟨g, c, rfl, h1, h2⟩ := own_row ho (pieces_pos s sep)
  exact ⟨g, c, rfl, h1, h2, hb⟩
end Go.Proofs.Ytbeoapfbddcpcaa
/- Contracts of the functions that cut a text: blank, Trim, the reference's Split, Join; and that the pieces joined are the text. -/
namespace Go.Proofs.Ytbeoapfbddcpcaa
open Go.RowKit
set_option linter.unusedVariables false
set_option maxRecDepth 20000

def blankC (n : Nat) : Bool := decide (n = 32) || decide (n = 9)

/-- The byte at a place, or 0. -/
def byteAt (s : ByteArray) (k : Nat) : Nat := (s.data.toList.getD k 0).toNat
theorem byteAt_eq (s : ByteArray) (k : Nat) (h : k < s.size) : byteAt s k = (s[k]).toNat := by
  unfold byteAt
  rw [List.getD_eq_getElem?_getD, List.getElem?_eq_getElem (by simpa using h)]; rfl
/-- From k on, past blanks. -/
def skip (s : ByteArray) : Nat → Nat → Nat
  | 0, k => k
  | n + 1, k => if k < s.size ∧ blankC (byteAt s k) = true then skip s n (k + 1) else k
def lead (s : ByteArray) : Nat := skip s s.size 0
/-- From k back, past blanks, not below f. -/
def back (s : ByteArray) (f : Nat) : Nat → Nat
  | 0 => 0
  | k + 1 => if f < k + 1 ∧ blankC (byteAt s k) = true then back s f k else k + 1
def trimB (s : ByteArray) : ByteArray := s.extract (lead s) (back s (lead s) s.size)
theorem skip_le (s : ByteArray) : ∀ n k, k ≤ s.size → k ≤ skip s n k ∧ skip s n k ≤ s.size
  | 0, k, h => ⟨Nat.le_refl _, h⟩
  | n + 1, k, h => by
    unfold skip
    split
    · rename_i hh
      have := skip_le s n (k + 1) (by omega)
      omega
    · omega
theorem skip_stop (s : ByteArray) : ∀ n k, s.size ≤ k + n → skip s n k < s.size → blankC (byteAt s (skip s n k)) = false
  | 0, k, h, hlt => by unfold skip at hlt; omega
  | n + 1, k, h, hlt => by
    by_cases hh : k < s.size ∧ blankC (byteAt s k) = true
    · have e : skip s (n + 1) k = skip s n (k + 1) := by rw [skip, if_pos hh]
      rw [e] at hlt ⊢
      exact skip_stop s n (k + 1) (by omega) hlt
    · have e : skip s (n + 1) k = k := by rw [skip, if_neg hh]
      rw [e] at hlt ⊢
      cases hb : blankC (byteAt s k) with
      | false => rfl
      | true => exact absurd ⟨hlt, hb⟩ hh
theorem back_le (s : ByteArray) (f : Nat) : ∀ k, f ≤ k → f ≤ back s f k ∧ back s f k ≤ k
  | 0, h => ⟨h, Nat.le_refl _⟩
  | k + 1, h => by
    unfold back
    split
    · rename_i hh
      have := back_le s f k (by omega)
      omega
    · omega
theorem back_stop (s : ByteArray) (f : Nat) : ∀ k, f < back s f k → blankC (byteAt s (back s f k - 1)) = false
  | 0, h => by unfold back at h; omega
  | k + 1, h => by
    by_cases hh : f < k + 1 ∧ blankC (byteAt s k) = true
    · have e : back s f (k + 1) = back s f k := by rw [back, if_pos hh]
      rw [e] at h ⊢
      exact back_stop s f k h
    · have e : back s f (k + 1) = k + 1 := by rw [back, if_neg hh]
      rw [e] at h ⊢
      cases hb : blankC (byteAt s k) with
      | false => exact hb
      | true => exact absurd ⟨h, hb⟩ hh
theorem lead_le (s : ByteArray) : lead s ≤ s.size := (skip_le s s.size 0 (Nat.zero_le _)).2
theorem byteAt_extract (s : ByteArray) (f t j : Nat) (h : f + j < t) (ht : t ≤ s.size) : byteAt (s.extract f t) j = byteAt s (f + j) := by
  unfold byteAt
  rw [data_extract]
  simp only [List.getD_eq_getElem?_getD]
  rw [List.getElem?_take_of_lt (by omega), List.getElem?_drop]
theorem lead_zero (s : ByteArray) (h : s.size = 0 ∨ blankC (byteAt s 0) = false) : lead s = 0 := by
  unfold lead
  cases hs : s.size with
  | zero => rfl
  | succ n =>
    rw [skip, if_neg]
    rcases h with h | h
    · omega
    · simp [h]
theorem back_full (s : ByteArray) (k : Nat) (h : k = 0 ∨ blankC (byteAt s (k - 1)) = false) : back s 0 k = k := by
  cases k with
  | zero => rfl
  | succ k =>
    rw [back, if_neg]
    rcases h with h | h
    · omega
    · simp at h; simp [h]
theorem trim_trim (s : ByteArray) : trimB (trimB s) = trimB s := by
  have h1 := lead_le s
  have h2 := back_le s (lead s) s.size h1
  have hz : (trimB s).size = back s (lead s) s.size - lead s := by
    unfold trimB
    simp
    omega
  have hl : lead (trimB s) = 0 := by
    apply lead_zero
    by_cases h0 : (trimB s).size = 0
    · exact .inl h0
    · right
      unfold trimB
      rw [byteAt_extract _ _ _ _ (by omega) (by omega)]
      exact skip_stop s s.size 0 (by omega) (by show lead s < s.size; omega)
  have hb : back (trimB s) 0 (trimB s).size = (trimB s).size := by
    apply back_full
    by_cases h0 : (trimB s).size = 0
    · exact .inl h0
    · right
      have e : byteAt (trimB s) ((trimB s).size - 1) = byteAt s (back s (lead s) s.size - 1) := by
        rw [hz]
        unfold trimB
        rw [byteAt_extract _ _ _ _ (by omega) (by omega)]
        congr 1
        omega
      rw [e]
      exact back_stop s (lead s) s.size (by omega)
  have e : trimB (trimB s) = (trimB s).extract (lead (trimB s)) (back (trimB s) (lead (trimB s)) (trimB s).size) := rfl
  rw [e, hl, hb]
  apply bytes_ext
  rw [data_extract]
  simp only [List.drop_zero, Nat.sub_zero]
  exact List.take_of_length_le (by simp)
theorem skip_step (s : ByteArray) (k : Nat) (h : k < s.size) (hb : blankC (s[k]).toNat = true) : skip s (s.size - k) k = skip s (s.size - (k + 1)) (k + 1) := by
  rw [show s.size - k = (s.size - (k + 1)) + 1 by omega, skip, if_pos ⟨h, by rw [byteAt_eq s k h]; exact hb⟩]
theorem skip_out (s : ByteArray) (k : Nat) (h : ¬ k < s.size ∨ ∃ hk : k < s.size, blankC (s[k]).toNat = false) : skip s (s.size - k) k = k := by
  cases hn : s.size - k with
  | zero => rfl
  | succ n =>
    rw [skip, if_neg]
    rintro ⟨h1, h2⟩
    rcases h with h | ⟨hk, h⟩
    · exact h h1
    · rw [byteAt_eq s k hk, h] at h2
      cases h2
theorem back_step (s : ByteArray) (f t : Nat) (h : f < t + 1) (hk : t < s.size) (hb : blankC (s[t]).toNat = true) : back s f (t + 1) = back s f t := by
  rw [back, if_pos ⟨h, by rw [byteAt_eq s t hk]; exact hb⟩]
theorem back_out (s : ByteArray) (f t : Nat) (hf : f ≤ t) (h : ¬ f < t ∨ ∃ hk : t - 1 < s.size, blankC (s[t - 1]).toNat = false) : back s f t = t := by
  cases t with
  | zero => rfl
  | succ t =>
    rw [back, if_neg]
    rintro ⟨h1, h2⟩
    rcases h with h | ⟨hk, h⟩
    · exact h h1
    · have hk' : t < s.size := by simpa using hk
      rw [byteAt_eq s t hk'] at h2
      have h' : blankC (s[t]).toNat = false := by simpa using h
      rw [h'] at h2
      cases h2

/-- The first k texts with another one between. -/
def joinTo (xs : List ByteArray) (sep : ByteArray) : Nat → ByteArray
  | 0 => { data := #[] }
  | k + 1 => (if 0 < k then joinTo xs sep k ++ sep else joinTo xs sep k) ++ xs.getD k { data := #[] }
theorem joinTo_mono (xs : List ByteArray) (sep : ByteArray) (k : Nat) : ∀ m, (joinTo xs sep k).size ≤ (joinTo xs sep (k + m)).size
  | 0 => Nat.le_refl _
  | m + 1 => by
    have := joinTo_mono xs sep k m
    rw [← Nat.add_assoc, joinTo, ByteArray.size_append]
    split
    · rw [ByteArray.size_append]; omega
    · omega
theorem joinTo_piece (xs : List ByteArray) (sep : ByteArray) (k : Nat) : (xs.getD k { data := #[] }).size ≤ (joinTo xs sep (k + 1)).size := by
  rw [joinTo, ByteArray.size_append]; omega

set_option maxHeartbeats 400000 in
theorem join_any (g n c : Nat) (xs : List ByteArray) (sep : ByteArray) (w : World) (hn : xs.length = n) (hle : n ≤ 1000000) (hsep : sep.size ≤ 1000)
    (hall : (joinTo xs sep n).size ≤ 1000000) (hg : ∀ i (hi : i < xs.length), w.cell? ⟨g, i, none⟩ = some (.string xs[i])) :
    Calls Try.prog 38 #[.slice (some ⟨g, 0, none⟩) n c, .string sep] w fun e w' => e = .returned (.string (joinTo xs sep n)) ∧ w = w' := by
  have HG := Lib.hid hg
  have HN := Lib.hid hn
  clear hg hn
  go_enter Try.func38, Try.ntmps38
  go_wp2
  go_loop [5, 6] (fun t i => ∃ k : Nat, k ≤ n ∧ i = .int .i64 k ∧ t = .string (joinTo xs sep k)) (fun _ i => n - (intOf i).toNat)
  case atStart => exact ⟨0, Nat.zero_le _, rfl, rfl⟩
  case round =>
    obtain ⟨k, hk, rfl, rfl⟩ := hrel
    by_cases hlt : k < n
    · have hk' : k < xs.length := by rw [HN.out]; exact hlt
      have hx : xs.getD k { data := #[] } = xs[k] := by rw [List.getD_eq_getElem?_getD, List.getElem?_eq_getElem hk']; rfl
      have hm := joinTo_mono xs sep (k + 1) (n - (k + 1))
      rw [show k + 1 + (n - (k + 1)) = n by omega] at hm
      have hp := joinTo_piece xs sep k
      have hm0 := joinTo_mono xs sep k 1
      rw [hx] at hp
      have HJ : Hid (joinTo xs sep (k + 1) = (if 0 < k then joinTo xs sep k ++ sep else joinTo xs sep k) ++ xs[k]) := by rw [← hx]; exact Lib.hid rfl
      have c1 := HG.out k hk'
      have z1 : (xs[k]).size ≤ 1000000 := by omega
      have z2 : (joinTo xs sep k).size ≤ 1000000 := by omega
      clear hx hm hp hm0
      generalize xs[k] = x at *
      generalize joinTo xs sep k = t at *
      by_cases h0 : 0 < k
      · go_wp2
        go_round
        case rel => exact ⟨k + 1, by omega, by go_num, by rw [HJ.out, if_pos h0]⟩
        case measure => simp [intOf]; omega
      · go_wp2
        go_round
        case rel => exact ⟨k + 1, by omega, by go_num, by rw [HJ.out, if_neg h0]⟩
        case measure => simp [intOf]; omega
    · obtain rfl : k = n := by omega
      go_wp2
      go_ret
      exact ⟨rfl, rfl⟩

/-- All of them. -/
def joinB (xs : List ByteArray) (sep : ByteArray) : ByteArray := joinTo xs sep xs.length
theorem joinTo_front (xs : List ByteArray) (sep x : ByteArray) : ∀ k, k ≤ xs.length → joinTo (xs ++ [x]) sep k = joinTo xs sep k
  | 0, _ => rfl
  | k + 1, h => by
    have e : (xs ++ [x]).getD k { data := #[] } = xs.getD k { data := #[] } := by
      simp only [List.getD_eq_getElem?_getD]
      rw [List.getElem?_append_left (by omega)]
    rw [joinTo, joinTo, joinTo_front xs sep x k (by omega), e]
theorem joinB_snoc (xs : List ByteArray) (sep x : ByteArray) : joinB (xs ++ [x]) sep = (if 0 < xs.length then joinB xs sep ++ sep else joinB xs sep) ++ x := by
  have e : (xs ++ [x]).getD xs.length { data := #[] } = x := by simp [List.getD_eq_getElem?_getD]
  unfold joinB
  rw [List.length_append, List.length_singleton, joinTo, joinTo_front xs sep x xs.length (Nat.le_refl _), e]
theorem take_more (l : List UInt8) (f k : Nat) (h : f ≤ k) : l.take f ++ (l.drop f).take (k - f) = l.take k := by
  rw [← List.take_add, Nat.add_sub_cancel' h]
theorem sp_join (s : ByteArray) (sep : Nat) (hsep : sep < 256) : ∀ k, k ≤ s.size →
    ((sp s sep k).1 = [] ∧ (sp s sep k).2 = 0) ∨ (0 < (sp s sep k).1.length ∧ (joinB (sp s sep k).1 { data := #[UInt8.ofNat sep] }).data.toList ++ [UInt8.ofNat sep] = s.data.toList.take (sp s sep k).2)
  | 0, _ => .inl ⟨rfl, rfl⟩
  | k + 1, h => by
    have ih := sp_join s sep hsep k (by omega)
    have hle := sp_le s sep k
    by_cases hit : (s[k]).toNat = sep
    · rw [sp_hit s sep k (by omega) hit]
      right
      refine ⟨by simp, ?_⟩
      have hlast : s.data.toList.take (k + 1) = s.data.toList.take k ++ [UInt8.ofNat sep] := by
        rw [List.take_succ_eq_append_getElem (by simp; omega)]
        congr 2
        rw [← hit]
        exact (UInt8.ofNat_toNat).symm
      rw [joinB_snoc, data_append, data_extract, hlast]
      congr 1
      rcases ih with ⟨h1, h2⟩ | ⟨h1, h2⟩
      · rw [h1, h2]
        simp [joinB, joinTo]
      · rw [if_pos h1, data_append]
        show (_ ++ [UInt8.ofNat sep]) ++ _ = _
        rw [h2, take_more _ _ _ hle.1]
    · rw [sp_miss s sep k (by omega) hit]
      exact ih
theorem pieces_join (s : ByteArray) (sep : Nat) (hsep : sep < 256) : joinB (pieces s sep) { data := #[UInt8.ofNat sep] } = s := by
  have hle := sp_le s sep s.size
  apply bytes_ext
  unfold pieces
  rw [joinB_snoc, data_append, data_extract]
  have hall : s.data.toList.take s.size = s.data.toList := List.take_of_length_le (by simp)
  rcases sp_join s sep hsep s.size (Nat.le_refl _) with ⟨h1, h2⟩ | ⟨h1, h2⟩
  · rw [h1, h2]
    simp [joinB, joinTo]
    exact hall
  · rw [if_pos h1, data_append]
    show (_ ++ [UInt8.ofNat sep]) ++ _ = _
    rw [h2, take_more _ _ _ hle.1, hall]
end Go.Proofs.Ytbeoapfbddcpcaa
/- Contracts of the functions that make letters small and hold texts against one another: small, Lower, Like. -/
namespace Go.Proofs.Ytbeoapfbddcpcaa
open Go.RowKit
set_option linter.unusedVariables false
set_option maxRecDepth 20000

/-- A byte, as the small letter if it is a great one. -/
def lowC (n : Nat) : Nat := if 65 ≤ n ∧ n ≤ 90 then n + 32 else n
theorem lowC_le {n : Nat} (h : n < 256) : lowC n < 256 := by unfold lowC; split <;> omega
theorem lowC_low (n : Nat) : lowC (lowC n) = lowC n := by
  by_cases h : 65 ≤ n ∧ n ≤ 90
  · have e : lowC n = n + 32 := by unfold lowC; rw [if_pos h]
    rw [e]; unfold lowC; rw [if_neg (by omega)]
  · have e : lowC n = n := by unfold lowC; rw [if_neg h]
    rw [e, e]
def lowU (c : UInt8) : UInt8 := UInt8.ofNat (lowC c.toNat)
theorem lowU_toNat (c : UInt8) : (lowU c).toNat = lowC c.toNat := by
  unfold lowU
  rw [UInt8.toNat_ofNat']
  exact Nat.mod_eq_of_lt (lowC_le c.toNat_lt)
theorem lowU_low (c : UInt8) : lowU (lowU c) = lowU c := by
  apply UInt8.toNat_inj.1
  rw [lowU_toNat, lowU_toNat, lowC_low]
/-- A text with small letters. -/
def lowB (s : ByteArray) : ByteArray := ⟨(s.data.toList.map lowU).toArray⟩
theorem lowB_list (s : ByteArray) : (lowB s).data.toList = s.data.toList.map lowU := by simp [lowB]
theorem lowB_size (s : ByteArray) : (lowB s).size = s.size := by
  have : (lowB s).data.toList.length = s.data.toList.length := by rw [lowB_list]; simp
  simpa using this
theorem lowB_low (s : ByteArray) : lowB (lowB s) = lowB s := by
  apply bytes_ext
  rw [lowB_list, lowB_list, List.map_map]
  congr 1
  funext c
  exact lowU_low c
def likeB (a b : ByteArray) : Bool := (lowB a).toList == (lowB b).toList
theorem likeB_iff (a b : ByteArray) : likeB a b = true ↔ a.data.toList.map lowU = b.data.toList.map lowU := by
  unfold likeB
  rw [beq_iff_eq, ByteArray.toList_eq, ByteArray.toList_eq, lowB_list, lowB_list]
theorem likeB_symm (a b : ByteArray) : likeB a b = likeB b a := by
  rw [Bool.eq_iff_iff, likeB_iff, likeB_iff]
  exact eq_comm
theorem likeB_low (a : ByteArray) : likeB a (lowB a) = true := by
  rw [likeB_iff, lowB_list, List.map_map]
  congr 1
  funext c
  exact (lowU_low c).symm
theorem likeB_size {a b : ByteArray} (h : a.size ≠ b.size) : likeB a b = false := by
  cases hl : likeB a b with
  | false => rfl
  | true =>
    rw [likeB_iff] at hl
    have := congrArg List.length hl
    simp at this
    omega
def LikeTo (a b : ByteArray) (k : Nat) : Prop := ∀ j (ha : j < a.size) (hb : j < b.size), j < k → lowC (a[j]).toNat = lowC (b[j]).toNat
theorem likeTo_zero (a b : ByteArray) : LikeTo a b 0 := fun _ _ _ h => by omega
theorem likeTo_succ {a b : ByteArray} {k : Nat} (h : LikeTo a b k) (ha : k < a.size) (hb : k < b.size) (he : lowC (a[k]).toNat = lowC (b[k]).toNat) : LikeTo a b (k + 1) := by
  intro j ja jb hlt
  by_cases e : j = k
  · subst e; exact he
  · exact h j ja jb (by omega)
theorem likeB_true {a b : ByteArray} {k : Nat} (h : LikeTo a b k) (hs : a.size = b.size) (hk : a.size ≤ k) : likeB a b = true := by
  rw [likeB_iff]
  apply List.ext_getElem
  · simpa using hs
  · intro j h1 h2
    have j1 : j < a.size := by simpa using h1
    have j2 : j < b.size := by simpa using h2
    rw [List.getElem_map, List.getElem_map]
    apply UInt8.toNat_inj.1
    rw [lowU_toNat, lowU_toNat]
    exact h j j1 j2 (by omega)
theorem likeB_false {a b : ByteArray} {k : Nat} (ha : k < a.size) (hb : k < b.size) (he : lowC (a[k]).toNat ≠ lowC (b[k]).toNat) : likeB a b = false := by
  cases hl : likeB a b with
  | false => rfl
  | true =>
    rw [likeB_iff] at hl
    have h1 : (a.data.toList.map lowU)[k]? = (b.data.toList.map lowU)[k]? := by rw [hl]
    rw [List.getElem?_eq_getElem (by simpa using ha), List.getElem?_eq_getElem (by simpa using hb), List.getElem_map, List.getElem_map] at h1
    have h2 := congrArg UInt8.toNat (Option.some.inj h1)
    rw [lowU_toNat, lowU_toNat] at h2
    exact absurd h2 he

set_option maxHeartbeats 400000 in
theorem small_any (c : Nat) (w : World) (hc : c < 256) :
    Calls Try.prog 49 #[.int .u8 (c : Int)] w fun e w' => e = .returned (.int .u8 ((lowC c : Nat) : Int)) ∧ w = w' := by
  by_cases h : 65 ≤ c ∧ c ≤ 90
  · have e : lowC c = c + 32 := by unfold lowC; rw [if_pos h]
    rw [e]
    go_enter Try.func49, Try.ntmps49
    go_wp2
    go_ret
    refine ⟨?_, rfl⟩
    have e2 : IntKind.u8.wrap ((c : Int) + 32) = ((c + 32 : Nat) : Int) := by rw [IntKind.wrap_u8]; omega
    first | rfl | rw [e2] | simp [e2]
  · have e : lowC c = c := by unfold lowC; rw [if_neg h]
    rw [e]
    by_cases h1 : c < 65
    · go_enter Try.func49, Try.ntmps49
      go_wp2
      go_ret
      exact ⟨rfl, rfl⟩
    · have h2 : 90 < c := by omega
      go_enter Try.func49, Try.ntmps49
      go_wp2
      go_ret
      exact ⟨rfl, rfl⟩

set_option maxHeartbeats 400000 in
theorem like_any (a b : ByteArray) (w : World) (ha : a.size ≤ 1000000) (hb : b.size ≤ 1000000) :
    Calls Try.prog 39 #[.string a, .string b] w fun e w' => e = .returned (.bool (likeB a b)) ∧ ∃ q, w' = w.drewN q := by
  by_cases hs : a.size = b.size
  · have HS := Lib.hid hs
    have hs1 : ((a.size : Int) != (b.size : Int)) = false := by simp [hs]
    have hs2 : a.size ≤ b.size := by omega
    clear hs
    go_enter Try.func39, Try.ntmps39
    go_wp2
    go_loopw [13] (fun i wr => ∃ k q : Nat, k ≤ a.size ∧ i = .int .i64 k ∧ LikeTo a b k ∧ wr = w.drewN q) (fun i _ => a.size - (intOf i).toNat)
    case atStart => exact ⟨0, 0, Nat.zero_le _, rfl, likeTo_zero _ _, rfl⟩
    case round =>
      obtain ⟨k, q, hk, rfl, hlk, rfl⟩ := hrel
      by_cases hlt : k < a.size
      · have hltb : k < b.size := by omega
        have b0 : (0 : Int) ≤ (k : Int) := by omega
        have b1 : (k : Int) < (a.size : Int) := by omega
        have b2 : (k : Int) < (b.size : Int) := by omega
        have u1 : (a[k]).toNat < 256 := (a[k]).toNat_lt
        have u2 : (b[k]).toNat < 256 := (b[k]).toNat_lt
        by_cases he : lowC (a[k]).toNat = lowC (b[k]).toNat
        · have ht : ((lowC (a[k]).toNat : Int) != (lowC (b[k]).toNat : Int)) = false := by simp [he]
          have HE := Lib.hid he
          clear he
          go_wp2
          go_quiet ((go_at_call 49; first | exact quiet_left (small_any _ _ (by assumption)) | exact quiet_add_left (small_any _ _ (by assumption))))
          go_wp2
          go_roundw
          case rel => exact ⟨k + 1, _, by omega, by go_num, likeTo_succ hlk hlt hltb HE.out, rfl⟩
          case measure => simp [intOf]; omega
        · have ht : ((lowC (a[k]).toNat : Int) != (lowC (b[k]).toNat : Int)) = true := by simp; omega
          have HE := Lib.hid he
          clear he
          go_wp2
          go_quiet ((go_at_call 49; first | exact quiet_left (small_any _ _ (by assumption)) | exact quiet_add_left (small_any _ _ (by assumption))))
          go_wp2
          go_ret
          exact ⟨bool_ret (likeB_false hlt hltb HE.out).symm, by first | exact ⟨_, rfl⟩ | exact ⟨_, World.drewN_drewN _ _ _⟩⟩
      · go_wp2
        go_ret
        exact ⟨bool_ret (likeB_true hlk HS.out (by omega)).symm, _, rfl⟩
  · have hs1 : ((a.size : Int) != (b.size : Int)) = true := by simp; omega
    have HS := Lib.hid hs
    clear hs
    go_enter Try.func39, Try.ntmps39
    go_wp2
    go_ret
    exact ⟨bool_ret (likeB_size HS.out).symm, 0, rfl⟩

/-- The row of bytes that Lower works on, its first k bytes made small. -/
def LowAt (w : World) (s : ByteArray) (k : Nat) (wr : World) : Prop :=
  Below w.heap.size w wr ∧ w.heap.size < wr.heap.size ∧ ∀ j (hj : j < s.size), wr.cell? ⟨w.heap.size, j, none⟩ = some (.int .u8 ((if j < k then lowC (s[j]).toNat else (s[j]).toNat : Nat) : Int)) ∧ wr.frozen? ⟨w.heap.size, j, none⟩ = false
theorem lowAt_start (w : World) (s : ByteArray) : LowAt w s 0 (Lib.bytesWorld w 5 s) := by
  refine ⟨⟨rfl, rfl, rfl, by rw [Lib.bytesWorld_size]; omega, fun k hk => Lib.bytesWorld_at_old w _ s k hk⟩, by rw [Lib.bytesWorld_size]; omega, fun j hj => ⟨?_, ?_⟩⟩
  · rw [Lib.bytesWorld_cell w _ s j hj, if_neg (by omega)]
    have e : s.data.toList.getD j 0 = s[j] := by
      rw [List.getD_eq_getElem?_getD, List.getElem?_eq_getElem (by simpa using hj)]; rfl
    rw [e]
  · unfold World.frozen?
    rw [Lib.bytesWorld_at_new]
    have : s.size ≤ (Lib.bytesCells w 5 s).size := by simp [Lib.bytesCells]
    simp
    omega
theorem lowAt_step {w : World} {s : ByteArray} {k : Nat} {wr : World} (h : LowAt w s k wr) (hk : k < s.size) : LowAt w s (k + 1) (wr.setCell ⟨w.heap.size, k, none⟩ (.int .u8 ((lowC (s[k]).toNat : Nat) : Int))) := by
  obtain ⟨h1, h2, h3⟩ := h
  refine ⟨h1.setCell (Nat.le_refl _) _, by simpa [World.setCell] using h2, fun j hj => ⟨?_, by rw [World.frozen?_setCell]; exact (h3 j hj).2⟩⟩
  by_cases e : j = k
  · subst e
    rw [World.cell?_setCell_same _ _ _ (h3 j hj).1, if_pos (by omega)]
  · rw [World.cell?_setCell_other _ _ _ _ (by intro h; injection h; omega), (h3 j hj).1]
    by_cases hlt : j < k
    · rw [if_pos hlt, if_pos (by omega)]
    · rw [if_neg hlt, if_neg (by omega)]
theorem lowAt_back {w : World} {s : ByteArray} {wr : World} (cap : Nat) (h : LowAt w s s.size wr) :
    (convert 24 9 (.slice (some ⟨w.heap.size, 0, none⟩) s.size cap)).run Try.prog wr = .ok (.string (lowB s)) wr := by
  have hl : (s.data.toList.map lowU).length = s.size := by simp
  have hb := run_convert_bytes_back (P := Try.prog) wr 24 9 5 ⟨w.heap.size, 0, none⟩ cap (s.data.toList.map lowU) Try.underlying24 Try.underlying5 Try.underlying9 (by
    intro j hj
    have hj' : j < s.size := by omega
    have := (h.2.2 j hj').1
    rw [if_pos hj'] at this
    rw [List.getElem_map, lowU_toNat]
    rw [add_none]
    exact this)
  rw [hl] at hb
  exact hb

theorem low_snoc (s : ByteArray) (k : Nat) (h : k < s.size) : (s.data.toList.map lowU).take (k + 1) = (s.data.toList.map lowU).take k ++ [lowU s[k]] := by
  rw [List.take_succ_eq_append_getElem (by simpa using h)]
  simp
  rfl

set_option maxHeartbeats 400000 in
theorem refLower_any (s : ByteArray) (w : World) (hs : s.size ≤ 1000000) :
    Calls Try.prog 50 #[.string s] w fun e w' => e = .returned (.string (lowB s)) ∧ Below w.heap.size w w' := by
  obtain ⟨i0, hi0, hz0, hz1, hz2⟩ := info_parts Try.infoByte
  go_enter Try.func50, Try.ntmps50
  go_wp2
  go_loopw [3, 4] (fun v i wr => ∃ k : Nat, k ≤ s.size ∧ i = .int .i64 k ∧ wr.ownsRow w.heap.size 5 1 v ((s.data.toList.map lowU).take k).length (bys ((s.data.toList.map lowU).take k)) ∧ Below w.heap.size w wr) (fun _ i _ => s.size - (intOf i).toNat)
  case atStart => exact ⟨0, Nat.zero_le _, rfl, World.ownsRow_nil _ _ _ _, Below.refl _ _⟩
  case round =>
    obtain ⟨k, hk, rfl, hown, hbel⟩ := hrel
    have hsz := hbel.size
    by_cases hlt : k < s.size
    · have HS := Lib.hid (low_snoc s k hlt)
      have hl : ((s.data.toList.map lowU).take k).length ≤ k := List.length_take_le _ _
      generalize (s.data.toList.map lowU).take k = l at *
      have u1 : (s[k]).toNat < 256 := (s[k]).toNat_lt
      by_cases hc : 65 ≤ (s[k]).toNat ∧ (s[k]).toNat ≤ 90
      · have hx : (s[k]).toNat + 32 = (lowU s[k]).toNat := by rw [lowU_toNat]; unfold lowC; rw [if_pos hc]
        have HX := Lib.hid hx
        clear hx
        have hw : IntKind.u8.wrap (((s[k]).toNat : Int) + 32) = ((s[k]).toNat : Int) + 32 := by rw [IntKind.wrap_u8]; omega
        go_wp2_with (at_builtin; refine wpList_append_own _ rfl (.tmp 23) (.tmp 25) 24 rfl w.heap.size 5 i0 _ 1 1 Try.underlying24 hi0 hz0 hz1 hz2 rfl (by decide) _ _ _ rfl (hown.alloc _) ⟨wr.heap.size, 0, none⟩ 1 1 [.int .u8 (((s[k]).toNat : Int) + 32)] rfl rfl ?c1 ?c2 ?c3 ?c4 ?c5 ?_)
        case c1 => exact cell_one_new _ _ _
        case c2 => intro u hu; simp at hu; subst hu; rfl
        case c3 => unfold maxLen; omega
        case c4 => omega
        case c5 => simp; omega
        intro v' w1 hown' hgrow _
        rw [show (((s[k]).toNat : Int) + 32) = ((lowU s[k]).toNat : Int) by have := HX.out; omega] at hown'
        have R := own_byte hown' hgrow hown hbel
        clear hown' hgrow hown hbel hw
        go_wp2
        go_roundw
        case rel => exact ⟨k + 1, by omega, by go_num, by rw [HS.out]; exact R.1, R.2⟩
        case measure => simp [intOf]; omega
      · have hx : (s[k]).toNat = (lowU s[k]).toNat := by rw [lowU_toNat]; unfold lowC; rw [if_neg hc]
        have HX := Lib.hid hx
        clear hx
        have hcc : (s[k]).toNat < 65 ∨ 90 < (s[k]).toNat := by omega
        clear hc
        rcases hcc with hc | hc
        all_goals
          go_wp2_with (at_builtin; refine wpList_append_own _ rfl (.tmp 23) (.tmp 25) 24 rfl w.heap.size 5 i0 _ 1 1 Try.underlying24 hi0 hz0 hz1 hz2 rfl (by decide) _ _ _ rfl (hown.alloc _) ⟨wr.heap.size, 0, none⟩ 1 1 [.int .u8 ((s[k]).toNat : Int)] rfl rfl (cell_one_new _ _ _) (by intro u hu; simp at hu; subst hu; rfl) (by unfold maxLen; omega) (by omega) (by simp; omega) ?_)
          intro v' w1 hown' hgrow _
          rw [HX.out] at hown'
          have R := own_byte hown' hgrow hown hbel
          clear hown' hgrow hown hbel
          go_wp2
          go_roundw
          case rel => exact ⟨k + 1, by omega, by go_num, by rw [HS.out]; exact R.1, R.2⟩
          case measure => simp [intOf]; omega
    · obtain rfl : k = s.size := by omega
      have hb := own_bytes_back hown
      have e : (⟨((s.data.toList.map lowU).take s.size).toArray⟩ : ByteArray) = lowB s := by
        rw [List.take_of_length_le (by simp)]; rfl
      rw [e] at hb
      clear hown e
      go_wp2
      go_ret
      exact ⟨rfl, hbel⟩

set_option maxHeartbeats 400000 in
theorem refLike_any (a b : ByteArray) (w : World) (ha : a.size ≤ 1000000) (hb : b.size ≤ 1000000) :
    Calls Try.prog 40 #[.string a, .string b] w fun e w' => e = .returned (.bool (likeB a b)) ∧ Below w.heap.size w w' := by
  have HL : Hid (likeB a b = ((lowB a).toList == (lowB b).toList)) := rfl
  go_enter Try.func40, Try.ntmps40
  go_wp2_with fail
  refine (refLower_any a _ ha).mono ?_
  rintro e w1 ⟨rfl, hb1⟩
  go_wp2_with fail
  refine (refLower_any b _ hb).mono ?_
  rintro e w2 ⟨rfl, hb2⟩
  go_wp2
  go_ret
  exact ⟨bool_ret HL.out.symm, chain hb1 hb2⟩

end Go.Proofs.Ytbeoapfbddcpcaa
/- Contracts of the reference's layer 8: Labels, size, May, Rest, Under. -/
namespace Go.Proofs.Ytbeoapfbddcpcaa
open Go.RowKit
set_option linter.unusedVariables false
set_option maxRecDepth 20000

/-- A name's labels. -/
def labelsB (s : ByteArray) : List ByteArray := if s.size = 0 then [] else pieces s 46
/-- A row of texts, which may be nil. -/
def RowS (w : World) (a : Option Addr) (c : Nat) (l : List ByteArray) : Prop := (a = none ∧ c = 0 ∧ l = []) ∨ ∃ g, a = some ⟨g, 0, none⟩ ∧ StrRow w g l.length c l
theorem RowS.below {w w' : World} {a : Option Addr} {c : Nat} {l : List ByteArray} (h : RowS w a c l) (hb : Below w.heap.size w w') : RowS w' a c l := by
  rcases h with h | ⟨g, e, h⟩
  · exact .inl h
  · exact .inr ⟨g, e, h.below hb⟩
theorem RowS.cap {w : World} {a : Option Addr} {c : Nat} {l : List ByteArray} (h : RowS w a c l) : l.length ≤ c ∧ c ≤ maxLen := by
  rcases h with ⟨_, rfl, rfl⟩ | ⟨g, e, h⟩
  · exact ⟨Nat.le_refl _, Nat.zero_le _⟩
  · exact ⟨h.cap, h.capm⟩
theorem labels_small (s : ByteArray) : ∀ p ∈ labelsB s, p.size ≤ s.size := by
  unfold labelsB
  split
  · intro p hp; cases hp
  · exact pieces_small s 46
theorem labels_len (s : ByteArray) : (labelsB s).length ≤ s.size + 1 := by
  unfold labelsB
  split
  · simp
  · exact pieces_len s 46
set_option maxRecDepth 100000 in
theorem refLabels_any (s : ByteArray) (w : World) (hs : s.size ≤ 1000000) :
    Calls Try.prog 16 #[.string s] w fun e w' => ∃ a c, e = .returned (.slice a (labelsB s).length c) ∧ RowS w' a c (labelsB s) ∧ Below w.heap.size w w' := by
  by_cases h0 : s.size = 0
  · have he := isEmpty_true s h0
    have HE : Hid (labelsB s = []) := Lib.hid (by unfold labelsB; rw [if_pos h0])
    rw [HE.out]
    clear hs h0
    go_enter Try.func16, Try.ntmps16
    go_wp2_with fail
    go_ret
    exact ⟨none, 0, rfl, .inl ⟨rfl, rfl, rfl⟩, Below.refl _ _⟩
  · have he := isEmpty_false s (by omega)
    have HE : Hid (labelsB s = pieces s 46) := Lib.hid (by unfold labelsB; rw [if_neg h0])
    have HSP := Lib.hid (refSplit_row s 46 w hs)
    rw [HE.out]
    generalize pieces s 46 = l at *
    clear hs h0 HE
    go_enter Try.func16, Try.ntmps16
    go_wp2_with fail
    refine HSP.out.mono ?_
    rintro e w1 ⟨g, c, rfl, hg, hr, hb⟩
    have HR := Lib.hid hr
    have HB := Lib.hid hb
    clear hr hb hg HSP
    go_wp2_with fail
    go_ret
    exact ⟨_, _, rfl, .inr ⟨g, rfl, HR.out⟩, HB.out⟩
/-- How many bytes names of these labels have. -/
def sizeTo (l : List ByteArray) : Nat → Nat
  | 0 => 1
  | k + 1 => sizeTo l k + 1 + (l.getD k ⟨#[]⟩).size
def sizeL (l : List ByteArray) : Nat := sizeTo l l.length
theorem sizeTo_le {l : List ByteArray} (h : ∀ p ∈ l, p.size ≤ 1000000) : ∀ k, sizeTo l k ≤ 1 + k * 1000001
  | 0 => by simp [sizeTo]
  | k + 1 => by
    have h1 := sizeTo_le h k
    have h2 := getD_small h k
    unfold sizeTo
    omega
set_option maxRecDepth 100000 in
theorem refSize_any (a : Option Addr) (c : Nat) (l : List ByteArray) (w : World) (hr : RowS w a c l) (hsm : ∀ p ∈ l, p.size ≤ 1000000) (hn : l.length ≤ 1000000) :
    Calls Try.prog 34 #[.slice a l.length c] w fun e w' => e = .returned (.int .i64 ((sizeL l : Nat) : Int)) ∧ w' = w := by
  have HR := Lib.hid hr
  have HSM := Lib.hid hsm
  have HSZ : Hid (sizeL l = sizeTo l l.length) := Lib.hid rfl
  obtain ⟨N, hN⟩ : ∃ N, l.length = N := ⟨_, rfl⟩
  have HN := Lib.hid hN
  rw [hN] at hn HSZ ⊢
  clear hr hsm hN
  go_enter Try.func34, Try.ntmps34
  go_wp2_with fail
  go_loop [3, 4] (fun t i => ∃ k : Nat, k ≤ N ∧ i = .int .i64 (k : Int) ∧ t = .int .i64 ((sizeTo l k : Nat) : Int)) (fun _ i => N - (intOf i).toNat)
  case atStart => exact ⟨0, Nat.zero_le _, rfl, rfl⟩
  case round =>
    obtain ⟨k, hk, rfl, rfl⟩ := hrel
    by_cases hkN : k < N
    · have hd : decide ((k : Int) < (N : Int)) = true := decide_eq_true (by omega)
      have hdn : decide (k < N) = true := decide_eq_true (by omega)
      rcases HR.out with ⟨_, _, h0⟩ | ⟨g, rfl, h⟩
      · have := HN.out; rw [h0] at this; simp at this; omega
      have hc := h.cells k (by rw [HN.out]; exact hkN)
      have hz := getD_small HSM.out k
      have hb := sizeTo_le HSM.out k
      have HS : Hid (sizeTo l (k + 1) = sizeTo l k + 1 + (l.getD k ⟨#[]⟩).size) := Lib.hid rfl
      generalize l.getD k ⟨#[]⟩ = p at *
      generalize sizeTo l k = t at *
      have hb1 : (0 : Int) ≤ (k : Int) := by omega
      have hb2 : (k : Int) < (N : Int) := by omega
      clear h
      go_wp2_with fail
      go_round
      case rel => exact ⟨k + 1, by omega, by go_num, by rw [HS.out]; go_num⟩
      case measure => simp [intOf]; omega
    · obtain rfl : k = N := by omega
      have hd : decide ((k : Int) < (k : Int)) = false := by simp
      go_wp2_with fail
      go_ret
      exact ⟨by rw [HSZ.out]; rfl, rfl⟩
/-- A name of these labels may be. -/
def MayL (l : List ByteArray) : Prop := (∀ k, k < l.length → 1 ≤ (l.getD k ⟨#[]⟩).size ∧ (l.getD k ⟨#[]⟩).size ≤ 63) ∧ sizeL l ≤ 255
instance (l : List ByteArray) : Decidable (MayL l) := by unfold MayL; infer_instance
def mayN (s : ByteArray) : Bool := decide (MayL (labelsB s))
set_option maxRecDepth 100000 in
set_option maxHeartbeats 1000000 in
theorem refMay8_any (s : ByteArray) (w : World) (hs : s.size ≤ 100000) :
    Calls Try.prog 11 #[.string s] w fun e w' => e = .returned (.bool (mayN s)) ∧ Below w.heap.size w w' := by
  have HLA := Lib.hid (refLabels_any s w (by omega))
  have HM : Hid (mayN s = decide (MayL (labelsB s))) := Lib.hid rfl
  have hsm : ∀ p ∈ labelsB s, p.size ≤ 1000000 := fun p hp => Nat.le_trans (labels_small s p hp) (by omega)
  have hln := labels_len s
  generalize mayN s = m at *
  generalize labelsB s = l at *
  have HSM := Lib.hid hsm
  have HSI := fun a c W (h : RowS W a c l) => Lib.hid (refSize_any a c l W h hsm (by omega))
  clear hsm
  go_enter Try.func11, Try.ntmps11
  go_wp2_with fail
  refine HLA.out.mono ?_
  rintro e w1 ⟨a, c, rfl, hr, hb⟩
  have HR := Lib.hid hr
  have HB := Lib.hid hb
  replace HSI := HSI a c w1 hr
  clear hr hb HLA
  obtain ⟨N, hN⟩ : ∃ N, l.length = N := ⟨_, rfl⟩
  have HN := Lib.hid hN
  rw [hN] at hln HSI ⊢
  clear hN
  go_wp2_with fail
  go_loop [4] (fun i => ∃ k : Nat, k ≤ N ∧ i = .int .i64 (k : Int) ∧ Hid (∀ j, j < k → 1 ≤ (l.getD j ⟨#[]⟩).size ∧ (l.getD j ⟨#[]⟩).size ≤ 63)) (fun i => N - (intOf i).toNat)
  case atStart => exact ⟨0, Nat.zero_le _, rfl, Lib.hid (fun j hj => absurd hj (by omega))⟩
  case round =>
    obtain ⟨k, hk, rfl, HO⟩ := hrel
    by_cases hkN : k < N
    · have hd : decide ((k : Int) < (N : Int)) = true := decide_eq_true (by omega)
      have hdn : decide (k < N) = true := decide_eq_true (by omega)
      rcases HR.out with ⟨_, _, h0⟩ | ⟨g, rfl, h⟩
      · have := HN.out; rw [h0] at this; simp at this; omega
      have hc := h.cells k (by rw [HN.out]; exact hkN)
      have hz := getD_small HSM.out k
      have HO2 : Hid (1 ≤ (l.getD k ⟨#[]⟩).size ∧ (l.getD k ⟨#[]⟩).size ≤ 63 → ∀ j, j < k + 1 → 1 ≤ (l.getD j ⟨#[]⟩).size ∧ (l.getD j ⟨#[]⟩).size ≤ 63) := Lib.hid (fun hp j hj => by
        by_cases h : j < k
        · exact HO.out j h
        · obtain rfl : j = k := by omega
          exact hp)
      have HF : Hid (¬ (1 ≤ (l.getD k ⟨#[]⟩).size ∧ (l.getD k ⟨#[]⟩).size ≤ 63) → m = false) := Lib.hid (fun hp => by
        rw [HM.out]
        exact decide_eq_false (fun h => hp (h.1 k (by rw [HN.out]; exact hkN))))
      generalize l.getD k ⟨#[]⟩ = p at *
      have hb1 : (0 : Int) ≤ (k : Int) := by omega
      have hb2 : (k : Int) < (N : Int) := by omega
      clear h
      by_cases h1 : p.size < 1
      · have hd1 : decide ((p.size : Int) < 1) = true := decide_eq_true (by omega)
        have hd1n : decide (p.size < 1) = true := decide_eq_true (by omega)
        have ES := HF.out (fun h => absurd h.1 (by omega))
        subst ES
        clear HO2 HF HM
        go_wp2_with fail
        go_ret
        exact ⟨rfl, HB.out⟩
      · have hd1 : decide ((p.size : Int) < 1) = false := decide_eq_false (by omega)
        have hd1n : decide (p.size < 1) = false := decide_eq_false (by omega)
        by_cases h2 : 63 < p.size
        · have hd2 : decide (63 < (p.size : Int)) = true := decide_eq_true (by omega)
          have hd2n : decide (63 < p.size) = true := decide_eq_true (by omega)
          have ES := HF.out (fun h => absurd h.2 (by omega))
          subst ES
          clear HO2 HF HM
          go_wp2_with fail
          go_ret
          exact ⟨rfl, HB.out⟩
        · have hd2 : decide (63 < (p.size : Int)) = false := decide_eq_false (by omega)
          have hd2n : decide (63 < p.size) = false := decide_eq_false (by omega)
          have HO3 := Lib.hid (HO2.out (by omega))
          clear HO2 HF HO
          go_wp2_with fail
          go_round
          case rel => exact ⟨k + 1, by omega, by go_num, HO3⟩
          case measure => simp [intOf]; omega
    · obtain rfl : k = N := by omega
      have hd : decide ((k : Int) < (k : Int)) = false := by simp
      have HS : Hid (m = decide (sizeL l ≤ 255)) := Lib.hid (by
        rw [HM.out, Bool.eq_iff_iff, decide_eq_true_iff, decide_eq_true_iff]
        exact ⟨fun h => h.2, fun h => ⟨fun k hk => HO.out k (by rw [← HN.out]; exact hk), h⟩⟩)
      clear HM
      go_wp2_with fail
      refine HSI.out.mono ?_
      rintro e w2 ⟨rfl, rfl⟩
      generalize sizeL l = z at *
      have hzz : decide ((z : Int) ≤ 255) = m := by rw [HS.out]; exact decide_eq_decide.2 (by omega)
      go_wp2_with fail
      go_ret
      exact ⟨by first | rfl | (rw [← hzz]; rfl), HB.out⟩
end Go.Proofs.Ytbeoapfbddcpcaa
/- Contracts of the reference's layer 8: Rest, Under; Join from anywhere in a row. -/
namespace Go.Proofs.Ytbeoapfbddcpcaa
open Go.RowKit
set_option linter.unusedVariables false
set_option maxRecDepth 20000

set_option maxHeartbeats 400000 in
theorem join_off (g o n c : Nat) (xs : List ByteArray) (sep : ByteArray) (w : World) (hn : xs.length = n) (hle : n ≤ 1000000) (hsep : sep.size ≤ 1000)
    (hall : (joinTo xs sep n).size ≤ 1000000) (hg : ∀ i (hi : i < xs.length), w.cell? ⟨g, o + i, none⟩ = some (.string xs[i])) :
    Calls Try.prog 38 #[.slice (some ⟨g, o, none⟩) n c, .string sep] w fun e w' => e = .returned (.string (joinTo xs sep n)) ∧ w = w' := by
  have HG := Lib.hid hg
  have HN := Lib.hid hn
  clear hg hn
  go_enter Try.func38, Try.ntmps38
  go_wp2
  go_loop [5, 6] (fun t i => ∃ k : Nat, k ≤ n ∧ i = .int .i64 k ∧ t = .string (joinTo xs sep k)) (fun _ i => n - (intOf i).toNat)
  case atStart => exact ⟨0, Nat.zero_le _, rfl, rfl⟩
  case round =>
    obtain ⟨k, hk, rfl, rfl⟩ := hrel
    by_cases hlt : k < n
    · have hk' : k < xs.length := by rw [HN.out]; exact hlt
      have hx : xs.getD k { data := #[] } = xs[k] := by rw [List.getD_eq_getElem?_getD, List.getElem?_eq_getElem hk']; rfl
      have hm := joinTo_mono xs sep (k + 1) (n - (k + 1))
      rw [show k + 1 + (n - (k + 1)) = n by omega] at hm
      have hp := joinTo_piece xs sep k
      have hm0 := joinTo_mono xs sep k 1
      rw [hx] at hp
      have HJ : Hid (joinTo xs sep (k + 1) = (if 0 < k then joinTo xs sep k ++ sep else joinTo xs sep k) ++ xs[k]) := by rw [← hx]; exact Lib.hid rfl
      have c1 := HG.out k hk'
      have z1 : (xs[k]).size ≤ 1000000 := by omega
      have z2 : (joinTo xs sep k).size ≤ 1000000 := by omega
      clear hx hm hp hm0
      generalize xs[k] = x at *
      generalize joinTo xs sep k = t at *
      by_cases h0 : 0 < k
      · go_wp2
        go_round
        case rel => exact ⟨k + 1, by omega, by go_num, by rw [HJ.out, if_pos h0]⟩
        case measure => simp [intOf]; omega
      · go_wp2
        go_round
        case rel => exact ⟨k + 1, by omega, by go_num, by rw [HJ.out, if_neg h0]⟩
        case measure => simp [intOf]; omega
    · obtain rfl : k = n := by omega
      go_wp2
      go_ret
      exact ⟨rfl, rfl⟩
theorem joinTo_le {xs : List ByteArray} {m : Nat} (h : ∀ p ∈ xs, p.size ≤ m) : ∀ k, (joinTo xs ⟨#[46]⟩ k).size ≤ k * (m + 1)
  | 0 => Nat.zero_le _
  | k + 1 => by
    have h1 := joinTo_le h k
    have h2 := getD_small h k
    rw [joinTo, ByteArray.size_append, Nat.succ_mul]
    split
    · rw [ByteArray.size_append]
      show _ + 1 + _ ≤ _
      omega
    · omega
/-- A name without its first k labels. -/
def restB (s : ByteArray) (k : Nat) : ByteArray := if (labelsB s).length ≤ k then ⟨#[]⟩ else joinB ((labelsB s).drop k) ⟨#[46]⟩
theorem rest_small (s : ByteArray) (k : Nat) (hs : s.size ≤ 900) : (restB s k).size ≤ 1000000 := by
  unfold restB
  split
  · decide
  · unfold joinB
    have h1 := joinTo_le (xs := (labelsB s).drop k) (m := 900) (fun p hp => Nat.le_trans (labels_small s p (List.mem_of_mem_drop hp)) hs) ((labelsB s).drop k).length
    have h2 := labels_len s
    have h3 : ((labelsB s).drop k).length ≤ 901 := by simp; omega
    have h4 := Nat.mul_le_mul_right 901 h3
    omega
set_option maxRecDepth 100000 in
theorem refRest_any (s : ByteArray) (k : Nat) (w : World) (hs : s.size ≤ 900) (hk : k ≤ 100000) :
    Calls Try.prog 18 #[.string s, .int .i64 (k : Int)] w fun e w' => e = .returned (.string (restB s k)) ∧ Below w.heap.size w w' := by
  have HLA := Lib.hid (refLabels_any s w (by omega))
  have HRE : Hid (restB s k = if (labelsB s).length ≤ k then ⟨#[]⟩ else joinB ((labelsB s).drop k) ⟨#[46]⟩) := Lib.hid rfl
  have hrs := rest_small s k hs
  have hln := labels_len s
  generalize restB s k = R at *
  generalize labelsB s = l at *
  go_enter Try.func18, Try.ntmps18
  go_wp2_with fail
  refine HLA.out.mono ?_
  rintro e w1 ⟨a, c, rfl, hr, hb⟩
  have HB := Lib.hid hb
  have hcap := hr.cap
  have hcm := hcap.2
  unfold maxLen at hcm
  by_cases h : l.length ≤ k
  · have hd : decide ((l.length : Int) ≤ (k : Int)) = true := decide_eq_true (by omega)
    have hdn : decide (l.length ≤ k) = true := decide_eq_true h
    have ER := HRE.out
    rw [if_pos h] at ER
    subst ER
    clear hr hb HLA HRE
    go_wp2_with fail
    go_ret
    exact ⟨rfl, HB.out⟩
  · have hd : decide ((l.length : Int) ≤ (k : Int)) = false := decide_eq_false (by omega)
    have hdn : decide (l.length ≤ k) = false := decide_eq_false h
    have ER := HRE.out
    rw [if_neg h] at ER
    rcases hr with ⟨_, _, h0⟩ | ⟨g, rfl, hr⟩
    · rw [h0] at h; exact absurd (Nat.zero_le _) h
    have HJO := Lib.hid (join_off g k (l.length - k) (c - k) (l.drop k) ⟨#[46]⟩ w1 (by simp) (by omega) (by decide) (by
      have e : joinTo (l.drop k) ⟨#[46]⟩ (l.length - k) = R := by rw [ER]; unfold joinB; rw [List.length_drop]
      rw [e]; exact hrs) (fun i hi => by
        rw [List.length_drop] at hi
        rw [hr.cells (k + i) (by omega), List.getElem_drop, List.getD_eq_getElem?_getD, List.getElem?_eq_getElem (by omega)]
        rfl))
    rw [show joinTo (l.drop k) ⟨#[46]⟩ (l.length - k) = R by rw [ER]; unfold joinB; rw [List.length_drop]] at HJO
    have hck : ¬ c = k := by omega
    have hck2 : ¬ k = c := by omega
    have hb1 : (0 : Int) ≤ (k : Int) := by omega
    have hb2 : (k : Int) ≤ (l.length : Int) := by omega
    have hb3 : k ≤ l.length := by omega
    have hb4 : k ≤ c := by omega
    clear hr hb HLA HRE ER
    generalize l.length = N at *
    go_wp2_with fail
    refine HJO.out.mono ?_
    rintro e w2 ⟨rfl, rfl⟩
    clear HJO
    go_wp2_with fail
    go_ret
    exact ⟨rfl, HB.out⟩
/-- A name is under another one. -/
def UnderP (s t : ByteArray) : Prop := ∃ k, k < (labelsB s).length + 1 ∧ likeB (restB s k) t = true
instance (s t : ByteArray) : Decidable (UnderP s t) := by unfold UnderP; infer_instance
def underB (s t : ByteArray) : Bool := decide (UnderP s t)
set_option maxRecDepth 100000 in
set_option maxHeartbeats 1000000 in
theorem refUnder_any (s t : ByteArray) (w : World) (hs : s.size ≤ 900) (ht : t.size ≤ 1000000) :
    Calls Try.prog 23 #[.string s, .string t] w fun e w' => e = .returned (.bool (underB s t)) ∧ Below w.heap.size w w' := by
  have HLA := Lib.hid (refLabels_any s w (by omega))
  have HU : Hid (underB s t = decide (UnderP s t)) := Lib.hid rfl
  have hln := labels_len s
  have HRE := fun k W hk => Lib.hid (refRest_any s k W hs hk)
  have HLI := fun k W => Lib.hid (refLike_any (restB s k) t W (rest_small s k hs) ht)
  obtain ⟨N, hN⟩ : ∃ N, (labelsB s).length = N := ⟨_, rfl⟩
  have HN := Lib.hid hN
  rw [hN] at hln HLA
  clear hN
  generalize underB s t = m at *
  go_enter Try.func23, Try.ntmps23
  go_wp2_with fail
  refine HLA.out.mono ?_
  rintro e w1 ⟨a, c, rfl, hr, hb⟩
  have HB0 := Lib.hid hb
  clear hr hb HLA
  go_wp2_with fail
  go_loopw [6] (fun i wr => ∃ k : Nat, k ≤ N + 1 ∧ i = .int .i64 (k : Int) ∧ Hid (∀ j, j < k → likeB (restB s j) t = false) ∧ Hid (Below w.heap.size w wr)) (fun i _ => N + 1 - (intOf i).toNat)
  case atStart => exact ⟨0, Nat.zero_le _, rfl, Lib.hid (fun j hj => absurd hj (by omega)), HB0⟩
  case round =>
    clear HB0
    obtain ⟨k, hk, rfl, HO, HB⟩ := hrel
    by_cases hkN : k ≤ N
    · have hd : decide ((k : Int) ≤ (N : Int)) = true := decide_eq_true (by omega)
      have hdn : decide (k ≤ N) = true := decide_eq_true hkN
      have HLK := fun W => HLI k W
      have HRK := fun W => HRE k W (by omega)
      cases hli : likeB (restB s k) t with
      | true =>
        rw [hli] at HLK
        have EM : m = true := by rw [HU.out]; exact decide_eq_true ⟨k, by rw [HN.out]; omega, hli⟩
        subst EM
        generalize restB s k = R at *
        clear HLI HRE HU HO hli
        go_wp2_with fail
        refine (HRK _).out.mono ?_
        rintro e w2 ⟨rfl, hb2⟩
        replace HB := Lib.hid (chain HB.out hb2)
        clear hb2
        go_wp2_with fail
        refine (HLK _).out.mono ?_
        rintro e w3 ⟨rfl, hb3⟩
        replace HB := Lib.hid (chain HB.out hb3)
        clear hb3
        go_wp2_with fail
        go_ret
        exact ⟨rfl, HB.out⟩
      | false =>
        rw [hli] at HLK
        have HO2 : Hid (∀ j, j < k + 1 → likeB (restB s j) t = false) := Lib.hid (fun j hj => by
          by_cases h : j < k
          · exact HO.out j h
          · obtain rfl : j = k := by omega
            exact hli)
        clear HLI HRE HO hli
        generalize hRR : restB s k = R at HRK HLK
        clear hRR
        go_wp2_with fail
        refine (HRK _).out.mono ?_
        rintro e w2 ⟨rfl, hb2⟩
        replace HB := Lib.hid (chain HB.out hb2)
        clear hb2
        go_wp2_with fail
        refine (HLK _).out.mono ?_
        rintro e w3 ⟨rfl, hb3⟩
        replace HB := Lib.hid (chain HB.out hb3)
        clear hb3
        go_wp2_with fail
        go_roundw
        case rel => exact ⟨k + 1, by omega, by go_num, HO2, HB⟩
        case measure => simp [intOf]; omega
    · have hd : decide ((k : Int) ≤ (N : Int)) = false := decide_eq_false (by omega)
      have hdn : decide (k ≤ N) = false := decide_eq_false hkN
      have EM : m = false := by
        rw [HU.out]
        refine decide_eq_false (fun ⟨j, hj, h⟩ => ?_)
        rw [HN.out] at hj
        rw [HO.out j (by omega)] at h
        cases h
      subst EM
      clear HLI HRE HU HO
      go_wp2_with fail
      go_ret
      exact ⟨rfl, HB.out⟩
end Go.Proofs.Ytbeoapfbddcpcaa
/- Contracts of the reference's layer 8: Bytes, SameBytes, Good. -/
namespace Go.Proofs.Ytbeoapfbddcpcaa
open Go.RowKit
set_option linter.unusedVariables false
set_option maxRecDepth 20000

/-- A label's bytes. -/
def labL (p : ByteArray) : List UInt8 := UInt8.ofNat p.size :: p.data.toList
def bytesTo (l : List ByteArray) : Nat → List UInt8
  | 0 => []
  | k + 1 => bytesTo l k ++ labL (l.getD k ⟨#[]⟩)
/-- A name's bytes. -/
def bytesL (l : List ByteArray) : List UInt8 := bytesTo l l.length ++ [0]
theorem bytesTo_len {l : List ByteArray} (h : ∀ p ∈ l, p.size ≤ 255) : ∀ k, (bytesTo l k).length ≤ k * 256
  | 0 => by simp [bytesTo]
  | k + 1 => by
    have h1 := bytesTo_len h k
    have h2 := getD_small h k
    unfold bytesTo labL
    have h3 : (l.getD k ⟨#[]⟩).data.toList.length = (l.getD k ⟨#[]⟩).size := Array.length_toList
    rw [List.length_append, List.length_cons, h3]
    omega
/-- A row of one's own, over a lower base. -/
theorem own_lower8 {w : World} {B B' : Nat} {t : TypeId} {z : Nat} {v : Value} {n : Nat} {xs : List Value} (h : w.ownsRow B t z v n xs) (hB : B' ≤ B) : w.ownsRow B' t z v n xs := by
  obtain ⟨h1, h2⟩ := h
  refine ⟨h1, ?_⟩
  rcases h2 with h2 | ⟨g, cap, cur, e, hb, rest⟩
  · exact .inl h2
  · exact .inr ⟨g, cap, cur, e, by omega, rest⟩
/-- A text's bytes behind a row of bytes of one's own. -/
theorem own_text {w0 wr w1 : World} {v v' : Value} {l : List UInt8} {s : ByteArray} (hown' : w1.ownsRow w0.heap.size 5 1 v' (l.length + s.size) (bys l ++ Lib.strCells s))
    (hg : wr.grownBy w1 v.ownBlock) (hown : wr.ownsRow w0.heap.size 5 1 v l.length (bys l)) (hb : Below w0.heap.size w0 wr) :
    w1.ownsRow w0.heap.size 5 1 v' (l ++ s.data.toList).length (bys (l ++ s.data.toList)) ∧ Below w0.heap.size w0 w1 := by
  refine ⟨?_, hb.grown hg hb.size (fun k hk => (hown.lt k hk).1)⟩
  have e : bys (l ++ s.data.toList) = bys l ++ Lib.strCells s := by simp [bys, Lib.strCells]
  rw [e, List.length_append, Array.length_toList]
  exact hown'
set_option maxRecDepth 100000 in
set_option maxHeartbeats 2000000 in
theorem refBytes8_any (s : ByteArray) (w : World) (hs : s.size ≤ 100000) (hp : ∀ p ∈ labelsB s, p.size ≤ 255) :
    Calls Try.prog 21 #[.string s] w fun e w' => ∃ v, e = .returned v ∧ w'.ownsRow w.heap.size 5 1 v (bytesL (labelsB s)).length (bys (bytesL (labelsB s))) ∧ Below w.heap.size w w' := by
  have HLA := Lib.hid (refLabels_any s w (by omega))
  have hln := labels_len s
  obtain ⟨i0, hi0, hz0, hz1, hz2⟩ := info_parts Try.infoByte
  generalize labelsB s = l at *
  have HSM := Lib.hid hp
  have HBL : Hid (bytesL l = bytesTo l l.length ++ [0]) := Lib.hid rfl
  obtain ⟨N, hN⟩ : ∃ N, l.length = N := ⟨_, rfl⟩
  have HN := Lib.hid hN
  rw [hN] at hln HBL HLA
  clear hp hN
  go_enter Try.func21, Try.ntmps21
  go_wp2_with fail
  refine HLA.out.mono ?_
  rintro e w1 ⟨a, c, rfl, hr, hb⟩
  have HR := Lib.hid hr
  have HB1 := Lib.hid hb
  have hsz1 := hb.size
  clear hr hb HLA
  go_wp2_with fail
  go_loopw [4, 5] (fun v i wr => ∃ k : Nat, k ≤ N ∧ i = .int .i64 (k : Int) ∧ wr.ownsRow w1.heap.size 5 1 v (bytesTo l k).length (bys (bytesTo l k)) ∧ Below w1.heap.size w1 wr) (fun _ i _ => N - (intOf i).toNat)
  case atStart => exact ⟨0, Nat.zero_le _, rfl, World.ownsRow_nil _ _ _ _, Below.refl _ _⟩
  case round =>
    obtain ⟨k, hk, rfl, hown, hbel⟩ := hrel
    have hbl := bytesTo_len HSM.out k
    have hwz := hbel.size
    by_cases hkN : k < N
    · have hd : decide ((k : Int) < (N : Int)) = true := decide_eq_true (by omega)
      have hdn : decide (k < N) = true := decide_eq_true hkN
      rcases HR.out with ⟨_, _, h0⟩ | ⟨g, rfl, h⟩
      · have := HN.out; rw [h0] at this; simp at this; omega
      have hc := (h.below hbel).cells k (by rw [HN.out]; exact hkN)
      have hglt := h.lt
      have HCS : Hid (∀ W, Below w1.heap.size w1 W → W.cell? ⟨g, k, none⟩ = some (.string (l.getD k ⟨#[]⟩))) := Lib.hid (fun W hb => (h.below hb).cells k (by rw [HN.out]; exact hkN))
      have hz := getD_small HSM.out k
      have HSU : Hid (bytesTo l (k + 1) = bytesTo l k ++ labL (l.getD k ⟨#[]⟩)) := Lib.hid rfl
      generalize l.getD k ⟨#[]⟩ = p at *
      generalize bytesTo l k = bl at *
      have hb1 : (0 : Int) ≤ (k : Int) := by omega
      have hb2 : (k : Int) < (N : Int) := by omega
      have hwr : IntKind.u8.wrap (p.size : Int) = (p.size : Int) := by rw [IntKind.wrap_u8]; omega
      have hpu : ((UInt8.ofNat p.size).toNat : Int) = (p.size : Int) := by rw [UInt8.toNat_ofNat']; omega
      clear h
      go_wp2_with (at_builtin; refine wpList_append_own _ rfl (.tmp 14) (.tmp 21) 24 rfl w1.heap.size 5 i0 _ 1 1 Try.underlying24 hi0 hz0 hz1 hz2 rfl (by decide) _ _ _ rfl (hown.alloc _) ⟨wr.heap.size, 0, none⟩ 1 1 [.int .u8 (p.size : Int)] rfl rfl ?c1 ?c2 ?c3 ?c4 ?c5 ?_)
      case c1 => exact cell_one_new _ _ _
      case c2 => intro u hu; simp at hu; subst hu; rfl
      case c3 => unfold maxLen; omega
      case c4 => omega
      case c5 => simp; omega
      intro v' w2 hown' hgrow _
      rw [← hpu] at hown'
      have R := own_byte hown' hgrow hown hbel
      clear hown' hgrow hown hbel hc
      obtain ⟨R1, R2⟩ := R
      have hl1 : (bl ++ [UInt8.ofNat p.size]).length ≤ bl.length + 1 := by simp
      have HE : Hid (bytesTo l (k + 1) = bl ++ [UInt8.ofNat p.size] ++ p.data.toList) := Lib.hid (by rw [HSU.out]; unfold labL; simp)
      generalize bl ++ [UInt8.ofNat p.size] = bm at *
      have hc2 := HCS.out w2 R2
      have hw2 := R2.size
      go_wp2_with (at_builtin; refine Lib.wpList_append_own_string _ rfl (.tmp 23) (.tmp 27) 24 9 rfl w1.heap.size 5 i0 Try.underlying24 Try.underlying9 hi0 hz0 hz1 hz2 _ _ _ rfl R1 p rfl ?c1 ?c2 ?c3 ?_)
      case c1 => unfold maxLen; omega
      case c2 => omega
      case c3 => exact hw2
      intro v2 w3 hown3 hgrow3 _
      have R3 := own_text hown3 hgrow3 R1 R2
      clear hown3 hgrow3 R1 R2 hc2
      go_wp2_with fail
      go_roundw
      case rel => exact ⟨k + 1, by omega, by go_num, by rw [HE.out]; exact R3.1, R3.2⟩
      case measure => simp [intOf]; omega
    · obtain rfl : k = N := by omega
      have hd : decide ((k : Int) < (k : Int)) = false := by simp
      generalize bytesTo l k = bl at *
      go_wp2_with (at_builtin; refine wpList_append_own _ rfl (.tmp 29) (.tmp 30) 24 rfl w1.heap.size 5 i0 _ 1 1 Try.underlying24 hi0 hz0 hz1 hz2 rfl (by decide) _ _ _ rfl (hown.alloc _) ⟨wr.heap.size, 0, none⟩ 1 1 [.int .u8 0] rfl rfl ?c1 ?c2 ?c3 ?c4 ?c5 ?_)
      case c1 => exact cell_one_new _ _ _
      case c2 => intro u hu; simp at hu; subst hu; rfl
      case c3 => unfold maxLen; omega
      case c4 => omega
      case c5 => simp; omega
      intro v' w2 hown' hgrow _
      have R := own_byte (x := 0) hown' hgrow hown hbel
      clear hown' hgrow hown hbel
      go_wp2_with fail
      go_ret
      exact ⟨v', rfl, by rw [HBL.out]; exact own_lower8 R.1 hsz1, chain HB1.out R.2⟩
end Go.Proofs.Ytbeoapfbddcpcaa
/- Contracts of the reference's layer 8: SameBytes, Good. -/
namespace Go.Proofs.Ytbeoapfbddcpcaa
open Go.RowKit
set_option linter.unusedVariables false
set_option maxRecDepth 20000

/-- These are a slice's bytes (as a conversion to a text reads them). -/
def BytesAt (w : World) (v : Value) (l : List UInt8) : Prop := (convert 24 9 v).run Try.prog w = .ok (.string ⟨l.toArray⟩) w
set_option maxRecDepth 100000 in
theorem refSameBytes_any (v1 v2 : Value) (l1 l2 : List UInt8) (w : World) (h1 : BytesAt w v1 l1) (h2 : BytesAt w v2 l2) :
    Calls Try.prog 20 #[v1, v2] w fun e w' => e = .returned (.bool (decide (l1 = l2))) ∧ w' = w := by
  unfold BytesAt at h1 h2
  have HE : Hid (((⟨l1.toArray⟩ : ByteArray).toList == (⟨l2.toArray⟩ : ByteArray).toList) = decide (l1 = l2)) := Lib.hid (by
    rw [Bool.eq_iff_iff, beq_iff_eq, decide_eq_true_iff, ByteArray.toList_eq, ByteArray.toList_eq])
  generalize decide (l1 = l2) = b at *
  generalize (⟨l1.toArray⟩ : ByteArray) = x1 at *
  generalize (⟨l2.toArray⟩ : ByteArray) = x2 at *
  go_enter Try.func20, Try.ntmps20
  go_wp2_with fail
  go_ret
  exact ⟨bool_ret HE.out, rfl⟩
/-- The labels of a name made good. -/
def goodTo (l : List ByteArray) : Nat → List ByteArray
  | 0 => []
  | k + 1 => if 6 ≤ (goodTo l k).length then goodTo l k else if (few (l.getD k ⟨#[]⟩) 12).size = 0 then goodTo l k else goodTo l k ++ [few (l.getD k ⟨#[]⟩) 12]
theorem goodTo_len (l : List ByteArray) : ∀ k, (goodTo l k).length ≤ 6
  | 0 => by simp [goodTo]
  | k + 1 => by
    have h := goodTo_len l k
    unfold goodTo
    split
    · exact h
    · split
      · exact h
      · simp; omega
theorem goodTo_small (l : List ByteArray) : ∀ k, ∀ p ∈ goodTo l k, p.size ≤ 12
  | 0 => by simp [goodTo]
  | k + 1 => by
    have h := goodTo_small l k
    unfold goodTo
    split
    · exact h
    · split
      · exact h
      · intro p hp
        rcases List.mem_append.1 hp with hp | hp
        · exact h p hp
        · rw [List.mem_singleton.1 hp]; exact few_size _ _
theorem goodTo_full {l : List ByteArray} {k : Nat} (h : 6 ≤ (goodTo l k).length) : ∀ m, goodTo l (k + m) = goodTo l k
  | 0 => rfl
  | m + 1 => by
    have e := goodTo_full h m
    rw [← Nat.add_assoc]
    show (if 6 ≤ (goodTo l (k + m)).length then goodTo l (k + m) else _) = _
    rw [e, if_pos h]
/-- A name made good. -/
def goodN (s : ByteArray) : ByteArray := joinB (goodTo (labelsB s) (labelsB s).length) ⟨#[46]⟩
theorem goodN_small (s : ByteArray) : (goodN s).size ≤ 100 := by
  have h1 := joinTo_le (goodTo_small (labelsB s) (labelsB s).length) (goodTo (labelsB s) (labelsB s).length).length
  have h2 := goodTo_len (labelsB s) (labelsB s).length
  unfold goodN joinB
  omega
theorem join_nil (sep : ByteArray) (w : World) : Calls Try.prog 38 #[.slice none 0 0, .string sep] w fun e w' => e = .returned (.string ⟨#[]⟩) ∧ w = w' := by
  go_enter Try.func38, Try.ntmps38
  go_wp2_with fail
  go_loop [5, 6] (fun t i => t = .string ⟨#[]⟩ ∧ i = .int .i64 0) (fun _ _ => 0)
  case atStart => exact ⟨rfl, rfl⟩
  case round =>
    obtain ⟨rfl, rfl⟩ := hrel
    go_wp2_with fail
    go_ret
    exact ⟨rfl, rfl⟩
/-- Join of a row of one's own. -/
theorem join_own {w : World} {B : Nat} {v : Value} {l : List ByteArray} (h : w.ownsRow B 9 1 v l.length (l.map Value.string)) (hn : l.length ≤ 1000000) (hj : (joinB l ⟨#[46]⟩).size ≤ 1000000) :
    Calls Try.prog 38 #[v, .string ⟨#[46]⟩] w fun e w' => e = .returned (.string (joinB l ⟨#[46]⟩)) ∧ w = w' := by
  by_cases h0 : 0 < l.length
  · obtain ⟨g, c, rfl, _, hr⟩ := own_row h h0
    exact join_any g l.length c l ⟨#[46]⟩ w rfl hn (by decide) hj (fun i hi => by
      rw [hr.cells i hi, List.getD_eq_getElem?_getD, List.getElem?_eq_getElem hi]; rfl)
  · obtain rfl : l = [] := List.eq_nil_of_length_eq_zero (by omega)
    rcases h.2 with ⟨rfl, _⟩ | ⟨g, cap, cur, rfl, _⟩
    · exact join_nil _ w
    · exact join_any g 0 cap [] ⟨#[46]⟩ w rfl (by decide) (by decide) (by decide) (fun i hi => absurd hi (by simp))
set_option maxRecDepth 100000 in
set_option maxHeartbeats 2000000 in
theorem refGoodN_any (s : ByteArray) (w : World) (hs : s.size ≤ 100000) :
    Calls Try.prog 33 #[.string s] w fun e w' => e = .returned (.string (goodN s)) ∧ Below w.heap.size w w' := by
  have HLA := Lib.hid (refLabels_any s w (by omega))
  have hln := labels_len s
  have HSM : Hid (∀ p ∈ labelsB s, p.size ≤ 1000000) := Lib.hid (fun p hp => Nat.le_trans (labels_small s p hp) (by omega))
  have HGN : Hid (goodN s = joinB (goodTo (labelsB s) (labelsB s).length) ⟨#[46]⟩) := Lib.hid rfl
  have HGS := Lib.hid (goodN_small s)
  obtain ⟨i0, hi0, hz0, hz1, hz2⟩ := info_parts Try.infoString
  generalize goodN s = R at *
  generalize labelsB s = l at *
  obtain ⟨N, hN⟩ : ∃ N, l.length = N := ⟨_, rfl⟩
  have HN := Lib.hid hN
  rw [hN] at hln HGN HLA
  clear hN
  go_enter Try.func33, Try.ntmps33
  go_wp2_with fail
  refine HLA.out.mono ?_
  rintro e w1 ⟨a, c, rfl, hr, hb⟩
  have HR := Lib.hid hr
  have HB1 := Lib.hid hb
  clear hr hb HLA
  have FIN : ∀ (v : Value) (o : List ByteArray) (wr : World), Hid (wr.ownsRow w1.heap.size 9 1 v o.length (o.map Value.string) → o = goodTo l N → Calls Try.prog 38 #[v, .string ⟨#[46]⟩] wr fun e w' => e = .returned (.string R) ∧ wr = w') := fun v o wr => Lib.hid (fun h e => by
    have := join_own h (by rw [e]; have := goodTo_len l N; omega) (by rw [e, ← HGN.out]; exact Nat.le_trans HGS.out (by decide))
    rw [e, ← HGN.out] at this
    exact this)
  go_wp2_with fail
  go_loopw [4, 5] (fun v i wr => ∃ (k : Nat) (o : List ByteArray) (v0 : Value), k ≤ N ∧ v0 = v ∧ i = .int .i64 (k : Int) ∧ Hid (o = goodTo l k) ∧ wr.ownsRow w1.heap.size 9 1 v o.length (o.map Value.string) ∧ Below w1.heap.size w1 wr) (fun _ i _ => N - (intOf i).toNat)
  case atStart => exact ⟨0, [], _, Nat.zero_le _, rfl, rfl, Lib.hid rfl, World.ownsRow_nil _ _ _ _, Below.refl _ _⟩
  case round =>
    obtain ⟨k, o, v, hk, rfl, rfl, HO, hown, hbel⟩ := hrel
    have hol : o.length ≤ 6 := by rw [HO.out]; exact goodTo_len l k
    have hwz := hbel.size
    by_cases hkN : k < N
    · have hd : decide ((k : Int) < (N : Int)) = true := decide_eq_true (by omega)
      have hdn : decide (k < N) = true := decide_eq_true hkN
      have hvs : ∃ va vc, v = .slice va o.length vc := by
        rcases hown.2 with ⟨h1, h2⟩ | ⟨g, cap, cur, h1, _⟩
        · exact ⟨none, 0, by rw [h1, h2]⟩
        · exact ⟨_, _, h1⟩
      obtain ⟨va, vc, rfl⟩ := hvs
      by_cases h6 : o.length < 6
      · have hd6 : decide ((o.length : Int) < 6) = true := decide_eq_true (by omega)
        have hd6n : decide (o.length < 6) = true := decide_eq_true h6
        rcases HR.out with ⟨_, _, h0⟩ | ⟨g, rfl, h⟩
        · have := HN.out; rw [h0] at this; simp at this; omega
        have hc := (h.below hbel).cells k (by rw [HN.out]; exact hkN)
        have hz := getD_small HSM.out k
        have HSU : Hid (goodTo l (k + 1) = if (few (l.getD k ⟨#[]⟩) 12).size = 0 then o else o ++ [few (l.getD k ⟨#[]⟩) 12]) := Lib.hid (by
          show (if 6 ≤ (goodTo l k).length then goodTo l k else _) = _
          rw [← HO.out, if_neg (by omega)])
        have HFE := fun W => Lib.hid (few_any (l.getD k ⟨#[]⟩) 12 W (by unfold maxLen; omega) (by decide))
        have hfs := few_size (l.getD k ⟨#[]⟩) 12
        generalize few (l.getD k ⟨#[]⟩) 12 = q at *
        generalize l.getD k ⟨#[]⟩ = p at *
        have hb1 : (0 : Int) ≤ (k : Int) := by omega
        have hb2 : (k : Int) < (N : Int) := by omega
        clear h HO
        go_wp2_with fail
        refine (HFE _).out.mono ?_
        rintro e w2 ⟨rfl, rfl⟩
        clear HFE hc
        by_cases hq : q.size = 0
        · have hqe := isEmpty_true q hq
          have HO2 : Hid (o = goodTo l (k + 1)) := Lib.hid (by rw [HSU.out, if_pos hq])
          clear HSU hq
          go_wp2_with fail
          go_roundw
          case rel => exact ⟨k + 1, o, _, by omega, rfl, by go_num, HO2, hown, hbel⟩
          case measure => simp [intOf]; omega
        · have hqe := isEmpty_false q (by omega)
          have HO2 : Hid (o ++ [q] = goodTo l (k + 1)) := Lib.hid (by rw [HSU.out, if_neg hq])
          clear HSU
          go_wp2_with (at_builtin; refine wpList_append_own _ rfl (.tmp 27) (.tmp 29) 29 rfl w1.heap.size 9 i0 _ 1 16 Try.underlying29 hi0 hz0 hz1 hz2 rfl (by decide) _ _ _ rfl (hown.alloc _) ⟨wr.heap.size, 0, none⟩ 1 1 [.string q] rfl rfl ?c1 ?c2 ?c3 ?c4 ?c5 ?_)
          case c1 => exact cell_one_new _ _ _
          case c2 => intro u hu; simp at hu; subst hu; rfl
          case c3 => unfold maxLen; omega
          case c4 => omega
          case c5 => simp; omega
          intro v' w3 hown' hgrow _
          have R := own_snoc hown' hgrow hown hbel
          clear hown' hgrow hown hbel
          go_wp2_with fail
          go_roundw
          case rel => exact ⟨k + 1, o ++ [q], _, by omega, rfl, by go_num, HO2, R.1, R.2⟩
          case measure => simp [intOf]; omega
      · have hd6 : decide ((o.length : Int) < 6) = false := decide_eq_false (by omega)
        have hd6n : decide (o.length < 6) = false := decide_eq_false h6
        have HJ := Lib.hid ((FIN _ o wr).out hown (by
          have e := goodTo_full (l := l) (k := k) (by rw [← HO.out]; omega) (N - k)
          rw [show k + (N - k) = N by omega] at e
          rw [e]; exact HO.out))
        have HBe := Lib.hid (chain HB1.out hbel)
        clear FIN hown hbel HO HR
        go_wp2_with fail
        refine HJ.out.mono ?_
        rintro e w2 ⟨rfl, rfl⟩
        go_wp2_with fail
        go_ret
        exact ⟨rfl, HBe.out⟩
    · have hd : decide ((k : Int) < (N : Int)) = false := decide_eq_false (by omega)
      have hdn : decide (k < N) = false := decide_eq_false hkN
      have HJ := Lib.hid ((FIN v o wr).out hown (by rw [HO.out, show k = N by omega]))
      have HBe := Lib.hid (chain HB1.out hbel)
      clear FIN hown hbel HO HR
      go_wp2_with fail
      refine HJ.out.mono ?_
      rintro e w2 ⟨rfl, rfl⟩
      go_wp2_with fail
      go_ret
      exact ⟨rfl, HBe.out⟩
end Go.Proofs.Ytbeoapfbddcpcaa
/- Contracts of the reference's layer 8: Run (and Has of layer 1). -/
namespace Go.Proofs.Ytbeoapfbddcpcaa
open Go.RowKit
set_option linter.unusedVariables false
set_option maxRecDepth 20000

/-- One of the first k bytes of a text is c. -/
def hasTo (s : ByteArray) (c : Nat) : Nat → Bool
  | 0 => false
  | k + 1 => hasTo s c k || decide ((s.data.toList.getD k 0).toNat = c)
def has8 (s : ByteArray) (c : Nat) : Bool := hasTo s c s.size
theorem hasTo_mono {s : ByteArray} {c k : Nat} (h : hasTo s c k = true) : ∀ m, hasTo s c (k + m) = true
  | 0 => h
  | m + 1 => by rw [← Nat.add_assoc, hasTo, hasTo_mono h m]; rfl
theorem getD_byte (s : ByteArray) (k : Nat) (h : k < s.size) : s.data.toList.getD k 0 = s[k] := by
  rw [List.getD_eq_getElem?_getD, List.getElem?_eq_getElem (by simpa using h)]; rfl
theorem refHas8_any (s : ByteArray) (c : Nat) (w : World) (hs : s.size ≤ 1000000) (hc : c < 256) :
    Calls Try.prog 55 #[.string s, .int .u8 (c : Int)] w fun e w' => e = .returned (.bool (has8 s c)) ∧ w = w' := by
  have HH : Hid (has8 s c = hasTo s c s.size) := Lib.hid rfl
  generalize has8 s c = b at *
  go_enter Try.func55, Try.ntmps55
  go_wp2_with fail
  go_loop [5] (fun i => ∃ k : Nat, k ≤ s.size ∧ i = .int .i64 (k : Int) ∧ Hid (hasTo s c k = false)) (fun i => s.size - (intOf i).toNat)
  case atStart => exact ⟨0, Nat.zero_le _, rfl, Lib.hid rfl⟩
  case round =>
    obtain ⟨k, hk, rfl, HO⟩ := hrel
    by_cases hlt : k < s.size
    · have hd : decide ((k : Int) < (s.size : Int)) = true := decide_eq_true (by omega)
      have hdn : decide (k < s.size) = true := decide_eq_true hlt
      have HN : Hid (hasTo s c (k + 1) = decide ((s[k]).toNat = c)) := Lib.hid (by rw [hasTo, HO.out, getD_byte s k hlt]; rfl)
      have u1 : (s[k]).toNat < 256 := (s[k]).toNat_lt
      by_cases he : (s[k]).toNat = c
      · have hb : (((s[k]).toNat : Int) == (c : Int)) = true := by rw [he]; simp
        have EB : b = true := by
          rw [HH.out]
          have := hasTo_mono (s := s) (c := c) (k := k + 1) (by rw [HN.out]; exact decide_eq_true he) (s.size - (k + 1))
          rwa [show k + 1 + (s.size - (k + 1)) = s.size by omega] at this
        subst EB
        clear he HH HO HN
        go_wp2_with fail
        go_ret
        exact ⟨rfl, rfl⟩
      · have hb : (((s[k]).toNat : Int) == (c : Int)) = false := by rw [beq_eq_false_iff_ne]; omega
        have HO2 : Hid (hasTo s c (k + 1) = false) := Lib.hid (by rw [HN.out]; exact decide_eq_false he)
        clear he HO HN
        go_wp2_with fail
        go_round
        case rel => exact ⟨k + 1, by omega, by go_num, HO2⟩
        case measure => simp [intOf]; omega
    · obtain rfl : k = s.size := by omega
      have hd : decide ((s.size : Int) < (s.size : Int)) = false := by simp
      have EB : b = false := by rw [HH.out]; exact HO.out
      subst EB
      clear HH HO
      go_wp2_with fail
      go_ret
      exact ⟨rfl, rfl⟩
/-- Bytes that came in, as a walk reads them. -/
def BytesIn (w : World) (a : Option Addr) (cap : Nat) (bs : List UInt8) : Prop :=
  bs.length ≤ cap ∧ cap ≤ maxLen ∧ (bs.length = 0 ∨ ∃ x : Addr, a = some x ∧ ∀ i (h : i < bs.length), w.cell? (x.add i) = some (.int .u8 ((bs[i].toNat : Nat) : Int)))
theorem BytesIn.below {w w' : World} {a : Option Addr} {cap : Nat} {bs : List UInt8} (h : BytesIn w a cap bs) (hb : Below w.heap.size w w') : BytesIn w' a cap bs := by
  obtain ⟨h1, h2, h3⟩ := h
  refine ⟨h1, h2, ?_⟩
  rcases h3 with h3 | ⟨x, e, h3⟩
  · exact .inl h3
  · exact .inr ⟨x, e, fun i hi => by rw [hb.cell (p := x.add i) (World.block_lt_of_cell? w _ (h3 i hi))]; exact h3 i hi⟩
/-- The label that stands at i, of n bytes. -/
def ownAt (bs : List UInt8) (i n : Nat) : ByteArray := ⟨((bs.drop (i + 1)).take n).toArray⟩
theorem ownAt_size {bs : List UInt8} {i n : Nat} (h : i + 1 + n ≤ bs.length) : (ownAt bs i n).size = n := by
  show ((bs.drop (i + 1)).take n).toArray.size = n
  simp; omega
def runB (bs : List UInt8) (had : Nat) : Nat → Nat → List ByteArray → List ByteArray × Nat × Bool × Int
  | 0, _, _ => ([], 0, false, 2)
  | f + 1, i, l =>
    if bs.length ≤ i then ([], 0, false, 2) else
    if (bs.getD i 0).toNat = 0 then (l, i, false, 0) else
    if 192 ≤ (bs.getD i 0).toNat then (l, i, true, 0) else
    if 63 < (bs.getD i 0).toNat ∨ bs.length < i + 1 + (bs.getD i 0).toNat then ([], 0, false, 2) else
    if has8 (ownAt bs i (bs.getD i 0).toNat) 46 = true then ([], 0, false, 2) else
    if 255 < had + sizeL (l ++ [ownAt bs i (bs.getD i 0).toNat]) then ([], 0, false, 3) else
    runB bs had f (i + 1 + (bs.getD i 0).toNat) (l ++ [ownAt bs i (bs.getD i 0).toNat])
/-- What Run hands back. -/
def RunRet (w : World) (R : List ByteArray × Nat × Bool × Int) (e : Ending) (w' : World) : Prop :=
  ∃ v, e = .returned (.tuple #[v, .int .i64 (R.2.1 : Int), .bool R.2.2.1, .int .i64 R.2.2.2]) ∧ w'.ownsRow w.heap.size 9 1 v R.1.length (R.1.map Value.string) ∧ Below w.heap.size w w'
theorem own_RowS {w : World} {B : Nat} {v : Value} {l : List ByteArray} (h : w.ownsRow B 9 1 v l.length (l.map Value.string)) : ∃ a c, v = .slice a l.length c ∧ (RowS w a c l ∨ l = []) := by
  by_cases h0 : 0 < l.length
  · obtain ⟨g, c, rfl, _, hr⟩ := own_row h h0
    exact ⟨_, _, rfl, .inl (.inr ⟨g, rfl, hr⟩)⟩
  · obtain rfl : l = [] := List.eq_nil_of_length_eq_zero (by omega)
    rcases h.2 with ⟨rfl, _⟩ | ⟨g, cap, cur, rfl, _⟩
    · exact ⟨_, _, rfl, .inr rfl⟩
    · exact ⟨_, _, rfl, .inr rfl⟩
theorem refSize_own {w : World} {B : Nat} {v : Value} {l : List ByteArray} (h : w.ownsRow B 9 1 v l.length (l.map Value.string)) (hsm : ∀ p ∈ l, p.size ≤ 1000000) (hn : l.length ≤ 1000000) :
    Calls Try.prog 34 #[v] w fun e w' => e = .returned (.int .i64 ((sizeL l : Nat) : Int)) ∧ w' = w := by
  by_cases h0 : 0 < l.length
  · obtain ⟨g, c, rfl, _, hr⟩ := own_row h h0
    exact refSize_any _ c l w (.inr ⟨g, rfl, hr⟩) hsm hn
  · obtain rfl : l = [] := List.eq_nil_of_length_eq_zero (by omega)
    obtain ⟨a, c, rfl, _⟩ := own_RowS h
    go_enter Try.func34, Try.ntmps34
    go_wp2_with fail
    go_loop [3, 4] (fun t i => t = .int .i64 1 ∧ i = .int .i64 0) (fun _ _ => 0)
    case atStart => exact ⟨rfl, rfl⟩
    case round =>
      obtain ⟨rfl, rfl⟩ := hrel
      go_wp2_with fail
      go_ret
      exact ⟨rfl, rfl⟩
end Go.Proofs.Ytbeoapfbddcpcaa
/- Contract of the reference's Run of layer 8. -/
namespace Go.Proofs.Ytbeoapfbddcpcaa
open Go.RowKit
set_option linter.unusedVariables false
set_option maxRecDepth 20000

theorem add_add (x : Addr) (i j : Nat) : (x.add i).add j = x.add (i + j) := by
  cases x with
  | mk b o p =>
    by_cases hi : i = 0
    · subst hi; simp [Addr.add]
    · by_cases hj : j = 0
      · subst hj; simp [Addr.add]
      · simp [Addr.add, hi, hj, Nat.add_assoc]
theorem results_tmp4 {fn : Func} {t u v x : Tmp} (h : fn.results = #[.tmp t, .tmp u, .tmp v, .tmp x]) (tmps : Array Value) (P : Program) (w : World) :
    (results fn tmps).run P w = .ok (.tuple #[tmps.getD t undef, tmps.getD u undef, tmps.getD v undef, tmps.getD x undef]) w := by
  simp [results, h]
/-- 'string(b[i+1:i+1+n])'. -/
theorem own_text_at {w : World} {x : Addr} {bs : List UInt8} {i n : Nat} (c : Nat) (h : ∀ j (h : j < bs.length), w.cell? (x.add j) = some (.int .u8 ((bs[j].toNat : Nat) : Int))) (hn : i + 1 + n ≤ bs.length) :
    (convert 24 9 (.slice (some (x.add (i + 1))) n c)).run Try.prog w = .ok (.string (ownAt bs i n)) w := by
  have hl : ((bs.drop (i + 1)).take n).length = n := by simp; omega
  have := run_convert_bytes_back (P := Try.prog) w 24 9 5 (x.add (i + 1)) c ((bs.drop (i + 1)).take n) Try.underlying24 Try.underlying5 Try.underlying9 (fun j hj => by
    rw [add_add, h (i + 1 + j) (by omega)]
    simp)
  rw [hl] at this
  exact this
set_option maxRecDepth 100000 in
set_option maxHeartbeats 4000000 in
theorem refRun_any (a : Option Addr) (cap : Nat) (bs : List UInt8) (at0 had : Nat) (w : World) (hB : BytesIn w a cap bs) (hat : at0 ≤ bs.length) (hhad : had ≤ 100000) (hbl : bs.length ≤ 100000) :
    Calls Try.prog 44 #[.slice a bs.length cap, .int .i64 (at0 : Int), .int .i64 (had : Int)] w (RunRet w (runB bs had (bs.length + 1 - at0) at0 [])) := by
  have HBI := Lib.hid hB
  obtain ⟨i0, hi0, hz0, hz1, hz2⟩ := info_parts Try.infoString
  have hcl := hB.1
  have hcm : cap ≤ 9223372036854775807 := by have := hB.2.1; unfold maxLen at this; omega
  obtain ⟨R, hR⟩ : ∃ R, runB bs had (bs.length + 1 - at0) at0 [] = R := ⟨_, rfl⟩
  have HR := Lib.hid hR
  rw [hR]
  obtain ⟨N, hN⟩ : ∃ N, bs.length = N := ⟨_, rfl⟩
  have HN := Lib.hid hN
  rw [hN] at hat hbl hcl HR ⊢
  clear hB hR hN
  have FIN : ∀ (v : Value) (l : List ByteArray) (wr : World) (en : Nat) (p : Bool) (er : Int), Hid (wr.ownsRow w.heap.size 9 1 v l.length (l.map Value.string) → Below w.heap.size w wr → R = (l, en, p, er) → RunRet w R (.returned (.tuple #[v, .int .i64 (en : Int), .bool p, .int .i64 er])) wr) := fun v l wr en p er => Lib.hid (fun h1 h2 h3 => by
    rw [h3]; exact ⟨v, rfl, h1, h2⟩)
  have NIL : ∀ (wr : World) (er : Int), Hid (Below w.heap.size w wr → R = ([], 0, false, er) → RunRet w R (.returned (.tuple #[.slice none 0 0, .int .i64 0, .bool false, .int .i64 er])) wr) := fun wr er => Lib.hid (fun h1 h2 => by
    rw [h2]; exact ⟨_, rfl, World.ownsRow_nil _ _ _ _, h1⟩)
  go_enter Try.func44, Try.ntmps44
  go_wp2_with fail
  go_loopw [10, 11] (fun s10 s11 wr => ∃ (i f : Nat) (l : List ByteArray) (v : Value), i ≤ N ∧ N + 1 ≤ i + f ∧ v = s10 ∧ s11 = .int .i64 (i : Int) ∧ l.length ≤ i ∧ Hid (∀ p ∈ l, p.size ≤ 63) ∧ Hid (runB bs had f i l = R) ∧ wr.ownsRow w.heap.size 9 1 v l.length (l.map Value.string) ∧ Below w.heap.size w wr) (fun _ s11 _ => N + 1 - (intOf s11).toNat)
  case atStart => exact ⟨at0, N + 1 - at0, [], _, hat, by omega, rfl, rfl, Nat.zero_le _, Lib.hid (fun p hp => by cases hp), HR, World.ownsRow_nil _ _ _ _, Below.refl _ _⟩
  case round =>
    clear HR
    obtain ⟨i, f0, l, v, hi, hif, rfl, rfl, hll, HSM, HRI, hown, hbel⟩ := hrel
    obtain ⟨f, rfl⟩ : ∃ f, f0 = f + 1 := ⟨f0 - 1, by omega⟩
    unfold runB at HRI
    rw [HN.out] at HRI
    have hwz := hbel.size
    by_cases hiN : N ≤ i
    · have hd : decide ((N : Int) ≤ (i : Int)) = true := decide_eq_true (by omega)
      have hdn : decide (N ≤ i) = true := decide_eq_true hiN
      rw [if_pos hiN] at HRI
      have HE := Lib.hid ((NIL wr 2).out hbel HRI.out.symm)
      clear HRI FIN NIL hown hbel
      go_wp2_with fail
      refine bodyPost_ret (results_tmp4 rfl _ _ _) rfl ?_
      exact HE.out
    · have hd : decide ((N : Int) ≤ (i : Int)) = false := decide_eq_false (by omega)
      have hdn : decide (N ≤ i) = false := decide_eq_false hiN
      rw [if_neg hiN] at HRI
      obtain ⟨_, _, hrow⟩ := HBI.out
      rcases hrow with h0 | ⟨x, rfl, hcells⟩
      · rw [HN.out] at h0; omega
      have hib : i < bs.length := by rw [HN.out]; omega
      have hcw := hcells i hib
      have hgd : bs.getD i 0 = bs[i] := by rw [List.getD_eq_getElem?_getD, List.getElem?_eq_getElem hib]; rfl
      rw [hgd] at HRI
      have hcell : wr.cell? (x.add i) = some (.int .u8 ((bs[i].toNat : Nat) : Int)) := by rw [hbel.cell (p := x.add i) (World.block_lt_of_cell? w _ hcw)]; exact hcw
      have HCV : Hid (∀ n c, i + 1 + n ≤ N → (convert 24 9 (.slice (some (x.add (i + 1))) n c)).run Try.prog wr = .ok (.string (ownAt bs i n)) wr) := Lib.hid (fun n c hn => own_text_at c (fun j hj => by rw [hbel.cell (p := x.add j) (World.block_lt_of_cell? w _ (hcells j hj))]; exact hcells j hj) (by rw [HN.out]; exact hn))
      have hu := bs[i].toNat_lt
      generalize bs[i].toNat = n at *
      have hb1 : (0 : Int) ≤ (i : Int) := by omega
      have hb2 : (i : Int) < (N : Int) := by omega
      clear hcw hgd hib hcells
      by_cases hn0 : n = 0
      · rw [if_pos hn0] at HRI
        subst hn0
        have HE := Lib.hid ((FIN v l wr i false 0).out hown hbel HRI.out.symm)
        clear HRI FIN NIL hown hbel HCV
        go_wp2_with fail
        refine bodyPost_ret (results_tmp4 rfl _ _ _) rfl ?_
        exact HE.out
      · have he0 : ((n : Int) == 0) = false := by rw [beq_eq_false_iff_ne]; omega
        rw [if_neg hn0] at HRI
        by_cases h192 : 192 ≤ n
        · have hd2 : decide (192 ≤ (n : Int)) = true := decide_eq_true (by omega)
          have hd2n : decide (192 ≤ n) = true := decide_eq_true h192
          rw [if_pos h192] at HRI
          have HE := Lib.hid ((FIN v l wr i true 0).out hown hbel HRI.out.symm)
          clear HRI FIN NIL hown hbel HCV
          go_wp2_with fail
          refine bodyPost_ret (results_tmp4 rfl _ _ _) rfl ?_
          exact HE.out
        · have hd2 : decide (192 ≤ (n : Int)) = false := decide_eq_false (by omega)
          have hd2n : decide (192 ≤ n) = false := decide_eq_false h192
          rw [if_neg h192] at HRI
          by_cases h63 : 63 < n
          · have hd3 : decide (63 < (n : Int)) = true := decide_eq_true (by omega)
            have hd3n : decide (63 < n) = true := decide_eq_true h63
            rw [if_pos (.inl h63)] at HRI
            have HE := Lib.hid ((NIL wr 2).out hbel HRI.out.symm)
            clear HRI FIN NIL hown hbel HCV
            go_wp2_with fail
            refine bodyPost_ret (results_tmp4 rfl _ _ _) rfl ?_
            exact HE.out
          · have hd3 : decide (63 < (n : Int)) = false := decide_eq_false (by omega)
            have hd3n : decide (63 < n) = false := decide_eq_false h63
            by_cases hlong : N < i + 1 + n
            · have hd4 : decide ((N : Int) < (i : Int) + 1 + (n : Int)) = true := decide_eq_true (by omega)
              rw [if_pos (.inr hlong)] at HRI
              have HE := Lib.hid ((NIL wr 2).out hbel HRI.out.symm)
              clear HRI FIN NIL hown hbel HCV
              go_wp2_with fail
              refine bodyPost_ret (results_tmp4 rfl _ _ _) rfl ?_
              exact HE.out
            · have hd4 : decide ((N : Int) < (i : Int) + 1 + (n : Int)) = false := decide_eq_false (by omega)
              rw [if_neg (fun h => by omega)] at HRI
              have hcv := HCV.out n (cap - (i + 1)) (by omega)
              rw [show x.add (i + 1) = ⟨x.block, x.off + (i + 1), none⟩ from by simp [Addr.add]] at hcv
              have hos : (ownAt bs i n).size = n := ownAt_size (by rw [HN.out]; omega)
              have hck : ¬ cap = i + 1 := by omega
              have HHA := fun W => Lib.hid (refHas8_any (ownAt bs i n) 46 W (by omega) (by decide))
              generalize ownAt bs i n = own at *
              have hb3 : (i : Int) + 1 ≤ (i : Int) + 1 + (n : Int) := by omega
              have hb4 : (i : Int) + 1 + (n : Int) ≤ (cap : Int) := by omega
              clear HCV
              go_wp2_with fail
              refine (HHA _).out.mono ?_
              rintro e w2 ⟨rfl, rfl⟩
              clear HHA hcv hcell
              cases hhas : has8 own 46 with
              | true =>
                rw [hhas, if_pos rfl] at HRI
                have HE := Lib.hid ((NIL wr 2).out hbel HRI.out.symm)
                clear HRI FIN NIL hown hbel hhas
                go_wp2_with fail
                refine bodyPost_ret (results_tmp4 rfl _ _ _) rfl ?_
                exact HE.out
              | false =>
                rw [hhas, if_neg (by decide)] at HRI
                clear hhas
                go_wp2_with (at_builtin; refine wpList_append_own _ rfl (.tmp 56) (.tmp 58) 29 rfl w.heap.size 9 i0 _ 1 16 Try.underlying29 hi0 hz0 hz1 hz2 rfl (by decide) _ _ _ rfl (hown.alloc _) ⟨wr.heap.size, 0, none⟩ 1 1 [.string own] rfl rfl ?c1 ?c2 ?c3 ?c4 ?c5 ?_)
                case c1 => exact cell_one_new _ _ _
                case c2 => intro u hu; simp at hu; subst hu; rfl
                case c3 => unfold maxLen; omega
                case c4 => omega
                case c5 => simp; omega
                intro v' w3 hown' hgrow _
                obtain ⟨R1, R2⟩ := own_snoc hown' hgrow hown hbel
                clear hown' hgrow hown hbel
                have HSM2 : Hid (∀ p ∈ l ++ [own], p.size ≤ 63) := Lib.hid (fun p hp => by
                  rcases List.mem_append.1 hp with hp | hp
                  · exact HSM.out p hp
                  · rw [List.mem_singleton.1 hp, hos]; omega)
                have hll2 : (l ++ [own]).length ≤ i + 1 := by simp; omega
                have HSI := Lib.hid (refSize_own R1 (fun p hp => Nat.le_trans (HSM2.out p hp) (by decide)) (by omega))
                have hsb := sizeTo_le (l := l ++ [own]) (fun p hp => Nat.le_trans (HSM2.out p hp) (by decide)) (l ++ [own]).length
                have hsb2 : sizeL (l ++ [own]) ≤ 1 + (l ++ [own]).length * 1000001 := hsb
                generalize sizeL (l ++ [own]) = z at *
                generalize l ++ [own] = l2 at *
                clear hsb HSM
                go_wp2_with fail
                refine HSI.out.mono ?_
                rintro e w4 ⟨rfl, rfl⟩
                clear HSI
                by_cases hz255 : 255 < had + z
                · have hd5 : decide (255 < (had : Int) + (z : Int)) = true := decide_eq_true (by omega)
                  rw [if_pos hz255] at HRI
                  have HE := Lib.hid ((NIL w4 3).out R2 HRI.out.symm)
                  clear HRI FIN NIL R1 R2
                  go_wp2_with fail
                  refine bodyPost_ret (results_tmp4 rfl _ _ _) rfl ?_
                  exact HE.out
                · have hd5 : decide (255 < (had : Int) + (z : Int)) = false := decide_eq_false (by omega)
                  rw [if_neg hz255] at HRI
                  clear FIN NIL
                  go_wp2_with fail
                  go_roundw
                  case rel => exact ⟨i + 1 + n, f, l2, _, by omega, by omega, rfl, by go_num, by omega, HSM2, HRI, R1, R2⟩
                  case measure => simp [intOf]; omega
end Go.Proofs.Ytbeoapfbddcpcaa
/- What the reference's Read of layer 8 tells; plain facts on it. -/
namespace Go.Proofs.Ytbeoapfbddcpcaa
open Go.RowKit
set_option linter.unusedVariables false
set_option maxRecDepth 20000

theorem sizeTo_app (l m : List ByteArray) : ∀ k, k ≤ l.length → sizeTo (l ++ m) k = sizeTo l k
  | 0, _ => rfl
  | k + 1, h => by
    unfold sizeTo
    rw [sizeTo_app l m k (by omega)]
    congr 2
    rw [List.getD_eq_getElem?_getD, List.getD_eq_getElem?_getD, List.getElem?_append_left (by omega)]
theorem sizeTo_app2 (l m : List ByteArray) : ∀ k, sizeTo (l ++ m) (l.length + k) + 1 = sizeL l + sizeTo m k
  | 0 => by
    show sizeTo (l ++ m) l.length + 1 = sizeL l + 1
    rw [sizeTo_app l m l.length (Nat.le_refl _)]
    rfl
  | k + 1 => by
    have ih := sizeTo_app2 l m k
    have e1 : sizeTo (l ++ m) (l.length + (k + 1)) = sizeTo (l ++ m) (l.length + k) + 1 + ((l ++ m).getD (l.length + k) ⟨#[]⟩).size := rfl
    have e2 : sizeTo m (k + 1) = sizeTo m k + 1 + (m.getD k ⟨#[]⟩).size := rfl
    have e3 : (l ++ m).getD (l.length + k) ⟨#[]⟩ = m.getD k ⟨#[]⟩ := by
      rw [List.getD_eq_getElem?_getD, List.getD_eq_getElem?_getD, List.getElem?_append_right (by omega)]
      congr 2
      omega
    rw [e1, e2, e3]
    omega
/-- How many bytes two rows of labels have. -/
theorem sizeL_app (l m : List ByteArray) : sizeL (l ++ m) + 1 = sizeL l + sizeL m := by
  have := sizeTo_app2 l m m.length
  unfold sizeL at this ⊢
  rw [List.length_append]
  exact this
theorem sizeTo_pos (l : List ByteArray) : ∀ k, 1 + k ≤ sizeTo l k
  | 0 => Nat.le_refl _
  | k + 1 => by have := sizeTo_pos l k; unfold sizeTo; omega
theorem sizeL_pos (l : List ByteArray) : 1 + l.length ≤ sizeL l := sizeTo_pos l l.length
theorem sizeTo_mono (l : List ByteArray) (k : Nat) : ∀ m, sizeTo l k ≤ sizeTo l (k + m)
  | 0 => Nat.le_refl _
  | m + 1 => by
    have h := sizeTo_mono l k m
    have e : sizeTo l (k + (m + 1)) = sizeTo l (k + m) + 1 + (l.getD (k + m) ⟨#[]⟩).size := rfl
    omega
/-- A label is shorter than all. -/
theorem piece_le (l : List ByteArray) : ∀ p ∈ l, p.size ≤ sizeL l := by
  intro p hp
  obtain ⟨k, hk, rfl⟩ := List.getElem_of_mem hp
  have h1 := sizeTo_mono l (k + 1) (l.length - (k + 1))
  rw [show k + 1 + (l.length - (k + 1)) = l.length by omega] at h1
  have e : sizeTo l (k + 1) = sizeTo l k + 1 + (l.getD k ⟨#[]⟩).size := rfl
  have e2 : l.getD k ⟨#[]⟩ = l[k] := by rw [List.getD_eq_getElem?_getD, List.getElem?_eq_getElem hk]; rfl
  rw [e2] at e
  unfold sizeL
  omega
theorem joinTo_size (l : List ByteArray) : ∀ k, (joinTo l ⟨#[46]⟩ k).size + (if k = 0 then 1 else 2) ≤ sizeTo l k
  | 0 => Nat.le_refl _
  | k + 1 => by
    have h := joinTo_size l k
    have e : (joinTo l ⟨#[46]⟩ (k + 1)).size = (if 0 < k then (joinTo l ⟨#[46]⟩ k).size + 1 else (joinTo l ⟨#[46]⟩ k).size) + (l.getD k ⟨#[]⟩).size := by
      rw [joinTo, ByteArray.size_append]
      split
      · rw [ByteArray.size_append]; rfl
      · rfl
    have e2 : sizeTo l (k + 1) = sizeTo l k + 1 + (l.getD k ⟨#[]⟩).size := rfl
    rw [e, e2, if_neg (Nat.succ_ne_zero k)]
    split at h <;> split <;> omega
/-- A name is shorter than its bytes. -/
theorem joinB_size (l : List ByteArray) : (joinB l ⟨#[46]⟩).size ≤ sizeL l := by
  have := joinTo_size l l.length
  unfold joinB sizeL
  split at this <;> omega
/-- What Run tells of bytes where it tells no error. -/
theorem runB_ok (bs : List UInt8) (had : Nat) : ∀ f i l l2 e p, runB bs had f i l = (l2, e, p, 0) → had + sizeL l ≤ 255 →
    had + sizeL l2 ≤ 255 ∧ i ≤ e ∧ e < bs.length ∧ (p = true → 192 ≤ (bs.getD e 0).toNat)
  | 0, i, l, l2, e, p, h, _ => by unfold runB at h; cases h
  | f + 1, i, l, l2, e, p, h, hl => by
    unfold runB at h
    by_cases h1 : bs.length ≤ i
    · rw [if_pos h1] at h; cases h
    rw [if_neg h1] at h
    by_cases h2 : (bs.getD i 0).toNat = 0
    · rw [if_pos h2] at h
      obtain ⟨rfl, rfl, rfl⟩ : l = l2 ∧ i = e ∧ false = p := by simpa using h
      exact ⟨hl, Nat.le_refl _, by omega, fun h => by cases h⟩
    rw [if_neg h2] at h
    by_cases h3 : 192 ≤ (bs.getD i 0).toNat
    · rw [if_pos h3] at h
      obtain ⟨rfl, rfl, rfl⟩ : l = l2 ∧ i = e ∧ true = p := by simpa using h
      exact ⟨hl, Nat.le_refl _, by omega, fun _ => h3⟩
    rw [if_neg h3] at h
    by_cases h4 : 63 < (bs.getD i 0).toNat ∨ bs.length < i + 1 + (bs.getD i 0).toNat
    · rw [if_pos h4] at h; cases h
    rw [if_neg h4] at h
    by_cases h5 : has8 (ownAt bs i (bs.getD i 0).toNat) 46 = true
    · rw [if_pos h5] at h; cases h
    rw [if_neg h5] at h
    by_cases h6 : 255 < had + sizeL (l ++ [ownAt bs i (bs.getD i 0).toNat])
    · rw [if_pos h6] at h; cases h
    rw [if_neg h6] at h
    obtain ⟨a1, a2, a3, a4⟩ := runB_ok bs had f _ _ l2 e p h (by omega)
    exact ⟨a1, by omega, a3, a4⟩
/-- Where a pointer leads. -/
def toAt (bs : List UInt8) (e : Nat) : Nat := ((bs.getD e 0).toNat - 192) * 256 + (bs.getD (e + 1) 0).toNat
/-- What Read tells: the name, where what stands behind it begins, the error. -/
def readB (bs : List UInt8) : Nat → Nat → List ByteArray → Option Nat → ByteArray × Nat × Int
  | 0, _, _, _ => (⟨#[]⟩, 0, 2)
  | f + 1, i, l, nx =>
    match runB bs (sizeL l - 1) (bs.length + 1 - i) i [] with
    | (l2, e, p, er) =>
      if er ≠ 0 then (⟨#[]⟩, 0, er) else
      if p = false then (joinB (l ++ l2) ⟨#[46]⟩, nx.getD (e + 1), 0) else
      if bs.length ≤ e + 1 then (⟨#[]⟩, 0, 2) else
      if i ≤ toAt bs e then (⟨#[]⟩, 0, 2) else
      readB bs f (toAt bs e) (l ++ l2) (some (nx.getD (e + 2)))
end Go.Proofs.Ytbeoapfbddcpcaa
/- The pieces of a text, read off its bytes: what a text is cut into, whatever it was put together of. -/
namespace Go.Proofs.Ytbeoapfbddcpcaa
open Go.RowKit
set_option linter.unusedVariables false
set_option maxRecDepth 20000

/-- Bytes, as a text. -/
def ofL (l : List UInt8) : ByteArray := ⟨l.toArray⟩
theorem ofL_data (l : List UInt8) : (ofL l).data.toList = l := by simp [ofL]
theorem ofL_size (l : List UInt8) : (ofL l).size = l.length := by simp [ofL, ByteArray.size]
theorem ofL_append (l m : List UInt8) : ofL l ++ ofL m = ofL (l ++ m) := bytes_ext (by rw [data_append, ofL_data, ofL_data, ofL_data])
theorem eq_ofL {s : ByteArray} {l : List UInt8} (h : s.data.toList = l) : s = ofL l := bytes_ext (by rw [h, ofL_data])

def cutL (sep : Nat) : List UInt8 → List (List UInt8)
  | [] => [[]]
  | c :: l => if c.toNat = sep then [] :: cutL sep l else
    match cutL sep l with
    | [] => [[c]]
    | x :: r => (c :: x) :: r
theorem cutL_none (sep : Nat) : ∀ l : List UInt8, (∀ c ∈ l, c.toNat ≠ sep) → cutL sep l = [l]
  | [], _ => rfl
  | c :: l, h => by
    rw [cutL, if_neg (h c (by simp)), cutL_none sep l (fun x hx => h x (by simp [hx]))]
theorem cutL_first (sep : Nat) (c : UInt8) (hc : c.toNat = sep) (r : List UInt8) : ∀ l : List UInt8, (∀ c ∈ l, c.toNat ≠ sep) → cutL sep (l ++ c :: r) = l :: cutL sep r
  | [], _ => by rw [List.nil_append, cutL, if_pos hc]
  | x :: l, h => by
    rw [List.cons_append, cutL, if_neg (h x (by simp)), cutL_first sep c hc r l (fun x hx => h x (by simp [hx]))]

theorem sp_cut (s : ByteArray) (sep : Nat) : ∀ k, k ≤ s.size →
    cutL sep s.data.toList = (sp s sep k).1.map (fun p => p.data.toList) ++ cutL sep (s.data.toList.drop (sp s sep k).2) ∧ ∀ j (hj : j < s.size), (sp s sep k).2 ≤ j → j < k → (s[j]).toNat ≠ sep
  | 0, _ => ⟨by simp [sp], fun j _ _ h => by omega⟩
  | k + 1, hk => by
    obtain ⟨h1, h2⟩ := sp_cut s sep k (by omega)
    have hle := sp_le s sep k
    have hkl : k < s.data.toList.length := by simp; omega
    by_cases hit : (s[k]).toNat = sep
    · rw [sp_hit s sep k (by omega) hit]
      refine ⟨?_, fun j _ h3 h4 => by simp at h3; omega⟩
      rw [h1]
      have e : s.data.toList.drop (sp s sep k).2 = (s.extract (sp s sep k).2 k).data.toList ++ s[k] :: s.data.toList.drop (k + 1) := by
        rw [data_extract]
        have e1 : s.data.toList.drop k = s[k] :: s.data.toList.drop (k + 1) := by
          rw [List.drop_eq_getElem_cons hkl]; rfl
        rw [← e1]
        have e2 : s.data.toList.drop k = (s.data.toList.drop (sp s sep k).2).drop (k - (sp s sep k).2) := by
          rw [List.drop_drop]; congr 1; omega
        rw [e2, List.take_append_drop]
      rw [e, cutL_first sep _ hit _ _ ?_]
      · simp
      · intro c hc
        rw [data_extract] at hc
        obtain ⟨i, hi, rfl⟩ := List.getElem_of_mem hc
        have hi2 : i < k - (sp s sep k).2 := by simp at hi; omega
        have := h2 ((sp s sep k).2 + i) (by omega) (by omega) (by omega)
        rw [getElem_data] at this
        simpa using this
    · rw [sp_miss s sep k (by omega) hit]
      refine ⟨h1, fun j hj h3 h4 => ?_⟩
      by_cases hjk : j = k
      · subst hjk; exact hit
      · exact h2 j hj h3 (by omega)
theorem pieces_cut (s : ByteArray) (sep : Nat) : pieces s sep = (cutL sep s.data.toList).map ofL := by
  obtain ⟨h1, h2⟩ := sp_cut s sep s.size (Nat.le_refl _)
  have hle := sp_le s sep s.size
  have e : (s.extract (sp s sep s.size).2 s.size).data.toList = s.data.toList.drop (sp s sep s.size).2 := by
    rw [data_extract]
    apply List.take_of_length_le
    simp
  have h3 : cutL sep (s.data.toList.drop (sp s sep s.size).2) = [s.data.toList.drop (sp s sep s.size).2] := by
    apply cutL_none
    intro c hc
    obtain ⟨i, hi, rfl⟩ := List.getElem_of_mem hc
    have hi2 : (sp s sep s.size).2 + i < s.size := by simp at hi; omega
    have := h2 ((sp s sep s.size).2 + i) hi2 (by omega) hi2
    rw [getElem_data] at this
    simpa using this
  rw [h1, h3, List.map_append, List.map_map]
  unfold pieces
  have e2 : (ofL ∘ fun p : ByteArray => p.data.toList) = id := by
    funext p
    simp [ofL]
  rw [e2, List.map_id]
  congr 1
  simp only [List.map_cons, List.map_nil]
  rw [← e, ← eq_ofL rfl]
theorem pieces_ofL (l : List UInt8) (sep : Nat) : pieces (ofL l) sep = (cutL sep l).map ofL := by rw [pieces_cut, ofL_data]
end Go.Proofs.Ytbeoapfbddcpcaa
