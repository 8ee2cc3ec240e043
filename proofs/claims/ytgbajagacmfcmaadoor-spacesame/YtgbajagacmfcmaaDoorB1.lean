/- Texts that belong together, one behind the other: OpenArr, OpenAddr, Util, Base, Lists, AddrKit, Numbers, RefNums, Reads, StrRows, Strict, RefSplit, RefStrict, RefSix, RefSixParse, Bytes16, RefAddr, AddrMid, RefAddrBits. -/
import Derived.Test.YtgbajagacmfcmaaDoorRows
import Derived.WalkKit
import Derived.ProofKit
import Derived.OpenShut
import Derived.Laws.IdiomArrays
import Derived.ChangeSame
import Derived.Lib.Strings
import Derived.WalkSpells
import Derived.WalkLawsBesides
import Derived.Deep.QuietTactic
import Derived.BigQuiet
import Derived.Lib.Hide
import Derived.Deep.AppendLies
import Derived.Laws.IdiomStrings
import Derived.Lib.ItoaLen
import Derived.Deep.RegionWith
import Derived.RegionTactic
import Derived.BigRegion
import Derived.Deep.MidRow
/- An array of integers that came in, opened: the list of its numbers. -/
namespace Go.Proofs.YtgbajagacmfcmaaDoor
open Go.ChangeShapes Go.WideShapes Go.ChangeAt Go.RowKit
set_option linter.unusedVariables false
set_option maxRecDepth 20000

theorem laidOut : laidOutB Tryd.prog = true := by kernel_rfl
theorem open_int_array {H : Type} {enc : TypeId × Value → H} {W : World} {base : Nat} {spare : Nat → Bool} {t e : TypeId} {n : Nat} {k : IntKind} {v : Value} {d : DataW H} {ps : List MemPlace}
    (ht : Tryd.prog.underlying t = some (.array n e)) (he : Tryd.prog.underlying e = some (.int k)) (hce : Tryd.prog.cellsOf e = 1) (hct : Tryd.prog.cellsOf t = n)
    (hok : Value.okWide Tryd.prog W .any base t v) (h : DataW.Trod enc Tryd.prog W 0 spare true t v d ps) :
    ∃ zs : List Int, v = .agg (zs.map (Value.int k)).toArray ∧ zs.length = n ∧ ∀ z ∈ zs, (Lit.int k z).wf = true := by
  obtain ⟨cs, rfl, hsz, _⟩ : ∃ cs, v = .agg cs ∧ cs.size = Tryd.prog.cellsOf t ∧ Row.okWide Tryd.prog W .any base t cs := by
    simpa [Value.okWide, ht] using hok
  rw [hct] at hsz
  obtain ⟨fuel, hf⟩ := h
  obtain ⟨xs, m, _, _, _, hl, hx⟩ := DataW.trod_array ht hf
  rw [hce] at hx
  have key : ∀ i (hi : i < cs.toList.length), ∃ z, cs.toList[i] = .int k z ∧ (Lit.int k z).wf = true := by
    intro i hi
    have hin : i < n := by simpa [hsz] using hi
    have h1 := hx i hin
    rw [List.getElem?_eq_getElem (by omega)] at h1
    obtain ⟨z, h2, _, h3⟩ := DataW.trod_int he h1
    refine ⟨z, ?_, h3⟩
    have h4 : (Value.cells (.agg cs)).toList = cs.toList := rfl
    rw [h4, Nat.mul_one] at h2
    have h5 : ((cs.toList.drop i).take 1)[0]? = some (.int k z) := by rw [h2]; rfl
    rw [List.getElem?_take, if_pos (by decide), List.getElem?_drop, Nat.add_zero, List.getElem?_eq_getElem hi] at h5
    exact Option.some.inj h5
  refine ⟨cs.toList.map intOf, ?_, by simpa using hsz, ?_⟩
  · congr 1
    apply Array.ext'
    simp only [List.map_map]
    apply List.ext_getElem
    · simp
    · intro i h1 h2
      obtain ⟨z, hz, _⟩ := key i h1
      rw [List.getElem_map, hz]
      rfl
  · intro z hz
    obtain ⟨u, hu, rfl⟩ := List.mem_map.1 hz
    obtain ⟨i, hi, rfl⟩ := List.getElem_of_mem hu
    obtain ⟨z, h1, h2⟩ := key i hi
    rw [h1]
    exact h2
theorem list4 {α : Type} (l : List α) (h : l.length = 4) : ∃ a b c d, l = [a, b, c, d] := by
  match l, h with
  | [a, b, c, d], _ => exact ⟨a, b, c, d, rfl⟩
end Go.Proofs.YtgbajagacmfcmaaDoor
/- An address (api.Addr) that came in, opened: its family, and the list of its bytes. -/
namespace Go.Proofs.YtgbajagacmfcmaaDoor
open Go.ChangeShapes Go.WideShapes Go.ChangeAt Go.RowKit
set_option linter.unusedVariables false
set_option maxRecDepth 20000

/-- An address, as a value. -/
def addrV (f : Int) (bs : List Nat) : Value := .agg (Value.int .i64 f :: bs.map fun n => Value.int .u8 ((n : Nat) : Int)).toArray
theorem ints_of_trod {H : Type} {enc : TypeId × Value → H} {W : World} {spare : Nat → Bool} {t e : TypeId} {n fuel : Nat} {k : IntKind} {l : List Value} {x : DataW H × List MemPlace}
    (ht : Tryd.prog.underlying t = some (.array n e)) (he : Tryd.prog.underlying e = some (.int k)) (hce : Tryd.prog.cellsOf e = 1) (hct : Tryd.prog.cellsOf t = n)
    (h : DataW.trod enc Tryd.prog W 0 spare true fuel t l = some x) : ∃ zs : List Int, l = zs.map (Value.int k) ∧ zs.length = n ∧ ∀ z ∈ zs, (Lit.int k z).wf = true := by
  obtain ⟨xs, m, _, _, hl0, hl, hx⟩ := DataW.trod_array ht h
  rw [hce] at hx
  rw [hct] at hl0
  have key : ∀ i (hi : i < l.length), ∃ z, l[i] = .int k z ∧ (Lit.int k z).wf = true := by
    intro i hi
    have h1 := hx i (by omega)
    rw [List.getElem?_eq_getElem (by omega)] at h1
    obtain ⟨z, h2, _, h3⟩ := DataW.trod_int he h1
    refine ⟨z, ?_, h3⟩
    rw [Nat.mul_one] at h2
    have h5 : ((l.drop i).take 1)[0]? = some (.int k z) := by rw [h2]; rfl
    rw [List.getElem?_take, if_pos (by decide), List.getElem?_drop, Nat.add_zero, List.getElem?_eq_getElem hi] at h5
    exact Option.some.inj h5
  refine ⟨l.map intOf, ?_, by simpa using hl0, ?_⟩
  · rw [List.map_map]
    apply List.ext_getElem
    · simp
    · intro i h1 h2
      obtain ⟨z, hz, _⟩ := key i h1
      rw [List.getElem_map, hz]
      rfl
  · intro z hz
    obtain ⟨u, hu, rfl⟩ := List.mem_map.1 hz
    obtain ⟨i, hi, rfl⟩ := List.getElem_of_mem hu
    obtain ⟨z, h1, h2⟩ := key i hi
    rw [h1]
    exact h2
theorem open_addr {H : Type} {enc : TypeId × Value → H} {W : World} {base : Nat} {spare : Nat → Bool} {v : Value} {d : DataW H} {ps : List MemPlace}
    (hok : Value.okWide Tryd.prog W .any base 25 v) (h : DataW.Trod enc Tryd.prog W 0 spare true 25 v d ps) :
    ∃ (f : Int) (bs : List Nat), v = addrV f bs ∧ (Lit.int .i64 f).wf = true ∧ bs.length = 16 ∧ ∀ x ∈ bs, x < 256 := by
  have hs := Tryd.underlying25
  obtain ⟨cs, rfl, hsz, _⟩ : ∃ cs, v = .agg cs ∧ cs.size = Tryd.prog.cellsOf 25 ∧ Row.okWide Tryd.prog W .any base 25 cs := by
    simpa [Value.okWide, hs] using hok
  rw [show Tryd.prog.cellsOf 25 = 17 by kernel_rfl] at hsz
  obtain ⟨fuel, hf⟩ := h
  obtain ⟨y0, y1, n, _, _, h0, h1⟩ := trod_struct2 hs hf
  have e0 : (Value.cells (.agg cs)).toList = cs.toList := rfl
  rw [e0] at h0 h1
  obtain ⟨f, h2, _, h3⟩ := DataW.trod_int Tryd.underlying3 h0
  obtain ⟨zs, h4, h5, h6⟩ := ints_of_trod Tryd.underlying23 Tryd.underlying5 (by kernel_rfl) (by kernel_rfl) h1
  have hc1 : Tryd.prog.cellsOf 3 = 1 := by kernel_rfl
  have hc16 : Tryd.prog.cellsOf 23 = 16 := by kernel_rfl
  refine ⟨f, zs.map Int.toNat, ?_, h3, by simpa using h5, ?_⟩
  · unfold addrV
    congr 1
    apply Array.ext'
    have e1 : cs.toList = (cs.toList.drop 0).take 1 ++ (cs.toList.drop 1).take 16 := by
      have : (cs.toList.drop 1).take 16 = cs.toList.drop 1 := List.take_of_length_le (by simp; omega)
      rw [this, List.drop_zero, List.take_append_drop]
    rw [e1]
    have e2 : (cs.toList.drop 0).take 1 = [Value.int .i64 f] := by rw [← h2, hc1]
    have e3 : (cs.toList.drop 1).take 16 = zs.map (Value.int .u8) := by rw [← h4, hc16]
    rw [e2, e3, List.map_map]
    show Value.int .i64 f :: zs.map (Value.int .u8) = Value.int .i64 f :: _
    congr 1
    apply List.map_congr_left
    intro z hz
    have := bounds_u8 (h6 z hz)
    show Value.int .u8 z = Value.int .u8 ((z.toNat : Nat) : Int)
    congr 1
    omega
  · intro x hx
    obtain ⟨z, hz, rfl⟩ := List.mem_map.1 hx
    have := bounds_u8 (h6 z hz)
    omega
end Go.Proofs.YtgbajagacmfcmaaDoor
/- Plain facts on texts as rows of bytes; nothing here speaks of the program. -/
namespace Go.Proofs.YtgbajagacmfcmaaDoor
open Go.RowKit
set_option linter.unusedVariables false
set_option maxRecDepth 20000

theorem bytes_ext {a b : ByteArray} (h : a.data.toList = b.data.toList) : a = b := by
  cases a; cases b
  simp only at h
  congr
  exact Array.ext' h
theorem isEmpty_true (s : ByteArray) (h : s.size = 0) : s.toList.isEmpty = true := by
  rw [ByteArray.toList_eq]
  have h2 : s.data.toList.length = s.size := by simp
  rw [List.eq_nil_of_length_eq_zero (h2.trans h)]
  rfl
theorem isEmpty_false (s : ByteArray) (h : 0 < s.size) : s.toList.isEmpty = false := by
  rw [ByteArray.toList_eq]
  have h2 : s.data.toList.length = s.size := by simp
  cases h3 : s.data.toList with
  | nil => rw [h3] at h2; simp at h2; omega
  | cons x l => rfl
theorem get!_eq (s : ByteArray) (j : Nat) (h : j < s.size) : s.get! j = s[j] := by
  cases s with | mk d => exact getElem!_pos d j h
theorem getElem_data (s : ByteArray) (j : Nat) (h : j < s.size) : s[j] = s.data.toList[j]'(by simpa using h) := rfl
theorem data_append (a b : ByteArray) : (a ++ b).data.toList = a.data.toList ++ b.data.toList := by simp
theorem data_extract (s : ByteArray) (i j : Nat) : (s.extract i j).data.toList = (s.data.toList.drop i).take (j - i) := Lib.toList_data (s.extract i j) ▸ Lib.extract_toList s i j
theorem append_left (a b : ByteArray) (j : Nat) (h : j < a.size) : ((a ++ b).get! j) = a[j] := by
  have h2 : j < (a ++ b).size := by simp; omega
  rw [get!_eq _ _ h2, getElem_data, getElem_data]
  have e := data_append a b
  have : ((a ++ b).data.toList)[j]? = (a.data.toList ++ b.data.toList)[j]? := by rw [e]
  rw [List.getElem?_eq_getElem (by simpa using h2), List.getElem?_append_left (by simpa using h), List.getElem?_eq_getElem (by simpa using h)] at this
  exact Option.some.inj this
theorem extract_right (a b : ByteArray) : (a ++ b).extract a.size (a ++ b).size = b := by
  apply bytes_ext
  rw [data_extract, data_append, List.drop_append_of_le_length (by simp)]
  have : a.data.toList.drop a.size = [] := List.drop_eq_nil_of_le (by simp)
  rw [this, List.nil_append]
  apply List.take_of_length_le
  simp
end Go.Proofs.YtgbajagacmfcmaaDoor
/- Contracts of the small functions of text and of its reference that every statement of the layer runs: Few, Split, Same, lives. -/
namespace Go.Proofs.YtgbajagacmfcmaaDoor
open Go.RowKit
set_option linter.unusedVariables false
set_option maxRecDepth 20000

theorem bool_ret {a b : Bool} (h : a = b) : Ending.returned (.bool a) = .returned (.bool b) := by rw [h]
theorem chain {a b c : World} (h : Below a.heap.size a b) (k : Below b.heap.size b c) : Below a.heap.size a c := h.trans (k.mono h.size)

theorem quiet_left {P : Program} {f : FuncId} {args : Array Value} {w : World} {n : Nat} {v : Value}
    (h : Calls P f args (w.drewN n) fun e w' => e = .returned v ∧ w.drewN n = w') : Calls P f args (w.drewN n) fun e w'' => e = .returned v ∧ ∃ m, w'' = w.drewN m :=
  h.mono fun _ _ ⟨he, hm⟩ => ⟨he, n, hm.symm⟩
theorem quiet_add_left {P : Program} {f : FuncId} {args : Array Value} {w : World} {a n : Nat} {v : Value}
    (h : Calls P f args (w.drewN (a + n)) fun e w' => e = .returned v ∧ w.drewN (a + n) = w') :
    Calls P f args (w.drewN (a + n)) fun e w'' => e = .returned v ∧ ∃ m, w'' = w.drewN (a + m) :=
  h.mono fun _ _ ⟨he, hm⟩ => ⟨he, n, hm.symm⟩

theorem add_none (b j : Nat) : (⟨b, 0, none⟩ : Addr).add j = ⟨b, j, none⟩ := by
  unfold Addr.add
  split <;> simp_all

/-- Bytes, as cells. -/
def bys (l : List UInt8) : List Value := l.map fun c => Value.int .u8 ((c.toNat : Nat) : Int)
theorem bys_length (l : List UInt8) : (bys l).length = l.length := by simp [bys]
theorem bys_snoc (l : List UInt8) (c : UInt8) : bys (l ++ [c]) = bys l ++ [.int .u8 ((c.toNat : Nat) : Int)] := by simp [bys]
theorem Tryd.infoByte : (Tryd.prog.info? 5).map (fun i => (i.zero, i.size, i.bytes)) = some (some (.int .u8 0), 1, 1) := by kernel_rfl
/-- 'string(b)' of a row of bytes of one's own. -/
theorem own_bytes_back {w : World} {B : Nat} {v : Value} {l : List UInt8} (h : w.ownsRow B 5 1 v l.length (bys l)) :
    (convert 100 9 v).run Tryd.prog w = .ok (.string ⟨l.toArray⟩) w := by
  by_cases h0 : 0 < l.length
  · obtain ⟨g, c, rfl, _, _⟩ := h.form h0
    refine run_convert_bytes_back (P := Tryd.prog) w 100 9 5 ⟨g, 0, none⟩ c l Tryd.underlying100 Tryd.underlying5 Tryd.underlying9 (fun j hj => ?_)
    rw [add_none, h.cellAt j (by omega)]
    simp [bys, hj]
  · have hl : l = [] := List.eq_nil_of_length_eq_zero (by omega)
    subst hl
    rcases h.2 with ⟨rfl, _⟩ | ⟨g, cap, cur, rfl, _⟩
    · rw [run_convert_bytes_string w 100 9 5 none 0 0 Tryd.underlying100 Tryd.underlying5 Tryd.underlying9]
      simp [Conv.bytesToString]
      rfl
    · exact run_convert_bytes_back (P := Tryd.prog) w 100 9 5 ⟨g, 0, none⟩ cap [] Tryd.underlying100 Tryd.underlying5 Tryd.underlying9 (fun j hj => by simp at hj)
/-- One more byte behind a row of bytes of one's own. -/
theorem own_byte {w0 wr w1 : World} {v v' : Value} {l : List UInt8} {x : UInt8} {o : Obj} (hown' : w1.ownsRow w0.heap.size 5 1 v' (l.length + 1) (bys l ++ [.int .u8 ((x.toNat : Nat) : Int)]))
    (hg : (wr.alloc o).grownBy w1 v.ownBlock) (hown : wr.ownsRow w0.heap.size 5 1 v l.length (bys l)) (hb : Below w0.heap.size w0 wr) :
    w1.ownsRow w0.heap.size 5 1 v' (l ++ [x]).length (bys (l ++ [x])) ∧ Below w0.heap.size w0 w1 := by
  refine ⟨by rw [bys_snoc]; simpa using hown', ?_⟩
  refine (hb.alloc hb.size o).grown hg (by have := hb.size; simp; omega) ?_
  intro k hk
  exact (hown.lt k hk).1

/-- 'string([]byte{c})'. -/
theorem one_byte (c : Nat) (hc : c < 256) (W : World) :
    (convert 100 9 (.slice (some ⟨W.heap.size, 0, none⟩) 1 1)).run Tryd.prog (W.alloc (.cells #[.int .u8 (c : Int)] 5)) = .ok (.string { data := #[UInt8.ofNat c] }) (W.alloc (.cells #[.int .u8 (c : Int)] 5)) := by
  have hb := run_convert_bytes_back (P := Tryd.prog) (W.alloc (.cells #[.int .u8 (c : Int)] 5)) 100 9 5 ⟨W.heap.size, 0, none⟩ 1 [UInt8.ofNat c] Tryd.underlying100 Tryd.underlying5 Tryd.underlying9 (by
    intro j hj
    obtain rfl : j = 0 := by simpa using hj
    rw [add_none]
    simp [World.cell?_alloc_new]
    omega)
  exact hb

/-- The first so many bytes. -/
def few (s : ByteArray) (n : Nat) : ByteArray := if n < s.size then s.extract 0 n else s
theorem few_size (s : ByteArray) (n : Nat) : (few s n).size ≤ n := by
  unfold few
  split
  · simp; omega
  · omega

set_option maxHeartbeats 400000 in
theorem few_any (s : ByteArray) (n : Nat) (w : World) (hs : s.size ≤ maxLen) (hn : n ≤ 100000) :
    Calls Tryd.prog 21 #[.string s, .int .i64 n] w fun e w' => e = .returned (.string (few s n)) ∧ w = w' := by
  unfold maxLen at hs
  by_cases h : n < s.size
  · have e : few s n = s.extract 0 n := by unfold few; rw [if_pos h]
    rw [e]
    go_enter Tryd.func21, Tryd.ntmps21
    go_wp2
    go_ret
    exact ⟨rfl, rfl⟩
  · have e : few s n = s := by unfold few; rw [if_neg h]
    rw [e]
    go_enter Tryd.func21, Tryd.ntmps21
    go_wp2
    go_ret
    exact ⟨rfl, rfl⟩

/-- What a splitting reader holds behind the first k bytes: the pieces so far, and where the next one begins. -/
def sp (s : ByteArray) (sep : Nat) : Nat → List ByteArray × Nat
  | 0 => ([], 0)
  | k + 1 => if (s.data.toList.getD k 0).toNat = sep then ((sp s sep k).1 ++ [s.extract (sp s sep k).2 k], k + 1) else sp s sep k
def pieces (s : ByteArray) (sep : Nat) : List ByteArray := (sp s sep s.size).1 ++ [s.extract (sp s sep s.size).2 s.size]
theorem sp_le (s : ByteArray) (sep : Nat) : ∀ k, (sp s sep k).2 ≤ k ∧ (sp s sep k).1.length ≤ k
  | 0 => by simp [sp]
  | k + 1 => by
    have := sp_le s sep k
    unfold sp
    split
    · simp; omega
    · omega
theorem sp_hit (s : ByteArray) (sep k : Nat) (hk : k < s.size) (h : (s[k]).toNat = sep) : sp s sep (k + 1) = ((sp s sep k).1 ++ [s.extract (sp s sep k).2 k], k + 1) := by
  have e : s.data.toList.getD k 0 = s[k] := by
    rw [List.getD_eq_getElem?_getD, List.getElem?_eq_getElem (by simpa using hk)]; rfl
  rw [sp, e, if_pos h]
theorem sp_miss (s : ByteArray) (sep k : Nat) (hk : k < s.size) (h : ¬ (s[k]).toNat = sep) : sp s sep (k + 1) = sp s sep k := by
  have e : s.data.toList.getD k 0 = s[k] := by
    rw [List.getD_eq_getElem?_getD, List.getElem?_eq_getElem (by simpa using hk)]; rfl
  rw [sp, e, if_neg h]

/-- It returns a slice of its own that holds just these texts, and nothing that was there has turned. -/
def RetStrs (w : World) (l : List ByteArray) (e : Ending) (w' : World) : Prop :=
  ∃ v, e = .returned v ∧ w'.ownsRow w.heap.size 9 1 v l.length (l.map Value.string) ∧ Below w.heap.size w w'

theorem Tryd.infoString : (Tryd.prog.info? 9).map (fun i => (i.zero, i.size, i.bytes)) = some (some (.string ByteArray.empty), 1, 16) := by kernel_rfl

/-- One more text behind a row of texts of one's own. -/
theorem own_snoc {w0 wr w1 : World} {v v' : Value} {l : List ByteArray} {x : ByteArray} {o : Obj} (hown' : w1.ownsRow w0.heap.size 9 1 v' (l.length + 1) (l.map Value.string ++ [.string x]))
    (hg : (wr.alloc o).grownBy w1 v.ownBlock) (hown : wr.ownsRow w0.heap.size 9 1 v l.length (l.map Value.string)) (hb : Below w0.heap.size w0 wr) :
    w1.ownsRow w0.heap.size 9 1 v' (l ++ [x]).length ((l ++ [x]).map Value.string) ∧ Below w0.heap.size w0 w1 := by
  refine ⟨by simpa using hown', ?_⟩
  refine (hb.alloc hb.size o).grown hg (by have := hb.size; simp; omega) ?_
  intro k hk
  exact (hown.lt k hk).1

set_option maxHeartbeats 400000 in
theorem split_any (s : ByteArray) (sep : Nat) (w : World) (hs : s.size ≤ 1000000) :
    Calls Tryd.prog 86 #[.string s, .int .u8 sep] w (RetStrs w (pieces s sep)) := by
  obtain ⟨i0, hi0, hz0, hz1, hz2⟩ := info_parts Tryd.infoString
  go_enter Tryd.func86, Tryd.ntmps86
  go_wp2
  go_loopw [5, 6, 10] (fun v f i wr => ∃ k : Nat, k ≤ s.size ∧ i = .int .i64 k ∧ f = .int .i64 (sp s sep k).2 ∧ wr.ownsRow w.heap.size 9 1 v (sp s sep k).1.length ((sp s sep k).1.map Value.string) ∧ Below w.heap.size w wr) (fun _ _ i _ => s.size - (intOf i).toNat)
  case atStart => exact ⟨0, Nat.zero_le _, rfl, rfl, World.ownsRow_nil _ _ _ _, Below.refl _ _⟩
  case round =>
    obtain ⟨k, hk, rfl, rfl, hown, hbel⟩ := hrel
    have hle := sp_le s sep k
    have hsz := hbel.size
    by_cases hlt : k < s.size
    · by_cases hit : (s[k]).toNat = sep
      · have HS := Lib.hid (sp_hit s sep k hlt hit)
        go_wp2_with (at_builtin; refine wpList_append_own _ rfl (.tmp 18) (.tmp 23) 83 rfl w.heap.size 9 i0 _ 1 16 Tryd.underlying83 hi0 hz0 hz1 hz2 rfl (by decide) _ _ _ rfl (hown.alloc _) ⟨wr.heap.size, 0, none⟩ 1 1 [.string (s.extract (sp s sep k).2 k)] rfl rfl ?c1 ?c2 ?c3 ?c4 ?c5 ?_)
        case c1 => exact cell_one_new _ _ _
        case c2 => intro u hu; simp at hu; subst hu; rfl
        case c3 => unfold maxLen; omega
        case c4 => omega
        case c5 => simp; omega
        intro v' w1 hown' hgrow _
        have R := own_snoc hown' hgrow hown hbel
        clear hown' hgrow hown hbel
        go_wp2
        go_roundw
        case rel => exact ⟨k + 1, by omega, by go_num, by rw [HS.out]; go_num, by rw [HS.out]; exact R.1, R.2⟩
        case measure => simp [intOf]; omega
      · have HS := Lib.hid (sp_miss s sep k hlt hit)
        go_wp2
        go_roundw
        case rel => exact ⟨k + 1, by omega, by go_num, by rw [HS.out], by rw [HS.out]; exact hown, hbel⟩
        case measure => simp [intOf]; omega
    · have hks : k = s.size := by omega
      subst hks
      go_wp2_with (at_builtin; refine wpList_append_own _ rfl (.tmp 28) (.tmp 32) 83 rfl w.heap.size 9 i0 _ 1 16 Tryd.underlying83 hi0 hz0 hz1 hz2 rfl (by decide) _ _ _ rfl (hown.alloc _) ⟨wr.heap.size, 0, none⟩ 1 1 [.string (s.extract (sp s sep s.size).2 s.size)] rfl rfl ?c1 ?c2 ?c3 ?c4 ?c5 ?_)
      case c1 => exact cell_one_new _ _ _
      case c2 => intro u hu; simp at hu; subst hu; rfl
      case c3 => unfold maxLen; omega
      case c4 => omega
      case c5 => simp; omega
      intro v' w1 hown' hgrow _
      have R := own_snoc hown' hgrow hown hbel
      clear hown' hgrow hown hbel
      go_wp2
      go_ret
      exact ⟨_, rfl, R.1, R.2⟩

theorem pieces_example : pieces { data := #[97, 46, 46, 98] } 46 = [{ data := #[97] }, { data := #[] }, { data := #[98] }] := by kernel_rfl

/-- The cells of a row of texts. -/
theorem own_cells {w : World} {B g n c : Nat} {l : List ByteArray} (h : w.ownsRow B 9 1 (.slice (some ⟨g, 0, none⟩) n c) n (l.map Value.string)) :
    ∀ i (hi : i < l.length), w.cell? ⟨g, i, none⟩ = some (.string l[i]) := by
  intro i hi
  have hl : l.length = n := by simpa using h.1
  rw [h.cellAt i (by omega)]
  simp [hi]

theorem bcell {W w1 : World} (hb : Below W.heap.size W w1) : (∀ b o, b < W.heap.size → w1.cell? ⟨b, o, none⟩ = W.cell? ⟨b, o, none⟩) ∧ (∀ b o, b < W.heap.size → w1.frozen? ⟨b, o, none⟩ = W.frozen? ⟨b, o, none⟩) :=
  ⟨fun b o h => hb.cell (p := ⟨b, o, none⟩) h, fun b o h => hb.frozen (p := ⟨b, o, none⟩) h⟩
theorem belowN {B : Nat} {a w : World} (h : Below B a w) (n : Nat) : Below B a (w.drewN n) := ⟨h.os, h.tape, h.output, h.size, h.block⟩

end Go.Proofs.YtgbajagacmfcmaaDoor
/- A list of sixteen, written out. -/
namespace Go.Proofs.YtgbajagacmfcmaaDoor
theorem list16 {α : Type} (l : List α) (h : l.length = 16) : ∃ y0 y1 y2 y3 y4 y5 y6 y7 y8 y9 y10 y11 y12 y13 y14 y15, l = [y0, y1, y2, y3, y4, y5, y6, y7, y8, y9, y10, y11, y12, y13, y14, y15] := by
  match l, h with
  | [y0, y1, y2, y3, y4, y5, y6, y7, y8, y9, y10, y11, y12, y13, y14, y15], _ => exact ⟨y0, y1, y2, y3, y4, y5, y6, y7, y8, y9, y10, y11, y12, y13, y14, y15, rfl⟩
theorem list8 {α : Type} (l : List α) (h : l.length = 8) : ∃ a b c d e f g i, l = [a, b, c, d, e, f, g, i] := by
  match l, h with
  | [a, b, c, d, e, f, g, i], _ => exact ⟨a, b, c, d, e, f, g, i, rfl⟩
end Go.Proofs.YtgbajagacmfcmaaDoor
/- An address (api.Addr: 17 cells) in memory: its facts, stores of its bytes, a store of all of it. Written by mkaddr.py. -/
namespace Go.Proofs.YtgbajagacmfcmaaDoor
open Go.RowKit
set_option linter.unusedVariables false
set_option maxRecDepth 20000

theorem addrV_eq (f : Int) (y0 y1 y2 y3 y4 y5 y6 y7 y8 y9 y10 y11 y12 y13 y14 y15 : Nat) : addrV f [y0, y1, y2, y3, y4, y5, y6, y7, y8, y9, y10, y11, y12, y13, y14, y15] = .agg #[.int .i64 f, .int .u8 (y0 : Int), .int .u8 (y1 : Int), .int .u8 (y2 : Int), .int .u8 (y3 : Int), .int .u8 (y4 : Int), .int .u8 (y5 : Int), .int .u8 (y6 : Int), .int .u8 (y7 : Int), .int .u8 (y8 : Int), .int .u8 (y9 : Int), .int .u8 (y10 : Int), .int .u8 (y11 : Int), .int .u8 (y12 : Int), .int .u8 (y13 : Int), .int .u8 (y14 : Int), .int .u8 (y15 : Int)] := rfl
/-- An address lies at G. -/
structure AddrAt (w : World) (G : Nat) (f : Int) (bs : List Nat) : Prop where
  len : bs.length = 16
  lt : G < w.heap.size
  fam : w.cell? ⟨G, 0, none⟩ = some (.int .i64 f)
  cells : ∀ j, j < 16 → w.cell? ⟨G, 1 + j, none⟩ = some (.int .u8 ((bs.getD j 0 : Nat) : Int))
  live : ∀ j, j < 17 → w.frozen? ⟨G, j, none⟩ = false
theorem AddrAt.below {w w' : World} {G : Nat} {f : Int} {bs : List Nat} (h : AddrAt w G f bs) (hb : Below w.heap.size w w') : AddrAt w' G f bs :=
  ⟨h.len, Nat.lt_of_lt_of_le h.lt hb.size, by rw [hb.cell (p := ⟨G, 0, none⟩) h.lt]; exact h.fam, fun j hj => by rw [hb.cell (p := ⟨G, 1 + j, none⟩) h.lt]; exact h.cells j hj, fun j hj => by rw [hb.frozen (p := ⟨G, j, none⟩) h.lt]; exact h.live j hj⟩
theorem AddrAt.set {w : World} {G i : Nat} {f : Int} {bs : List Nat} (h : AddrAt w G f bs) (hi : i < 16) (v : Nat) : AddrAt (w.setCell ⟨G, 1 + i, none⟩ (.int .u8 ((v : Nat) : Int))) G f (bs.set i v) := by
  refine ⟨by simp [h.len], by simpa using h.lt, ?_, ?_, ?_⟩
  · rw [World.cell?_setCell_other _ _ _ _ (by intro h2; injection h2 with _ h3 _; omega)]
    exact h.fam
  · intro j hj
    by_cases e : j = i
    · subst e
      rw [World.cell?_setCell_same _ _ _ (h.cells j hj), List.getD_eq_getElem?_getD, List.getElem?_set_self (by rw [h.len]; exact hj)]
      rfl
    · rw [World.cell?_setCell_other _ _ _ _ (by intro h2; injection h2 with _ h3 _; omega), h.cells j hj, List.getD_eq_getElem?_getD, List.getD_eq_getElem?_getD, List.getElem?_set_ne (by omega)]
  · intro j hj
    rw [World.frozen?_setCell]
    exact h.live j hj
theorem AddrAt.setFam {w : World} {G : Nat} {f : Int} {bs : List Nat} (h : AddrAt w G f bs) (g : Int) : AddrAt (w.setCell ⟨G, 0, none⟩ (.int .i64 g)) G g bs := by
  refine ⟨h.len, by simpa using h.lt, World.cell?_setCell_same _ _ _ h.fam, ?_, ?_⟩
  · intro j hj
    rw [World.cell?_setCell_other _ _ _ _ (by intro h2; injection h2 with _ h3 _; omega)]
    exact h.cells j hj
  · intro j hj
    rw [World.frozen?_setCell]
    exact h.live j hj
theorem AddrAt.other {w : World} {G G' i : Nat} {f : Int} {bs : List Nat} (h : AddrAt w G f bs) (hG : G' ≠ G) (u : Value) : AddrAt (w.setCell ⟨G', i, none⟩ u) G f bs := by
  have hn : ∀ j, (⟨G', i, none⟩ : Addr) ≠ ⟨G, j, none⟩ := fun j h2 => by injection h2 with h3 _ _; exact hG h3
  refine ⟨h.len, by simpa using h.lt, by rw [World.cell?_setCell_other _ _ _ _ (hn _)]; exact h.fam, fun j hj => by rw [World.cell?_setCell_other _ _ _ _ (hn _)]; exact h.cells j hj, fun j hj => by rw [World.frozen?_setCell]; exact h.live j hj⟩
theorem AddrAt.of (w : World) (t : TypeId) (cs : Array Value) (f : Int) (bs : List Nat) (h16 : bs.length = 16) (h : cs.toList = Value.int .i64 f :: bs.map fun n => Value.int .u8 ((n : Nat) : Int)) : AddrAt (w.alloc (.cells cs t)) w.heap.size f bs := by
  have e : ∀ j, cs[j]? = (Value.int .i64 f :: bs.map fun n => Value.int .u8 ((n : Nat) : Int))[j]? := fun j => by rw [← h, Array.getElem?_toList]
  refine ⟨h16, by simp, ?_, ?_, fun j _ => World.frozen?_alloc_new _ _ _ _⟩
  · rw [World.cell?_alloc_new, e]; rfl
  · intro j hj
    rw [World.cell?_alloc_new, Nat.add_comm 1 j, e, List.getElem?_cons_succ, List.getElem?_map, List.getD_eq_getElem?_getD, List.getElem?_eq_getElem (by omega)]
    rfl
theorem AddrAt.new (w : World) (t : TypeId) (f : Int) (y0 y1 y2 y3 y4 y5 y6 y7 y8 y9 y10 y11 y12 y13 y14 y15 : Nat) : AddrAt (w.alloc (.cells #[.int .i64 f, .int .u8 (y0 : Int), .int .u8 (y1 : Int), .int .u8 (y2 : Int), .int .u8 (y3 : Int), .int .u8 (y4 : Int), .int .u8 (y5 : Int), .int .u8 (y6 : Int), .int .u8 (y7 : Int), .int .u8 (y8 : Int), .int .u8 (y9 : Int), .int .u8 (y10 : Int), .int .u8 (y11 : Int), .int .u8 (y12 : Int), .int .u8 (y13 : Int), .int .u8 (y14 : Int), .int .u8 (y15 : Int)] t)) w.heap.size f [y0, y1, y2, y3, y4, y5, y6, y7, y8, y9, y10, y11, y12, y13, y14, y15] := AddrAt.of w t _ f _ rfl rfl
theorem AddrAt.all {w : World} {G : Nat} {f : Int} {y0 y1 y2 y3 y4 y5 y6 y7 y8 y9 y10 y11 y12 y13 y14 y15 : Nat} (h : AddrAt w G f [y0, y1, y2, y3, y4, y5, y6, y7, y8, y9, y10, y11, y12, y13, y14, y15]) :
    w.cell? ⟨G, 0, none⟩ = some (.int .i64 f) ∧ w.cell? ⟨G, 1, none⟩ = some (.int .u8 (y0 : Int)) ∧ w.cell? ⟨G, 2, none⟩ = some (.int .u8 (y1 : Int)) ∧ w.cell? ⟨G, 3, none⟩ = some (.int .u8 (y2 : Int)) ∧ w.cell? ⟨G, 4, none⟩ = some (.int .u8 (y3 : Int)) ∧ w.cell? ⟨G, 5, none⟩ = some (.int .u8 (y4 : Int)) ∧ w.cell? ⟨G, 6, none⟩ = some (.int .u8 (y5 : Int)) ∧ w.cell? ⟨G, 7, none⟩ = some (.int .u8 (y6 : Int)) ∧ w.cell? ⟨G, 8, none⟩ = some (.int .u8 (y7 : Int)) ∧ w.cell? ⟨G, 9, none⟩ = some (.int .u8 (y8 : Int)) ∧ w.cell? ⟨G, 10, none⟩ = some (.int .u8 (y9 : Int)) ∧ w.cell? ⟨G, 11, none⟩ = some (.int .u8 (y10 : Int)) ∧ w.cell? ⟨G, 12, none⟩ = some (.int .u8 (y11 : Int)) ∧ w.cell? ⟨G, 13, none⟩ = some (.int .u8 (y12 : Int)) ∧ w.cell? ⟨G, 14, none⟩ = some (.int .u8 (y13 : Int)) ∧ w.cell? ⟨G, 15, none⟩ = some (.int .u8 (y14 : Int)) ∧ w.cell? ⟨G, 16, none⟩ = some (.int .u8 (y15 : Int)) :=
  ⟨h.fam, h.cells 0 (by decide), h.cells 1 (by decide), h.cells 2 (by decide), h.cells 3 (by decide), h.cells 4 (by decide), h.cells 5 (by decide), h.cells 6 (by decide), h.cells 7 (by decide), h.cells 8 (by decide), h.cells 9 (by decide), h.cells 10 (by decide), h.cells 11 (by decide), h.cells 12 (by decide), h.cells 13 (by decide), h.cells 14 (by decide), h.cells 15 (by decide)⟩
theorem AddrAt.lives {w : World} {G : Nat} {f : Int} {bs : List Nat} (h : AddrAt w G f bs) :
    w.frozen? ⟨G, 0, none⟩ = false ∧ w.frozen? ⟨G, 1, none⟩ = false ∧ w.frozen? ⟨G, 2, none⟩ = false ∧ w.frozen? ⟨G, 3, none⟩ = false ∧ w.frozen? ⟨G, 4, none⟩ = false ∧ w.frozen? ⟨G, 5, none⟩ = false ∧ w.frozen? ⟨G, 6, none⟩ = false ∧ w.frozen? ⟨G, 7, none⟩ = false ∧ w.frozen? ⟨G, 8, none⟩ = false ∧ w.frozen? ⟨G, 9, none⟩ = false ∧ w.frozen? ⟨G, 10, none⟩ = false ∧ w.frozen? ⟨G, 11, none⟩ = false ∧ w.frozen? ⟨G, 12, none⟩ = false ∧ w.frozen? ⟨G, 13, none⟩ = false ∧ w.frozen? ⟨G, 14, none⟩ = false ∧ w.frozen? ⟨G, 15, none⟩ = false ∧ w.frozen? ⟨G, 16, none⟩ = false :=
  ⟨h.live 0 (by decide), h.live 1 (by decide), h.live 2 (by decide), h.live 3 (by decide), h.live 4 (by decide), h.live 5 (by decide), h.live 6 (by decide), h.live 7 (by decide), h.live 8 (by decide), h.live 9 (by decide), h.live 10 (by decide), h.live 11 (by decide), h.live 12 (by decide), h.live 13 (by decide), h.live 14 (by decide), h.live 15 (by decide), h.live 16 (by decide)⟩
/-- An address, stored cell by cell. -/
def storeA (W : World) (R : Nat) (f : Int) (y0 y1 y2 y3 y4 y5 y6 y7 y8 y9 y10 y11 y12 y13 y14 y15 : Nat) : World := (((((((((((((((((W.setCell ⟨R, 0, none⟩ (.int .i64 f)).setCell ⟨R, 1, none⟩ (.int .u8 ((y0 : Nat) : Int))).setCell ⟨R, 2, none⟩ (.int .u8 ((y1 : Nat) : Int))).setCell ⟨R, 3, none⟩ (.int .u8 ((y2 : Nat) : Int))).setCell ⟨R, 4, none⟩ (.int .u8 ((y3 : Nat) : Int))).setCell ⟨R, 5, none⟩ (.int .u8 ((y4 : Nat) : Int))).setCell ⟨R, 6, none⟩ (.int .u8 ((y5 : Nat) : Int))).setCell ⟨R, 7, none⟩ (.int .u8 ((y6 : Nat) : Int))).setCell ⟨R, 8, none⟩ (.int .u8 ((y7 : Nat) : Int))).setCell ⟨R, 9, none⟩ (.int .u8 ((y8 : Nat) : Int))).setCell ⟨R, 10, none⟩ (.int .u8 ((y9 : Nat) : Int))).setCell ⟨R, 11, none⟩ (.int .u8 ((y10 : Nat) : Int))).setCell ⟨R, 12, none⟩ (.int .u8 ((y11 : Nat) : Int))).setCell ⟨R, 13, none⟩ (.int .u8 ((y12 : Nat) : Int))).setCell ⟨R, 14, none⟩ (.int .u8 ((y13 : Nat) : Int))).setCell ⟨R, 15, none⟩ (.int .u8 ((y14 : Nat) : Int))).setCell ⟨R, 16, none⟩ (.int .u8 ((y15 : Nat) : Int)))
theorem storeA_at {W : World} {R : Nat} {g : Int} {bs : List Nat} (f : Int) (y0 y1 y2 y3 y4 y5 y6 y7 y8 y9 y10 y11 y12 y13 y14 y15 : Nat) (h : AddrAt W R g bs) : AddrAt (storeA W R f y0 y1 y2 y3 y4 y5 y6 y7 y8 y9 y10 y11 y12 y13 y14 y15) R f [y0, y1, y2, y3, y4, y5, y6, y7, y8, y9, y10, y11, y12, y13, y14, y15] := by
  obtain ⟨z0, z1, z2, z3, z4, z5, z6, z7, z8, z9, z10, z11, z12, z13, z14, z15, rfl⟩ := list16 bs h.len
  exact (((((((((((((((((h.setFam f).set (i := 0) (by decide) y0).set (i := 1) (by decide) y1).set (i := 2) (by decide) y2).set (i := 3) (by decide) y3).set (i := 4) (by decide) y4).set (i := 5) (by decide) y5).set (i := 6) (by decide) y6).set (i := 7) (by decide) y7).set (i := 8) (by decide) y8).set (i := 9) (by decide) y9).set (i := 10) (by decide) y10).set (i := 11) (by decide) y11).set (i := 12) (by decide) y12).set (i := 13) (by decide) y13).set (i := 14) (by decide) y14).set (i := 15) (by decide) y15)
theorem storeA_below {w W : World} {R : Nat} (f : Int) (y0 y1 y2 y3 y4 y5 y6 y7 y8 y9 y10 y11 y12 y13 y14 y15 : Nat) (h : Below w.heap.size w W) (hR : w.heap.size ≤ R) : Below w.heap.size w (storeA W R f y0 y1 y2 y3 y4 y5 y6 y7 y8 y9 y10 y11 y12 y13 y14 y15) :=
  (((((((((((((((((h.setCell (p := ⟨R, 0, none⟩) hR _).setCell (p := ⟨R, 1, none⟩) hR _).setCell (p := ⟨R, 2, none⟩) hR _).setCell (p := ⟨R, 3, none⟩) hR _).setCell (p := ⟨R, 4, none⟩) hR _).setCell (p := ⟨R, 5, none⟩) hR _).setCell (p := ⟨R, 6, none⟩) hR _).setCell (p := ⟨R, 7, none⟩) hR _).setCell (p := ⟨R, 8, none⟩) hR _).setCell (p := ⟨R, 9, none⟩) hR _).setCell (p := ⟨R, 10, none⟩) hR _).setCell (p := ⟨R, 11, none⟩) hR _).setCell (p := ⟨R, 12, none⟩) hR _).setCell (p := ⟨R, 13, none⟩) hR _).setCell (p := ⟨R, 14, none⟩) hR _).setCell (p := ⟨R, 15, none⟩) hR _).setCell (p := ⟨R, 16, none⟩) hR _)
end Go.Proofs.YtgbajagacmfcmaaDoor
/- Contracts of text.digit and text.Number: the number of a text's digits. -/
namespace Go.Proofs.YtgbajagacmfcmaaDoor
open Go.RowKit
set_option linter.unusedVariables false
set_option maxRecDepth 20000

/-- A digit's number; 16: it is none. -/
def digC (c : Nat) : Nat := if 48 ≤ c ∧ c ≤ 57 then c - 48 else if 97 ≤ c ∧ c ≤ 102 then c - 87 else if 65 ≤ c ∧ c ≤ 70 then c - 55 else 16
theorem digC_le (c : Nat) : digC c ≤ 16 := by unfold digC; split; · omega
                                              split; · omega
                                              split <;> omega
/-- The byte at a place, or 0. -/
def byteOf (s : ByteArray) (k : Nat) : Nat := (s.data.toList.getD k 0).toNat
theorem byteOf_eq (s : ByteArray) (k : Nat) (h : k < s.size) : byteOf s k = (s[k]).toNat := by
  unfold byteOf
  rw [List.getD_eq_getElem?_getD, List.getElem?_eq_getElem (by simpa using h)]; rfl
def most : Nat := 1099511627776
/-- The number of the first k digits, if there is one. -/
def numTo (s : ByteArray) (b : Nat) : Nat → Option Nat
  | 0 => some 0
  | k + 1 => match numTo s b k with
    | none => none
    | some n => if b ≤ digC (byteOf s k) then none else if most < n * b + digC (byteOf s k) then none else some (n * b + digC (byteOf s k))
def numB (s : ByteArray) (b : Nat) : Option Nat := if s.size = 0 then none else numTo s b s.size
theorem numTo_none (s : ByteArray) (b k : Nat) (h : numTo s b k = none) : ∀ m, numTo s b (k + m) = none
  | 0 => h
  | m + 1 => by rw [← Nat.add_assoc, numTo, numTo_none s b k h m]
theorem numTo_le (s : ByteArray) (b : Nat) : ∀ k n, numTo s b k = some n → n ≤ most
  | 0, n, h => by simp [numTo] at h; omega
  | k + 1, n, h => by
    rw [numTo] at h
    cases hk : numTo s b k with
    | none => rw [hk] at h; cases h
    | some m =>
      rw [hk] at h
      simp only at h
      split at h
      · cases h
      · split at h
        · cases h
        · have := Option.some.inj h; omega
theorem numTo_step {s : ByteArray} {b k n : Nat} (h : numTo s b k = some n) (hk : k < s.size) :
    numTo s b (k + 1) = if b ≤ digC (s[k]).toNat then none else if most < n * b + digC (s[k]).toNat then none else some (n * b + digC (s[k]).toNat) := by
  rw [numTo, h, byteOf_eq s k hk]
theorem numB_dead {s : ByteArray} {b k : Nat} (hk : k < s.size) (h : numTo s b (k + 1) = none) : numB s b = none := by
  unfold numB
  rw [if_neg (by omega)]
  have := numTo_none s b (k + 1) h (s.size - (k + 1))
  rwa [show k + 1 + (s.size - (k + 1)) = s.size by omega] at this
/-- What Number answers. -/
def numRet (o : Option Nat) : Value := .tuple #[.int .i64 ((o.getD 0 : Nat) : Int), .bool o.isSome]

set_option maxHeartbeats 1000000 in
theorem digit_any (c : Nat) (w : World) (hc : c < 256) :
    Calls Tryd.prog 91 #[.int .u8 (c : Int)] w fun e w' => e = .returned (.int .i64 ((digC c : Nat) : Int)) ∧ w = w' := by
  have hparts : c < 48 ∨ (48 ≤ c ∧ c ≤ 57) ∨ (58 ≤ c ∧ c < 65) ∨ (65 ≤ c ∧ c ≤ 70) ∨ (71 ≤ c ∧ c < 97) ∨ (97 ≤ c ∧ c ≤ 102) ∨ 103 ≤ c := by omega
  rcases hparts with h | h | h | h | h | h | h
  · have e : digC c = 16 := by unfold digC; rw [if_neg (by omega), if_neg (by omega), if_neg (by omega)]
    rw [e]
    go_enter Tryd.func91, Tryd.ntmps91
    go_wp2
    go_ret
    exact ⟨rfl, rfl⟩
  · have e : digC c = c - 48 := by unfold digC; rw [if_pos (by omega)]
    have e1 : IntKind.u8.wrap ((c : Int) - 48) = (c : Int) - 48 := by rw [IntKind.wrap_u8]; omega
    have e2 : (((c - 48 : Nat)) : Int) = (c : Int) - 48 := by omega
    rw [e, e2]
    clear e e2
    go_enter Tryd.func91, Tryd.ntmps91
    go_wp2
    go_ret
    exact ⟨rfl, rfl⟩
  · have e : digC c = 16 := by unfold digC; rw [if_neg (by omega), if_neg (by omega), if_neg (by omega)]
    rw [e]
    go_enter Tryd.func91, Tryd.ntmps91
    go_wp2
    go_ret
    exact ⟨rfl, rfl⟩
  · have e : digC c = c - 55 := by unfold digC; rw [if_neg (by omega), if_neg (by omega), if_pos (by omega)]
    have e1 : IntKind.u8.wrap ((c : Int) - 65) = (c : Int) - 65 := by rw [IntKind.wrap_u8]; omega
    have e2 : (((c - 55 : Nat)) : Int) = (c : Int) - 65 + 10 := by omega
    rw [e, e2]
    clear e e2
    go_enter Tryd.func91, Tryd.ntmps91
    go_wp2
    go_ret
    exact ⟨rfl, rfl⟩
  · have e : digC c = 16 := by unfold digC; rw [if_neg (by omega), if_neg (by omega), if_neg (by omega)]
    rw [e]
    go_enter Tryd.func91, Tryd.ntmps91
    go_wp2
    go_ret
    exact ⟨rfl, rfl⟩
  · have e : digC c = c - 87 := by unfold digC; rw [if_neg (by omega), if_pos (by omega)]
    have e1 : IntKind.u8.wrap ((c : Int) - 97) = (c : Int) - 97 := by rw [IntKind.wrap_u8]; omega
    have e2 : (((c - 87 : Nat)) : Int) = (c : Int) - 97 + 10 := by omega
    rw [e, e2]
    clear e e2
    go_enter Tryd.func91, Tryd.ntmps91
    go_wp2
    go_ret
    exact ⟨rfl, rfl⟩
  · have e : digC c = 16 := by unfold digC; rw [if_neg (by omega), if_neg (by omega), if_neg (by omega)]
    rw [e]
    go_enter Tryd.func91, Tryd.ntmps91
    go_wp2
    go_ret
    exact ⟨rfl, rfl⟩

theorem num_ret {o p : Option Nat} (h : o = p) : Ending.returned (numRet o) = .returned (numRet p) := by rw [h]

set_option maxHeartbeats 2000000 in
theorem number_8 (s : ByteArray) (w : World) (hs : s.size ≤ 1000000) :
    Calls Tryd.prog 82 #[.string s, .int .i64 8] w fun e w' => e = .returned (numRet (numB s 8)) ∧ w = w' := by
  by_cases h0 : s.size = 0
  · have e : numB s 8 = none := by unfold numB; rw [if_pos h0]
    have he := isEmpty_true s h0
    rw [e]
    clear e
    go_enter Tryd.func82, Tryd.ntmps82
    go_wp2
    go_ret2
    exact ⟨rfl, rfl⟩
  · have he := isEmpty_false s (by omega)
    have HN : Hid (numB s 8 = numTo s 8 s.size) := by unfold numB; rw [if_neg h0]; exact Lib.hid rfl
    go_enter Tryd.func82, Tryd.ntmps82
    go_wp2
    go_loop [6, 25] (fun t i => ∃ k n : Nat, k ≤ s.size ∧ i = .int .i64 k ∧ t = .int .i64 (n : Int) ∧ Hid (numTo s 8 k = some n)) (fun _ i => s.size - (intOf i).toNat)
    case atStart => exact ⟨0, 0, Nat.zero_le _, rfl, rfl, Lib.hid rfl⟩
    case round =>
      obtain ⟨k, n, hk, rfl, rfl, HK⟩ := hrel
      have hn : n ≤ 1099511627776 := numTo_le s 8 k n HK.out
      by_cases hlt : k < s.size
      · have u1 : (s[k]).toNat < 256 := (s[k]).toNat_lt
        have HS := Lib.hid (numTo_step HK.out hlt)
        have hd := digC_le (s[k]).toNat
        go_wp2_with fail
        refine (digit_any _ _ u1).mono ?_
        rintro e w' ⟨rfl, rfl⟩
        generalize digC (s[k]).toNat = d at *
        by_cases h1 : 8 ≤ d
        · go_wp2
          go_ret2
          exact ⟨num_ret (numB_dead hlt (by rw [HS.out, if_pos h1])).symm, rfl⟩
        · by_cases h2 : 1099511627776 < n * 8 + d
          · go_wp2
            go_ret2
            exact ⟨num_ret (numB_dead hlt (by rw [HS.out, if_neg h1, if_pos (by exact h2)])).symm, rfl⟩
          · go_wp2
            go_round
            case rel => exact ⟨k + 1, n * 8 + d, by omega, by go_num, by go_num, Lib.hid (by rw [HS.out, if_neg h1, if_neg (by exact h2)])⟩
            case measure => simp [intOf]; omega
      · obtain rfl : k = s.size := by omega
        go_wp2
        go_ret2
        exact ⟨num_ret (o := some n) (by rw [HN.out, HK.out]), rfl⟩

set_option maxHeartbeats 2000000 in
theorem number_10 (s : ByteArray) (w : World) (hs : s.size ≤ 1000000) :
    Calls Tryd.prog 82 #[.string s, .int .i64 10] w fun e w' => e = .returned (numRet (numB s 10)) ∧ w = w' := by
  by_cases h0 : s.size = 0
  · have e : numB s 10 = none := by unfold numB; rw [if_pos h0]
    have he := isEmpty_true s h0
    rw [e]
    clear e
    go_enter Tryd.func82, Tryd.ntmps82
    go_wp2
    go_ret2
    exact ⟨rfl, rfl⟩
  · have he := isEmpty_false s (by omega)
    have HN : Hid (numB s 10 = numTo s 10 s.size) := by unfold numB; rw [if_neg h0]; exact Lib.hid rfl
    go_enter Tryd.func82, Tryd.ntmps82
    go_wp2
    go_loop [6, 25] (fun t i => ∃ k n : Nat, k ≤ s.size ∧ i = .int .i64 k ∧ t = .int .i64 (n : Int) ∧ Hid (numTo s 10 k = some n)) (fun _ i => s.size - (intOf i).toNat)
    case atStart => exact ⟨0, 0, Nat.zero_le _, rfl, rfl, Lib.hid rfl⟩
    case round =>
      obtain ⟨k, n, hk, rfl, rfl, HK⟩ := hrel
      have hn : n ≤ 1099511627776 := numTo_le s 10 k n HK.out
      by_cases hlt : k < s.size
      · have u1 : (s[k]).toNat < 256 := (s[k]).toNat_lt
        have HS := Lib.hid (numTo_step HK.out hlt)
        have hd := digC_le (s[k]).toNat
        go_wp2_with fail
        refine (digit_any _ _ u1).mono ?_
        rintro e w' ⟨rfl, rfl⟩
        generalize digC (s[k]).toNat = d at *
        by_cases h1 : 10 ≤ d
        · go_wp2
          go_ret2
          exact ⟨num_ret (numB_dead hlt (by rw [HS.out, if_pos h1])).symm, rfl⟩
        · by_cases h2 : 1099511627776 < n * 10 + d
          · go_wp2
            go_ret2
            exact ⟨num_ret (numB_dead hlt (by rw [HS.out, if_neg h1, if_pos (by exact h2)])).symm, rfl⟩
          · go_wp2
            go_round
            case rel => exact ⟨k + 1, n * 10 + d, by omega, by go_num, by go_num, Lib.hid (by rw [HS.out, if_neg h1, if_neg (by exact h2)])⟩
            case measure => simp [intOf]; omega
      · obtain rfl : k = s.size := by omega
        go_wp2
        go_ret2
        exact ⟨num_ret (o := some n) (by rw [HN.out, HK.out]), rfl⟩

set_option maxHeartbeats 2000000 in
theorem number_16 (s : ByteArray) (w : World) (hs : s.size ≤ 1000000) :
    Calls Tryd.prog 82 #[.string s, .int .i64 16] w fun e w' => e = .returned (numRet (numB s 16)) ∧ w = w' := by
  by_cases h0 : s.size = 0
  · have e : numB s 16 = none := by unfold numB; rw [if_pos h0]
    have he := isEmpty_true s h0
    rw [e]
    clear e
    go_enter Tryd.func82, Tryd.ntmps82
    go_wp2
    go_ret2
    exact ⟨rfl, rfl⟩
  · have he := isEmpty_false s (by omega)
    have HN : Hid (numB s 16 = numTo s 16 s.size) := by unfold numB; rw [if_neg h0]; exact Lib.hid rfl
    go_enter Tryd.func82, Tryd.ntmps82
    go_wp2
    go_loop [6, 25] (fun t i => ∃ k n : Nat, k ≤ s.size ∧ i = .int .i64 k ∧ t = .int .i64 (n : Int) ∧ Hid (numTo s 16 k = some n)) (fun _ i => s.size - (intOf i).toNat)
    case atStart => exact ⟨0, 0, Nat.zero_le _, rfl, rfl, Lib.hid rfl⟩
    case round =>
      obtain ⟨k, n, hk, rfl, rfl, HK⟩ := hrel
      have hn : n ≤ 1099511627776 := numTo_le s 16 k n HK.out
      by_cases hlt : k < s.size
      · have u1 : (s[k]).toNat < 256 := (s[k]).toNat_lt
        have HS := Lib.hid (numTo_step HK.out hlt)
        have hd := digC_le (s[k]).toNat
        go_wp2_with fail
        refine (digit_any _ _ u1).mono ?_
        rintro e w' ⟨rfl, rfl⟩
        generalize digC (s[k]).toNat = d at *
        by_cases h1 : 16 ≤ d
        · go_wp2
          go_ret2
          exact ⟨num_ret (numB_dead hlt (by rw [HS.out, if_pos h1])).symm, rfl⟩
        · by_cases h2 : 1099511627776 < n * 16 + d
          · go_wp2
            go_ret2
            exact ⟨num_ret (numB_dead hlt (by rw [HS.out, if_neg h1, if_pos (by exact h2)])).symm, rfl⟩
          · go_wp2
            go_round
            case rel => exact ⟨k + 1, n * 16 + d, by omega, by go_num, by go_num, Lib.hid (by rw [HS.out, if_neg h1, if_neg (by exact h2)])⟩
            case measure => simp [intOf]; omega
      · obtain rfl : k = s.size := by omega
        go_wp2
        go_ret2
        exact ⟨num_ret (o := some n) (by rw [HN.out, HK.out]), rfl⟩

theorem number_any (s : ByteArray) (b : Nat) (w : World) (hs : s.size ≤ 1000000) (hb : b = 8 ∨ b = 10 ∨ b = 16) :
    Calls Tryd.prog 82 #[.string s, .int .i64 (b : Int)] w fun e w' => e = .returned (numRet (numB s b)) ∧ w = w' := by
  rcases hb with rfl | rfl | rfl
  · exact number_8 s w hs
  · exact number_10 s w hs
  · exact number_16 s w hs
end Go.Proofs.YtgbajagacmfcmaaDoor
/- Contracts of the reference's digit, Number and Decimal: a number's decimal digits, and how they are read back. -/
namespace Go.Proofs.YtgbajagacmfcmaaDoor
open Go.RowKit
set_option linter.unusedVariables false
set_option maxRecDepth 20000

/-- A digit's number as the reference tells it; -1: it is none. -/
def digI (c : Nat) : Int := if digC c < 16 then (digC c : Int) else -1

/-- Texts of lists of bytes, one behind the other. -/
theorem mk_append (l m : List UInt8) : (⟨l.toArray⟩ : ByteArray) ++ ⟨m.toArray⟩ = ⟨(l ++ m).toArray⟩ := by
  apply bytes_ext
  rw [data_append]
theorem dec_length (u : Nat) (h : u ≤ 9223372036854775807) : (Lib.decDigits u).length ≤ 21 := by
  have := Lib.itoa_length_le (u : Int) (by omega) (by omega)
  unfold Lib.itoa at this
  rw [if_neg (by omega)] at this
  simpa using this

theorem itoa_min : (Lib.itoa (-9223372036854775808)) = [45, 57, 50, 50, 51, 51, 55, 50, 48, 51, 54, 56, 53, 52, 55, 55, 53, 56, 48, 56] := by
  unfold Lib.itoa
  rw [if_pos (by decide)]
  simp [Lib.decDigits]

theorem byteOf_left (s X : ByteArray) (k : Nat) (h : k < s.size) : byteOf (s ++ X) k = byteOf s k := by
  unfold byteOf
  rw [data_append]
  simp only [List.getD_eq_getElem?_getD]
  rw [List.getElem?_append_left (by simpa using h)]
theorem numTo_left (s X : ByteArray) (b : Nat) : ∀ k, k ≤ s.size → numTo (s ++ X) b k = numTo s b k
  | 0, _ => rfl
  | k + 1, h => by rw [numTo, numTo, numTo_left s X b k (by omega), byteOf_left s X k (by omega)]
theorem digC_dec (d : Nat) (h : d < 10) : digC (UInt8.ofNat (48 + d)).toNat = d := by
  rw [UInt8.toNat_ofNat', Nat.mod_eq_of_lt (by omega)]
  unfold digC
  rw [if_pos (by omega)]
  omega
/-- The digits of a number, from 0 on, are read as the number, if it is not too great. -/
theorem dec_numTo (u : Nat) : numTo ⟨(Lib.decDigits u).toArray⟩ 10 (Lib.decDigits u).length = if u ≤ most then some u else none := by
  induction u using Nat.strongRecOn with
  | _ u ih =>
    by_cases h10 : u < 10
    · have e : Lib.decDigits u = [UInt8.ofNat (48 + u)] := by rw [Lib.decDigits, dif_pos h10]
      rw [e, if_pos (by unfold most; omega)]
      have hb : byteOf ⟨[UInt8.ofNat (48 + u)].toArray⟩ 0 = (UInt8.ofNat (48 + u)).toNat := rfl
      show numTo _ 10 (0 + 1) = _
      rw [numTo, numTo, hb, digC_dec u h10]
      simp only []
      rw [if_neg (by omega), if_neg (by unfold most; omega)]
      simp
    · have e : Lib.decDigits u = Lib.decDigits (u / 10) ++ [UInt8.ofNat (48 + u % 10)] := by rw [Lib.decDigits, dif_neg h10]
      have hi := ih (u / 10) (by omega)
      rw [e, ← mk_append, List.length_append, List.length_singleton]
      have hs : (⟨(Lib.decDigits (u / 10)).toArray⟩ : ByteArray).size = (Lib.decDigits (u / 10)).length := rfl
      have hb : byteOf ((⟨(Lib.decDigits (u / 10)).toArray⟩ : ByteArray) ++ ⟨[UInt8.ofNat (48 + u % 10)].toArray⟩) (Lib.decDigits (u / 10)).length = (UInt8.ofNat (48 + u % 10)).toNat := by
        unfold byteOf
        rw [data_append, List.getD_eq_getElem?_getD, List.getElem?_append_right (by simp)]
        simp
      rw [numTo, numTo_left _ _ _ _ (by rw [hs]; exact Nat.le_refl _), hi, hb, digC_dec _ (by omega)]
      by_cases hm : u / 10 ≤ most
      · rw [if_pos hm]
        simp only []
        rw [if_neg (by omega), show u / 10 * 10 + u % 10 = u by omega]
        by_cases h2 : most < u
        · rw [if_pos h2, if_neg (by omega)]
        · rw [if_neg h2, if_pos (by omega)]
      · rw [if_neg hm, if_neg (by omega)]
theorem dec_pos (u : Nat) : 0 < (Lib.decDigits u).length := by
  rw [Lib.decDigits]
  split <;> simp
theorem num_bad0 (s : ByteArray) (b j : Nat) (hj : j < s.size) (h : b ≤ digC (byteOf s j)) : numB s b = none := by
  apply numB_dead hj
  rw [numTo]
  cases numTo s b j with
  | none => rfl
  | some n => simp only [if_pos h]
/-- What Number answers of a number's digits. -/
theorem itoa_num (n : Int) : numB ⟨(Lib.itoa n).toArray⟩ 10 = if 0 ≤ n ∧ n ≤ 1099511627776 then some n.toNat else none := by
  by_cases hn : 0 ≤ n
  · obtain ⟨u, rfl⟩ : ∃ u : Nat, n = (u : Int) := ⟨n.toNat, by omega⟩
    have e : Lib.itoa (u : Int) = Lib.decDigits u := by unfold Lib.itoa; rw [if_neg (by omega)]; rfl
    rw [e]
    unfold numB
    have hs : (⟨(Lib.decDigits u).toArray⟩ : ByteArray).size = (Lib.decDigits u).length := rfl
    have hp := dec_pos u
    rw [hs, if_neg (by omega), dec_numTo]
    by_cases h : u ≤ most
    · rw [if_pos h, if_pos (by unfold most at h; omega)]; simp
    · rw [if_neg h, if_neg (by unfold most at h; omega)]
  · rw [if_neg (by omega)]
    have e : Lib.itoa n = 45 :: Lib.decDigits n.natAbs := by unfold Lib.itoa; rw [if_pos (by omega)]
    rw [e]
    apply num_bad0 _ _ 0
    · show 0 < (45 :: Lib.decDigits n.natAbs).length
      simp
    · show 10 ≤ digC 45
      decide
end Go.Proofs.YtgbajagacmfcmaaDoor
/- Contracts of four's readers of digits (a closure over the base), and of the reference's: a part's number, 2^32 at most. -/
namespace Go.Proofs.YtgbajagacmfcmaaDoor
open Go.RowKit
set_option linter.unusedVariables false
set_option maxRecDepth 20000

/-- The number of the first k digits, 2^32 at most, if all are digits. -/
def readTo (s : ByteArray) (b : Nat) : Nat → Option Nat
  | 0 => some 0
  | k + 1 => match readTo s b k with
    | none => none
    | some n => if b ≤ digC (byteOf s k) then none else some (min (n * b + digC (byteOf s k)) 4294967296)
def readB (s : ByteArray) (b : Nat) : Option Nat := readTo s b s.size
theorem readTo_none (s : ByteArray) (b k : Nat) (h : readTo s b k = none) : ∀ m, readTo s b (k + m) = none
  | 0 => h
  | m + 1 => by rw [← Nat.add_assoc, readTo, readTo_none s b k h m]
theorem readTo_le (s : ByteArray) (b : Nat) : ∀ k n, readTo s b k = some n → n ≤ 4294967296
  | 0, n, h => by simp [readTo] at h; omega
  | k + 1, n, h => by
    rw [readTo] at h
    cases hk : readTo s b k with
    | none => rw [hk] at h; cases h
    | some m =>
      rw [hk] at h
      simp only at h
      split at h
      · cases h
      · have := Option.some.inj h; omega
theorem readB_le (s : ByteArray) (b n : Nat) (h : readB s b = some n) : n ≤ 4294967296 := readTo_le s b _ n h
theorem readTo_step {s : ByteArray} {b k n : Nat} (h : readTo s b k = some n) (hk : k < s.size) :
    readTo s b (k + 1) = if b ≤ digC (s[k]).toNat then none else some (min (n * b + digC (s[k]).toNat) 4294967296) := by
  rw [readTo, h, byteOf_eq s k hk]
theorem readB_dead {s : ByteArray} {b k : Nat} (hk : k < s.size) (h : readTo s b (k + 1) = none) : readB s b = none := by
  unfold readB
  have := readTo_none s b (k + 1) h (s.size - (k + 1))
  rwa [show k + 1 + (s.size - (k + 1)) = s.size by omega] at this

/-- One digit, read alone. -/
theorem one_sign (s : ByteArray) (k b : Nat) (hk : k < s.size) (hb : b ≤ 16) : numB (s.extract k (k + 1)) b = if b ≤ digC (s[k]).toNat then none else some (digC (s[k]).toNat) := by
  have hz : (s.extract k (k + 1)).size = 1 := by simp; omega
  have e : byteOf (s.extract k (k + 1)) 0 = (s[k]).toNat := by
    rw [← byteOf_eq s k hk]
    unfold byteOf
    rw [data_extract]
    rw [List.getD_eq_getElem?_getD, List.getD_eq_getElem?_getD, List.getElem?_take, if_pos (by omega), List.getElem?_drop, Nat.add_zero]
  have hd := digC_le (s[k]).toNat
  unfold numB
  rw [if_neg (by omega), hz]
  simp only [numTo, e]
  split
  · rfl
  · rw [if_neg (by unfold most; omega)]; simp

theorem one_8_no (s : ByteArray) (k : Nat) (w : World) (hs : s.size ≤ 1000000) (hk : k < s.size) (h : 8 ≤ digC (s[k]).toNat) :
    Calls Tryd.prog 82 #[.string (s.extract k (k + 1)), .int .i64 8] w fun e w' => e = .returned (.tuple #[.int .i64 0, .bool false]) ∧ w = w' := by
  have := number_8 (s.extract k (k + 1)) w (by simp; omega)
  rw [one_sign s k 8 hk (by omega), if_pos h] at this
  exact this
theorem one_8_is (s : ByteArray) (k : Nat) (w : World) (hs : s.size ≤ 1000000) (hk : k < s.size) (h : ¬ 8 ≤ digC (s[k]).toNat) :
    Calls Tryd.prog 82 #[.string (s.extract k (k + 1)), .int .i64 8] w fun e w' => e = .returned (.tuple #[.int .i64 (digC (s[k]).toNat : Nat), .bool true]) ∧ w = w' := by
  have := number_8 (s.extract k (k + 1)) w (by simp; omega)
  rw [one_sign s k 8 hk (by omega), if_neg h] at this
  exact this

theorem one_10_no (s : ByteArray) (k : Nat) (w : World) (hs : s.size ≤ 1000000) (hk : k < s.size) (h : 10 ≤ digC (s[k]).toNat) :
    Calls Tryd.prog 82 #[.string (s.extract k (k + 1)), .int .i64 10] w fun e w' => e = .returned (.tuple #[.int .i64 0, .bool false]) ∧ w = w' := by
  have := number_10 (s.extract k (k + 1)) w (by simp; omega)
  rw [one_sign s k 10 hk (by omega), if_pos h] at this
  exact this
theorem one_10_is (s : ByteArray) (k : Nat) (w : World) (hs : s.size ≤ 1000000) (hk : k < s.size) (h : ¬ 10 ≤ digC (s[k]).toNat) :
    Calls Tryd.prog 82 #[.string (s.extract k (k + 1)), .int .i64 10] w fun e w' => e = .returned (.tuple #[.int .i64 (digC (s[k]).toNat : Nat), .bool true]) ∧ w = w' := by
  have := number_10 (s.extract k (k + 1)) w (by simp; omega)
  rw [one_sign s k 10 hk (by omega), if_neg h] at this
  exact this

theorem one_16_no (s : ByteArray) (k : Nat) (w : World) (hs : s.size ≤ 1000000) (hk : k < s.size) (h : 16 ≤ digC (s[k]).toNat) :
    Calls Tryd.prog 82 #[.string (s.extract k (k + 1)), .int .i64 16] w fun e w' => e = .returned (.tuple #[.int .i64 0, .bool false]) ∧ w = w' := by
  have := number_16 (s.extract k (k + 1)) w (by simp; omega)
  rw [one_sign s k 16 hk (by omega), if_pos h] at this
  exact this
theorem one_16_is (s : ByteArray) (k : Nat) (w : World) (hs : s.size ≤ 1000000) (hk : k < s.size) (h : ¬ 16 ≤ digC (s[k]).toNat) :
    Calls Tryd.prog 82 #[.string (s.extract k (k + 1)), .int .i64 16] w fun e w' => e = .returned (.tuple #[.int .i64 (digC (s[k]).toNat : Nat), .bool true]) ∧ w = w' := by
  have := number_16 (s.extract k (k + 1)) w (by simp; omega)
  rw [one_sign s k 16 hk (by omega), if_neg h] at this
  exact this

/-- As the reference tells it; -1: there is none. -/
def optI : Option Nat → Int
  | none => -1
  | some n => n
theorem int_ret {a b : Int} (h : a = b) : Ending.returned (.int .i64 a) = .returned (.int .i64 b) := by rw [h]

end Go.Proofs.YtgbajagacmfcmaaDoor
/- Rows of texts as a walk reads them; the pieces of a text are no longer than the text. -/
namespace Go.Proofs.YtgbajagacmfcmaaDoor
open Go.RowKit
set_option linter.unusedVariables false
set_option maxRecDepth 20000

/-- A row of these texts lies at g. -/
structure StrRow (w : World) (g n c : Nat) (l : List ByteArray) : Prop where
  len : l.length = n
  cap : n ≤ c
  capm : c ≤ maxLen
  lt : g < w.heap.size
  cells : ∀ i, i < n → w.cell? ⟨g, i, none⟩ = some (.string (l.getD i ⟨#[]⟩))
theorem StrRow.below {w w' : World} {g n c : Nat} {l : List ByteArray} (h : StrRow w g n c l) (hb : Below w.heap.size w w') : StrRow w' g n c l :=
  ⟨h.len, h.cap, h.capm, Nat.lt_of_lt_of_le h.lt hb.size, fun i hi => by rw [hb.cell (p := ⟨g, i, none⟩) h.lt]; exact h.cells i hi⟩
theorem StrRow.front {w : World} {g n c : Nat} {l : List ByteArray} (h : StrRow w g n c l) (m : Nat) (hm : m ≤ n) : StrRow w g m c (l.take m) :=
  ⟨by have := h.len; simp; omega, by have := h.cap; omega, h.capm, h.lt, fun i hi => by
    rw [h.cells i (by omega)]
    simp only [List.getD_eq_getElem?_getD, List.getElem?_take, if_pos hi]⟩
theorem own_row {w : World} {B : Nat} {v : Value} {l : List ByteArray} (h : w.ownsRow B 9 1 v l.length (l.map Value.string)) (h0 : 0 < l.length) :
    ∃ g c, v = .slice (some ⟨g, 0, none⟩) l.length c ∧ B ≤ g ∧ StrRow w g l.length c l := by
  have hh := h
  obtain ⟨g, c, rfl, hg1, hg2⟩ := h.form h0
  have hc : l.length ≤ c ∧ c ≤ maxLen := by
    rcases hh.2 with ⟨h1, _⟩ | ⟨g', cap, cur, h1, _, _, h2, h3, _⟩
    · simp at h1
    · simp only [Value.slice.injEq, Option.some.injEq, Addr.mk.injEq, and_true, true_and] at h1
      obtain ⟨rfl, rfl⟩ := h1
      exact ⟨h2, h3⟩
  refine ⟨g, c, rfl, hg1, rfl, hc.1, hc.2, hg2, fun i hi => ?_⟩
  rw [own_cells hh i hi, List.getD_eq_getElem?_getD, List.getElem?_eq_getElem hi]
  rfl

theorem pieces_pos (s : ByteArray) (sep : Nat) : 0 < (pieces s sep).length := by unfold pieces; simp
theorem sp_small (s : ByteArray) (sep : Nat) : ∀ k, ∀ p ∈ (sp s sep k).1, p.size ≤ s.size
  | 0 => by simp [sp]
  | k + 1 => by
    unfold sp
    split
    · intro p hp
      rcases List.mem_append.1 hp with h | h
      · exact sp_small s sep k p h
      · simp at h; subst h; simp; omega
    · exact sp_small s sep k
theorem pieces_small (s : ByteArray) (sep : Nat) : ∀ p ∈ pieces s sep, p.size ≤ s.size := by
  intro p hp
  unfold pieces at hp
  rcases List.mem_append.1 hp with h | h
  · exact sp_small s sep _ p h
  · simp at h; subst h; simp
theorem getD_small {l : List ByteArray} {m : Nat} (h : ∀ p ∈ l, p.size ≤ m) (i : Nat) : (l.getD i ⟨#[]⟩).size ≤ m := by
  rw [List.getD_eq_getElem?_getD]
  cases hi : l[i]? with
  | none => exact Nat.zero_le _
  | some p => exact h p (List.mem_of_getElem? hi)
theorem pieces_len (s : ByteArray) (sep : Nat) : (pieces s sep).length ≤ s.size + 1 := by
  unfold pieces
  have := (sp_le s sep s.size).2
  simp
  omega

/-- What Split hands back, as a row. -/
theorem split_row (s : ByteArray) (sep : Nat) (w : World) (hs : s.size ≤ 1000000) :
    Calls Tryd.prog 86 #[.string s, .int .u8 sep] w fun e w' => ∃ g c, e = .returned (.slice (some ⟨g, 0, none⟩) (pieces s sep).length c) ∧ w.heap.size ≤ g ∧ StrRow w' g (pieces s sep).length c (pieces s sep) ∧ Below w.heap.size w w' := by
  refine (split_any s sep w hs).mono ?_
  rintro e w' ⟨v, rfl, ho, hb⟩
  obtain ⟨g, c, rfl, h1, h2⟩ := own_row ho (pieces_pos s sep)
  exact ⟨g, c, rfl, h1, h2, hb⟩
end Go.Proofs.YtgbajagacmfcmaaDoor
/- Contracts of four.Of and four.Strict: the address of four bytes, and of a strict text. -/
namespace Go.Proofs.YtgbajagacmfcmaaDoor
open Go.RowKit
set_option linter.unusedVariables false
set_option maxRecDepth 20000

def arr4 (a b c d : Nat) : Value := .agg #[.int .u8 (a : Int), .int .u8 (b : Int), .int .u8 (c : Int), .int .u8 (d : Int)]
theorem or_low (X c : Nat) (hX : X < 16777216) (hc : c < 256) : bits .or .u32 ((X : Int) * 256) (c : Int) = ((X * 256 + c : Nat) : Int) := by
  rw [bits_join .u32 32 (by decide) (fun n h0 h1 => by rw [IntKind.wrap_u32]; omega) 8 ((X : Int) * 256) c (by omega) (by omega) (by omega) (by omega) (by omega) (by omega)]
  omega
/-- The first k of four bytes, as a number. -/
def ofTo (a b c d : Nat) : Nat → Nat
  | 0 => 0
  | 1 => a
  | 2 => a * 256 + b
  | 3 => (a * 256 + b) * 256 + c
  | _ => ((a * 256 + b) * 256 + c) * 256 + d
set_option maxRecDepth 100000 in
set_option maxHeartbeats 1000000 in
theorem of_any (a b c d : Nat) (w : World) (ha : a < 256) (hb : b < 256) (hc : c < 256) (hd : d < 256) :
    Calls Tryd.prog 52 #[arr4 a b c d] w fun e w' => e = .returned (.int .u32 (((a * 256 + b) * 256 + c) * 256 + d : Nat)) ∧ Below w.heap.size w w' := by
  unfold arr4
  have i0 : ∀ w : World, (Instr.index 95 (.agg #[.int .u8 (a : Int), .int .u8 (b : Int), .int .u8 (c : Int), .int .u8 (d : Int)]) (.int .i64 0)).run Tryd.prog w = .ok (.int .u8 (a : Int)) w := fun _ => by kernel_rfl
  have i1 : ∀ w : World, (Instr.index 95 (.agg #[.int .u8 (a : Int), .int .u8 (b : Int), .int .u8 (c : Int), .int .u8 (d : Int)]) (.int .i64 1)).run Tryd.prog w = .ok (.int .u8 (b : Int)) w := fun _ => by kernel_rfl
  have i2 : ∀ w : World, (Instr.index 95 (.agg #[.int .u8 (a : Int), .int .u8 (b : Int), .int .u8 (c : Int), .int .u8 (d : Int)]) (.int .i64 2)).run Tryd.prog w = .ok (.int .u8 (c : Int)) w := fun _ => by kernel_rfl
  have i3 : ∀ w : World, (Instr.index 95 (.agg #[.int .u8 (a : Int), .int .u8 (b : Int), .int .u8 (c : Int), .int .u8 (d : Int)]) (.int .i64 3)).run Tryd.prog w = .ok (.int .u8 (d : Int)) w := fun _ => by kernel_rfl
  go_enter Tryd.func52, Tryd.ntmps52
  go_wp2
  go_loop [3, 7] (fun t i => ∃ k X : Nat, k ≤ 4 ∧ i = .int .i64 k ∧ t = .int .u32 (X : Int) ∧ X < 256 ^ k ∧ Hid (X = ofTo a b c d k)) (fun _ i => 4 - (intOf i).toNat)
  case atStart => exact ⟨0, 0, Nat.zero_le _, rfl, rfl, by decide, Lib.hid rfl⟩
  case round =>
    obtain ⟨k, X, hk, rfl, rfl, hX, HX⟩ := hrel
    have hk5 : k = 0 ∨ k = 1 ∨ k = 2 ∨ k = 3 ∨ k = 4 := by omega
    rcases hk5 with rfl | rfl | rfl | rfl | rfl
    · have hXb : X < 16777216 := Nat.lt_of_lt_of_le hX (by decide)
      go_wp2
      exact ⟨⟨1, X * 256 + a, by omega, rfl, by rw [or_low X a hXb ha], by simp at hX ⊢; omega, Lib.hid (by rw [HX.out]; simp [ofTo])⟩, by decide⟩
    · have hXb : X < 16777216 := Nat.lt_of_lt_of_le hX (by decide)
      go_wp2
      exact ⟨⟨2, X * 256 + b, by omega, rfl, by rw [or_low X b hXb hb], by simp at hX ⊢; omega, Lib.hid (by rw [HX.out]; simp [ofTo])⟩, by decide⟩
    · have hXb : X < 16777216 := Nat.lt_of_lt_of_le hX (by decide)
      go_wp2
      exact ⟨⟨3, X * 256 + c, by omega, rfl, by rw [or_low X c hXb hc], by simp at hX ⊢; omega, Lib.hid (by rw [HX.out]; simp [ofTo])⟩, by decide⟩
    · have hXb : X < 16777216 := Nat.lt_of_lt_of_le hX (by decide)
      go_wp2
      exact ⟨⟨4, X * 256 + d, by omega, rfl, by rw [or_low X d hXb hd], by simp at hX ⊢; omega, Lib.hid (by rw [HX.out]; simp [ofTo])⟩, by decide⟩
    · go_wp2
      go_ret
      exact ⟨by have := HX.out; rw [this]; rfl, (Below.refl _ _).alloc (Nat.le_refl _) _⟩

/-- A part of a strict text. -/
def octet (p : ByteArray) : Option Nat :=
  match numB p 10 with
  | none => none
  | some n => if 255 < n then none else if 1 < p.size ∧ byteOf p 0 = 48 then none else some n
theorem octet_lt (p : ByteArray) (n : Nat) (h : octet p = some n) : n < 256 := by
  unfold octet at h
  split at h
  · cases h
  · split at h
    · cases h
    · split at h
      · cases h
      · have := Option.some.inj h; omega
/-- The number of the first k parts. -/
def octTo (l : List ByteArray) : Nat → Option Nat
  | 0 => some 0
  | k + 1 => match octTo l k with
    | none => none
    | some m => match octet (l.getD k ⟨#[]⟩) with
      | none => none
      | some n => some (m * 256 + n)
theorem octTo_none (l : List ByteArray) (k : Nat) (h : octTo l k = none) : ∀ m, octTo l (k + m) = none
  | 0 => h
  | m + 1 => by rw [← Nat.add_assoc, octTo, octTo_none l k h m]
theorem octTo_dead {l : List ByteArray} {k n : Nat} (hk : k ≤ n) (h : octTo l k = none) : octTo l n = none := by
  have := octTo_none l k h (n - k)
  rwa [show k + (n - k) = n by omega] at this
theorem octTo_step {l : List ByteArray} {k m n : Nat} (h : octTo l k = some m) (hn : octet (l.getD k ⟨#[]⟩) = some n) : octTo l (k + 1) = some (m * 256 + n) := by
  rw [octTo, h]
  simp only [hn]
theorem octTo_stop {l : List ByteArray} {k m : Nat} (h : octTo l k = some m) (hn : octet (l.getD k ⟨#[]⟩) = none) : octTo l (k + 1) = none := by
  rw [octTo, h]
  simp only [hn]
theorem octTo_lt (l : List ByteArray) : ∀ k m, octTo l k = some m → m < 256 ^ k
  | 0, m, h => by simp [octTo] at h; omega
  | k + 1, m, h => by
    rw [octTo] at h
    cases hk : octTo l k with
    | none => rw [hk] at h; cases h
    | some j =>
      have := octTo_lt l k j hk
      rw [hk] at h
      simp only at h
      split at h
      · cases h
      · rename_i n hn
        have h2 := octet_lt _ _ hn
        have := Option.some.inj h
        rw [Nat.pow_succ]
        omega
/-- A strict text's address. -/
def strictB (s : ByteArray) : Option Nat := if (pieces s 46).length = 4 then octTo (pieces s 46) 4 else none
theorem strictB_lt (s : ByteArray) (a : Nat) (h : strictB s = some a) : a < 4294967296 := by
  unfold strictB at h
  split at h
  · exact octTo_lt _ 4 a h
  · cases h
def strictRet (o : Option Nat) : Value := .tuple #[.int .u32 ((o.getD 0 : Nat) : Int), .bool o.isSome]
theorem strict_ret {o p : Option Nat} (h : o = p) : Ending.returned (strictRet o) = .returned (strictRet p) := by rw [h]

set_option maxRecDepth 100000 in
set_option maxHeartbeats 4000000 in
theorem strict_any (s : ByteArray) (w : World) (hs : s.size ≤ 1000000) :
    Calls Tryd.prog 79 #[.string s] w fun e w' => e = .returned (strictRet (strictB s)) ∧ Below w.heap.size w w' := by
  have hp := pieces_pos s 46
  have hpl := pieces_len s 46
  go_enter Tryd.func79, Tryd.ntmps79
  go_wp2_with fail
  refine (split_row s 46 _ hs).mono ?_
  rintro e w1 ⟨g, c, rfl, hg, hr, hb⟩
  have hc1 := hr.cap
  have hc2 := hr.capm
  unfold maxLen at hc2
  have hlt := hr.lt
  have HR := Lib.hid hr
  clear hr
  by_cases h4 : (pieces s 46).length = 4
  · have HS : Hid (strictB s = octTo (pieces s 46) 4) := Lib.hid (by unfold strictB; rw [if_pos h4])
    have HM := Lib.hid (fun k => Nat.le_trans (getD_small (pieces_small s 46) k) hs)
    generalize pieces s 46 = l at *
    rw [h4]
    rw [h4] at HR
    clear h4 hp hpl
    go_wp2_with fail
    go_loopw [17] (fun i wr => ∃ k a0 a1 a2 a3 : Nat, k ≤ 4 ∧ i = .int .i64 k ∧ wr = w1.alloc (.cells #[.int .u8 (a0 : Int), .int .u8 (a1 : Int), .int .u8 (a2 : Int), .int .u8 (a3 : Int)] 95) ∧ a0 < 256 ∧ a1 < 256 ∧ a2 < 256 ∧ a3 < 256 ∧ Hid (octTo l k = some (ofTo a0 a1 a2 a3 k))) (fun i _ => 4 - (intOf i).toNat)
    case atStart => exact ⟨0, 0, 0, 0, 0, by decide, rfl, rfl, by decide, by decide, by decide, by decide, Lib.hid rfl⟩
    case round =>
      obtain ⟨k, a0, a1, a2, a3, hk, rfl, rfl, hb0, hb1, hb2, hb3, HK⟩ := hrel
      have hk5 : k = 0 ∨ k = 1 ∨ k = 2 ∨ k = 3 ∨ k = 4 := by omega
      rcases hk5 with rfl | rfl | rfl | rfl | rfl
      · have hcell : ∀ o, (w1.alloc o).cell? ⟨g, 0, none⟩ = some (.string (l.getD 0 ⟨#[]⟩)) := fun o => by rw [World.cell?_alloc_lt _ _ _ hlt]; exact HR.out.cells 0 (by decide)
        have hsm := HM.out 0
        obtain ⟨p, hp⟩ : ∃ p, l.getD 0 ⟨#[]⟩ = p := ⟨_, rfl⟩
        rw [hp] at hcell hsm
        have HP := Lib.hid hp
        clear hp
        go_wp2_with fail
        refine (number_10 p _ hsm).mono ?_
        rintro e w2 ⟨rfl, rfl⟩
        cases hq : numB p 10 with
        | none =>
          have HD : Hid (strictB s = none) := Lib.hid (by rw [HS.out]; exact octTo_dead (k := 1) (by decide) (octTo_stop HK.out (by rw [HP.out]; unfold octet; rw [hq])))
          clear hq
          unfold numRet
          go_wp2_with fail
          go_ret2
          exact ⟨strict_ret HD.out.symm, hb.alloc hb.size _⟩
        | some n =>
          have HQ := Lib.hid hq
          have hn : n ≤ 1099511627776 := by
            unfold numB at hq
            split at hq
            · cases hq
            · exact numTo_le _ _ _ _ hq
          clear hq
          unfold numRet
          by_cases h255 : 255 < n
          · have HD : Hid (strictB s = none) := Lib.hid (by rw [HS.out]; exact octTo_dead (k := 1) (by decide) (octTo_stop HK.out (by rw [HP.out]; unfold octet; rw [HQ.out]; simp only [if_pos h255])))
            go_wp2_with fail
            go_ret2
            exact ⟨strict_ret HD.out.symm, hb.alloc hb.size _⟩
          · have hw8 : IntKind.u8.wrap (n : Int) = (n : Int) := by rw [IntKind.wrap_u8]; omega
            by_cases h1 : 1 < p.size
            · by_cases hz : byteOf p 0 = 48
              · have HD : Hid (strictB s = none) := Lib.hid (by rw [HS.out]; exact octTo_dead (k := 1) (by decide) (octTo_stop HK.out (by rw [HP.out]; unfold octet; rw [HQ.out]; simp only [if_neg h255, if_pos (show 1 < p.size ∧ byteOf p 0 = 48 from ⟨h1, hz⟩)])))
                rw [byteOf_eq p 0 (by omega)] at hz
                go_wp2_with fail
                go_ret2
                exact ⟨strict_ret HD.out.symm, hb.alloc hb.size _⟩
              · have HT : Hid (octTo l 1 = some (ofTo a0 a1 a2 a3 0 * 256 + n)) := Lib.hid (octTo_step HK.out (by rw [HP.out]; unfold octet; rw [HQ.out]; simp only [if_neg h255, if_neg (show ¬ (1 < p.size ∧ byteOf p 0 = 48) from fun h => hz h.2)]))
                rw [byteOf_eq p 0 (by omega)] at hz
                have hzb : (((p[0]).toNat : Int) == 48) = false := by simp; omega
                go_wp2_with fail
                go_roundw
                case rel => exact ⟨1, n, a1, a2, a3, by decide, rfl, rfl, by omega, by omega, by omega, by omega, Lib.hid (by rw [HT.out]; simp [ofTo])⟩
                case measure => simp [intOf]
            · have HT : Hid (octTo l 1 = some (ofTo a0 a1 a2 a3 0 * 256 + n)) := Lib.hid (octTo_step HK.out (by rw [HP.out]; unfold octet; rw [HQ.out]; simp only [if_neg h255, if_neg (show ¬ (1 < p.size ∧ byteOf p 0 = 48) from fun h => h1 h.1)]))
              go_wp2_with fail
              go_roundw
              case rel => exact ⟨1, n, a1, a2, a3, by decide, rfl, rfl, by omega, by omega, by omega, by omega, Lib.hid (by rw [HT.out]; simp [ofTo])⟩
              case measure => simp [intOf]
      · have hcell : ∀ o, (w1.alloc o).cell? ⟨g, 1, none⟩ = some (.string (l.getD 1 ⟨#[]⟩)) := fun o => by rw [World.cell?_alloc_lt _ _ _ hlt]; exact HR.out.cells 1 (by decide)
        have hsm := HM.out 1
        obtain ⟨p, hp⟩ : ∃ p, l.getD 1 ⟨#[]⟩ = p := ⟨_, rfl⟩
        rw [hp] at hcell hsm
        have HP := Lib.hid hp
        clear hp
        go_wp2_with fail
        refine (number_10 p _ hsm).mono ?_
        rintro e w2 ⟨rfl, rfl⟩
        cases hq : numB p 10 with
        | none =>
          have HD : Hid (strictB s = none) := Lib.hid (by rw [HS.out]; exact octTo_dead (k := 2) (by decide) (octTo_stop HK.out (by rw [HP.out]; unfold octet; rw [hq])))
          clear hq
          unfold numRet
          go_wp2_with fail
          go_ret2
          exact ⟨strict_ret HD.out.symm, hb.alloc hb.size _⟩
        | some n =>
          have HQ := Lib.hid hq
          have hn : n ≤ 1099511627776 := by
            unfold numB at hq
            split at hq
            · cases hq
            · exact numTo_le _ _ _ _ hq
          clear hq
          unfold numRet
          by_cases h255 : 255 < n
          · have HD : Hid (strictB s = none) := Lib.hid (by rw [HS.out]; exact octTo_dead (k := 2) (by decide) (octTo_stop HK.out (by rw [HP.out]; unfold octet; rw [HQ.out]; simp only [if_pos h255])))
            go_wp2_with fail
            go_ret2
            exact ⟨strict_ret HD.out.symm, hb.alloc hb.size _⟩
          · have hw8 : IntKind.u8.wrap (n : Int) = (n : Int) := by rw [IntKind.wrap_u8]; omega
            by_cases h1 : 1 < p.size
            · by_cases hz : byteOf p 0 = 48
              · have HD : Hid (strictB s = none) := Lib.hid (by rw [HS.out]; exact octTo_dead (k := 2) (by decide) (octTo_stop HK.out (by rw [HP.out]; unfold octet; rw [HQ.out]; simp only [if_neg h255, if_pos (show 1 < p.size ∧ byteOf p 0 = 48 from ⟨h1, hz⟩)])))
                rw [byteOf_eq p 0 (by omega)] at hz
                go_wp2_with fail
                go_ret2
                exact ⟨strict_ret HD.out.symm, hb.alloc hb.size _⟩
              · have HT : Hid (octTo l 2 = some (ofTo a0 a1 a2 a3 1 * 256 + n)) := Lib.hid (octTo_step HK.out (by rw [HP.out]; unfold octet; rw [HQ.out]; simp only [if_neg h255, if_neg (show ¬ (1 < p.size ∧ byteOf p 0 = 48) from fun h => hz h.2)]))
                rw [byteOf_eq p 0 (by omega)] at hz
                have hzb : (((p[0]).toNat : Int) == 48) = false := by simp; omega
                go_wp2_with fail
                go_roundw
                case rel => exact ⟨2, a0, n, a2, a3, by decide, rfl, rfl, by omega, by omega, by omega, by omega, Lib.hid (by rw [HT.out]; simp [ofTo])⟩
                case measure => simp [intOf]
            · have HT : Hid (octTo l 2 = some (ofTo a0 a1 a2 a3 1 * 256 + n)) := Lib.hid (octTo_step HK.out (by rw [HP.out]; unfold octet; rw [HQ.out]; simp only [if_neg h255, if_neg (show ¬ (1 < p.size ∧ byteOf p 0 = 48) from fun h => h1 h.1)]))
              go_wp2_with fail
              go_roundw
              case rel => exact ⟨2, a0, n, a2, a3, by decide, rfl, rfl, by omega, by omega, by omega, by omega, Lib.hid (by rw [HT.out]; simp [ofTo])⟩
              case measure => simp [intOf]
      · have hcell : ∀ o, (w1.alloc o).cell? ⟨g, 2, none⟩ = some (.string (l.getD 2 ⟨#[]⟩)) := fun o => by rw [World.cell?_alloc_lt _ _ _ hlt]; exact HR.out.cells 2 (by decide)
        have hsm := HM.out 2
        obtain ⟨p, hp⟩ : ∃ p, l.getD 2 ⟨#[]⟩ = p := ⟨_, rfl⟩
        rw [hp] at hcell hsm
        have HP := Lib.hid hp
        clear hp
        go_wp2_with fail
        refine (number_10 p _ hsm).mono ?_
        rintro e w2 ⟨rfl, rfl⟩
        cases hq : numB p 10 with
        | none =>
          have HD : Hid (strictB s = none) := Lib.hid (by rw [HS.out]; exact octTo_dead (k := 3) (by decide) (octTo_stop HK.out (by rw [HP.out]; unfold octet; rw [hq])))
          clear hq
          unfold numRet
          go_wp2_with fail
          go_ret2
          exact ⟨strict_ret HD.out.symm, hb.alloc hb.size _⟩
        | some n =>
          have HQ := Lib.hid hq
          have hn : n ≤ 1099511627776 := by
            unfold numB at hq
            split at hq
            · cases hq
            · exact numTo_le _ _ _ _ hq
          clear hq
          unfold numRet
          by_cases h255 : 255 < n
          · have HD : Hid (strictB s = none) := Lib.hid (by rw [HS.out]; exact octTo_dead (k := 3) (by decide) (octTo_stop HK.out (by rw [HP.out]; unfold octet; rw [HQ.out]; simp only [if_pos h255])))
            go_wp2_with fail
            go_ret2
            exact ⟨strict_ret HD.out.symm, hb.alloc hb.size _⟩
          · have hw8 : IntKind.u8.wrap (n : Int) = (n : Int) := by rw [IntKind.wrap_u8]; omega
            by_cases h1 : 1 < p.size
            · by_cases hz : byteOf p 0 = 48
              · have HD : Hid (strictB s = none) := Lib.hid (by rw [HS.out]; exact octTo_dead (k := 3) (by decide) (octTo_stop HK.out (by rw [HP.out]; unfold octet; rw [HQ.out]; simp only [if_neg h255, if_pos (show 1 < p.size ∧ byteOf p 0 = 48 from ⟨h1, hz⟩)])))
                rw [byteOf_eq p 0 (by omega)] at hz
                go_wp2_with fail
                go_ret2
                exact ⟨strict_ret HD.out.symm, hb.alloc hb.size _⟩
              · have HT : Hid (octTo l 3 = some (ofTo a0 a1 a2 a3 2 * 256 + n)) := Lib.hid (octTo_step HK.out (by rw [HP.out]; unfold octet; rw [HQ.out]; simp only [if_neg h255, if_neg (show ¬ (1 < p.size ∧ byteOf p 0 = 48) from fun h => hz h.2)]))
                rw [byteOf_eq p 0 (by omega)] at hz
                have hzb : (((p[0]).toNat : Int) == 48) = false := by simp; omega
                go_wp2_with fail
                go_roundw
                case rel => exact ⟨3, a0, a1, n, a3, by decide, rfl, rfl, by omega, by omega, by omega, by omega, Lib.hid (by rw [HT.out]; simp [ofTo])⟩
                case measure => simp [intOf]
            · have HT : Hid (octTo l 3 = some (ofTo a0 a1 a2 a3 2 * 256 + n)) := Lib.hid (octTo_step HK.out (by rw [HP.out]; unfold octet; rw [HQ.out]; simp only [if_neg h255, if_neg (show ¬ (1 < p.size ∧ byteOf p 0 = 48) from fun h => h1 h.1)]))
              go_wp2_with fail
              go_roundw
              case rel => exact ⟨3, a0, a1, n, a3, by decide, rfl, rfl, by omega, by omega, by omega, by omega, Lib.hid (by rw [HT.out]; simp [ofTo])⟩
              case measure => simp [intOf]
      · have hcell : ∀ o, (w1.alloc o).cell? ⟨g, 3, none⟩ = some (.string (l.getD 3 ⟨#[]⟩)) := fun o => by rw [World.cell?_alloc_lt _ _ _ hlt]; exact HR.out.cells 3 (by decide)
        have hsm := HM.out 3
        obtain ⟨p, hp⟩ : ∃ p, l.getD 3 ⟨#[]⟩ = p := ⟨_, rfl⟩
        rw [hp] at hcell hsm
        have HP := Lib.hid hp
        clear hp
        go_wp2_with fail
        refine (number_10 p _ hsm).mono ?_
        rintro e w2 ⟨rfl, rfl⟩
        cases hq : numB p 10 with
        | none =>
          have HD : Hid (strictB s = none) := Lib.hid (by rw [HS.out]; exact octTo_dead (k := 4) (by decide) (octTo_stop HK.out (by rw [HP.out]; unfold octet; rw [hq])))
          clear hq
          unfold numRet
          go_wp2_with fail
          go_ret2
          exact ⟨strict_ret HD.out.symm, hb.alloc hb.size _⟩
        | some n =>
          have HQ := Lib.hid hq
          have hn : n ≤ 1099511627776 := by
            unfold numB at hq
            split at hq
            · cases hq
            · exact numTo_le _ _ _ _ hq
          clear hq
          unfold numRet
          by_cases h255 : 255 < n
          · have HD : Hid (strictB s = none) := Lib.hid (by rw [HS.out]; exact octTo_dead (k := 4) (by decide) (octTo_stop HK.out (by rw [HP.out]; unfold octet; rw [HQ.out]; simp only [if_pos h255])))
            go_wp2_with fail
            go_ret2
            exact ⟨strict_ret HD.out.symm, hb.alloc hb.size _⟩
          · have hw8 : IntKind.u8.wrap (n : Int) = (n : Int) := by rw [IntKind.wrap_u8]; omega
            by_cases h1 : 1 < p.size
            · by_cases hz : byteOf p 0 = 48
              · have HD : Hid (strictB s = none) := Lib.hid (by rw [HS.out]; exact octTo_dead (k := 4) (by decide) (octTo_stop HK.out (by rw [HP.out]; unfold octet; rw [HQ.out]; simp only [if_neg h255, if_pos (show 1 < p.size ∧ byteOf p 0 = 48 from ⟨h1, hz⟩)])))
                rw [byteOf_eq p 0 (by omega)] at hz
                go_wp2_with fail
                go_ret2
                exact ⟨strict_ret HD.out.symm, hb.alloc hb.size _⟩
              · have HT : Hid (octTo l 4 = some (ofTo a0 a1 a2 a3 3 * 256 + n)) := Lib.hid (octTo_step HK.out (by rw [HP.out]; unfold octet; rw [HQ.out]; simp only [if_neg h255, if_neg (show ¬ (1 < p.size ∧ byteOf p 0 = 48) from fun h => hz h.2)]))
                rw [byteOf_eq p 0 (by omega)] at hz
                have hzb : (((p[0]).toNat : Int) == 48) = false := by simp; omega
                go_wp2_with fail
                go_roundw
                case rel => exact ⟨4, a0, a1, a2, n, by decide, rfl, rfl, by omega, by omega, by omega, by omega, Lib.hid (by rw [HT.out]; simp [ofTo])⟩
                case measure => simp [intOf]
            · have HT : Hid (octTo l 4 = some (ofTo a0 a1 a2 a3 3 * 256 + n)) := Lib.hid (octTo_step HK.out (by rw [HP.out]; unfold octet; rw [HQ.out]; simp only [if_neg h255, if_neg (show ¬ (1 < p.size ∧ byteOf p 0 = 48) from fun h => h1 h.1)]))
              go_wp2_with fail
              go_roundw
              case rel => exact ⟨4, a0, a1, a2, n, by decide, rfl, rfl, by omega, by omega, by omega, by omega, Lib.hid (by rw [HT.out]; simp [ofTo])⟩
              case measure => simp [intOf]
      · go_wp2_with fail
        refine (of_any a0 a1 a2 a3 _ hb0 hb1 hb2 hb3).mono ?_
        rintro e w2 ⟨rfl, hbo⟩
        go_wp2_with fail
        go_ret2
        exact ⟨strict_ret (o := some _) (by rw [HS.out, HK.out]; rfl), chain (hb.alloc hb.size _) hbo⟩
  · have HS : Hid (strictB s = none) := Lib.hid (by unfold strictB; rw [if_neg h4])
    generalize pieces s 46 = l at *
    have hlb : ((l.length : Int) != 4) = true := by simp; omega
    go_wp2_with fail
    go_ret2
    exact ⟨strict_ret HS.out.symm, hb⟩
end Go.Proofs.YtgbajagacmfcmaaDoor
/- The contract of the reference's Split. -/
namespace Go.Proofs.YtgbajagacmfcmaaDoor
open Go.RowKit
set_option linter.unusedVariables false
set_option maxRecDepth 20000

end Go.Proofs.YtgbajagacmfcmaaDoor
/- The contract of the reference's Strict. -/
namespace Go.Proofs.YtgbajagacmfcmaaDoor
open Go.RowKit
set_option linter.unusedVariables false
set_option maxRecDepth 20000

theorem strict_some {s : ByteArray} {a : Nat} {v : Int} (h : strictB s = some a) (hv : v = a) : Ending.returned (.tuple #[.int .u32 v, .bool true]) = .returned (strictRet (strictB s)) := by
  rw [h, hv]; rfl

end Go.Proofs.YtgbajagacmfcmaaDoor
/- Contracts of the reference's readers of layer 3: hex, gap, Groups. -/
namespace Go.Proofs.YtgbajagacmfcmaaDoor
open Go.RowKit
set_option linter.unusedVariables false
set_option maxRecDepth 20000

theorem optI_some {o : Option Nat} {v : Nat} (h : o = some v) : optI o = (v : Int) := by rw [h]; rfl
theorem optI_none {o : Option Nat} (h : o = none) : optI o = -1 := by rw [h]; rfl
/-- A group's number. -/
def hexG (p : ByteArray) : Option Nat := if 4 < p.size then none else numB p 16
theorem numTo_pow (s : ByteArray) : ∀ k n, numTo s 16 k = some n → n < 16 ^ k
  | 0, n, h => by simp [numTo] at h; omega
  | k + 1, n, h => by
    rw [numTo] at h
    cases hk : numTo s 16 k with
    | none => rw [hk] at h; cases h
    | some m =>
      have := numTo_pow s k m hk
      rw [hk] at h
      simp only at h
      split at h
      · cases h
      · split at h
        · cases h
        · have := Option.some.inj h
          rw [Nat.pow_succ]
          omega
theorem hexG_lt (p : ByteArray) (n : Nat) (h : hexG p = some n) : n < 65536 := by
  unfold hexG at h
  split at h
  · cases h
  · unfold numB at h
    split at h
    · cases h
    · exact Nat.lt_of_lt_of_le (numTo_pow p _ n h) (Nat.le_trans (Nat.pow_le_pow_right (by decide) (by omega : p.size ≤ 4)) (by decide))

/-- Where two colons stand first, among the first k places. -/
def gapTo (s : ByteArray) : Nat → Option Nat
  | 0 => none
  | k + 1 => match gapTo s k with
    | some i => some i
    | none => if byteOf s k = 58 ∧ byteOf s (k + 1) = 58 then some k else none
def gapB (s : ByteArray) : Option Nat := gapTo s (s.size - 1)
theorem gapTo_some (s : ByteArray) (k i : Nat) (h : gapTo s k = some i) : ∀ m, gapTo s (k + m) = some i
  | 0 => h
  | m + 1 => by rw [← Nat.add_assoc, gapTo, gapTo_some s k i h m]
theorem gapTo_found {s : ByteArray} {k n i : Nat} (hk : k ≤ n) (h : gapTo s k = some i) : gapTo s n = some i := by
  have := gapTo_some s k i h (n - k)
  rwa [show k + (n - k) = n by omega] at this
theorem gapTo_lt (s : ByteArray) : ∀ k i, gapTo s k = some i → i < k
  | 0, i, h => by cases h
  | k + 1, i, h => by
    rw [gapTo] at h
    cases hk : gapTo s k with
    | some j =>
      rw [hk] at h
      have := Option.some.inj h
      have := gapTo_lt s k j hk
      omega
    | none =>
      rw [hk] at h
      simp only at h
      split at h
      · have := Option.some.inj h; omega
      · cases h

/-- A row of one's own, over a lower base. -/
theorem own_lower {w : World} {B B' : Nat} {t : TypeId} {z : Nat} {v : Value} {n : Nat} {xs : List Value} (h : w.ownsRow B t z v n xs) (hB : B' ≤ B) : w.ownsRow B' t z v n xs := by
  obtain ⟨h1, h2⟩ := h
  refine ⟨h1, ?_⟩
  rcases h2 with h2 | ⟨g, cap, cur, e, hb, rest⟩
  · exact .inl h2
  · exact .inr ⟨g, cap, cur, e, by omega, rest⟩
/-- A row of one's own, behind a call that turned nothing of what was there. -/
theorem own_below {w w' : World} {B : Nat} {t : TypeId} {z : Nat} {v : Value} {n : Nat} {xs : List Value} (h : w.ownsRow B t z v n xs) (hb : Below w.heap.size w w') : w'.ownsRow B t z v n xs := by
  obtain ⟨h1, h2⟩ := h
  refine ⟨h1, ?_⟩
  rcases h2 with h2 | ⟨g, cap, cur, e, hB, hg, rest⟩
  · exact .inl h2
  · refine .inr ⟨g, cap, cur, e, hB, ?_, rest⟩
    rw [hb.block g (by
      rcases Nat.lt_or_ge g w.heap.size with h | h
      · exact h
      · rw [Array.getElem?_eq_none h] at hg; cases hg)]
    exact hg
theorem cells_new (w : World) (l : List Value) (t : TypeId) : ∀ j u, l[j]? = some u → (w.alloc (.cells l.toArray t)).cell? ((⟨w.heap.size, 0, none⟩ : Addr).add j) = some u := by
  intro j u h
  rw [add_none]
  simp [World.cell?_alloc_new, h]
/-- Numbers, as cells. -/
def ints (l : List Nat) : List Value := l.map fun n => Value.int .i64 ((n : Nat) : Int)
theorem ints_length (l : List Nat) : (ints l).length = l.length := by simp [ints]
theorem ints_append (l m : List Nat) : ints (l ++ m) = ints l ++ ints m := by simp [ints]
theorem Tryd.infoInt : (Tryd.prog.info? 3).map (fun i => (i.zero, i.size, i.bytes)) = some (some (.int .i64 0), 1, 8) := by kernel_rfl
/-- More numbers behind a row of numbers of one's own. -/
theorem own_ints {w0 wr w1 : World} {v v' : Value} {l m : List Nat} {o : Obj} (hown' : w1.ownsRow w0.heap.size 3 1 v' (l.length + m.length) (ints l ++ ints m))
    (hg : (wr.alloc o).grownBy w1 v.ownBlock) (hown : wr.ownsRow w0.heap.size 3 1 v l.length (ints l)) (hb : Below w0.heap.size w0 wr) :
    w1.ownsRow w0.heap.size 3 1 v' (l ++ m).length (ints (l ++ m)) ∧ Below w0.heap.size w0 w1 := by
  refine ⟨by rw [ints_append]; simpa using hown', ?_⟩
  refine (hb.alloc hb.size o).grown hg (by have := hb.size; simp; omega) ?_
  intro k hk
  exact (hown.lt k hk).1

/-- The groups of the first k pieces. -/
def grTo (l : List ByteArray) (dot : Bool) : Nat → Option (List Nat)
  | 0 => some []
  | k + 1 => match grTo l dot k with
    | none => none
    | some out => match hexG (l.getD k ⟨#[]⟩) with
      | some v => some (out ++ [v])
      | none => match strictB (l.getD k ⟨#[]⟩) with
        | none => none
        | some v => if dot = true ∧ ¬ k + 1 < l.length then some (out ++ [v / 65536, v % 65536]) else none
def groupsB (s : ByteArray) (dot : Bool) : Option (List Nat) := if s.size = 0 then some [] else grTo (pieces s 58) dot (pieces s 58).length
theorem grTo_none (l : List ByteArray) (dot : Bool) (k : Nat) (h : grTo l dot k = none) : ∀ m, grTo l dot (k + m) = none
  | 0 => h
  | m + 1 => by rw [← Nat.add_assoc, grTo, grTo_none l dot k h m]
theorem grTo_dead {l : List ByteArray} {dot : Bool} {k n : Nat} (hk : k ≤ n) (h : grTo l dot k = none) : grTo l dot n = none := by
  have := grTo_none l dot k h (n - k)
  rwa [show k + (n - k) = n by omega] at this
theorem grTo_hex {l : List ByteArray} {dot : Bool} {k v : Nat} {out : List Nat} (h : grTo l dot k = some out) (hv : hexG (l.getD k ⟨#[]⟩) = some v) : grTo l dot (k + 1) = some (out ++ [v]) := by
  rw [grTo, h]; simp only [hv]
theorem grTo_strict {l : List ByteArray} {dot : Bool} {k v : Nat} {out : List Nat} (h : grTo l dot k = some out) (hx : hexG (l.getD k ⟨#[]⟩) = none) (hv : strictB (l.getD k ⟨#[]⟩) = some v) :
    grTo l dot (k + 1) = if dot = true ∧ ¬ k + 1 < l.length then some (out ++ [v / 65536, v % 65536]) else none := by
  rw [grTo, h]; simp only [hx, hv]
theorem grTo_stop {l : List ByteArray} {dot : Bool} {k : Nat} {out : List Nat} (h : grTo l dot k = some out) (hx : hexG (l.getD k ⟨#[]⟩) = none) (hv : strictB (l.getD k ⟨#[]⟩) = none) : grTo l dot (k + 1) = none := by
  rw [grTo, h]; simp only [hx, hv]
theorem grTo_lt (l : List ByteArray) (dot : Bool) : ∀ k out, grTo l dot k = some out → ∀ x ∈ out, x < 65536
  | 0, out, h => by
    have := Option.some.inj h
    subst this
    simp
  | k + 1, out, h => by
    cases hk : grTo l dot k with
    | none => rw [grTo, hk] at h; cases h
    | some o =>
      have ih := grTo_lt l dot k o hk
      cases hx : hexG (l.getD k ⟨#[]⟩) with
      | some v =>
        rw [grTo_hex hk hx] at h
        have := Option.some.inj h
        subst this
        intro x hm
        rcases List.mem_append.1 hm with hm | hm
        · exact ih x hm
        · rw [List.mem_singleton] at hm; rw [hm]; exact hexG_lt _ _ hx
      | none =>
        cases hv : strictB (l.getD k ⟨#[]⟩) with
        | none => rw [grTo_stop hk hx hv] at h; cases h
        | some v =>
          rw [grTo_strict hk hx hv] at h
          have hvl := strictB_lt _ _ hv
          split at h
          · have := Option.some.inj h
            subst this
            intro x hm
            rcases List.mem_append.1 hm with hm | hm
            · exact ih x hm
            · simp at hm
              omega
          · cases h
theorem groupsB_lt (s : ByteArray) (dot : Bool) (out : List Nat) (h : groupsB s dot = some out) : ∀ x ∈ out, x < 65536 := by
  unfold groupsB at h
  split at h
  · have := Option.some.inj h
    subst this
    simp
  · exact grTo_lt _ _ _ _ h
/-- What Groups hands back: a row of its own. -/
def GrRet (w : World) (o : Option (List Nat)) (e : Ending) (w' : World) : Prop :=
  ∃ v, e = .returned (.tuple #[v, .bool o.isSome]) ∧ w'.ownsRow w.heap.size 3 1 v (o.getD []).length (ints (o.getD [])) ∧ Below w.heap.size w w'
theorem gr_none {w w' : World} {o : Option (List Nat)} (h : o = none) (hb : Below w.heap.size w w') : GrRet w o (.returned (.tuple #[.slice none 0 0, .bool false])) w' := by
  subst h
  exact ⟨_, rfl, World.ownsRow_nil _ _ _ _, hb⟩
theorem gr_some {w w' : World} {o : Option (List Nat)} {l : List Nat} {v : Value} (h : o = some l) (ho : w'.ownsRow w.heap.size 3 1 v l.length (ints l)) (hb : Below w.heap.size w w') : GrRet w o (.returned (.tuple #[v, .bool true])) w' := by
  subst h
  exact ⟨_, rfl, ho, hb⟩

end Go.Proofs.YtgbajagacmfcmaaDoor
/- The contract of the reference's Parse of layer 3. -/
namespace Go.Proofs.YtgbajagacmfcmaaDoor
open Go.RowKit
set_option linter.unusedVariables false
set_option maxRecDepth 20000

/-- An array of eight groups lies at B. -/
structure Arr8 (w : World) (B : Nat) (gs : List Nat) : Prop where
  len : gs.length = 8
  lt : B < w.heap.size
  cells : ∀ j, j < 8 → w.cell? ⟨B, j, none⟩ = some (.int .u16 ((gs.getD j 0 : Nat) : Int))
  live : ∀ j, j < 8 → w.frozen? ⟨B, j, none⟩ = false
theorem Arr8.below {w w' : World} {B : Nat} {gs : List Nat} (h : Arr8 w B gs) (hb : Below w.heap.size w w') : Arr8 w' B gs :=
  ⟨h.len, Nat.lt_of_lt_of_le h.lt hb.size, fun j hj => by rw [hb.cell (p := ⟨B, j, none⟩) h.lt]; exact h.cells j hj, fun j hj => by rw [hb.frozen (p := ⟨B, j, none⟩) h.lt]; exact h.live j hj⟩
theorem Arr8.all {w : World} {B : Nat} {x0 x1 x2 x3 x4 x5 x6 x7 : Nat} (h : Arr8 w B [x0, x1, x2, x3, x4, x5, x6, x7]) :
    w.cell? ⟨B, 0, none⟩ = some (.int .u16 (x0 : Int)) ∧ w.cell? ⟨B, 1, none⟩ = some (.int .u16 (x1 : Int)) ∧ w.cell? ⟨B, 2, none⟩ = some (.int .u16 (x2 : Int)) ∧ w.cell? ⟨B, 3, none⟩ = some (.int .u16 (x3 : Int)) ∧ w.cell? ⟨B, 4, none⟩ = some (.int .u16 (x4 : Int)) ∧ w.cell? ⟨B, 5, none⟩ = some (.int .u16 (x5 : Int)) ∧ w.cell? ⟨B, 6, none⟩ = some (.int .u16 (x6 : Int)) ∧ w.cell? ⟨B, 7, none⟩ = some (.int .u16 (x7 : Int)) :=
  ⟨h.cells 0 (by decide), h.cells 1 (by decide), h.cells 2 (by decide), h.cells 3 (by decide), h.cells 4 (by decide), h.cells 5 (by decide), h.cells 6 (by decide), h.cells 7 (by decide)⟩
theorem Arr8.lives {w : World} {B : Nat} {gs : List Nat} (h : Arr8 w B gs) :
    w.frozen? ⟨B, 0, none⟩ = false ∧ w.frozen? ⟨B, 1, none⟩ = false ∧ w.frozen? ⟨B, 2, none⟩ = false ∧ w.frozen? ⟨B, 3, none⟩ = false ∧ w.frozen? ⟨B, 4, none⟩ = false ∧ w.frozen? ⟨B, 5, none⟩ = false ∧ w.frozen? ⟨B, 6, none⟩ = false ∧ w.frozen? ⟨B, 7, none⟩ = false :=
  ⟨h.live 0 (by decide), h.live 1 (by decide), h.live 2 (by decide), h.live 3 (by decide), h.live 4 (by decide), h.live 5 (by decide), h.live 6 (by decide), h.live 7 (by decide)⟩
theorem Arr8.zero (w : World) (t : TypeId) : Arr8 (w.alloc (.cells #[.int .u16 0, .int .u16 0, .int .u16 0, .int .u16 0, .int .u16 0, .int .u16 0, .int .u16 0, .int .u16 0] t)) w.heap.size [0, 0, 0, 0, 0, 0, 0, 0] := by
  refine ⟨rfl, by simp, ?_, ?_⟩
  · intro j hj
    have : j = 0 ∨ j = 1 ∨ j = 2 ∨ j = 3 ∨ j = 4 ∨ j = 5 ∨ j = 6 ∨ j = 7 := by omega
    rcases this with rfl | rfl | rfl | rfl | rfl | rfl | rfl | rfl <;> simp [World.cell?_alloc_new]
  · intro j hj
    exact World.frozen?_alloc_new _ _ _ _
theorem Arr8.set {w : World} {B k : Nat} {gs : List Nat} (h : Arr8 w B gs) (hk : k < 8) (v : Nat) : Arr8 (w.setCell ⟨B, k, none⟩ (.int .u16 ((v : Nat) : Int))) B (gs.set k v) := by
  refine ⟨by simp [h.len], by simpa using h.lt, ?_, ?_⟩
  · intro j hj
    by_cases e : j = k
    · subst e
      rw [World.cell?_setCell_same _ _ _ (h.cells j hj), List.getD_eq_getElem?_getD, List.getElem?_set_self (by rw [h.len]; exact hj)]
      rfl
    · rw [World.cell?_setCell_other _ _ _ _ (by intro h2; injection h2 with _ h3 _; exact e h3.symm), h.cells j hj, List.getD_eq_getElem?_getD, List.getD_eq_getElem?_getD, List.getElem?_set_ne (by omega)]
  · intro j hj
    rw [World.frozen?_setCell]
    exact h.live j hj
theorem Arr8.other {w : World} {B B' k : Nat} {gs : List Nat} (h : Arr8 w B gs) (hB : B' ≠ B) (u : Value) : Arr8 (w.setCell ⟨B', k, none⟩ u) B gs := by
  refine ⟨h.len, by simpa using h.lt, ?_, ?_⟩
  · intro j hj
    rw [World.cell?_setCell_other _ _ _ _ (by intro h2; injection h2 with h3 _ _; exact hB h3)]
    exact h.cells j hj
  · intro j hj
    rw [World.frozen?_setCell]
    exact h.live j hj
/-- Eight groups, stored one by one. -/
def store8 (W : World) (R : Nat) (y0 y1 y2 y3 y4 y5 y6 y7 : Nat) : World := ((((((((W.setCell ⟨R, 0, none⟩ (.int .u16 ((y0 : Nat) : Int))).setCell ⟨R, 1, none⟩ (.int .u16 ((y1 : Nat) : Int))).setCell ⟨R, 2, none⟩ (.int .u16 ((y2 : Nat) : Int))).setCell ⟨R, 3, none⟩ (.int .u16 ((y3 : Nat) : Int))).setCell ⟨R, 4, none⟩ (.int .u16 ((y4 : Nat) : Int))).setCell ⟨R, 5, none⟩ (.int .u16 ((y5 : Nat) : Int))).setCell ⟨R, 6, none⟩ (.int .u16 ((y6 : Nat) : Int))).setCell ⟨R, 7, none⟩ (.int .u16 ((y7 : Nat) : Int)))
theorem store8_arr {W : World} {R : Nat} {gs : List Nat} (y0 y1 y2 y3 y4 y5 y6 y7 : Nat) (h : Arr8 W R gs) : Arr8 (store8 W R y0 y1 y2 y3 y4 y5 y6 y7) R [y0, y1, y2, y3, y4, y5, y6, y7] := by
  obtain ⟨a, b, c, d, e, f, g, i, rfl⟩ := list8 gs h.len
  exact (((((((h.set (k := 0) (by decide) y0).set (k := 1) (by decide) y1).set (k := 2) (by decide) y2).set (k := 3) (by decide) y3).set (k := 4) (by decide) y4).set (k := 5) (by decide) y5).set (k := 6) (by decide) y6).set (k := 7) (by decide) y7
theorem store8_below {w W : World} {R : Nat} (y0 y1 y2 y3 y4 y5 y6 y7 : Nat) (h : Below w.heap.size w W) (hR : w.heap.size ≤ R) : Below w.heap.size w (store8 W R y0 y1 y2 y3 y4 y5 y6 y7) :=
  (((((((h.setCell (p := ⟨R, 0, none⟩) hR _).setCell (p := ⟨R, 1, none⟩) hR _).setCell (p := ⟨R, 2, none⟩) hR _).setCell (p := ⟨R, 3, none⟩) hR _).setCell (p := ⟨R, 4, none⟩) hR _).setCell (p := ⟨R, 5, none⟩) hR _).setCell (p := ⟨R, 6, none⟩) hR _).setCell (p := ⟨R, 7, none⟩) hR _
/-- A row of numbers, as a walk reads it; it may be nil. -/
structure IntRow (w : World) (B : Nat) (b : Option Addr) (n c : Nat) (l : List Nat) : Prop where
  len : l.length = n
  cap : n ≤ c
  capm : c ≤ maxLen
  lies : n = 0 ∨ ∃ h, b = some ⟨h, 0, none⟩ ∧ B ≤ h ∧ h < w.heap.size ∧ ∀ j, j < n → w.cell? ⟨h, j, none⟩ = some (.int .i64 ((l.getD j 0 : Nat) : Int))
theorem IntRow.of_own {w : World} {B : Nat} {v : Value} {l : List Nat} (h : w.ownsRow B 3 1 v l.length (ints l)) : ∃ b c, v = .slice b l.length c ∧ IntRow w B b l.length c l := by
  have hh := h
  rcases h.2 with ⟨rfl, h0⟩ | ⟨g, cap, cur, rfl, hB, hg, h1, h2, _⟩
  · exact ⟨none, 0, by rw [h0], rfl, by omega, Nat.zero_le _, .inl h0⟩
  · refine ⟨some ⟨g, 0, none⟩, cap, rfl, rfl, h1, h2, .inr ⟨g, rfl, hB, ?_, ?_⟩⟩
    · rcases Nat.lt_or_ge g w.heap.size with h | h
      · exact h
      · rw [Array.getElem?_eq_none h] at hg; cases hg
    · intro j hj
      rw [hh.cellAt j (by omega)]
      simp [ints, hj]
theorem IntRow.below {w w' : World} {B n c : Nat} {b : Option Addr} {l : List Nat} (h : IntRow w B b n c l) (hb : Below w.heap.size w w') : IntRow w' B b n c l :=
  ⟨h.len, h.cap, h.capm, h.lies.imp id fun ⟨g, e, hB, hg, hc⟩ => ⟨g, e, hB, Nat.lt_of_lt_of_le hg hb.size, fun j hj => by rw [hb.cell (p := ⟨g, j, none⟩) hg]; exact hc j hj⟩⟩
theorem IntRow.other {w : World} {B B' k n c : Nat} {b : Option Addr} {l : List Nat} (h : IntRow w B b n c l) (hB' : B' < B) (u : Value) : IntRow (w.setCell ⟨B', k, none⟩ u) B b n c l :=
  ⟨h.len, h.cap, h.capm, h.lies.imp id fun ⟨g, e, hB, hg, hc⟩ => ⟨g, e, hB, by simpa using hg, fun j hj => by
    rw [World.cell?_setCell_other _ _ _ _ (by intro h2; injection h2 with h3 _ _; omega)]
    exact hc j hj⟩⟩
theorem groupsB_len (s : ByteArray) (dot : Bool) : ((groupsB s dot).getD []).length ≤ 2 * (s.size + 1) := by
  have key : ∀ (l : List ByteArray) k out, grTo l dot k = some out → out.length ≤ 2 * k := by
    intro l k
    induction k with
    | zero => intro out h; have := Option.some.inj h; subst this; simp
    | succ k ih =>
      intro out h
      cases hk : grTo l dot k with
      | none => rw [grTo, hk] at h; cases h
      | some o =>
        have := ih o hk
        cases hx : hexG (l.getD k ⟨#[]⟩) with
        | some v =>
          rw [grTo_hex hk hx] at h
          have := Option.some.inj h
          subst this
          simp
          omega
        | none =>
          cases hv : strictB (l.getD k ⟨#[]⟩) with
          | none => rw [grTo_stop hk hx hv] at h; cases h
          | some v =>
            rw [grTo_strict hk hx hv] at h
            split at h
            · have := Option.some.inj h
              subst this
              simp
              omega
            · cases h
  unfold groupsB
  split
  · simp
  · cases h : grTo (pieces s 58) dot (pieces s 58).length with
    | none => simp
    | some out =>
      have h1 := key _ _ _ h
      have h2 := pieces_len s 58
      show out.length ≤ _
      omega
theorem set_behind (a b : List Nat) (na nb m q : Nat) (ha : a.length = na) (hb : b.length = nb) (h7 : na + nb ≤ 7) (hm : m < nb) (hq : 8 - nb + m = q) :
    ((a ++ List.replicate (8 - na - nb) 0) ++ (b.take m ++ List.replicate (nb - m) 0)).set q (b.getD m 0) = (a ++ List.replicate (8 - na - nb) 0) ++ (b.take (m + 1) ++ List.replicate (nb - (m + 1)) 0) := by
  have e : b.take (m + 1) = b.take m ++ [b.getD m 0] := by rw [List.take_add_one, List.getD_eq_getElem?_getD, List.getElem?_eq_getElem (by omega)]; rfl
  have hl : (b.take m).length = m := by simp; omega
  have hp : (a ++ List.replicate (8 - na - nb) 0).length = 8 - nb := by simp; omega
  rw [List.set_append_right _ _ (by rw [hp]; omega), hp, show q - (8 - nb) = m by omega, List.set_append_right _ _ (by omega), hl, Nat.sub_self, show nb - m = (nb - (m + 1)) + 1 by omega, List.replicate_succ, List.set_cons_zero, e]
  simp
theorem set_next (a : List Nat) (k : Nat) (hk : k < a.length) (h8 : k < 8) : (a.take k ++ List.replicate (8 - k) 0).set k (a.getD k 0) = a.take (k + 1) ++ List.replicate (8 - (k + 1)) 0 := by
  have hl : (a.take k).length = k := by simp; omega
  have e : a.take (k + 1) = a.take k ++ [a.getD k 0] := by rw [List.take_add_one, List.getD_eq_getElem?_getD, List.getElem?_eq_getElem hk]; rfl
  rw [e, List.set_append_right _ _ (by omega), hl, Nat.sub_self, show 8 - k = (8 - (k + 1)) + 1 by omega, List.replicate_succ, List.set_cons_zero, List.append_assoc]
  rfl
/-- The groups ahead of two colons, zeros, the groups behind. -/
def mergeB (oa ob : Option (List Nat)) : Option (List Nat) :=
  match oa, ob with
  | some a, some b => if 7 < a.length + b.length then none else some (a ++ List.replicate (8 - a.length - b.length) 0 ++ b)
  | _, _ => none
def parseB (s : ByteArray) : Option (List Nat) :=
  match gapB s with
  | none => match groupsB s true with
    | none => none
    | some l => if l.length = 8 then some l else none
  | some k => mergeB (groupsB (s.extract 0 k) false) (groupsB (s.extract (k + 2) s.size) true)
def arr8 (l : List Nat) : Value := .agg (l.map fun n => Value.int .u16 ((n : Nat) : Int)).toArray
def parseRet (o : Option (List Nat)) : Value := .tuple #[arr8 (o.getD [0, 0, 0, 0, 0, 0, 0, 0]), .bool o.isSome]

end Go.Proofs.YtgbajagacmfcmaaDoor
/- Groups and their bytes; plain facts. -/
namespace Go.Proofs.YtgbajagacmfcmaaDoor
open Go.RowKit
set_option linter.unusedVariables false
set_option maxRecDepth 20000

/-- The bytes of groups, the higher one first. -/
def byL (gs : List Nat) : List Nat := gs.flatMap fun x => [x / 256, x % 256]
def arr16 (l : List Nat) : Value := .agg (l.map fun n => Value.int .u8 ((n : Nat) : Int)).toArray
theorem byL_snoc (l : List Nat) (x : Nat) : byL (l ++ [x]) = byL l ++ [x / 256, x % 256] := by simp [byL]
theorem byL_len : ∀ l : List Nat, (byL l).length = 2 * l.length
  | [] => rfl
  | x :: r => by
    have ih := byL_len r
    show ([x / 256, x % 256] ++ byL r).length = _
    rw [List.length_append, ih, List.length_cons]
    simp
    omega
/-- Two bytes laid behind those of the first k groups. -/
theorem set_two (l : List Nat) (k a b : Nat) (hk : k < 8) (hl : l.length = 2 * k) : ((l ++ List.replicate (16 - 2 * k) 0).set (2 * k) a).set (2 * k + 1) b = (l ++ [a, b]) ++ List.replicate (16 - 2 * (k + 1)) 0 := by
  rw [show 16 - 2 * k = (16 - 2 * (k + 1)) + 1 + 1 by omega, List.replicate_succ, List.replicate_succ, List.set_append_right _ _ (by omega), hl, Nat.sub_self, List.set_cons_zero, List.set_append_right _ _ (by omega), hl, show 2 * k + 1 - 2 * k = 0 + 1 by omega, List.set_cons_succ, List.set_cons_zero]
  simp
/-- The groups of bytes. -/
def grL (bs : List Nat) : Nat → List Nat
  | 0 => []
  | k + 1 => grL bs k ++ [bs.getD (2 * k) 0 * 256 + bs.getD (2 * k + 1) 0]
theorem grL_len (bs : List Nat) : ∀ k, (grL bs k).length = k
  | 0 => rfl
  | k + 1 => by rw [grL, List.length_append, grL_len bs k]; rfl
theorem grL_byL (gs : List Nat) (h8 : gs.length = 8) : grL (byL gs) 8 = gs := by
  obtain ⟨x0, x1, x2, x3, x4, x5, x6, x7, rfl⟩ := list8 gs h8
  simp [grL, byL]
  omega
theorem byL_grL (bs : List Nat) (h : bs.length = 16) (hlt : ∀ x ∈ bs, x < 256) : byL (grL bs 8) = bs := by
  obtain ⟨y0, y1, y2, y3, y4, y5, y6, y7, y8, y9, y10, y11, y12, y13, y14, y15, rfl⟩ := list16 bs h
  simp at hlt
  simp [grL, byL]
  omega
theorem grL_lt (bs : List Nat) (hlt : ∀ x ∈ bs, x < 256) : ∀ k, ∀ x ∈ grL bs k, x < 65536
  | 0, x, h => by simp [grL] at h
  | k + 1, x, h => by
    rw [grL] at h
    rcases List.mem_append.1 h with h | h
    · exact grL_lt bs hlt k x h
    · have g : ∀ j, bs.getD j 0 < 256 := by
        intro j
        rw [List.getD_eq_getElem?_getD]
        cases hj : bs[j]? with
        | none => exact Nat.zero_lt_succ _
        | some v => exact hlt v (List.mem_of_getElem? hj)
      have h1 := g (2 * k)
      have h2 := g (2 * k + 1)
      rw [List.mem_singleton] at h
      omega
theorem byL_lt (gs : List Nat) (hlt : ∀ x ∈ gs, x < 65536) : ∀ x ∈ byL gs, x < 256 := by
  intro x hx
  obtain ⟨y, hy, h⟩ := List.mem_flatMap.1 hx
  have := hlt y hy
  simp at h
  omega
theorem set_one (l : List Nat) (k a : Nat) (hk : k < 8) (hl : l.length = k) : (l ++ List.replicate (8 - k) 0).set k a = (l ++ [a]) ++ List.replicate (8 - (k + 1)) 0 := by
  rw [show 8 - k = (8 - (k + 1)) + 1 by omega, List.replicate_succ, List.set_append_right _ _ (by omega), hl, Nat.sub_self, List.set_cons_zero]
  simp
end Go.Proofs.YtgbajagacmfcmaaDoor
/- Contracts of the reference's Four, Groups, Of4, Of6 of layer 4. -/
namespace Go.Proofs.YtgbajagacmfcmaaDoor
open Go.RowKit
set_option linter.unusedVariables false
set_option maxRecDepth 20000

theorem byte_lt {bs : List Nat} (h : ∀ x ∈ bs, x < 256) (j : Nat) : bs.getD j 0 < 256 := by
  rw [List.getD_eq_getElem?_getD]
  cases hj : bs[j]? with
  | none => exact Nat.zero_lt_succ _
  | some v => exact h v (List.mem_of_getElem? hj)
/-- The number of the first k bytes. -/
def fourTo (bs : List Nat) : Nat → Nat
  | 0 => 0
  | k + 1 => fourTo bs k * 256 + bs.getD k 0
def fourB (bs : List Nat) : Nat := fourTo bs 4
theorem fourTo_lt (bs : List Nat) (h : ∀ x ∈ bs, x < 256) : ∀ k, fourTo bs k < 256 ^ k
  | 0 => Nat.zero_lt_one
  | k + 1 => by
    have h1 := fourTo_lt bs h k
    have h2 := byte_lt h k
    rw [fourTo, Nat.pow_succ]
    omega
set_option maxRecDepth 100000 in
set_option maxHeartbeats 1000000 in
theorem refFour_any (f : Int) (bs : List Nat) (w : World) (h16 : bs.length = 16) (hlt : ∀ x ∈ bs, x < 256) :
    Calls Tryd.prog 32 #[addrV f bs] w fun e w' => e = .returned (.int .u32 ((fourB bs : Nat) : Int)) ∧ Below w.heap.size w w' := by
  have HLT := Lib.hid hlt
  obtain ⟨y0, y1, y2, y3, y4, y5, y6, y7, y8, y9, y10, y11, y12, y13, y14, y15, hbs⟩ := list16 bs h16
  have hA := AddrAt.new w 25 f y0 y1 y2 y3 y4 y5 y6 y7 y8 y9 y10 y11 y12 y13 y14 y15
  have b0 : Below w.heap.size w (w.alloc (.cells #[.int .i64 f, .int .u8 (y0 : Int), .int .u8 (y1 : Int), .int .u8 (y2 : Int), .int .u8 (y3 : Int), .int .u8 (y4 : Int), .int .u8 (y5 : Int), .int .u8 (y6 : Int), .int .u8 (y7 : Int), .int .u8 (y8 : Int), .int .u8 (y9 : Int), .int .u8 (y10 : Int), .int .u8 (y11 : Int), .int .u8 (y12 : Int), .int .u8 (y13 : Int), .int .u8 (y14 : Int), .int .u8 (y15 : Int)] 25)) := (Below.refl _ _).alloc (Nat.le_refl _) _
  have ha : addrV f bs = .agg #[.int .i64 f, .int .u8 (y0 : Int), .int .u8 (y1 : Int), .int .u8 (y2 : Int), .int .u8 (y3 : Int), .int .u8 (y4 : Int), .int .u8 (y5 : Int), .int .u8 (y6 : Int), .int .u8 (y7 : Int), .int .u8 (y8 : Int), .int .u8 (y9 : Int), .int .u8 (y10 : Int), .int .u8 (y11 : Int), .int .u8 (y12 : Int), .int .u8 (y13 : Int), .int .u8 (y14 : Int), .int .u8 (y15 : Int)] := by rw [hbs]; rfl
  rw [← hbs] at hA
  rw [ha]
  clear ha hbs hlt h16
  go_enter Tryd.func32, Tryd.ntmps32
  go_wp2_with fail
  generalize (w.alloc (.cells #[.int .i64 f, .int .u8 (y0 : Int), .int .u8 (y1 : Int), .int .u8 (y2 : Int), .int .u8 (y3 : Int), .int .u8 (y4 : Int), .int .u8 (y5 : Int), .int .u8 (y6 : Int), .int .u8 (y7 : Int), .int .u8 (y8 : Int), .int .u8 (y9 : Int), .int .u8 (y10 : Int), .int .u8 (y11 : Int), .int .u8 (y12 : Int), .int .u8 (y13 : Int), .int .u8 (y14 : Int), .int .u8 (y15 : Int)] 25)) = W at *
  have HA := Lib.hid hA
  clear hA
  go_loop [3, 4] (fun t i => ∃ k X : Nat, k ≤ 4 ∧ i = .int .i64 k ∧ t = .int .u32 (X : Int) ∧ X < 256 ^ k ∧ Hid (X = fourTo bs k)) (fun _ i => 4 - (intOf i).toNat)
  case atStart => exact ⟨0, 0, by decide, rfl, rfl, by decide, Lib.hid rfl⟩
  case round =>
    obtain ⟨k, X, hk, rfl, rfl, hX, HX⟩ := hrel
    by_cases hk4 : k < 4
    · have hcell := HA.out.cells k (by omega)
      have hy := byte_lt HLT.out k
      obtain ⟨y, ey⟩ : ∃ y, bs.getD k 0 = y := ⟨_, rfl⟩
      rw [ey] at hcell hy
      have HY := Lib.hid ey
      clear ey
      have hXb : X ≤ 16777215 := by
        have : X < 256 ^ 3 := Nat.lt_of_lt_of_le hX (Nat.pow_le_pow_right (by decide) (by omega))
        omega
      have q1 : IntKind.u32.wrap ((X : Int) * 256) = (X : Int) * 256 := by rw [IntKind.wrap_u32]; omega
      obtain ⟨Z, hZ, eZ⟩ : ∃ Z : Nat, X * 256 + y = Z ∧ (X : Int) * 256 + (y : Int) = (Z : Int) := ⟨_, rfl, by omega⟩
      have q2 : IntKind.u32.wrap (Z : Int) = (Z : Int) := by rw [IntKind.wrap_u32]; omega
      have hk16 : (k : Int) < 16 := by omega
      have hZ2 : Z < 256 ^ (k + 1) := by rw [Nat.pow_succ]; omega
      have HZ : Hid (Z = fourTo bs (k + 1)) := Lib.hid (by rw [fourTo, ← HX.out, HY.out, hZ])
      clear hZ hX
      go_wp2_with fail
      go_round
      case rel => exact ⟨k + 1, Z, by omega, by go_num, by go_num, hZ2, HZ⟩
      case measure => simp [intOf]; omega
    · obtain rfl : k = 4 := by omega
      go_wp2_with fail
      go_ret
      exact ⟨by rw [HX.out]; rfl, b0⟩

set_option maxRecDepth 100000 in
set_option maxHeartbeats 2000000 in
theorem refGroups4_any (f : Int) (bs : List Nat) (w : World) (h16 : bs.length = 16) (hlt : ∀ x ∈ bs, x < 256) :
    Calls Tryd.prog 40 #[addrV f bs] w fun e w' => e = .returned (arr8 (grL bs 8)) ∧ Below w.heap.size w w' := by
  obtain ⟨y0, y1, y2, y3, y4, y5, y6, y7, y8, y9, y10, y11, y12, y13, y14, y15, hbs⟩ := list16 bs h16
  have ha : addrV f bs = .agg #[.int .i64 f, .int .u8 (y0 : Int), .int .u8 (y1 : Int), .int .u8 (y2 : Int), .int .u8 (y3 : Int), .int .u8 (y4 : Int), .int .u8 (y5 : Int), .int .u8 (y6 : Int), .int .u8 (y7 : Int), .int .u8 (y8 : Int), .int .u8 (y9 : Int), .int .u8 (y10 : Int), .int .u8 (y11 : Int), .int .u8 (y12 : Int), .int .u8 (y13 : Int), .int .u8 (y14 : Int), .int .u8 (y15 : Int)] := by rw [hbs]; rfl
  have hB := AddrAt.new w 25 f y0 y1 y2 y3 y4 y5 y6 y7 y8 y9 y10 y11 y12 y13 y14 y15
  rw [← hbs] at hB
  have b1 : Below w.heap.size w (w.alloc (.cells #[.int .i64 f, .int .u8 (y0 : Int), .int .u8 (y1 : Int), .int .u8 (y2 : Int), .int .u8 (y3 : Int), .int .u8 (y4 : Int), .int .u8 (y5 : Int), .int .u8 (y6 : Int), .int .u8 (y7 : Int), .int .u8 (y8 : Int), .int .u8 (y9 : Int), .int .u8 (y10 : Int), .int .u8 (y11 : Int), .int .u8 (y12 : Int), .int .u8 (y13 : Int), .int .u8 (y14 : Int), .int .u8 (y15 : Int)] 25)) := (Below.refl _ _).alloc (Nat.le_refl _) _
  have b2 := b1.alloc b1.size (.cells #[.int .u16 0, .int .u16 0, .int .u16 0, .int .u16 0, .int .u16 0, .int .u16 0, .int .u16 0, .int .u16 0] 76)
  have b3 := b2.alloc b2.size (.cells #[.int .u16 0, .int .u16 0, .int .u16 0, .int .u16 0, .int .u16 0, .int .u16 0, .int .u16 0, .int .u16 0] 76)
  have hR := Arr8.zero (w.alloc (.cells #[.int .i64 f, .int .u8 (y0 : Int), .int .u8 (y1 : Int), .int .u8 (y2 : Int), .int .u8 (y3 : Int), .int .u8 (y4 : Int), .int .u8 (y5 : Int), .int .u8 (y6 : Int), .int .u8 (y7 : Int), .int .u8 (y8 : Int), .int .u8 (y9 : Int), .int .u8 (y10 : Int), .int .u8 (y11 : Int), .int .u8 (y12 : Int), .int .u8 (y13 : Int), .int .u8 (y14 : Int), .int .u8 (y15 : Int)] 25)) 76
  have hP := Arr8.zero ((w.alloc (.cells #[.int .i64 f, .int .u8 (y0 : Int), .int .u8 (y1 : Int), .int .u8 (y2 : Int), .int .u8 (y3 : Int), .int .u8 (y4 : Int), .int .u8 (y5 : Int), .int .u8 (y6 : Int), .int .u8 (y7 : Int), .int .u8 (y8 : Int), .int .u8 (y9 : Int), .int .u8 (y10 : Int), .int .u8 (y11 : Int), .int .u8 (y12 : Int), .int .u8 (y13 : Int), .int .u8 (y14 : Int), .int .u8 (y15 : Int)] 25)).alloc (.cells #[.int .u16 0, .int .u16 0, .int .u16 0, .int .u16 0, .int .u16 0, .int .u16 0, .int .u16 0, .int .u16 0] 76)) 76
  have hB2 := (hB.below ((Below.refl _ _).alloc (Nat.le_refl _) (.cells #[.int .u16 0, .int .u16 0, .int .u16 0, .int .u16 0, .int .u16 0, .int .u16 0, .int .u16 0, .int .u16 0] 76))).below ((Below.refl _ _).alloc (Nat.le_refl _) (.cells #[.int .u16 0, .int .u16 0, .int .u16 0, .int .u16 0, .int .u16 0, .int .u16 0, .int .u16 0, .int .u16 0] 76))
  have hR2 := hR.below ((Below.refl _ _).alloc (Nat.le_refl _) (.cells #[.int .u16 0, .int .u16 0, .int .u16 0, .int .u16 0, .int .u16 0, .int .u16 0, .int .u16 0, .int .u16 0] 76))
  have e1 : (w.alloc (.cells #[.int .i64 f, .int .u8 (y0 : Int), .int .u8 (y1 : Int), .int .u8 (y2 : Int), .int .u8 (y3 : Int), .int .u8 (y4 : Int), .int .u8 (y5 : Int), .int .u8 (y6 : Int), .int .u8 (y7 : Int), .int .u8 (y8 : Int), .int .u8 (y9 : Int), .int .u8 (y10 : Int), .int .u8 (y11 : Int), .int .u8 (y12 : Int), .int .u8 (y13 : Int), .int .u8 (y14 : Int), .int .u8 (y15 : Int)] 25)).heap.size = w.heap.size + 1 := by simp
  have e2 : ((w.alloc (.cells #[.int .i64 f, .int .u8 (y0 : Int), .int .u8 (y1 : Int), .int .u8 (y2 : Int), .int .u8 (y3 : Int), .int .u8 (y4 : Int), .int .u8 (y5 : Int), .int .u8 (y6 : Int), .int .u8 (y7 : Int), .int .u8 (y8 : Int), .int .u8 (y9 : Int), .int .u8 (y10 : Int), .int .u8 (y11 : Int), .int .u8 (y12 : Int), .int .u8 (y13 : Int), .int .u8 (y14 : Int), .int .u8 (y15 : Int)] 25)).alloc (.cells #[.int .u16 0, .int .u16 0, .int .u16 0, .int .u16 0, .int .u16 0, .int .u16 0, .int .u16 0, .int .u16 0] 76)).heap.size = w.heap.size + 1 + 1 := by simp
  rw [e1] at hR2
  rw [e2] at hP
  rw [ha]
  have HLT := Lib.hid hlt
  clear ha hbs h16 hlt hB hR b1 b2
  go_enter Tryd.func40, Tryd.ntmps40
  go_wp2_with fail
  generalize (((w.alloc (.cells #[.int .i64 f, .int .u8 (y0 : Int), .int .u8 (y1 : Int), .int .u8 (y2 : Int), .int .u8 (y3 : Int), .int .u8 (y4 : Int), .int .u8 (y5 : Int), .int .u8 (y6 : Int), .int .u8 (y7 : Int), .int .u8 (y8 : Int), .int .u8 (y9 : Int), .int .u8 (y10 : Int), .int .u8 (y11 : Int), .int .u8 (y12 : Int), .int .u8 (y13 : Int), .int .u8 (y14 : Int), .int .u8 (y15 : Int)] 25)).alloc (.cells #[.int .u16 0, .int .u16 0, .int .u16 0, .int .u16 0, .int .u16 0, .int .u16 0, .int .u16 0, .int .u16 0] 76)).alloc (.cells #[.int .u16 0, .int .u16 0, .int .u16 0, .int .u16 0, .int .u16 0, .int .u16 0, .int .u16 0, .int .u16 0] 76)) = W at *
  clear e1 e2
  have HB := Lib.hid hB2
  have HR := Lib.hid hR2
  have HP := Lib.hid hP
  clear hB2 hR2 hP
  go_loopw [4] (fun i wr => ∃ (k : Nat) (l : List Nat), k ≤ 8 ∧ i = .int .i64 k ∧ Hid (AddrAt wr w.heap.size f bs) ∧ Hid (Arr8 wr (w.heap.size + 1) [0, 0, 0, 0, 0, 0, 0, 0]) ∧ Hid (Arr8 wr (w.heap.size + 1 + 1) l) ∧ Hid (l = grL bs k ++ List.replicate (8 - k) 0) ∧ Below w.heap.size w wr) (fun i _ => 8 - (intOf i).toNat)
  case atStart => exact ⟨0, _, by decide, rfl, HB, HR, HP, Lib.hid rfl, b3⟩
  case round =>
    obtain ⟨k, l, hk, rfl, HB2, HR2, HP2, HL, hbel⟩ := hrel
    by_cases hk8 : k < 8
    · obtain ⟨c, hc, ec⟩ : ∃ c : Nat, 2 * k = c ∧ (2 : Int) * (k : Int) = (c : Int) := ⟨_, rfl, by omega⟩
      have hc0 := HB2.out.cells c (by omega)
      have hc1 := HB2.out.cells (c + 1) (by omega)
      have hh := byte_lt HLT.out c
      have hl := byte_lt HLT.out (c + 1)
      obtain ⟨x, ex⟩ : ∃ x, bs.getD c 0 = x := ⟨_, rfl⟩
      obtain ⟨y, ey⟩ : ∃ y, bs.getD (c + 1) 0 = y := ⟨_, rfl⟩
      rw [ex] at hc0 hh
      rw [ey] at hc1 hl
      have hc15 : c + 1 < 16 := by omega
      have k1 : (k : Int) < 8 := by omega
      have c1 : (c : Int) < 16 := by omega
      have c2 : (c : Int) + 1 < 16 := by omega
      have q1 : IntKind.u16.wrap ((x : Int) * 256) = (x : Int) * 256 := by rw [IntKind.wrap_u16]; omega
      obtain ⟨v, hv, ev⟩ : ∃ v : Nat, x * 256 + y = v ∧ (x : Int) * 256 + (y : Int) = (v : Int) := ⟨_, rfl, by omega⟩
      have q2 : IntKind.u16.wrap (v : Int) = (v : Int) := by rw [IntKind.wrap_u16]; omega
      have hp0 := HP2.out.cells k hk8
      have hl0 := HP2.out.live k hk8
      have HS := Lib.hid (HP2.out.set hk8 v)
      have HE : Hid (l.set k v = grL bs (k + 1) ++ List.replicate (8 - (k + 1)) 0) := Lib.hid (by
        rw [HL.out, grL, hc, ex, ey, hv]
        exact set_one _ k _ hk8 (grL_len bs k))
      generalize l.getD k 0 = o0 at hp0
      clear ex ey hc hv
      go_wp2_with fail
      go_region
      go_wp2_with fail
      go_roundw
      case rel => exact ⟨k + 1, l.set k v, by omega, by go_num, Lib.hid ((HB2.out.other (by omega) _).below (Below.refl _ _).drew), Lib.hid ((HR2.out.other (by omega) _).below (Below.refl _ _).drew), Lib.hid (HS.out.below (Below.refl _ _).drew), HE, (hbel.setCell (p := ⟨w.heap.size + 1 + 1, k, none⟩) (by show w.heap.size ≤ w.heap.size + 1 + 1; omega) _).drew⟩
      case measure => simp [intOf]; omega
    · obtain rfl : k = 8 := by omega
      have hll : l = grL bs 8 := by rw [HL.out]; simp
      subst hll
      have hP8 := HP2.out
      obtain ⟨x0, x1, x2, x3, x4, x5, x6, x7, hx⟩ := list8 (grL bs 8) hP8.len
      rw [hx] at hP8
      have HX := Lib.hid hx
      obtain ⟨c0, c1, c2, c3, c4, c5, c6, c7⟩ := hP8.all
      obtain ⟨r0, r1, r2, r3, r4, r5, r6, r7⟩ := HR2.out.all
      obtain ⟨f0, f1, f2, f3, f4, f5, f6, f7⟩ := HR2.out.lives
      have E1 := Lib.hid (store8_arr x0 x1 x2 x3 x4 x5 x6 x7 HR2.out)
      have E2 := Lib.hid (store8_below x0 x1 x2 x3 x4 x5 x6 x7 hbel (show w.heap.size ≤ w.heap.size + 1 by omega))
      clear hP8 hx
      go_wp2_with fail
      change bodyPost _ _ _ _ _ (store8 wr (w.heap.size + 1) x0 x1 x2 x3 x4 x5 x6 x7)
      generalize store8 wr (w.heap.size + 1) x0 x1 x2 x3 x4 x5 x6 x7 = W at *
      clear c0 c1 c2 c3 c4 c5 c6 c7 r0 r1 r2 r3 r4 r5 r6 r7 f0 f1 f2 f3 f4 f5 f6 f7
      obtain ⟨r0, r1, r2, r3, r4, r5, r6, r7⟩ := E1.out.all
      refine bodyPost_ret (v := arr8 [x0, x1, x2, x3, x4, x5, x6, x7]) (by simp [results, Tryd.results40, go_sem, r0, r1, r2, r3, r4, r5, r6, r7, arr8]) rfl ⟨by rw [HX.out], E2.out⟩
end Go.Proofs.YtgbajagacmfcmaaDoor
/- An address in memory, read and stored whole (17 cells as one list), and given back as the result. -/
namespace Go.Proofs.YtgbajagacmfcmaaDoor
open Go.RowKit
set_option linter.unusedVariables false
set_option maxRecDepth 20000

/-- The cells of an address. -/
def addrL (f : Int) (bs : List Nat) : List Value := Value.int .i64 f :: bs.map fun n => Value.int .u8 ((n : Nat) : Int)
theorem addrL_len (f : Int) (bs : List Nat) (h : bs.length = 16) : (addrL f bs).length = 17 := by simp [addrL, h]
theorem addrV_L (f : Int) (bs : List Nat) : addrV f bs = .agg (addrL f bs).toArray := rfl
theorem addrL_one (f : Int) (bs : List Nat) : (addrL f bs).toArray.all (·.oneCell') = true := all_oneCell_toArray fun v hv => by
  rcases List.mem_cons.1 hv with rfl | hv
  · rfl
  · obtain ⟨n, _, rfl⟩ := List.mem_map.1 hv
    rfl
theorem AddrAt.range {w : World} {G : Nat} {f : Int} {bs : List Nat} (h : AddrAt w G f bs) : w.rangeAt G 0 (addrL f bs) := by
  intro j v hv
  rw [Nat.zero_add]
  cases j with
  | zero => rw [h.fam, ← hv]; rfl
  | succ j =>
    have hv2 : (bs.map fun n => Value.int .u8 ((n : Nat) : Int))[j]? = some v := hv
    rw [List.getElem?_map] at hv2
    have hj : j < 16 := by
      rw [← h.len]
      apply Classical.byContradiction
      intro h2
      rw [List.getElem?_eq_none (by omega)] at hv2
      cases hv2
    have h3 := h.cells j hj
    rw [Nat.add_comm 1 j] at h3
    rw [h3, ← hv2, List.getD_eq_getElem?_getD, List.getElem?_eq_getElem (by rw [h.len]; exact hj)]
    rfl
theorem AddrAt.there {w : World} {G : Nat} {f : Int} {bs : List Nat} (h : AddrAt w G f bs) : w.there G 0 17 := by
  intro j hj
  rw [Nat.zero_add]
  refine ⟨?_, h.live j hj⟩
  cases j with
  | zero => rw [h.fam]; rfl
  | succ j => have h3 := h.cells j (by omega); rw [Nat.add_comm 1 j] at h3; rw [h3]; rfl
theorem AddrAt.ofRange {w : World} {G : Nat} {f : Int} {bs : List Nat} (hl : bs.length = 16) (hlt : G < w.heap.size) (h : w.rangeAt G 0 (addrL f bs)) (ht : w.there G 0 17) : AddrAt w G f bs := by
  refine ⟨hl, hlt, h 0 _ rfl, ?_, fun j hj => ?_⟩
  · intro j hj
    have h1 := h (1 + j) (.int .u8 ((bs.getD j 0 : Nat) : Int)) (by
      rw [addrL, Nat.add_comm 1 j, List.getElem?_cons_succ, List.getElem?_map, List.getD_eq_getElem?_getD, List.getElem?_eq_getElem (by omega)]; rfl)
    rw [Nat.zero_add] at h1
    exact h1
  · have h1 := (ht j hj).2
    rw [Nat.zero_add] at h1
    exact h1
theorem size_setCells (b : Nat) : ∀ (vs : List Value) (o : Nat) (w : World), (w.setCells b o vs).heap.size = w.heap.size
  | [], _, _ => rfl
  | v :: r, o, w => by rw [World.setCells, size_setCells b r]; simp
theorem below_cells {B b : Nat} {a : World} (hb : B ≤ b) : ∀ (vs : List Value) (o : Nat) (w : World), Below B a w → Below B a (w.setCells b o vs)
  | [], _, _, h => h
  | v :: r, o, w, h => by rw [World.setCells]; exact below_cells hb r _ _ (h.setCell (p := ⟨b, o, none⟩) hb v)
theorem AddrAt.stored {w : World} {G : Nat} {g : Int} {bs : List Nat} (h : AddrAt w G g bs) (f : Int) (cs : List Nat) (hl : cs.length = 16) : AddrAt (w.setCells G 0 (addrL f cs)) G f cs := by
  have ht : w.there G 0 (addrL f cs).length := by rw [addrL_len f cs hl]; exact h.there
  exact AddrAt.ofRange hl (by rw [size_setCells]; exact h.lt) (World.rangeAt_setCells_same w G 0 _ ht) (World.there_setCells h.there G 0 _)
theorem AddrAt.apart {w : World} {G G' o : Nat} {g : Int} {bs : List Nat} (h : AddrAt w G g bs) (hG : G ≠ G') (vs : List Value) : AddrAt (w.setCells G' o vs) G g bs :=
  AddrAt.ofRange h.len (by rw [size_setCells]; exact h.lt) (World.rangeAt_setCells_apart h.range _ _ _ (.inl hG)) (World.there_setCells h.there _ _ _)
theorem addr_size : (Tryd.prog.info? 25).map (·.size) = some 17 := by kernel_rfl
theorem loadVar_addr {w : World} {G : Nat} {f : Int} {bs : List Nat} (h : AddrAt w G f bs) : (loadVar 25 ⟨G, 0, none⟩).run Tryd.prog w = .ok (addrV f bs) w :=
  run_loadVar_mid w G 0 25 (addrL f bs) _ h.range Tryd.underlying25 rfl (by rw [addr_size, addrL_len f bs h.len])
/-- An address, loaded whole. -/
theorem load_addr {ops : Array Oper} {rest : List Oper} {op : Oper} {a : Act} {w : World} {Q : Exit → Act → World → Prop} {G : Nat} {f : Int} {bs : List Nat} (hA : Hid (AddrAt w G f bs)) (x : Operand) (hgd : op.guard = none) (ho : op.op = .load 25 x)
    (hx : a.eval x = .pointer (some ⟨G, 0, none⟩)) (h : wpList Tryd.prog ops Q rest (a.put op.dst (addrV f bs)) w) : wpList Tryd.prog ops Q (op :: rest) a w :=
  wpList_load_mid hgd 25 x ho G 0 hx (addrL f bs) _ hA.out.range Tryd.underlying25 rfl (by rw [addr_size, addrL_len f bs hA.out.len]) h
/-- An address, stored whole: the world behind it is any that is so. -/
theorem store_addr {ops : Array Oper} {rest : List Oper} {op : Oper} {a : Act} {w : World} {Q : Exit → Act → World → Prop} {G : Nat} {g : Int} {bs0 : List Nat} (hA : Hid (AddrAt w G g bs0)) (x y : Operand) {f : Int} {bs : List Nat} (hl : Hid (bs.length = 16)) (hgd : op.guard = none) (ho : op.op = .store 25 x y)
    (hx : a.eval x = .pointer (some ⟨G, 0, none⟩)) (hy : a.eval y = addrV f bs) (h : ∀ W, Hid (W = w.setCells G 0 (addrL f bs)) → Hid (AddrAt W G f bs) → wpList Tryd.prog ops Q rest (a.put op.dst undef) W) : wpList Tryd.prog ops Q (op :: rest) a w :=
  wpList_store_mid hgd 25 x y ho G 0 (addrL f bs).toArray hx hy (by rw [List.size_toArray, addrL_len f bs hl.out]; exact hA.out.there) (by rw [addr_size, List.size_toArray, addrL_len f bs hl.out]) (addrL_one f bs) (h _ (Lib.hid rfl) (Lib.hid (hA.out.stored f bs hl.out)))
/-- An address, given back out of its cells. -/
theorem results_addr {fn : Func} {a : Tmp} {tmps : Array Value} {W : World} {R : Nat} {f : Int} {bs : List Nat} (h : fn.results = #[.cell a 25]) (ha : tmps.getD a undef = .pointer (some ⟨R, 0, none⟩)) (hA : AddrAt W R f bs) : (results fn tmps).run Tryd.prog W = .ok (addrV f bs) W := by
  rw [Array.getD_eq_getD_getElem?] at ha
  simp [results, h, ha, asAddr, loadVar_addr hA]
/-- .. and beside it what lies in a slot. -/
theorem results_addr2 {fn : Func} {a t : Tmp} {tmps : Array Value} {W : World} {R : Nat} {f : Int} {bs : List Nat} (h : fn.results = #[.cell a 25, .tmp t]) (ha : tmps.getD a undef = .pointer (some ⟨R, 0, none⟩)) (hA : AddrAt W R f bs) : (results fn tmps).run Tryd.prog W = .ok (.tuple #[addrV f bs, tmps.getD t undef]) W := by
  rw [Array.getD_eq_getD_getElem?] at ha
  simp [results, h, ha, asAddr, loadVar_addr hA]
end Go.Proofs.YtgbajagacmfcmaaDoor
/- Contracts of the reference's Bits, Bit, May, Compare of layer 4. -/
namespace Go.Proofs.YtgbajagacmfcmaaDoor
open Go.RowKit
set_option linter.unusedVariables false
set_option maxRecDepth 20000

/-- How many bits. -/
def bitsN (f : Int) : Nat := if f = 4 then 32 else if f = 6 then 128 else 0
set_option maxRecDepth 100000 in
theorem refBits_any (f : Int) (bs : List Nat) (w : World) (h16 : bs.length = 16) :
    Calls Tryd.prog 16 #[addrV f bs] w fun e w' => e = .returned (.int .i64 ((bitsN f : Nat) : Int)) ∧ Below w.heap.size w w' := by
  obtain ⟨y0, y1, y2, y3, y4, y5, y6, y7, y8, y9, y10, y11, y12, y13, y14, y15, hbs⟩ := list16 bs h16
  have ha : addrV f bs = .agg #[.int .i64 f, .int .u8 (y0 : Int), .int .u8 (y1 : Int), .int .u8 (y2 : Int), .int .u8 (y3 : Int), .int .u8 (y4 : Int), .int .u8 (y5 : Int), .int .u8 (y6 : Int), .int .u8 (y7 : Int), .int .u8 (y8 : Int), .int .u8 (y9 : Int), .int .u8 (y10 : Int), .int .u8 (y11 : Int), .int .u8 (y12 : Int), .int .u8 (y13 : Int), .int .u8 (y14 : Int), .int .u8 (y15 : Int)] := by rw [hbs]; rfl
  rw [ha]
  clear ha hbs h16
  by_cases h4 : f = 4
  · subst h4
    go_enter Tryd.func16, Tryd.ntmps16
    go_wp2_with fail
    go_ret
    exact ⟨rfl, by first | exact Below.refl _ _ | exact (Below.refl _ _).alloc (Nat.le_refl _) _⟩
  · by_cases h6 : f = 6
    · subst h6
      go_enter Tryd.func16, Tryd.ntmps16
      go_wp2_with fail
      go_ret
      exact ⟨rfl, by first | exact Below.refl _ _ | exact (Below.refl _ _).alloc (Nat.le_refl _) _⟩
    · go_enter Tryd.func16, Tryd.ntmps16
      go_wp2_with fail
      go_ret
      exact ⟨by rw [bitsN, if_neg h4, if_neg h6]; rfl, by first | exact Below.refl _ _ | exact (Below.refl _ _).alloc (Nat.le_refl _) _⟩
end Go.Proofs.YtgbajagacmfcmaaDoor
