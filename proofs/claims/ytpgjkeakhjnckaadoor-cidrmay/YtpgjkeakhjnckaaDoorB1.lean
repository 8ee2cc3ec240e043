/- Texts that belong together, one behind the other: OpenArr, OpenAddr, Util, Base, Lists, AddrKit, StrRows, Cuts, Numbers, RefNums, Reads, Parts, Loose, Strict, DecParts. -/
import Derived.Test.YtpgjkeakhjnckaaDoorRows
import Derived.WalkKit
import Derived.ProofKit
import Derived.OpenShut
import Derived.Laws.IdiomArrays
import Derived.ChangeSame
import Derived.Lib.Strings
import Derived.WalkSpells
import Derived.WalkLawsBesides
import Derived.Deep.QuietTactic
import Derived.BigQuiet
import Derived.Lib.Hide
import Derived.Deep.AppendLies
import Derived.Laws.IdiomStrings
import Derived.Lib.ItoaLen
import Derived.Deep.RegionWith
/- An array of integers that came in, opened: the list of its numbers. -/
namespace Go.Proofs.YtpgjkeakhjnckaaDoor
open Go.ChangeShapes Go.WideShapes Go.ChangeAt Go.RowKit
set_option linter.unusedVariables false
set_option maxRecDepth 20000

theorem laidOut : laidOutB Tryd.prog = true := by kernel_rfl
theorem open_int_array {H : Type} {enc : TypeId × Value → H} {W : World} {base : Nat} {spare : Nat → Bool} {t e : TypeId} {n : Nat} {k : IntKind} {v : Value} {d : DataW H} {ps : List MemPlace}
    (ht : Tryd.prog.underlying t = some (.array n e)) (he : Tryd.prog.underlying e = some (.int k)) (hce : Tryd.prog.cellsOf e = 1) (hct : Tryd.prog.cellsOf t = n)
    (hok : Value.okWide Tryd.prog W .any base t v) (h : DataW.Trod enc Tryd.prog W 0 spare true t v d ps) :
    ∃ zs : List Int, v = .agg (zs.map (Value.int k)).toArray ∧ zs.length = n ∧ ∀ z ∈ zs, (Lit.int k z).wf = true := by
  obtain ⟨cs, rfl, hsz, _⟩ : ∃ cs, v = .agg cs ∧ cs.size = Tryd.prog.cellsOf t ∧ Row.okWide Tryd.prog W .any base t cs := by
    simpa [Value.okWide, ht] using hok
  rw [hct] at hsz
  obtain ⟨fuel, hf⟩ := h
  obtain ⟨xs, m, _, _, _, hl, hx⟩ := DataW.trod_array ht hf
  rw [hce] at hx
  have key : ∀ i (hi : i < cs.toList.length), ∃ z, cs.toList[i] = .int k z ∧ (Lit.int k z).wf = true := by
    intro i hi
    have hin : i < n := by simpa [hsz] using hi
    have h1 := hx i hin
    rw [List.getElem?_eq_getElem (by omega)] at h1
    obtain ⟨z, h2, _, h3⟩ := DataW.trod_int he h1
    refine ⟨z, ?_, h3⟩
    have h4 : (Value.cells (.agg cs)).toList = cs.toList := rfl
    rw [h4, Nat.mul_one] at h2
    have h5 : ((cs.toList.drop i).take 1)[0]? = some (.int k z) := by rw [h2]; rfl
    rw [List.getElem?_take, if_pos (by decide), List.getElem?_drop, Nat.add_zero, List.getElem?_eq_getElem hi] at h5
    exact Option.some.inj h5
  refine ⟨cs.toList.map intOf, ?_, by simpa using hsz, ?_⟩
  · congr 1
    apply Array.ext'
    simp only [List.map_map]
    apply List.ext_getElem
    · simp
    · intro i h1 h2
      obtain ⟨z, hz, _⟩ := key i h1
      rw [List.getElem_map, hz]
      rfl
  · intro z hz
    obtain ⟨u, hu, rfl⟩ := List.mem_map.1 hz
    obtain ⟨i, hi, rfl⟩ := List.getElem_of_mem hu
    obtain ⟨z, h1, h2⟩ := key i hi
    rw [h1]
    exact h2
theorem list4 {α : Type} (l : List α) (h : l.length = 4) : ∃ a b c d, l = [a, b, c, d] := by
  match l, h with
  | [a, b, c, d], _ => exact ⟨a, b, c, d, rfl⟩
end Go.Proofs.YtpgjkeakhjnckaaDoor
/- An address (api.Addr) that came in, opened: its family, and the list of its bytes. -/
namespace Go.Proofs.YtpgjkeakhjnckaaDoor
open Go.ChangeShapes Go.WideShapes Go.ChangeAt Go.RowKit
set_option linter.unusedVariables false
set_option maxRecDepth 20000

/-- An address, as a value. -/
def addrV (f : Int) (bs : List Nat) : Value := .agg (Value.int .i64 f :: bs.map fun n => Value.int .u8 ((n : Nat) : Int)).toArray
theorem ints_of_trod {H : Type} {enc : TypeId × Value → H} {W : World} {spare : Nat → Bool} {t e : TypeId} {n fuel : Nat} {k : IntKind} {l : List Value} {x : DataW H × List MemPlace}
    (ht : Tryd.prog.underlying t = some (.array n e)) (he : Tryd.prog.underlying e = some (.int k)) (hce : Tryd.prog.cellsOf e = 1) (hct : Tryd.prog.cellsOf t = n)
    (h : DataW.trod enc Tryd.prog W 0 spare true fuel t l = some x) : ∃ zs : List Int, l = zs.map (Value.int k) ∧ zs.length = n ∧ ∀ z ∈ zs, (Lit.int k z).wf = true := by
  obtain ⟨xs, m, _, _, hl0, hl, hx⟩ := DataW.trod_array ht h
  rw [hce] at hx
  rw [hct] at hl0
  have key : ∀ i (hi : i < l.length), ∃ z, l[i] = .int k z ∧ (Lit.int k z).wf = true := by
    intro i hi
    have h1 := hx i (by omega)
    rw [List.getElem?_eq_getElem (by omega)] at h1
    obtain ⟨z, h2, _, h3⟩ := DataW.trod_int he h1
    refine ⟨z, ?_, h3⟩
    rw [Nat.mul_one] at h2
    have h5 : ((l.drop i).take 1)[0]? = some (.int k z) := by rw [h2]; rfl
    rw [List.getElem?_take, if_pos (by decide), List.getElem?_drop, Nat.add_zero, List.getElem?_eq_getElem hi] at h5
    exact Option.some.inj h5
  refine ⟨l.map intOf, ?_, by simpa using hl0, ?_⟩
  · rw [List.map_map]
    apply List.ext_getElem
    · simp
    · intro i h1 h2
      obtain ⟨z, hz, _⟩ := key i h1
      rw [List.getElem_map, hz]
      rfl
  · intro z hz
    obtain ⟨u, hu, rfl⟩ := List.mem_map.1 hz
    obtain ⟨i, hi, rfl⟩ := List.getElem_of_mem hu
    obtain ⟨z, h1, h2⟩ := key i hi
    rw [h1]
    exact h2
theorem open_addr {H : Type} {enc : TypeId × Value → H} {W : World} {base : Nat} {spare : Nat → Bool} {v : Value} {d : DataW H} {ps : List MemPlace}
    (hok : Value.okWide Tryd.prog W .any base 24 v) (h : DataW.Trod enc Tryd.prog W 0 spare true 24 v d ps) :
    ∃ (f : Int) (bs : List Nat), v = addrV f bs ∧ (Lit.int .i64 f).wf = true ∧ bs.length = 16 ∧ ∀ x ∈ bs, x < 256 := by
  have hs := Tryd.underlying24
  obtain ⟨cs, rfl, hsz, _⟩ : ∃ cs, v = .agg cs ∧ cs.size = Tryd.prog.cellsOf 24 ∧ Row.okWide Tryd.prog W .any base 24 cs := by
    simpa [Value.okWide, hs] using hok
  rw [show Tryd.prog.cellsOf 24 = 17 by kernel_rfl] at hsz
  obtain ⟨fuel, hf⟩ := h
  obtain ⟨y0, y1, n, _, _, h0, h1⟩ := trod_struct2 hs hf
  have e0 : (Value.cells (.agg cs)).toList = cs.toList := rfl
  rw [e0] at h0 h1
  obtain ⟨f, h2, _, h3⟩ := DataW.trod_int Tryd.underlying3 h0
  obtain ⟨zs, h4, h5, h6⟩ := ints_of_trod Tryd.underlying22 Tryd.underlying5 (by kernel_rfl) (by kernel_rfl) h1
  have hc1 : Tryd.prog.cellsOf 3 = 1 := by kernel_rfl
  have hc16 : Tryd.prog.cellsOf 22 = 16 := by kernel_rfl
  refine ⟨f, zs.map Int.toNat, ?_, h3, by simpa using h5, ?_⟩
  · unfold addrV
    congr 1
    apply Array.ext'
    have e1 : cs.toList = (cs.toList.drop 0).take 1 ++ (cs.toList.drop 1).take 16 := by
      have : (cs.toList.drop 1).take 16 = cs.toList.drop 1 := List.take_of_length_le (by simp; omega)
      rw [this, List.drop_zero, List.take_append_drop]
    rw [e1]
    have e2 : (cs.toList.drop 0).take 1 = [Value.int .i64 f] := by rw [← h2, hc1]
    have e3 : (cs.toList.drop 1).take 16 = zs.map (Value.int .u8) := by rw [← h4, hc16]
    rw [e2, e3, List.map_map]
    show Value.int .i64 f :: zs.map (Value.int .u8) = Value.int .i64 f :: _
    congr 1
    apply List.map_congr_left
    intro z hz
    have := bounds_u8 (h6 z hz)
    show Value.int .u8 z = Value.int .u8 ((z.toNat : Nat) : Int)
    congr 1
    omega
  · intro x hx
    obtain ⟨z, hz, rfl⟩ := List.mem_map.1 hx
    have := bounds_u8 (h6 z hz)
    omega
end Go.Proofs.YtpgjkeakhjnckaaDoor
/- Plain facts on texts as rows of bytes; nothing here speaks of the program. -/
namespace Go.Proofs.YtpgjkeakhjnckaaDoor
open Go.RowKit
set_option linter.unusedVariables false
set_option maxRecDepth 20000

theorem bytes_ext {a b : ByteArray} (h : a.data.toList = b.data.toList) : a = b := by
  cases a; cases b
  simp only at h
  congr
  exact Array.ext' h
theorem isEmpty_true (s : ByteArray) (h : s.size = 0) : s.toList.isEmpty = true := by
  rw [ByteArray.toList_eq]
  have h2 : s.data.toList.length = s.size := by simp
  rw [List.eq_nil_of_length_eq_zero (h2.trans h)]
  rfl
theorem isEmpty_false (s : ByteArray) (h : 0 < s.size) : s.toList.isEmpty = false := by
  rw [ByteArray.toList_eq]
  have h2 : s.data.toList.length = s.size := by simp
  cases h3 : s.data.toList with
  | nil => rw [h3] at h2; simp at h2; omega
  | cons x l => rfl
theorem get!_eq (s : ByteArray) (j : Nat) (h : j < s.size) : s.get! j = s[j] := by
  cases s with | mk d => exact getElem!_pos d j h
theorem getElem_data (s : ByteArray) (j : Nat) (h : j < s.size) : s[j] = s.data.toList[j]'(by simpa using h) := rfl
theorem data_append (a b : ByteArray) : (a ++ b).data.toList = a.data.toList ++ b.data.toList := by simp
theorem data_extract (s : ByteArray) (i j : Nat) : (s.extract i j).data.toList = (s.data.toList.drop i).take (j - i) := Lib.toList_data (s.extract i j) ▸ Lib.extract_toList s i j
theorem append_left (a b : ByteArray) (j : Nat) (h : j < a.size) : ((a ++ b).get! j) = a[j] := by
  have h2 : j < (a ++ b).size := by simp; omega
  rw [get!_eq _ _ h2, getElem_data, getElem_data]
  have e := data_append a b
  have : ((a ++ b).data.toList)[j]? = (a.data.toList ++ b.data.toList)[j]? := by rw [e]
  rw [List.getElem?_eq_getElem (by simpa using h2), List.getElem?_append_left (by simpa using h), List.getElem?_eq_getElem (by simpa using h)] at this
  exact Option.some.inj this
theorem extract_right (a b : ByteArray) : (a ++ b).extract a.size (a ++ b).size = b := by
  apply bytes_ext
  rw [data_extract, data_append, List.drop_append_of_le_length (by simp)]
  have : a.data.toList.drop a.size = [] := List.drop_eq_nil_of_le (by simp)
  rw [this, List.nil_append]
  apply List.take_of_length_le
  simp
end Go.Proofs.YtpgjkeakhjnckaaDoor
/- Contracts of the small functions of text and of its reference that every statement of the layer runs: Few, Split, Same, lives. -/
namespace Go.Proofs.YtpgjkeakhjnckaaDoor
open Go.RowKit
set_option linter.unusedVariables false
set_option maxRecDepth 20000

theorem bool_ret {a b : Bool} (h : a = b) : Ending.returned (.bool a) = .returned (.bool b) := by rw [h]
theorem chain {a b c : World} (h : Below a.heap.size a b) (k : Below b.heap.size b c) : Below a.heap.size a c := h.trans (k.mono h.size)

theorem quiet_left {P : Program} {f : FuncId} {args : Array Value} {w : World} {n : Nat} {v : Value}
    (h : Calls P f args (w.drewN n) fun e w' => e = .returned v ∧ w.drewN n = w') : Calls P f args (w.drewN n) fun e w'' => e = .returned v ∧ ∃ m, w'' = w.drewN m :=
  h.mono fun _ _ ⟨he, hm⟩ => ⟨he, n, hm.symm⟩
theorem quiet_add_left {P : Program} {f : FuncId} {args : Array Value} {w : World} {a n : Nat} {v : Value}
    (h : Calls P f args (w.drewN (a + n)) fun e w' => e = .returned v ∧ w.drewN (a + n) = w') :
    Calls P f args (w.drewN (a + n)) fun e w'' => e = .returned v ∧ ∃ m, w'' = w.drewN (a + m) :=
  h.mono fun _ _ ⟨he, hm⟩ => ⟨he, n, hm.symm⟩

theorem add_none (b j : Nat) : (⟨b, 0, none⟩ : Addr).add j = ⟨b, j, none⟩ := by
  unfold Addr.add
  split <;> simp_all

/-- Bytes, as cells. -/
def bys (l : List UInt8) : List Value := l.map fun c => Value.int .u8 ((c.toNat : Nat) : Int)
theorem bys_length (l : List UInt8) : (bys l).length = l.length := by simp [bys]
theorem bys_snoc (l : List UInt8) (c : UInt8) : bys (l ++ [c]) = bys l ++ [.int .u8 ((c.toNat : Nat) : Int)] := by simp [bys]
theorem Tryd.infoByte : (Tryd.prog.info? 5).map (fun i => (i.zero, i.size, i.bytes)) = some (some (.int .u8 0), 1, 1) := by kernel_rfl
/-- 'string(b)' of a row of bytes of one's own. -/
theorem own_bytes_back {w : World} {B : Nat} {v : Value} {l : List UInt8} (h : w.ownsRow B 5 1 v l.length (bys l)) :
    (convert 75 9 v).run Tryd.prog w = .ok (.string ⟨l.toArray⟩) w := by
  by_cases h0 : 0 < l.length
  · obtain ⟨g, c, rfl, _, _⟩ := h.form h0
    refine run_convert_bytes_back (P := Tryd.prog) w 75 9 5 ⟨g, 0, none⟩ c l Tryd.underlying75 Tryd.underlying5 Tryd.underlying9 (fun j hj => ?_)
    rw [add_none, h.cellAt j (by omega)]
    simp [bys, hj]
  · have hl : l = [] := List.eq_nil_of_length_eq_zero (by omega)
    subst hl
    rcases h.2 with ⟨rfl, _⟩ | ⟨g, cap, cur, rfl, _⟩
    · rw [run_convert_bytes_string w 75 9 5 none 0 0 Tryd.underlying75 Tryd.underlying5 Tryd.underlying9]
      simp [Conv.bytesToString]
      rfl
    · exact run_convert_bytes_back (P := Tryd.prog) w 75 9 5 ⟨g, 0, none⟩ cap [] Tryd.underlying75 Tryd.underlying5 Tryd.underlying9 (fun j hj => by simp at hj)
/-- One more byte behind a row of bytes of one's own. -/
theorem own_byte {w0 wr w1 : World} {v v' : Value} {l : List UInt8} {x : UInt8} {o : Obj} (hown' : w1.ownsRow w0.heap.size 5 1 v' (l.length + 1) (bys l ++ [.int .u8 ((x.toNat : Nat) : Int)]))
    (hg : (wr.alloc o).grownBy w1 v.ownBlock) (hown : wr.ownsRow w0.heap.size 5 1 v l.length (bys l)) (hb : Below w0.heap.size w0 wr) :
    w1.ownsRow w0.heap.size 5 1 v' (l ++ [x]).length (bys (l ++ [x])) ∧ Below w0.heap.size w0 w1 := by
  refine ⟨by rw [bys_snoc]; simpa using hown', ?_⟩
  refine (hb.alloc hb.size o).grown hg (by have := hb.size; simp; omega) ?_
  intro k hk
  exact (hown.lt k hk).1

/-- 'string([]byte{c})'. -/
theorem one_byte (c : Nat) (hc : c < 256) (W : World) :
    (convert 75 9 (.slice (some ⟨W.heap.size, 0, none⟩) 1 1)).run Tryd.prog (W.alloc (.cells #[.int .u8 (c : Int)] 5)) = .ok (.string { data := #[UInt8.ofNat c] }) (W.alloc (.cells #[.int .u8 (c : Int)] 5)) := by
  have hb := run_convert_bytes_back (P := Tryd.prog) (W.alloc (.cells #[.int .u8 (c : Int)] 5)) 75 9 5 ⟨W.heap.size, 0, none⟩ 1 [UInt8.ofNat c] Tryd.underlying75 Tryd.underlying5 Tryd.underlying9 (by
    intro j hj
    obtain rfl : j = 0 := by simpa using hj
    rw [add_none]
    simp [World.cell?_alloc_new]
    omega)
  exact hb

/-- The first so many bytes. -/
def few (s : ByteArray) (n : Nat) : ByteArray := if n < s.size then s.extract 0 n else s
theorem few_size (s : ByteArray) (n : Nat) : (few s n).size ≤ n := by
  unfold few
  split
  · simp; omega
  · omega

set_option maxHeartbeats 400000 in
theorem few_any (s : ByteArray) (n : Nat) (w : World) (hs : s.size ≤ maxLen) (hn : n ≤ 100000) :
    Calls Tryd.prog 16 #[.string s, .int .i64 n] w fun e w' => e = .returned (.string (few s n)) ∧ w = w' := by
  unfold maxLen at hs
  by_cases h : n < s.size
  · have e : few s n = s.extract 0 n := by unfold few; rw [if_pos h]
    rw [e]
    go_enter Tryd.func16, Tryd.ntmps16
    go_wp2
    go_ret
    exact ⟨rfl, rfl⟩
  · have e : few s n = s := by unfold few; rw [if_neg h]
    rw [e]
    go_enter Tryd.func16, Tryd.ntmps16
    go_wp2
    go_ret
    exact ⟨rfl, rfl⟩

/-- What a splitting reader holds behind the first k bytes: the pieces so far, and where the next one begins. -/
def sp (s : ByteArray) (sep : Nat) : Nat → List ByteArray × Nat
  | 0 => ([], 0)
  | k + 1 => if (s.data.toList.getD k 0).toNat = sep then ((sp s sep k).1 ++ [s.extract (sp s sep k).2 k], k + 1) else sp s sep k
def pieces (s : ByteArray) (sep : Nat) : List ByteArray := (sp s sep s.size).1 ++ [s.extract (sp s sep s.size).2 s.size]
theorem sp_le (s : ByteArray) (sep : Nat) : ∀ k, (sp s sep k).2 ≤ k ∧ (sp s sep k).1.length ≤ k
  | 0 => by simp [sp]
  | k + 1 => by
    have := sp_le s sep k
    unfold sp
    split
    · simp; omega
    · omega
theorem sp_hit (s : ByteArray) (sep k : Nat) (hk : k < s.size) (h : (s[k]).toNat = sep) : sp s sep (k + 1) = ((sp s sep k).1 ++ [s.extract (sp s sep k).2 k], k + 1) := by
  have e : s.data.toList.getD k 0 = s[k] := by
    rw [List.getD_eq_getElem?_getD, List.getElem?_eq_getElem (by simpa using hk)]; rfl
  rw [sp, e, if_pos h]
theorem sp_miss (s : ByteArray) (sep k : Nat) (hk : k < s.size) (h : ¬ (s[k]).toNat = sep) : sp s sep (k + 1) = sp s sep k := by
  have e : s.data.toList.getD k 0 = s[k] := by
    rw [List.getD_eq_getElem?_getD, List.getElem?_eq_getElem (by simpa using hk)]; rfl
  rw [sp, e, if_neg h]

/-- It returns a slice of its own that holds just these texts, and nothing that was there has turned. -/
def RetStrs (w : World) (l : List ByteArray) (e : Ending) (w' : World) : Prop :=
  ∃ v, e = .returned v ∧ w'.ownsRow w.heap.size 9 1 v l.length (l.map Value.string) ∧ Below w.heap.size w w'

theorem Tryd.infoString : (Tryd.prog.info? 9).map (fun i => (i.zero, i.size, i.bytes)) = some (some (.string ByteArray.empty), 1, 16) := by kernel_rfl

/-- One more text behind a row of texts of one's own. -/
theorem own_snoc {w0 wr w1 : World} {v v' : Value} {l : List ByteArray} {x : ByteArray} {o : Obj} (hown' : w1.ownsRow w0.heap.size 9 1 v' (l.length + 1) (l.map Value.string ++ [.string x]))
    (hg : (wr.alloc o).grownBy w1 v.ownBlock) (hown : wr.ownsRow w0.heap.size 9 1 v l.length (l.map Value.string)) (hb : Below w0.heap.size w0 wr) :
    w1.ownsRow w0.heap.size 9 1 v' (l ++ [x]).length ((l ++ [x]).map Value.string) ∧ Below w0.heap.size w0 w1 := by
  refine ⟨by simpa using hown', ?_⟩
  refine (hb.alloc hb.size o).grown hg (by have := hb.size; simp; omega) ?_
  intro k hk
  exact (hown.lt k hk).1

set_option maxHeartbeats 400000 in
theorem split_any (s : ByteArray) (sep : Nat) (w : World) (hs : s.size ≤ 1000000) :
    Calls Tryd.prog 70 #[.string s, .int .u8 sep] w (RetStrs w (pieces s sep)) := by
  obtain ⟨i0, hi0, hz0, hz1, hz2⟩ := info_parts Tryd.infoString
  go_enter Tryd.func70, Tryd.ntmps70
  go_wp2
  go_loopw [5, 6, 10] (fun v f i wr => ∃ k : Nat, k ≤ s.size ∧ i = .int .i64 k ∧ f = .int .i64 (sp s sep k).2 ∧ wr.ownsRow w.heap.size 9 1 v (sp s sep k).1.length ((sp s sep k).1.map Value.string) ∧ Below w.heap.size w wr) (fun _ _ i _ => s.size - (intOf i).toNat)
  case atStart => exact ⟨0, Nat.zero_le _, rfl, rfl, World.ownsRow_nil _ _ _ _, Below.refl _ _⟩
  case round =>
    obtain ⟨k, hk, rfl, rfl, hown, hbel⟩ := hrel
    have hle := sp_le s sep k
    have hsz := hbel.size
    by_cases hlt : k < s.size
    · by_cases hit : (s[k]).toNat = sep
      · have HS := Lib.hid (sp_hit s sep k hlt hit)
        go_wp2_with (at_builtin; refine wpList_append_own _ rfl (.tmp 18) (.tmp 23) 78 rfl w.heap.size 9 i0 _ 1 16 Tryd.underlying78 hi0 hz0 hz1 hz2 rfl (by decide) _ _ _ rfl (hown.alloc _) ⟨wr.heap.size, 0, none⟩ 1 1 [.string (s.extract (sp s sep k).2 k)] rfl rfl ?c1 ?c2 ?c3 ?c4 ?c5 ?_)
        case c1 => exact cell_one_new _ _ _
        case c2 => intro u hu; simp at hu; subst hu; rfl
        case c3 => unfold maxLen; omega
        case c4 => omega
        case c5 => simp; omega
        intro v' w1 hown' hgrow _
        have R := own_snoc hown' hgrow hown hbel
        clear hown' hgrow hown hbel
        go_wp2
        go_roundw
        case rel => exact ⟨k + 1, by omega, by go_num, by rw [HS.out]; go_num, by rw [HS.out]; exact R.1, R.2⟩
        case measure => simp [intOf]; omega
      · have HS := Lib.hid (sp_miss s sep k hlt hit)
        go_wp2
        go_roundw
        case rel => exact ⟨k + 1, by omega, by go_num, by rw [HS.out], by rw [HS.out]; exact hown, hbel⟩
        case measure => simp [intOf]; omega
    · have hks : k = s.size := by omega
      subst hks
      go_wp2_with (at_builtin; refine wpList_append_own _ rfl (.tmp 28) (.tmp 32) 78 rfl w.heap.size 9 i0 _ 1 16 Tryd.underlying78 hi0 hz0 hz1 hz2 rfl (by decide) _ _ _ rfl (hown.alloc _) ⟨wr.heap.size, 0, none⟩ 1 1 [.string (s.extract (sp s sep s.size).2 s.size)] rfl rfl ?c1 ?c2 ?c3 ?c4 ?c5 ?_)
      case c1 => exact cell_one_new _ _ _
      case c2 => intro u hu; simp at hu; subst hu; rfl
      case c3 => unfold maxLen; omega
      case c4 => omega
      case c5 => simp; omega
      intro v' w1 hown' hgrow _
      have R := own_snoc hown' hgrow hown hbel
      clear hown' hgrow hown hbel
      go_wp2
      go_ret
      exact ⟨_, rfl, R.1, R.2⟩

theorem pieces_example : pieces { data := #[97, 46, 46, 98] } 46 = [{ data := #[97] }, { data := #[] }, { data := #[98] }] := by kernel_rfl

/-- The cells of a row of texts. -/
theorem own_cells {w : World} {B g n c : Nat} {l : List ByteArray} (h : w.ownsRow B 9 1 (.slice (some ⟨g, 0, none⟩) n c) n (l.map Value.string)) :
    ∀ i (hi : i < l.length), w.cell? ⟨g, i, none⟩ = some (.string l[i]) := by
  intro i hi
  have hl : l.length = n := by simpa using h.1
  rw [h.cellAt i (by omega)]
  simp [hi]

theorem bcell {W w1 : World} (hb : Below W.heap.size W w1) : (∀ b o, b < W.heap.size → w1.cell? ⟨b, o, none⟩ = W.cell? ⟨b, o, none⟩) ∧ (∀ b o, b < W.heap.size → w1.frozen? ⟨b, o, none⟩ = W.frozen? ⟨b, o, none⟩) :=
  ⟨fun b o h => hb.cell (p := ⟨b, o, none⟩) h, fun b o h => hb.frozen (p := ⟨b, o, none⟩) h⟩
theorem belowN {B : Nat} {a w : World} (h : Below B a w) (n : Nat) : Below B a (w.drewN n) := ⟨h.os, h.tape, h.output, h.size, h.block⟩

end Go.Proofs.YtpgjkeakhjnckaaDoor
/- A list of sixteen, written out. -/
namespace Go.Proofs.YtpgjkeakhjnckaaDoor
theorem list16 {α : Type} (l : List α) (h : l.length = 16) : ∃ y0 y1 y2 y3 y4 y5 y6 y7 y8 y9 y10 y11 y12 y13 y14 y15, l = [y0, y1, y2, y3, y4, y5, y6, y7, y8, y9, y10, y11, y12, y13, y14, y15] := by
  match l, h with
  | [y0, y1, y2, y3, y4, y5, y6, y7, y8, y9, y10, y11, y12, y13, y14, y15], _ => exact ⟨y0, y1, y2, y3, y4, y5, y6, y7, y8, y9, y10, y11, y12, y13, y14, y15, rfl⟩
end Go.Proofs.YtpgjkeakhjnckaaDoor
/- An address (api.Addr: 17 cells) in memory: its facts, stores of its bytes, a store of all of it. Written by mkaddr.py. -/
namespace Go.Proofs.YtpgjkeakhjnckaaDoor
open Go.RowKit
set_option linter.unusedVariables false
set_option maxRecDepth 20000

theorem addrV_eq (f : Int) (y0 y1 y2 y3 y4 y5 y6 y7 y8 y9 y10 y11 y12 y13 y14 y15 : Nat) : addrV f [y0, y1, y2, y3, y4, y5, y6, y7, y8, y9, y10, y11, y12, y13, y14, y15] = .agg #[.int .i64 f, .int .u8 (y0 : Int), .int .u8 (y1 : Int), .int .u8 (y2 : Int), .int .u8 (y3 : Int), .int .u8 (y4 : Int), .int .u8 (y5 : Int), .int .u8 (y6 : Int), .int .u8 (y7 : Int), .int .u8 (y8 : Int), .int .u8 (y9 : Int), .int .u8 (y10 : Int), .int .u8 (y11 : Int), .int .u8 (y12 : Int), .int .u8 (y13 : Int), .int .u8 (y14 : Int), .int .u8 (y15 : Int)] := rfl
/-- An address lies at G. -/
structure AddrAt (w : World) (G : Nat) (f : Int) (bs : List Nat) : Prop where
  len : bs.length = 16
  lt : G < w.heap.size
  fam : w.cell? ⟨G, 0, none⟩ = some (.int .i64 f)
  cells : ∀ j, j < 16 → w.cell? ⟨G, 1 + j, none⟩ = some (.int .u8 ((bs.getD j 0 : Nat) : Int))
  live : ∀ j, j < 17 → w.frozen? ⟨G, j, none⟩ = false
theorem AddrAt.below {w w' : World} {G : Nat} {f : Int} {bs : List Nat} (h : AddrAt w G f bs) (hb : Below w.heap.size w w') : AddrAt w' G f bs :=
  ⟨h.len, Nat.lt_of_lt_of_le h.lt hb.size, by rw [hb.cell (p := ⟨G, 0, none⟩) h.lt]; exact h.fam, fun j hj => by rw [hb.cell (p := ⟨G, 1 + j, none⟩) h.lt]; exact h.cells j hj, fun j hj => by rw [hb.frozen (p := ⟨G, j, none⟩) h.lt]; exact h.live j hj⟩
theorem AddrAt.set {w : World} {G i : Nat} {f : Int} {bs : List Nat} (h : AddrAt w G f bs) (hi : i < 16) (v : Nat) : AddrAt (w.setCell ⟨G, 1 + i, none⟩ (.int .u8 ((v : Nat) : Int))) G f (bs.set i v) := by
  refine ⟨by simp [h.len], by simpa using h.lt, ?_, ?_, ?_⟩
  · rw [World.cell?_setCell_other _ _ _ _ (by intro h2; injection h2 with _ h3 _; omega)]
    exact h.fam
  · intro j hj
    by_cases e : j = i
    · subst e
      rw [World.cell?_setCell_same _ _ _ (h.cells j hj), List.getD_eq_getElem?_getD, List.getElem?_set_self (by rw [h.len]; exact hj)]
      rfl
    · rw [World.cell?_setCell_other _ _ _ _ (by intro h2; injection h2 with _ h3 _; omega), h.cells j hj, List.getD_eq_getElem?_getD, List.getD_eq_getElem?_getD, List.getElem?_set_ne (by omega)]
  · intro j hj
    rw [World.frozen?_setCell]
    exact h.live j hj
theorem AddrAt.setFam {w : World} {G : Nat} {f : Int} {bs : List Nat} (h : AddrAt w G f bs) (g : Int) : AddrAt (w.setCell ⟨G, 0, none⟩ (.int .i64 g)) G g bs := by
  refine ⟨h.len, by simpa using h.lt, World.cell?_setCell_same _ _ _ h.fam, ?_, ?_⟩
  · intro j hj
    rw [World.cell?_setCell_other _ _ _ _ (by intro h2; injection h2 with _ h3 _; omega)]
    exact h.cells j hj
  · intro j hj
    rw [World.frozen?_setCell]
    exact h.live j hj
theorem AddrAt.other {w : World} {G G' i : Nat} {f : Int} {bs : List Nat} (h : AddrAt w G f bs) (hG : G' ≠ G) (u : Value) : AddrAt (w.setCell ⟨G', i, none⟩ u) G f bs := by
  have hn : ∀ j, (⟨G', i, none⟩ : Addr) ≠ ⟨G, j, none⟩ := fun j h2 => by injection h2 with h3 _ _; exact hG h3
  refine ⟨h.len, by simpa using h.lt, by rw [World.cell?_setCell_other _ _ _ _ (hn _)]; exact h.fam, fun j hj => by rw [World.cell?_setCell_other _ _ _ _ (hn _)]; exact h.cells j hj, fun j hj => by rw [World.frozen?_setCell]; exact h.live j hj⟩
theorem AddrAt.of (w : World) (t : TypeId) (cs : Array Value) (f : Int) (bs : List Nat) (h16 : bs.length = 16) (h : cs.toList = Value.int .i64 f :: bs.map fun n => Value.int .u8 ((n : Nat) : Int)) : AddrAt (w.alloc (.cells cs t)) w.heap.size f bs := by
  have e : ∀ j, cs[j]? = (Value.int .i64 f :: bs.map fun n => Value.int .u8 ((n : Nat) : Int))[j]? := fun j => by rw [← h, Array.getElem?_toList]
  refine ⟨h16, by simp, ?_, ?_, fun j _ => World.frozen?_alloc_new _ _ _ _⟩
  · rw [World.cell?_alloc_new, e]; rfl
  · intro j hj
    rw [World.cell?_alloc_new, Nat.add_comm 1 j, e, List.getElem?_cons_succ, List.getElem?_map, List.getD_eq_getElem?_getD, List.getElem?_eq_getElem (by omega)]
    rfl
theorem AddrAt.new (w : World) (t : TypeId) (f : Int) (y0 y1 y2 y3 y4 y5 y6 y7 y8 y9 y10 y11 y12 y13 y14 y15 : Nat) : AddrAt (w.alloc (.cells #[.int .i64 f, .int .u8 (y0 : Int), .int .u8 (y1 : Int), .int .u8 (y2 : Int), .int .u8 (y3 : Int), .int .u8 (y4 : Int), .int .u8 (y5 : Int), .int .u8 (y6 : Int), .int .u8 (y7 : Int), .int .u8 (y8 : Int), .int .u8 (y9 : Int), .int .u8 (y10 : Int), .int .u8 (y11 : Int), .int .u8 (y12 : Int), .int .u8 (y13 : Int), .int .u8 (y14 : Int), .int .u8 (y15 : Int)] t)) w.heap.size f [y0, y1, y2, y3, y4, y5, y6, y7, y8, y9, y10, y11, y12, y13, y14, y15] := AddrAt.of w t _ f _ rfl rfl
theorem AddrAt.all {w : World} {G : Nat} {f : Int} {y0 y1 y2 y3 y4 y5 y6 y7 y8 y9 y10 y11 y12 y13 y14 y15 : Nat} (h : AddrAt w G f [y0, y1, y2, y3, y4, y5, y6, y7, y8, y9, y10, y11, y12, y13, y14, y15]) :
    w.cell? ⟨G, 0, none⟩ = some (.int .i64 f) ∧ w.cell? ⟨G, 1, none⟩ = some (.int .u8 (y0 : Int)) ∧ w.cell? ⟨G, 2, none⟩ = some (.int .u8 (y1 : Int)) ∧ w.cell? ⟨G, 3, none⟩ = some (.int .u8 (y2 : Int)) ∧ w.cell? ⟨G, 4, none⟩ = some (.int .u8 (y3 : Int)) ∧ w.cell? ⟨G, 5, none⟩ = some (.int .u8 (y4 : Int)) ∧ w.cell? ⟨G, 6, none⟩ = some (.int .u8 (y5 : Int)) ∧ w.cell? ⟨G, 7, none⟩ = some (.int .u8 (y6 : Int)) ∧ w.cell? ⟨G, 8, none⟩ = some (.int .u8 (y7 : Int)) ∧ w.cell? ⟨G, 9, none⟩ = some (.int .u8 (y8 : Int)) ∧ w.cell? ⟨G, 10, none⟩ = some (.int .u8 (y9 : Int)) ∧ w.cell? ⟨G, 11, none⟩ = some (.int .u8 (y10 : Int)) ∧ w.cell? ⟨G, 12, none⟩ = some (.int .u8 (y11 : Int)) ∧ w.cell? ⟨G, 13, none⟩ = some (.int .u8 (y12 : Int)) ∧ w.cell? ⟨G, 14, none⟩ = some (.int .u8 (y13 : Int)) ∧ w.cell? ⟨G, 15, none⟩ = some (.int .u8 (y14 : Int)) ∧ w.cell? ⟨G, 16, none⟩ = some (.int .u8 (y15 : Int)) :=
  ⟨h.fam, h.cells 0 (by decide), h.cells 1 (by decide), h.cells 2 (by decide), h.cells 3 (by decide), h.cells 4 (by decide), h.cells 5 (by decide), h.cells 6 (by decide), h.cells 7 (by decide), h.cells 8 (by decide), h.cells 9 (by decide), h.cells 10 (by decide), h.cells 11 (by decide), h.cells 12 (by decide), h.cells 13 (by decide), h.cells 14 (by decide), h.cells 15 (by decide)⟩
theorem AddrAt.lives {w : World} {G : Nat} {f : Int} {bs : List Nat} (h : AddrAt w G f bs) :
    w.frozen? ⟨G, 0, none⟩ = false ∧ w.frozen? ⟨G, 1, none⟩ = false ∧ w.frozen? ⟨G, 2, none⟩ = false ∧ w.frozen? ⟨G, 3, none⟩ = false ∧ w.frozen? ⟨G, 4, none⟩ = false ∧ w.frozen? ⟨G, 5, none⟩ = false ∧ w.frozen? ⟨G, 6, none⟩ = false ∧ w.frozen? ⟨G, 7, none⟩ = false ∧ w.frozen? ⟨G, 8, none⟩ = false ∧ w.frozen? ⟨G, 9, none⟩ = false ∧ w.frozen? ⟨G, 10, none⟩ = false ∧ w.frozen? ⟨G, 11, none⟩ = false ∧ w.frozen? ⟨G, 12, none⟩ = false ∧ w.frozen? ⟨G, 13, none⟩ = false ∧ w.frozen? ⟨G, 14, none⟩ = false ∧ w.frozen? ⟨G, 15, none⟩ = false ∧ w.frozen? ⟨G, 16, none⟩ = false :=
  ⟨h.live 0 (by decide), h.live 1 (by decide), h.live 2 (by decide), h.live 3 (by decide), h.live 4 (by decide), h.live 5 (by decide), h.live 6 (by decide), h.live 7 (by decide), h.live 8 (by decide), h.live 9 (by decide), h.live 10 (by decide), h.live 11 (by decide), h.live 12 (by decide), h.live 13 (by decide), h.live 14 (by decide), h.live 15 (by decide), h.live 16 (by decide)⟩
/-- An address, stored cell by cell. -/
def storeA (W : World) (R : Nat) (f : Int) (y0 y1 y2 y3 y4 y5 y6 y7 y8 y9 y10 y11 y12 y13 y14 y15 : Nat) : World := (((((((((((((((((W.setCell ⟨R, 0, none⟩ (.int .i64 f)).setCell ⟨R, 1, none⟩ (.int .u8 ((y0 : Nat) : Int))).setCell ⟨R, 2, none⟩ (.int .u8 ((y1 : Nat) : Int))).setCell ⟨R, 3, none⟩ (.int .u8 ((y2 : Nat) : Int))).setCell ⟨R, 4, none⟩ (.int .u8 ((y3 : Nat) : Int))).setCell ⟨R, 5, none⟩ (.int .u8 ((y4 : Nat) : Int))).setCell ⟨R, 6, none⟩ (.int .u8 ((y5 : Nat) : Int))).setCell ⟨R, 7, none⟩ (.int .u8 ((y6 : Nat) : Int))).setCell ⟨R, 8, none⟩ (.int .u8 ((y7 : Nat) : Int))).setCell ⟨R, 9, none⟩ (.int .u8 ((y8 : Nat) : Int))).setCell ⟨R, 10, none⟩ (.int .u8 ((y9 : Nat) : Int))).setCell ⟨R, 11, none⟩ (.int .u8 ((y10 : Nat) : Int))).setCell ⟨R, 12, none⟩ (.int .u8 ((y11 : Nat) : Int))).setCell ⟨R, 13, none⟩ (.int .u8 ((y12 : Nat) : Int))).setCell ⟨R, 14, none⟩ (.int .u8 ((y13 : Nat) : Int))).setCell ⟨R, 15, none⟩ (.int .u8 ((y14 : Nat) : Int))).setCell ⟨R, 16, none⟩ (.int .u8 ((y15 : Nat) : Int)))
theorem storeA_at {W : World} {R : Nat} {g : Int} {bs : List Nat} (f : Int) (y0 y1 y2 y3 y4 y5 y6 y7 y8 y9 y10 y11 y12 y13 y14 y15 : Nat) (h : AddrAt W R g bs) : AddrAt (storeA W R f y0 y1 y2 y3 y4 y5 y6 y7 y8 y9 y10 y11 y12 y13 y14 y15) R f [y0, y1, y2, y3, y4, y5, y6, y7, y8, y9, y10, y11, y12, y13, y14, y15] := by
  obtain ⟨z0, z1, z2, z3, z4, z5, z6, z7, z8, z9, z10, z11, z12, z13, z14, z15, rfl⟩ := list16 bs h.len
  exact (((((((((((((((((h.setFam f).set (i := 0) (by decide) y0).set (i := 1) (by decide) y1).set (i := 2) (by decide) y2).set (i := 3) (by decide) y3).set (i := 4) (by decide) y4).set (i := 5) (by decide) y5).set (i := 6) (by decide) y6).set (i := 7) (by decide) y7).set (i := 8) (by decide) y8).set (i := 9) (by decide) y9).set (i := 10) (by decide) y10).set (i := 11) (by decide) y11).set (i := 12) (by decide) y12).set (i := 13) (by decide) y13).set (i := 14) (by decide) y14).set (i := 15) (by decide) y15)
theorem storeA_below {w W : World} {R : Nat} (f : Int) (y0 y1 y2 y3 y4 y5 y6 y7 y8 y9 y10 y11 y12 y13 y14 y15 : Nat) (h : Below w.heap.size w W) (hR : w.heap.size ≤ R) : Below w.heap.size w (storeA W R f y0 y1 y2 y3 y4 y5 y6 y7 y8 y9 y10 y11 y12 y13 y14 y15) :=
  (((((((((((((((((h.setCell (p := ⟨R, 0, none⟩) hR _).setCell (p := ⟨R, 1, none⟩) hR _).setCell (p := ⟨R, 2, none⟩) hR _).setCell (p := ⟨R, 3, none⟩) hR _).setCell (p := ⟨R, 4, none⟩) hR _).setCell (p := ⟨R, 5, none⟩) hR _).setCell (p := ⟨R, 6, none⟩) hR _).setCell (p := ⟨R, 7, none⟩) hR _).setCell (p := ⟨R, 8, none⟩) hR _).setCell (p := ⟨R, 9, none⟩) hR _).setCell (p := ⟨R, 10, none⟩) hR _).setCell (p := ⟨R, 11, none⟩) hR _).setCell (p := ⟨R, 12, none⟩) hR _).setCell (p := ⟨R, 13, none⟩) hR _).setCell (p := ⟨R, 14, none⟩) hR _).setCell (p := ⟨R, 15, none⟩) hR _).setCell (p := ⟨R, 16, none⟩) hR _)
end Go.Proofs.YtpgjkeakhjnckaaDoor
/- Rows of texts as a walk reads them; the pieces of a text are no longer than the text. -/
namespace Go.Proofs.YtpgjkeakhjnckaaDoor
open Go.RowKit
set_option linter.unusedVariables false
set_option maxRecDepth 20000

/-- A row of these texts lies at g. -/
structure StrRow (w : World) (g n c : Nat) (l : List ByteArray) : Prop where
  len : l.length = n
  cap : n ≤ c
  capm : c ≤ maxLen
  lt : g < w.heap.size
  cells : ∀ i, i < n → w.cell? ⟨g, i, none⟩ = some (.string (l.getD i ⟨#[]⟩))
theorem StrRow.below {w w' : World} {g n c : Nat} {l : List ByteArray} (h : StrRow w g n c l) (hb : Below w.heap.size w w') : StrRow w' g n c l :=
  ⟨h.len, h.cap, h.capm, Nat.lt_of_lt_of_le h.lt hb.size, fun i hi => by rw [hb.cell (p := ⟨g, i, none⟩) h.lt]; exact h.cells i hi⟩
theorem StrRow.front {w : World} {g n c : Nat} {l : List ByteArray} (h : StrRow w g n c l) (m : Nat) (hm : m ≤ n) : StrRow w g m c (l.take m) :=
  ⟨by have := h.len; simp; omega, by have := h.cap; omega, h.capm, h.lt, fun i hi => by
    rw [h.cells i (by omega)]
    simp only [List.getD_eq_getElem?_getD, List.getElem?_take, if_pos hi]⟩
theorem own_row {w : World} {B : Nat} {v : Value} {l : List ByteArray} (h : w.ownsRow B 9 1 v l.length (l.map Value.string)) (h0 : 0 < l.length) :
    ∃ g c, v = .slice (some ⟨g, 0, none⟩) l.length c ∧ B ≤ g ∧ StrRow w g l.length c l := by
  have hh := h
  obtain ⟨g, c, rfl, hg1, hg2⟩ := h.form h0
  have hc : l.length ≤ c ∧ c ≤ maxLen := by
    rcases hh.2 with ⟨h1, _⟩ | ⟨g', cap, cur, h1, _, _, h2, h3, _⟩
    · simp at h1
    · simp only [Value.slice.injEq, Option.some.injEq, Addr.mk.injEq, and_true, true_and] at h1
      obtain ⟨rfl, rfl⟩ := h1
      exact ⟨h2, h3⟩
  refine ⟨g, c, rfl, hg1, rfl, hc.1, hc.2, hg2, fun i hi => ?_⟩
  rw [own_cells hh i hi, List.getD_eq_getElem?_getD, List.getElem?_eq_getElem hi]
  rfl

theorem pieces_pos (s : ByteArray) (sep : Nat) : 0 < (pieces s sep).length := by unfold pieces; simp
theorem sp_small (s : ByteArray) (sep : Nat) : ∀ k, ∀ p ∈ (sp s sep k).1, p.size ≤ s.size
  | 0 => by simp [sp]
  | k + 1 => by
    unfold sp
    split
    · intro p hp
      rcases List.mem_append.1 hp with h | h
      · exact sp_small s sep k p h
      · simp at h; subst h; simp; omega
    · exact sp_small s sep k
theorem pieces_small (s : ByteArray) (sep : Nat) : ∀ p ∈ pieces s sep, p.size ≤ s.size := by
  intro p hp
  unfold pieces at hp
  rcases List.mem_append.1 hp with h | h
  · exact sp_small s sep _ p h
  · simp at h; subst h; simp
theorem getD_small {l : List ByteArray} {m : Nat} (h : ∀ p ∈ l, p.size ≤ m) (i : Nat) : (l.getD i ⟨#[]⟩).size ≤ m := by
  rw [List.getD_eq_getElem?_getD]
  cases hi : l[i]? with
  | none => exact Nat.zero_le _
  | some p => exact h p (List.mem_of_getElem? hi)
theorem pieces_len (s : ByteArray) (sep : Nat) : (pieces s sep).length ≤ s.size + 1 := by
  unfold pieces
  have := (sp_le s sep s.size).2
  simp
  omega

/-- What Split hands back, as a row. -/
theorem split_row (s : ByteArray) (sep : Nat) (w : World) (hs : s.size ≤ 1000000) :
    Calls Tryd.prog 70 #[.string s, .int .u8 sep] w fun e w' => ∃ g c, e = .returned (.slice (some ⟨g, 0, none⟩) (pieces s sep).length c) ∧ w.heap.size ≤ g ∧ StrRow w' g (pieces s sep).length c (pieces s sep) ∧ Below w.heap.size w w' := by
  refine (split_any s sep w hs).mono ?_
  rintro e w' ⟨v, rfl, ho, hb⟩
  obtain ⟨g, c, rfl, h1, h2⟩ := own_row ho (pieces_pos s sep)
  exact ⟨g, c, rfl, h1, h2, hb⟩
end Go.Proofs.YtpgjkeakhjnckaaDoor
/- The pieces of a text, read off its bytes: what a text is cut into, whatever it was put together of. -/
namespace Go.Proofs.YtpgjkeakhjnckaaDoor
open Go.RowKit
set_option linter.unusedVariables false
set_option maxRecDepth 20000

/-- Bytes, as a text. -/
def ofL (l : List UInt8) : ByteArray := ⟨l.toArray⟩
theorem ofL_data (l : List UInt8) : (ofL l).data.toList = l := by simp [ofL]
theorem ofL_size (l : List UInt8) : (ofL l).size = l.length := by simp [ofL, ByteArray.size]
theorem ofL_append (l m : List UInt8) : ofL l ++ ofL m = ofL (l ++ m) := bytes_ext (by rw [data_append, ofL_data, ofL_data, ofL_data])
theorem eq_ofL {s : ByteArray} {l : List UInt8} (h : s.data.toList = l) : s = ofL l := bytes_ext (by rw [h, ofL_data])

def cutL (sep : Nat) : List UInt8 → List (List UInt8)
  | [] => [[]]
  | c :: l => if c.toNat = sep then [] :: cutL sep l else
    match cutL sep l with
    | [] => [[c]]
    | x :: r => (c :: x) :: r
theorem cutL_none (sep : Nat) : ∀ l : List UInt8, (∀ c ∈ l, c.toNat ≠ sep) → cutL sep l = [l]
  | [], _ => rfl
  | c :: l, h => by
    rw [cutL, if_neg (h c (by simp)), cutL_none sep l (fun x hx => h x (by simp [hx]))]
theorem cutL_first (sep : Nat) (c : UInt8) (hc : c.toNat = sep) (r : List UInt8) : ∀ l : List UInt8, (∀ c ∈ l, c.toNat ≠ sep) → cutL sep (l ++ c :: r) = l :: cutL sep r
  | [], _ => by rw [List.nil_append, cutL, if_pos hc]
  | x :: l, h => by
    rw [List.cons_append, cutL, if_neg (h x (by simp)), cutL_first sep c hc r l (fun x hx => h x (by simp [hx]))]

theorem sp_cut (s : ByteArray) (sep : Nat) : ∀ k, k ≤ s.size →
    cutL sep s.data.toList = (sp s sep k).1.map (fun p => p.data.toList) ++ cutL sep (s.data.toList.drop (sp s sep k).2) ∧ ∀ j (hj : j < s.size), (sp s sep k).2 ≤ j → j < k → (s[j]).toNat ≠ sep
  | 0, _ => ⟨by simp [sp], fun j _ _ h => by omega⟩
  | k + 1, hk => by
    obtain ⟨h1, h2⟩ := sp_cut s sep k (by omega)
    have hle := sp_le s sep k
    have hkl : k < s.data.toList.length := by simp; omega
    by_cases hit : (s[k]).toNat = sep
    · rw [sp_hit s sep k (by omega) hit]
      refine ⟨?_, fun j _ h3 h4 => by simp at h3; omega⟩
      rw [h1]
      have e : s.data.toList.drop (sp s sep k).2 = (s.extract (sp s sep k).2 k).data.toList ++ s[k] :: s.data.toList.drop (k + 1) := by
        rw [data_extract]
        have e1 : s.data.toList.drop k = s[k] :: s.data.toList.drop (k + 1) := by
          rw [List.drop_eq_getElem_cons hkl]; rfl
        rw [← e1]
        have e2 : s.data.toList.drop k = (s.data.toList.drop (sp s sep k).2).drop (k - (sp s sep k).2) := by
          rw [List.drop_drop]; congr 1; omega
        rw [e2, List.take_append_drop]
      rw [e, cutL_first sep _ hit _ _ ?_]
      · simp
      · intro c hc
        rw [data_extract] at hc
        obtain ⟨i, hi, rfl⟩ := List.getElem_of_mem hc
        have hi2 : i < k - (sp s sep k).2 := by simp at hi; omega
        have := h2 ((sp s sep k).2 + i) (by omega) (by omega) (by omega)
        rw [getElem_data] at this
        simpa using this
    · rw [sp_miss s sep k (by omega) hit]
      refine ⟨h1, fun j hj h3 h4 => ?_⟩
      by_cases hjk : j = k
      · subst hjk; exact hit
      · exact h2 j hj h3 (by omega)
theorem pieces_cut (s : ByteArray) (sep : Nat) : pieces s sep = (cutL sep s.data.toList).map ofL := by
  obtain ⟨h1, h2⟩ := sp_cut s sep s.size (Nat.le_refl _)
  have hle := sp_le s sep s.size
  have e : (s.extract (sp s sep s.size).2 s.size).data.toList = s.data.toList.drop (sp s sep s.size).2 := by
    rw [data_extract]
    apply List.take_of_length_le
    simp
  have h3 : cutL sep (s.data.toList.drop (sp s sep s.size).2) = [s.data.toList.drop (sp s sep s.size).2] := by
    apply cutL_none
    intro c hc
    obtain ⟨i, hi, rfl⟩ := List.getElem_of_mem hc
    have hi2 : (sp s sep s.size).2 + i < s.size := by simp at hi; omega
    have := h2 ((sp s sep s.size).2 + i) hi2 (by omega) hi2
    rw [getElem_data] at this
    simpa using this
  rw [h1, h3, List.map_append, List.map_map]
  unfold pieces
  have e2 : (ofL ∘ fun p : ByteArray => p.data.toList) = id := by
    funext p
    simp [ofL]
  rw [e2, List.map_id]
  congr 1
  simp only [List.map_cons, List.map_nil]
  rw [← e, ← eq_ofL rfl]
theorem pieces_ofL (l : List UInt8) (sep : Nat) : pieces (ofL l) sep = (cutL sep l).map ofL := by rw [pieces_cut, ofL_data]
end Go.Proofs.YtpgjkeakhjnckaaDoor
/- Contracts of text.digit and text.Number: the number of a text's digits. -/
namespace Go.Proofs.YtpgjkeakhjnckaaDoor
open Go.RowKit
set_option linter.unusedVariables false
set_option maxRecDepth 20000

/-- A digit's number; 16: it is none. -/
def digC (c : Nat) : Nat := if 48 ≤ c ∧ c ≤ 57 then c - 48 else if 97 ≤ c ∧ c ≤ 102 then c - 87 else if 65 ≤ c ∧ c ≤ 70 then c - 55 else 16
theorem digC_le (c : Nat) : digC c ≤ 16 := by unfold digC; split; · omega
                                              split; · omega
                                              split <;> omega
/-- The byte at a place, or 0. -/
def byteOf (s : ByteArray) (k : Nat) : Nat := (s.data.toList.getD k 0).toNat
theorem byteOf_eq (s : ByteArray) (k : Nat) (h : k < s.size) : byteOf s k = (s[k]).toNat := by
  unfold byteOf
  rw [List.getD_eq_getElem?_getD, List.getElem?_eq_getElem (by simpa using h)]; rfl
def most : Nat := 1099511627776
/-- The number of the first k digits, if there is one. -/
def numTo (s : ByteArray) (b : Nat) : Nat → Option Nat
  | 0 => some 0
  | k + 1 => match numTo s b k with
    | none => none
    | some n => if b ≤ digC (byteOf s k) then none else if most < n * b + digC (byteOf s k) then none else some (n * b + digC (byteOf s k))
def numB (s : ByteArray) (b : Nat) : Option Nat := if s.size = 0 then none else numTo s b s.size
theorem numTo_none (s : ByteArray) (b k : Nat) (h : numTo s b k = none) : ∀ m, numTo s b (k + m) = none
  | 0 => h
  | m + 1 => by rw [← Nat.add_assoc, numTo, numTo_none s b k h m]
theorem numTo_le (s : ByteArray) (b : Nat) : ∀ k n, numTo s b k = some n → n ≤ most
  | 0, n, h => by simp [numTo] at h; omega
  | k + 1, n, h => by
    rw [numTo] at h
    cases hk : numTo s b k with
    | none => rw [hk] at h; cases h
    | some m =>
      rw [hk] at h
      simp only at h
      split at h
      · cases h
      · split at h
        · cases h
        · have := Option.some.inj h; omega
theorem numTo_step {s : ByteArray} {b k n : Nat} (h : numTo s b k = some n) (hk : k < s.size) :
    numTo s b (k + 1) = if b ≤ digC (s[k]).toNat then none else if most < n * b + digC (s[k]).toNat then none else some (n * b + digC (s[k]).toNat) := by
  rw [numTo, h, byteOf_eq s k hk]
theorem numB_dead {s : ByteArray} {b k : Nat} (hk : k < s.size) (h : numTo s b (k + 1) = none) : numB s b = none := by
  unfold numB
  rw [if_neg (by omega)]
  have := numTo_none s b (k + 1) h (s.size - (k + 1))
  rwa [show k + 1 + (s.size - (k + 1)) = s.size by omega] at this
/-- What Number answers. -/
def numRet (o : Option Nat) : Value := .tuple #[.int .i64 ((o.getD 0 : Nat) : Int), .bool o.isSome]

set_option maxHeartbeats 1000000 in
theorem digit_any (c : Nat) (w : World) (hc : c < 256) :
    Calls Tryd.prog 77 #[.int .u8 (c : Int)] w fun e w' => e = .returned (.int .i64 ((digC c : Nat) : Int)) ∧ w = w' := by
  have hparts : c < 48 ∨ (48 ≤ c ∧ c ≤ 57) ∨ (58 ≤ c ∧ c < 65) ∨ (65 ≤ c ∧ c ≤ 70) ∨ (71 ≤ c ∧ c < 97) ∨ (97 ≤ c ∧ c ≤ 102) ∨ 103 ≤ c := by omega
  rcases hparts with h | h | h | h | h | h | h
  · have e : digC c = 16 := by unfold digC; rw [if_neg (by omega), if_neg (by omega), if_neg (by omega)]
    rw [e]
    go_enter Tryd.func77, Tryd.ntmps77
    go_wp2
    go_ret
    exact ⟨rfl, rfl⟩
  · have e : digC c = c - 48 := by unfold digC; rw [if_pos (by omega)]
    have e1 : IntKind.u8.wrap ((c : Int) - 48) = (c : Int) - 48 := by rw [IntKind.wrap_u8]; omega
    have e2 : (((c - 48 : Nat)) : Int) = (c : Int) - 48 := by omega
    rw [e, e2]
    clear e e2
    go_enter Tryd.func77, Tryd.ntmps77
    go_wp2
    go_ret
    exact ⟨rfl, rfl⟩
  · have e : digC c = 16 := by unfold digC; rw [if_neg (by omega), if_neg (by omega), if_neg (by omega)]
    rw [e]
    go_enter Tryd.func77, Tryd.ntmps77
    go_wp2
    go_ret
    exact ⟨rfl, rfl⟩
  · have e : digC c = c - 55 := by unfold digC; rw [if_neg (by omega), if_neg (by omega), if_pos (by omega)]
    have e1 : IntKind.u8.wrap ((c : Int) - 65) = (c : Int) - 65 := by rw [IntKind.wrap_u8]; omega
    have e2 : (((c - 55 : Nat)) : Int) = (c : Int) - 65 + 10 := by omega
    rw [e, e2]
    clear e e2
    go_enter Tryd.func77, Tryd.ntmps77
    go_wp2
    go_ret
    exact ⟨rfl, rfl⟩
  · have e : digC c = 16 := by unfold digC; rw [if_neg (by omega), if_neg (by omega), if_neg (by omega)]
    rw [e]
    go_enter Tryd.func77, Tryd.ntmps77
    go_wp2
    go_ret
    exact ⟨rfl, rfl⟩
  · have e : digC c = c - 87 := by unfold digC; rw [if_neg (by omega), if_pos (by omega)]
    have e1 : IntKind.u8.wrap ((c : Int) - 97) = (c : Int) - 97 := by rw [IntKind.wrap_u8]; omega
    have e2 : (((c - 87 : Nat)) : Int) = (c : Int) - 97 + 10 := by omega
    rw [e, e2]
    clear e e2
    go_enter Tryd.func77, Tryd.ntmps77
    go_wp2
    go_ret
    exact ⟨rfl, rfl⟩
  · have e : digC c = 16 := by unfold digC; rw [if_neg (by omega), if_neg (by omega), if_neg (by omega)]
    rw [e]
    go_enter Tryd.func77, Tryd.ntmps77
    go_wp2
    go_ret
    exact ⟨rfl, rfl⟩

theorem num_ret {o p : Option Nat} (h : o = p) : Ending.returned (numRet o) = .returned (numRet p) := by rw [h]

set_option maxHeartbeats 2000000 in
theorem number_8 (s : ByteArray) (w : World) (hs : s.size ≤ 1000000) :
    Calls Tryd.prog 55 #[.string s, .int .i64 8] w fun e w' => e = .returned (numRet (numB s 8)) ∧ w = w' := by
  by_cases h0 : s.size = 0
  · have e : numB s 8 = none := by unfold numB; rw [if_pos h0]
    have he := isEmpty_true s h0
    rw [e]
    clear e
    go_enter Tryd.func55, Tryd.ntmps55
    go_wp2
    go_ret2
    exact ⟨rfl, rfl⟩
  · have he := isEmpty_false s (by omega)
    have HN : Hid (numB s 8 = numTo s 8 s.size) := by unfold numB; rw [if_neg h0]; exact Lib.hid rfl
    go_enter Tryd.func55, Tryd.ntmps55
    go_wp2
    go_loop [6, 25] (fun t i => ∃ k n : Nat, k ≤ s.size ∧ i = .int .i64 k ∧ t = .int .i64 (n : Int) ∧ Hid (numTo s 8 k = some n)) (fun _ i => s.size - (intOf i).toNat)
    case atStart => exact ⟨0, 0, Nat.zero_le _, rfl, rfl, Lib.hid rfl⟩
    case round =>
      obtain ⟨k, n, hk, rfl, rfl, HK⟩ := hrel
      have hn : n ≤ 1099511627776 := numTo_le s 8 k n HK.out
      by_cases hlt : k < s.size
      · have u1 : (s[k]).toNat < 256 := (s[k]).toNat_lt
        have HS := Lib.hid (numTo_step HK.out hlt)
        have hd := digC_le (s[k]).toNat
        go_wp2_with fail
        refine (digit_any _ _ u1).mono ?_
        rintro e w' ⟨rfl, rfl⟩
        generalize digC (s[k]).toNat = d at *
        by_cases h1 : 8 ≤ d
        · go_wp2
          go_ret2
          exact ⟨num_ret (numB_dead hlt (by rw [HS.out, if_pos h1])).symm, rfl⟩
        · by_cases h2 : 1099511627776 < n * 8 + d
          · go_wp2
            go_ret2
            exact ⟨num_ret (numB_dead hlt (by rw [HS.out, if_neg h1, if_pos (by exact h2)])).symm, rfl⟩
          · go_wp2
            go_round
            case rel => exact ⟨k + 1, n * 8 + d, by omega, by go_num, by go_num, Lib.hid (by rw [HS.out, if_neg h1, if_neg (by exact h2)])⟩
            case measure => simp [intOf]; omega
      · obtain rfl : k = s.size := by omega
        go_wp2
        go_ret2
        exact ⟨num_ret (o := some n) (by rw [HN.out, HK.out]), rfl⟩

set_option maxHeartbeats 2000000 in
theorem number_10 (s : ByteArray) (w : World) (hs : s.size ≤ 1000000) :
    Calls Tryd.prog 55 #[.string s, .int .i64 10] w fun e w' => e = .returned (numRet (numB s 10)) ∧ w = w' := by
  by_cases h0 : s.size = 0
  · have e : numB s 10 = none := by unfold numB; rw [if_pos h0]
    have he := isEmpty_true s h0
    rw [e]
    clear e
    go_enter Tryd.func55, Tryd.ntmps55
    go_wp2
    go_ret2
    exact ⟨rfl, rfl⟩
  · have he := isEmpty_false s (by omega)
    have HN : Hid (numB s 10 = numTo s 10 s.size) := by unfold numB; rw [if_neg h0]; exact Lib.hid rfl
    go_enter Tryd.func55, Tryd.ntmps55
    go_wp2
    go_loop [6, 25] (fun t i => ∃ k n : Nat, k ≤ s.size ∧ i = .int .i64 k ∧ t = .int .i64 (n : Int) ∧ Hid (numTo s 10 k = some n)) (fun _ i => s.size - (intOf i).toNat)
    case atStart => exact ⟨0, 0, Nat.zero_le _, rfl, rfl, Lib.hid rfl⟩
    case round =>
      obtain ⟨k, n, hk, rfl, rfl, HK⟩ := hrel
      have hn : n ≤ 1099511627776 := numTo_le s 10 k n HK.out
      by_cases hlt : k < s.size
      · have u1 : (s[k]).toNat < 256 := (s[k]).toNat_lt
        have HS := Lib.hid (numTo_step HK.out hlt)
        have hd := digC_le (s[k]).toNat
        go_wp2_with fail
        refine (digit_any _ _ u1).mono ?_
        rintro e w' ⟨rfl, rfl⟩
        generalize digC (s[k]).toNat = d at *
        by_cases h1 : 10 ≤ d
        · go_wp2
          go_ret2
          exact ⟨num_ret (numB_dead hlt (by rw [HS.out, if_pos h1])).symm, rfl⟩
        · by_cases h2 : 1099511627776 < n * 10 + d
          · go_wp2
            go_ret2
            exact ⟨num_ret (numB_dead hlt (by rw [HS.out, if_neg h1, if_pos (by exact h2)])).symm, rfl⟩
          · go_wp2
            go_round
            case rel => exact ⟨k + 1, n * 10 + d, by omega, by go_num, by go_num, Lib.hid (by rw [HS.out, if_neg h1, if_neg (by exact h2)])⟩
            case measure => simp [intOf]; omega
      · obtain rfl : k = s.size := by omega
        go_wp2
        go_ret2
        exact ⟨num_ret (o := some n) (by rw [HN.out, HK.out]), rfl⟩

set_option maxHeartbeats 2000000 in
theorem number_16 (s : ByteArray) (w : World) (hs : s.size ≤ 1000000) :
    Calls Tryd.prog 55 #[.string s, .int .i64 16] w fun e w' => e = .returned (numRet (numB s 16)) ∧ w = w' := by
  by_cases h0 : s.size = 0
  · have e : numB s 16 = none := by unfold numB; rw [if_pos h0]
    have he := isEmpty_true s h0
    rw [e]
    clear e
    go_enter Tryd.func55, Tryd.ntmps55
    go_wp2
    go_ret2
    exact ⟨rfl, rfl⟩
  · have he := isEmpty_false s (by omega)
    have HN : Hid (numB s 16 = numTo s 16 s.size) := by unfold numB; rw [if_neg h0]; exact Lib.hid rfl
    go_enter Tryd.func55, Tryd.ntmps55
    go_wp2
    go_loop [6, 25] (fun t i => ∃ k n : Nat, k ≤ s.size ∧ i = .int .i64 k ∧ t = .int .i64 (n : Int) ∧ Hid (numTo s 16 k = some n)) (fun _ i => s.size - (intOf i).toNat)
    case atStart => exact ⟨0, 0, Nat.zero_le _, rfl, rfl, Lib.hid rfl⟩
    case round =>
      obtain ⟨k, n, hk, rfl, rfl, HK⟩ := hrel
      have hn : n ≤ 1099511627776 := numTo_le s 16 k n HK.out
      by_cases hlt : k < s.size
      · have u1 : (s[k]).toNat < 256 := (s[k]).toNat_lt
        have HS := Lib.hid (numTo_step HK.out hlt)
        have hd := digC_le (s[k]).toNat
        go_wp2_with fail
        refine (digit_any _ _ u1).mono ?_
        rintro e w' ⟨rfl, rfl⟩
        generalize digC (s[k]).toNat = d at *
        by_cases h1 : 16 ≤ d
        · go_wp2
          go_ret2
          exact ⟨num_ret (numB_dead hlt (by rw [HS.out, if_pos h1])).symm, rfl⟩
        · by_cases h2 : 1099511627776 < n * 16 + d
          · go_wp2
            go_ret2
            exact ⟨num_ret (numB_dead hlt (by rw [HS.out, if_neg h1, if_pos (by exact h2)])).symm, rfl⟩
          · go_wp2
            go_round
            case rel => exact ⟨k + 1, n * 16 + d, by omega, by go_num, by go_num, Lib.hid (by rw [HS.out, if_neg h1, if_neg (by exact h2)])⟩
            case measure => simp [intOf]; omega
      · obtain rfl : k = s.size := by omega
        go_wp2
        go_ret2
        exact ⟨num_ret (o := some n) (by rw [HN.out, HK.out]), rfl⟩

theorem number_any (s : ByteArray) (b : Nat) (w : World) (hs : s.size ≤ 1000000) (hb : b = 8 ∨ b = 10 ∨ b = 16) :
    Calls Tryd.prog 55 #[.string s, .int .i64 (b : Int)] w fun e w' => e = .returned (numRet (numB s b)) ∧ w = w' := by
  rcases hb with rfl | rfl | rfl
  · exact number_8 s w hs
  · exact number_10 s w hs
  · exact number_16 s w hs
end Go.Proofs.YtpgjkeakhjnckaaDoor
/- Contracts of the reference's digit, Number and Decimal: a number's decimal digits, and how they are read back. -/
namespace Go.Proofs.YtpgjkeakhjnckaaDoor
open Go.RowKit
set_option linter.unusedVariables false
set_option maxRecDepth 20000

/-- A digit's number as the reference tells it; -1: it is none. -/
def digI (c : Nat) : Int := if digC c < 16 then (digC c : Int) else -1

set_option maxHeartbeats 1000000 in
theorem refDigit_any (c : Nat) (w : World) (hc : c < 256) :
    Calls Tryd.prog 59 #[.int .u8 (c : Int)] w fun e w' => e = .returned (.int .i64 (digI c)) ∧ w = w' := by
  have hparts : c < 48 ∨ (48 ≤ c ∧ c ≤ 57) ∨ (58 ≤ c ∧ c < 65) ∨ (65 ≤ c ∧ c ≤ 70) ∨ (71 ≤ c ∧ c < 97) ∨ (97 ≤ c ∧ c ≤ 102) ∨ 103 ≤ c := by omega
  rcases hparts with h | h | h | h | h | h | h
  · have e : digI c = -1 := by unfold digI digC; rw [if_neg (by omega : ¬ (48 ≤ c ∧ c ≤ 57)), if_neg (by omega : ¬ (97 ≤ c ∧ c ≤ 102)), if_neg (by omega : ¬ (65 ≤ c ∧ c ≤ 70))]; rfl
    rw [e]
    go_enter Tryd.func59, Tryd.ntmps59
    go_wp2
    go_ret
    exact ⟨rfl, rfl⟩
  · have e : digI c = (c : Int) - 48 := by unfold digI digC; rw [if_pos (by omega : (48 ≤ c ∧ c ≤ 57)), if_pos (by omega)]; omega
    rw [e]
    clear e
    go_enter Tryd.func59, Tryd.ntmps59
    go_wp2
    go_ret
    exact ⟨rfl, rfl⟩
  · have e : digI c = -1 := by unfold digI digC; rw [if_neg (by omega : ¬ (48 ≤ c ∧ c ≤ 57)), if_neg (by omega : ¬ (97 ≤ c ∧ c ≤ 102)), if_neg (by omega : ¬ (65 ≤ c ∧ c ≤ 70))]; rfl
    rw [e]
    go_enter Tryd.func59, Tryd.ntmps59
    go_wp2
    go_ret
    exact ⟨rfl, rfl⟩
  · have e : digI c = (c : Int) - 55 := by unfold digI digC; rw [if_neg (by omega : ¬ (48 ≤ c ∧ c ≤ 57)), if_neg (by omega : ¬ (97 ≤ c ∧ c ≤ 102)), if_pos (by omega : (65 ≤ c ∧ c ≤ 70)), if_pos (by omega)]; omega
    rw [e]
    clear e
    go_enter Tryd.func59, Tryd.ntmps59
    go_wp2
    go_ret
    exact ⟨rfl, rfl⟩
  · have e : digI c = -1 := by unfold digI digC; rw [if_neg (by omega : ¬ (48 ≤ c ∧ c ≤ 57)), if_neg (by omega : ¬ (97 ≤ c ∧ c ≤ 102)), if_neg (by omega : ¬ (65 ≤ c ∧ c ≤ 70))]; rfl
    rw [e]
    go_enter Tryd.func59, Tryd.ntmps59
    go_wp2
    go_ret
    exact ⟨rfl, rfl⟩
  · have e : digI c = (c : Int) - 87 := by unfold digI digC; rw [if_neg (by omega : ¬ (48 ≤ c ∧ c ≤ 57)), if_pos (by omega : (97 ≤ c ∧ c ≤ 102)), if_pos (by omega)]; omega
    rw [e]
    clear e
    go_enter Tryd.func59, Tryd.ntmps59
    go_wp2
    go_ret
    exact ⟨rfl, rfl⟩
  · have e : digI c = -1 := by unfold digI digC; rw [if_neg (by omega : ¬ (48 ≤ c ∧ c ≤ 57)), if_neg (by omega : ¬ (97 ≤ c ∧ c ≤ 102)), if_neg (by omega : ¬ (65 ≤ c ∧ c ≤ 70))]; rfl
    rw [e]
    go_enter Tryd.func59, Tryd.ntmps59
    go_wp2
    go_ret
    exact ⟨rfl, rfl⟩

set_option maxHeartbeats 2000000 in
theorem refNumber_8 (s : ByteArray) (w : World) (hs : s.size ≤ 1000000) :
    Calls Tryd.prog 43 #[.string s, .int .i64 8] w fun e w' => e = .returned (numRet (numB s 8)) ∧ w = w' := by
  have HN : Hid (s.size = 0 ∨ numB s 8 = numTo s 8 s.size) := by
    by_cases h0 : s.size = 0
    · exact Lib.hid (.inl h0)
    · exact Lib.hid (.inr (by unfold numB; rw [if_neg h0]))
  go_enter Tryd.func43, Tryd.ntmps43
  go_wp2
  go_loop [6, 7] (fun t i => ∃ k n : Nat, k ≤ s.size ∧ i = .int .i64 k ∧ t = .int .i64 (n : Int) ∧ Hid (numTo s 8 k = some n)) (fun _ i => s.size - (intOf i).toNat)
  case atStart => exact ⟨0, 0, Nat.zero_le _, rfl, rfl, Lib.hid rfl⟩
  case round =>
    obtain ⟨k, n, hk, rfl, rfl, HK⟩ := hrel
    have hn : n ≤ 1099511627776 := numTo_le s 8 k n HK.out
    by_cases hlt : k < s.size
    · have u1 : (s[k]).toNat < 256 := (s[k]).toNat_lt
      have HS := Lib.hid (numTo_step HK.out hlt)
      have hd := digC_le (s[k]).toNat
      go_wp2_with fail
      refine (refDigit_any _ _ u1).mono ?_
      rintro e w' ⟨rfl, rfl⟩
      unfold digI
      generalize digC (s[k]).toNat = d at *
      by_cases h16 : d < 16
      · rw [if_pos h16]
        by_cases h1 : 8 ≤ d
        · go_wp2
          go_ret2
          exact ⟨num_ret (numB_dead hlt (by rw [HS.out, if_pos h1])).symm, rfl⟩
        · by_cases h2 : 1099511627776 < n * 8 + d
          · go_wp2
            go_ret2
            exact ⟨num_ret (numB_dead hlt (by rw [HS.out, if_neg h1, if_pos (by exact h2)])).symm, rfl⟩
          · go_wp2
            go_round
            case rel => exact ⟨k + 1, n * 8 + d, by omega, by go_num, by go_num, Lib.hid (by rw [HS.out, if_neg h1, if_neg (by exact h2)])⟩
            case measure => simp [intOf]; omega
      · rw [if_neg h16]
        go_wp2
        go_ret2
        exact ⟨num_ret (numB_dead hlt (by rw [HS.out, if_pos (by omega)])).symm, rfl⟩
    · obtain rfl : k = s.size := by omega
      by_cases h0 : s.size = 0
      · have hz : numB s 8 = none := by unfold numB; rw [if_pos h0]
        have hk0 := HK.out
        rw [h0] at hk0
        have hn0 : n = 0 := by
          have : numTo s 8 0 = some 0 := rfl
          rw [this] at hk0
          exact (Option.some.inj hk0).symm
        subst hn0
        have HZ := Lib.hid hz
        clear hz hk0
        go_wp2
        go_ret2
        exact ⟨num_ret (o := none) HZ.out.symm, rfl⟩
      · have h1 : 0 < s.size := by omega
        have HE : Hid (numB s 8 = some n) := by
          rcases HN.out with h | h
          · exact absurd h h0
          · exact Lib.hid (h.trans HK.out)
        clear h0
        go_wp2
        go_ret2
        exact ⟨num_ret (o := some n) HE.out.symm, rfl⟩

set_option maxHeartbeats 2000000 in
theorem refNumber_10 (s : ByteArray) (w : World) (hs : s.size ≤ 1000000) :
    Calls Tryd.prog 43 #[.string s, .int .i64 10] w fun e w' => e = .returned (numRet (numB s 10)) ∧ w = w' := by
  have HN : Hid (s.size = 0 ∨ numB s 10 = numTo s 10 s.size) := by
    by_cases h0 : s.size = 0
    · exact Lib.hid (.inl h0)
    · exact Lib.hid (.inr (by unfold numB; rw [if_neg h0]))
  go_enter Tryd.func43, Tryd.ntmps43
  go_wp2
  go_loop [6, 7] (fun t i => ∃ k n : Nat, k ≤ s.size ∧ i = .int .i64 k ∧ t = .int .i64 (n : Int) ∧ Hid (numTo s 10 k = some n)) (fun _ i => s.size - (intOf i).toNat)
  case atStart => exact ⟨0, 0, Nat.zero_le _, rfl, rfl, Lib.hid rfl⟩
  case round =>
    obtain ⟨k, n, hk, rfl, rfl, HK⟩ := hrel
    have hn : n ≤ 1099511627776 := numTo_le s 10 k n HK.out
    by_cases hlt : k < s.size
    · have u1 : (s[k]).toNat < 256 := (s[k]).toNat_lt
      have HS := Lib.hid (numTo_step HK.out hlt)
      have hd := digC_le (s[k]).toNat
      go_wp2_with fail
      refine (refDigit_any _ _ u1).mono ?_
      rintro e w' ⟨rfl, rfl⟩
      unfold digI
      generalize digC (s[k]).toNat = d at *
      by_cases h16 : d < 16
      · rw [if_pos h16]
        by_cases h1 : 10 ≤ d
        · go_wp2
          go_ret2
          exact ⟨num_ret (numB_dead hlt (by rw [HS.out, if_pos h1])).symm, rfl⟩
        · by_cases h2 : 1099511627776 < n * 10 + d
          · go_wp2
            go_ret2
            exact ⟨num_ret (numB_dead hlt (by rw [HS.out, if_neg h1, if_pos (by exact h2)])).symm, rfl⟩
          · go_wp2
            go_round
            case rel => exact ⟨k + 1, n * 10 + d, by omega, by go_num, by go_num, Lib.hid (by rw [HS.out, if_neg h1, if_neg (by exact h2)])⟩
            case measure => simp [intOf]; omega
      · rw [if_neg h16]
        go_wp2
        go_ret2
        exact ⟨num_ret (numB_dead hlt (by rw [HS.out, if_pos (by omega)])).symm, rfl⟩
    · obtain rfl : k = s.size := by omega
      by_cases h0 : s.size = 0
      · have hz : numB s 10 = none := by unfold numB; rw [if_pos h0]
        have hk0 := HK.out
        rw [h0] at hk0
        have hn0 : n = 0 := by
          have : numTo s 10 0 = some 0 := rfl
          rw [this] at hk0
          exact (Option.some.inj hk0).symm
        subst hn0
        have HZ := Lib.hid hz
        clear hz hk0
        go_wp2
        go_ret2
        exact ⟨num_ret (o := none) HZ.out.symm, rfl⟩
      · have h1 : 0 < s.size := by omega
        have HE : Hid (numB s 10 = some n) := by
          rcases HN.out with h | h
          · exact absurd h h0
          · exact Lib.hid (h.trans HK.out)
        clear h0
        go_wp2
        go_ret2
        exact ⟨num_ret (o := some n) HE.out.symm, rfl⟩

set_option maxHeartbeats 2000000 in
theorem refNumber_16 (s : ByteArray) (w : World) (hs : s.size ≤ 1000000) :
    Calls Tryd.prog 43 #[.string s, .int .i64 16] w fun e w' => e = .returned (numRet (numB s 16)) ∧ w = w' := by
  have HN : Hid (s.size = 0 ∨ numB s 16 = numTo s 16 s.size) := by
    by_cases h0 : s.size = 0
    · exact Lib.hid (.inl h0)
    · exact Lib.hid (.inr (by unfold numB; rw [if_neg h0]))
  go_enter Tryd.func43, Tryd.ntmps43
  go_wp2
  go_loop [6, 7] (fun t i => ∃ k n : Nat, k ≤ s.size ∧ i = .int .i64 k ∧ t = .int .i64 (n : Int) ∧ Hid (numTo s 16 k = some n)) (fun _ i => s.size - (intOf i).toNat)
  case atStart => exact ⟨0, 0, Nat.zero_le _, rfl, rfl, Lib.hid rfl⟩
  case round =>
    obtain ⟨k, n, hk, rfl, rfl, HK⟩ := hrel
    have hn : n ≤ 1099511627776 := numTo_le s 16 k n HK.out
    by_cases hlt : k < s.size
    · have u1 : (s[k]).toNat < 256 := (s[k]).toNat_lt
      have HS := Lib.hid (numTo_step HK.out hlt)
      have hd := digC_le (s[k]).toNat
      go_wp2_with fail
      refine (refDigit_any _ _ u1).mono ?_
      rintro e w' ⟨rfl, rfl⟩
      unfold digI
      generalize digC (s[k]).toNat = d at *
      by_cases h16 : d < 16
      · rw [if_pos h16]
        by_cases h1 : 16 ≤ d
        · exfalso; omega
        · by_cases h2 : 1099511627776 < n * 16 + d
          · go_wp2
            go_ret2
            exact ⟨num_ret (numB_dead hlt (by rw [HS.out, if_neg h1, if_pos (by exact h2)])).symm, rfl⟩
          · go_wp2
            go_round
            case rel => exact ⟨k + 1, n * 16 + d, by omega, by go_num, by go_num, Lib.hid (by rw [HS.out, if_neg h1, if_neg (by exact h2)])⟩
            case measure => simp [intOf]; omega
      · rw [if_neg h16]
        go_wp2
        go_ret2
        exact ⟨num_ret (numB_dead hlt (by rw [HS.out, if_pos (by omega)])).symm, rfl⟩
    · obtain rfl : k = s.size := by omega
      by_cases h0 : s.size = 0
      · have hz : numB s 16 = none := by unfold numB; rw [if_pos h0]
        have hk0 := HK.out
        rw [h0] at hk0
        have hn0 : n = 0 := by
          have : numTo s 16 0 = some 0 := rfl
          rw [this] at hk0
          exact (Option.some.inj hk0).symm
        subst hn0
        have HZ := Lib.hid hz
        clear hz hk0
        go_wp2
        go_ret2
        exact ⟨num_ret (o := none) HZ.out.symm, rfl⟩
      · have h1 : 0 < s.size := by omega
        have HE : Hid (numB s 16 = some n) := by
          rcases HN.out with h | h
          · exact absurd h h0
          · exact Lib.hid (h.trans HK.out)
        clear h0
        go_wp2
        go_ret2
        exact ⟨num_ret (o := some n) HE.out.symm, rfl⟩

theorem refNumber_any (s : ByteArray) (b : Nat) (w : World) (hs : s.size ≤ 1000000) (hb : b = 8 ∨ b = 10 ∨ b = 16) :
    Calls Tryd.prog 43 #[.string s, .int .i64 (b : Int)] w fun e w' => e = .returned (numRet (numB s b)) ∧ w = w' := by
  rcases hb with rfl | rfl | rfl
  · exact refNumber_8 s w hs
  · exact refNumber_10 s w hs
  · exact refNumber_16 s w hs

/-- Texts of lists of bytes, one behind the other. -/
theorem mk_append (l m : List UInt8) : (⟨l.toArray⟩ : ByteArray) ++ ⟨m.toArray⟩ = ⟨(l ++ m).toArray⟩ := by
  apply bytes_ext
  rw [data_append]
theorem dec_length (u : Nat) (h : u ≤ 9223372036854775807) : (Lib.decDigits u).length ≤ 21 := by
  have := Lib.itoa_length_le (u : Int) (by omega) (by omega)
  unfold Lib.itoa at this
  rw [if_neg (by omega)] at this
  simpa using this

set_option maxHeartbeats 1000000 in
theorem refDecimal_nat (u : Nat) : ∀ (w : World), u ≤ 9223372036854775807 →
    Calls Tryd.prog 47 #[.int .i64 (u : Int)] w fun e w' => e = .returned (.string ⟨(Lib.decDigits u).toArray⟩) ∧ Below w.heap.size w w' := by
  induction u using Nat.strongRecOn with
  | _ u ih =>
    intro w hu
    have hone := one_byte (48 + u % 10) (by omega) w
    have e48 : ((48 + u % 10 : Nat) : Int) = 48 + (u : Int) % 10 := by omega
    rw [e48] at hone
    clear e48
    by_cases h10 : u < 10
    · have e : Lib.decDigits u = [UInt8.ofNat (48 + u % 10)] := by rw [Lib.decDigits, dif_pos h10, Nat.mod_eq_of_lt h10]
      rw [e]
      clear e ih
      generalize UInt8.ofNat (48 + u % 10) = c at hone ⊢
      go_enter Tryd.func47, Tryd.ntmps47
      go_wp2_with fail
      go_ret
      exact ⟨rfl, (Below.refl _ _).alloc (Nat.le_refl _) _⟩
    · have e : Lib.decDigits u = Lib.decDigits (u / 10) ++ [UInt8.ofNat (48 + u % 10)] := by rw [Lib.decDigits, dif_neg h10]
      have hlen := dec_length (u / 10) (by omega)
      have e10 : ((u / 10 : Nat) : Int) = (u : Int) / 10 := by omega
      have HI : Hid (∀ w, Calls Tryd.prog 47 #[.int .i64 ((u : Int) / 10)] w fun e w' => e = .returned (.string ⟨(Lib.decDigits (u / 10)).toArray⟩) ∧ Below w.heap.size w w') := by
        refine Lib.hid fun w => ?_
        have := ih (u / 10) (by omega) w (by omega)
        rw [e10] at this
        exact this
      rw [e, ← mk_append]
      clear e ih e10
      have hsz : (⟨(Lib.decDigits (u / 10)).toArray⟩ : ByteArray).size ≤ 21 := hlen
      generalize (⟨(Lib.decDigits (u / 10)).toArray⟩ : ByteArray) = t at *
      generalize UInt8.ofNat (48 + u % 10) = c at hone ⊢
      go_enter Tryd.func47, Tryd.ntmps47
      go_wp2_with fail
      refine (HI.out _).mono ?_
      rintro e w1 ⟨rfl, hb1⟩
      go_wp2_with fail
      go_ret
      exact ⟨rfl, ((Below.refl _ _).alloc (Nat.le_refl _) _).trans (hb1.mono (by simp))⟩

theorem itoa_min : (Lib.itoa (-9223372036854775808)) = [45, 57, 50, 50, 51, 51, 55, 50, 48, 51, 54, 56, 53, 52, 55, 55, 53, 56, 48, 56] := by
  unfold Lib.itoa
  rw [if_pos (by decide)]
  simp [Lib.decDigits]

set_option maxHeartbeats 1000000 in
theorem refDecimal_any (n : Int) (w : World) (h0 : -9223372036854775808 ≤ n) (h1 : n ≤ 9223372036854775807) :
    Calls Tryd.prog 47 #[.int .i64 n] w fun e w' => e = .returned (.string ⟨(Lib.itoa n).toArray⟩) ∧ Below w.heap.size w w' := by
  by_cases hn : 0 ≤ n
  · obtain ⟨u, rfl⟩ : ∃ u : Nat, n = (u : Int) := ⟨n.toNat, by omega⟩
    have e : Lib.itoa (u : Int) = Lib.decDigits u := by unfold Lib.itoa; rw [if_neg (by omega)]; rfl
    rw [e]
    exact refDecimal_nat u w (by omega)
  · by_cases hm : n < -9223372036854775807
    · obtain rfl : n = -9223372036854775808 := by omega
      rw [itoa_min]
      go_enter Tryd.func47, Tryd.ntmps47
      go_wp2_with fail
      go_ret
      exact ⟨rfl, Below.refl _ _⟩
    · obtain ⟨u, hu⟩ : ∃ u : Nat, -n = (u : Int) := ⟨(-n).toNat, by omega⟩
      have e : Lib.itoa n = [45] ++ Lib.decDigits u := by
        unfold Lib.itoa
        rw [if_pos (by omega), show n.natAbs = u by omega]
        rfl
      have hlen := dec_length u (by omega)
      rw [e, ← mk_append]
      have HI : Hid (∀ w, Calls Tryd.prog 47 #[.int .i64 (-n)] w fun e w' => e = .returned (.string ⟨(Lib.decDigits u).toArray⟩) ∧ Below w.heap.size w w') := by
        refine Lib.hid fun w => ?_
        rw [hu]
        exact refDecimal_nat u w (by omega)
      clear e hu
      have hsz : (⟨(Lib.decDigits u).toArray⟩ : ByteArray).size ≤ 21 := hlen
      generalize (⟨(Lib.decDigits u).toArray⟩ : ByteArray) = t at *
      go_enter Tryd.func47, Tryd.ntmps47
      go_wp2_with fail
      refine (HI.out _).mono ?_
      rintro e w1 ⟨rfl, hb1⟩
      go_wp2_with fail
      go_ret
      exact ⟨rfl, hb1⟩

theorem byteOf_left (s X : ByteArray) (k : Nat) (h : k < s.size) : byteOf (s ++ X) k = byteOf s k := by
  unfold byteOf
  rw [data_append]
  simp only [List.getD_eq_getElem?_getD]
  rw [List.getElem?_append_left (by simpa using h)]
theorem numTo_left (s X : ByteArray) (b : Nat) : ∀ k, k ≤ s.size → numTo (s ++ X) b k = numTo s b k
  | 0, _ => rfl
  | k + 1, h => by rw [numTo, numTo, numTo_left s X b k (by omega), byteOf_left s X k (by omega)]
theorem digC_dec (d : Nat) (h : d < 10) : digC (UInt8.ofNat (48 + d)).toNat = d := by
  rw [UInt8.toNat_ofNat', Nat.mod_eq_of_lt (by omega)]
  unfold digC
  rw [if_pos (by omega)]
  omega
/-- The digits of a number, from 0 on, are read as the number, if it is not too great. -/
theorem dec_numTo (u : Nat) : numTo ⟨(Lib.decDigits u).toArray⟩ 10 (Lib.decDigits u).length = if u ≤ most then some u else none := by
  induction u using Nat.strongRecOn with
  | _ u ih =>
    by_cases h10 : u < 10
    · have e : Lib.decDigits u = [UInt8.ofNat (48 + u)] := by rw [Lib.decDigits, dif_pos h10]
      rw [e, if_pos (by unfold most; omega)]
      have hb : byteOf ⟨[UInt8.ofNat (48 + u)].toArray⟩ 0 = (UInt8.ofNat (48 + u)).toNat := rfl
      show numTo _ 10 (0 + 1) = _
      rw [numTo, numTo, hb, digC_dec u h10]
      simp only []
      rw [if_neg (by omega), if_neg (by unfold most; omega)]
      simp
    · have e : Lib.decDigits u = Lib.decDigits (u / 10) ++ [UInt8.ofNat (48 + u % 10)] := by rw [Lib.decDigits, dif_neg h10]
      have hi := ih (u / 10) (by omega)
      rw [e, ← mk_append, List.length_append, List.length_singleton]
      have hs : (⟨(Lib.decDigits (u / 10)).toArray⟩ : ByteArray).size = (Lib.decDigits (u / 10)).length := rfl
      have hb : byteOf ((⟨(Lib.decDigits (u / 10)).toArray⟩ : ByteArray) ++ ⟨[UInt8.ofNat (48 + u % 10)].toArray⟩) (Lib.decDigits (u / 10)).length = (UInt8.ofNat (48 + u % 10)).toNat := by
        unfold byteOf
        rw [data_append, List.getD_eq_getElem?_getD, List.getElem?_append_right (by simp)]
        simp
      rw [numTo, numTo_left _ _ _ _ (by rw [hs]; exact Nat.le_refl _), hi, hb, digC_dec _ (by omega)]
      by_cases hm : u / 10 ≤ most
      · rw [if_pos hm]
        simp only []
        rw [if_neg (by omega), show u / 10 * 10 + u % 10 = u by omega]
        by_cases h2 : most < u
        · rw [if_pos h2, if_neg (by omega)]
        · rw [if_neg h2, if_pos (by omega)]
      · rw [if_neg hm, if_neg (by omega)]
theorem dec_pos (u : Nat) : 0 < (Lib.decDigits u).length := by
  rw [Lib.decDigits]
  split <;> simp
theorem num_bad0 (s : ByteArray) (b j : Nat) (hj : j < s.size) (h : b ≤ digC (byteOf s j)) : numB s b = none := by
  apply numB_dead hj
  rw [numTo]
  cases numTo s b j with
  | none => rfl
  | some n => simp only [if_pos h]
/-- What Number answers of a number's digits. -/
theorem itoa_num (n : Int) : numB ⟨(Lib.itoa n).toArray⟩ 10 = if 0 ≤ n ∧ n ≤ 1099511627776 then some n.toNat else none := by
  by_cases hn : 0 ≤ n
  · obtain ⟨u, rfl⟩ : ∃ u : Nat, n = (u : Int) := ⟨n.toNat, by omega⟩
    have e : Lib.itoa (u : Int) = Lib.decDigits u := by unfold Lib.itoa; rw [if_neg (by omega)]; rfl
    rw [e]
    unfold numB
    have hs : (⟨(Lib.decDigits u).toArray⟩ : ByteArray).size = (Lib.decDigits u).length := rfl
    have hp := dec_pos u
    rw [hs, if_neg (by omega), dec_numTo]
    by_cases h : u ≤ most
    · rw [if_pos h, if_pos (by unfold most at h; omega)]; simp
    · rw [if_neg h, if_neg (by unfold most at h; omega)]
  · rw [if_neg (by omega)]
    have e : Lib.itoa n = 45 :: Lib.decDigits n.natAbs := by unfold Lib.itoa; rw [if_pos (by omega)]
    rw [e]
    apply num_bad0 _ _ 0
    · show 0 < (45 :: Lib.decDigits n.natAbs).length
      simp
    · show 10 ≤ digC 45
      decide
end Go.Proofs.YtpgjkeakhjnckaaDoor
/- Contracts of four's readers of digits (a closure over the base), and of the reference's: a part's number, 2^32 at most. -/
namespace Go.Proofs.YtpgjkeakhjnckaaDoor
open Go.RowKit
set_option linter.unusedVariables false
set_option maxRecDepth 20000

/-- The number of the first k digits, 2^32 at most, if all are digits. -/
def readTo (s : ByteArray) (b : Nat) : Nat → Option Nat
  | 0 => some 0
  | k + 1 => match readTo s b k with
    | none => none
    | some n => if b ≤ digC (byteOf s k) then none else some (min (n * b + digC (byteOf s k)) 4294967296)
def readB (s : ByteArray) (b : Nat) : Option Nat := readTo s b s.size
theorem readTo_none (s : ByteArray) (b k : Nat) (h : readTo s b k = none) : ∀ m, readTo s b (k + m) = none
  | 0 => h
  | m + 1 => by rw [← Nat.add_assoc, readTo, readTo_none s b k h m]
theorem readTo_le (s : ByteArray) (b : Nat) : ∀ k n, readTo s b k = some n → n ≤ 4294967296
  | 0, n, h => by simp [readTo] at h; omega
  | k + 1, n, h => by
    rw [readTo] at h
    cases hk : readTo s b k with
    | none => rw [hk] at h; cases h
    | some m =>
      rw [hk] at h
      simp only at h
      split at h
      · cases h
      · have := Option.some.inj h; omega
theorem readB_le (s : ByteArray) (b n : Nat) (h : readB s b = some n) : n ≤ 4294967296 := readTo_le s b _ n h
theorem readTo_step {s : ByteArray} {b k n : Nat} (h : readTo s b k = some n) (hk : k < s.size) :
    readTo s b (k + 1) = if b ≤ digC (s[k]).toNat then none else some (min (n * b + digC (s[k]).toNat) 4294967296) := by
  rw [readTo, h, byteOf_eq s k hk]
theorem readB_dead {s : ByteArray} {b k : Nat} (hk : k < s.size) (h : readTo s b (k + 1) = none) : readB s b = none := by
  unfold readB
  have := readTo_none s b (k + 1) h (s.size - (k + 1))
  rwa [show k + 1 + (s.size - (k + 1)) = s.size by omega] at this

/-- One digit, read alone. -/
theorem one_sign (s : ByteArray) (k b : Nat) (hk : k < s.size) (hb : b ≤ 16) : numB (s.extract k (k + 1)) b = if b ≤ digC (s[k]).toNat then none else some (digC (s[k]).toNat) := by
  have hz : (s.extract k (k + 1)).size = 1 := by simp; omega
  have e : byteOf (s.extract k (k + 1)) 0 = (s[k]).toNat := by
    rw [← byteOf_eq s k hk]
    unfold byteOf
    rw [data_extract]
    rw [List.getD_eq_getElem?_getD, List.getD_eq_getElem?_getD, List.getElem?_take, if_pos (by omega), List.getElem?_drop, Nat.add_zero]
  have hd := digC_le (s[k]).toNat
  unfold numB
  rw [if_neg (by omega), hz]
  simp only [numTo, e]
  split
  · rfl
  · rw [if_neg (by unfold most; omega)]; simp

theorem one_8_no (s : ByteArray) (k : Nat) (w : World) (hs : s.size ≤ 1000000) (hk : k < s.size) (h : 8 ≤ digC (s[k]).toNat) :
    Calls Tryd.prog 55 #[.string (s.extract k (k + 1)), .int .i64 8] w fun e w' => e = .returned (.tuple #[.int .i64 0, .bool false]) ∧ w = w' := by
  have := number_8 (s.extract k (k + 1)) w (by simp; omega)
  rw [one_sign s k 8 hk (by omega), if_pos h] at this
  exact this
theorem one_8_is (s : ByteArray) (k : Nat) (w : World) (hs : s.size ≤ 1000000) (hk : k < s.size) (h : ¬ 8 ≤ digC (s[k]).toNat) :
    Calls Tryd.prog 55 #[.string (s.extract k (k + 1)), .int .i64 8] w fun e w' => e = .returned (.tuple #[.int .i64 (digC (s[k]).toNat : Nat), .bool true]) ∧ w = w' := by
  have := number_8 (s.extract k (k + 1)) w (by simp; omega)
  rw [one_sign s k 8 hk (by omega), if_neg h] at this
  exact this

theorem one_10_no (s : ByteArray) (k : Nat) (w : World) (hs : s.size ≤ 1000000) (hk : k < s.size) (h : 10 ≤ digC (s[k]).toNat) :
    Calls Tryd.prog 55 #[.string (s.extract k (k + 1)), .int .i64 10] w fun e w' => e = .returned (.tuple #[.int .i64 0, .bool false]) ∧ w = w' := by
  have := number_10 (s.extract k (k + 1)) w (by simp; omega)
  rw [one_sign s k 10 hk (by omega), if_pos h] at this
  exact this
theorem one_10_is (s : ByteArray) (k : Nat) (w : World) (hs : s.size ≤ 1000000) (hk : k < s.size) (h : ¬ 10 ≤ digC (s[k]).toNat) :
    Calls Tryd.prog 55 #[.string (s.extract k (k + 1)), .int .i64 10] w fun e w' => e = .returned (.tuple #[.int .i64 (digC (s[k]).toNat : Nat), .bool true]) ∧ w = w' := by
  have := number_10 (s.extract k (k + 1)) w (by simp; omega)
  rw [one_sign s k 10 hk (by omega), if_neg h] at this
  exact this

theorem one_16_no (s : ByteArray) (k : Nat) (w : World) (hs : s.size ≤ 1000000) (hk : k < s.size) (h : 16 ≤ digC (s[k]).toNat) :
    Calls Tryd.prog 55 #[.string (s.extract k (k + 1)), .int .i64 16] w fun e w' => e = .returned (.tuple #[.int .i64 0, .bool false]) ∧ w = w' := by
  have := number_16 (s.extract k (k + 1)) w (by simp; omega)
  rw [one_sign s k 16 hk (by omega), if_pos h] at this
  exact this
theorem one_16_is (s : ByteArray) (k : Nat) (w : World) (hs : s.size ≤ 1000000) (hk : k < s.size) (h : ¬ 16 ≤ digC (s[k]).toNat) :
    Calls Tryd.prog 55 #[.string (s.extract k (k + 1)), .int .i64 16] w fun e w' => e = .returned (.tuple #[.int .i64 (digC (s[k]).toNat : Nat), .bool true]) ∧ w = w' := by
  have := number_16 (s.extract k (k + 1)) w (by simp; omega)
  rw [one_sign s k 16 hk (by omega), if_neg h] at this
  exact this

theorem refOne_8_no (s : ByteArray) (k : Nat) (w : World) (hs : s.size ≤ 1000000) (hk : k < s.size) (h : 8 ≤ digC (s[k]).toNat) :
    Calls Tryd.prog 43 #[.string (s.extract k (k + 1)), .int .i64 8] w fun e w' => e = .returned (.tuple #[.int .i64 0, .bool false]) ∧ w = w' := by
  have := refNumber_8 (s.extract k (k + 1)) w (by simp; omega)
  rw [one_sign s k 8 hk (by omega), if_pos h] at this
  exact this
theorem refOne_8_is (s : ByteArray) (k : Nat) (w : World) (hs : s.size ≤ 1000000) (hk : k < s.size) (h : ¬ 8 ≤ digC (s[k]).toNat) :
    Calls Tryd.prog 43 #[.string (s.extract k (k + 1)), .int .i64 8] w fun e w' => e = .returned (.tuple #[.int .i64 (digC (s[k]).toNat : Nat), .bool true]) ∧ w = w' := by
  have := refNumber_8 (s.extract k (k + 1)) w (by simp; omega)
  rw [one_sign s k 8 hk (by omega), if_neg h] at this
  exact this

theorem refOne_10_no (s : ByteArray) (k : Nat) (w : World) (hs : s.size ≤ 1000000) (hk : k < s.size) (h : 10 ≤ digC (s[k]).toNat) :
    Calls Tryd.prog 43 #[.string (s.extract k (k + 1)), .int .i64 10] w fun e w' => e = .returned (.tuple #[.int .i64 0, .bool false]) ∧ w = w' := by
  have := refNumber_10 (s.extract k (k + 1)) w (by simp; omega)
  rw [one_sign s k 10 hk (by omega), if_pos h] at this
  exact this
theorem refOne_10_is (s : ByteArray) (k : Nat) (w : World) (hs : s.size ≤ 1000000) (hk : k < s.size) (h : ¬ 10 ≤ digC (s[k]).toNat) :
    Calls Tryd.prog 43 #[.string (s.extract k (k + 1)), .int .i64 10] w fun e w' => e = .returned (.tuple #[.int .i64 (digC (s[k]).toNat : Nat), .bool true]) ∧ w = w' := by
  have := refNumber_10 (s.extract k (k + 1)) w (by simp; omega)
  rw [one_sign s k 10 hk (by omega), if_neg h] at this
  exact this

theorem refOne_16_no (s : ByteArray) (k : Nat) (w : World) (hs : s.size ≤ 1000000) (hk : k < s.size) (h : 16 ≤ digC (s[k]).toNat) :
    Calls Tryd.prog 43 #[.string (s.extract k (k + 1)), .int .i64 16] w fun e w' => e = .returned (.tuple #[.int .i64 0, .bool false]) ∧ w = w' := by
  have := refNumber_16 (s.extract k (k + 1)) w (by simp; omega)
  rw [one_sign s k 16 hk (by omega), if_pos h] at this
  exact this
theorem refOne_16_is (s : ByteArray) (k : Nat) (w : World) (hs : s.size ≤ 1000000) (hk : k < s.size) (h : ¬ 16 ≤ digC (s[k]).toNat) :
    Calls Tryd.prog 43 #[.string (s.extract k (k + 1)), .int .i64 16] w fun e w' => e = .returned (.tuple #[.int .i64 (digC (s[k]).toNat : Nat), .bool true]) ∧ w = w' := by
  have := refNumber_16 (s.extract k (k + 1)) w (by simp; omega)
  rw [one_sign s k 16 hk (by omega), if_neg h] at this
  exact this

/-- As the reference tells it; -1: there is none. -/
def optI : Option Nat → Int
  | none => -1
  | some n => n
theorem int_ret {a b : Int} (h : a = b) : Ending.returned (.int .i64 a) = .returned (.int .i64 b) := by rw [h]

end Go.Proofs.YtpgjkeakhjnckaaDoor
/- Contracts of four.howRead, number, endsInNumber, and of the reference's Part: a part's number. -/
namespace Go.Proofs.YtpgjkeakhjnckaaDoor
open Go.RowKit
set_option linter.unusedVariables false
set_option maxRecDepth 20000

/-- A part's number. -/
def partB (p : ByteArray) : Option Nat :=
  if p.size = 0 then none else
  if 1 < p.size ∧ byteOf p 0 = 48 ∧ (byteOf p 1 = 120 ∨ byteOf p 1 = 88) then readB (p.extract 2 p.size) 16 else
  if 1 < p.size ∧ byteOf p 0 = 48 then readB (p.extract 1 p.size) 8 else readB p 10
theorem partB_le (p : ByteArray) (n : Nat) (h : partB p = some n) : n ≤ 4294967296 := by
  unfold partB at h
  split at h
  · cases h
  · split at h
    · exact readB_le _ _ _ h
    · split at h
      · exact readB_le _ _ _ h
      · exact readB_le _ _ _ h

theorem how_end (w : World) (b : Int) : (w.alloc (.cells #[.int .i64 b] 3)).cell? ⟨w.heap.size, 0, none⟩ = some (.int .i64 b) ∧ Below w.heap.size w (w.alloc (.cells #[.int .i64 b] 3)) :=
  ⟨by simp [World.cell?_alloc_new], (Below.refl _ _).alloc (Nat.le_refl _) _⟩

theorem two_bytes (p : ByteArray) (h : 1 < p.size) (a b : UInt8) : p.extract 0 2 = { data := #[a, b] } ↔ byteOf p 0 = a.toNat ∧ byteOf p 1 = b.toNat := by
  have e : (p.extract 0 2).data.toList = [p[0], p[1]] := by
    rw [data_extract, List.drop_zero]
    have h0 : 1 < p.data.toList.length := by simpa using h
    match hl : p.data.toList, h0 with
    | x :: y :: l, _ =>
      have e0 : p[0] = x := by rw [getElem_data]; simp [hl]
      have e1 : p[1] = y := by rw [getElem_data]; simp [hl]
      rw [e0, e1]; rfl
  rw [byteOf_eq p 0 (by omega), byteOf_eq p 1 h]
  constructor
  · intro h2
    rw [h2] at e
    simp at e
    rw [← e.1, ← e.2]
    exact ⟨rfl, rfl⟩
  · rintro ⟨h1, h2⟩
    apply bytes_ext
    rw [e]
    have a1 : p[0] = a := UInt8.toNat_inj.1 h1
    have a2 : p[1] = b := UInt8.toNat_inj.1 h2
    rw [a1, a2]

/-- Whether a text whose last part this is ends in a number. -/
def endsB (p : ByteArray) : Bool := decide (0 < p.size) && ((readB p 10).isSome || (partB p).isSome)

end Go.Proofs.YtpgjkeakhjnckaaDoor
/- Contracts of four.looseParts, join, Loose: the address of a loose text. -/
namespace Go.Proofs.YtpgjkeakhjnckaaDoor
open Go.RowKit
set_option linter.unusedVariables false
set_option maxRecDepth 20000

/-- The parts of a loose text. -/
def lparts (s : ByteArray) : List ByteArray :=
  if 1 < (pieces s 46).length ∧ ((pieces s 46).getD ((pieces s 46).length - 1) ⟨#[]⟩).size = 0 then (pieces s 46).take ((pieces s 46).length - 1) else pieces s 46
theorem lparts_pos (s : ByteArray) : 0 < (lparts s).length := by
  unfold lparts
  split
  · simp; omega
  · exact pieces_pos s 46
theorem lparts_small (s : ByteArray) : ∀ p ∈ lparts s, p.size ≤ s.size := by
  unfold lparts
  split
  · intro p hp; exact pieces_small s 46 p (List.mem_of_mem_take hp)
  · exact pieces_small s 46
theorem lparts_len (s : ByteArray) : (lparts s).length ≤ s.size + 1 := by
  have := pieces_len s 46
  unfold lparts
  split
  · simp; omega
  · exact this

/-- The number of the first k parts, each one byte. -/
def outTo (l : List ByteArray) : Nat → Option Nat
  | 0 => some 0
  | k + 1 => match outTo l k with
    | none => none
    | some m => match partB (l.getD k ⟨#[]⟩) with
      | none => none
      | some n => if 255 < n then none else some (m * 256 + n)
theorem outTo_lt (l : List ByteArray) : ∀ k m, outTo l k = some m → m < 256 ^ k
  | 0, m, h => by simp [outTo] at h; omega
  | k + 1, m, h => by
    rw [outTo] at h
    cases hk : outTo l k with
    | none => rw [hk] at h; cases h
    | some j =>
      have := outTo_lt l k j hk
      rw [hk] at h
      simp only at h
      split at h
      · cases h
      · split at h
        · cases h
        · have := Option.some.inj h
          rw [Nat.pow_succ]
          omega
theorem outTo_none (l : List ByteArray) (k : Nat) (h : outTo l k = none) : ∀ m, outTo l (k + m) = none
  | 0 => h
  | m + 1 => by rw [← Nat.add_assoc, outTo, outTo_none l k h m]
theorem outTo_dead {l : List ByteArray} {k n : Nat} (hk : k ≤ n) (h : outTo l k = none) : outTo l n = none := by
  have := outTo_none l k h (n - k)
  rwa [show k + (n - k) = n by omega] at this
/-- How many numbers a last part may have, behind k others. -/
def roomB (k : Nat) : Nat := 256 ^ (4 - k)
/-- The parts' address. -/
def joinP (l : List ByteArray) : Option Nat :=
  if 4 < l.length then none else
  match outTo l (l.length - 1) with
  | none => none
  | some m => match partB (l.getD (l.length - 1) ⟨#[]⟩) with
    | none => none
    | some n => if roomB (l.length - 1) ≤ n then none else some (m * roomB (l.length - 1) + n)
theorem room_lt (k m n : Nat) (hk : k ≤ 3) (hm : m < 256 ^ k) (hn : n < roomB k) : m * roomB k + n < 4294967296 := by
  unfold roomB at *
  have hp : k = 0 ∨ k = 1 ∨ k = 2 ∨ k = 3 := by omega
  rcases hp with rfl | rfl | rfl | rfl
  all_goals
    simp at *
    omega
theorem joinP_lt (l : List ByteArray) (a : Nat) (h : joinP l = some a) : a < 4294967296 := by
  unfold joinP at h
  split at h
  · cases h
  · split at h
    · cases h
    · rename_i hl _ m hm
      have hm := outTo_lt l _ m hm
      split at h
      · cases h
      · split at h
        · cases h
        · rename_i n _ hn
          have h := Option.some.inj h
          rw [← h]
          exact room_lt _ _ _ (by omega) hm (by omega)
theorem joinP_dead {l : List ByteArray} {k : Nat} (hk : k ≤ l.length - 1) (h : outTo l k = none) : joinP l = none := by
  unfold joinP
  split
  · rfl
  · rw [outTo_dead hk h]
def joinRet (o : Option Nat) : Value := .tuple #[.int .u32 ((o.getD 0 : Nat) : Int), .bool o.isSome]
theorem join_ret {o p : Option Nat} (h : o = p) : Ending.returned (joinRet o) = .returned (joinRet p) := by rw [h]

theorem join_some {l : List ByteArray} {a : Nat} {v : Int} (h : joinP l = some a) (hv : v = a) : Ending.returned (.tuple #[.int .u32 v, .bool true]) = .returned (joinRet (joinP l)) := by
  rw [h, hv]; rfl

/-- A loose text's address and kind. -/
def looseB (s : ByteArray) : Nat × Nat :=
  if endsB ((lparts s).getD ((lparts s).length - 1) ⟨#[]⟩) then
    match joinP (lparts s) with
    | none => (0, 1)
    | some a => (a, 2)
  else (0, 0)
def looseRet (r : Nat × Nat) : Value := .tuple #[.int .u32 ((r.1 : Nat) : Int), .int .i64 ((r.2 : Nat) : Int)]
theorem loose_ret {o p : Nat × Nat} (h : o = p) : Ending.returned (looseRet o) = .returned (looseRet p) := by rw [h]
theorem looseB_name {s : ByteArray} (h : endsB ((lparts s).getD ((lparts s).length - 1) ⟨#[]⟩) = false) : looseB s = (0, 0) := by
  unfold looseB; rw [h]; rfl
theorem looseB_bad {s : ByteArray} (h : endsB ((lparts s).getD ((lparts s).length - 1) ⟨#[]⟩) = true) (hj : joinP (lparts s) = none) : looseB s = (0, 1) := by
  unfold looseB; rw [h, hj]; rfl
theorem looseB_good {s : ByteArray} {a : Nat} (h : endsB ((lparts s).getD ((lparts s).length - 1) ⟨#[]⟩) = true) (hj : joinP (lparts s) = some a) : looseB s = (a, 2) := by
  unfold looseB; rw [h, hj]; rfl

theorem loose_example : looseB { data := #[48, 120, 55, 102, 46, 49] } = (2130706433, 2) := by kernel_rfl

end Go.Proofs.YtpgjkeakhjnckaaDoor
/- Contracts of four.Of and four.Strict: the address of four bytes, and of a strict text. -/
namespace Go.Proofs.YtpgjkeakhjnckaaDoor
open Go.RowKit
set_option linter.unusedVariables false
set_option maxRecDepth 20000

def arr4 (a b c d : Nat) : Value := .agg #[.int .u8 (a : Int), .int .u8 (b : Int), .int .u8 (c : Int), .int .u8 (d : Int)]
theorem or_low (X c : Nat) (hX : X < 16777216) (hc : c < 256) : bits .or .u32 ((X : Int) * 256) (c : Int) = ((X * 256 + c : Nat) : Int) := by
  rw [bits_join .u32 32 (by decide) (fun n h0 h1 => by rw [IntKind.wrap_u32]; omega) 8 ((X : Int) * 256) c (by omega) (by omega) (by omega) (by omega) (by omega) (by omega)]
  omega
/-- The first k of four bytes, as a number. -/
def ofTo (a b c d : Nat) : Nat → Nat
  | 0 => 0
  | 1 => a
  | 2 => a * 256 + b
  | 3 => (a * 256 + b) * 256 + c
  | _ => ((a * 256 + b) * 256 + c) * 256 + d
set_option maxRecDepth 100000 in
set_option maxHeartbeats 1000000 in
theorem of_any (a b c d : Nat) (w : World) (ha : a < 256) (hb : b < 256) (hc : c < 256) (hd : d < 256) :
    Calls Tryd.prog 71 #[arr4 a b c d] w fun e w' => e = .returned (.int .u32 (((a * 256 + b) * 256 + c) * 256 + d : Nat)) ∧ Below w.heap.size w w' := by
  unfold arr4
  have i0 : ∀ w : World, (Instr.index 80 (.agg #[.int .u8 (a : Int), .int .u8 (b : Int), .int .u8 (c : Int), .int .u8 (d : Int)]) (.int .i64 0)).run Tryd.prog w = .ok (.int .u8 (a : Int)) w := fun _ => by kernel_rfl
  have i1 : ∀ w : World, (Instr.index 80 (.agg #[.int .u8 (a : Int), .int .u8 (b : Int), .int .u8 (c : Int), .int .u8 (d : Int)]) (.int .i64 1)).run Tryd.prog w = .ok (.int .u8 (b : Int)) w := fun _ => by kernel_rfl
  have i2 : ∀ w : World, (Instr.index 80 (.agg #[.int .u8 (a : Int), .int .u8 (b : Int), .int .u8 (c : Int), .int .u8 (d : Int)]) (.int .i64 2)).run Tryd.prog w = .ok (.int .u8 (c : Int)) w := fun _ => by kernel_rfl
  have i3 : ∀ w : World, (Instr.index 80 (.agg #[.int .u8 (a : Int), .int .u8 (b : Int), .int .u8 (c : Int), .int .u8 (d : Int)]) (.int .i64 3)).run Tryd.prog w = .ok (.int .u8 (d : Int)) w := fun _ => by kernel_rfl
  go_enter Tryd.func71, Tryd.ntmps71
  go_wp2
  go_loop [3, 7] (fun t i => ∃ k X : Nat, k ≤ 4 ∧ i = .int .i64 k ∧ t = .int .u32 (X : Int) ∧ X < 256 ^ k ∧ Hid (X = ofTo a b c d k)) (fun _ i => 4 - (intOf i).toNat)
  case atStart => exact ⟨0, 0, Nat.zero_le _, rfl, rfl, by decide, Lib.hid rfl⟩
  case round =>
    obtain ⟨k, X, hk, rfl, rfl, hX, HX⟩ := hrel
    have hk5 : k = 0 ∨ k = 1 ∨ k = 2 ∨ k = 3 ∨ k = 4 := by omega
    rcases hk5 with rfl | rfl | rfl | rfl | rfl
    · have hXb : X < 16777216 := Nat.lt_of_lt_of_le hX (by decide)
      go_wp2
      exact ⟨⟨1, X * 256 + a, by omega, rfl, by rw [or_low X a hXb ha], by simp at hX ⊢; omega, Lib.hid (by rw [HX.out]; simp [ofTo])⟩, by decide⟩
    · have hXb : X < 16777216 := Nat.lt_of_lt_of_le hX (by decide)
      go_wp2
      exact ⟨⟨2, X * 256 + b, by omega, rfl, by rw [or_low X b hXb hb], by simp at hX ⊢; omega, Lib.hid (by rw [HX.out]; simp [ofTo])⟩, by decide⟩
    · have hXb : X < 16777216 := Nat.lt_of_lt_of_le hX (by decide)
      go_wp2
      exact ⟨⟨3, X * 256 + c, by omega, rfl, by rw [or_low X c hXb hc], by simp at hX ⊢; omega, Lib.hid (by rw [HX.out]; simp [ofTo])⟩, by decide⟩
    · have hXb : X < 16777216 := Nat.lt_of_lt_of_le hX (by decide)
      go_wp2
      exact ⟨⟨4, X * 256 + d, by omega, rfl, by rw [or_low X d hXb hd], by simp at hX ⊢; omega, Lib.hid (by rw [HX.out]; simp [ofTo])⟩, by decide⟩
    · go_wp2
      go_ret
      exact ⟨by have := HX.out; rw [this]; rfl, (Below.refl _ _).alloc (Nat.le_refl _) _⟩

/-- A part of a strict text. -/
def octet (p : ByteArray) : Option Nat :=
  match numB p 10 with
  | none => none
  | some n => if 255 < n then none else if 1 < p.size ∧ byteOf p 0 = 48 then none else some n
theorem octet_lt (p : ByteArray) (n : Nat) (h : octet p = some n) : n < 256 := by
  unfold octet at h
  split at h
  · cases h
  · split at h
    · cases h
    · split at h
      · cases h
      · have := Option.some.inj h; omega
/-- The number of the first k parts. -/
def octTo (l : List ByteArray) : Nat → Option Nat
  | 0 => some 0
  | k + 1 => match octTo l k with
    | none => none
    | some m => match octet (l.getD k ⟨#[]⟩) with
      | none => none
      | some n => some (m * 256 + n)
theorem octTo_none (l : List ByteArray) (k : Nat) (h : octTo l k = none) : ∀ m, octTo l (k + m) = none
  | 0 => h
  | m + 1 => by rw [← Nat.add_assoc, octTo, octTo_none l k h m]
theorem octTo_dead {l : List ByteArray} {k n : Nat} (hk : k ≤ n) (h : octTo l k = none) : octTo l n = none := by
  have := octTo_none l k h (n - k)
  rwa [show k + (n - k) = n by omega] at this
theorem octTo_step {l : List ByteArray} {k m n : Nat} (h : octTo l k = some m) (hn : octet (l.getD k ⟨#[]⟩) = some n) : octTo l (k + 1) = some (m * 256 + n) := by
  rw [octTo, h]
  simp only [hn]
theorem octTo_stop {l : List ByteArray} {k m : Nat} (h : octTo l k = some m) (hn : octet (l.getD k ⟨#[]⟩) = none) : octTo l (k + 1) = none := by
  rw [octTo, h]
  simp only [hn]
theorem octTo_lt (l : List ByteArray) : ∀ k m, octTo l k = some m → m < 256 ^ k
  | 0, m, h => by simp [octTo] at h; omega
  | k + 1, m, h => by
    rw [octTo] at h
    cases hk : octTo l k with
    | none => rw [hk] at h; cases h
    | some j =>
      have := octTo_lt l k j hk
      rw [hk] at h
      simp only at h
      split at h
      · cases h
      · rename_i n hn
        have h2 := octet_lt _ _ hn
        have := Option.some.inj h
        rw [Nat.pow_succ]
        omega
/-- A strict text's address. -/
def strictB (s : ByteArray) : Option Nat := if (pieces s 46).length = 4 then octTo (pieces s 46) 4 else none
theorem strictB_lt (s : ByteArray) (a : Nat) (h : strictB s = some a) : a < 4294967296 := by
  unfold strictB at h
  split at h
  · exact octTo_lt _ 4 a h
  · cases h
def strictRet (o : Option Nat) : Value := .tuple #[.int .u32 ((o.getD 0 : Nat) : Int), .bool o.isSome]
theorem strict_ret {o p : Option Nat} (h : o = p) : Ending.returned (strictRet o) = .returned (strictRet p) := by rw [h]

set_option maxRecDepth 100000 in
set_option maxHeartbeats 4000000 in
theorem strict_any (s : ByteArray) (w : World) (hs : s.size ≤ 1000000) :
    Calls Tryd.prog 51 #[.string s] w fun e w' => e = .returned (strictRet (strictB s)) ∧ Below w.heap.size w w' := by
  have hp := pieces_pos s 46
  have hpl := pieces_len s 46
  go_enter Tryd.func51, Tryd.ntmps51
  go_wp2_with fail
  refine (split_row s 46 _ hs).mono ?_
  rintro e w1 ⟨g, c, rfl, hg, hr, hb⟩
  have hc1 := hr.cap
  have hc2 := hr.capm
  unfold maxLen at hc2
  have hlt := hr.lt
  have HR := Lib.hid hr
  clear hr
  by_cases h4 : (pieces s 46).length = 4
  · have HS : Hid (strictB s = octTo (pieces s 46) 4) := Lib.hid (by unfold strictB; rw [if_pos h4])
    have HM := Lib.hid (fun k => Nat.le_trans (getD_small (pieces_small s 46) k) hs)
    generalize pieces s 46 = l at *
    rw [h4]
    rw [h4] at HR
    clear h4 hp hpl
    go_wp2_with fail
    go_loopw [17] (fun i wr => ∃ k a0 a1 a2 a3 : Nat, k ≤ 4 ∧ i = .int .i64 k ∧ wr = w1.alloc (.cells #[.int .u8 (a0 : Int), .int .u8 (a1 : Int), .int .u8 (a2 : Int), .int .u8 (a3 : Int)] 80) ∧ a0 < 256 ∧ a1 < 256 ∧ a2 < 256 ∧ a3 < 256 ∧ Hid (octTo l k = some (ofTo a0 a1 a2 a3 k))) (fun i _ => 4 - (intOf i).toNat)
    case atStart => exact ⟨0, 0, 0, 0, 0, by decide, rfl, rfl, by decide, by decide, by decide, by decide, Lib.hid rfl⟩
    case round =>
      obtain ⟨k, a0, a1, a2, a3, hk, rfl, rfl, hb0, hb1, hb2, hb3, HK⟩ := hrel
      have hk5 : k = 0 ∨ k = 1 ∨ k = 2 ∨ k = 3 ∨ k = 4 := by omega
      rcases hk5 with rfl | rfl | rfl | rfl | rfl
      · have hcell : ∀ o, (w1.alloc o).cell? ⟨g, 0, none⟩ = some (.string (l.getD 0 ⟨#[]⟩)) := fun o => by rw [World.cell?_alloc_lt _ _ _ hlt]; exact HR.out.cells 0 (by decide)
        have hsm := HM.out 0
        obtain ⟨p, hp⟩ : ∃ p, l.getD 0 ⟨#[]⟩ = p := ⟨_, rfl⟩
        rw [hp] at hcell hsm
        have HP := Lib.hid hp
        clear hp
        go_wp2_with fail
        refine (number_10 p _ hsm).mono ?_
        rintro e w2 ⟨rfl, rfl⟩
        cases hq : numB p 10 with
        | none =>
          have HD : Hid (strictB s = none) := Lib.hid (by rw [HS.out]; exact octTo_dead (k := 1) (by decide) (octTo_stop HK.out (by rw [HP.out]; unfold octet; rw [hq])))
          clear hq
          unfold numRet
          go_wp2_with fail
          go_ret2
          exact ⟨strict_ret HD.out.symm, hb.alloc hb.size _⟩
        | some n =>
          have HQ := Lib.hid hq
          have hn : n ≤ 1099511627776 := by
            unfold numB at hq
            split at hq
            · cases hq
            · exact numTo_le _ _ _ _ hq
          clear hq
          unfold numRet
          by_cases h255 : 255 < n
          · have HD : Hid (strictB s = none) := Lib.hid (by rw [HS.out]; exact octTo_dead (k := 1) (by decide) (octTo_stop HK.out (by rw [HP.out]; unfold octet; rw [HQ.out]; simp only [if_pos h255])))
            go_wp2_with fail
            go_ret2
            exact ⟨strict_ret HD.out.symm, hb.alloc hb.size _⟩
          · have hw8 : IntKind.u8.wrap (n : Int) = (n : Int) := by rw [IntKind.wrap_u8]; omega
            by_cases h1 : 1 < p.size
            · by_cases hz : byteOf p 0 = 48
              · have HD : Hid (strictB s = none) := Lib.hid (by rw [HS.out]; exact octTo_dead (k := 1) (by decide) (octTo_stop HK.out (by rw [HP.out]; unfold octet; rw [HQ.out]; simp only [if_neg h255, if_pos (show 1 < p.size ∧ byteOf p 0 = 48 from ⟨h1, hz⟩)])))
                rw [byteOf_eq p 0 (by omega)] at hz
                go_wp2_with fail
                go_ret2
                exact ⟨strict_ret HD.out.symm, hb.alloc hb.size _⟩
              · have HT : Hid (octTo l 1 = some (ofTo a0 a1 a2 a3 0 * 256 + n)) := Lib.hid (octTo_step HK.out (by rw [HP.out]; unfold octet; rw [HQ.out]; simp only [if_neg h255, if_neg (show ¬ (1 < p.size ∧ byteOf p 0 = 48) from fun h => hz h.2)]))
                rw [byteOf_eq p 0 (by omega)] at hz
                have hzb : (((p[0]).toNat : Int) == 48) = false := by simp; omega
                go_wp2_with fail
                go_roundw
                case rel => exact ⟨1, n, a1, a2, a3, by decide, rfl, rfl, by omega, by omega, by omega, by omega, Lib.hid (by rw [HT.out]; simp [ofTo])⟩
                case measure => simp [intOf]
            · have HT : Hid (octTo l 1 = some (ofTo a0 a1 a2 a3 0 * 256 + n)) := Lib.hid (octTo_step HK.out (by rw [HP.out]; unfold octet; rw [HQ.out]; simp only [if_neg h255, if_neg (show ¬ (1 < p.size ∧ byteOf p 0 = 48) from fun h => h1 h.1)]))
              go_wp2_with fail
              go_roundw
              case rel => exact ⟨1, n, a1, a2, a3, by decide, rfl, rfl, by omega, by omega, by omega, by omega, Lib.hid (by rw [HT.out]; simp [ofTo])⟩
              case measure => simp [intOf]
      · have hcell : ∀ o, (w1.alloc o).cell? ⟨g, 1, none⟩ = some (.string (l.getD 1 ⟨#[]⟩)) := fun o => by rw [World.cell?_alloc_lt _ _ _ hlt]; exact HR.out.cells 1 (by decide)
        have hsm := HM.out 1
        obtain ⟨p, hp⟩ : ∃ p, l.getD 1 ⟨#[]⟩ = p := ⟨_, rfl⟩
        rw [hp] at hcell hsm
        have HP := Lib.hid hp
        clear hp
        go_wp2_with fail
        refine (number_10 p _ hsm).mono ?_
        rintro e w2 ⟨rfl, rfl⟩
        cases hq : numB p 10 with
        | none =>
          have HD : Hid (strictB s = none) := Lib.hid (by rw [HS.out]; exact octTo_dead (k := 2) (by decide) (octTo_stop HK.out (by rw [HP.out]; unfold octet; rw [hq])))
          clear hq
          unfold numRet
          go_wp2_with fail
          go_ret2
          exact ⟨strict_ret HD.out.symm, hb.alloc hb.size _⟩
        | some n =>
          have HQ := Lib.hid hq
          have hn : n ≤ 1099511627776 := by
            unfold numB at hq
            split at hq
            · cases hq
            · exact numTo_le _ _ _ _ hq
          clear hq
          unfold numRet
          by_cases h255 : 255 < n
          · have HD : Hid (strictB s = none) := Lib.hid (by rw [HS.out]; exact octTo_dead (k := 2) (by decide) (octTo_stop HK.out (by rw [HP.out]; unfold octet; rw [HQ.out]; simp only [if_pos h255])))
            go_wp2_with fail
            go_ret2
            exact ⟨strict_ret HD.out.symm, hb.alloc hb.size _⟩
          · have hw8 : IntKind.u8.wrap (n : Int) = (n : Int) := by rw [IntKind.wrap_u8]; omega
            by_cases h1 : 1 < p.size
            · by_cases hz : byteOf p 0 = 48
              · have HD : Hid (strictB s = none) := Lib.hid (by rw [HS.out]; exact octTo_dead (k := 2) (by decide) (octTo_stop HK.out (by rw [HP.out]; unfold octet; rw [HQ.out]; simp only [if_neg h255, if_pos (show 1 < p.size ∧ byteOf p 0 = 48 from ⟨h1, hz⟩)])))
                rw [byteOf_eq p 0 (by omega)] at hz
                go_wp2_with fail
                go_ret2
                exact ⟨strict_ret HD.out.symm, hb.alloc hb.size _⟩
              · have HT : Hid (octTo l 2 = some (ofTo a0 a1 a2 a3 1 * 256 + n)) := Lib.hid (octTo_step HK.out (by rw [HP.out]; unfold octet; rw [HQ.out]; simp only [if_neg h255, if_neg (show ¬ (1 < p.size ∧ byteOf p 0 = 48) from fun h => hz h.2)]))
                rw [byteOf_eq p 0 (by omega)] at hz
                have hzb : (((p[0]).toNat : Int) == 48) = false := by simp; omega
                go_wp2_with fail
                go_roundw
                case rel => exact ⟨2, a0, n, a2, a3, by decide, rfl, rfl, by omega, by omega, by omega, by omega, Lib.hid (by rw [HT.out]; simp [ofTo])⟩
                case measure => simp [intOf]
            · have HT : Hid (octTo l 2 = some (ofTo a0 a1 a2 a3 1 * 256 + n)) := Lib.hid (octTo_step HK.out (by rw [HP.out]; unfold octet; rw [HQ.out]; simp only [if_neg h255, if_neg (show ¬ (1 < p.size ∧ byteOf p 0 = 48) from fun h => h1 h.1)]))
              go_wp2_with fail
              go_roundw
              case rel => exact ⟨2, a0, n, a2, a3, by decide, rfl, rfl, by omega, by omega, by omega, by omega, Lib.hid (by rw [HT.out]; simp [ofTo])⟩
              case measure => simp [intOf]
      · have hcell : ∀ o, (w1.alloc o).cell? ⟨g, 2, none⟩ = some (.string (l.getD 2 ⟨#[]⟩)) := fun o => by rw [World.cell?_alloc_lt _ _ _ hlt]; exact HR.out.cells 2 (by decide)
        have hsm := HM.out 2
        obtain ⟨p, hp⟩ : ∃ p, l.getD 2 ⟨#[]⟩ = p := ⟨_, rfl⟩
        rw [hp] at hcell hsm
        have HP := Lib.hid hp
        clear hp
        go_wp2_with fail
        refine (number_10 p _ hsm).mono ?_
        rintro e w2 ⟨rfl, rfl⟩
        cases hq : numB p 10 with
        | none =>
          have HD : Hid (strictB s = none) := Lib.hid (by rw [HS.out]; exact octTo_dead (k := 3) (by decide) (octTo_stop HK.out (by rw [HP.out]; unfold octet; rw [hq])))
          clear hq
          unfold numRet
          go_wp2_with fail
          go_ret2
          exact ⟨strict_ret HD.out.symm, hb.alloc hb.size _⟩
        | some n =>
          have HQ := Lib.hid hq
          have hn : n ≤ 1099511627776 := by
            unfold numB at hq
            split at hq
            · cases hq
            · exact numTo_le _ _ _ _ hq
          clear hq
          unfold numRet
          by_cases h255 : 255 < n
          · have HD : Hid (strictB s = none) := Lib.hid (by rw [HS.out]; exact octTo_dead (k := 3) (by decide) (octTo_stop HK.out (by rw [HP.out]; unfold octet; rw [HQ.out]; simp only [if_pos h255])))
            go_wp2_with fail
            go_ret2
            exact ⟨strict_ret HD.out.symm, hb.alloc hb.size _⟩
          · have hw8 : IntKind.u8.wrap (n : Int) = (n : Int) := by rw [IntKind.wrap_u8]; omega
            by_cases h1 : 1 < p.size
            · by_cases hz : byteOf p 0 = 48
              · have HD : Hid (strictB s = none) := Lib.hid (by rw [HS.out]; exact octTo_dead (k := 3) (by decide) (octTo_stop HK.out (by rw [HP.out]; unfold octet; rw [HQ.out]; simp only [if_neg h255, if_pos (show 1 < p.size ∧ byteOf p 0 = 48 from ⟨h1, hz⟩)])))
                rw [byteOf_eq p 0 (by omega)] at hz
                go_wp2_with fail
                go_ret2
                exact ⟨strict_ret HD.out.symm, hb.alloc hb.size _⟩
              · have HT : Hid (octTo l 3 = some (ofTo a0 a1 a2 a3 2 * 256 + n)) := Lib.hid (octTo_step HK.out (by rw [HP.out]; unfold octet; rw [HQ.out]; simp only [if_neg h255, if_neg (show ¬ (1 < p.size ∧ byteOf p 0 = 48) from fun h => hz h.2)]))
                rw [byteOf_eq p 0 (by omega)] at hz
                have hzb : (((p[0]).toNat : Int) == 48) = false := by simp; omega
                go_wp2_with fail
                go_roundw
                case rel => exact ⟨3, a0, a1, n, a3, by decide, rfl, rfl, by omega, by omega, by omega, by omega, Lib.hid (by rw [HT.out]; simp [ofTo])⟩
                case measure => simp [intOf]
            · have HT : Hid (octTo l 3 = some (ofTo a0 a1 a2 a3 2 * 256 + n)) := Lib.hid (octTo_step HK.out (by rw [HP.out]; unfold octet; rw [HQ.out]; simp only [if_neg h255, if_neg (show ¬ (1 < p.size ∧ byteOf p 0 = 48) from fun h => h1 h.1)]))
              go_wp2_with fail
              go_roundw
              case rel => exact ⟨3, a0, a1, n, a3, by decide, rfl, rfl, by omega, by omega, by omega, by omega, Lib.hid (by rw [HT.out]; simp [ofTo])⟩
              case measure => simp [intOf]
      · have hcell : ∀ o, (w1.alloc o).cell? ⟨g, 3, none⟩ = some (.string (l.getD 3 ⟨#[]⟩)) := fun o => by rw [World.cell?_alloc_lt _ _ _ hlt]; exact HR.out.cells 3 (by decide)
        have hsm := HM.out 3
        obtain ⟨p, hp⟩ : ∃ p, l.getD 3 ⟨#[]⟩ = p := ⟨_, rfl⟩
        rw [hp] at hcell hsm
        have HP := Lib.hid hp
        clear hp
        go_wp2_with fail
        refine (number_10 p _ hsm).mono ?_
        rintro e w2 ⟨rfl, rfl⟩
        cases hq : numB p 10 with
        | none =>
          have HD : Hid (strictB s = none) := Lib.hid (by rw [HS.out]; exact octTo_dead (k := 4) (by decide) (octTo_stop HK.out (by rw [HP.out]; unfold octet; rw [hq])))
          clear hq
          unfold numRet
          go_wp2_with fail
          go_ret2
          exact ⟨strict_ret HD.out.symm, hb.alloc hb.size _⟩
        | some n =>
          have HQ := Lib.hid hq
          have hn : n ≤ 1099511627776 := by
            unfold numB at hq
            split at hq
            · cases hq
            · exact numTo_le _ _ _ _ hq
          clear hq
          unfold numRet
          by_cases h255 : 255 < n
          · have HD : Hid (strictB s = none) := Lib.hid (by rw [HS.out]; exact octTo_dead (k := 4) (by decide) (octTo_stop HK.out (by rw [HP.out]; unfold octet; rw [HQ.out]; simp only [if_pos h255])))
            go_wp2_with fail
            go_ret2
            exact ⟨strict_ret HD.out.symm, hb.alloc hb.size _⟩
          · have hw8 : IntKind.u8.wrap (n : Int) = (n : Int) := by rw [IntKind.wrap_u8]; omega
            by_cases h1 : 1 < p.size
            · by_cases hz : byteOf p 0 = 48
              · have HD : Hid (strictB s = none) := Lib.hid (by rw [HS.out]; exact octTo_dead (k := 4) (by decide) (octTo_stop HK.out (by rw [HP.out]; unfold octet; rw [HQ.out]; simp only [if_neg h255, if_pos (show 1 < p.size ∧ byteOf p 0 = 48 from ⟨h1, hz⟩)])))
                rw [byteOf_eq p 0 (by omega)] at hz
                go_wp2_with fail
                go_ret2
                exact ⟨strict_ret HD.out.symm, hb.alloc hb.size _⟩
              · have HT : Hid (octTo l 4 = some (ofTo a0 a1 a2 a3 3 * 256 + n)) := Lib.hid (octTo_step HK.out (by rw [HP.out]; unfold octet; rw [HQ.out]; simp only [if_neg h255, if_neg (show ¬ (1 < p.size ∧ byteOf p 0 = 48) from fun h => hz h.2)]))
                rw [byteOf_eq p 0 (by omega)] at hz
                have hzb : (((p[0]).toNat : Int) == 48) = false := by simp; omega
                go_wp2_with fail
                go_roundw
                case rel => exact ⟨4, a0, a1, a2, n, by decide, rfl, rfl, by omega, by omega, by omega, by omega, Lib.hid (by rw [HT.out]; simp [ofTo])⟩
                case measure => simp [intOf]
            · have HT : Hid (octTo l 4 = some (ofTo a0 a1 a2 a3 3 * 256 + n)) := Lib.hid (octTo_step HK.out (by rw [HP.out]; unfold octet; rw [HQ.out]; simp only [if_neg h255, if_neg (show ¬ (1 < p.size ∧ byteOf p 0 = 48) from fun h => h1 h.1)]))
              go_wp2_with fail
              go_roundw
              case rel => exact ⟨4, a0, a1, a2, n, by decide, rfl, rfl, by omega, by omega, by omega, by omega, Lib.hid (by rw [HT.out]; simp [ofTo])⟩
              case measure => simp [intOf]
      · go_wp2_with fail
        refine (of_any a0 a1 a2 a3 _ hb0 hb1 hb2 hb3).mono ?_
        rintro e w2 ⟨rfl, hbo⟩
        go_wp2_with fail
        go_ret2
        exact ⟨strict_ret (o := some _) (by rw [HS.out, HK.out]; rfl), chain (hb.alloc hb.size _) hbo⟩
  · have HS : Hid (strictB s = none) := Lib.hid (by unfold strictB; rw [if_neg h4])
    generalize pieces s 46 = l at *
    have hlb : ((l.length : Int) != 4) = true := by simp; omega
    go_wp2_with fail
    go_ret2
    exact ⟨strict_ret HS.out.symm, hb⟩
end Go.Proofs.YtpgjkeakhjnckaaDoor
/- What numbers' digits are as parts of loose and of strict texts; plain facts, and four.Loose's contract at texts put together of such. -/
namespace Go.Proofs.YtpgjkeakhjnckaaDoor
open Go.RowKit
set_option linter.unusedVariables false
set_option maxRecDepth 20000

/-- Digits read one by one, 2^32 at most. -/
def readL (b : Nat) : Nat → List UInt8 → Option Nat
  | n, [] => some n
  | n, c :: l => if b ≤ digC c.toNat then none else readL b (min (n * b + digC c.toNat) 4294967296) l
theorem readL_append (b : Nat) (m : List UInt8) : ∀ (l : List UInt8) (n : Nat), readL b n (l ++ m) = match readL b n l with
    | none => none
    | some x => readL b x m
  | [], n => rfl
  | c :: l, n => by
    rw [List.cons_append, readL, readL]
    split
    · rfl
    · exact readL_append b m l _
theorem readTo_list (s : ByteArray) (b : Nat) : ∀ k, k ≤ s.size → readTo s b k = readL b 0 (s.data.toList.take k)
  | 0, _ => rfl
  | k + 1, h => by
    have hk : k < s.data.toList.length := by simp; omega
    rw [List.take_add_one, List.getElem?_eq_getElem hk, readL_append, ← readTo_list s b k (by omega), readTo]
    cases readTo s b k with
    | none => rfl
    | some n =>
      have e : byteOf s k = (s.data.toList[k]).toNat := by rw [byteOf_eq s k (by omega)]; rfl
      simp only [e, Option.toList, readL]
theorem readB_list (s : ByteArray) (b : Nat) : readB s b = readL b 0 s.data.toList := by
  unfold readB
  rw [readTo_list s b _ (Nat.le_refl _), List.take_of_length_le (by simp)]
theorem readB_ofL (l : List UInt8) (b : Nat) : readB (ofL l) b = readL b 0 l := by rw [readB_list, ofL_data]

theorem dec_mem (u : Nat) : ∀ c ∈ Lib.decDigits u, 48 ≤ c.toNat ∧ c.toNat ≤ 57 := by
  have one : ∀ d, d < 10 → 48 ≤ (UInt8.ofNat (48 + d)).toNat ∧ (UInt8.ofNat (48 + d)).toNat ≤ 57 := by
    intro d hd
    rw [UInt8.toNat_ofNat', Nat.mod_eq_of_lt (by omega)]
    omega
  induction u using Nat.strongRecOn with
  | _ u ih =>
    rw [Lib.decDigits]
    split
    · intro c hc
      simp at hc
      subst hc
      rw [show (48 : UInt8) + UInt8.ofNat u = UInt8.ofNat (48 + u) by simp]
      exact one u (by omega)
    · intro c hc
      rcases List.mem_append.1 hc with h | h
      · exact ih (u / 10) (by omega) c h
      · rw [List.mem_singleton] at h
        rw [h]
        exact one _ (by omega)
theorem dec_dot (u : Nat) : ∀ c ∈ Lib.decDigits u, c.toNat ≠ 46 := fun c hc => by have := dec_mem u c hc; omega
theorem dec_head (u : Nat) (h : 0 < u) : ∃ c l, Lib.decDigits u = c :: l ∧ c.toNat ≠ 48 := by
  induction u using Nat.strongRecOn with
  | _ u ih =>
    rw [Lib.decDigits]
    split
    · exact ⟨_, [], rfl, by rw [UInt8.toNat_ofNat', Nat.mod_eq_of_lt (by omega)]; omega⟩
    · obtain ⟨c, l, e, hc⟩ := ih (u / 10) (by omega) (by omega)
      exact ⟨c, l ++ [UInt8.ofNat (48 + u % 10)], by rw [e]; rfl, hc⟩
theorem dec_read (u : Nat) : readL 10 0 (Lib.decDigits u) = some (min u 4294967296) := by
  induction u using Nat.strongRecOn with
  | _ u ih =>
    rw [Lib.decDigits]
    split
    · rename_i h
      rw [readL, digC_dec u h, if_neg (by omega), readL]
      simp
    · rw [readL_append, ih (u / 10) (by omega)]
      simp only [readL]
      rw [digC_dec _ (by omega), if_neg (by omega)]
      congr 1
      omega

theorem byteOf_ofL (l : List UInt8) (k : Nat) : byteOf (ofL l) k = (l.getD k 0).toNat := by unfold byteOf; rw [ofL_data]
theorem partB_plain (l : List UInt8) (h0 : l ≠ []) (h : ¬ (1 < l.length ∧ (l.getD 0 0).toNat = 48)) : partB (ofL l) = readL 10 0 l := by
  have h1 : ¬ l.length = 0 := by intro h; exact h0 (List.eq_nil_of_length_eq_zero h)
  unfold partB
  rw [ofL_size, byteOf_ofL, if_neg h1, if_neg (by intro h2; exact h ⟨h2.1, h2.2.1⟩), if_neg h, readB_ofL]
theorem dec_nil (u : Nat) : Lib.decDigits u ≠ [] := by
  intro h
  have := dec_pos u
  rw [h] at this
  simp at this
theorem dec_lead (u : Nat) : ¬ (1 < (Lib.decDigits u).length ∧ ((Lib.decDigits u).getD 0 0).toNat = 48) := by
  rintro ⟨h1, h2⟩
  by_cases hu : u = 0
  · subst hu
    rw [Lib.decDigits] at h1
    simp at h1
  · obtain ⟨c, l, e, hc⟩ := dec_head u (by omega)
    rw [e] at h2
    exact hc (by simpa using h2)
theorem partB_dec (u : Nat) : partB (ofL (Lib.decDigits u)) = some (min u 4294967296) := by
  rw [partB_plain _ (dec_nil u) (dec_lead u), dec_read]
theorem partB_small (u : Nat) (h : u ≤ 4294967296) : partB (ofL (Lib.decDigits u)) = some u := by
  rw [partB_dec, Nat.min_eq_left h]
theorem octet_dec (u : Nat) (h : u < 256) : octet (ofL (Lib.decDigits u)) = some u := by
  have e : numB (ofL (Lib.decDigits u)) 10 = some u := by
    have := itoa_num (u : Int)
    rw [show Lib.itoa (u : Int) = Lib.decDigits u by unfold Lib.itoa; rw [if_neg (by omega)]; rfl, if_pos (by omega)] at this
    simp at this
    exact this
  unfold octet
  rw [e, ofL_size, byteOf_ofL]
  simp only [if_neg (show ¬ 255 < u by omega), if_neg (dec_lead u)]
theorem partB_hex (l : List UInt8) : partB (ofL (48 :: 120 :: l)) = readL 16 0 l := by
  unfold partB
  rw [if_neg (by rw [ofL_size]; simp), if_pos (by rw [ofL_size, byteOf_ofL, byteOf_ofL]; simp), readB_list, data_extract, ofL_data, ofL_size]
  simp
theorem partB_oct (c : UInt8) (l : List UInt8) (h1 : c.toNat ≠ 120) (h2 : c.toNat ≠ 88) : partB (ofL (48 :: c :: l)) = readL 8 0 (c :: l) := by
  unfold partB
  rw [if_neg (by rw [ofL_size]; simp), if_neg (by rw [ofL_size, byteOf_ofL, byteOf_ofL]; simp [h1, h2]), if_pos (by rw [ofL_size, byteOf_ofL]; simp), readB_list, data_extract, ofL_data, ofL_size]
  simp

/-- A part that ends in the letter a has no number, if it begins with a decimal number's digits. -/
theorem readL_bad (b : Nat) (hb : b ≤ 10) (l : List UInt8) (n : Nat) : readL b n (l ++ [97]) = none := by
  rw [readL_append]
  cases readL b n l with
  | none => rfl
  | some x =>
    have : digC (97 : UInt8).toNat = 10 := by decide
    simp only [readL, this, if_pos hb]
theorem partB_bad (u : Nat) : partB (ofL (Lib.decDigits u ++ [97])) = none ∧ readB (ofL (Lib.decDigits u ++ [97])) 10 = none := by
  refine ⟨?_, by rw [readB_ofL]; exact readL_bad 10 (by decide) _ _⟩
  by_cases hl : ((Lib.decDigits u ++ [97]).getD 0 0).toNat = 48
  · by_cases hu : u = 0
    · subst hu
      rw [show Lib.decDigits 0 ++ [97] = [48, 97] by rw [Lib.decDigits]; rfl, partB_oct _ _ (by decide) (by decide)]
      decide
    · obtain ⟨c, l, e, hc⟩ := dec_head u (by omega)
      rw [e] at hl
      exact absurd (by simpa using hl) hc
  · rw [partB_plain _ (by simp) (by intro h; exact hl h.2)]
    exact readL_bad 10 (by decide) _ _

theorem joinP1 (p : ByteArray) (v : Nat) (hp : partB p = some v) : joinP [p] = if 4294967296 ≤ v then none else some v := by
  unfold joinP
  simp [outTo, hp, roomB]
theorem joinP2 (p q : ByteArray) (a v : Nat) (hp : partB p = some a) (ha : a ≤ 255) (hq : partB q = some v) : joinP [p, q] = if 16777216 ≤ v then none else some (a * 16777216 + v) := by
  unfold joinP
  simp [outTo, hp, hq, roomB, show ¬ 255 < a by omega]
theorem joinP3 (p q r : ByteArray) (a b v : Nat) (hp : partB p = some a) (ha : a ≤ 255) (hq : partB q = some b) (hb : b ≤ 255) (hr : partB r = some v) : joinP [p, q, r] = if 65536 ≤ v then none else some ((a * 256 + b) * 65536 + v) := by
  unfold joinP
  simp [outTo, hp, hq, hr, roomB, show ¬ 255 < a by omega, show ¬ 255 < b by omega]
theorem joinP4 (p q r t : ByteArray) (a b c v : Nat) (hp : partB p = some a) (ha : a ≤ 255) (hq : partB q = some b) (hb : b ≤ 255) (hr : partB r = some c) (hc : c ≤ 255) (ht : partB t = some v) : joinP [p, q, r, t] = if 256 ≤ v then none else some (((a * 256 + b) * 256 + c) * 256 + v) := by
  unfold joinP
  simp [outTo, hp, hq, hr, ht, roomB, show ¬ 255 < a by omega, show ¬ 255 < b by omega, show ¬ 255 < c by omega]

theorem lparts_of {s : ByteArray} {l : List ByteArray} (h : pieces s 46 = l) (h2 : (l.getD (l.length - 1) ⟨#[]⟩).size ≠ 0) : lparts s = l := by
  unfold lparts
  rw [h, if_neg (by intro h3; exact h2 h3.2)]
theorem ofL_ne (l : List UInt8) (h : l ≠ []) : (ofL l).size ≠ 0 := by
  rw [ofL_size]; intro h2; exact h (List.eq_nil_of_length_eq_zero h2)
theorem lparts1 (A : List UInt8) (hA : ∀ c ∈ A, c.toNat ≠ 46) (h0 : A ≠ []) : lparts (ofL A) = [ofL A] :=
  lparts_of (by rw [pieces_ofL, cutL_none 46 A hA]; rfl) (by simpa using ofL_ne A h0)
theorem lparts2 (A B : List UInt8) (hA : ∀ c ∈ A, c.toNat ≠ 46) (hB : ∀ c ∈ B, c.toNat ≠ 46) (h0 : B ≠ []) : lparts (ofL (A ++ 46 :: B)) = [ofL A, ofL B] :=
  lparts_of (by rw [pieces_ofL, cutL_first 46 46 rfl B A hA, cutL_none 46 B hB]; rfl) (by simpa using ofL_ne B h0)
theorem lparts3 (A B C : List UInt8) (hA : ∀ c ∈ A, c.toNat ≠ 46) (hB : ∀ c ∈ B, c.toNat ≠ 46) (hC : ∀ c ∈ C, c.toNat ≠ 46) (h0 : C ≠ []) : lparts (ofL (A ++ 46 :: (B ++ 46 :: C))) = [ofL A, ofL B, ofL C] :=
  lparts_of (by rw [pieces_ofL, cutL_first 46 46 rfl _ A hA, cutL_first 46 46 rfl _ B hB, cutL_none 46 C hC]; rfl) (by simpa using ofL_ne C h0)
theorem cut4 (A B C D : List UInt8) (hA : ∀ c ∈ A, c.toNat ≠ 46) (hB : ∀ c ∈ B, c.toNat ≠ 46) (hC : ∀ c ∈ C, c.toNat ≠ 46) (hD : ∀ c ∈ D, c.toNat ≠ 46) : pieces (ofL (A ++ 46 :: (B ++ 46 :: (C ++ 46 :: D)))) 46 = [ofL A, ofL B, ofL C, ofL D] := by
  rw [pieces_ofL, cutL_first 46 46 rfl _ A hA, cutL_first 46 46 rfl _ B hB, cutL_first 46 46 rfl _ C hC, cutL_none 46 D hD]; rfl
theorem lparts4 (A B C D : List UInt8) (hA : ∀ c ∈ A, c.toNat ≠ 46) (hB : ∀ c ∈ B, c.toNat ≠ 46) (hC : ∀ c ∈ C, c.toNat ≠ 46) (hD : ∀ c ∈ D, c.toNat ≠ 46) (h0 : D ≠ []) : lparts (ofL (A ++ 46 :: (B ++ 46 :: (C ++ 46 :: D)))) = [ofL A, ofL B, ofL C, ofL D] :=
  lparts_of (cut4 A B C D hA hB hC hD) (by simpa using ofL_ne D h0)
theorem lparts4dot (A B C D : List UInt8) (hA : ∀ c ∈ A, c.toNat ≠ 46) (hB : ∀ c ∈ B, c.toNat ≠ 46) (hC : ∀ c ∈ C, c.toNat ≠ 46) (hD : ∀ c ∈ D, c.toNat ≠ 46) : lparts (ofL (A ++ 46 :: (B ++ 46 :: (C ++ 46 :: (D ++ 46 :: []))))) = [ofL A, ofL B, ofL C, ofL D] := by
  have h : pieces (ofL (A ++ 46 :: (B ++ 46 :: (C ++ 46 :: (D ++ 46 :: []))))) 46 = [ofL A, ofL B, ofL C, ofL D, ofL []] := by
    rw [pieces_ofL, cutL_first 46 46 rfl _ A hA, cutL_first 46 46 rfl _ B hB, cutL_first 46 46 rfl _ C hC, cutL_first 46 46 rfl _ D hD, cutL_none 46 [] (by simp)]; rfl
  unfold lparts
  rw [h, if_pos (by simp [ofL]; rfl)]
  rfl

theorem ends_of {x : ByteArray} {v : Nat} (h : partB x = some v) : endsB x = true := by
  have h0 : 0 < x.size := by
    rcases Nat.eq_zero_or_pos x.size with h0 | h0
    · unfold partB at h; rw [if_pos h0] at h; cases h
    · exact h0
  unfold endsB
  rw [h]
  simp [h0]
theorem looseB_parts {s : ByteArray} {l : List ByteArray} {v : Nat} (hl : lparts s = l) (he : partB (l.getD (l.length - 1) ⟨#[]⟩) = some v) : looseB s = match joinP l with
    | none => (0, 1)
    | some a => (a, 2) := by
  unfold looseB
  rw [hl, ends_of he]
  rfl
theorem looseB_no {s : ByteArray} {l : List ByteArray} (hl : lparts s = l) (he : partB (l.getD (l.length - 1) ⟨#[]⟩) = none) (hr : readB (l.getD (l.length - 1) ⟨#[]⟩) 10 = none) : looseB s = (0, 0) := by
  apply looseB_name
  rw [hl]
  unfold endsB
  rw [he, hr]
  simp

abbrev dec (u : Nat) : List UInt8 := Lib.decDigits u
theorem loose1 (v : Nat) : looseB (ofL (dec v)) = if 4294967296 ≤ v then (0, 1) else (v, 2) := by
  rw [looseB_parts (lparts1 _ (dec_dot v) (dec_nil v)) (by simpa using partB_dec v), joinP1 _ _ (partB_dec v)]
  by_cases h : 4294967296 ≤ v
  · rw [if_pos (by omega), if_pos h]
  · rw [if_neg (by omega), if_neg h, Nat.min_eq_left (by omega)]
theorem loose2 (x v : Nat) (hx : x < 256) (hv : v < 16777216) : looseB (ofL (dec x ++ 46 :: dec v)) = (x * 16777216 + v, 2) := by
  rw [looseB_parts (lparts2 _ _ (dec_dot x) (dec_dot v) (dec_nil v)) (by simpa using partB_dec v), joinP2 _ _ x v (partB_small x (by omega)) (by omega) (partB_small v (by omega)), if_neg (by omega)]
theorem loose2bad (x v : Nat) (hx : x < 256) (hv : 16777216 ≤ v) : looseB (ofL (dec x ++ 46 :: dec v)) = (0, 1) := by
  rw [looseB_parts (lparts2 _ _ (dec_dot x) (dec_dot v) (dec_nil v)) (by simpa using partB_dec v), joinP2 _ _ x _ (partB_small x (by omega)) (by omega) (partB_dec v), if_pos (by omega)]
theorem loose2no (x y : Nat) : looseB (ofL (dec x ++ 46 :: (dec y ++ [97]))) = (0, 0) :=
  looseB_no (lparts2 _ _ (dec_dot x) (fun c hc => by
    rcases List.mem_append.1 hc with h | h
    · exact dec_dot y c h
    · rw [List.mem_singleton] at h; rw [h]; decide) (by simp)) (by simpa using (partB_bad y).1) (by simpa using (partB_bad y).2)
theorem loose3 (x y v : Nat) (hx : x < 256) (hy : y < 256) (hv : v < 65536) : looseB (ofL (dec x ++ 46 :: (dec y ++ 46 :: dec v))) = ((x * 256 + y) * 65536 + v, 2) := by
  rw [looseB_parts (lparts3 _ _ _ (dec_dot x) (dec_dot y) (dec_dot v) (dec_nil v)) (by simpa using partB_dec v), joinP3 _ _ _ x y v (partB_small x (by omega)) (by omega) (partB_small y (by omega)) (by omega) (partB_small v (by omega)), if_neg (by omega)]
theorem loose4 (a b c d : Nat) (ha : a < 256) (hb : b < 256) (hc : c < 256) (hd : d < 256) : looseB (ofL (dec a ++ 46 :: (dec b ++ 46 :: (dec c ++ 46 :: dec d)))) = (((a * 256 + b) * 256 + c) * 256 + d, 2) := by
  rw [looseB_parts (lparts4 _ _ _ _ (dec_dot a) (dec_dot b) (dec_dot c) (dec_dot d) (dec_nil d)) (by simpa using partB_dec d), joinP4 _ _ _ _ a b c d (partB_small a (by omega)) (by omega) (partB_small b (by omega)) (by omega) (partB_small c (by omega)) (by omega) (partB_small d (by omega)), if_neg (by omega)]
theorem loose4dot (a b c d : Nat) (ha : a < 256) (hb : b < 256) (hc : c < 256) (hd : d < 256) : looseB (ofL (dec a ++ 46 :: (dec b ++ 46 :: (dec c ++ 46 :: (dec d ++ 46 :: []))))) = (((a * 256 + b) * 256 + c) * 256 + d, 2) := by
  rw [looseB_parts (lparts4dot _ _ _ _ (dec_dot a) (dec_dot b) (dec_dot c) (dec_dot d)) (by simpa using partB_dec d), joinP4 _ _ _ _ a b c d (partB_small a (by omega)) (by omega) (partB_small b (by omega)) (by omega) (partB_small c (by omega)) (by omega) (partB_small d (by omega)), if_neg (by omega)]
theorem strict4 (a b c d : Nat) (ha : a < 256) (hb : b < 256) (hc : c < 256) (hd : d < 256) : strictB (ofL (dec a ++ 46 :: (dec b ++ 46 :: (dec c ++ 46 :: dec d)))) = some (((a * 256 + b) * 256 + c) * 256 + d) := by
  unfold strictB
  rw [cut4 _ _ _ _ (dec_dot a) (dec_dot b) (dec_dot c) (dec_dot d)]
  simp [octTo, octet_dec a ha, octet_dec b hb, octet_dec c hc, octet_dec d hd]

theorem strict_list (s : ByteArray) (l : List UInt8) (r : Option Nat) (w : World) (hl : s.data.toList = l) (hn : l.length ≤ 1000) (hr : strictB (ofL l) = r) :
    Calls Tryd.prog 51 #[.string s] w fun e w' => e = .returned (strictRet r) ∧ Below w.heap.size w w' := by
  have hs := eq_ofL hl
  subst hs
  have := strict_any (ofL l) w (by rw [ofL_size]; omega)
  rw [hr] at this
  exact this
end Go.Proofs.YtpgjkeakhjnckaaDoor
