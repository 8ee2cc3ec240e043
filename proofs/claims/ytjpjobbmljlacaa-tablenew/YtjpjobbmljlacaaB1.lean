/- Texts that belong together, one behind the other: OpenArr, OpenAddr, Util, Base, Lists, AddrKit, Bytes16, RefAddr, AddrMid, RefAddrBits, RefAddrBit, CidrBits, HeldR, AddrBox, AddrHeld, EqArr, EqAddr, AddrEq, PrefKit, RefCidrWith, RefAddrOf, RefAddrMap. -/
import Derived.Test.YtjpjobbmljlacaaRows
import Derived.WalkKit
import Derived.ProofKit
import Derived.OpenShut
import Derived.Laws.IdiomArrays
import Derived.ChangeSame
import Derived.Lib.Strings
import Derived.WalkSpells
import Derived.WalkLawsBesides
import Derived.Deep.QuietTactic
import Derived.BigQuiet
import Derived.Lib.Hide
import Derived.Deep.AppendLies
import Derived.Laws.IdiomStrings
import Derived.RegionTactic
import Derived.BigRegion
import Derived.Deep.MidRow
import Derived.Deep.Cut
import Derived.Deep.RegionHeld3
import Derived.ChangeKeysEq
import Derived.Laws.StructEq
/- An array of integers that came in, opened: the list of its numbers. -/
namespace Go.Proofs.Ytjpjobbmljlacaa
open Go.ChangeShapes Go.WideShapes Go.ChangeAt Go.RowKit
set_option linter.unusedVariables false
set_option maxRecDepth 20000

theorem laidOut : laidOutB Try.prog = true := by kernel_rfl
theorem open_int_array {H : Type} {enc : TypeId × Value → H} {W : World} {base : Nat} {spare : Nat → Bool} {t e : TypeId} {n : Nat} {k : IntKind} {v : Value} {d : DataW H} {ps : List MemPlace}
    (ht : Try.prog.underlying t = some (.array n e)) (he : Try.prog.underlying e = some (.int k)) (hce : Try.prog.cellsOf e = 1) (hct : Try.prog.cellsOf t = n)
    (hok : Value.okWide Try.prog W .any base t v) (h : DataW.Trod enc Try.prog W 0 spare true t v d ps) :
    ∃ zs : List Int, v = .agg (zs.map (Value.int k)).toArray ∧ zs.length = n ∧ ∀ z ∈ zs, (Lit.int k z).wf = true := by
  obtain ⟨cs, rfl, hsz, _⟩ : ∃ cs, v = .agg cs ∧ cs.size = Try.prog.cellsOf t ∧ Row.okWide Try.prog W .any base t cs := by
    simpa [Value.okWide, ht] using hok
  rw [hct] at hsz
  obtain ⟨fuel, hf⟩ := h
  obtain ⟨xs, m, _, _, _, hl, hx⟩ := DataW.trod_array ht hf
  rw [hce] at hx
  have key : ∀ i (hi : i < cs.toList.length), ∃ z, cs.toList[i] = .int k z ∧ (Lit.int k z).wf = true := by
    intro i hi
    have hin : i < n := by simpa [hsz] using hi
    have h1 := hx i hin
    rw [List.getElem?_eq_getElem (by omega)] at h1
    obtain ⟨z, h2, _, h3⟩ := DataW.trod_int he h1
    refine ⟨z, ?_, h3⟩
    have h4 : (Value.cells (.agg cs)).toList = cs.toList := rfl
    rw [h4, Nat.mul_one] at h2
    have h5 : ((cs.toList.drop i).take 1)[0]? = some (.int k z) := by rw [h2]; rfl
    rw [List.getElem?_take, if_pos (by decide), List.getElem?_drop, Nat.add_zero, List.getElem?_eq_getElem hi] at h5
    exact Option.some.inj h5
  refine ⟨cs.toList.map intOf, ?_, by simpa using hsz, ?_⟩
  · congr 1
    apply Array.ext'
    simp only [List.map_map]
    apply List.ext_getElem
    · simp
    · intro i h1 h2
      obtain ⟨z, hz, _⟩ := key i h1
      rw [List.getElem_map, hz]
      rfl
  · intro z hz
    obtain ⟨u, hu, rfl⟩ := List.mem_map.1 hz
    obtain ⟨i, hi, rfl⟩ := List.getElem_of_mem hu
    obtain ⟨z, h1, h2⟩ := key i hi
    rw [h1]
    exact h2
theorem list4 {α : Type} (l : List α) (h : l.length = 4) : ∃ a b c d, l = [a, b, c, d] := by
  match l, h with
  | [a, b, c, d], _ => exact ⟨a, b, c, d, rfl⟩
end Go.Proofs.Ytjpjobbmljlacaa
/- An address (api.Addr) that came in, opened: its family, and the list of its bytes. -/
namespace Go.Proofs.Ytjpjobbmljlacaa
open Go.ChangeShapes Go.WideShapes Go.ChangeAt Go.RowKit
set_option linter.unusedVariables false
set_option maxRecDepth 20000

/-- An address, as a value. -/
def addrV (f : Int) (bs : List Nat) : Value := .agg (Value.int .i64 f :: bs.map fun n => Value.int .u8 ((n : Nat) : Int)).toArray
theorem ints_of_trod {H : Type} {enc : TypeId × Value → H} {W : World} {spare : Nat → Bool} {t e : TypeId} {n fuel : Nat} {k : IntKind} {l : List Value} {x : DataW H × List MemPlace}
    (ht : Try.prog.underlying t = some (.array n e)) (he : Try.prog.underlying e = some (.int k)) (hce : Try.prog.cellsOf e = 1) (hct : Try.prog.cellsOf t = n)
    (h : DataW.trod enc Try.prog W 0 spare true fuel t l = some x) : ∃ zs : List Int, l = zs.map (Value.int k) ∧ zs.length = n ∧ ∀ z ∈ zs, (Lit.int k z).wf = true := by
  obtain ⟨xs, m, _, _, hl0, hl, hx⟩ := DataW.trod_array ht h
  rw [hce] at hx
  rw [hct] at hl0
  have key : ∀ i (hi : i < l.length), ∃ z, l[i] = .int k z ∧ (Lit.int k z).wf = true := by
    intro i hi
    have h1 := hx i (by omega)
    rw [List.getElem?_eq_getElem (by omega)] at h1
    obtain ⟨z, h2, _, h3⟩ := DataW.trod_int he h1
    refine ⟨z, ?_, h3⟩
    rw [Nat.mul_one] at h2
    have h5 : ((l.drop i).take 1)[0]? = some (.int k z) := by rw [h2]; rfl
    rw [List.getElem?_take, if_pos (by decide), List.getElem?_drop, Nat.add_zero, List.getElem?_eq_getElem hi] at h5
    exact Option.some.inj h5
  refine ⟨l.map intOf, ?_, by simpa using hl0, ?_⟩
  · rw [List.map_map]
    apply List.ext_getElem
    · simp
    · intro i h1 h2
      obtain ⟨z, hz, _⟩ := key i h1
      rw [List.getElem_map, hz]
      rfl
  · intro z hz
    obtain ⟨u, hu, rfl⟩ := List.mem_map.1 hz
    obtain ⟨i, hi, rfl⟩ := List.getElem_of_mem hu
    obtain ⟨z, h1, h2⟩ := key i hi
    rw [h1]
    exact h2
theorem open_addr {H : Type} {enc : TypeId × Value → H} {W : World} {base : Nat} {spare : Nat → Bool} {v : Value} {d : DataW H} {ps : List MemPlace}
    (hok : Value.okWide Try.prog W .any base 30 v) (h : DataW.Trod enc Try.prog W 0 spare true 30 v d ps) :
    ∃ (f : Int) (bs : List Nat), v = addrV f bs ∧ (Lit.int .i64 f).wf = true ∧ bs.length = 16 ∧ ∀ x ∈ bs, x < 256 := by
  have hs := Try.underlying30
  obtain ⟨cs, rfl, hsz, _⟩ : ∃ cs, v = .agg cs ∧ cs.size = Try.prog.cellsOf 30 ∧ Row.okWide Try.prog W .any base 30 cs := by
    simpa [Value.okWide, hs] using hok
  rw [show Try.prog.cellsOf 30 = 17 by kernel_rfl] at hsz
  obtain ⟨fuel, hf⟩ := h
  obtain ⟨y0, y1, n, _, _, h0, h1⟩ := trod_struct2 hs hf
  have e0 : (Value.cells (.agg cs)).toList = cs.toList := rfl
  rw [e0] at h0 h1
  obtain ⟨f, h2, _, h3⟩ := DataW.trod_int Try.underlying3 h0
  obtain ⟨zs, h4, h5, h6⟩ := ints_of_trod Try.underlying28 Try.underlying5 (by kernel_rfl) (by kernel_rfl) h1
  have hc1 : Try.prog.cellsOf 3 = 1 := by kernel_rfl
  have hc16 : Try.prog.cellsOf 28 = 16 := by kernel_rfl
  refine ⟨f, zs.map Int.toNat, ?_, h3, by simpa using h5, ?_⟩
  · unfold addrV
    congr 1
    apply Array.ext'
    have e1 : cs.toList = (cs.toList.drop 0).take 1 ++ (cs.toList.drop 1).take 16 := by
      have : (cs.toList.drop 1).take 16 = cs.toList.drop 1 := List.take_of_length_le (by simp; omega)
      rw [this, List.drop_zero, List.take_append_drop]
    rw [e1]
    have e2 : (cs.toList.drop 0).take 1 = [Value.int .i64 f] := by rw [← h2, hc1]
    have e3 : (cs.toList.drop 1).take 16 = zs.map (Value.int .u8) := by rw [← h4, hc16]
    rw [e2, e3, List.map_map]
    show Value.int .i64 f :: zs.map (Value.int .u8) = Value.int .i64 f :: _
    congr 1
    apply List.map_congr_left
    intro z hz
    have := bounds_u8 (h6 z hz)
    show Value.int .u8 z = Value.int .u8 ((z.toNat : Nat) : Int)
    congr 1
    omega
  · intro x hx
    obtain ⟨z, hz, rfl⟩ := List.mem_map.1 hx
    have := bounds_u8 (h6 z hz)
    omega
end Go.Proofs.Ytjpjobbmljlacaa
/- Plain facts on texts as rows of bytes; nothing here speaks of the program. -/
namespace Go.Proofs.Ytjpjobbmljlacaa
open Go.RowKit
set_option linter.unusedVariables false
set_option maxRecDepth 20000

theorem bytes_ext {a b : ByteArray} (h : a.data.toList = b.data.toList) : a = b := by
  cases a; cases b
  simp only at h
  congr
  exact Array.ext' h
theorem isEmpty_true (s : ByteArray) (h : s.size = 0) : s.toList.isEmpty = true := by
  rw [ByteArray.toList_eq]
  have h2 : s.data.toList.length = s.size := by simp
  rw [List.eq_nil_of_length_eq_zero (h2.trans h)]
  rfl
theorem isEmpty_false (s : ByteArray) (h : 0 < s.size) : s.toList.isEmpty = false := by
  rw [ByteArray.toList_eq]
  have h2 : s.data.toList.length = s.size := by simp
  cases h3 : s.data.toList with
  | nil => rw [h3] at h2; simp at h2; omega
  | cons x l => rfl
theorem get!_eq (s : ByteArray) (j : Nat) (h : j < s.size) : s.get! j = s[j] := by
  cases s with | mk d => exact getElem!_pos d j h
theorem getElem_data (s : ByteArray) (j : Nat) (h : j < s.size) : s[j] = s.data.toList[j]'(by simpa using h) := rfl
theorem data_append (a b : ByteArray) : (a ++ b).data.toList = a.data.toList ++ b.data.toList := by simp
theorem data_extract (s : ByteArray) (i j : Nat) : (s.extract i j).data.toList = (s.data.toList.drop i).take (j - i) := Lib.toList_data (s.extract i j) ▸ Lib.extract_toList s i j
theorem append_left (a b : ByteArray) (j : Nat) (h : j < a.size) : ((a ++ b).get! j) = a[j] := by
  have h2 : j < (a ++ b).size := by simp; omega
  rw [get!_eq _ _ h2, getElem_data, getElem_data]
  have e := data_append a b
  have : ((a ++ b).data.toList)[j]? = (a.data.toList ++ b.data.toList)[j]? := by rw [e]
  rw [List.getElem?_eq_getElem (by simpa using h2), List.getElem?_append_left (by simpa using h), List.getElem?_eq_getElem (by simpa using h)] at this
  exact Option.some.inj this
theorem extract_right (a b : ByteArray) : (a ++ b).extract a.size (a ++ b).size = b := by
  apply bytes_ext
  rw [data_extract, data_append, List.drop_append_of_le_length (by simp)]
  have : a.data.toList.drop a.size = [] := List.drop_eq_nil_of_le (by simp)
  rw [this, List.nil_append]
  apply List.take_of_length_le
  simp
end Go.Proofs.Ytjpjobbmljlacaa
/- Contracts of the small functions of text and of its reference that every statement of the layer runs: Few, Split, Same, lives. -/
namespace Go.Proofs.Ytjpjobbmljlacaa
open Go.RowKit
set_option linter.unusedVariables false
set_option maxRecDepth 20000

theorem bool_ret {a b : Bool} (h : a = b) : Ending.returned (.bool a) = .returned (.bool b) := by rw [h]
theorem chain {a b c : World} (h : Below a.heap.size a b) (k : Below b.heap.size b c) : Below a.heap.size a c := h.trans (k.mono h.size)

theorem quiet_left {P : Program} {f : FuncId} {args : Array Value} {w : World} {n : Nat} {v : Value}
    (h : Calls P f args (w.drewN n) fun e w' => e = .returned v ∧ w.drewN n = w') : Calls P f args (w.drewN n) fun e w'' => e = .returned v ∧ ∃ m, w'' = w.drewN m :=
  h.mono fun _ _ ⟨he, hm⟩ => ⟨he, n, hm.symm⟩
theorem quiet_add_left {P : Program} {f : FuncId} {args : Array Value} {w : World} {a n : Nat} {v : Value}
    (h : Calls P f args (w.drewN (a + n)) fun e w' => e = .returned v ∧ w.drewN (a + n) = w') :
    Calls P f args (w.drewN (a + n)) fun e w'' => e = .returned v ∧ ∃ m, w'' = w.drewN (a + m) :=
  h.mono fun _ _ ⟨he, hm⟩ => ⟨he, n, hm.symm⟩

theorem add_none (b j : Nat) : (⟨b, 0, none⟩ : Addr).add j = ⟨b, j, none⟩ := by
  unfold Addr.add
  split <;> simp_all

/-- Bytes, as cells. -/
def bys (l : List UInt8) : List Value := l.map fun c => Value.int .u8 ((c.toNat : Nat) : Int)
theorem bys_length (l : List UInt8) : (bys l).length = l.length := by simp [bys]
theorem bys_snoc (l : List UInt8) (c : UInt8) : bys (l ++ [c]) = bys l ++ [.int .u8 ((c.toNat : Nat) : Int)] := by simp [bys]
theorem Try.infoByte : (Try.prog.info? 5).map (fun i => (i.zero, i.size, i.bytes)) = some (some (.int .u8 0), 1, 1) := by kernel_rfl
/-- 'string(b)' of a row of bytes of one's own. -/
theorem own_bytes_back {w : World} {B : Nat} {v : Value} {l : List UInt8} (h : w.ownsRow B 5 1 v l.length (bys l)) :
    (convert 97 9 v).run Try.prog w = .ok (.string ⟨l.toArray⟩) w := by
  by_cases h0 : 0 < l.length
  · obtain ⟨g, c, rfl, _, _⟩ := h.form h0
    refine run_convert_bytes_back (P := Try.prog) w 97 9 5 ⟨g, 0, none⟩ c l Try.underlying97 Try.underlying5 Try.underlying9 (fun j hj => ?_)
    rw [add_none, h.cellAt j (by omega)]
    simp [bys, hj]
  · have hl : l = [] := List.eq_nil_of_length_eq_zero (by omega)
    subst hl
    rcases h.2 with ⟨rfl, _⟩ | ⟨g, cap, cur, rfl, _⟩
    · rw [run_convert_bytes_string w 97 9 5 none 0 0 Try.underlying97 Try.underlying5 Try.underlying9]
      simp [Conv.bytesToString]
      rfl
    · exact run_convert_bytes_back (P := Try.prog) w 97 9 5 ⟨g, 0, none⟩ cap [] Try.underlying97 Try.underlying5 Try.underlying9 (fun j hj => by simp at hj)
/-- One more byte behind a row of bytes of one's own. -/
theorem own_byte {w0 wr w1 : World} {v v' : Value} {l : List UInt8} {x : UInt8} {o : Obj} (hown' : w1.ownsRow w0.heap.size 5 1 v' (l.length + 1) (bys l ++ [.int .u8 ((x.toNat : Nat) : Int)]))
    (hg : (wr.alloc o).grownBy w1 v.ownBlock) (hown : wr.ownsRow w0.heap.size 5 1 v l.length (bys l)) (hb : Below w0.heap.size w0 wr) :
    w1.ownsRow w0.heap.size 5 1 v' (l ++ [x]).length (bys (l ++ [x])) ∧ Below w0.heap.size w0 w1 := by
  refine ⟨by rw [bys_snoc]; simpa using hown', ?_⟩
  refine (hb.alloc hb.size o).grown hg (by have := hb.size; simp; omega) ?_
  intro k hk
  exact (hown.lt k hk).1

/-- 'string([]byte{c})'. -/
theorem one_byte (c : Nat) (hc : c < 256) (W : World) :
    (convert 97 9 (.slice (some ⟨W.heap.size, 0, none⟩) 1 1)).run Try.prog (W.alloc (.cells #[.int .u8 (c : Int)] 5)) = .ok (.string { data := #[UInt8.ofNat c] }) (W.alloc (.cells #[.int .u8 (c : Int)] 5)) := by
  have hb := run_convert_bytes_back (P := Try.prog) (W.alloc (.cells #[.int .u8 (c : Int)] 5)) 97 9 5 ⟨W.heap.size, 0, none⟩ 1 [UInt8.ofNat c] Try.underlying97 Try.underlying5 Try.underlying9 (by
    intro j hj
    obtain rfl : j = 0 := by simpa using hj
    rw [add_none]
    simp [World.cell?_alloc_new]
    omega)
  exact hb

/-- The first so many bytes. -/
def few (s : ByteArray) (n : Nat) : ByteArray := if n < s.size then s.extract 0 n else s
theorem few_size (s : ByteArray) (n : Nat) : (few s n).size ≤ n := by
  unfold few
  split
  · simp; omega
  · omega

/-- What a splitting reader holds behind the first k bytes: the pieces so far, and where the next one begins. -/
def sp (s : ByteArray) (sep : Nat) : Nat → List ByteArray × Nat
  | 0 => ([], 0)
  | k + 1 => if (s.data.toList.getD k 0).toNat = sep then ((sp s sep k).1 ++ [s.extract (sp s sep k).2 k], k + 1) else sp s sep k
def pieces (s : ByteArray) (sep : Nat) : List ByteArray := (sp s sep s.size).1 ++ [s.extract (sp s sep s.size).2 s.size]
theorem sp_le (s : ByteArray) (sep : Nat) : ∀ k, (sp s sep k).2 ≤ k ∧ (sp s sep k).1.length ≤ k
  | 0 => by simp [sp]
  | k + 1 => by
    have := sp_le s sep k
    unfold sp
    split
    · simp; omega
    · omega
theorem sp_hit (s : ByteArray) (sep k : Nat) (hk : k < s.size) (h : (s[k]).toNat = sep) : sp s sep (k + 1) = ((sp s sep k).1 ++ [s.extract (sp s sep k).2 k], k + 1) := by
  have e : s.data.toList.getD k 0 = s[k] := by
    rw [List.getD_eq_getElem?_getD, List.getElem?_eq_getElem (by simpa using hk)]; rfl
  rw [sp, e, if_pos h]
theorem sp_miss (s : ByteArray) (sep k : Nat) (hk : k < s.size) (h : ¬ (s[k]).toNat = sep) : sp s sep (k + 1) = sp s sep k := by
  have e : s.data.toList.getD k 0 = s[k] := by
    rw [List.getD_eq_getElem?_getD, List.getElem?_eq_getElem (by simpa using hk)]; rfl
  rw [sp, e, if_neg h]

/-- It returns a slice of its own that holds just these texts, and nothing that was there has turned. -/
def RetStrs (w : World) (l : List ByteArray) (e : Ending) (w' : World) : Prop :=
  ∃ v, e = .returned v ∧ w'.ownsRow w.heap.size 9 1 v l.length (l.map Value.string) ∧ Below w.heap.size w w'

theorem Try.infoString : (Try.prog.info? 9).map (fun i => (i.zero, i.size, i.bytes)) = some (some (.string ByteArray.empty), 1, 16) := by kernel_rfl

/-- One more text behind a row of texts of one's own. -/
theorem own_snoc {w0 wr w1 : World} {v v' : Value} {l : List ByteArray} {x : ByteArray} {o : Obj} (hown' : w1.ownsRow w0.heap.size 9 1 v' (l.length + 1) (l.map Value.string ++ [.string x]))
    (hg : (wr.alloc o).grownBy w1 v.ownBlock) (hown : wr.ownsRow w0.heap.size 9 1 v l.length (l.map Value.string)) (hb : Below w0.heap.size w0 wr) :
    w1.ownsRow w0.heap.size 9 1 v' (l ++ [x]).length ((l ++ [x]).map Value.string) ∧ Below w0.heap.size w0 w1 := by
  refine ⟨by simpa using hown', ?_⟩
  refine (hb.alloc hb.size o).grown hg (by have := hb.size; simp; omega) ?_
  intro k hk
  exact (hown.lt k hk).1

theorem pieces_example : pieces { data := #[97, 46, 46, 98] } 46 = [{ data := #[97] }, { data := #[] }, { data := #[98] }] := by kernel_rfl

/-- The cells of a row of texts. -/
theorem own_cells {w : World} {B g n c : Nat} {l : List ByteArray} (h : w.ownsRow B 9 1 (.slice (some ⟨g, 0, none⟩) n c) n (l.map Value.string)) :
    ∀ i (hi : i < l.length), w.cell? ⟨g, i, none⟩ = some (.string l[i]) := by
  intro i hi
  have hl : l.length = n := by simpa using h.1
  rw [h.cellAt i (by omega)]
  simp [hi]

theorem bcell {W w1 : World} (hb : Below W.heap.size W w1) : (∀ b o, b < W.heap.size → w1.cell? ⟨b, o, none⟩ = W.cell? ⟨b, o, none⟩) ∧ (∀ b o, b < W.heap.size → w1.frozen? ⟨b, o, none⟩ = W.frozen? ⟨b, o, none⟩) :=
  ⟨fun b o h => hb.cell (p := ⟨b, o, none⟩) h, fun b o h => hb.frozen (p := ⟨b, o, none⟩) h⟩
theorem belowN {B : Nat} {a w : World} (h : Below B a w) (n : Nat) : Below B a (w.drewN n) := ⟨h.os, h.tape, h.output, h.size, h.block⟩

end Go.Proofs.Ytjpjobbmljlacaa
/- A list of sixteen, written out. -/
namespace Go.Proofs.Ytjpjobbmljlacaa
theorem list16 {α : Type} (l : List α) (h : l.length = 16) : ∃ y0 y1 y2 y3 y4 y5 y6 y7 y8 y9 y10 y11 y12 y13 y14 y15, l = [y0, y1, y2, y3, y4, y5, y6, y7, y8, y9, y10, y11, y12, y13, y14, y15] := by
  match l, h with
  | [y0, y1, y2, y3, y4, y5, y6, y7, y8, y9, y10, y11, y12, y13, y14, y15], _ => exact ⟨y0, y1, y2, y3, y4, y5, y6, y7, y8, y9, y10, y11, y12, y13, y14, y15, rfl⟩
theorem list8 {α : Type} (l : List α) (h : l.length = 8) : ∃ a b c d e f g i, l = [a, b, c, d, e, f, g, i] := by
  match l, h with
  | [a, b, c, d, e, f, g, i], _ => exact ⟨a, b, c, d, e, f, g, i, rfl⟩
end Go.Proofs.Ytjpjobbmljlacaa
/- An address (api.Addr: 17 cells) in memory: its facts, stores of its bytes, a store of all of it. Written by mkaddr.py. -/
namespace Go.Proofs.Ytjpjobbmljlacaa
open Go.RowKit
set_option linter.unusedVariables false
set_option maxRecDepth 20000

theorem addrV_eq (f : Int) (y0 y1 y2 y3 y4 y5 y6 y7 y8 y9 y10 y11 y12 y13 y14 y15 : Nat) : addrV f [y0, y1, y2, y3, y4, y5, y6, y7, y8, y9, y10, y11, y12, y13, y14, y15] = .agg #[.int .i64 f, .int .u8 (y0 : Int), .int .u8 (y1 : Int), .int .u8 (y2 : Int), .int .u8 (y3 : Int), .int .u8 (y4 : Int), .int .u8 (y5 : Int), .int .u8 (y6 : Int), .int .u8 (y7 : Int), .int .u8 (y8 : Int), .int .u8 (y9 : Int), .int .u8 (y10 : Int), .int .u8 (y11 : Int), .int .u8 (y12 : Int), .int .u8 (y13 : Int), .int .u8 (y14 : Int), .int .u8 (y15 : Int)] := rfl
/-- An address lies at G. -/
structure AddrAt (w : World) (G : Nat) (f : Int) (bs : List Nat) : Prop where
  len : bs.length = 16
  lt : G < w.heap.size
  fam : w.cell? ⟨G, 0, none⟩ = some (.int .i64 f)
  cells : ∀ j, j < 16 → w.cell? ⟨G, 1 + j, none⟩ = some (.int .u8 ((bs.getD j 0 : Nat) : Int))
  live : ∀ j, j < 17 → w.frozen? ⟨G, j, none⟩ = false
theorem AddrAt.below {w w' : World} {G : Nat} {f : Int} {bs : List Nat} (h : AddrAt w G f bs) (hb : Below w.heap.size w w') : AddrAt w' G f bs :=
  ⟨h.len, Nat.lt_of_lt_of_le h.lt hb.size, by rw [hb.cell (p := ⟨G, 0, none⟩) h.lt]; exact h.fam, fun j hj => by rw [hb.cell (p := ⟨G, 1 + j, none⟩) h.lt]; exact h.cells j hj, fun j hj => by rw [hb.frozen (p := ⟨G, j, none⟩) h.lt]; exact h.live j hj⟩
theorem AddrAt.set {w : World} {G i : Nat} {f : Int} {bs : List Nat} (h : AddrAt w G f bs) (hi : i < 16) (v : Nat) : AddrAt (w.setCell ⟨G, 1 + i, none⟩ (.int .u8 ((v : Nat) : Int))) G f (bs.set i v) := by
  refine ⟨by simp [h.len], by simpa using h.lt, ?_, ?_, ?_⟩
  · rw [World.cell?_setCell_other _ _ _ _ (by intro h2; injection h2 with _ h3 _; omega)]
    exact h.fam
  · intro j hj
    by_cases e : j = i
    · subst e
      rw [World.cell?_setCell_same _ _ _ (h.cells j hj), List.getD_eq_getElem?_getD, List.getElem?_set_self (by rw [h.len]; exact hj)]
      rfl
    · rw [World.cell?_setCell_other _ _ _ _ (by intro h2; injection h2 with _ h3 _; omega), h.cells j hj, List.getD_eq_getElem?_getD, List.getD_eq_getElem?_getD, List.getElem?_set_ne (by omega)]
  · intro j hj
    rw [World.frozen?_setCell]
    exact h.live j hj
theorem AddrAt.setFam {w : World} {G : Nat} {f : Int} {bs : List Nat} (h : AddrAt w G f bs) (g : Int) : AddrAt (w.setCell ⟨G, 0, none⟩ (.int .i64 g)) G g bs := by
  refine ⟨h.len, by simpa using h.lt, World.cell?_setCell_same _ _ _ h.fam, ?_, ?_⟩
  · intro j hj
    rw [World.cell?_setCell_other _ _ _ _ (by intro h2; injection h2 with _ h3 _; omega)]
    exact h.cells j hj
  · intro j hj
    rw [World.frozen?_setCell]
    exact h.live j hj
theorem AddrAt.other {w : World} {G G' i : Nat} {f : Int} {bs : List Nat} (h : AddrAt w G f bs) (hG : G' ≠ G) (u : Value) : AddrAt (w.setCell ⟨G', i, none⟩ u) G f bs := by
  have hn : ∀ j, (⟨G', i, none⟩ : Addr) ≠ ⟨G, j, none⟩ := fun j h2 => by injection h2 with h3 _ _; exact hG h3
  refine ⟨h.len, by simpa using h.lt, by rw [World.cell?_setCell_other _ _ _ _ (hn _)]; exact h.fam, fun j hj => by rw [World.cell?_setCell_other _ _ _ _ (hn _)]; exact h.cells j hj, fun j hj => by rw [World.frozen?_setCell]; exact h.live j hj⟩
theorem AddrAt.of (w : World) (t : TypeId) (cs : Array Value) (f : Int) (bs : List Nat) (h16 : bs.length = 16) (h : cs.toList = Value.int .i64 f :: bs.map fun n => Value.int .u8 ((n : Nat) : Int)) : AddrAt (w.alloc (.cells cs t)) w.heap.size f bs := by
  have e : ∀ j, cs[j]? = (Value.int .i64 f :: bs.map fun n => Value.int .u8 ((n : Nat) : Int))[j]? := fun j => by rw [← h, Array.getElem?_toList]
  refine ⟨h16, by simp, ?_, ?_, fun j _ => World.frozen?_alloc_new _ _ _ _⟩
  · rw [World.cell?_alloc_new, e]; rfl
  · intro j hj
    rw [World.cell?_alloc_new, Nat.add_comm 1 j, e, List.getElem?_cons_succ, List.getElem?_map, List.getD_eq_getElem?_getD, List.getElem?_eq_getElem (by omega)]
    rfl
theorem AddrAt.new (w : World) (t : TypeId) (f : Int) (y0 y1 y2 y3 y4 y5 y6 y7 y8 y9 y10 y11 y12 y13 y14 y15 : Nat) : AddrAt (w.alloc (.cells #[.int .i64 f, .int .u8 (y0 : Int), .int .u8 (y1 : Int), .int .u8 (y2 : Int), .int .u8 (y3 : Int), .int .u8 (y4 : Int), .int .u8 (y5 : Int), .int .u8 (y6 : Int), .int .u8 (y7 : Int), .int .u8 (y8 : Int), .int .u8 (y9 : Int), .int .u8 (y10 : Int), .int .u8 (y11 : Int), .int .u8 (y12 : Int), .int .u8 (y13 : Int), .int .u8 (y14 : Int), .int .u8 (y15 : Int)] t)) w.heap.size f [y0, y1, y2, y3, y4, y5, y6, y7, y8, y9, y10, y11, y12, y13, y14, y15] := AddrAt.of w t _ f _ rfl rfl
theorem AddrAt.all {w : World} {G : Nat} {f : Int} {y0 y1 y2 y3 y4 y5 y6 y7 y8 y9 y10 y11 y12 y13 y14 y15 : Nat} (h : AddrAt w G f [y0, y1, y2, y3, y4, y5, y6, y7, y8, y9, y10, y11, y12, y13, y14, y15]) :
    w.cell? ⟨G, 0, none⟩ = some (.int .i64 f) ∧ w.cell? ⟨G, 1, none⟩ = some (.int .u8 (y0 : Int)) ∧ w.cell? ⟨G, 2, none⟩ = some (.int .u8 (y1 : Int)) ∧ w.cell? ⟨G, 3, none⟩ = some (.int .u8 (y2 : Int)) ∧ w.cell? ⟨G, 4, none⟩ = some (.int .u8 (y3 : Int)) ∧ w.cell? ⟨G, 5, none⟩ = some (.int .u8 (y4 : Int)) ∧ w.cell? ⟨G, 6, none⟩ = some (.int .u8 (y5 : Int)) ∧ w.cell? ⟨G, 7, none⟩ = some (.int .u8 (y6 : Int)) ∧ w.cell? ⟨G, 8, none⟩ = some (.int .u8 (y7 : Int)) ∧ w.cell? ⟨G, 9, none⟩ = some (.int .u8 (y8 : Int)) ∧ w.cell? ⟨G, 10, none⟩ = some (.int .u8 (y9 : Int)) ∧ w.cell? ⟨G, 11, none⟩ = some (.int .u8 (y10 : Int)) ∧ w.cell? ⟨G, 12, none⟩ = some (.int .u8 (y11 : Int)) ∧ w.cell? ⟨G, 13, none⟩ = some (.int .u8 (y12 : Int)) ∧ w.cell? ⟨G, 14, none⟩ = some (.int .u8 (y13 : Int)) ∧ w.cell? ⟨G, 15, none⟩ = some (.int .u8 (y14 : Int)) ∧ w.cell? ⟨G, 16, none⟩ = some (.int .u8 (y15 : Int)) :=
  ⟨h.fam, h.cells 0 (by decide), h.cells 1 (by decide), h.cells 2 (by decide), h.cells 3 (by decide), h.cells 4 (by decide), h.cells 5 (by decide), h.cells 6 (by decide), h.cells 7 (by decide), h.cells 8 (by decide), h.cells 9 (by decide), h.cells 10 (by decide), h.cells 11 (by decide), h.cells 12 (by decide), h.cells 13 (by decide), h.cells 14 (by decide), h.cells 15 (by decide)⟩
theorem AddrAt.lives {w : World} {G : Nat} {f : Int} {bs : List Nat} (h : AddrAt w G f bs) :
    w.frozen? ⟨G, 0, none⟩ = false ∧ w.frozen? ⟨G, 1, none⟩ = false ∧ w.frozen? ⟨G, 2, none⟩ = false ∧ w.frozen? ⟨G, 3, none⟩ = false ∧ w.frozen? ⟨G, 4, none⟩ = false ∧ w.frozen? ⟨G, 5, none⟩ = false ∧ w.frozen? ⟨G, 6, none⟩ = false ∧ w.frozen? ⟨G, 7, none⟩ = false ∧ w.frozen? ⟨G, 8, none⟩ = false ∧ w.frozen? ⟨G, 9, none⟩ = false ∧ w.frozen? ⟨G, 10, none⟩ = false ∧ w.frozen? ⟨G, 11, none⟩ = false ∧ w.frozen? ⟨G, 12, none⟩ = false ∧ w.frozen? ⟨G, 13, none⟩ = false ∧ w.frozen? ⟨G, 14, none⟩ = false ∧ w.frozen? ⟨G, 15, none⟩ = false ∧ w.frozen? ⟨G, 16, none⟩ = false :=
  ⟨h.live 0 (by decide), h.live 1 (by decide), h.live 2 (by decide), h.live 3 (by decide), h.live 4 (by decide), h.live 5 (by decide), h.live 6 (by decide), h.live 7 (by decide), h.live 8 (by decide), h.live 9 (by decide), h.live 10 (by decide), h.live 11 (by decide), h.live 12 (by decide), h.live 13 (by decide), h.live 14 (by decide), h.live 15 (by decide), h.live 16 (by decide)⟩
/-- An address, stored cell by cell. -/
def storeA (W : World) (R : Nat) (f : Int) (y0 y1 y2 y3 y4 y5 y6 y7 y8 y9 y10 y11 y12 y13 y14 y15 : Nat) : World := (((((((((((((((((W.setCell ⟨R, 0, none⟩ (.int .i64 f)).setCell ⟨R, 1, none⟩ (.int .u8 ((y0 : Nat) : Int))).setCell ⟨R, 2, none⟩ (.int .u8 ((y1 : Nat) : Int))).setCell ⟨R, 3, none⟩ (.int .u8 ((y2 : Nat) : Int))).setCell ⟨R, 4, none⟩ (.int .u8 ((y3 : Nat) : Int))).setCell ⟨R, 5, none⟩ (.int .u8 ((y4 : Nat) : Int))).setCell ⟨R, 6, none⟩ (.int .u8 ((y5 : Nat) : Int))).setCell ⟨R, 7, none⟩ (.int .u8 ((y6 : Nat) : Int))).setCell ⟨R, 8, none⟩ (.int .u8 ((y7 : Nat) : Int))).setCell ⟨R, 9, none⟩ (.int .u8 ((y8 : Nat) : Int))).setCell ⟨R, 10, none⟩ (.int .u8 ((y9 : Nat) : Int))).setCell ⟨R, 11, none⟩ (.int .u8 ((y10 : Nat) : Int))).setCell ⟨R, 12, none⟩ (.int .u8 ((y11 : Nat) : Int))).setCell ⟨R, 13, none⟩ (.int .u8 ((y12 : Nat) : Int))).setCell ⟨R, 14, none⟩ (.int .u8 ((y13 : Nat) : Int))).setCell ⟨R, 15, none⟩ (.int .u8 ((y14 : Nat) : Int))).setCell ⟨R, 16, none⟩ (.int .u8 ((y15 : Nat) : Int)))
theorem storeA_at {W : World} {R : Nat} {g : Int} {bs : List Nat} (f : Int) (y0 y1 y2 y3 y4 y5 y6 y7 y8 y9 y10 y11 y12 y13 y14 y15 : Nat) (h : AddrAt W R g bs) : AddrAt (storeA W R f y0 y1 y2 y3 y4 y5 y6 y7 y8 y9 y10 y11 y12 y13 y14 y15) R f [y0, y1, y2, y3, y4, y5, y6, y7, y8, y9, y10, y11, y12, y13, y14, y15] := by
  obtain ⟨z0, z1, z2, z3, z4, z5, z6, z7, z8, z9, z10, z11, z12, z13, z14, z15, rfl⟩ := list16 bs h.len
  exact (((((((((((((((((h.setFam f).set (i := 0) (by decide) y0).set (i := 1) (by decide) y1).set (i := 2) (by decide) y2).set (i := 3) (by decide) y3).set (i := 4) (by decide) y4).set (i := 5) (by decide) y5).set (i := 6) (by decide) y6).set (i := 7) (by decide) y7).set (i := 8) (by decide) y8).set (i := 9) (by decide) y9).set (i := 10) (by decide) y10).set (i := 11) (by decide) y11).set (i := 12) (by decide) y12).set (i := 13) (by decide) y13).set (i := 14) (by decide) y14).set (i := 15) (by decide) y15)
theorem storeA_below {w W : World} {R : Nat} (f : Int) (y0 y1 y2 y3 y4 y5 y6 y7 y8 y9 y10 y11 y12 y13 y14 y15 : Nat) (h : Below w.heap.size w W) (hR : w.heap.size ≤ R) : Below w.heap.size w (storeA W R f y0 y1 y2 y3 y4 y5 y6 y7 y8 y9 y10 y11 y12 y13 y14 y15) :=
  (((((((((((((((((h.setCell (p := ⟨R, 0, none⟩) hR _).setCell (p := ⟨R, 1, none⟩) hR _).setCell (p := ⟨R, 2, none⟩) hR _).setCell (p := ⟨R, 3, none⟩) hR _).setCell (p := ⟨R, 4, none⟩) hR _).setCell (p := ⟨R, 5, none⟩) hR _).setCell (p := ⟨R, 6, none⟩) hR _).setCell (p := ⟨R, 7, none⟩) hR _).setCell (p := ⟨R, 8, none⟩) hR _).setCell (p := ⟨R, 9, none⟩) hR _).setCell (p := ⟨R, 10, none⟩) hR _).setCell (p := ⟨R, 11, none⟩) hR _).setCell (p := ⟨R, 12, none⟩) hR _).setCell (p := ⟨R, 13, none⟩) hR _).setCell (p := ⟨R, 14, none⟩) hR _).setCell (p := ⟨R, 15, none⟩) hR _).setCell (p := ⟨R, 16, none⟩) hR _)
end Go.Proofs.Ytjpjobbmljlacaa
/- Groups and their bytes; plain facts. -/
namespace Go.Proofs.Ytjpjobbmljlacaa
open Go.RowKit
set_option linter.unusedVariables false
set_option maxRecDepth 20000

/-- The bytes of groups, the higher one first. -/
def byL (gs : List Nat) : List Nat := gs.flatMap fun x => [x / 256, x % 256]
def arr16 (l : List Nat) : Value := .agg (l.map fun n => Value.int .u8 ((n : Nat) : Int)).toArray
theorem byL_snoc (l : List Nat) (x : Nat) : byL (l ++ [x]) = byL l ++ [x / 256, x % 256] := by simp [byL]
theorem byL_len : ∀ l : List Nat, (byL l).length = 2 * l.length
  | [] => rfl
  | x :: r => by
    have ih := byL_len r
    show ([x / 256, x % 256] ++ byL r).length = _
    rw [List.length_append, ih, List.length_cons]
    simp
    omega
/-- Two bytes laid behind those of the first k groups. -/
theorem set_two (l : List Nat) (k a b : Nat) (hk : k < 8) (hl : l.length = 2 * k) : ((l ++ List.replicate (16 - 2 * k) 0).set (2 * k) a).set (2 * k + 1) b = (l ++ [a, b]) ++ List.replicate (16 - 2 * (k + 1)) 0 := by
  rw [show 16 - 2 * k = (16 - 2 * (k + 1)) + 1 + 1 by omega, List.replicate_succ, List.replicate_succ, List.set_append_right _ _ (by omega), hl, Nat.sub_self, List.set_cons_zero, List.set_append_right _ _ (by omega), hl, show 2 * k + 1 - 2 * k = 0 + 1 by omega, List.set_cons_succ, List.set_cons_zero]
  simp
/-- The groups of bytes. -/
def grL (bs : List Nat) : Nat → List Nat
  | 0 => []
  | k + 1 => grL bs k ++ [bs.getD (2 * k) 0 * 256 + bs.getD (2 * k + 1) 0]
theorem grL_len (bs : List Nat) : ∀ k, (grL bs k).length = k
  | 0 => rfl
  | k + 1 => by rw [grL, List.length_append, grL_len bs k]; rfl
theorem grL_byL (gs : List Nat) (h8 : gs.length = 8) : grL (byL gs) 8 = gs := by
  obtain ⟨x0, x1, x2, x3, x4, x5, x6, x7, rfl⟩ := list8 gs h8
  simp [grL, byL]
  omega
theorem byL_grL (bs : List Nat) (h : bs.length = 16) (hlt : ∀ x ∈ bs, x < 256) : byL (grL bs 8) = bs := by
  obtain ⟨y0, y1, y2, y3, y4, y5, y6, y7, y8, y9, y10, y11, y12, y13, y14, y15, rfl⟩ := list16 bs h
  simp at hlt
  simp [grL, byL]
  omega
theorem grL_lt (bs : List Nat) (hlt : ∀ x ∈ bs, x < 256) : ∀ k, ∀ x ∈ grL bs k, x < 65536
  | 0, x, h => by simp [grL] at h
  | k + 1, x, h => by
    rw [grL] at h
    rcases List.mem_append.1 h with h | h
    · exact grL_lt bs hlt k x h
    · have g : ∀ j, bs.getD j 0 < 256 := by
        intro j
        rw [List.getD_eq_getElem?_getD]
        cases hj : bs[j]? with
        | none => exact Nat.zero_lt_succ _
        | some v => exact hlt v (List.mem_of_getElem? hj)
      have h1 := g (2 * k)
      have h2 := g (2 * k + 1)
      rw [List.mem_singleton] at h
      omega
theorem byL_lt (gs : List Nat) (hlt : ∀ x ∈ gs, x < 65536) : ∀ x ∈ byL gs, x < 256 := by
  intro x hx
  obtain ⟨y, hy, h⟩ := List.mem_flatMap.1 hx
  have := hlt y hy
  simp at h
  omega
theorem set_one (l : List Nat) (k a : Nat) (hk : k < 8) (hl : l.length = k) : (l ++ List.replicate (8 - k) 0).set k a = (l ++ [a]) ++ List.replicate (8 - (k + 1)) 0 := by
  rw [show 8 - k = (8 - (k + 1)) + 1 by omega, List.replicate_succ, List.set_append_right _ _ (by omega), hl, Nat.sub_self, List.set_cons_zero]
  simp
end Go.Proofs.Ytjpjobbmljlacaa
/- Contracts of the reference's Four, Groups, Of4, Of6 of layer 4. -/
namespace Go.Proofs.Ytjpjobbmljlacaa
open Go.RowKit
set_option linter.unusedVariables false
set_option maxRecDepth 20000

theorem byte_lt {bs : List Nat} (h : ∀ x ∈ bs, x < 256) (j : Nat) : bs.getD j 0 < 256 := by
  rw [List.getD_eq_getElem?_getD]
  cases hj : bs[j]? with
  | none => exact Nat.zero_lt_succ _
  | some v => exact h v (List.mem_of_getElem? hj)
/-- The number of the first k bytes. -/
def fourTo (bs : List Nat) : Nat → Nat
  | 0 => 0
  | k + 1 => fourTo bs k * 256 + bs.getD k 0
def fourB (bs : List Nat) : Nat := fourTo bs 4
theorem fourTo_lt (bs : List Nat) (h : ∀ x ∈ bs, x < 256) : ∀ k, fourTo bs k < 256 ^ k
  | 0 => Nat.zero_lt_one
  | k + 1 => by
    have h1 := fourTo_lt bs h k
    have h2 := byte_lt h k
    rw [fourTo, Nat.pow_succ]
    omega
set_option maxRecDepth 100000 in
set_option maxHeartbeats 1000000 in
theorem refFour_any (f : Int) (bs : List Nat) (w : World) (h16 : bs.length = 16) (hlt : ∀ x ∈ bs, x < 256) :
    Calls Try.prog 31 #[addrV f bs] w fun e w' => e = .returned (.int .u32 ((fourB bs : Nat) : Int)) ∧ Below w.heap.size w w' := by
  have HLT := Lib.hid hlt
  obtain ⟨y0, y1, y2, y3, y4, y5, y6, y7, y8, y9, y10, y11, y12, y13, y14, y15, hbs⟩ := list16 bs h16
  have hA := AddrAt.new w 30 f y0 y1 y2 y3 y4 y5 y6 y7 y8 y9 y10 y11 y12 y13 y14 y15
  have b0 : Below w.heap.size w (w.alloc (.cells #[.int .i64 f, .int .u8 (y0 : Int), .int .u8 (y1 : Int), .int .u8 (y2 : Int), .int .u8 (y3 : Int), .int .u8 (y4 : Int), .int .u8 (y5 : Int), .int .u8 (y6 : Int), .int .u8 (y7 : Int), .int .u8 (y8 : Int), .int .u8 (y9 : Int), .int .u8 (y10 : Int), .int .u8 (y11 : Int), .int .u8 (y12 : Int), .int .u8 (y13 : Int), .int .u8 (y14 : Int), .int .u8 (y15 : Int)] 30)) := (Below.refl _ _).alloc (Nat.le_refl _) _
  have ha : addrV f bs = .agg #[.int .i64 f, .int .u8 (y0 : Int), .int .u8 (y1 : Int), .int .u8 (y2 : Int), .int .u8 (y3 : Int), .int .u8 (y4 : Int), .int .u8 (y5 : Int), .int .u8 (y6 : Int), .int .u8 (y7 : Int), .int .u8 (y8 : Int), .int .u8 (y9 : Int), .int .u8 (y10 : Int), .int .u8 (y11 : Int), .int .u8 (y12 : Int), .int .u8 (y13 : Int), .int .u8 (y14 : Int), .int .u8 (y15 : Int)] := by rw [hbs]; rfl
  rw [← hbs] at hA
  rw [ha]
  clear ha hbs hlt h16
  go_enter Try.func31, Try.ntmps31
  go_wp2_with fail
  generalize (w.alloc (.cells #[.int .i64 f, .int .u8 (y0 : Int), .int .u8 (y1 : Int), .int .u8 (y2 : Int), .int .u8 (y3 : Int), .int .u8 (y4 : Int), .int .u8 (y5 : Int), .int .u8 (y6 : Int), .int .u8 (y7 : Int), .int .u8 (y8 : Int), .int .u8 (y9 : Int), .int .u8 (y10 : Int), .int .u8 (y11 : Int), .int .u8 (y12 : Int), .int .u8 (y13 : Int), .int .u8 (y14 : Int), .int .u8 (y15 : Int)] 30)) = W at *
  have HA := Lib.hid hA
  clear hA
  go_loop [3, 4] (fun t i => ∃ k X : Nat, k ≤ 4 ∧ i = .int .i64 k ∧ t = .int .u32 (X : Int) ∧ X < 256 ^ k ∧ Hid (X = fourTo bs k)) (fun _ i => 4 - (intOf i).toNat)
  case atStart => exact ⟨0, 0, by decide, rfl, rfl, by decide, Lib.hid rfl⟩
  case round =>
    obtain ⟨k, X, hk, rfl, rfl, hX, HX⟩ := hrel
    by_cases hk4 : k < 4
    · have hcell := HA.out.cells k (by omega)
      have hy := byte_lt HLT.out k
      obtain ⟨y, ey⟩ : ∃ y, bs.getD k 0 = y := ⟨_, rfl⟩
      rw [ey] at hcell hy
      have HY := Lib.hid ey
      clear ey
      have hXb : X ≤ 16777215 := by
        have : X < 256 ^ 3 := Nat.lt_of_lt_of_le hX (Nat.pow_le_pow_right (by decide) (by omega))
        omega
      have q1 : IntKind.u32.wrap ((X : Int) * 256) = (X : Int) * 256 := by rw [IntKind.wrap_u32]; omega
      obtain ⟨Z, hZ, eZ⟩ : ∃ Z : Nat, X * 256 + y = Z ∧ (X : Int) * 256 + (y : Int) = (Z : Int) := ⟨_, rfl, by omega⟩
      have q2 : IntKind.u32.wrap (Z : Int) = (Z : Int) := by rw [IntKind.wrap_u32]; omega
      have hk16 : (k : Int) < 16 := by omega
      have hZ2 : Z < 256 ^ (k + 1) := by rw [Nat.pow_succ]; omega
      have HZ : Hid (Z = fourTo bs (k + 1)) := Lib.hid (by rw [fourTo, ← HX.out, HY.out, hZ])
      clear hZ hX
      go_wp2_with fail
      go_round
      case rel => exact ⟨k + 1, Z, by omega, by go_num, by go_num, hZ2, HZ⟩
      case measure => simp [intOf]; omega
    · obtain rfl : k = 4 := by omega
      go_wp2_with fail
      go_ret
      exact ⟨by rw [HX.out]; rfl, b0⟩

end Go.Proofs.Ytjpjobbmljlacaa
/- An address in memory, read and stored whole (17 cells as one list), and given back as the result. -/
namespace Go.Proofs.Ytjpjobbmljlacaa
open Go.RowKit
set_option linter.unusedVariables false
set_option maxRecDepth 20000

/-- The cells of an address. -/
def addrL (f : Int) (bs : List Nat) : List Value := Value.int .i64 f :: bs.map fun n => Value.int .u8 ((n : Nat) : Int)
theorem addrL_len (f : Int) (bs : List Nat) (h : bs.length = 16) : (addrL f bs).length = 17 := by simp [addrL, h]
theorem addrV_L (f : Int) (bs : List Nat) : addrV f bs = .agg (addrL f bs).toArray := rfl
theorem addrL_one (f : Int) (bs : List Nat) : (addrL f bs).toArray.all (·.oneCell') = true := all_oneCell_toArray fun v hv => by
  rcases List.mem_cons.1 hv with rfl | hv
  · rfl
  · obtain ⟨n, _, rfl⟩ := List.mem_map.1 hv
    rfl
theorem AddrAt.range {w : World} {G : Nat} {f : Int} {bs : List Nat} (h : AddrAt w G f bs) : w.rangeAt G 0 (addrL f bs) := by
  intro j v hv
  rw [Nat.zero_add]
  cases j with
  | zero => rw [h.fam, ← hv]; rfl
  | succ j =>
    have hv2 : (bs.map fun n => Value.int .u8 ((n : Nat) : Int))[j]? = some v := hv
    rw [List.getElem?_map] at hv2
    have hj : j < 16 := by
      rw [← h.len]
      apply Classical.byContradiction
      intro h2
      rw [List.getElem?_eq_none (by omega)] at hv2
      cases hv2
    have h3 := h.cells j hj
    rw [Nat.add_comm 1 j] at h3
    rw [h3, ← hv2, List.getD_eq_getElem?_getD, List.getElem?_eq_getElem (by rw [h.len]; exact hj)]
    rfl
theorem AddrAt.there {w : World} {G : Nat} {f : Int} {bs : List Nat} (h : AddrAt w G f bs) : w.there G 0 17 := by
  intro j hj
  rw [Nat.zero_add]
  refine ⟨?_, h.live j hj⟩
  cases j with
  | zero => rw [h.fam]; rfl
  | succ j => have h3 := h.cells j (by omega); rw [Nat.add_comm 1 j] at h3; rw [h3]; rfl
theorem AddrAt.ofRange {w : World} {G : Nat} {f : Int} {bs : List Nat} (hl : bs.length = 16) (hlt : G < w.heap.size) (h : w.rangeAt G 0 (addrL f bs)) (ht : w.there G 0 17) : AddrAt w G f bs := by
  refine ⟨hl, hlt, h 0 _ rfl, ?_, fun j hj => ?_⟩
  · intro j hj
    have h1 := h (1 + j) (.int .u8 ((bs.getD j 0 : Nat) : Int)) (by
      rw [addrL, Nat.add_comm 1 j, List.getElem?_cons_succ, List.getElem?_map, List.getD_eq_getElem?_getD, List.getElem?_eq_getElem (by omega)]; rfl)
    rw [Nat.zero_add] at h1
    exact h1
  · have h1 := (ht j hj).2
    rw [Nat.zero_add] at h1
    exact h1
theorem size_setCells (b : Nat) : ∀ (vs : List Value) (o : Nat) (w : World), (w.setCells b o vs).heap.size = w.heap.size
  | [], _, _ => rfl
  | v :: r, o, w => by rw [World.setCells, size_setCells b r]; simp
theorem below_cells {B b : Nat} {a : World} (hb : B ≤ b) : ∀ (vs : List Value) (o : Nat) (w : World), Below B a w → Below B a (w.setCells b o vs)
  | [], _, _, h => h
  | v :: r, o, w, h => by rw [World.setCells]; exact below_cells hb r _ _ (h.setCell (p := ⟨b, o, none⟩) hb v)
theorem AddrAt.stored {w : World} {G : Nat} {g : Int} {bs : List Nat} (h : AddrAt w G g bs) (f : Int) (cs : List Nat) (hl : cs.length = 16) : AddrAt (w.setCells G 0 (addrL f cs)) G f cs := by
  have ht : w.there G 0 (addrL f cs).length := by rw [addrL_len f cs hl]; exact h.there
  exact AddrAt.ofRange hl (by rw [size_setCells]; exact h.lt) (World.rangeAt_setCells_same w G 0 _ ht) (World.there_setCells h.there G 0 _)
theorem AddrAt.apart {w : World} {G G' o : Nat} {g : Int} {bs : List Nat} (h : AddrAt w G g bs) (hG : G ≠ G') (vs : List Value) : AddrAt (w.setCells G' o vs) G g bs :=
  AddrAt.ofRange h.len (by rw [size_setCells]; exact h.lt) (World.rangeAt_setCells_apart h.range _ _ _ (.inl hG)) (World.there_setCells h.there _ _ _)
theorem addr_size : (Try.prog.info? 30).map (·.size) = some 17 := by kernel_rfl
theorem loadVar_addr {w : World} {G : Nat} {f : Int} {bs : List Nat} (h : AddrAt w G f bs) : (loadVar 30 ⟨G, 0, none⟩).run Try.prog w = .ok (addrV f bs) w :=
  run_loadVar_mid w G 0 30 (addrL f bs) _ h.range Try.underlying30 rfl (by rw [addr_size, addrL_len f bs h.len])
/-- An address, loaded whole. -/
theorem load_addr {ops : Array Oper} {rest : List Oper} {op : Oper} {a : Act} {w : World} {Q : Exit → Act → World → Prop} {G : Nat} {f : Int} {bs : List Nat} (hA : Hid (AddrAt w G f bs)) (x : Operand) (hgd : op.guard = none) (ho : op.op = .load 30 x)
    (hx : a.eval x = .pointer (some ⟨G, 0, none⟩)) (h : wpList Try.prog ops Q rest (a.put op.dst (addrV f bs)) w) : wpList Try.prog ops Q (op :: rest) a w :=
  wpList_load_mid hgd 30 x ho G 0 hx (addrL f bs) _ hA.out.range Try.underlying30 rfl (by rw [addr_size, addrL_len f bs hA.out.len]) h
/-- An address, stored whole: the world behind it is any that is so. -/
theorem store_addr {ops : Array Oper} {rest : List Oper} {op : Oper} {a : Act} {w : World} {Q : Exit → Act → World → Prop} {G : Nat} {g : Int} {bs0 : List Nat} (hA : Hid (AddrAt w G g bs0)) (x y : Operand) {f : Int} {bs : List Nat} (hl : Hid (bs.length = 16)) (hgd : op.guard = none) (ho : op.op = .store 30 x y)
    (hx : a.eval x = .pointer (some ⟨G, 0, none⟩)) (hy : a.eval y = addrV f bs) (h : ∀ W, Hid (W = w.setCells G 0 (addrL f bs)) → Hid (AddrAt W G f bs) → wpList Try.prog ops Q rest (a.put op.dst undef) W) : wpList Try.prog ops Q (op :: rest) a w :=
  wpList_store_mid hgd 30 x y ho G 0 (addrL f bs).toArray hx hy (by rw [List.size_toArray, addrL_len f bs hl.out]; exact hA.out.there) (by rw [addr_size, List.size_toArray, addrL_len f bs hl.out]) (addrL_one f bs) (h _ (Lib.hid rfl) (Lib.hid (hA.out.stored f bs hl.out)))
/-- An address, given back out of its cells. -/
theorem results_addr {fn : Func} {a : Tmp} {tmps : Array Value} {W : World} {R : Nat} {f : Int} {bs : List Nat} (h : fn.results = #[.cell a 30]) (ha : tmps.getD a undef = .pointer (some ⟨R, 0, none⟩)) (hA : AddrAt W R f bs) : (results fn tmps).run Try.prog W = .ok (addrV f bs) W := by
  rw [Array.getD_eq_getD_getElem?] at ha
  simp [results, h, ha, asAddr, loadVar_addr hA]
/-- .. and beside it what lies in a slot. -/
theorem results_addr2 {fn : Func} {a t : Tmp} {tmps : Array Value} {W : World} {R : Nat} {f : Int} {bs : List Nat} (h : fn.results = #[.cell a 30, .tmp t]) (ha : tmps.getD a undef = .pointer (some ⟨R, 0, none⟩)) (hA : AddrAt W R f bs) : (results fn tmps).run Try.prog W = .ok (.tuple #[addrV f bs, tmps.getD t undef]) W := by
  rw [Array.getD_eq_getD_getElem?] at ha
  simp [results, h, ha, asAddr, loadVar_addr hA]
end Go.Proofs.Ytjpjobbmljlacaa
/- Contracts of the reference's Bits, Bit, May, Compare of layer 4. -/
namespace Go.Proofs.Ytjpjobbmljlacaa
open Go.RowKit
set_option linter.unusedVariables false
set_option maxRecDepth 20000

/-- How many bits. -/
def bitsN (f : Int) : Nat := if f = 4 then 32 else if f = 6 then 128 else 0
set_option maxRecDepth 100000 in
theorem refBits_any (f : Int) (bs : List Nat) (w : World) (h16 : bs.length = 16) :
    Calls Try.prog 36 #[addrV f bs] w fun e w' => e = .returned (.int .i64 ((bitsN f : Nat) : Int)) ∧ Below w.heap.size w w' := by
  obtain ⟨y0, y1, y2, y3, y4, y5, y6, y7, y8, y9, y10, y11, y12, y13, y14, y15, hbs⟩ := list16 bs h16
  have ha : addrV f bs = .agg #[.int .i64 f, .int .u8 (y0 : Int), .int .u8 (y1 : Int), .int .u8 (y2 : Int), .int .u8 (y3 : Int), .int .u8 (y4 : Int), .int .u8 (y5 : Int), .int .u8 (y6 : Int), .int .u8 (y7 : Int), .int .u8 (y8 : Int), .int .u8 (y9 : Int), .int .u8 (y10 : Int), .int .u8 (y11 : Int), .int .u8 (y12 : Int), .int .u8 (y13 : Int), .int .u8 (y14 : Int), .int .u8 (y15 : Int)] := by rw [hbs]; rfl
  rw [ha]
  clear ha hbs h16
  by_cases h4 : f = 4
  · subst h4
    go_enter Try.func36, Try.ntmps36
    go_wp2_with fail
    go_ret
    exact ⟨rfl, by first | exact Below.refl _ _ | exact (Below.refl _ _).alloc (Nat.le_refl _) _⟩
  · by_cases h6 : f = 6
    · subst h6
      go_enter Try.func36, Try.ntmps36
      go_wp2_with fail
      go_ret
      exact ⟨rfl, by first | exact Below.refl _ _ | exact (Below.refl _ _).alloc (Nat.le_refl _) _⟩
    · go_enter Try.func36, Try.ntmps36
      go_wp2_with fail
      go_ret
      exact ⟨by rw [bitsN, if_neg h4, if_neg h6]; rfl, by first | exact Below.refl _ _ | exact (Below.refl _ _).alloc (Nat.le_refl _) _⟩
end Go.Proofs.Ytjpjobbmljlacaa
/- Contract of the reference's Bit of layer 4. -/
namespace Go.Proofs.Ytjpjobbmljlacaa
open Go.RowKit
set_option linter.unusedVariables false
set_option maxRecDepth 20000

/-- The bit at a place. -/
def bitN (f : Int) (bs : List Nat) (i : Int) : Nat := if 0 ≤ i ∧ i < (bitsN f : Int) then bs.getD (i.toNat / 8) 0 / 2 ^ (7 - i.toNat % 8) % 2 else 0
theorem bitsN_le (f : Int) : bitsN f ≤ 128 := by
  unfold bitsN
  split
  · decide
  · split <;> decide
set_option maxRecDepth 100000 in
set_option maxHeartbeats 1000000 in
theorem refBit_any (f : Int) (bs : List Nat) (i : Int) (w : World) (h16 : bs.length = 16) (hlt : ∀ x ∈ bs, x < 256) (hi : (Lit.int .i64 i).wf = true) :
    Calls Try.prog 32 #[addrV f bs, .int .i64 i] w fun e w' => e = .returned (.int .i64 ((bitN f bs i : Nat) : Int)) ∧ Below w.heap.size w w' := by
  have HLT := Lib.hid hlt
  have HB := fun W => Lib.hid (refBits_any f bs W h16)
  obtain ⟨y0, y1, y2, y3, y4, y5, y6, y7, y8, y9, y10, y11, y12, y13, y14, y15, hbs⟩ := list16 bs h16
  have ha : addrV f bs = .agg #[.int .i64 f, .int .u8 (y0 : Int), .int .u8 (y1 : Int), .int .u8 (y2 : Int), .int .u8 (y3 : Int), .int .u8 (y4 : Int), .int .u8 (y5 : Int), .int .u8 (y6 : Int), .int .u8 (y7 : Int), .int .u8 (y8 : Int), .int .u8 (y9 : Int), .int .u8 (y10 : Int), .int .u8 (y11 : Int), .int .u8 (y12 : Int), .int .u8 (y13 : Int), .int .u8 (y14 : Int), .int .u8 (y15 : Int)] := by rw [hbs]; rfl
  rw [ha]
  rw [ha] at HB
  have hA := AddrAt.new w 30 f y0 y1 y2 y3 y4 y5 y6 y7 y8 y9 y10 y11 y12 y13 y14 y15
  rw [← hbs] at hA
  have B0 : Hid (Below w.heap.size w (w.alloc (.cells #[.int .i64 f, .int .u8 (y0 : Int), .int .u8 (y1 : Int), .int .u8 (y2 : Int), .int .u8 (y3 : Int), .int .u8 (y4 : Int), .int .u8 (y5 : Int), .int .u8 (y6 : Int), .int .u8 (y7 : Int), .int .u8 (y8 : Int), .int .u8 (y9 : Int), .int .u8 (y10 : Int), .int .u8 (y11 : Int), .int .u8 (y12 : Int), .int .u8 (y13 : Int), .int .u8 (y14 : Int), .int .u8 (y15 : Int)] 30))) := Lib.hid ((Below.refl _ _).alloc (Nat.le_refl _) _)
  have HA := Lib.hid hA
  clear ha hbs h16 hlt hA
  by_cases h0 : i < 0
  · rw [show bitN f bs i = 0 from if_neg (by omega)]
    go_enter Try.func32, Try.ntmps32
    go_wp2_with fail
    go_ret
    exact ⟨rfl, B0.out⟩
  · obtain ⟨n, rfl⟩ : ∃ n : Nat, i = (n : Int) := ⟨i.toNat, by omega⟩
    have hb := bitsN_le f
    obtain ⟨N, eN⟩ : ∃ N, bitsN f = N := ⟨_, rfl⟩
    have EN := Lib.hid eN
    rw [eN] at HB hb
    clear eN
    replace h0 : ¬ ((n : Int) < 0) := by omega
    go_enter Try.func32, Try.ntmps32
    go_wp2_with fail
    generalize (w.alloc (.cells #[.int .i64 f, .int .u8 (y0 : Int), .int .u8 (y1 : Int), .int .u8 (y2 : Int), .int .u8 (y3 : Int), .int .u8 (y4 : Int), .int .u8 (y5 : Int), .int .u8 (y6 : Int), .int .u8 (y7 : Int), .int .u8 (y8 : Int), .int .u8 (y9 : Int), .int .u8 (y10 : Int), .int .u8 (y11 : Int), .int .u8 (y12 : Int), .int .u8 (y13 : Int), .int .u8 (y14 : Int), .int .u8 (y15 : Int)] 30)) = W at *
    refine (HB W).out.mono ?_
    rintro e w1 ⟨rfl, hb1⟩
    have HA1 := Lib.hid (HA.out.below hb1)
    have B1 := Lib.hid (chain B0.out hb1)
    clear HA B0 hb1 HB
    by_cases hn : n < N
    · have hq : n / 8 < 16 := by omega
      have hcell := HA1.out.cells (n / 8) hq
      have hx := byte_lt HLT.out (n / 8)
      have HR : Hid (bitN f bs (n : Int) = bs.getD (n / 8) 0 / 2 ^ (7 - n % 8) % 2) := Lib.hid (by
        unfold bitN
        rw [EN.out, if_pos (by omega)]
        rfl)
      generalize bs.getD (n / 8) 0 = x at *
      obtain ⟨q, eq, hq2⟩ : ∃ q : Nat, n / 8 = q ∧ (n : Int) / 8 = (q : Int) := ⟨_, rfl, by omega⟩
      obtain ⟨r, er, hr2⟩ : ∃ r : Nat, n % 8 = r ∧ (n : Int) % 8 = (r : Int) := ⟨_, rfl, by omega⟩
      have hr : r ≤ 7 := by omega
      rw [eq] at hcell hq
      rw [er] at HR
      have q16 : (q : Int) < 16 := by omega
      have d1 : (n : Int).tdiv 8 = (q : Int) := by rw [Int.tdiv_eq_ediv_of_nonneg (by omega)]; exact hq2
      have d2 : (n : Int).tmod 8 = (r : Int) := by rw [Int.tmod_eq_emod_of_nonneg (by omega)]; exact hr2
      clear eq er
      go_wp2_with fail
      go_loop [5, 6] (fun c k => ∃ m C : Nat, r ≤ m ∧ m ≤ 7 ∧ k = .int .i64 (m : Int) ∧ c = .int .i64 (C : Int) ∧ C < 256 ∧ Hid (C = x / 2 ^ (m - r))) (fun _ k => 7 - (intOf k).toNat)
      case atStart => exact ⟨r, x, Nat.le_refl _, hr, by go_num, by go_num, hx, Lib.hid (by simp)⟩
      case round =>
        obtain ⟨m, C, hm1, hm2, rfl, rfl, hC, HC⟩ := hrel
        by_cases hm7 : m < 7
        · have HC2 : Hid (C / 2 = x / 2 ^ (m + 1 - r)) := Lib.hid (by rw [HC.out, show m + 1 - r = (m - r) + 1 by omega, Nat.pow_succ, Nat.div_div_eq_div_mul])
          have t2 : (C : Int).tdiv 2 = ((C / 2 : Nat) : Int) := by rw [Int.tdiv_eq_ediv_of_nonneg (by omega)]; omega
          go_wp2_with fail
          go_round
          case rel => exact ⟨m + 1, C / 2, by omega, by omega, by go_num, by first | rfl | go_num, by omega, HC2⟩
          case measure => simp [intOf]; omega
        · obtain rfl : m = 7 := by omega
          have HE : Hid (bitN f bs (n : Int) = C % 2) := Lib.hid (by rw [HR.out, HC.out])
          have t3 : (C : Int).tmod 2 = ((C % 2 : Nat) : Int) := by rw [Int.tmod_eq_emod_of_nonneg (by omega)]; omega
          go_wp2_with fail
          go_ret
          exact ⟨by rw [HE.out]; first | rfl | (congr 2; omega), B1.out⟩
    · have HR : Hid (bitN f bs (n : Int) = 0) := Lib.hid (by unfold bitN; rw [EN.out, if_neg (by omega)])
      go_wp2_with fail
      go_ret
      exact ⟨by rw [HR.out]; rfl, B1.out⟩
end Go.Proofs.Ytjpjobbmljlacaa
/- Plain facts on the bits of sixteen bytes: a row of bytes is its bits; bits set one by one; bits read one by one. -/
namespace Go.Proofs.Ytjpjobbmljlacaa
open Go.RowKit
set_option linter.unusedVariables false
set_option maxRecDepth 20000

/-- The bit at a place. -/
def bitA (l : List Nat) (i : Nat) : Nat := l.getD (i / 8) 0 / 2 ^ (7 - i % 8) % 2
theorem bitA_le (l : List Nat) (i : Nat) : bitA l i ≤ 1 := by unfold bitA; omega
theorem bitN_A (f : Int) (bs : List Nat) (i : Nat) (h : i < bitsN f) : bitN f bs (i : Int) = bitA bs i := by
  unfold bitN
  rw [if_pos (by omega)]
  rfl
theorem bitsN_cases (f : Int) : (f = 4 ∧ bitsN f = 32) ∨ (f = 6 ∧ bitsN f = 128) ∨ (f ≠ 4 ∧ f ≠ 6 ∧ bitsN f = 0) := by
  unfold bitsN
  by_cases h4 : f = 4
  · exact .inl ⟨h4, by rw [if_pos h4]⟩
  · by_cases h6 : f = 6
    · exact .inr (.inl ⟨h6, by rw [if_neg h4, if_pos h6]⟩)
    · exact .inr (.inr ⟨h4, h6, by rw [if_neg h4, if_neg h6]⟩)
theorem byte_bits (x : Nat) (h : x < 256) : x = x / 128 % 2 * 128 + x / 64 % 2 * 64 + x / 32 % 2 * 32 + x / 16 % 2 * 16 + x / 8 % 2 * 8 + x / 4 % 2 * 4 + x / 2 % 2 * 2 + x % 2 := by omega
theorem byte_ext (x y : Nat) (hx : x < 256) (hy : y < 256) (h : ∀ r, r < 8 → x / 2 ^ (7 - r) % 2 = y / 2 ^ (7 - r) % 2) : x = y := by
  have h0 : x / 128 % 2 = y / 128 % 2 := h 0 (by decide)
  have h1 : x / 64 % 2 = y / 64 % 2 := h 1 (by decide)
  have h2 : x / 32 % 2 = y / 32 % 2 := h 2 (by decide)
  have h3 : x / 16 % 2 = y / 16 % 2 := h 3 (by decide)
  have h4 : x / 8 % 2 = y / 8 % 2 := h 4 (by decide)
  have h5 : x / 4 % 2 = y / 4 % 2 := h 5 (by decide)
  have h6 : x / 2 % 2 = y / 2 % 2 := h 6 (by decide)
  have h7 : x / 1 % 2 = y / 1 % 2 := h 7 (by decide)
  rw [byte_bits x hx, byte_bits y hy, h0, h1, h2, h3, h4, h5, h6]
  simp only [Nat.div_one] at h7
  rw [h7]
theorem getD_lt {l : List Nat} (h : ∀ x ∈ l, x < 256) (q : Nat) : l.getD q 0 < 256 := by
  by_cases hq : q < l.length
  · rw [List.getD_eq_getElem?_getD, List.getElem?_eq_getElem hq]
    exact h _ (List.getElem_mem hq)
  · rw [List.getD_eq_getElem?_getD, List.getElem?_eq_none (by omega)]
    decide
theorem getD_ext {xs ys : List Nat} (hl : xs.length = ys.length) (h : ∀ q, q < xs.length → xs.getD q 0 = ys.getD q 0) : xs = ys := by
  apply List.ext_getElem hl
  intro q h1 h2
  have := h q h1
  rw [List.getD_eq_getElem?_getD, List.getD_eq_getElem?_getD, List.getElem?_eq_getElem h1, List.getElem?_eq_getElem h2] at this
  exact this
/-- Sixteen bytes are their bits. -/
theorem bits_ext {xs ys : List Nat} (hx : xs.length = 16) (hy : ys.length = 16) (lx : ∀ x ∈ xs, x < 256) (ly : ∀ x ∈ ys, x < 256) (h : ∀ i, i < 128 → bitA xs i = bitA ys i) : xs = ys := by
  refine getD_ext (by rw [hx, hy]) (fun q hq => byte_ext _ _ (getD_lt lx q) (getD_lt ly q) (fun r hr => ?_))
  have h1 := h (8 * q + r) (by omega)
  unfold bitA at h1
  rw [show (8 * q + r) / 8 = q by omega, show (8 * q + r) % 8 = r by omega] at h1
  exact h1
/-- The byte of eight bits. -/
def octOf (β : Nat → Nat) (q : Nat) : Nat := β (8 * q) * 128 + β (8 * q + 1) * 64 + β (8 * q + 2) * 32 + β (8 * q + 3) * 16 + β (8 * q + 4) * 8 + β (8 * q + 5) * 4 + β (8 * q + 6) * 2 + β (8 * q + 7)
def ofBits (β : Nat → Nat) : List Nat := (List.range 16).map (octOf β)
theorem ofBits_len (β : Nat → Nat) : (ofBits β).length = 16 := by simp [ofBits]
theorem octOf_lt (β : Nat → Nat) (h : ∀ i, β i ≤ 1) (q : Nat) : octOf β q < 256 := by
  unfold octOf
  have h0 := h (8 * q); have h1 := h (8 * q + 1); have h2 := h (8 * q + 2); have h3 := h (8 * q + 3)
  have h4 := h (8 * q + 4); have h5 := h (8 * q + 5); have h6 := h (8 * q + 6); have h7 := h (8 * q + 7)
  omega
theorem ofBits_lt (β : Nat → Nat) (h : ∀ i, β i ≤ 1) : ∀ x ∈ ofBits β, x < 256 := by
  intro x hx
  obtain ⟨q, _, rfl⟩ := List.mem_map.1 hx
  exact octOf_lt β h q
theorem map_range_getD (g : Nat → Nat) (n q : Nat) (hq : q < n) : ((List.range n).map g).getD q 0 = g q := by
  rw [List.getD_eq_getElem?_getD, List.getElem?_map, List.getElem?_range hq]
  rfl
theorem ofBits_getD (β : Nat → Nat) (q : Nat) (hq : q < 16) : (ofBits β).getD q 0 = octOf β q := map_range_getD _ _ _ hq
theorem octOf_bit (β : Nat → Nat) (h : ∀ i, β i ≤ 1) (q r : Nat) (hr : r < 8) : octOf β q / 2 ^ (7 - r) % 2 = β (8 * q + r) := by
  unfold octOf
  have h0 := h (8 * q); have h1 := h (8 * q + 1); have h2 := h (8 * q + 2); have h3 := h (8 * q + 3)
  have h4 := h (8 * q + 4); have h5 := h (8 * q + 5); have h6 := h (8 * q + 6); have h7 := h (8 * q + 7)
  obtain rfl | rfl | rfl | rfl | rfl | rfl | rfl | rfl : r = 0 ∨ r = 1 ∨ r = 2 ∨ r = 3 ∨ r = 4 ∨ r = 5 ∨ r = 6 ∨ r = 7 := by omega
  · show _ / 128 % 2 = β (8 * q); omega
  · show _ / 64 % 2 = _; omega
  · show _ / 32 % 2 = _; omega
  · show _ / 16 % 2 = _; omega
  · show _ / 8 % 2 = _; omega
  · show _ / 4 % 2 = _; omega
  · show _ / 2 % 2 = _; omega
  · show _ / 1 % 2 = _; omega
theorem bitA_ofBits (β : Nat → Nat) (h : ∀ i, β i ≤ 1) (i : Nat) (hi : i < 128) : bitA (ofBits β) i = β i := by
  unfold bitA
  rw [ofBits_getD β _ (by omega), octOf_bit β h _ _ (by omega), show 8 * (i / 8) + i % 8 = i by omega]
theorem ofBits_self {xs : List Nat} (hx : xs.length = 16) (lx : ∀ x ∈ xs, x < 256) : ofBits (bitA xs) = xs :=
  bits_ext (ofBits_len _) hx (ofBits_lt _ (bitA_le xs)) lx (fun i hi => bitA_ofBits _ (bitA_le xs) i hi)
theorem ofBits_congr {β γ : Nat → Nat} (h1 : ∀ i, β i ≤ 1) (h2 : ∀ i, γ i ≤ 1) (h : ∀ i, i < 128 → β i = γ i) : ofBits β = ofBits γ :=
  bits_ext (ofBits_len _) (ofBits_len _) (ofBits_lt _ h1) (ofBits_lt _ h2) (fun i hi => by rw [bitA_ofBits β h1 i hi, bitA_ofBits γ h2 i hi, h i hi])
/-- A bit set. -/
def setB (l : List Nat) (i : Nat) : List Nat := l.set (i / 8) (l.getD (i / 8) 0 ||| 2 ^ (7 - i % 8))
theorem setB_len (l : List Nat) (i : Nat) : (setB l i).length = l.length := by simp [setB]
theorem or_bit_all : ∀ x : Fin 256, ∀ r : Fin 8, (x.val ||| 2 ^ (7 - r.val)) < 256 ∧ ∀ j : Fin 8, (x.val ||| 2 ^ (7 - r.val)) / 2 ^ (7 - j.val) % 2 = if j = r then 1 else x.val / 2 ^ (7 - j.val) % 2 := by decide +kernel
theorem or_bit_lt (x r : Nat) (hx : x < 256) (hr : r < 8) : (x ||| 2 ^ (7 - r)) < 256 := (or_bit_all ⟨x, hx⟩ ⟨r, hr⟩).1
theorem or_bit (x r j : Nat) (hx : x < 256) (hr : r < 8) (hj : j < 8) : (x ||| 2 ^ (7 - r)) / 2 ^ (7 - j) % 2 = if j = r then 1 else x / 2 ^ (7 - j) % 2 := by
  have := (or_bit_all ⟨x, hx⟩ ⟨r, hr⟩).2 ⟨j, hj⟩
  rw [this]
  by_cases h : j = r
  · subst h; rw [if_pos rfl, if_pos rfl]
  · rw [if_neg h, if_neg (fun e => h (Fin.mk.inj e))]
theorem setB_lt {l : List Nat} (h : ∀ x ∈ l, x < 256) (i : Nat) : ∀ x ∈ setB l i, x < 256 := by
  intro x hx
  rcases List.mem_or_eq_of_mem_set hx with h1 | rfl
  · exact h x h1
  · exact or_bit_lt _ _ (getD_lt h _) (by omega)
theorem getD_set (l : List Nat) (i j v : Nat) (hi : i < l.length) : (l.set i v).getD j 0 = if j = i then v else l.getD j 0 := by
  rw [List.getD_eq_getElem?_getD, List.getD_eq_getElem?_getD, List.getElem?_set]
  by_cases h : j = i
  · subst h; rw [if_pos rfl, if_pos hi, if_pos rfl]; rfl
  · rw [if_neg (fun e => h e.symm), if_neg h]
theorem bitA_setB {l : List Nat} (h16 : l.length = 16) (hlt : ∀ x ∈ l, x < 256) (i j : Nat) (hi : i < 128) (hj : j < 128) : bitA (setB l i) j = if j = i then 1 else bitA l j := by
  unfold bitA setB
  rw [getD_set _ _ _ _ (by omega)]
  by_cases hq : j / 8 = i / 8
  · rw [if_pos hq, or_bit _ _ _ (getD_lt hlt _) (by omega) (by omega)]
    by_cases hr : j % 8 = i % 8
    · rw [if_pos hr, if_pos (by omega)]
    · rw [if_neg hr, if_neg (by intro e; exact hr (by rw [e])), hq]
  · rw [if_neg hq, if_neg (by intro e; exact hq (by rw [e]))]
/-- An address all of whose bits from one on are b. -/
def withF (N : Nat) (bs : List Nat) (k b i : Nat) : Nat := if i < N then (if k ≤ i then b else bitA bs i) else 0
def withL (N : Nat) (bs : List Nat) (k b : Nat) : List Nat := ofBits (withF N bs k b)
theorem withF_le (N : Nat) (bs : List Nat) (k b i : Nat) (hb : b ≤ 1) : withF N bs k b i ≤ 1 := by
  unfold withF
  have := bitA_le bs i
  split
  · split <;> omega
  · omega
theorem withL_len (N : Nat) (bs : List Nat) (k b : Nat) : (withL N bs k b).length = 16 := ofBits_len _
theorem withL_lt (N : Nat) (bs : List Nat) (k b : Nat) (hb : b ≤ 1) : ∀ x ∈ withL N bs k b, x < 256 := ofBits_lt _ (fun i => withF_le N bs k b i hb)
theorem bitA_with (N : Nat) (bs : List Nat) (k b i : Nat) (hb : b ≤ 1) (hi : i < 128) : bitA (withL N bs k b) i = withF N bs k b i := bitA_ofBits _ (fun i => withF_le N bs k b i hb) i hi
theorem withL_zero (N : Nat) (bs : List Nat) : withL N bs 0 0 = List.replicate 16 0 :=
  bits_ext (withL_len _ _ _ _) (by simp) (withL_lt _ _ _ _ (by decide)) (fun x hx => by rw [List.eq_of_mem_replicate hx]; decide) (fun i hi => by
    rw [bitA_with _ _ _ _ _ (by decide) hi]
    have h0 : (List.replicate 16 0).getD (i / 8) 0 = 0 := by rw [List.getD_eq_getElem?_getD, List.getElem?_replicate, if_pos (by omega)]; rfl
    have h1 : bitA (List.replicate 16 0) i = 0 := by unfold bitA; rw [h0]; simp
    rw [h1]
    unfold withF
    simp)
/-- One bit more is kept: it is 1. -/
theorem with_one (N : Nat) (bs : List Nat) (k : Nat) (hk : k < N) (hN : N ≤ 128) (h : bitA bs k = 1) : setB (withL N bs k 0) k = withL N bs (k + 1) 0 :=
  bits_ext (by rw [setB_len, withL_len]) (withL_len _ _ _ _) (setB_lt (withL_lt _ _ _ _ (by decide)) _) (withL_lt _ _ _ _ (by decide)) (fun i hi => by
    rw [bitA_setB (withL_len _ _ _ _) (withL_lt _ _ _ _ (by decide)) k i (by omega) hi, bitA_with _ _ _ _ _ (by decide) hi, bitA_with _ _ _ _ _ (by decide) hi]
    unfold withF
    by_cases e : i = k
    · subst e; rw [if_pos rfl, if_pos hk, if_neg (by omega), h]
    · rw [if_neg e]
      by_cases h1 : i < N
      · rw [if_pos h1, if_pos h1]
        by_cases h2 : k ≤ i
        · rw [if_pos h2, if_pos (by omega)]
        · rw [if_neg h2, if_neg (by omega)]
      · rw [if_neg h1, if_neg h1])
theorem with_none (N : Nat) (bs : List Nat) (k : Nat) (hk : k < N) (h : bitA bs k = 0) : withL N bs k 0 = withL N bs (k + 1) 0 :=
  ofBits_congr (fun i => withF_le _ _ _ _ _ (by decide)) (fun i => withF_le _ _ _ _ _ (by decide)) (fun i hi => by
    unfold withF
    by_cases e : i = k
    · subst e; rw [if_pos hk, if_pos hk, if_pos (Nat.le_refl _), if_neg (by omega), h]
    · by_cases h1 : i < N
      · rw [if_pos h1, if_pos h1]
        by_cases h2 : k ≤ i
        · rw [if_pos h2, if_pos (by omega)]
        · rw [if_neg h2, if_neg (by omega)]
      · rw [if_neg h1, if_neg h1])
/-- The bits from n to k, set. -/
def lastF (bs : List Nat) (n k i : Nat) : Nat := if n ≤ i ∧ i < k then 1 else bitA bs i
def lastL (bs : List Nat) (n k : Nat) : List Nat := ofBits (lastF bs n k)
theorem lastF_le (bs : List Nat) (n k i : Nat) : lastF bs n k i ≤ 1 := by
  unfold lastF
  have := bitA_le bs i
  split <;> omega
theorem lastL_len (bs : List Nat) (n k : Nat) : (lastL bs n k).length = 16 := ofBits_len _
theorem lastL_lt (bs : List Nat) (n k : Nat) : ∀ x ∈ lastL bs n k, x < 256 := ofBits_lt _ (lastF_le bs n k)
theorem lastL_zero {bs : List Nat} (n : Nat) (h16 : bs.length = 16) (hlt : ∀ x ∈ bs, x < 256) : lastL bs n 0 = bs := by
  unfold lastL
  refine bits_ext (ofBits_len _) h16 (ofBits_lt _ (lastF_le _ _ _)) hlt (fun i hi => ?_)
  rw [bitA_ofBits _ (lastF_le _ _ _) i hi]
  exact if_neg (by omega)
theorem last_one (bs : List Nat) (n k : Nat) (hk : k < 128) (h : n ≤ k) : setB (lastL bs n k) k = lastL bs n (k + 1) :=
  bits_ext (by rw [setB_len, lastL_len]) (lastL_len _ _ _) (setB_lt (lastL_lt _ _ _) _) (lastL_lt _ _ _) (fun i hi => by
    rw [bitA_setB (lastL_len _ _ _) (lastL_lt _ _ _) k i hk hi]
    unfold lastL
    rw [bitA_ofBits _ (lastF_le _ _ _) i hi, bitA_ofBits _ (lastF_le _ _ _) i hi]
    unfold lastF
    by_cases e : i = k
    · subst e; rw [if_pos rfl, if_pos (by omega)]
    · rw [if_neg e]
      by_cases h1 : n ≤ i ∧ i < k
      · rw [if_pos h1, if_pos (by omega)]
      · rw [if_neg h1, if_neg (by omega)])
theorem last_none (bs : List Nat) (n k : Nat) (h : ¬ n ≤ k) : lastL bs n k = lastL bs n (k + 1) :=
  ofBits_congr (lastF_le _ _ _) (lastF_le _ _ _) (fun i hi => by
    have h1 : lastF bs n k i = bitA bs i := if_neg (by omega)
    have h2 : lastF bs n (k + 1) i = bitA bs i := if_neg (by omega)
    rw [h1, h2])
/-- Bytes that are told bit by bit. -/
def partL (β : Nat → Nat) (k : Nat) : List Nat := (List.range 16).map fun q => octOf β q / 2 ^ (8 - min 8 (k - 8 * q))
theorem partL_len (β : Nat → Nat) (k : Nat) : (partL β k).length = 16 := by simp [partL]
theorem partL_getD (β : Nat → Nat) (k q : Nat) (hq : q < 16) : (partL β k).getD q 0 = octOf β q / 2 ^ (8 - min 8 (k - 8 * q)) := map_range_getD _ _ _ hq
theorem partL_zero (β : Nat → Nat) (h : ∀ i, β i ≤ 1) : partL β 0 = List.replicate 16 0 := by
  refine getD_ext (by rw [partL_len]; simp) (fun q hq => ?_)
  rw [partL_len] at hq
  rw [partL_getD β 0 q hq, List.getD_eq_getElem?_getD, List.getElem?_replicate, if_pos hq, show 8 - min 8 (0 - 8 * q) = 8 by omega]
  exact Nat.div_eq_of_lt (octOf_lt β h q)
theorem half_step (x r : Nat) (hr : r < 8) : x / 2 ^ (8 - (r + 1)) = x / 2 ^ (8 - r) * 2 + x / 2 ^ (7 - r) % 2 := by
  rw [show 8 - (r + 1) = 7 - r by omega, show 8 - r = (7 - r) + 1 by omega, Nat.pow_succ, ← Nat.div_div_eq_div_mul]
  omega
theorem partL_step (β : Nat → Nat) (h : ∀ i, β i ≤ 1) (k : Nat) (hk : k < 128) : (partL β k).set (k / 8) ((partL β k).getD (k / 8) 0 * 2 + β k) = partL β (k + 1) := by
  refine getD_ext (by rw [List.length_set, partL_len, partL_len]) (fun q hq => ?_)
  rw [List.length_set, partL_len] at hq
  rw [getD_set _ _ _ _ (by rw [partL_len]; omega), partL_getD β (k + 1) q hq]
  by_cases e : q = k / 8
  · rw [if_pos e, partL_getD β k _ (by omega), ← e]
    have h1 := half_step (octOf β q) (k % 8) (by omega)
    rw [octOf_bit β h q _ (by omega), show 8 * q + k % 8 = k by omega] at h1
    rw [show 8 - min 8 (k + 1 - 8 * q) = 8 - (k % 8 + 1) by omega, h1, show 8 - min 8 (k - 8 * q) = 8 - k % 8 by omega]
  · rw [if_neg e, partL_getD β k q hq]
    congr 2
    omega
theorem partL_lt (β : Nat → Nat) (h : ∀ i, β i ≤ 1) (k : Nat) (hk : k < 128) : (partL β k).getD (k / 8) 0 < 128 := by
  rw [partL_getD β k _ (by omega), show 8 - min 8 (k - 8 * (k / 8)) = 8 - k % 8 by omega]
  have h1 := octOf_lt β h (k / 8)
  refine Nat.div_lt_of_lt_mul (Nat.lt_of_lt_of_le h1 ?_)
  have : 2 ^ 1 ≤ 2 ^ (8 - k % 8) := Nat.pow_le_pow_right (by decide) (by omega)
  omega
theorem partL_end (f : Int) (β : Nat → Nat) (h : ∀ i, bitsN f ≤ i → β i = 0) : partL β (bitsN f) = ofBits β := by
  refine getD_ext (by rw [partL_len, ofBits_len]) (fun q hq => ?_)
  rw [partL_len] at hq
  rw [partL_getD β _ q hq, ofBits_getD β q hq]
  have hz : bitsN f ≤ 8 * q → octOf β q = 0 := fun hN => by
    unfold octOf
    rw [h _ (by omega), h _ (by omega), h _ (by omega), h _ (by omega), h _ (by omega), h _ (by omega), h _ (by omega), h _ (by omega)]
  by_cases hN : bitsN f ≤ 8 * q
  · rw [hz hN, Nat.zero_div]
  · have : 8 ≤ bitsN f - 8 * q := by rcases bitsN_cases f with ⟨_, e⟩ | ⟨_, e⟩ | ⟨_, _, e⟩ <;> rw [e] at hN ⊢ <;> omega
    rw [show 8 - min 8 (bitsN f - 8 * q) = 0 by omega, Nat.pow_zero, Nat.div_one]
end Go.Proofs.Ytjpjobbmljlacaa
/- What a walk holds in a region that draws its order: ranges of cells, and that nothing older has turned. -/
namespace Go.Proofs.Ytjpjobbmljlacaa
open Go.RowKit
set_option linter.unusedVariables false
set_option maxRecDepth 20000

/-- The ranges of L lie there; all that lay below W is as it was. -/
def HeldR (L : List (Nat × Nat × List Value)) (W w : World) : Prop := (∀ x ∈ L, w.rangeAt x.1 x.2.1 x.2.2 ∧ x.1 < w.heap.size) ∧ Below W.heap.size W w
section
variable {L : List (Nat × Nat × List Value)} {W w w' : World} {b o : Nat} {cs : List Value}
theorem HeldR.get (h : HeldR L W w) (hm : (b, o, cs) ∈ L) : w.rangeAt b o cs := (h.1 _ hm).1
theorem HeldR.cell (h : HeldR L W w) (hm : (b, o, cs) ∈ L) (j : Nat) (v : Value) (hv : cs[j]? = some v) : w.cell? ⟨b, o + j, none⟩ = some v := (h.1 _ hm).1 j v hv
theorem HeldR.bel (h : HeldR L W w) : Below W.heap.size W w := h.2
theorem HeldR.next (h : HeldR L W w) (hb : Below w.heap.size w w') : HeldR L W w' := by
  refine ⟨fun x hx => ?_, chain h.2 hb⟩
  obtain ⟨h1, h2⟩ := h.1 x hx
  refine ⟨fun j v hv => ?_, Nat.lt_of_lt_of_le h2 hb.size⟩
  rw [hb.cell (p := ⟨x.1, x.2.1 + j, none⟩) h2]
  exact h1 j v hv
theorem HeldR.drew (h : HeldR L W w) : HeldR L W w.drew := h.next (Below.refl _ _).drew
theorem HeldR.nil (h : Below W.heap.size W w) : HeldR [] W w := ⟨(fun x hx => by cases hx), h⟩
theorem HeldR.cons (h : HeldR L W w) (hr : w.rangeAt b o cs) (hb : b < w.heap.size) : HeldR ((b, o, cs) :: L) W w :=
  ⟨fun x hx => by
    rcases List.mem_cons.1 hx with rfl | hx
    · exact ⟨hr, hb⟩
    · exact h.1 x hx, h.2⟩
theorem Calls.heldR {P : Program} {f : FuncId} {args : Array Value} {v : Value} (hc : Calls P f args w fun e w' => e = .returned v ∧ Below w.heap.size w w') (h : HeldR L W w) :
    Calls P f args w fun e w' => e = .returned v ∧ HeldR L W w' :=
  hc.mono fun _ _ ⟨he, hb⟩ => ⟨he, h.next hb⟩
/-- A cell that lies in one of the ranges. -/
def CellR (L : List (Nat × Nat × List Value)) (W : World) (b o : Nat) (v : Value) : Prop := ∀ w, HeldR L W w → w.cell? ⟨b, o, none⟩ = some v
end
/-- A guarded or plain load of a whole row, in a plain region. -/
theorem wpList_load_row {P : Program} {ops : Array Oper} {rest : List Oper} {op : Oper} {a : Act} {w : World} {Q : Exit → Act → World → Prop} (hw : Region.wanted op (yielded ops a.tmps) = true) (ty : TypeId) (x : Operand) (ho : op.op = .load ty x)
    (b o : Nat) (hx : a.eval x = .pointer (some ⟨b, o, none⟩)) (cs : List Value) (d : TypeDesc) (hc : w.rangeAt b o cs)
    (hu : P.underlying ty = some d) (hd : d.isRow = true) (hi : (P.info? ty).map (·.size) = some cs.length)
    (h : wpList P ops Q rest (a.put op.dst (.agg cs.toArray)) w) : wpList P ops Q (op :: rest) a w := by
  simp only [wpList, hw, if_true]
  exact .inl (wp_load_mid ty x ho b o hx cs d hc hu hd hi h)
end Go.Proofs.Ytjpjobbmljlacaa
/- An address that comes in, boxed; one of zeros. -/
namespace Go.Proofs.Ytjpjobbmljlacaa
open Go.RowKit
set_option linter.unusedVariables false
set_option maxRecDepth 20000

/-- The cells of an address of zeros. -/
abbrev zA : Array Value := #[.int .i64 0, .int .u8 0, .int .u8 0, .int .u8 0, .int .u8 0, .int .u8 0, .int .u8 0, .int .u8 0, .int .u8 0, .int .u8 0, .int .u8 0, .int .u8 0, .int .u8 0, .int .u8 0, .int .u8 0, .int .u8 0, .int .u8 0]
theorem addr_boxed (f : Int) (bs : List Nat) (w : World) (h16 : bs.length = 16) :
    ∃ cs : Array Value, addrV f bs = .agg cs ∧ Hid (AddrAt (w.alloc (.cells cs 30)) w.heap.size f bs) ∧ Hid (Below w.heap.size w (w.alloc (.cells cs 30))) :=
  ⟨_, rfl, Lib.hid (AddrAt.of w _ _ f bs h16 rfl), Lib.hid ((Below.refl _ _).alloc (Nat.le_refl _) _)⟩
theorem addr_zeroed (w : World) : AddrAt (w.alloc (.cells zA 30)) w.heap.size 0 (List.replicate 16 0) := AddrAt.of w _ _ 0 _ rfl rfl
theorem heap_alloc (w : World) (b : Obj) : (w.alloc b).heap.size = w.heap.size + 1 := by simp
theorem AddrAt.alloc {w : World} {G : Nat} {f : Int} {bs : List Nat} (h : AddrAt w G f bs) (b : Obj) : AddrAt (w.alloc b) G f bs := h.below ((Below.refl _ _).alloc (Nat.le_refl _) _)
end Go.Proofs.Ytjpjobbmljlacaa
/- Addresses that a walk holds; loads of them, guarded or not, and of their bytes alone; sixteen bytes stored whole. -/
namespace Go.Proofs.Ytjpjobbmljlacaa
open Go.RowKit
set_option linter.unusedVariables false
set_option maxRecDepth 20000

theorem HeldR.addr {L : List (Nat × Nat × List Value)} {W w : World} {G : Nat} {f : Int} {bs : List Nat} (h : HeldR L W w) (hA : AddrAt w G f bs) : HeldR ((G, 0, addrL f bs) :: L) W w := h.cons hA.range hA.lt
/-- An address of the list. -/
def InA (L : List (Nat × Nat × List Value)) (G : Nat) (f : Int) (bs : List Nat) : Prop := (G, 0, addrL f bs) ∈ L ∧ bs.length = 16
theorem yields_addr {ops : Array Oper} {op : Oper} {a : Act} {L : List (Nat × Nat × List Value)} {W : World} {G : Nat} {f : Int} {bs : List Nat} (hm : Hid (InA L G f bs)) (hw : Region.wanted op (yielded ops a.tmps) = true) (x : Operand) (ho : op.op = .load 30 x)
    (hx : a.eval x = .pointer (some ⟨G, 0, none⟩)) : YieldsIf Try.prog ops (HeldR L W) op (addrV f bs) a :=
  yieldsIf_load_mid hw 30 x ho G 0 hx (addrL f bs) _ (fun _ h => h.get hm.out.1) Try.underlying30 rfl (by rw [addr_size, addrL_len f bs hm.out.2])
theorem famR {L : List (Nat × Nat × List Value)} {G : Nat} {f : Int} {bs : List Nat} (h : InA L G f bs) (W : World) : CellR L W G 0 (.int .i64 f) := fun w hw => hw.cell h.1 0 _ rfl
/-- An address, loaded whole, guarded or not. -/
theorem load_addr_g {ops : Array Oper} {rest : List Oper} {op : Oper} {a : Act} {w : World} {Q : Exit → Act → World → Prop} {G : Nat} {f : Int} {bs : List Nat} (hA : Hid (AddrAt w G f bs)) (x : Operand) (hw : Region.wanted op (yielded ops a.tmps) = true) (ho : op.op = .load 30 x)
    (hx : a.eval x = .pointer (some ⟨G, 0, none⟩)) (h : wpList Try.prog ops Q rest (a.put op.dst (addrV f bs)) w) : wpList Try.prog ops Q (op :: rest) a w :=
  wpList_load_row hw 30 x ho G 0 hx (addrL f bs) _ hA.out.range Try.underlying30 rfl (by rw [addr_size, addrL_len f bs hA.out.len]) h
theorem drewN_below (w : World) (q : Nat) : Below w.heap.size w (w.drewN q) := ⟨rfl, rfl, rfl, Nat.le_refl _, fun _ _ => rfl⟩
theorem arr16_size : (Try.prog.info? 28).map (·.size) = some 16 := by kernel_rfl
/-- Sixteen bytes that lie somewhere. -/
structure B16 (w : World) (G o : Nat) (bs : List Nat) : Prop where
  len : bs.length = 16
  lt : G < w.heap.size
  range : w.rangeAt G o (bs.map fun n => Value.int .u8 ((n : Nat) : Int))
  there : w.there G o 16
theorem AddrAt.b16 {w : World} {G : Nat} {f : Int} {bs : List Nat} (h : AddrAt w G f bs) : B16 w G 1 bs := by
  refine ⟨h.len, h.lt, ?_, fun j hj => ?_⟩
  · intro j v hv
    have := h.range (j + 1) v (by rw [addrL, List.getElem?_cons_succ]; exact hv)
    rw [Nat.zero_add, Nat.add_comm] at this
    exact this
  · have := h.there (1 + j) (by omega)
    rw [Nat.zero_add] at this
    exact this
theorem B16.below {w w' : World} {G o : Nat} {bs : List Nat} (h : B16 w G o bs) (hb : Below w.heap.size w w') : B16 w' G o bs :=
  ⟨h.len, Nat.lt_of_lt_of_le h.lt hb.size, fun j v hv => by rw [hb.cell (p := ⟨G, o + j, none⟩) h.lt]; exact h.range j v hv, fun j hj => by
    rw [hb.cell (p := ⟨G, o + j, none⟩) h.lt, hb.frozen (p := ⟨G, o + j, none⟩) h.lt]
    exact h.there j hj⟩
/-- Sixteen bytes, loaded whole, guarded or not. -/
theorem load_b16 {ops : Array Oper} {rest : List Oper} {op : Oper} {a : Act} {w : World} {Q : Exit → Act → World → Prop} {G o : Nat} {bs : List Nat} (hA : Hid (B16 w G o bs)) (x : Operand) (hw : Region.wanted op (yielded ops a.tmps) = true) (ho : op.op = .load 28 x)
    (hx : a.eval x = .pointer (some ⟨G, o, none⟩)) (h : wpList Try.prog ops Q rest (a.put op.dst (arr16 bs)) w) : wpList Try.prog ops Q (op :: rest) a w :=
  wpList_load_row hw 28 x ho G o hx _ _ hA.out.range Try.underlying28 rfl (by rw [arr16_size, List.length_map, hA.out.len]) h
/-- Sixteen bytes, stored whole. -/
theorem store_b16 {ops : Array Oper} {rest : List Oper} {op : Oper} {a : Act} {w : World} {Q : Exit → Act → World → Prop} {G o : Nat} {bs0 : List Nat} (hA : Hid (B16 w G o bs0)) (x y : Operand) {bs : List Nat} (hl : Hid (bs.length = 16)) (hgd : op.guard = none) (ho : op.op = .store 28 x y)
    (hx : a.eval x = .pointer (some ⟨G, o, none⟩)) (hy : a.eval y = arr16 bs) (h : ∀ W, Hid (W = w.setCells G o (bs.map fun n => Value.int .u8 ((n : Nat) : Int))) → Hid (B16 W G o bs) → wpList Try.prog ops Q rest (a.put op.dst undef) W) : wpList Try.prog ops Q (op :: rest) a w := by
  have e1 : (bs.map fun n => Value.int .u8 ((n : Nat) : Int)).length = 16 := by rw [List.length_map, hl.out]
  refine wpList_store_mid hgd 28 x y ho G o (bs.map fun n => Value.int .u8 ((n : Nat) : Int)).toArray hx hy (by rw [List.size_toArray, e1]; exact hA.out.there) (by rw [arr16_size, List.size_toArray, e1]) (all_oneCell_toArray (fun v hv => by obtain ⟨n, _, rfl⟩ := List.mem_map.1 hv; rfl)) (h _ (Lib.hid rfl) (Lib.hid ⟨hl.out, by rw [size_setCells]; exact hA.out.lt, World.rangeAt_setCells_same _ _ _ _ (by rw [e1]; exact hA.out.there), World.there_setCells hA.out.there _ _ _⟩))
/-- Sixteen bytes, given back out of their cells. -/
theorem results_b16 {fn : Func} {a : Tmp} {tmps : Array Value} {W : World} {R : Nat} {bs : List Nat} (h : fn.results = #[.cell a 28]) (ha : tmps.getD a undef = .pointer (some ⟨R, 0, none⟩)) (hA : B16 W R 0 bs) : (results fn tmps).run Try.prog W = .ok (arr16 bs) W := by
  have hl : (loadVar 28 ⟨R, 0, none⟩).run Try.prog W = .ok (arr16 bs) W :=
    run_loadVar_mid W R 0 28 _ _ hA.range Try.underlying28 rfl (by rw [arr16_size, List.length_map, hA.len])
  rw [Array.getD_eq_getD_getElem?] at ha
  simp [results, h, ha, asAddr, hl]
/-- The cells of sixteen zeros. -/
abbrev z16 : Array Value := #[.int .u8 0, .int .u8 0, .int .u8 0, .int .u8 0, .int .u8 0, .int .u8 0, .int .u8 0, .int .u8 0, .int .u8 0, .int .u8 0, .int .u8 0, .int .u8 0, .int .u8 0, .int .u8 0, .int .u8 0, .int .u8 0]
theorem b16_new (w : World) (t : TypeId) (cs : Array Value) (bs : List Nat) (hl : bs.length = 16) (h : cs.toList = bs.map fun n => Value.int .u8 ((n : Nat) : Int)) : B16 (w.alloc (.cells cs t)) w.heap.size 0 bs := by
  have e : ∀ j, cs[j]? = (bs.map fun n => Value.int .u8 ((n : Nat) : Int))[j]? := fun j => by rw [← h, Array.getElem?_toList]
  refine ⟨hl, by simp, fun j v hv => ?_, fun j hj => ⟨?_, World.frozen?_alloc_new _ _ _ _⟩⟩
  · rw [World.cell?_alloc_new, Nat.zero_add, e]; exact hv
  · rw [World.cell?_alloc_new, Nat.zero_add, e, List.getElem?_map, List.getElem?_eq_getElem (by omega)]; rfl
/-- Sixteen bytes of the list. -/
def InB (L : List (Nat × Nat × List Value)) (G o : Nat) (bs : List Nat) : Prop := (G, o, bs.map fun n => Value.int .u8 ((n : Nat) : Int)) ∈ L ∧ bs.length = 16
theorem yields_b16 {ops : Array Oper} {op : Oper} {a : Act} {L : List (Nat × Nat × List Value)} {W : World} {G o : Nat} {bs : List Nat} (hm : Hid (InB L G o bs)) (hw : Region.wanted op (yielded ops a.tmps) = true) (x : Operand) (ho : op.op = .load 28 x)
    (hx : a.eval x = .pointer (some ⟨G, o, none⟩)) : YieldsIf Try.prog ops (HeldR L W) op (arr16 bs) a :=
  yieldsIf_load_mid hw 28 x ho G o hx _ _ (fun _ h => h.get hm.out.1) Try.underlying28 rfl (by rw [arr16_size, List.length_map, hm.out.2])
end Go.Proofs.Ytjpjobbmljlacaa
/- Two arrays of integers, held against each other: they are equal, if all their numbers are. -/
namespace Go.Proofs.Ytjpjobbmljlacaa
open Go.RowKit
set_option linter.unusedVariables false
set_option maxRecDepth 20000

theorem run_eqItems_ints (W : World) (d : Nat) {e : TypeId} {k : IntKind} (he : Try.prog.plainKey e = true) (hu : Try.prog.underlying e = some (.int k)) (zs ys : List Int) : ∀ (is : List Nat), (∀ i ∈ is, i < zs.length ∧ i < ys.length) →
    (Op.eqItems (d + 1) e 1 (zs.map (Value.int k)).toArray (ys.map (Value.int k)).toArray is).run Try.prog W = .ok (is.all fun i => zs.getD i 0 == ys.getD i 0) W
  | [], _ => by simp [Op.eqItems]
  | i :: is, h => by
    have hi := h i (by simp)
    have p1 : (part e (zs.map (Value.int k)).toArray (i * 1)).run Try.prog W = .ok (.int k (zs.getD i 0)) W := run_part_plain W he (by simp [hi.1])
    have p2 : (part e (ys.map (Value.int k)).toArray (i * 1)).run Try.prog W = .ok (.int k (ys.getD i 0)) W := run_part_plain W he (by simp [hi.2])
    have p3 := run_equalIn_int (P := Try.prog) W d e k k (zs.getD i 0) (ys.getD i 0) hu
    have ih := run_eqItems_ints W d he hu zs ys is (fun j hj => h j (by simp [hj]))
    simp only [Op.eqItems, Sem.run_bind, p1, p2, p3, Result.andThen_ok, List.all_cons]
    cases zs.getD i 0 == ys.getD i 0 with
    | false => simp
    | true => simpa using ih
theorem run_eq_ints (W : World) {t e : TypeId} {n : Nat} {k : IntKind} {i : TypeInfo} (ht : Try.prog.underlying t = some (.array n e)) (he : Try.prog.plainKey e = true) (hu : Try.prog.underlying e = some (.int k)) (hi : Try.prog.info? e = some i) (hc : Try.prog.cellsOf e = 1)
    (zs ys : List Int) (hz : zs.length = n) (hy : ys.length = n) :
    (Op.equalIn 10000 t (.agg (zs.map (Value.int k)).toArray) (.agg (ys.map (Value.int k)).toArray)).run Try.prog W = .ok (decide (zs = ys)) W := by
  rw [run_equalIn_array W 9999 _ _ ht hi, hc, run_eqItems_ints W 9998 he hu zs ys _ (fun j hj => by rw [List.mem_range] at hj; omega)]
  congr 1
  rw [Bool.eq_iff_iff]
  simp only [List.all_eq_true, List.mem_range, beq_iff_eq, decide_eq_true_eq]
  constructor
  · intro h
    apply List.ext_getElem (by omega)
    intro j h1 h2
    have := h j (by omega)
    rw [List.getD_eq_getElem?_getD, List.getD_eq_getElem?_getD, List.getElem?_eq_getElem h1, List.getElem?_eq_getElem h2] at this
    exact this
  · intro h j _
    rw [h]
end Go.Proofs.Ytjpjobbmljlacaa
/- Two addresses, held against each other: they are equal, if their families are and all their bytes. -/
namespace Go.Proofs.Ytjpjobbmljlacaa
open Go.RowKit
set_option linter.unusedVariables false
set_option maxRecDepth 20000

theorem run_eq_ints_at (d : Nat) (W : World) {t e : TypeId} {n : Nat} {k : IntKind} {i : TypeInfo} (ht : Try.prog.underlying t = some (.array n e)) (he : Try.prog.plainKey e = true) (hu : Try.prog.underlying e = some (.int k)) (hi : Try.prog.info? e = some i) (hc : Try.prog.cellsOf e = 1)
    (zs ys : List Int) (hz : zs.length = n) (hy : ys.length = n) :
    (Op.equalIn (d + 2) t (.agg (zs.map (Value.int k)).toArray) (.agg (ys.map (Value.int k)).toArray)).run Try.prog W = .ok (decide (zs = ys)) W := by
  rw [run_equalIn_array W (d + 1) _ _ ht hi, hc, run_eqItems_ints W d he hu zs ys _ (fun j hj => by rw [List.mem_range] at hj; omega)]
  congr 1
  rw [Bool.eq_iff_iff]
  simp only [List.all_eq_true, List.mem_range, beq_iff_eq, decide_eq_true_eq]
  constructor
  · intro h
    apply List.ext_getElem (by omega)
    intro j h1 h2
    have := h j (by omega)
    rw [List.getD_eq_getElem?_getD, List.getD_eq_getElem?_getD, List.getElem?_eq_getElem h1, List.getElem?_eq_getElem h2] at this
    exact this
  · intro h j _
    rw [h]
theorem bytes_of (xs : List Nat) : (xs.map fun n => Value.int .u8 ((n : Nat) : Int)) = (xs.map fun n : Nat => (n : Int)).map (Value.int .u8) := by simp
theorem casts_inj {xs ys : List Nat} : (xs.map fun n : Nat => (n : Int)) = (ys.map fun n : Nat => (n : Int)) ↔ xs = ys := by
  constructor
  · intro h
    exact List.map_inj_right (fun _ _ e => by exact_mod_cast e) |>.1 h
  · rintro rfl; rfl
theorem part_bytes (W : World) (f : Int) (xs : List Nat) (hx : xs.length = 16) : (part 28 (Value.int .i64 f :: xs.map fun n => Value.int .u8 ((n : Nat) : Int)).toArray 1).run Try.prog W = .ok (.agg (xs.map fun n => Value.int .u8 ((n : Nat) : Int)).toArray) W := by
  obtain ⟨i, hi, hs⟩ : ∃ i, Try.prog.info? 28 = some i ∧ i.size = 16 := ⟨_, rfl, by kernel_rfl⟩
  have h2 : (isAgg 28).run Try.prog W = .ok true W := by
    unfold isAgg
    rw [Sem.run_bind, run_underlying Try.underlying28 W]
    simp
  have h3 : (sizeOf 28).run Try.prog W = .ok 16 W := by simp [sizeOf, typeInfo, hi, hs]
  simp only [part, Sem.run_bind, h2, Result.andThen_ok, if_true, h3, Sem.run_pure]
  congr 2
  apply Array.ext'
  simp
  exact List.take_of_length_le (by rw [List.length_map, hx]; exact Nat.le_refl _)
theorem plainK_int : Try.prog.plainKey 3 = true := by kernel_rfl
theorem plainK_u8 : Try.prog.plainKey 5 = true := by kernel_rfl
theorem cells_u8 : Try.prog.cellsOf 5 = 1 := by kernel_rfl
theorem addr_fields : Try.prog.fieldsOf 30 = #[{ name := "Fam", type := 3, offset := 0, embedded := false, tag := "", pkgPath := "", byteOffset := 0 }, { name := "B", type := 28, offset := 1, embedded := false, tag := "", pkgPath := "", byteOffset := 8 }] := by simp only [Program.fieldsOf, Try.underlying30]
theorem nm1 : ("Fam" = "_") = False := by simp
theorem nm2 : ("B" = "_") = False := by simp
theorem st (d : Nat) (xs ys : Array Value) (W : World) : (Op.equalIn (d + 3) 30 (.agg xs) (.agg ys)).run Try.prog W = (Op.eqFields (d + 2) xs ys (Try.prog.fieldsOf 30).toList).run Try.prog W :=
  run_equalIn_struct W (d + 2) _ _ _ (by rw [addr_fields]; exact Try.underlying30) Try.stoodInHeld30
theorem part_fam (W : World) (f : Int) (xs : List Nat) : (part 3 (Value.int .i64 f :: xs.map fun n => Value.int .u8 ((n : Nat) : Int)).toArray 0).run Try.prog W = .ok (.int .i64 f) W := run_part_plain W plainK_int (by simp)
theorem eq_fam (d : Nat) (f g : Int) (W : World) : (Op.equalIn (d + 2) 3 (.int .i64 f) (.int .i64 g)).run Try.prog W = .ok (f == g) W := run_equalIn_int (P := Try.prog) W (d + 1) 3 .i64 .i64 f g Try.underlying3
theorem eq_arr16 (d : Nat) (xs ys : List Nat) (W : World) (hx : xs.length = 16) (hy : ys.length = 16) : (Op.equalIn (d + 2) 28 (.agg (xs.map fun n => Value.int .u8 ((n : Nat) : Int)).toArray) (.agg (ys.map fun n => Value.int .u8 ((n : Nat) : Int)).toArray)).run Try.prog W = .ok (decide (xs = ys)) W := by
  obtain ⟨i, hi⟩ : ∃ i, Try.prog.info? 5 = some i := ⟨_, rfl⟩
  have p6 := run_eq_ints_at d W (k := .u8) Try.underlying28 plainK_u8 Try.underlying5 hi cells_u8 (xs.map fun n : Nat => (n : Int)) (ys.map fun n : Nat => (n : Int)) (by simpa using hx) (by simpa using hy)
  rw [← bytes_of, ← bytes_of, show decide ((xs.map fun n : Nat => (n : Int)) = (ys.map fun n : Nat => (n : Int))) = decide (xs = ys) from decide_eq_decide.2 casts_inj] at p6
  exact p6
theorem two_fields (P : Program) (W : World) (D : Nat) (X Y : Array Value) (t1 t2 : TypeId) (a1 b1 a2 b2 : Value) (r1 r2 : Bool)
    (h1 : (part t1 X 0).run P W = .ok a1 W) (h2 : (part t1 Y 0).run P W = .ok b1 W) (h3 : (Op.equalIn D t1 a1 b1).run P W = .ok r1 W)
    (h4 : (part t2 X 1).run P W = .ok a2 W) (h5 : (part t2 Y 1).run P W = .ok b2 W) (h6 : (Op.equalIn D t2 a2 b2).run P W = .ok r2 W) :
    (Op.eqFields D X Y [{ name := "Fam", type := t1, offset := 0, embedded := false, tag := "", pkgPath := "", byteOffset := 0 }, { name := "B", type := t2, offset := 1, embedded := false, tag := "", pkgPath := "", byteOffset := 8 }]).run P W = .ok (r1 && r2) W := by
  simp only [Op.eqFields, ne_eq, nm1, nm2, not_false_eq_true, if_true, Sem.run_bind, h1, h2, h3, Result.andThen_ok, Sem.run_ite, h4, h5, h6, Sem.run_pure]
  cases r1 <;> cases r2 <;> rfl
theorem eq_addr_at (d : Nat) (f g : Int) (xs ys : List Nat) (W : World) (hx : xs.length = 16) (hy : ys.length = 16) : (Op.equalIn (d + 3) 30 (addrV f xs) (addrV g ys)).run Try.prog W = .ok (decide (f = g ∧ xs = ys)) W := by
  rw [addrV, addrV, st, addr_fields]
  refine (two_fields Try.prog W (d + 2) _ _ 3 28 _ _ _ _ _ _ (part_fam W f xs) (part_fam W g ys) (eq_fam d f g W) (part_bytes W f xs hx) (part_bytes W g ys hy) (eq_arr16 d xs ys W hx hy)).trans ?_
  congr 1
  by_cases h1 : f = g <;> by_cases h2 : xs = ys <;> simp [h1, h2]
theorem eq_addr (f g : Int) (xs ys : List Nat) (W : World) (hx : xs.length = 16) (hy : ys.length = 16) : (Op.equalIn 10000 30 (addrV f xs) (addrV g ys)).run Try.prog W = .ok (decide (f = g ∧ xs = ys)) W :=
  eq_addr_at 9997 f g xs ys W hx hy
end Go.Proofs.Ytjpjobbmljlacaa
/- Two addresses held against each other, as a walk meets it. -/
namespace Go.Proofs.Ytjpjobbmljlacaa
open Go.RowKit
set_option linter.unusedVariables false
set_option maxRecDepth 20000

/-- No interface lies inside an address. -/
theorem guard_addr (op : BinOp) (x y : Operand) (f g : Int) (xs ys : List Nat) (W : World) : (eqGuard op 30 x y (addrV f xs) (addrV g ys)).run Try.prog W = .ok () W := run_eqGuard_agg _ _ _ _ _ _ _ Try.eqGuardType30
theorem guard_zero (op : BinOp) (x y : Operand) (f : Int) (xs : List Nat) (W : World) : (eqGuard op 30 x y (addrV f xs) (.agg zA)).run Try.prog W = .ok () W := run_eqGuard_agg _ _ _ _ _ _ _ Try.eqGuardType30
theorem guard_arr16 (op : BinOp) (x y : Operand) (xs ys : List Nat) (W : World) : (eqGuard op 28 x y (arr16 xs) (arr16 ys)).run Try.prog W = .ok () W := run_eqGuard_agg _ _ _ _ _ _ _ Try.eqGuardType28
theorem run_eq_addr (f g : Int) (xs ys : List Nat) (W : World) (hx : xs.length = 16) (hy : ys.length = 16) : (binOp .eql 30 (addrV f xs) (addrV g ys)).run Try.prog W = .ok (.bool (decide (f = g ∧ xs = ys))) W := by
  have h := eq_addr f g xs ys W hx hy
  unfold addrV at h ⊢
  rw [run_eql_struct, h]
  rfl
theorem run_neq_addr (f g : Int) (xs ys : List Nat) (W : World) (hx : xs.length = 16) (hy : ys.length = 16) : (binOp .neq 30 (addrV f xs) (addrV g ys)).run Try.prog W = .ok (.bool (!decide (f = g ∧ xs = ys))) W := by
  have h := eq_addr f g xs ys W hx hy
  unfold addrV at h ⊢
  rw [run_neq_struct, h]
  rfl
theorem run_same_addr (f : Int) (xs : List Nat) (W : World) (hx : xs.length = 16) : (binOp .eql 30 (addrV f xs) (addrV f xs)).run Try.prog W = .ok (.bool true) W := by
  rw [run_eq_addr f f xs xs W hx hx, decide_eq_true ⟨rfl, rfl⟩]
theorem run_nsame_addr (f : Int) (xs : List Nat) (W : World) (hx : xs.length = 16) : (binOp .neq 30 (addrV f xs) (addrV f xs)).run Try.prog W = .ok (.bool false) W := by
  rw [run_neq_addr f f xs xs W hx hx, decide_eq_true ⟨rfl, rfl⟩]
  rfl
theorem run_zero_addr (f : Int) (xs : List Nat) (W : World) (hx : xs.length = 16) : (binOp .eql 30 (addrV f xs) (.agg zA)).run Try.prog W = .ok (.bool (decide (f = 0 ∧ xs = List.replicate 16 0))) W :=
  run_eq_addr f 0 xs (List.replicate 16 0) W hx rfl
theorem run_eq_arr16 (xs ys : List Nat) (W : World) (hx : xs.length = 16) (hy : ys.length = 16) : (binOp .eql 28 (arr16 xs) (arr16 ys)).run Try.prog W = .ok (.bool (decide (xs = ys))) W := by
  have h := eq_arr16 9998 xs ys W hx hy
  unfold arr16
  rw [run_eql_struct, h]
  rfl
theorem run_neq_arr16 (xs ys : List Nat) (W : World) (hx : xs.length = 16) (hy : ys.length = 16) : (binOp .neq 28 (arr16 xs) (arr16 ys)).run Try.prog W = .ok (.bool (!decide (xs = ys))) W := by
  have h := eq_arr16 9998 xs ys W hx hy
  unfold arr16
  rw [run_neq_struct, h]
  rfl
end Go.Proofs.Ytjpjobbmljlacaa
/- A prefix (api.Prefix: an address, and its bits: 18 cells) in memory: read and stored whole, given back, held over calls, held against another one. -/
namespace Go.Proofs.Ytjpjobbmljlacaa
open Go.RowKit
set_option linter.unusedVariables false
set_option maxRecDepth 20000

/-- The cells of a prefix. -/
def prefL (f : Int) (bs : List Nat) (n : Int) : List Value := addrL f bs ++ [Value.int .i64 n]
def prefV (f : Int) (bs : List Nat) (n : Int) : Value := .agg (prefL f bs n).toArray
theorem prefL_len (f : Int) (bs : List Nat) (n : Int) (h : bs.length = 16) : (prefL f bs n).length = 18 := by simp [prefL, addrL_len f bs h]
theorem prefL_one (f : Int) (bs : List Nat) (n : Int) : (prefL f bs n).toArray.all (·.oneCell') = true := all_oneCell_toArray fun v hv => by
  rcases List.mem_append.1 hv with hv | hv
  · rcases List.mem_cons.1 hv with rfl | hv
    · rfl
    · obtain ⟨n, _, rfl⟩ := List.mem_map.1 hv
      rfl
  · rw [List.mem_singleton] at hv; rw [hv]; rfl
/-- A prefix lies at G. -/
structure PrefAt (w : World) (G : Nat) (f : Int) (bs : List Nat) (n : Int) : Prop where
  addr : AddrAt w G f bs
  bits : w.cell? ⟨G, 17, none⟩ = some (.int .i64 n)
  live : w.frozen? ⟨G, 17, none⟩ = false
section
variable {w w' : World} {G : Nat} {f : Int} {bs : List Nat} {n : Int}
theorem PrefAt.below (h : PrefAt w G f bs n) (hb : Below w.heap.size w w') : PrefAt w' G f bs n :=
  ⟨h.addr.below hb, by rw [hb.cell (p := ⟨G, 17, none⟩) h.addr.lt]; exact h.bits, by rw [hb.frozen (p := ⟨G, 17, none⟩) h.addr.lt]; exact h.live⟩
theorem PrefAt.alloc (h : PrefAt w G f bs n) (b : Obj) : PrefAt (w.alloc b) G f bs n := h.below ((Below.refl _ _).alloc (Nat.le_refl _) _)
theorem PrefAt.range (h : PrefAt w G f bs n) : w.rangeAt G 0 (prefL f bs n) := by
  intro j v hv
  have hl := addrL_len f bs h.addr.len
  unfold prefL at hv
  by_cases hj : j < 17
  · rw [List.getElem?_append_left (by omega)] at hv
    exact h.addr.range j v hv
  · rw [List.getElem?_append_right (by omega), hl] at hv
    have e : j = 17 := by
      apply Classical.byContradiction
      intro h2
      rw [List.getElem?_eq_none (by simp; omega)] at hv
      cases hv
    subst e
    rw [Nat.zero_add, h.bits, ← hv]
    rfl
theorem PrefAt.there (h : PrefAt w G f bs n) : w.there G 0 18 := by
  intro j hj
  by_cases h1 : j < 17
  · exact h.addr.there j h1
  · obtain rfl : j = 17 := by omega
    rw [Nat.zero_add]
    exact ⟨by rw [h.bits]; rfl, h.live⟩
theorem PrefAt.ofRange (hl : bs.length = 16) (hlt : G < w.heap.size) (h : w.rangeAt G 0 (prefL f bs n)) (ht : w.there G 0 18) : PrefAt w G f bs n := by
  refine ⟨AddrAt.ofRange hl hlt (fun j v hv => ?_) (fun j hj => ht j (by omega)), ?_, ?_⟩
  · have hj : j < (addrL f bs).length := by
      apply Classical.byContradiction
      intro h2
      rw [List.getElem?_eq_none (by omega)] at hv
      cases hv
    exact h j v (by unfold prefL; rw [List.getElem?_append_left hj]; exact hv)
  · have := h 17 (.int .i64 n) (by unfold prefL; rw [List.getElem?_append_right (by rw [addrL_len f bs hl]; exact Nat.le_refl _), addrL_len f bs hl]; rfl)
    rw [Nat.zero_add] at this
    exact this
  · have := (ht 17 (by decide)).2
    rw [Nat.zero_add] at this
    exact this
theorem PrefAt.stored {f0 : Int} {bs0 : List Nat} {n0 : Int} (h : PrefAt w G f0 bs0 n0) (f : Int) (bs : List Nat) (n : Int) (hl : bs.length = 16) : PrefAt (w.setCells G 0 (prefL f bs n)) G f bs n := by
  have ht : w.there G 0 (prefL f bs n).length := by rw [prefL_len f bs n hl]; exact h.there
  exact PrefAt.ofRange hl (by rw [size_setCells]; exact h.addr.lt) (World.rangeAt_setCells_same w G 0 _ ht) (World.there_setCells h.there G 0 _)
theorem PrefAt.apart (h : PrefAt w G f bs n) {G' o : Nat} (hG : G ≠ G') (vs : List Value) : PrefAt (w.setCells G' o vs) G f bs n :=
  PrefAt.ofRange h.addr.len (by rw [size_setCells]; exact h.addr.lt) (World.rangeAt_setCells_apart h.range _ _ _ (.inl hG)) (World.there_setCells h.there _ _ _)
/-- Its address alone is stored anew. -/
theorem PrefAt.storedAddr (h : PrefAt w G f bs n) (g : Int) (cs : List Nat) (hl : cs.length = 16) : PrefAt (w.setCells G 0 (addrL g cs)) G g cs n := by
  refine ⟨h.addr.stored g cs hl, ?_, ?_⟩
  · have hr : w.rangeAt G 17 [Value.int .i64 n] := by
      intro j v hv
      cases j with
      | zero => rw [Nat.add_zero, h.bits, ← hv]; rfl
      | succ j => simp at hv
    have h2 := World.rangeAt_setCells_apart hr G 0 (addrL g cs) (.inr (.inr (by rw [addrL_len g cs hl]; exact Nat.le_refl _)))
    exact h2 0 _ rfl
  · exact (World.there_setCells h.there G 0 (addrL g cs) 17 (by decide)).2
end
theorem PrefAt.of (w : World) (t : TypeId) (cs : Array Value) (f : Int) (bs : List Nat) (n : Int) (h16 : bs.length = 16) (h : cs.toList = prefL f bs n) : PrefAt (w.alloc (.cells cs t)) w.heap.size f bs n := by
  have e : ∀ j, cs[j]? = (prefL f bs n)[j]? := fun j => by rw [← h, Array.getElem?_toList]
  refine PrefAt.ofRange h16 (by simp) (fun j v hv => ?_) (fun j hj => ⟨?_, World.frozen?_alloc_new _ _ _ _⟩)
  · rw [World.cell?_alloc_new, Nat.zero_add, e]; exact hv
  · rw [World.cell?_alloc_new, Nat.zero_add, e, List.getElem?_eq_getElem (by rw [prefL_len f bs n h16]; exact hj)]; rfl
theorem pref_size : (Try.prog.info? 32).map (·.size) = some 18 := by kernel_rfl
/-- A prefix that comes in, boxed. -/
theorem pref_boxed (f : Int) (bs : List Nat) (n : Int) (w : World) (h16 : bs.length = 16) :
    ∃ cs : Array Value, prefV f bs n = .agg cs ∧ Hid (PrefAt (w.alloc (.cells cs 32)) w.heap.size f bs n) ∧ Hid (Below w.heap.size w (w.alloc (.cells cs 32))) :=
  ⟨_, rfl, Lib.hid (PrefAt.of w _ _ f bs n h16 rfl), Lib.hid ((Below.refl _ _).alloc (Nat.le_refl _) _)⟩
/-- The cells of a prefix of zeros. -/
abbrev zP : Array Value := #[.int .i64 0, .int .u8 0, .int .u8 0, .int .u8 0, .int .u8 0, .int .u8 0, .int .u8 0, .int .u8 0, .int .u8 0, .int .u8 0, .int .u8 0, .int .u8 0, .int .u8 0, .int .u8 0, .int .u8 0, .int .u8 0, .int .u8 0, .int .i64 0]
theorem pref_zeroed (w : World) : PrefAt (w.alloc (.cells zP 32)) w.heap.size 0 (List.replicate 16 0) 0 := PrefAt.of w _ _ 0 _ 0 rfl rfl
theorem loadVar_pref {w : World} {G : Nat} {f : Int} {bs : List Nat} {n : Int} (h : PrefAt w G f bs n) : (loadVar 32 ⟨G, 0, none⟩).run Try.prog w = .ok (prefV f bs n) w :=
  run_loadVar_mid w G 0 32 (prefL f bs n) _ h.range Try.underlying32 rfl (by rw [pref_size, prefL_len f bs n h.addr.len])
/-- A prefix, loaded whole, guarded or not. -/
theorem load_pref_g {ops : Array Oper} {rest : List Oper} {op : Oper} {a : Act} {w : World} {Q : Exit → Act → World → Prop} {G : Nat} {f : Int} {bs : List Nat} {n : Int} (hA : Hid (PrefAt w G f bs n)) (x : Operand) (hw : Region.wanted op (yielded ops a.tmps) = true) (ho : op.op = .load 32 x)
    (hx : a.eval x = .pointer (some ⟨G, 0, none⟩)) (h : wpList Try.prog ops Q rest (a.put op.dst (prefV f bs n)) w) : wpList Try.prog ops Q (op :: rest) a w :=
  wpList_load_row hw 32 x ho G 0 hx (prefL f bs n) _ hA.out.range Try.underlying32 rfl (by rw [pref_size, prefL_len f bs n hA.out.addr.len]) h
/-- A prefix, stored whole. -/
theorem store_pref {ops : Array Oper} {rest : List Oper} {op : Oper} {a : Act} {w : World} {Q : Exit → Act → World → Prop} {G : Nat} {g : Int} {bs0 : List Nat} {n0 : Int} (hA : Hid (PrefAt w G g bs0 n0)) (x y : Operand) {f : Int} {bs : List Nat} {n : Int} (hl : Hid (bs.length = 16)) (hgd : op.guard = none) (ho : op.op = .store 32 x y)
    (hx : a.eval x = .pointer (some ⟨G, 0, none⟩)) (hy : a.eval y = prefV f bs n) (h : ∀ W, Hid (W = w.setCells G 0 (prefL f bs n)) → Hid (PrefAt W G f bs n) → wpList Try.prog ops Q rest (a.put op.dst undef) W) : wpList Try.prog ops Q (op :: rest) a w :=
  wpList_store_mid hgd 32 x y ho G 0 (prefL f bs n).toArray hx hy (by rw [List.size_toArray, prefL_len f bs n hl.out]; exact hA.out.there) (by rw [pref_size, List.size_toArray, prefL_len f bs n hl.out]) (prefL_one f bs n) (h _ (Lib.hid rfl) (Lib.hid (hA.out.stored f bs n hl.out)))
/-- A prefix's address, stored anew. -/
theorem store_pref_addr {ops : Array Oper} {rest : List Oper} {op : Oper} {a : Act} {w : World} {Q : Exit → Act → World → Prop} {G : Nat} {g : Int} {bs0 : List Nat} {n : Int} (hA : Hid (PrefAt w G g bs0 n)) (x y : Operand) {f : Int} {bs : List Nat} (hl : Hid (bs.length = 16)) (hgd : op.guard = none) (ho : op.op = .store 30 x y)
    (hx : a.eval x = .pointer (some ⟨G, 0, none⟩)) (hy : a.eval y = addrV f bs) (h : ∀ W, Hid (W = w.setCells G 0 (addrL f bs)) → Hid (PrefAt W G f bs n) → wpList Try.prog ops Q rest (a.put op.dst undef) W) : wpList Try.prog ops Q (op :: rest) a w :=
  wpList_store_mid hgd 30 x y ho G 0 (addrL f bs).toArray hx hy (by rw [List.size_toArray, addrL_len f bs hl.out]; exact hA.out.addr.there) (by rw [addr_size, List.size_toArray, addrL_len f bs hl.out]) (addrL_one f bs) (h _ (Lib.hid rfl) (Lib.hid (hA.out.storedAddr f bs hl.out)))
/-- A prefix, given back out of its cells. -/
theorem results_pref {fn : Func} {a : Tmp} {tmps : Array Value} {W : World} {R : Nat} {f : Int} {bs : List Nat} {n : Int} (h : fn.results = #[.cell a 32]) (ha : tmps.getD a undef = .pointer (some ⟨R, 0, none⟩)) (hA : PrefAt W R f bs n) : (results fn tmps).run Try.prog W = .ok (prefV f bs n) W := by
  rw [Array.getD_eq_getD_getElem?] at ha
  simp [results, h, ha, asAddr, loadVar_pref hA]
theorem results_pref2 {fn : Func} {a t : Tmp} {tmps : Array Value} {W : World} {R : Nat} {f : Int} {bs : List Nat} {n : Int} (h : fn.results = #[.cell a 32, .tmp t]) (ha : tmps.getD a undef = .pointer (some ⟨R, 0, none⟩)) (hA : PrefAt W R f bs n) : (results fn tmps).run Try.prog W = .ok (.tuple #[prefV f bs n, tmps.getD t undef]) W := by
  rw [Array.getD_eq_getD_getElem?] at ha
  simp [results, h, ha, asAddr, loadVar_pref hA]
/-- Held over a region: the prefix, and its address. -/
theorem HeldR.pref {L : List (Nat × Nat × List Value)} {W w : World} {G : Nat} {f : Int} {bs : List Nat} {n : Int} (h : HeldR L W w) (hA : PrefAt w G f bs n) : HeldR ((G, 0, prefL f bs n) :: (G, 0, addrL f bs) :: L) W w := (h.addr hA.addr).cons hA.range hA.addr.lt
def InP (L : List (Nat × Nat × List Value)) (G : Nat) (f : Int) (bs : List Nat) (n : Int) : Prop := (G, 0, prefL f bs n) ∈ L ∧ bs.length = 16
theorem yields_pref {ops : Array Oper} {op : Oper} {a : Act} {L : List (Nat × Nat × List Value)} {W : World} {G : Nat} {f : Int} {bs : List Nat} {n : Int} (hm : Hid (InP L G f bs n)) (hw : Region.wanted op (yielded ops a.tmps) = true) (x : Operand) (ho : op.op = .load 32 x)
    (hx : a.eval x = .pointer (some ⟨G, 0, none⟩)) : YieldsIf Try.prog ops (HeldR L W) op (prefV f bs n) a :=
  yieldsIf_load_mid hw 32 x ho G 0 hx (prefL f bs n) _ (fun _ h => h.get hm.out.1) Try.underlying32 rfl (by rw [pref_size, prefL_len f bs n hm.out.2])
theorem bitsR {L : List (Nat × Nat × List Value)} {G : Nat} {f : Int} {bs : List Nat} {n : Int} (h : InP L G f bs n) (W : World) : CellR L W G 17 (.int .i64 n) := fun w hw => hw.cell h.1 17 _ (by
  unfold prefL; rw [List.getElem?_append_right (by rw [addrL_len f bs h.2]; exact Nat.le_refl _), addrL_len f bs h.2]; rfl)
theorem famPR {L : List (Nat × Nat × List Value)} {G : Nat} {f : Int} {bs : List Nat} {n : Int} (h : InP L G f bs n) (W : World) : CellR L W G 0 (.int .i64 f) := fun w hw => hw.cell h.1 0 _ rfl
/-- One operation alone may come up, and it is wanted. -/
theorem AllReadyH.one {P : Program} {md : Region.Mode} {ops : Array Oper} {Q : Exit → Act → World → Prop} {S : World → Prop} {fuel : Nat} {listed : Array Bool} {a : Act} {w : World} {i : Nat} {o : Oper} (ho : ops[i]? = some o) (hw : Region.wanted o (yielded ops a.tmps) = true)
    (h : ∀ K' : Act → World → Prop, Shut (∀ a w, S w → (S w → wpAnyH P md ops Q S fuel (listed.setIfInBounds i true) a w) → K' a w) → Oper.wp P o a w K' Q) : AllReadyH P md ops Q S fuel listed a w [i] :=
  AllReadyH.cons ho (fun K hK => by rw [if_pos hw]; exact h K hK) AllReadyH.nil
/-- A store into a block that is none of the list's, and newer than W. -/
theorem HeldR.store {L : List (Nat × Nat × List Value)} {W w : World} (h : HeldR L W w) {R o : Nat} (vs : List Value) (hR : W.heap.size ≤ R) (hn : ∀ x ∈ L, x.1 ≠ R) : HeldR L W (w.setCells R o vs) :=
  ⟨fun x hx => ⟨World.rangeAt_setCells_apart (h.1 x hx).1 _ _ _ (.inl (hn x hx)), by rw [size_setCells]; exact (h.1 x hx).2⟩, below_cells hR _ _ _ h.2⟩
theorem wp_store_pref {op : Oper} {a : Act} {w : World} {K : Act → World → Prop} {Q : Exit → Act → World → Prop} {G : Nat} {g : Int} {bs0 : List Nat} {n0 : Int} (hA : Hid (PrefAt w G g bs0 n0)) (x y : Operand) {f : Int} {bs : List Nat} {n : Int} (hl : Hid (bs.length = 16)) (ho : op.op = .store 32 x y)
    (hx : a.eval x = .pointer (some ⟨G, 0, none⟩)) (hy : a.eval y = prefV f bs n) (h : Hid (PrefAt (w.setCells G 0 (prefL f bs n)) G f bs n) → K (a.put op.dst undef) (w.setCells G 0 (prefL f bs n))) : op.wp Try.prog a w K Q :=
  wp_store_mid 32 x y ho G 0 (prefL f bs n).toArray hx hy (by rw [List.size_toArray, prefL_len f bs n hl.out]; exact hA.out.there) (by rw [pref_size, List.size_toArray, prefL_len f bs n hl.out]) (prefL_one f bs n) (h (Lib.hid (hA.out.stored f bs n hl.out)))
/-- Two prefixes, held against each other. -/
theorem pref_fields : Try.prog.fieldsOf 32 = #[{ name := "Addr", type := 30, offset := 0, embedded := false, tag := "", pkgPath := "", byteOffset := 0 }, { name := "Bits", type := 3, offset := 17, embedded := false, tag := "", pkgPath := "", byteOffset := 24 }] := by simp only [Program.fieldsOf, Try.underlying32]
theorem nm3 : ("Addr" = "_") = False := by simp
theorem nm4 : ("Bits" = "_") = False := by simp
theorem stP (d : Nat) (xs ys : Array Value) (W : World) : (Op.equalIn (d + 4) 32 (.agg xs) (.agg ys)).run Try.prog W = (Op.eqFields (d + 3) xs ys (Try.prog.fieldsOf 32).toList).run Try.prog W :=
  run_equalIn_struct W (d + 3) _ _ _ (by rw [pref_fields]; exact Try.underlying32) Try.stoodInHeld32
theorem part_addr (W : World) (f : Int) (xs : List Nat) (n : Int) (hx : xs.length = 16) : (part 30 (prefL f xs n).toArray 0).run Try.prog W = .ok (addrV f xs) W := by
  obtain ⟨i, hi, hs⟩ : ∃ i, Try.prog.info? 30 = some i ∧ i.size = 17 := ⟨_, rfl, by kernel_rfl⟩
  have h2 : (isAgg 30).run Try.prog W = .ok true W := by
    unfold isAgg
    rw [Sem.run_bind, run_underlying Try.underlying30 W]
    simp
  have h3 : (sizeOf 30).run Try.prog W = .ok 17 W := by simp [sizeOf, typeInfo, hi, hs]
  simp only [part, Sem.run_bind, h2, Result.andThen_ok, if_true, h3, Sem.run_pure]
  rw [addrV_L]
  congr 2
  apply Array.ext'
  simp only [Array.toList_extract, List.extract_eq_take_drop]
  show ((addrL f xs ++ [Value.int .i64 n]).drop 0).take 17 = addrL f xs
  rw [List.drop_zero, List.take_append_of_le_length (by rw [addrL_len f xs hx]; exact Nat.le_refl _), List.take_of_length_le (by rw [addrL_len f xs hx]; exact Nat.le_refl _)]
theorem part_bits (W : World) (f : Int) (xs : List Nat) (n : Int) (hx : xs.length = 16) : (part 3 (prefL f xs n).toArray 17).run Try.prog W = .ok (.int .i64 n) W := run_part_plain W plainK_int (by
  rw [List.getElem?_toArray]
  unfold prefL; rw [List.getElem?_append_right (by rw [addrL_len f xs hx]; exact Nat.le_refl _), addrL_len f xs hx]; rfl)
theorem eq_bits (d : Nat) (f g : Int) (W : World) : (Op.equalIn (d + 3) 3 (.int .i64 f) (.int .i64 g)).run Try.prog W = .ok (f == g) W := run_equalIn_int (P := Try.prog) W (d + 2) 3 .i64 .i64 f g Try.underlying3
theorem two_fieldsP (P : Program) (W : World) (D : Nat) (X Y : Array Value) (t1 t2 : TypeId) (a1 b1 a2 b2 : Value) (r1 r2 : Bool)
    (h1 : (part t1 X 0).run P W = .ok a1 W) (h2 : (part t1 Y 0).run P W = .ok b1 W) (h3 : (Op.equalIn D t1 a1 b1).run P W = .ok r1 W)
    (h4 : (part t2 X 17).run P W = .ok a2 W) (h5 : (part t2 Y 17).run P W = .ok b2 W) (h6 : (Op.equalIn D t2 a2 b2).run P W = .ok r2 W) :
    (Op.eqFields D X Y [{ name := "Addr", type := t1, offset := 0, embedded := false, tag := "", pkgPath := "", byteOffset := 0 }, { name := "Bits", type := t2, offset := 17, embedded := false, tag := "", pkgPath := "", byteOffset := 24 }]).run P W = .ok (r1 && r2) W := by
  simp only [Op.eqFields, ne_eq, nm3, nm4, not_false_eq_true, if_true, Sem.run_bind, h1, h2, h3, Result.andThen_ok, Sem.run_ite, h4, h5, h6, Sem.run_pure]
  cases r1 <;> cases r2 <;> rfl
theorem eq_pref_at (d : Nat) (f g : Int) (xs ys : List Nat) (n m : Int) (W : World) (hx : xs.length = 16) (hy : ys.length = 16) : (Op.equalIn (d + 4) 32 (prefV f xs n) (prefV g ys m)).run Try.prog W = .ok (decide (f = g ∧ xs = ys ∧ n = m)) W := by
  rw [prefV, prefV, stP, pref_fields]
  refine (two_fieldsP Try.prog W (d + 3) _ _ 30 3 _ _ _ _ _ _ (part_addr W f xs n hx) (part_addr W g ys m hy) (eq_addr_at d f g xs ys W hx hy) (part_bits W f xs n hx) (part_bits W g ys m hy) (eq_bits d n m W)).trans ?_
  congr 1
  by_cases h1 : f = g <;> by_cases h2 : xs = ys <;> by_cases h3 : n = m <;> simp [h1, h2, h3]
theorem eq_pref (f g : Int) (xs ys : List Nat) (n m : Int) (W : World) (hx : xs.length = 16) (hy : ys.length = 16) : (Op.equalIn 10000 32 (prefV f xs n) (prefV g ys m)).run Try.prog W = .ok (decide (f = g ∧ xs = ys ∧ n = m)) W :=
  eq_pref_at 9996 f g xs ys n m W hx hy
theorem guard_pref (op : BinOp) (x y : Operand) (f g : Int) (xs ys : List Nat) (n m : Int) (W : World) : (eqGuard op 32 x y (prefV f xs n) (prefV g ys m)).run Try.prog W = .ok () W := run_eqGuard_agg _ _ _ _ _ _ _ Try.eqGuardType32
theorem run_eq_pref (f g : Int) (xs ys : List Nat) (n m : Int) (W : World) (hx : xs.length = 16) (hy : ys.length = 16) : (binOp .eql 32 (prefV f xs n) (prefV g ys m)).run Try.prog W = .ok (.bool (decide (f = g ∧ xs = ys ∧ n = m))) W := by
  have h := eq_pref f g xs ys n m W hx hy
  unfold prefV at h ⊢
  rw [run_eql_struct, h]
  rfl
theorem run_same_pref (f : Int) (xs : List Nat) (n : Int) (W : World) (hx : xs.length = 16) : (binOp .eql 32 (prefV f xs n) (prefV f xs n)).run Try.prog W = .ok (.bool true) W := by
  rw [run_eq_pref f f xs xs n n W hx hx, decide_eq_true ⟨rfl, rfl, rfl⟩]
theorem below_newA {w W : World} {f : Int} {bs : List Nat} (h : Hid (W = (w.alloc (.cells zA 30)).setCells w.heap.size 0 (addrL f bs))) : Below w.heap.size w W := by
  rw [h.out]; exact below_cells (Nat.le_refl _) _ _ _ ((Below.refl _ _).alloc (Nat.le_refl _) _)
theorem below_newP {w W : World} {f : Int} {bs : List Nat} {n : Int} (h : Hid (W = (w.alloc (.cells zP 32)).setCells w.heap.size 0 (prefL f bs n))) : Below w.heap.size w W := by
  rw [h.out]; exact below_cells (Nat.le_refl _) _ _ _ ((Below.refl _ _).alloc (Nat.le_refl _) _)
theorem wf_small {n : Nat} (h : n ≤ 100000) : (Lit.int .i64 (n : Int)).wf = true := WalkArith.wf_i64 ⟨by omega, by omega⟩
/-- A prefix, built of its address and its bits; an address of a family alone. -/
theorem built_pref (f : Int) (bs : List Nat) (n : Int) (h16 : bs.length = 16) : Try.prog.built 32 [(0, addrV f bs), (1, .int .i64 n)] = some (prefL f bs n).toArray := by
  obtain ⟨y0, y1, y2, y3, y4, y5, y6, y7, y8, y9, y10, y11, y12, y13, y14, y15, rfl⟩ := list16 bs h16
  kernel_rfl
theorem built_fam (f : Int) : Try.prog.built 30 [(0, .int .i64 f)] = some (addrL f (List.replicate 16 0)).toArray := rfl
theorem built_zero : Try.prog.built 32 [] = some (prefL 0 (List.replicate 16 0) 0).toArray := rfl
theorem exec_build {P : Program} {o : Oper} {a : Act} {w : World} {t : TypeId} {parts : Array (Nat × Operand)} {cells : Array Value} (ho : o.op = .build t parts) (h : P.built t (parts.map fun (i, x) => (i, a.eval x)).toList = some cells) : (execOp a.eval o).run P w = .ok (.value (.agg cells)) w := by
  unfold execOp
  simp only [ho, Sem.run_bind, run_build w t _ cells h, Result.andThen_ok]
  rfl
theorem yields_build_pref {ops : Array Oper} {S : World → Prop} {op : Oper} {a : Act} {f : Int} {bs : List Nat} {n : Int} (hl : Hid (bs.length = 16)) (hw : Region.wanted op (yielded ops a.tmps) = true) (x y : Operand) (ho : op.op = .build 32 #[(0, x), (1, y)])
    (hx : a.eval x = addrV f bs) (hy : a.eval y = .int .i64 n) : YieldsIf Try.prog ops S op (prefV f bs n) a :=
  .inl ⟨hw, fun w _ => exec_build ho (by
    simp only [List.map_toArray, List.map_cons, List.map_nil]
    rw [hx, hy]; exact built_pref f bs n hl.out)⟩
theorem yields_build_fam {ops : Array Oper} {S : World → Prop} {op : Oper} {a : Act} {f : Int} (hw : Region.wanted op (yielded ops a.tmps) = true) (x : Operand) (ho : op.op = .build 30 #[(0, x)])
    (hx : a.eval x = .int .i64 f) : YieldsIf Try.prog ops S op (addrV f (List.replicate 16 0)) a :=
  .inl ⟨hw, fun w _ => exec_build ho (by
    simp only [List.map_toArray, List.map_cons, List.map_nil]
    rw [hx]; exact built_fam f)⟩
theorem build_pref {ops : Array Oper} {rest : List Oper} {op : Oper} {a : Act} {w : World} {Q : Exit → Act → World → Prop} {f : Int} {bs : List Nat} {n : Int} (hl : Hid (bs.length = 16)) (hg : op.guard = none) (x y : Operand) (ho : op.op = .build 32 #[(0, x), (1, y)])
    (hx : a.eval x = addrV f bs) (hy : a.eval y = .int .i64 n) (h : wpList Try.prog ops Q rest (a.put op.dst (prefV f bs n)) w) : wpList Try.prog ops Q (op :: rest) a w := by
  have e : Try.prog.built 32 ((#[(0, x), (1, y)] : Array (Nat × Operand)).map fun (i, x) => (i, a.eval x)).toList = some (prefL f bs n).toArray := by
    simp only [List.map_toArray, List.map_cons, List.map_nil]
    rw [hx, hy]; exact built_pref f bs n hl.out
  refine wpList_build hg 32 _ ho (by rw [e]; rfl) ?_
  rw [e]
  exact h
theorem build_fam {ops : Array Oper} {rest : List Oper} {op : Oper} {a : Act} {w : World} {Q : Exit → Act → World → Prop} {f : Int} (hg : op.guard = none) (x : Operand) (ho : op.op = .build 30 #[(0, x)])
    (hx : a.eval x = .int .i64 f) (h : wpList Try.prog ops Q rest (a.put op.dst (addrV f (List.replicate 16 0))) w) : wpList Try.prog ops Q (op :: rest) a w := by
  have e : Try.prog.built 30 ((#[(0, x)] : Array (Nat × Operand)).map fun (i, x) => (i, a.eval x)).toList = some (addrL f (List.replicate 16 0)).toArray := by
    simp only [List.map_toArray, List.map_cons, List.map_nil]
    rw [hx]; exact built_fam f
  refine wpList_build hg 30 _ ho (by rw [e]; rfl) ?_
  rw [e]
  exact h
theorem build_zero {ops : Array Oper} {rest : List Oper} {op : Oper} {a : Act} {w : World} {Q : Exit → Act → World → Prop} (hg : op.guard = none) (ho : op.op = .build 32 #[])
    (h : wpList Try.prog ops Q rest (a.put op.dst (prefV 0 (List.replicate 16 0) 0)) w) : wpList Try.prog ops Q (op :: rest) a w := by
  have e : Try.prog.built 32 ((#[] : Array (Nat × Operand)).map fun (i, x) => (i, a.eval x)).toList = some (prefL 0 (List.replicate 16 0) 0).toArray := by
    simp only [List.map_toArray, List.map_nil]
    exact built_zero
  refine wpList_build hg 32 _ ho (by rw [e]; rfl) ?_
  rw [e]
  exact h
end Go.Proofs.Ytjpjobbmljlacaa
/- Contract of the reference's With of layer 5. -/
namespace Go.Proofs.Ytjpjobbmljlacaa
open Go.RowKit
set_option linter.unusedVariables false
set_option maxRecDepth 20000

set_option maxRecDepth 100000 in
set_option maxHeartbeats 2000000 in
theorem refWith_any (f : Int) (bs : List Nat) (n b : Nat) (w : World) (h16 : bs.length = 16) (hlt : ∀ x ∈ bs, x < 256) (hn : n ≤ 1000) (hb : b ≤ 1) :
    Calls Try.prog 39 #[addrV f bs, .int .i64 (n : Int), .int .i64 (b : Int)] w fun e w' => e = .returned (addrV f (withL (bitsN f) bs n b)) ∧ Below w.heap.size w w' := by
  obtain ⟨R, eR⟩ : ∃ R, withL (bitsN f) bs n b = R := ⟨_, rfl⟩
  rw [eR]
  have H16 := Lib.hid h16
  have HLT := Lib.hid hlt
  have HF : Hid (∀ i, withF (bitsN f) bs n b i ≤ 1) := Lib.hid (fun i => withF_le _ _ _ _ _ hb)
  have HN := bitsN_le f
  obtain ⟨cs, ecs, HA, HB⟩ := addr_boxed f bs w h16
  have HR := addr_zeroed (w.alloc (.cells cs 30))
  rw [heap_alloc] at HR
  have HRH := Lib.hid HR
  have HA1 := Lib.hid (HA.out.alloc (.cells zA 30))
  have HB1 := Lib.hid (HB.out.alloc HB.out.size (.cells zA 30))
  rw [ecs]
  clear ecs h16 hlt HA HB HR
  go_enter Try.func39, Try.ntmps39
  go_upto_region 1 with fail
  generalize ((w.alloc (.cells cs 30)).alloc (.cells zA 30)) = W at *
  have hfam := HA1.out.fam
  have HZ1 := Lib.hid (addr_zeroed W)
  have HLZ : Hid ((List.replicate 16 0).length = 16) := Lib.hid rfl
  have GW := HRH.out.lt
  go_upto_region 2 with (first | refine build_fam rfl _ rfl rfl ?_ | refine store_addr HZ1 _ _ HLZ rfl rfl rfl rfl (fun W1 HW1 HO1 => ?_))
  have HA2 := Lib.hid (HA1.out.below (below_newA HW1))
  have HR2 := Lib.hid (HRH.out.below (below_newA HW1))
  have HB2 := Lib.hid (chain HB1.out (below_newA HW1))
  generalize W.heap.size = G1 at *
  clear HA1 HB1 HRH HZ1 HW1 hfam
  have HP0 : Hid (AddrAt W1 G1 f (partL (withF (bitsN f) bs n b) 0)) := Lib.hid (by rw [partL_zero _ HF.out]; exact HO1.out)
  have HBI := fun W => Lib.hid (refBits_any f bs W H16.out)
  have HBT := fun W (k : Nat) (hk : k ≤ 128) => Lib.hid (refBit_any f bs (k : Int) W H16.out HLT.out (wf_small (by omega)))
  have HBA : Hid (∀ k : Nat, k < bitsN f → bitN f bs (k : Int) = bitA bs k) := Lib.hid (fun k hk => bitN_A f bs k hk)
  have HEN := Lib.hid (partL_end f (withF (bitsN f) bs n b) (fun i hi => if_neg (by omega)))
  have HE0 : Hid (R = ofBits (withF (bitsN f) bs n b)) := Lib.hid (by rw [← eR]; rfl)
  clear eR
  have HFV : Hid (∀ k : Nat, k < bitsN f → withF (bitsN f) bs n b k = if n ≤ k then b else bitA bs k) := Lib.hid (fun k hk => if_pos hk)
  generalize withF (bitsN f) bs n b = β at *
  generalize bitsN f = N at *
  clear HO1
  go_wp2_with fail
  go_loopw [8] (fun i wr => ∃ k : Nat, k ≤ N ∧ i = .int .i64 (k : Int) ∧ Hid (AddrAt wr w.heap.size f bs) ∧ Hid (AddrAt wr (w.heap.size + 1) 0 (List.replicate 16 0)) ∧ Hid (AddrAt wr G1 f (partL β k)) ∧ Hid (Below w.heap.size w wr)) (fun i _ => 128 - (intOf i).toNat)
  case atStart => exact ⟨0, by omega, rfl, HA2, HR2, HP0, HB2⟩
  case round =>
    obtain ⟨k, hk, rfl, HA3, HR3, HP3, HB3⟩ := hrel
    clear HA2 HR2 HP0 HB2
    have hk128 : k ≤ 128 := by omega
    go_wp2_with (refine load_addr_g HA3 _ rfl rfl rfl ?_)
    refine (HBI _).out.mono ?_
    rintro e w1 ⟨rfl, hb1⟩
    have HA4 := Lib.hid (HA3.out.below hb1)
    have HR4 := Lib.hid (HR3.out.below hb1)
    have HP4 := Lib.hid (HP3.out.below hb1)
    have HB4 := Lib.hid (chain HB3.out hb1)
    clear HA3 HR3 HP3 HB3 hb1
    by_cases hkN : k < N
    · have hd : decide ((k : Int) < (N : Int)) = true := by simp; omega
      go_wp2_with (refine load_addr_g HA4 _ rfl rfl rfl ?_)
      refine (HBT _ k hk128).out.mono ?_
      rintro e w2 ⟨rfl, hb2⟩
      have HA5 := Lib.hid (HA4.out.below hb2)
      have HR5 := Lib.hid (HR4.out.below hb2)
      have HP5 := Lib.hid (HP4.out.below hb2)
      have HB5 := Lib.hid (chain HB4.out hb2)
      clear HA4 HR4 HP4 HB4 hb2
      rw [HBA.out k hkN]
      have hv := bitA_le bs k
      have HFK := Lib.hid (HFV.out k hkN)
      have HST := Lib.hid (partL_step β HF.out k (by omega))
      have hx := partL_lt β HF.out k (by omega)
      have hq16 : k / 8 < 16 := by omega
      have hcell := HP5.out.cells (k / 8) hq16
      have hliv := HP5.out.live (1 + k / 8) (by omega)
      have HSV := fun v => Lib.hid (HP5.out.set (i := k / 8) hq16 v)
      generalize (partL β k).getD (k / 8) 0 = x at *
      generalize bitA bs k = v at *
      obtain ⟨q, eq, hq2⟩ : ∃ q : Nat, k / 8 = q ∧ (k : Int) / 8 = (q : Int) := ⟨_, rfl, by omega⟩
      rw [eq] at HST hq16 hcell hliv HSV
      have d1 : (k : Int).tdiv 8 = (q : Int) := by rw [Int.tdiv_eq_ediv_of_nonneg (by omega)]; exact hq2
      have q16 : (q : Int) < 16 := by omega
      have HGG := Lib.hid GW
      clear eq hq2 GW
      by_cases hnk : n ≤ k
      · have hd2 : decide ((n : Int) ≤ (k : Int)) = true := by simp; omega
        have HE : Hid ((partL β k).set q (x * 2 + b) = partL β (k + 1)) := Lib.hid (by rw [← HST.out, HFK.out, if_pos hnk])
        have wb : IntKind.u8.wrap (b : Int) = (b : Int) := by rw [IntKind.wrap_u8]; omega
        go_wp2_with fail
        go_roundw
        case rel => exact ⟨k + 1, by omega, by go_num, Lib.hid (HA5.out.other (by have := HGG.out; omega) _), Lib.hid (HR5.out.other (by have := HGG.out; omega) _), Lib.hid (by rw [← HE.out]; exact (HSV (x * 2 + b)).out), Lib.hid (HB5.out.setCell (p := ⟨G1, 1 + q, none⟩) (by show w.heap.size ≤ G1; have := HGG.out; omega) _)⟩
        case measure => simp [intOf]; omega
      · have hd2 : decide ((n : Int) ≤ (k : Int)) = false := by simp; omega
        have HE : Hid ((partL β k).set q (x * 2 + v) = partL β (k + 1)) := Lib.hid (by rw [← HST.out, HFK.out, if_neg hnk])
        have wv : IntKind.u8.wrap (v : Int) = (v : Int) := by rw [IntKind.wrap_u8]; omega
        go_wp2_with fail
        go_roundw
        case rel => exact ⟨k + 1, by omega, by go_num, Lib.hid (HA5.out.other (by have := HGG.out; omega) _), Lib.hid (HR5.out.other (by have := HGG.out; omega) _), Lib.hid (by rw [← HE.out]; exact (HSV (x * 2 + v)).out), Lib.hid (HB5.out.setCell (p := ⟨G1, 1 + q, none⟩) (by show w.heap.size ≤ G1; have := HGG.out; omega) _)⟩
        case measure => simp [intOf]; omega
    · obtain rfl : k = N := by omega
      have hd : decide ((k : Int) < (k : Int)) = false := by simp
      have HLN : Hid ((ofBits β).length = 16) := Lib.hid (ofBits_len β)
      rw [HEN.out] at HP4
      go_wp2_with (first | refine load_addr_g HP4 _ rfl rfl rfl ?_ | (refine store_addr HR4 _ _ HLN rfl rfl rfl rfl (fun W HW HA => ?_)))
      refine bodyPost_ret (v := addrV f (ofBits β)) (results_addr Try.results39 rfl HA.out) rfl ⟨by rw [HE0.out], by rw [HW.out]; exact below_cells (by omega) _ _ _ HB4.out⟩
end Go.Proofs.Ytjpjobbmljlacaa
/- Contracts of the reference's Of4 and Of6 of layer 4. -/
namespace Go.Proofs.Ytjpjobbmljlacaa
open Go.RowKit
set_option linter.unusedVariables false
set_option maxRecDepth 20000

/-- What Of4 has laid behind k rounds. -/
def lo4 (n : Nat) : Nat → List Nat
  | 0 => List.replicate 16 0
  | k + 1 => (lo4 n k).set (3 - k) (n / 256 ^ k % 256)
def b4 (n : Nat) : List Nat := lo4 n 4
theorem b4_eq (n : Nat) : b4 n = [n / 16777216 % 256, n / 65536 % 256, n / 256 % 256, n % 256, 0, 0, 0, 0, 0, 0, 0, 0, 0, 0, 0, 0] := by
  simp [b4, lo4]
theorem b4_len (n : Nat) : (b4 n).length = 16 := by rw [b4_eq]; rfl
theorem zero_addr (f : Int) : (#[.int .i64 f, .int .u8 0, .int .u8 0, .int .u8 0, .int .u8 0, .int .u8 0, .int .u8 0, .int .u8 0, .int .u8 0, .int .u8 0, .int .u8 0, .int .u8 0, .int .u8 0, .int .u8 0, .int .u8 0, .int .u8 0, .int .u8 0] : Array Value).toList = Value.int .i64 f :: (List.replicate 16 0).map fun n => Value.int .u8 ((n : Nat) : Int) := rfl
set_option maxRecDepth 100000 in
set_option maxHeartbeats 2000000 in
theorem refOf4_any (n : Nat) (w : World) (hn : n ≤ 4294967295) :
    Calls Try.prog 29 #[.int .u32 (n : Int)] w fun e w' => e = .returned (addrV 4 (b4 n)) ∧ Below w.heap.size w w' := by
  have hR := AddrAt.of w 30 #[.int .i64 0, .int .u8 0, .int .u8 0, .int .u8 0, .int .u8 0, .int .u8 0, .int .u8 0, .int .u8 0, .int .u8 0, .int .u8 0, .int .u8 0, .int .u8 0, .int .u8 0, .int .u8 0, .int .u8 0, .int .u8 0, .int .u8 0] 0 (List.replicate 16 0) rfl (zero_addr 0)
  have hP := AddrAt.of (w.alloc (.cells #[.int .i64 0, .int .u8 0, .int .u8 0, .int .u8 0, .int .u8 0, .int .u8 0, .int .u8 0, .int .u8 0, .int .u8 0, .int .u8 0, .int .u8 0, .int .u8 0, .int .u8 0, .int .u8 0, .int .u8 0, .int .u8 0, .int .u8 0] 30)) 30 #[.int .i64 4, .int .u8 0, .int .u8 0, .int .u8 0, .int .u8 0, .int .u8 0, .int .u8 0, .int .u8 0, .int .u8 0, .int .u8 0, .int .u8 0, .int .u8 0, .int .u8 0, .int .u8 0, .int .u8 0, .int .u8 0, .int .u8 0] 4 (List.replicate 16 0) rfl (zero_addr 4)
  have b1 : Below w.heap.size w (w.alloc (.cells #[.int .i64 0, .int .u8 0, .int .u8 0, .int .u8 0, .int .u8 0, .int .u8 0, .int .u8 0, .int .u8 0, .int .u8 0, .int .u8 0, .int .u8 0, .int .u8 0, .int .u8 0, .int .u8 0, .int .u8 0, .int .u8 0, .int .u8 0] 30)) := (Below.refl _ _).alloc (Nat.le_refl _) _
  have b2 := b1.alloc b1.size (.cells #[.int .i64 4, .int .u8 0, .int .u8 0, .int .u8 0, .int .u8 0, .int .u8 0, .int .u8 0, .int .u8 0, .int .u8 0, .int .u8 0, .int .u8 0, .int .u8 0, .int .u8 0, .int .u8 0, .int .u8 0, .int .u8 0, .int .u8 0] 30)
  have hR2 := hR.below ((Below.refl _ _).alloc (Nat.le_refl _) (.cells #[.int .i64 4, .int .u8 0, .int .u8 0, .int .u8 0, .int .u8 0, .int .u8 0, .int .u8 0, .int .u8 0, .int .u8 0, .int .u8 0, .int .u8 0, .int .u8 0, .int .u8 0, .int .u8 0, .int .u8 0, .int .u8 0, .int .u8 0] 30))
  have e1 : (w.alloc (.cells #[.int .i64 0, .int .u8 0, .int .u8 0, .int .u8 0, .int .u8 0, .int .u8 0, .int .u8 0, .int .u8 0, .int .u8 0, .int .u8 0, .int .u8 0, .int .u8 0, .int .u8 0, .int .u8 0, .int .u8 0, .int .u8 0, .int .u8 0] 30)).heap.size = w.heap.size + 1 := by simp
  rw [e1] at hP
  clear hR b1
  go_enter Try.func29, Try.ntmps29
  go_wp2_with fail
  generalize ((w.alloc (.cells #[.int .i64 0, .int .u8 0, .int .u8 0, .int .u8 0, .int .u8 0, .int .u8 0, .int .u8 0, .int .u8 0, .int .u8 0, .int .u8 0, .int .u8 0, .int .u8 0, .int .u8 0, .int .u8 0, .int .u8 0, .int .u8 0, .int .u8 0] 30)).alloc (.cells #[.int .i64 4, .int .u8 0, .int .u8 0, .int .u8 0, .int .u8 0, .int .u8 0, .int .u8 0, .int .u8 0, .int .u8 0, .int .u8 0, .int .u8 0, .int .u8 0, .int .u8 0, .int .u8 0, .int .u8 0, .int .u8 0, .int .u8 0] 30)) = W at *
  clear e1
  have HR := Lib.hid hR2
  have HP := Lib.hid hP
  clear hR2 hP
  go_loopw [0, 4] (fun t i wr => ∃ (k X : Nat) (l : List Nat), k ≤ 4 ∧ i = .int .i64 ((3 : Int) - (k : Int)) ∧ t = .int .u32 (X : Int) ∧ X ≤ 4294967295 ∧ Hid (X = n / 256 ^ k) ∧ Hid (AddrAt wr w.heap.size 0 (List.replicate 16 0)) ∧ Hid (AddrAt wr (w.heap.size + 1) 4 l) ∧ Hid (l = lo4 n k) ∧ Below w.heap.size w wr) (fun _ i _ => ((intOf i) + 1).toNat)
  case atStart => exact ⟨0, n, _, by decide, rfl, rfl, hn, Lib.hid (by simp), HR, HP, Lib.hid rfl, b2⟩
  case round =>
    obtain ⟨k, X, l, hk, rfl, rfl, hX, HX, HR2, HP2, HL, hbel⟩ := hrel
    by_cases hk4 : k < 4
    · obtain ⟨j, hj, ej⟩ : ∃ j : Nat, 3 - k = j ∧ (3 : Int) - (k : Int) = (j : Int) := ⟨_, rfl, by omega⟩
      have hp0 := HP2.out.cells j (by omega)
      have hl0 := HP2.out.live (1 + j) (by omega)
      obtain ⟨m, hm, em⟩ : ∃ m : Nat, X % 256 = m ∧ (X : Int) % 256 = (m : Int) := ⟨_, rfl, by omega⟩
      have wm : IntKind.u8.wrap (m : Int) = (m : Int) := by rw [IntKind.wrap_u8]; omega
      have hj16 : (j : Int) < 16 := by omega
      have HS := Lib.hid (HP2.out.set (i := j) (by omega) m)
      have HE : Hid (l.set j m = lo4 n (k + 1)) := Lib.hid (by rw [HL.out, lo4, hj, ← hm, HX.out])
      have HX2 : Hid (X / 256 = n / 256 ^ (k + 1)) := Lib.hid (by rw [HX.out, Nat.pow_succ, Nat.div_div_eq_div_mul])
      have hjk : j + k = 3 := by omega
      generalize l.getD j 0 = o0 at hp0
      clear hj hm
      go_wp2_with fail
      go_roundw
      case rel => exact ⟨k + 1, X / 256, l.set j m, by omega, by congr 1; omega, by first | rfl | (congr 1; omega), by omega, HX2, Lib.hid (HR2.out.other (by omega) _), HS, HE, hbel.setCell (p := ⟨w.heap.size + 1, 1 + j, none⟩) (by show w.heap.size ≤ w.heap.size + 1; omega) _⟩
      case measure => simp [intOf]; omega
    · obtain rfl : k = 4 := by omega
      have hll : l = b4 n := HL.out
      subst hll
      have HLN : Hid ((b4 n).length = 16) := Lib.hid HP2.out.len
      go_wp2_with (first | refine load_addr HP2 _ rfl rfl rfl ?_ | (refine store_addr HR2 _ _ HLN rfl rfl rfl rfl (fun W HW HA => ?_)))
      refine bodyPost_ret (v := addrV 4 (b4 n)) (results_addr Try.results29 rfl HA.out) rfl ⟨rfl, by rw [HW.out]; exact below_cells (by omega) _ _ _ hbel⟩

end Go.Proofs.Ytjpjobbmljlacaa
/- Contracts of the reference's Map, Unmap, Good of layer 4. -/
namespace Go.Proofs.Ytjpjobbmljlacaa
open Go.RowKit
set_option linter.unusedVariables false
set_option maxRecDepth 20000

/-- The groups of a mapped one. -/
def map8 (n : Nat) : List Nat := [0, 0, 0, 0, 0, 65535, n / 65536, n % 65536]
theorem map8_lt (n : Nat) (h : n ≤ 4294967295) : ∀ x ∈ map8 n, x < 65536 := by
  intro x hx
  simp [map8] at hx
  omega
def mapF (f : Int) : Int := if f = 4 then 6 else f
def mapB (f : Int) (bs : List Nat) : List Nat := if f = 4 then byL (map8 (fourB bs)) else bs
theorem fourB_le (bs : List Nat) (h : ∀ x ∈ bs, x < 256) : fourB bs ≤ 4294967295 := Nat.le_of_lt_succ (fourTo_lt bs h 4)
end Go.Proofs.Ytjpjobbmljlacaa
