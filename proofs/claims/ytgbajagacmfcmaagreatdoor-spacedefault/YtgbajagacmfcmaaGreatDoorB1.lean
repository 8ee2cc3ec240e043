/- Texts that belong together, one behind the other: OpenArr, OpenAddr, Util, Base, Lists, AddrKit, Numbers, RefNums, Reads, StrRows, Strict, RefSplit, RefStrict, RefSix. -/
import Derived.Test.YtgbajagacmfcmaaGreatDoorRows
import Derived.WalkKit
import Derived.ProofKit
import Derived.OpenShut
import Derived.Laws.IdiomArrays
import Derived.ChangeSame
import Derived.Lib.Strings
import Derived.WalkSpells
import Derived.WalkLawsBesides
import Derived.Deep.QuietTactic
import Derived.BigQuiet
import Derived.Lib.Hide
import Derived.Deep.AppendLies
import Derived.Laws.IdiomStrings
import Derived.Lib.ItoaLen
import Derived.Deep.RegionWith
/- An array of integers that came in, opened: the list of its numbers. -/
namespace Go.Proofs.YtgbajagacmfcmaaGreatDoor
open Go.ChangeShapes Go.WideShapes Go.ChangeAt Go.RowKit
set_option linter.unusedVariables false
set_option maxRecDepth 20000

theorem laidOut : laidOutB Tryz.prog = true := by kernel_rfl
theorem open_int_array {H : Type} {enc : TypeId × Value → H} {W : World} {base : Nat} {spare : Nat → Bool} {t e : TypeId} {n : Nat} {k : IntKind} {v : Value} {d : DataW H} {ps : List MemPlace}
    (ht : Tryz.prog.underlying t = some (.array n e)) (he : Tryz.prog.underlying e = some (.int k)) (hce : Tryz.prog.cellsOf e = 1) (hct : Tryz.prog.cellsOf t = n)
    (hok : Value.okWide Tryz.prog W .any base t v) (h : DataW.Trod enc Tryz.prog W 0 spare true t v d ps) :
    ∃ zs : List Int, v = .agg (zs.map (Value.int k)).toArray ∧ zs.length = n ∧ ∀ z ∈ zs, (Lit.int k z).wf = true := by
  obtain ⟨cs, rfl, hsz, _⟩ : ∃ cs, v = .agg cs ∧ cs.size = Tryz.prog.cellsOf t ∧ Row.okWide Tryz.prog W .any base t cs := by
    simpa [Value.okWide, ht] using hok
  rw [hct] at hsz
  obtain ⟨fuel, hf⟩ := h
  obtain ⟨xs, m, _, _, _, hl, hx⟩ := DataW.trod_array ht hf
  rw [hce] at hx
  have key : ∀ i (hi : i < cs.toList.length), ∃ z, cs.toList[i] = .int k z ∧ (Lit.int k z).wf = true := by
    intro i hi
    have hin : i < n := by simpa [hsz] using hi
    have h1 := hx i hin
    rw [List.getElem?_eq_getElem (by omega)] at h1
    obtain ⟨z, h2, _, h3⟩ := DataW.trod_int he h1
    refine ⟨z, ?_, h3⟩
    have h4 : (Value.cells (.agg cs)).toList = cs.toList := rfl
    rw [h4, Nat.mul_one] at h2
    have h5 : ((cs.toList.drop i).take 1)[0]? = some (.int k z) := by rw [h2]; rfl
    rw [List.getElem?_take, if_pos (by decide), List.getElem?_drop, Nat.add_zero, List.getElem?_eq_getElem hi] at h5
    exact Option.some.inj h5
  refine ⟨cs.toList.map intOf, ?_, by simpa using hsz, ?_⟩
  · congr 1
    apply Array.ext'
    simp only [List.map_map]
    apply List.ext_getElem
    · simp
    · intro i h1 h2
      obtain ⟨z, hz, _⟩ := key i h1
      rw [List.getElem_map, hz]
      rfl
  · intro z hz
    obtain ⟨u, hu, rfl⟩ := List.mem_map.1 hz
    obtain ⟨i, hi, rfl⟩ := List.getElem_of_mem hu
    obtain ⟨z, h1, h2⟩ := key i hi
    rw [h1]
    exact h2
theorem list4 {α : Type} (l : List α) (h : l.length = 4) : ∃ a b c d, l = [a, b, c, d] := by
  match l, h with
  | [a, b, c, d], _ => exact ⟨a, b, c, d, rfl⟩
end Go.Proofs.YtgbajagacmfcmaaGreatDoor
/- An address (api.Addr) that came in, opened: its family, and the list of its bytes. -/
namespace Go.Proofs.YtgbajagacmfcmaaGreatDoor
open Go.ChangeShapes Go.WideShapes Go.ChangeAt Go.RowKit
set_option linter.unusedVariables false
set_option maxRecDepth 20000

/-- An address, as a value. -/
def addrV (f : Int) (bs : List Nat) : Value := .agg (Value.int .i64 f :: bs.map fun n => Value.int .u8 ((n : Nat) : Int)).toArray
theorem ints_of_trod {H : Type} {enc : TypeId × Value → H} {W : World} {spare : Nat → Bool} {t e : TypeId} {n fuel : Nat} {k : IntKind} {l : List Value} {x : DataW H × List MemPlace}
    (ht : Tryz.prog.underlying t = some (.array n e)) (he : Tryz.prog.underlying e = some (.int k)) (hce : Tryz.prog.cellsOf e = 1) (hct : Tryz.prog.cellsOf t = n)
    (h : DataW.trod enc Tryz.prog W 0 spare true fuel t l = some x) : ∃ zs : List Int, l = zs.map (Value.int k) ∧ zs.length = n ∧ ∀ z ∈ zs, (Lit.int k z).wf = true := by
  obtain ⟨xs, m, _, _, hl0, hl, hx⟩ := DataW.trod_array ht h
  rw [hce] at hx
  rw [hct] at hl0
  have key : ∀ i (hi : i < l.length), ∃ z, l[i] = .int k z ∧ (Lit.int k z).wf = true := by
    intro i hi
    have h1 := hx i (by omega)
    rw [List.getElem?_eq_getElem (by omega)] at h1
    obtain ⟨z, h2, _, h3⟩ := DataW.trod_int he h1
    refine ⟨z, ?_, h3⟩
    rw [Nat.mul_one] at h2
    have h5 : ((l.drop i).take 1)[0]? = some (.int k z) := by rw [h2]; rfl
    rw [List.getElem?_take, if_pos (by decide), List.getElem?_drop, Nat.add_zero, List.getElem?_eq_getElem hi] at h5
    exact Option.some.inj h5
  refine ⟨l.map intOf, ?_, by simpa using hl0, ?_⟩
  · rw [List.map_map]
    apply List.ext_getElem
    · simp
    · intro i h1 h2
      obtain ⟨z, hz, _⟩ := key i h1
      rw [List.getElem_map, hz]
      rfl
  · intro z hz
    obtain ⟨u, hu, rfl⟩ := List.mem_map.1 hz
    obtain ⟨i, hi, rfl⟩ := List.getElem_of_mem hu
    obtain ⟨z, h1, h2⟩ := key i hi
    rw [h1]
    exact h2
theorem open_addr {H : Type} {enc : TypeId × Value → H} {W : World} {base : Nat} {spare : Nat → Bool} {v : Value} {d : DataW H} {ps : List MemPlace}
    (hok : Value.okWide Tryz.prog W .any base 24 v) (h : DataW.Trod enc Tryz.prog W 0 spare true 24 v d ps) :
    ∃ (f : Int) (bs : List Nat), v = addrV f bs ∧ (Lit.int .i64 f).wf = true ∧ bs.length = 16 ∧ ∀ x ∈ bs, x < 256 := by
  have hs := Tryz.underlying24
  obtain ⟨cs, rfl, hsz, _⟩ : ∃ cs, v = .agg cs ∧ cs.size = Tryz.prog.cellsOf 24 ∧ Row.okWide Tryz.prog W .any base 24 cs := by
    simpa [Value.okWide, hs] using hok
  rw [show Tryz.prog.cellsOf 24 = 17 by kernel_rfl] at hsz
  obtain ⟨fuel, hf⟩ := h
  obtain ⟨y0, y1, n, _, _, h0, h1⟩ := trod_struct2 hs hf
  have e0 : (Value.cells (.agg cs)).toList = cs.toList := rfl
  rw [e0] at h0 h1
  obtain ⟨f, h2, _, h3⟩ := DataW.trod_int Tryz.underlying3 h0
  obtain ⟨zs, h4, h5, h6⟩ := ints_of_trod Tryz.underlying22 Tryz.underlying5 (by kernel_rfl) (by kernel_rfl) h1
  have hc1 : Tryz.prog.cellsOf 3 = 1 := by kernel_rfl
  have hc16 : Tryz.prog.cellsOf 22 = 16 := by kernel_rfl
  refine ⟨f, zs.map Int.toNat, ?_, h3, by simpa using h5, ?_⟩
  · unfold addrV
    congr 1
    apply Array.ext'
    have e1 : cs.toList = (cs.toList.drop 0).take 1 ++ (cs.toList.drop 1).take 16 := by
      have : (cs.toList.drop 1).take 16 = cs.toList.drop 1 := List.take_of_length_le (by simp; omega)
      rw [this, List.drop_zero, List.take_append_drop]
    rw [e1]
    have e2 : (cs.toList.drop 0).take 1 = [Value.int .i64 f] := by rw [← h2, hc1]
    have e3 : (cs.toList.drop 1).take 16 = zs.map (Value.int .u8) := by rw [← h4, hc16]
    rw [e2, e3, List.map_map]
    show Value.int .i64 f :: zs.map (Value.int .u8) = Value.int .i64 f :: _
    congr 1
    apply List.map_congr_left
    intro z hz
    have := bounds_u8 (h6 z hz)
    show Value.int .u8 z = Value.int .u8 ((z.toNat : Nat) : Int)
    congr 1
    omega
  · intro x hx
    obtain ⟨z, hz, rfl⟩ := List.mem_map.1 hx
    have := bounds_u8 (h6 z hz)
    omega
end Go.Proofs.YtgbajagacmfcmaaGreatDoor
/- Plain facts on texts as rows of bytes; nothing here speaks of the program. -/
namespace Go.Proofs.YtgbajagacmfcmaaGreatDoor
open Go.RowKit
set_option linter.unusedVariables false
set_option maxRecDepth 20000

theorem bytes_ext {a b : ByteArray} (h : a.data.toList = b.data.toList) : a = b := by
  cases a; cases b
  simp only at h
  congr
  exact Array.ext' h
theorem isEmpty_true (s : ByteArray) (h : s.size = 0) : s.toList.isEmpty = true := by
  rw [ByteArray.toList_eq]
  have h2 : s.data.toList.length = s.size := by simp
  rw [List.eq_nil_of_length_eq_zero (h2.trans h)]
  rfl
theorem isEmpty_false (s : ByteArray) (h : 0 < s.size) : s.toList.isEmpty = false := by
  rw [ByteArray.toList_eq]
  have h2 : s.data.toList.length = s.size := by simp
  cases h3 : s.data.toList with
  | nil => rw [h3] at h2; simp at h2; omega
  | cons x l => rfl
theorem get!_eq (s : ByteArray) (j : Nat) (h : j < s.size) : s.get! j = s[j] := by
  cases s with | mk d => exact getElem!_pos d j h
theorem getElem_data (s : ByteArray) (j : Nat) (h : j < s.size) : s[j] = s.data.toList[j]'(by simpa using h) := rfl
theorem data_append (a b : ByteArray) : (a ++ b).data.toList = a.data.toList ++ b.data.toList := by simp
theorem data_extract (s : ByteArray) (i j : Nat) : (s.extract i j).data.toList = (s.data.toList.drop i).take (j - i) := Lib.toList_data (s.extract i j) ▸ Lib.extract_toList s i j
theorem append_left (a b : ByteArray) (j : Nat) (h : j < a.size) : ((a ++ b).get! j) = a[j] := by
  have h2 : j < (a ++ b).size := by simp; omega
  rw [get!_eq _ _ h2, getElem_data, getElem_data]
  have e := data_append a b
  have : ((a ++ b).data.toList)[j]? = (a.data.toList ++ b.data.toList)[j]? := by rw [e]
  rw [List.getElem?_eq_getElem (by simpa using h2), List.getElem?_append_left (by simpa using h), List.getElem?_eq_getElem (by simpa using h)] at this
  exact Option.some.inj this
theorem extract_right (a b : ByteArray) : (a ++ b).extract a.size (a ++ b).size = b := by
  apply bytes_ext
  rw [data_extract, data_append, List.drop_append_of_le_length (by simp)]
  have : a.data.toList.drop a.size = [] := List.drop_eq_nil_of_le (by simp)
  rw [this, List.nil_append]
  apply List.take_of_length_le
  simp
end Go.Proofs.YtgbajagacmfcmaaGreatDoor
/- Contracts of the small functions of text and of its reference that every statement of the layer runs: Few, Split, Same, lives. -/
namespace Go.Proofs.YtgbajagacmfcmaaGreatDoor
open Go.RowKit
set_option linter.unusedVariables false
set_option maxRecDepth 20000

theorem bool_ret {a b : Bool} (h : a = b) : Ending.returned (.bool a) = .returned (.bool b) := by rw [h]
theorem chain {a b c : World} (h : Below a.heap.size a b) (k : Below b.heap.size b c) : Below a.heap.size a c := h.trans (k.mono h.size)

theorem quiet_left {P : Program} {f : FuncId} {args : Array Value} {w : World} {n : Nat} {v : Value}
    (h : Calls P f args (w.drewN n) fun e w' => e = .returned v ∧ w.drewN n = w') : Calls P f args (w.drewN n) fun e w'' => e = .returned v ∧ ∃ m, w'' = w.drewN m :=
  h.mono fun _ _ ⟨he, hm⟩ => ⟨he, n, hm.symm⟩
theorem quiet_add_left {P : Program} {f : FuncId} {args : Array Value} {w : World} {a n : Nat} {v : Value}
    (h : Calls P f args (w.drewN (a + n)) fun e w' => e = .returned v ∧ w.drewN (a + n) = w') :
    Calls P f args (w.drewN (a + n)) fun e w'' => e = .returned v ∧ ∃ m, w'' = w.drewN (a + m) :=
  h.mono fun _ _ ⟨he, hm⟩ => ⟨he, n, hm.symm⟩

theorem add_none (b j : Nat) : (⟨b, 0, none⟩ : Addr).add j = ⟨b, j, none⟩ := by
  unfold Addr.add
  split <;> simp_all

/-- Bytes, as cells. -/
def bys (l : List UInt8) : List Value := l.map fun c => Value.int .u8 ((c.toNat : Nat) : Int)
theorem bys_length (l : List UInt8) : (bys l).length = l.length := by simp [bys]
theorem bys_snoc (l : List UInt8) (c : UInt8) : bys (l ++ [c]) = bys l ++ [.int .u8 ((c.toNat : Nat) : Int)] := by simp [bys]
theorem Tryz.infoByte : (Tryz.prog.info? 5).map (fun i => (i.zero, i.size, i.bytes)) = some (some (.int .u8 0), 1, 1) := by kernel_rfl
/-- 'string(b)' of a row of bytes of one's own. -/
theorem own_bytes_back {w : World} {B : Nat} {v : Value} {l : List UInt8} (h : w.ownsRow B 5 1 v l.length (bys l)) :
    (convert 125 9 v).run Tryz.prog w = .ok (.string ⟨l.toArray⟩) w := by
  by_cases h0 : 0 < l.length
  · obtain ⟨g, c, rfl, _, _⟩ := h.form h0
    refine run_convert_bytes_back (P := Tryz.prog) w 125 9 5 ⟨g, 0, none⟩ c l Tryz.underlying125 Tryz.underlying5 Tryz.underlying9 (fun j hj => ?_)
    rw [add_none, h.cellAt j (by omega)]
    simp [bys, hj]
  · have hl : l = [] := List.eq_nil_of_length_eq_zero (by omega)
    subst hl
    rcases h.2 with ⟨rfl, _⟩ | ⟨g, cap, cur, rfl, _⟩
    · rw [run_convert_bytes_string w 125 9 5 none 0 0 Tryz.underlying125 Tryz.underlying5 Tryz.underlying9]
      simp [Conv.bytesToString]
      rfl
    · exact run_convert_bytes_back (P := Tryz.prog) w 125 9 5 ⟨g, 0, none⟩ cap [] Tryz.underlying125 Tryz.underlying5 Tryz.underlying9 (fun j hj => by simp at hj)
/-- One more byte behind a row of bytes of one's own. -/
theorem own_byte {w0 wr w1 : World} {v v' : Value} {l : List UInt8} {x : UInt8} {o : Obj} (hown' : w1.ownsRow w0.heap.size 5 1 v' (l.length + 1) (bys l ++ [.int .u8 ((x.toNat : Nat) : Int)]))
    (hg : (wr.alloc o).grownBy w1 v.ownBlock) (hown : wr.ownsRow w0.heap.size 5 1 v l.length (bys l)) (hb : Below w0.heap.size w0 wr) :
    w1.ownsRow w0.heap.size 5 1 v' (l ++ [x]).length (bys (l ++ [x])) ∧ Below w0.heap.size w0 w1 := by
  refine ⟨by rw [bys_snoc]; simpa using hown', ?_⟩
  refine (hb.alloc hb.size o).grown hg (by have := hb.size; simp; omega) ?_
  intro k hk
  exact (hown.lt k hk).1

/-- 'string([]byte{c})'. -/
theorem one_byte (c : Nat) (hc : c < 256) (W : World) :
    (convert 125 9 (.slice (some ⟨W.heap.size, 0, none⟩) 1 1)).run Tryz.prog (W.alloc (.cells #[.int .u8 (c : Int)] 5)) = .ok (.string { data := #[UInt8.ofNat c] }) (W.alloc (.cells #[.int .u8 (c : Int)] 5)) := by
  have hb := run_convert_bytes_back (P := Tryz.prog) (W.alloc (.cells #[.int .u8 (c : Int)] 5)) 125 9 5 ⟨W.heap.size, 0, none⟩ 1 [UInt8.ofNat c] Tryz.underlying125 Tryz.underlying5 Tryz.underlying9 (by
    intro j hj
    obtain rfl : j = 0 := by simpa using hj
    rw [add_none]
    simp [World.cell?_alloc_new]
    omega)
  exact hb

/-- The first so many bytes. -/
def few (s : ByteArray) (n : Nat) : ByteArray := if n < s.size then s.extract 0 n else s
theorem few_size (s : ByteArray) (n : Nat) : (few s n).size ≤ n := by
  unfold few
  split
  · simp; omega
  · omega

/-- What a splitting reader holds behind the first k bytes: the pieces so far, and where the next one begins. -/
def sp (s : ByteArray) (sep : Nat) : Nat → List ByteArray × Nat
  | 0 => ([], 0)
  | k + 1 => if (s.data.toList.getD k 0).toNat = sep then ((sp s sep k).1 ++ [s.extract (sp s sep k).2 k], k + 1) else sp s sep k
def pieces (s : ByteArray) (sep : Nat) : List ByteArray := (sp s sep s.size).1 ++ [s.extract (sp s sep s.size).2 s.size]
theorem sp_le (s : ByteArray) (sep : Nat) : ∀ k, (sp s sep k).2 ≤ k ∧ (sp s sep k).1.length ≤ k
  | 0 => by simp [sp]
  | k + 1 => by
    have := sp_le s sep k
    unfold sp
    split
    · simp; omega
    · omega
theorem sp_hit (s : ByteArray) (sep k : Nat) (hk : k < s.size) (h : (s[k]).toNat = sep) : sp s sep (k + 1) = ((sp s sep k).1 ++ [s.extract (sp s sep k).2 k], k + 1) := by
  have e : s.data.toList.getD k 0 = s[k] := by
    rw [List.getD_eq_getElem?_getD, List.getElem?_eq_getElem (by simpa using hk)]; rfl
  rw [sp, e, if_pos h]
theorem sp_miss (s : ByteArray) (sep k : Nat) (hk : k < s.size) (h : ¬ (s[k]).toNat = sep) : sp s sep (k + 1) = sp s sep k := by
  have e : s.data.toList.getD k 0 = s[k] := by
    rw [List.getD_eq_getElem?_getD, List.getElem?_eq_getElem (by simpa using hk)]; rfl
  rw [sp, e, if_neg h]

/-- It returns a slice of its own that holds just these texts, and nothing that was there has turned. -/
def RetStrs (w : World) (l : List ByteArray) (e : Ending) (w' : World) : Prop :=
  ∃ v, e = .returned v ∧ w'.ownsRow w.heap.size 9 1 v l.length (l.map Value.string) ∧ Below w.heap.size w w'

theorem Tryz.infoString : (Tryz.prog.info? 9).map (fun i => (i.zero, i.size, i.bytes)) = some (some (.string ByteArray.empty), 1, 16) := by kernel_rfl

/-- One more text behind a row of texts of one's own. -/
theorem own_snoc {w0 wr w1 : World} {v v' : Value} {l : List ByteArray} {x : ByteArray} {o : Obj} (hown' : w1.ownsRow w0.heap.size 9 1 v' (l.length + 1) (l.map Value.string ++ [.string x]))
    (hg : (wr.alloc o).grownBy w1 v.ownBlock) (hown : wr.ownsRow w0.heap.size 9 1 v l.length (l.map Value.string)) (hb : Below w0.heap.size w0 wr) :
    w1.ownsRow w0.heap.size 9 1 v' (l ++ [x]).length ((l ++ [x]).map Value.string) ∧ Below w0.heap.size w0 w1 := by
  refine ⟨by simpa using hown', ?_⟩
  refine (hb.alloc hb.size o).grown hg (by have := hb.size; simp; omega) ?_
  intro k hk
  exact (hown.lt k hk).1

set_option maxHeartbeats 400000 in
theorem split_any (s : ByteArray) (sep : Nat) (w : World) (hs : s.size ≤ 1000000) :
    Calls Tryz.prog 71 #[.string s, .int .u8 sep] w (RetStrs w (pieces s sep)) := by
  obtain ⟨i0, hi0, hz0, hz1, hz2⟩ := info_parts Tryz.infoString
  go_enter Tryz.func71, Tryz.ntmps71
  go_wp2
  go_loopw [5, 6, 10] (fun v f i wr => ∃ k : Nat, k ≤ s.size ∧ i = .int .i64 k ∧ f = .int .i64 (sp s sep k).2 ∧ wr.ownsRow w.heap.size 9 1 v (sp s sep k).1.length ((sp s sep k).1.map Value.string) ∧ Below w.heap.size w wr) (fun _ _ i _ => s.size - (intOf i).toNat)
  case atStart => exact ⟨0, Nat.zero_le _, rfl, rfl, World.ownsRow_nil _ _ _ _, Below.refl _ _⟩
  case round =>
    obtain ⟨k, hk, rfl, rfl, hown, hbel⟩ := hrel
    have hle := sp_le s sep k
    have hsz := hbel.size
    by_cases hlt : k < s.size
    · by_cases hit : (s[k]).toNat = sep
      · have HS := Lib.hid (sp_hit s sep k hlt hit)
        go_wp2_with (at_builtin; refine wpList_append_own _ rfl (.tmp 18) (.tmp 23) 49 rfl w.heap.size 9 i0 _ 1 16 Tryz.underlying49 hi0 hz0 hz1 hz2 rfl (by decide) _ _ _ rfl (hown.alloc _) ⟨wr.heap.size, 0, none⟩ 1 1 [.string (s.extract (sp s sep k).2 k)] rfl rfl ?c1 ?c2 ?c3 ?c4 ?c5 ?_)
        case c1 => exact cell_one_new _ _ _
        case c2 => intro u hu; simp at hu; subst hu; rfl
        case c3 => unfold maxLen; omega
        case c4 => omega
        case c5 => simp; omega
        intro v' w1 hown' hgrow _
        have R := own_snoc hown' hgrow hown hbel
        clear hown' hgrow hown hbel
        go_wp2
        go_roundw
        case rel => exact ⟨k + 1, by omega, by go_num, by rw [HS.out]; go_num, by rw [HS.out]; exact R.1, R.2⟩
        case measure => simp [intOf]; omega
      · have HS := Lib.hid (sp_miss s sep k hlt hit)
        go_wp2
        go_roundw
        case rel => exact ⟨k + 1, by omega, by go_num, by rw [HS.out], by rw [HS.out]; exact hown, hbel⟩
        case measure => simp [intOf]; omega
    · have hks : k = s.size := by omega
      subst hks
      go_wp2_with (at_builtin; refine wpList_append_own _ rfl (.tmp 28) (.tmp 32) 49 rfl w.heap.size 9 i0 _ 1 16 Tryz.underlying49 hi0 hz0 hz1 hz2 rfl (by decide) _ _ _ rfl (hown.alloc _) ⟨wr.heap.size, 0, none⟩ 1 1 [.string (s.extract (sp s sep s.size).2 s.size)] rfl rfl ?c1 ?c2 ?c3 ?c4 ?c5 ?_)
      case c1 => exact cell_one_new _ _ _
      case c2 => intro u hu; simp at hu; subst hu; rfl
      case c3 => unfold maxLen; omega
      case c4 => omega
      case c5 => simp; omega
      intro v' w1 hown' hgrow _
      have R := own_snoc hown' hgrow hown hbel
      clear hown' hgrow hown hbel
      go_wp2
      go_ret
      exact ⟨_, rfl, R.1, R.2⟩

theorem pieces_example : pieces { data := #[97, 46, 46, 98] } 46 = [{ data := #[97] }, { data := #[] }, { data := #[98] }] := by kernel_rfl

/-- The cells of a row of texts. -/
theorem own_cells {w : World} {B g n c : Nat} {l : List ByteArray} (h : w.ownsRow B 9 1 (.slice (some ⟨g, 0, none⟩) n c) n (l.map Value.string)) :
    ∀ i (hi : i < l.length), w.cell? ⟨g, i, none⟩ = some (.string l[i]) := by
  intro i hi
  have hl : l.length = n := by simpa using h.1
  rw [h.cellAt i (by omega)]
  simp [hi]

theorem bcell {W w1 : World} (hb : Below W.heap.size W w1) : (∀ b o, b < W.heap.size → w1.cell? ⟨b, o, none⟩ = W.cell? ⟨b, o, none⟩) ∧ (∀ b o, b < W.heap.size → w1.frozen? ⟨b, o, none⟩ = W.frozen? ⟨b, o, none⟩) :=
  ⟨fun b o h => hb.cell (p := ⟨b, o, none⟩) h, fun b o h => hb.frozen (p := ⟨b, o, none⟩) h⟩
theorem belowN {B : Nat} {a w : World} (h : Below B a w) (n : Nat) : Below B a (w.drewN n) := ⟨h.os, h.tape, h.output, h.size, h.block⟩

end Go.Proofs.YtgbajagacmfcmaaGreatDoor
/- A list of sixteen, written out. -/
namespace Go.Proofs.YtgbajagacmfcmaaGreatDoor
theorem list16 {α : Type} (l : List α) (h : l.length = 16) : ∃ y0 y1 y2 y3 y4 y5 y6 y7 y8 y9 y10 y11 y12 y13 y14 y15, l = [y0, y1, y2, y3, y4, y5, y6, y7, y8, y9, y10, y11, y12, y13, y14, y15] := by
  match l, h with
  | [y0, y1, y2, y3, y4, y5, y6, y7, y8, y9, y10, y11, y12, y13, y14, y15], _ => exact ⟨y0, y1, y2, y3, y4, y5, y6, y7, y8, y9, y10, y11, y12, y13, y14, y15, rfl⟩
theorem list8 {α : Type} (l : List α) (h : l.length = 8) : ∃ a b c d e f g i, l = [a, b, c, d, e, f, g, i] := by
  match l, h with
  | [a, b, c, d, e, f, g, i], _ => exact ⟨a, b, c, d, e, f, g, i, rfl⟩
end Go.Proofs.YtgbajagacmfcmaaGreatDoor
/- An address (api.Addr: 17 cells) in memory: its facts, stores of its bytes, a store of all of it. Written by mkaddr.py. -/
namespace Go.Proofs.YtgbajagacmfcmaaGreatDoor
open Go.RowKit
set_option linter.unusedVariables false
set_option maxRecDepth 20000

theorem addrV_eq (f : Int) (y0 y1 y2 y3 y4 y5 y6 y7 y8 y9 y10 y11 y12 y13 y14 y15 : Nat) : addrV f [y0, y1, y2, y3, y4, y5, y6, y7, y8, y9, y10, y11, y12, y13, y14, y15] = .agg #[.int .i64 f, .int .u8 (y0 : Int), .int .u8 (y1 : Int), .int .u8 (y2 : Int), .int .u8 (y3 : Int), .int .u8 (y4 : Int), .int .u8 (y5 : Int), .int .u8 (y6 : Int), .int .u8 (y7 : Int), .int .u8 (y8 : Int), .int .u8 (y9 : Int), .int .u8 (y10 : Int), .int .u8 (y11 : Int), .int .u8 (y12 : Int), .int .u8 (y13 : Int), .int .u8 (y14 : Int), .int .u8 (y15 : Int)] := rfl
/-- An address lies at G. -/
structure AddrAt (w : World) (G : Nat) (f : Int) (bs : List Nat) : Prop where
  len : bs.length = 16
  lt : G < w.heap.size
  fam : w.cell? ⟨G, 0, none⟩ = some (.int .i64 f)
  cells : ∀ j, j < 16 → w.cell? ⟨G, 1 + j, none⟩ = some (.int .u8 ((bs.getD j 0 : Nat) : Int))
  live : ∀ j, j < 17 → w.frozen? ⟨G, j, none⟩ = false
theorem AddrAt.below {w w' : World} {G : Nat} {f : Int} {bs : List Nat} (h : AddrAt w G f bs) (hb : Below w.heap.size w w') : AddrAt w' G f bs :=
  ⟨h.len, Nat.lt_of_lt_of_le h.lt hb.size, by rw [hb.cell (p := ⟨G, 0, none⟩) h.lt]; exact h.fam, fun j hj => by rw [hb.cell (p := ⟨G, 1 + j, none⟩) h.lt]; exact h.cells j hj, fun j hj => by rw [hb.frozen (p := ⟨G, j, none⟩) h.lt]; exact h.live j hj⟩
theorem AddrAt.set {w : World} {G i : Nat} {f : Int} {bs : List Nat} (h : AddrAt w G f bs) (hi : i < 16) (v : Nat) : AddrAt (w.setCell ⟨G, 1 + i, none⟩ (.int .u8 ((v : Nat) : Int))) G f (bs.set i v) := by
  refine ⟨by simp [h.len], by simpa using h.lt, ?_, ?_, ?_⟩
  · rw [World.cell?_setCell_other _ _ _ _ (by intro h2; injection h2 with _ h3 _; omega)]
    exact h.fam
  · intro j hj
    by_cases e : j = i
    · subst e
      rw [World.cell?_setCell_same _ _ _ (h.cells j hj), List.getD_eq_getElem?_getD, List.getElem?_set_self (by rw [h.len]; exact hj)]
      rfl
    · rw [World.cell?_setCell_other _ _ _ _ (by intro h2; injection h2 with _ h3 _; omega), h.cells j hj, List.getD_eq_getElem?_getD, List.getD_eq_getElem?_getD, List.getElem?_set_ne (by omega)]
  · intro j hj
    rw [World.frozen?_setCell]
    exact h.live j hj
theorem AddrAt.setFam {w : World} {G : Nat} {f : Int} {bs : List Nat} (h : AddrAt w G f bs) (g : Int) : AddrAt (w.setCell ⟨G, 0, none⟩ (.int .i64 g)) G g bs := by
  refine ⟨h.len, by simpa using h.lt, World.cell?_setCell_same _ _ _ h.fam, ?_, ?_⟩
  · intro j hj
    rw [World.cell?_setCell_other _ _ _ _ (by intro h2; injection h2 with _ h3 _; omega)]
    exact h.cells j hj
  · intro j hj
    rw [World.frozen?_setCell]
    exact h.live j hj
theorem AddrAt.other {w : World} {G G' i : Nat} {f : Int} {bs : List Nat} (h : AddrAt w G f bs) (hG : G' ≠ G) (u : Value) : AddrAt (w.setCell ⟨G', i, none⟩ u) G f bs := by
  have hn : ∀ j, (⟨G', i, none⟩ : Addr) ≠ ⟨G, j, none⟩ := fun j h2 => by injection h2 with h3 _ _; exact hG h3
  refine ⟨h.len, by simpa using h.lt, by rw [World.cell?_setCell_other _ _ _ _ (hn _)]; exact h.fam, fun j hj => by rw [World.cell?_setCell_other _ _ _ _ (hn _)]; exact h.cells j hj, fun j hj => by rw [World.frozen?_setCell]; exact h.live j hj⟩
theorem AddrAt.of (w : World) (t : TypeId) (cs : Array Value) (f : Int) (bs : List Nat) (h16 : bs.length = 16) (h : cs.toList = Value.int .i64 f :: bs.map fun n => Value.int .u8 ((n : Nat) : Int)) : AddrAt (w.alloc (.cells cs t)) w.heap.size f bs := by
  have e : ∀ j, cs[j]? = (Value.int .i64 f :: bs.map fun n => Value.int .u8 ((n : Nat) : Int))[j]? := fun j => by rw [← h, Array.getElem?_toList]
  refine ⟨h16, by simp, ?_, ?_, fun j _ => World.frozen?_alloc_new _ _ _ _⟩
  · rw [World.cell?_alloc_new, e]; rfl
  · intro j hj
    rw [World.cell?_alloc_new, Nat.add_comm 1 j, e, List.getElem?_cons_succ, List.getElem?_map, List.getD_eq_getElem?_getD, List.getElem?_eq_getElem (by omega)]
    rfl
theorem AddrAt.new (w : World) (t : TypeId) (f : Int) (y0 y1 y2 y3 y4 y5 y6 y7 y8 y9 y10 y11 y12 y13 y14 y15 : Nat) : AddrAt (w.alloc (.cells #[.int .i64 f, .int .u8 (y0 : Int), .int .u8 (y1 : Int), .int .u8 (y2 : Int), .int .u8 (y3 : Int), .int .u8 (y4 : Int), .int .u8 (y5 : Int), .int .u8 (y6 : Int), .int .u8 (y7 : Int), .int .u8 (y8 : Int), .int .u8 (y9 : Int), .int .u8 (y10 : Int), .int .u8 (y11 : Int), .int .u8 (y12 : Int), .int .u8 (y13 : Int), .int .u8 (y14 : Int), .int .u8 (y15 : Int)] t)) w.heap.size f [y0, y1, y2, y3, y4, y5, y6, y7, y8, y9, y10, y11, y12, y13, y14, y15] := AddrAt.of w t _ f _ rfl rfl
theorem AddrAt.all {w : World} {G : Nat} {f : Int} {y0 y1 y2 y3 y4 y5 y6 y7 y8 y9 y10 y11 y12 y13 y14 y15 : Nat} (h : AddrAt w G f [y0, y1, y2, y3, y4, y5, y6, y7, y8, y9, y10, y11, y12, y13, y14, y15]) :
    w.cell? ⟨G, 0, none⟩ = some (.int .i64 f) ∧ w.cell? ⟨G, 1, none⟩ = some (.int .u8 (y0 : Int)) ∧ w.cell? ⟨G, 2, none⟩ = some (.int .u8 (y1 : Int)) ∧ w.cell? ⟨G, 3, none⟩ = some (.int .u8 (y2 : Int)) ∧ w.cell? ⟨G, 4, none⟩ = some (.int .u8 (y3 : Int)) ∧ w.cell? ⟨G, 5, none⟩ = some (.int .u8 (y4 : Int)) ∧ w.cell? ⟨G, 6, none⟩ = some (.int .u8 (y5 : Int)) ∧ w.cell? ⟨G, 7, none⟩ = some (.int .u8 (y6 : Int)) ∧ w.cell? ⟨G, 8, none⟩ = some (.int .u8 (y7 : Int)) ∧ w.cell? ⟨G, 9, none⟩ = some (.int .u8 (y8 : Int)) ∧ w.cell? ⟨G, 10, none⟩ = some (.int .u8 (y9 : Int)) ∧ w.cell? ⟨G, 11, none⟩ = some (.int .u8 (y10 : Int)) ∧ w.cell? ⟨G, 12, none⟩ = some (.int .u8 (y11 : Int)) ∧ w.cell? ⟨G, 13, none⟩ = some (.int .u8 (y12 : Int)) ∧ w.cell? ⟨G, 14, none⟩ = some (.int .u8 (y13 : Int)) ∧ w.cell? ⟨G, 15, none⟩ = some (.int .u8 (y14 : Int)) ∧ w.cell? ⟨G, 16, none⟩ = some (.int .u8 (y15 : Int)) :=
  ⟨h.fam, h.cells 0 (by decide), h.cells 1 (by decide), h.cells 2 (by decide), h.cells 3 (by decide), h.cells 4 (by decide), h.cells 5 (by decide), h.cells 6 (by decide), h.cells 7 (by decide), h.cells 8 (by decide), h.cells 9 (by decide), h.cells 10 (by decide), h.cells 11 (by decide), h.cells 12 (by decide), h.cells 13 (by decide), h.cells 14 (by decide), h.cells 15 (by decide)⟩
theorem AddrAt.lives {w : World} {G : Nat} {f : Int} {bs : List Nat} (h : AddrAt w G f bs) :
    w.frozen? ⟨G, 0, none⟩ = false ∧ w.frozen? ⟨G, 1, none⟩ = false ∧ w.frozen? ⟨G, 2, none⟩ = false ∧ w.frozen? ⟨G, 3, none⟩ = false ∧ w.frozen? ⟨G, 4, none⟩ = false ∧ w.frozen? ⟨G, 5, none⟩ = false ∧ w.frozen? ⟨G, 6, none⟩ = false ∧ w.frozen? ⟨G, 7, none⟩ = false ∧ w.frozen? ⟨G, 8, none⟩ = false ∧ w.frozen? ⟨G, 9, none⟩ = false ∧ w.frozen? ⟨G, 10, none⟩ = false ∧ w.frozen? ⟨G, 11, none⟩ = false ∧ w.frozen? ⟨G, 12, none⟩ = false ∧ w.frozen? ⟨G, 13, none⟩ = false ∧ w.frozen? ⟨G, 14, none⟩ = false ∧ w.frozen? ⟨G, 15, none⟩ = false ∧ w.frozen? ⟨G, 16, none⟩ = false :=
  ⟨h.live 0 (by decide), h.live 1 (by decide), h.live 2 (by decide), h.live 3 (by decide), h.live 4 (by decide), h.live 5 (by decide), h.live 6 (by decide), h.live 7 (by decide), h.live 8 (by decide), h.live 9 (by decide), h.live 10 (by decide), h.live 11 (by decide), h.live 12 (by decide), h.live 13 (by decide), h.live 14 (by decide), h.live 15 (by decide), h.live 16 (by decide)⟩
/-- An address, stored cell by cell. -/
def storeA (W : World) (R : Nat) (f : Int) (y0 y1 y2 y3 y4 y5 y6 y7 y8 y9 y10 y11 y12 y13 y14 y15 : Nat) : World := (((((((((((((((((W.setCell ⟨R, 0, none⟩ (.int .i64 f)).setCell ⟨R, 1, none⟩ (.int .u8 ((y0 : Nat) : Int))).setCell ⟨R, 2, none⟩ (.int .u8 ((y1 : Nat) : Int))).setCell ⟨R, 3, none⟩ (.int .u8 ((y2 : Nat) : Int))).setCell ⟨R, 4, none⟩ (.int .u8 ((y3 : Nat) : Int))).setCell ⟨R, 5, none⟩ (.int .u8 ((y4 : Nat) : Int))).setCell ⟨R, 6, none⟩ (.int .u8 ((y5 : Nat) : Int))).setCell ⟨R, 7, none⟩ (.int .u8 ((y6 : Nat) : Int))).setCell ⟨R, 8, none⟩ (.int .u8 ((y7 : Nat) : Int))).setCell ⟨R, 9, none⟩ (.int .u8 ((y8 : Nat) : Int))).setCell ⟨R, 10, none⟩ (.int .u8 ((y9 : Nat) : Int))).setCell ⟨R, 11, none⟩ (.int .u8 ((y10 : Nat) : Int))).setCell ⟨R, 12, none⟩ (.int .u8 ((y11 : Nat) : Int))).setCell ⟨R, 13, none⟩ (.int .u8 ((y12 : Nat) : Int))).setCell ⟨R, 14, none⟩ (.int .u8 ((y13 : Nat) : Int))).setCell ⟨R, 15, none⟩ (.int .u8 ((y14 : Nat) : Int))).setCell ⟨R, 16, none⟩ (.int .u8 ((y15 : Nat) : Int)))
theorem storeA_at {W : World} {R : Nat} {g : Int} {bs : List Nat} (f : Int) (y0 y1 y2 y3 y4 y5 y6 y7 y8 y9 y10 y11 y12 y13 y14 y15 : Nat) (h : AddrAt W R g bs) : AddrAt (storeA W R f y0 y1 y2 y3 y4 y5 y6 y7 y8 y9 y10 y11 y12 y13 y14 y15) R f [y0, y1, y2, y3, y4, y5, y6, y7, y8, y9, y10, y11, y12, y13, y14, y15] := by
  obtain ⟨z0, z1, z2, z3, z4, z5, z6, z7, z8, z9, z10, z11, z12, z13, z14, z15, rfl⟩ := list16 bs h.len
  exact (((((((((((((((((h.setFam f).set (i := 0) (by decide) y0).set (i := 1) (by decide) y1).set (i := 2) (by decide) y2).set (i := 3) (by decide) y3).set (i := 4) (by decide) y4).set (i := 5) (by decide) y5).set (i := 6) (by decide) y6).set (i := 7) (by decide) y7).set (i := 8) (by decide) y8).set (i := 9) (by decide) y9).set (i := 10) (by decide) y10).set (i := 11) (by decide) y11).set (i := 12) (by decide) y12).set (i := 13) (by decide) y13).set (i := 14) (by decide) y14).set (i := 15) (by decide) y15)
theorem storeA_below {w W : World} {R : Nat} (f : Int) (y0 y1 y2 y3 y4 y5 y6 y7 y8 y9 y10 y11 y12 y13 y14 y15 : Nat) (h : Below w.heap.size w W) (hR : w.heap.size ≤ R) : Below w.heap.size w (storeA W R f y0 y1 y2 y3 y4 y5 y6 y7 y8 y9 y10 y11 y12 y13 y14 y15) :=
  (((((((((((((((((h.setCell (p := ⟨R, 0, none⟩) hR _).setCell (p := ⟨R, 1, none⟩) hR _).setCell (p := ⟨R, 2, none⟩) hR _).setCell (p := ⟨R, 3, none⟩) hR _).setCell (p := ⟨R, 4, none⟩) hR _).setCell (p := ⟨R, 5, none⟩) hR _).setCell (p := ⟨R, 6, none⟩) hR _).setCell (p := ⟨R, 7, none⟩) hR _).setCell (p := ⟨R, 8, none⟩) hR _).setCell (p := ⟨R, 9, none⟩) hR _).setCell (p := ⟨R, 10, none⟩) hR _).setCell (p := ⟨R, 11, none⟩) hR _).setCell (p := ⟨R, 12, none⟩) hR _).setCell (p := ⟨R, 13, none⟩) hR _).setCell (p := ⟨R, 14, none⟩) hR _).setCell (p := ⟨R, 15, none⟩) hR _).setCell (p := ⟨R, 16, none⟩) hR _)
end Go.Proofs.YtgbajagacmfcmaaGreatDoor
/- Contracts of text.digit and text.Number: the number of a text's digits. -/
namespace Go.Proofs.YtgbajagacmfcmaaGreatDoor
open Go.RowKit
set_option linter.unusedVariables false
set_option maxRecDepth 20000

/-- A digit's number; 16: it is none. -/
def digC (c : Nat) : Nat := if 48 ≤ c ∧ c ≤ 57 then c - 48 else if 97 ≤ c ∧ c ≤ 102 then c - 87 else if 65 ≤ c ∧ c ≤ 70 then c - 55 else 16
theorem digC_le (c : Nat) : digC c ≤ 16 := by unfold digC; split; · omega
                                              split; · omega
                                              split <;> omega
/-- The byte at a place, or 0. -/
def byteOf (s : ByteArray) (k : Nat) : Nat := (s.data.toList.getD k 0).toNat
theorem byteOf_eq (s : ByteArray) (k : Nat) (h : k < s.size) : byteOf s k = (s[k]).toNat := by
  unfold byteOf
  rw [List.getD_eq_getElem?_getD, List.getElem?_eq_getElem (by simpa using h)]; rfl
def most : Nat := 1099511627776
/-- The number of the first k digits, if there is one. -/
def numTo (s : ByteArray) (b : Nat) : Nat → Option Nat
  | 0 => some 0
  | k + 1 => match numTo s b k with
    | none => none
    | some n => if b ≤ digC (byteOf s k) then none else if most < n * b + digC (byteOf s k) then none else some (n * b + digC (byteOf s k))
def numB (s : ByteArray) (b : Nat) : Option Nat := if s.size = 0 then none else numTo s b s.size
theorem numTo_none (s : ByteArray) (b k : Nat) (h : numTo s b k = none) : ∀ m, numTo s b (k + m) = none
  | 0 => h
  | m + 1 => by rw [← Nat.add_assoc, numTo, numTo_none s b k h m]
theorem numTo_le (s : ByteArray) (b : Nat) : ∀ k n, numTo s b k = some n → n ≤ most
  | 0, n, h => by simp [numTo] at h; omega
  | k + 1, n, h => by
    rw [numTo] at h
    cases hk : numTo s b k with
    | none => rw [hk] at h; cases h
    | some m =>
      rw [hk] at h
      simp only at h
      split at h
      · cases h
      · split at h
        · cases h
        · have := Option.some.inj h; omega
theorem numTo_step {s : ByteArray} {b k n : Nat} (h : numTo s b k = some n) (hk : k < s.size) :
    numTo s b (k + 1) = if b ≤ digC (s[k]).toNat then none else if most < n * b + digC (s[k]).toNat then none else some (n * b + digC (s[k]).toNat) := by
  rw [numTo, h, byteOf_eq s k hk]
theorem numB_dead {s : ByteArray} {b k : Nat} (hk : k < s.size) (h : numTo s b (k + 1) = none) : numB s b = none := by
  unfold numB
  rw [if_neg (by omega)]
  have := numTo_none s b (k + 1) h (s.size - (k + 1))
  rwa [show k + 1 + (s.size - (k + 1)) = s.size by omega] at this
/-- What Number answers. -/
def numRet (o : Option Nat) : Value := .tuple #[.int .i64 ((o.getD 0 : Nat) : Int), .bool o.isSome]

set_option maxHeartbeats 1000000 in
theorem digit_any (c : Nat) (w : World) (hc : c < 256) :
    Calls Tryz.prog 76 #[.int .u8 (c : Int)] w fun e w' => e = .returned (.int .i64 ((digC c : Nat) : Int)) ∧ w = w' := by
  have hparts : c < 48 ∨ (48 ≤ c ∧ c ≤ 57) ∨ (58 ≤ c ∧ c < 65) ∨ (65 ≤ c ∧ c ≤ 70) ∨ (71 ≤ c ∧ c < 97) ∨ (97 ≤ c ∧ c ≤ 102) ∨ 103 ≤ c := by omega
  rcases hparts with h | h | h | h | h | h | h
  · have e : digC c = 16 := by unfold digC; rw [if_neg (by omega), if_neg (by omega), if_neg (by omega)]
    rw [e]
    go_enter Tryz.func76, Tryz.ntmps76
    go_wp2
    go_ret
    exact ⟨rfl, rfl⟩
  · have e : digC c = c - 48 := by unfold digC; rw [if_pos (by omega)]
    have e1 : IntKind.u8.wrap ((c : Int) - 48) = (c : Int) - 48 := by rw [IntKind.wrap_u8]; omega
    have e2 : (((c - 48 : Nat)) : Int) = (c : Int) - 48 := by omega
    rw [e, e2]
    clear e e2
    go_enter Tryz.func76, Tryz.ntmps76
    go_wp2
    go_ret
    exact ⟨rfl, rfl⟩
  · have e : digC c = 16 := by unfold digC; rw [if_neg (by omega), if_neg (by omega), if_neg (by omega)]
    rw [e]
    go_enter Tryz.func76, Tryz.ntmps76
    go_wp2
    go_ret
    exact ⟨rfl, rfl⟩
  · have e : digC c = c - 55 := by unfold digC; rw [if_neg (by omega), if_neg (by omega), if_pos (by omega)]
    have e1 : IntKind.u8.wrap ((c : Int) - 65) = (c : Int) - 65 := by rw [IntKind.wrap_u8]; omega
    have e2 : (((c - 55 : Nat)) : Int) = (c : Int) - 65 + 10 := by omega
    rw [e, e2]
    clear e e2
    go_enter Tryz.func76, Tryz.ntmps76
    go_wp2
    go_ret
    exact ⟨rfl, rfl⟩
  · have e : digC c = 16 := by unfold digC; rw [if_neg (by omega), if_neg (by omega), if_neg (by omega)]
    rw [e]
    go_enter Tryz.func76, Tryz.ntmps76
    go_wp2
    go_ret
    exact ⟨rfl, rfl⟩
  · have e : digC c = c - 87 := by unfold digC; rw [if_neg (by omega), if_pos (by omega)]
    have e1 : IntKind.u8.wrap ((c : Int) - 97) = (c : Int) - 97 := by rw [IntKind.wrap_u8]; omega
    have e2 : (((c - 87 : Nat)) : Int) = (c : Int) - 97 + 10 := by omega
    rw [e, e2]
    clear e e2
    go_enter Tryz.func76, Tryz.ntmps76
    go_wp2
    go_ret
    exact ⟨rfl, rfl⟩
  · have e : digC c = 16 := by unfold digC; rw [if_neg (by omega), if_neg (by omega), if_neg (by omega)]
    rw [e]
    go_enter Tryz.func76, Tryz.ntmps76
    go_wp2
    go_ret
    exact ⟨rfl, rfl⟩

theorem num_ret {o p : Option Nat} (h : o = p) : Ending.returned (numRet o) = .returned (numRet p) := by rw [h]

set_option maxHeartbeats 2000000 in
theorem number_8 (s : ByteArray) (w : World) (hs : s.size ≤ 1000000) :
    Calls Tryz.prog 62 #[.string s, .int .i64 8] w fun e w' => e = .returned (numRet (numB s 8)) ∧ w = w' := by
  by_cases h0 : s.size = 0
  · have e : numB s 8 = none := by unfold numB; rw [if_pos h0]
    have he := isEmpty_true s h0
    rw [e]
    clear e
    go_enter Tryz.func62, Tryz.ntmps62
    go_wp2
    go_ret2
    exact ⟨rfl, rfl⟩
  · have he := isEmpty_false s (by omega)
    have HN : Hid (numB s 8 = numTo s 8 s.size) := by unfold numB; rw [if_neg h0]; exact Lib.hid rfl
    go_enter Tryz.func62, Tryz.ntmps62
    go_wp2
    go_loop [6, 25] (fun t i => ∃ k n : Nat, k ≤ s.size ∧ i = .int .i64 k ∧ t = .int .i64 (n : Int) ∧ Hid (numTo s 8 k = some n)) (fun _ i => s.size - (intOf i).toNat)
    case atStart => exact ⟨0, 0, Nat.zero_le _, rfl, rfl, Lib.hid rfl⟩
    case round =>
      obtain ⟨k, n, hk, rfl, rfl, HK⟩ := hrel
      have hn : n ≤ 1099511627776 := numTo_le s 8 k n HK.out
      by_cases hlt : k < s.size
      · have u1 : (s[k]).toNat < 256 := (s[k]).toNat_lt
        have HS := Lib.hid (numTo_step HK.out hlt)
        have hd := digC_le (s[k]).toNat
        go_wp2_with fail
        refine (digit_any _ _ u1).mono ?_
        rintro e w' ⟨rfl, rfl⟩
        generalize digC (s[k]).toNat = d at *
        by_cases h1 : 8 ≤ d
        · go_wp2
          go_ret2
          exact ⟨num_ret (numB_dead hlt (by rw [HS.out, if_pos h1])).symm, rfl⟩
        · by_cases h2 : 1099511627776 < n * 8 + d
          · go_wp2
            go_ret2
            exact ⟨num_ret (numB_dead hlt (by rw [HS.out, if_neg h1, if_pos (by exact h2)])).symm, rfl⟩
          · go_wp2
            go_round
            case rel => exact ⟨k + 1, n * 8 + d, by omega, by go_num, by go_num, Lib.hid (by rw [HS.out, if_neg h1, if_neg (by exact h2)])⟩
            case measure => simp [intOf]; omega
      · obtain rfl : k = s.size := by omega
        go_wp2
        go_ret2
        exact ⟨num_ret (o := some n) (by rw [HN.out, HK.out]), rfl⟩

set_option maxHeartbeats 2000000 in
theorem number_10 (s : ByteArray) (w : World) (hs : s.size ≤ 1000000) :
    Calls Tryz.prog 62 #[.string s, .int .i64 10] w fun e w' => e = .returned (numRet (numB s 10)) ∧ w = w' := by
  by_cases h0 : s.size = 0
  · have e : numB s 10 = none := by unfold numB; rw [if_pos h0]
    have he := isEmpty_true s h0
    rw [e]
    clear e
    go_enter Tryz.func62, Tryz.ntmps62
    go_wp2
    go_ret2
    exact ⟨rfl, rfl⟩
  · have he := isEmpty_false s (by omega)
    have HN : Hid (numB s 10 = numTo s 10 s.size) := by unfold numB; rw [if_neg h0]; exact Lib.hid rfl
    go_enter Tryz.func62, Tryz.ntmps62
    go_wp2
    go_loop [6, 25] (fun t i => ∃ k n : Nat, k ≤ s.size ∧ i = .int .i64 k ∧ t = .int .i64 (n : Int) ∧ Hid (numTo s 10 k = some n)) (fun _ i => s.size - (intOf i).toNat)
    case atStart => exact ⟨0, 0, Nat.zero_le _, rfl, rfl, Lib.hid rfl⟩
    case round =>
      obtain ⟨k, n, hk, rfl, rfl, HK⟩ := hrel
      have hn : n ≤ 1099511627776 := numTo_le s 10 k n HK.out
      by_cases hlt : k < s.size
      · have u1 : (s[k]).toNat < 256 := (s[k]).toNat_lt
        have HS := Lib.hid (numTo_step HK.out hlt)
        have hd := digC_le (s[k]).toNat
        go_wp2_with fail
        refine (digit_any _ _ u1).mono ?_
        rintro e w' ⟨rfl, rfl⟩
        generalize digC (s[k]).toNat = d at *
        by_cases h1 : 10 ≤ d
        · go_wp2
          go_ret2
          exact ⟨num_ret (numB_dead hlt (by rw [HS.out, if_pos h1])).symm, rfl⟩
        · by_cases h2 : 1099511627776 < n * 10 + d
          · go_wp2
            go_ret2
            exact ⟨num_ret (numB_dead hlt (by rw [HS.out, if_neg h1, if_pos (by exact h2)])).symm, rfl⟩
          · go_wp2
            go_round
            case rel => exact ⟨k + 1, n * 10 + d, by omega, by go_num, by go_num, Lib.hid (by rw [HS.out, if_neg h1, if_neg (by exact h2)])⟩
            case measure => simp [intOf]; omega
      · obtain rfl : k = s.size := by omega
        go_wp2
        go_ret2
        exact ⟨num_ret (o := some n) (by rw [HN.out, HK.out]), rfl⟩

set_option maxHeartbeats 2000000 in
theorem number_16 (s : ByteArray) (w : World) (hs : s.size ≤ 1000000) :
    Calls Tryz.prog 62 #[.string s, .int .i64 16] w fun e w' => e = .returned (numRet (numB s 16)) ∧ w = w' := by
  by_cases h0 : s.size = 0
  · have e : numB s 16 = none := by unfold numB; rw [if_pos h0]
    have he := isEmpty_true s h0
    rw [e]
    clear e
    go_enter Tryz.func62, Tryz.ntmps62
    go_wp2
    go_ret2
    exact ⟨rfl, rfl⟩
  · have he := isEmpty_false s (by omega)
    have HN : Hid (numB s 16 = numTo s 16 s.size) := by unfold numB; rw [if_neg h0]; exact Lib.hid rfl
    go_enter Tryz.func62, Tryz.ntmps62
    go_wp2
    go_loop [6, 25] (fun t i => ∃ k n : Nat, k ≤ s.size ∧ i = .int .i64 k ∧ t = .int .i64 (n : Int) ∧ Hid (numTo s 16 k = some n)) (fun _ i => s.size - (intOf i).toNat)
    case atStart => exact ⟨0, 0, Nat.zero_le _, rfl, rfl, Lib.hid rfl⟩
    case round =>
      obtain ⟨k, n, hk, rfl, rfl, HK⟩ := hrel
      have hn : n ≤ 1099511627776 := numTo_le s 16 k n HK.out
      by_cases hlt : k < s.size
      · have u1 : (s[k]).toNat < 256 := (s[k]).toNat_lt
        have HS := Lib.hid (numTo_step HK.out hlt)
        have hd := digC_le (s[k]).toNat
        go_wp2_with fail
        refine (digit_any _ _ u1).mono ?_
        rintro e w' ⟨rfl, rfl⟩
        generalize digC (s[k]).toNat = d at *
        by_cases h1 : 16 ≤ d
        · go_wp2
          go_ret2
          exact ⟨num_ret (numB_dead hlt (by rw [HS.out, if_pos h1])).symm, rfl⟩
        · by_cases h2 : 1099511627776 < n * 16 + d
          · go_wp2
            go_ret2
            exact ⟨num_ret (numB_dead hlt (by rw [HS.out, if_neg h1, if_pos (by exact h2)])).symm, rfl⟩
          · go_wp2
            go_round
            case rel => exact ⟨k + 1, n * 16 + d, by omega, by go_num, by go_num, Lib.hid (by rw [HS.out, if_neg h1, if_neg (by exact h2)])⟩
            case measure => simp [intOf]; omega
      · obtain rfl : k = s.size := by omega
        go_wp2
        go_ret2
        exact ⟨num_ret (o := some n) (by rw [HN.out, HK.out]), rfl⟩

theorem number_any (s : ByteArray) (b : Nat) (w : World) (hs : s.size ≤ 1000000) (hb : b = 8 ∨ b = 10 ∨ b = 16) :
    Calls Tryz.prog 62 #[.string s, .int .i64 (b : Int)] w fun e w' => e = .returned (numRet (numB s b)) ∧ w = w' := by
  rcases hb with rfl | rfl | rfl
  · exact number_8 s w hs
  · exact number_10 s w hs
  · exact number_16 s w hs
end Go.Proofs.YtgbajagacmfcmaaGreatDoor
/- Contracts of the reference's digit, Number and Decimal: a number's decimal digits, and how they are read back. -/
namespace Go.Proofs.YtgbajagacmfcmaaGreatDoor
open Go.RowKit
set_option linter.unusedVariables false
set_option maxRecDepth 20000

/-- A digit's number as the reference tells it; -1: it is none. -/
def digI (c : Nat) : Int := if digC c < 16 then (digC c : Int) else -1

set_option maxHeartbeats 1000000 in
theorem refDigit_any (c : Nat) (w : World) (hc : c < 256) :
    Calls Tryz.prog 45 #[.int .u8 (c : Int)] w fun e w' => e = .returned (.int .i64 (digI c)) ∧ w = w' := by
  have hparts : c < 48 ∨ (48 ≤ c ∧ c ≤ 57) ∨ (58 ≤ c ∧ c < 65) ∨ (65 ≤ c ∧ c ≤ 70) ∨ (71 ≤ c ∧ c < 97) ∨ (97 ≤ c ∧ c ≤ 102) ∨ 103 ≤ c := by omega
  rcases hparts with h | h | h | h | h | h | h
  · have e : digI c = -1 := by unfold digI digC; rw [if_neg (by omega : ¬ (48 ≤ c ∧ c ≤ 57)), if_neg (by omega : ¬ (97 ≤ c ∧ c ≤ 102)), if_neg (by omega : ¬ (65 ≤ c ∧ c ≤ 70))]; rfl
    rw [e]
    go_enter Tryz.func45, Tryz.ntmps45
    go_wp2
    go_ret
    exact ⟨rfl, rfl⟩
  · have e : digI c = (c : Int) - 48 := by unfold digI digC; rw [if_pos (by omega : (48 ≤ c ∧ c ≤ 57)), if_pos (by omega)]; omega
    rw [e]
    clear e
    go_enter Tryz.func45, Tryz.ntmps45
    go_wp2
    go_ret
    exact ⟨rfl, rfl⟩
  · have e : digI c = -1 := by unfold digI digC; rw [if_neg (by omega : ¬ (48 ≤ c ∧ c ≤ 57)), if_neg (by omega : ¬ (97 ≤ c ∧ c ≤ 102)), if_neg (by omega : ¬ (65 ≤ c ∧ c ≤ 70))]; rfl
    rw [e]
    go_enter Tryz.func45, Tryz.ntmps45
    go_wp2
    go_ret
    exact ⟨rfl, rfl⟩
  · have e : digI c = (c : Int) - 55 := by unfold digI digC; rw [if_neg (by omega : ¬ (48 ≤ c ∧ c ≤ 57)), if_neg (by omega : ¬ (97 ≤ c ∧ c ≤ 102)), if_pos (by omega : (65 ≤ c ∧ c ≤ 70)), if_pos (by omega)]; omega
    rw [e]
    clear e
    go_enter Tryz.func45, Tryz.ntmps45
    go_wp2
    go_ret
    exact ⟨rfl, rfl⟩
  · have e : digI c = -1 := by unfold digI digC; rw [if_neg (by omega : ¬ (48 ≤ c ∧ c ≤ 57)), if_neg (by omega : ¬ (97 ≤ c ∧ c ≤ 102)), if_neg (by omega : ¬ (65 ≤ c ∧ c ≤ 70))]; rfl
    rw [e]
    go_enter Tryz.func45, Tryz.ntmps45
    go_wp2
    go_ret
    exact ⟨rfl, rfl⟩
  · have e : digI c = (c : Int) - 87 := by unfold digI digC; rw [if_neg (by omega : ¬ (48 ≤ c ∧ c ≤ 57)), if_pos (by omega : (97 ≤ c ∧ c ≤ 102)), if_pos (by omega)]; omega
    rw [e]
    clear e
    go_enter Tryz.func45, Tryz.ntmps45
    go_wp2
    go_ret
    exact ⟨rfl, rfl⟩
  · have e : digI c = -1 := by unfold digI digC; rw [if_neg (by omega : ¬ (48 ≤ c ∧ c ≤ 57)), if_neg (by omega : ¬ (97 ≤ c ∧ c ≤ 102)), if_neg (by omega : ¬ (65 ≤ c ∧ c ≤ 70))]; rfl
    rw [e]
    go_enter Tryz.func45, Tryz.ntmps45
    go_wp2
    go_ret
    exact ⟨rfl, rfl⟩

set_option maxHeartbeats 2000000 in
theorem refNumber_8 (s : ByteArray) (w : World) (hs : s.size ≤ 1000000) :
    Calls Tryz.prog 25 #[.string s, .int .i64 8] w fun e w' => e = .returned (numRet (numB s 8)) ∧ w = w' := by
  have HN : Hid (s.size = 0 ∨ numB s 8 = numTo s 8 s.size) := by
    by_cases h0 : s.size = 0
    · exact Lib.hid (.inl h0)
    · exact Lib.hid (.inr (by unfold numB; rw [if_neg h0]))
  go_enter Tryz.func25, Tryz.ntmps25
  go_wp2
  go_loop [6, 7] (fun t i => ∃ k n : Nat, k ≤ s.size ∧ i = .int .i64 k ∧ t = .int .i64 (n : Int) ∧ Hid (numTo s 8 k = some n)) (fun _ i => s.size - (intOf i).toNat)
  case atStart => exact ⟨0, 0, Nat.zero_le _, rfl, rfl, Lib.hid rfl⟩
  case round =>
    obtain ⟨k, n, hk, rfl, rfl, HK⟩ := hrel
    have hn : n ≤ 1099511627776 := numTo_le s 8 k n HK.out
    by_cases hlt : k < s.size
    · have u1 : (s[k]).toNat < 256 := (s[k]).toNat_lt
      have HS := Lib.hid (numTo_step HK.out hlt)
      have hd := digC_le (s[k]).toNat
      go_wp2_with fail
      refine (refDigit_any _ _ u1).mono ?_
      rintro e w' ⟨rfl, rfl⟩
      unfold digI
      generalize digC (s[k]).toNat = d at *
      by_cases h16 : d < 16
      · rw [if_pos h16]
        by_cases h1 : 8 ≤ d
        · go_wp2
          go_ret2
          exact ⟨num_ret (numB_dead hlt (by rw [HS.out, if_pos h1])).symm, rfl⟩
        · by_cases h2 : 1099511627776 < n * 8 + d
          · go_wp2
            go_ret2
            exact ⟨num_ret (numB_dead hlt (by rw [HS.out, if_neg h1, if_pos (by exact h2)])).symm, rfl⟩
          · go_wp2
            go_round
            case rel => exact ⟨k + 1, n * 8 + d, by omega, by go_num, by go_num, Lib.hid (by rw [HS.out, if_neg h1, if_neg (by exact h2)])⟩
            case measure => simp [intOf]; omega
      · rw [if_neg h16]
        go_wp2
        go_ret2
        exact ⟨num_ret (numB_dead hlt (by rw [HS.out, if_pos (by omega)])).symm, rfl⟩
    · obtain rfl : k = s.size := by omega
      by_cases h0 : s.size = 0
      · have hz : numB s 8 = none := by unfold numB; rw [if_pos h0]
        have hk0 := HK.out
        rw [h0] at hk0
        have hn0 : n = 0 := by
          have : numTo s 8 0 = some 0 := rfl
          rw [this] at hk0
          exact (Option.some.inj hk0).symm
        subst hn0
        have HZ := Lib.hid hz
        clear hz hk0
        go_wp2
        go_ret2
        exact ⟨num_ret (o := none) HZ.out.symm, rfl⟩
      · have h1 : 0 < s.size := by omega
        have HE : Hid (numB s 8 = some n) := by
          rcases HN.out with h | h
          · exact absurd h h0
          · exact Lib.hid (h.trans HK.out)
        clear h0
        go_wp2
        go_ret2
        exact ⟨num_ret (o := some n) HE.out.symm, rfl⟩

set_option maxHeartbeats 2000000 in
theorem refNumber_10 (s : ByteArray) (w : World) (hs : s.size ≤ 1000000) :
    Calls Tryz.prog 25 #[.string s, .int .i64 10] w fun e w' => e = .returned (numRet (numB s 10)) ∧ w = w' := by
  have HN : Hid (s.size = 0 ∨ numB s 10 = numTo s 10 s.size) := by
    by_cases h0 : s.size = 0
    · exact Lib.hid (.inl h0)
    · exact Lib.hid (.inr (by unfold numB; rw [if_neg h0]))
  go_enter Tryz.func25, Tryz.ntmps25
  go_wp2
  go_loop [6, 7] (fun t i => ∃ k n : Nat, k ≤ s.size ∧ i = .int .i64 k ∧ t = .int .i64 (n : Int) ∧ Hid (numTo s 10 k = some n)) (fun _ i => s.size - (intOf i).toNat)
  case atStart => exact ⟨0, 0, Nat.zero_le _, rfl, rfl, Lib.hid rfl⟩
  case round =>
    obtain ⟨k, n, hk, rfl, rfl, HK⟩ := hrel
    have hn : n ≤ 1099511627776 := numTo_le s 10 k n HK.out
    by_cases hlt : k < s.size
    · have u1 : (s[k]).toNat < 256 := (s[k]).toNat_lt
      have HS := Lib.hid (numTo_step HK.out hlt)
      have hd := digC_le (s[k]).toNat
      go_wp2_with fail
      refine (refDigit_any _ _ u1).mono ?_
      rintro e w' ⟨rfl, rfl⟩
      unfold digI
      generalize digC (s[k]).toNat = d at *
      by_cases h16 : d < 16
      · rw [if_pos h16]
        by_cases h1 : 10 ≤ d
        · go_wp2
          go_ret2
          exact ⟨num_ret (numB_dead hlt (by rw [HS.out, if_pos h1])).symm, rfl⟩
        · by_cases h2 : 1099511627776 < n * 10 + d
          · go_wp2
            go_ret2
            exact ⟨num_ret (numB_dead hlt (by rw [HS.out, if_neg h1, if_pos (by exact h2)])).symm, rfl⟩
          · go_wp2
            go_round
            case rel => exact ⟨k + 1, n * 10 + d, by omega, by go_num, by go_num, Lib.hid (by rw [HS.out, if_neg h1, if_neg (by exact h2)])⟩
            case measure => simp [intOf]; omega
      · rw [if_neg h16]
        go_wp2
        go_ret2
        exact ⟨num_ret (numB_dead hlt (by rw [HS.out, if_pos (by omega)])).symm, rfl⟩
    · obtain rfl : k = s.size := by omega
      by_cases h0 : s.size = 0
      · have hz : numB s 10 = none := by unfold numB; rw [if_pos h0]
        have hk0 := HK.out
        rw [h0] at hk0
        have hn0 : n = 0 := by
          have : numTo s 10 0 = some 0 := rfl
          rw [this] at hk0
          exact (Option.some.inj hk0).symm
        subst hn0
        have HZ := Lib.hid hz
        clear hz hk0
        go_wp2
        go_ret2
        exact ⟨num_ret (o := none) HZ.out.symm, rfl⟩
      · have h1 : 0 < s.size := by omega
        have HE : Hid (numB s 10 = some n) := by
          rcases HN.out with h | h
          · exact absurd h h0
          · exact Lib.hid (h.trans HK.out)
        clear h0
        go_wp2
        go_ret2
        exact ⟨num_ret (o := some n) HE.out.symm, rfl⟩

set_option maxHeartbeats 2000000 in
theorem refNumber_16 (s : ByteArray) (w : World) (hs : s.size ≤ 1000000) :
    Calls Tryz.prog 25 #[.string s, .int .i64 16] w fun e w' => e = .returned (numRet (numB s 16)) ∧ w = w' := by
  have HN : Hid (s.size = 0 ∨ numB s 16 = numTo s 16 s.size) := by
    by_cases h0 : s.size = 0
    · exact Lib.hid (.inl h0)
    · exact Lib.hid (.inr (by unfold numB; rw [if_neg h0]))
  go_enter Tryz.func25, Tryz.ntmps25
  go_wp2
  go_loop [6, 7] (fun t i => ∃ k n : Nat, k ≤ s.size ∧ i = .int .i64 k ∧ t = .int .i64 (n : Int) ∧ Hid (numTo s 16 k = some n)) (fun _ i => s.size - (intOf i).toNat)
  case atStart => exact ⟨0, 0, Nat.zero_le _, rfl, rfl, Lib.hid rfl⟩
  case round =>
    obtain ⟨k, n, hk, rfl, rfl, HK⟩ := hrel
    have hn : n ≤ 1099511627776 := numTo_le s 16 k n HK.out
    by_cases hlt : k < s.size
    · have u1 : (s[k]).toNat < 256 := (s[k]).toNat_lt
      have HS := Lib.hid (numTo_step HK.out hlt)
      have hd := digC_le (s[k]).toNat
      go_wp2_with fail
      refine (refDigit_any _ _ u1).mono ?_
      rintro e w' ⟨rfl, rfl⟩
      unfold digI
      generalize digC (s[k]).toNat = d at *
      by_cases h16 : d < 16
      · rw [if_pos h16]
        by_cases h1 : 16 ≤ d
        · exfalso; omega
        · by_cases h2 : 1099511627776 < n * 16 + d
          · go_wp2
            go_ret2
            exact ⟨num_ret (numB_dead hlt (by rw [HS.out, if_neg h1, if_pos (by exact h2)])).symm, rfl⟩
          · go_wp2
            go_round
            case rel => exact ⟨k + 1, n * 16 + d, by omega, by go_num, by go_num, Lib.hid (by rw [HS.out, if_neg h1, if_neg (by exact h2)])⟩
            case measure => simp [intOf]; omega
      · rw [if_neg h16]
        go_wp2
        go_ret2
        exact ⟨num_ret (numB_dead hlt (by rw [HS.out, if_pos (by omega)])).symm, rfl⟩
    · obtain rfl : k = s.size := by omega
      by_cases h0 : s.size = 0
      · have hz : numB s 16 = none := by unfold numB; rw [if_pos h0]
        have hk0 := HK.out
        rw [h0] at hk0
        have hn0 : n = 0 := by
          have : numTo s 16 0 = some 0 := rfl
          rw [this] at hk0
          exact (Option.some.inj hk0).symm
        subst hn0
        have HZ := Lib.hid hz
        clear hz hk0
        go_wp2
        go_ret2
        exact ⟨num_ret (o := none) HZ.out.symm, rfl⟩
      · have h1 : 0 < s.size := by omega
        have HE : Hid (numB s 16 = some n) := by
          rcases HN.out with h | h
          · exact absurd h h0
          · exact Lib.hid (h.trans HK.out)
        clear h0
        go_wp2
        go_ret2
        exact ⟨num_ret (o := some n) HE.out.symm, rfl⟩

theorem refNumber_any (s : ByteArray) (b : Nat) (w : World) (hs : s.size ≤ 1000000) (hb : b = 8 ∨ b = 10 ∨ b = 16) :
    Calls Tryz.prog 25 #[.string s, .int .i64 (b : Int)] w fun e w' => e = .returned (numRet (numB s b)) ∧ w = w' := by
  rcases hb with rfl | rfl | rfl
  · exact refNumber_8 s w hs
  · exact refNumber_10 s w hs
  · exact refNumber_16 s w hs

/-- Texts of lists of bytes, one behind the other. -/
theorem mk_append (l m : List UInt8) : (⟨l.toArray⟩ : ByteArray) ++ ⟨m.toArray⟩ = ⟨(l ++ m).toArray⟩ := by
  apply bytes_ext
  rw [data_append]
theorem dec_length (u : Nat) (h : u ≤ 9223372036854775807) : (Lib.decDigits u).length ≤ 21 := by
  have := Lib.itoa_length_le (u : Int) (by omega) (by omega)
  unfold Lib.itoa at this
  rw [if_neg (by omega)] at this
  simpa using this

theorem itoa_min : (Lib.itoa (-9223372036854775808)) = [45, 57, 50, 50, 51, 51, 55, 50, 48, 51, 54, 56, 53, 52, 55, 55, 53, 56, 48, 56] := by
  unfold Lib.itoa
  rw [if_pos (by decide)]
  simp [Lib.decDigits]

theorem byteOf_left (s X : ByteArray) (k : Nat) (h : k < s.size) : byteOf (s ++ X) k = byteOf s k := by
  unfold byteOf
  rw [data_append]
  simp only [List.getD_eq_getElem?_getD]
  rw [List.getElem?_append_left (by simpa using h)]
theorem numTo_left (s X : ByteArray) (b : Nat) : ∀ k, k ≤ s.size → numTo (s ++ X) b k = numTo s b k
  | 0, _ => rfl
  | k + 1, h => by rw [numTo, numTo, numTo_left s X b k (by omega), byteOf_left s X k (by omega)]
theorem digC_dec (d : Nat) (h : d < 10) : digC (UInt8.ofNat (48 + d)).toNat = d := by
  rw [UInt8.toNat_ofNat', Nat.mod_eq_of_lt (by omega)]
  unfold digC
  rw [if_pos (by omega)]
  omega
/-- The digits of a number, from 0 on, are read as the number, if it is not too great. -/
theorem dec_numTo (u : Nat) : numTo ⟨(Lib.decDigits u).toArray⟩ 10 (Lib.decDigits u).length = if u ≤ most then some u else none := by
  induction u using Nat.strongRecOn with
  | _ u ih =>
    by_cases h10 : u < 10
    · have e : Lib.decDigits u = [UInt8.ofNat (48 + u)] := by rw [Lib.decDigits, dif_pos h10]
      rw [e, if_pos (by unfold most; omega)]
      have hb : byteOf ⟨[UInt8.ofNat (48 + u)].toArray⟩ 0 = (UInt8.ofNat (48 + u)).toNat := rfl
      show numTo _ 10 (0 + 1) = _
      rw [numTo, numTo, hb, digC_dec u h10]
      simp only []
      rw [if_neg (by omega), if_neg (by unfold most; omega)]
      simp
    · have e : Lib.decDigits u = Lib.decDigits (u / 10) ++ [UInt8.ofNat (48 + u % 10)] := by rw [Lib.decDigits, dif_neg h10]
      have hi := ih (u / 10) (by omega)
      rw [e, ← mk_append, List.length_append, List.length_singleton]
      have hs : (⟨(Lib.decDigits (u / 10)).toArray⟩ : ByteArray).size = (Lib.decDigits (u / 10)).length := rfl
      have hb : byteOf ((⟨(Lib.decDigits (u / 10)).toArray⟩ : ByteArray) ++ ⟨[UInt8.ofNat (48 + u % 10)].toArray⟩) (Lib.decDigits (u / 10)).length = (UInt8.ofNat (48 + u % 10)).toNat := by
        unfold byteOf
        rw [data_append, List.getD_eq_getElem?_getD, List.getElem?_append_right (by simp)]
        simp
      rw [numTo, numTo_left _ _ _ _ (by rw [hs]; exact Nat.le_refl _), hi, hb, digC_dec _ (by omega)]
      by_cases hm : u / 10 ≤ most
      · rw [if_pos hm]
        simp only []
        rw [if_neg (by omega), show u / 10 * 10 + u % 10 = u by omega]
        by_cases h2 : most < u
        · rw [if_pos h2, if_neg (by omega)]
        · rw [if_neg h2, if_pos (by omega)]
      · rw [if_neg hm, if_neg (by omega)]
theorem dec_pos (u : Nat) : 0 < (Lib.decDigits u).length := by
  rw [Lib.decDigits]
  split <;> simp
theorem num_bad0 (s : ByteArray) (b j : Nat) (hj : j < s.size) (h : b ≤ digC (byteOf s j)) : numB s b = none := by
  apply numB_dead hj
  rw [numTo]
  cases numTo s b j with
  | none => rfl
  | some n => simp only [if_pos h]
/-- What Number answers of a number's digits. -/
theorem itoa_num (n : Int) : numB ⟨(Lib.itoa n).toArray⟩ 10 = if 0 ≤ n ∧ n ≤ 1099511627776 then some n.toNat else none := by
  by_cases hn : 0 ≤ n
  · obtain ⟨u, rfl⟩ : ∃ u : Nat, n = (u : Int) := ⟨n.toNat, by omega⟩
    have e : Lib.itoa (u : Int) = Lib.decDigits u := by unfold Lib.itoa; rw [if_neg (by omega)]; rfl
    rw [e]
    unfold numB
    have hs : (⟨(Lib.decDigits u).toArray⟩ : ByteArray).size = (Lib.decDigits u).length := rfl
    have hp := dec_pos u
    rw [hs, if_neg (by omega), dec_numTo]
    by_cases h : u ≤ most
    · rw [if_pos h, if_pos (by unfold most at h; omega)]; simp
    · rw [if_neg h, if_neg (by unfold most at h; omega)]
  · rw [if_neg (by omega)]
    have e : Lib.itoa n = 45 :: Lib.decDigits n.natAbs := by unfold Lib.itoa; rw [if_pos (by omega)]
    rw [e]
    apply num_bad0 _ _ 0
    · show 0 < (45 :: Lib.decDigits n.natAbs).length
      simp
    · show 10 ≤ digC 45
      decide
end Go.Proofs.YtgbajagacmfcmaaGreatDoor
/- Contracts of four's readers of digits (a closure over the base), and of the reference's: a part's number, 2^32 at most. -/
namespace Go.Proofs.YtgbajagacmfcmaaGreatDoor
open Go.RowKit
set_option linter.unusedVariables false
set_option maxRecDepth 20000

/-- The number of the first k digits, 2^32 at most, if all are digits. -/
def readTo (s : ByteArray) (b : Nat) : Nat → Option Nat
  | 0 => some 0
  | k + 1 => match readTo s b k with
    | none => none
    | some n => if b ≤ digC (byteOf s k) then none else some (min (n * b + digC (byteOf s k)) 4294967296)
def readB (s : ByteArray) (b : Nat) : Option Nat := readTo s b s.size
theorem readTo_none (s : ByteArray) (b k : Nat) (h : readTo s b k = none) : ∀ m, readTo s b (k + m) = none
  | 0 => h
  | m + 1 => by rw [← Nat.add_assoc, readTo, readTo_none s b k h m]
theorem readTo_le (s : ByteArray) (b : Nat) : ∀ k n, readTo s b k = some n → n ≤ 4294967296
  | 0, n, h => by simp [readTo] at h; omega
  | k + 1, n, h => by
    rw [readTo] at h
    cases hk : readTo s b k with
    | none => rw [hk] at h; cases h
    | some m =>
      rw [hk] at h
      simp only at h
      split at h
      · cases h
      · have := Option.some.inj h; omega
theorem readB_le (s : ByteArray) (b n : Nat) (h : readB s b = some n) : n ≤ 4294967296 := readTo_le s b _ n h
theorem readTo_step {s : ByteArray} {b k n : Nat} (h : readTo s b k = some n) (hk : k < s.size) :
    readTo s b (k + 1) = if b ≤ digC (s[k]).toNat then none else some (min (n * b + digC (s[k]).toNat) 4294967296) := by
  rw [readTo, h, byteOf_eq s k hk]
theorem readB_dead {s : ByteArray} {b k : Nat} (hk : k < s.size) (h : readTo s b (k + 1) = none) : readB s b = none := by
  unfold readB
  have := readTo_none s b (k + 1) h (s.size - (k + 1))
  rwa [show k + 1 + (s.size - (k + 1)) = s.size by omega] at this

/-- One digit, read alone. -/
theorem one_sign (s : ByteArray) (k b : Nat) (hk : k < s.size) (hb : b ≤ 16) : numB (s.extract k (k + 1)) b = if b ≤ digC (s[k]).toNat then none else some (digC (s[k]).toNat) := by
  have hz : (s.extract k (k + 1)).size = 1 := by simp; omega
  have e : byteOf (s.extract k (k + 1)) 0 = (s[k]).toNat := by
    rw [← byteOf_eq s k hk]
    unfold byteOf
    rw [data_extract]
    rw [List.getD_eq_getElem?_getD, List.getD_eq_getElem?_getD, List.getElem?_take, if_pos (by omega), List.getElem?_drop, Nat.add_zero]
  have hd := digC_le (s[k]).toNat
  unfold numB
  rw [if_neg (by omega), hz]
  simp only [numTo, e]
  split
  · rfl
  · rw [if_neg (by unfold most; omega)]; simp

theorem one_8_no (s : ByteArray) (k : Nat) (w : World) (hs : s.size ≤ 1000000) (hk : k < s.size) (h : 8 ≤ digC (s[k]).toNat) :
    Calls Tryz.prog 62 #[.string (s.extract k (k + 1)), .int .i64 8] w fun e w' => e = .returned (.tuple #[.int .i64 0, .bool false]) ∧ w = w' := by
  have := number_8 (s.extract k (k + 1)) w (by simp; omega)
  rw [one_sign s k 8 hk (by omega), if_pos h] at this
  exact this
theorem one_8_is (s : ByteArray) (k : Nat) (w : World) (hs : s.size ≤ 1000000) (hk : k < s.size) (h : ¬ 8 ≤ digC (s[k]).toNat) :
    Calls Tryz.prog 62 #[.string (s.extract k (k + 1)), .int .i64 8] w fun e w' => e = .returned (.tuple #[.int .i64 (digC (s[k]).toNat : Nat), .bool true]) ∧ w = w' := by
  have := number_8 (s.extract k (k + 1)) w (by simp; omega)
  rw [one_sign s k 8 hk (by omega), if_neg h] at this
  exact this

theorem one_10_no (s : ByteArray) (k : Nat) (w : World) (hs : s.size ≤ 1000000) (hk : k < s.size) (h : 10 ≤ digC (s[k]).toNat) :
    Calls Tryz.prog 62 #[.string (s.extract k (k + 1)), .int .i64 10] w fun e w' => e = .returned (.tuple #[.int .i64 0, .bool false]) ∧ w = w' := by
  have := number_10 (s.extract k (k + 1)) w (by simp; omega)
  rw [one_sign s k 10 hk (by omega), if_pos h] at this
  exact this
theorem one_10_is (s : ByteArray) (k : Nat) (w : World) (hs : s.size ≤ 1000000) (hk : k < s.size) (h : ¬ 10 ≤ digC (s[k]).toNat) :
    Calls Tryz.prog 62 #[.string (s.extract k (k + 1)), .int .i64 10] w fun e w' => e = .returned (.tuple #[.int .i64 (digC (s[k]).toNat : Nat), .bool true]) ∧ w = w' := by
  have := number_10 (s.extract k (k + 1)) w (by simp; omega)
  rw [one_sign s k 10 hk (by omega), if_neg h] at this
  exact this

theorem one_16_no (s : ByteArray) (k : Nat) (w : World) (hs : s.size ≤ 1000000) (hk : k < s.size) (h : 16 ≤ digC (s[k]).toNat) :
    Calls Tryz.prog 62 #[.string (s.extract k (k + 1)), .int .i64 16] w fun e w' => e = .returned (.tuple #[.int .i64 0, .bool false]) ∧ w = w' := by
  have := number_16 (s.extract k (k + 1)) w (by simp; omega)
  rw [one_sign s k 16 hk (by omega), if_pos h] at this
  exact this
theorem one_16_is (s : ByteArray) (k : Nat) (w : World) (hs : s.size ≤ 1000000) (hk : k < s.size) (h : ¬ 16 ≤ digC (s[k]).toNat) :
    Calls Tryz.prog 62 #[.string (s.extract k (k + 1)), .int .i64 16] w fun e w' => e = .returned (.tuple #[.int .i64 (digC (s[k]).toNat : Nat), .bool true]) ∧ w = w' := by
  have := number_16 (s.extract k (k + 1)) w (by simp; omega)
  rw [one_sign s k 16 hk (by omega), if_neg h] at this
  exact this

theorem refOne_8_no (s : ByteArray) (k : Nat) (w : World) (hs : s.size ≤ 1000000) (hk : k < s.size) (h : 8 ≤ digC (s[k]).toNat) :
    Calls Tryz.prog 25 #[.string (s.extract k (k + 1)), .int .i64 8] w fun e w' => e = .returned (.tuple #[.int .i64 0, .bool false]) ∧ w = w' := by
  have := refNumber_8 (s.extract k (k + 1)) w (by simp; omega)
  rw [one_sign s k 8 hk (by omega), if_pos h] at this
  exact this
theorem refOne_8_is (s : ByteArray) (k : Nat) (w : World) (hs : s.size ≤ 1000000) (hk : k < s.size) (h : ¬ 8 ≤ digC (s[k]).toNat) :
    Calls Tryz.prog 25 #[.string (s.extract k (k + 1)), .int .i64 8] w fun e w' => e = .returned (.tuple #[.int .i64 (digC (s[k]).toNat : Nat), .bool true]) ∧ w = w' := by
  have := refNumber_8 (s.extract k (k + 1)) w (by simp; omega)
  rw [one_sign s k 8 hk (by omega), if_neg h] at this
  exact this

theorem refOne_10_no (s : ByteArray) (k : Nat) (w : World) (hs : s.size ≤ 1000000) (hk : k < s.size) (h : 10 ≤ digC (s[k]).toNat) :
    Calls Tryz.prog 25 #[.string (s.extract k (k + 1)), .int .i64 10] w fun e w' => e = .returned (.tuple #[.int .i64 0, .bool false]) ∧ w = w' := by
  have := refNumber_10 (s.extract k (k + 1)) w (by simp; omega)
  rw [one_sign s k 10 hk (by omega), if_pos h] at this
  exact this
theorem refOne_10_is (s : ByteArray) (k : Nat) (w : World) (hs : s.size ≤ 1000000) (hk : k < s.size) (h : ¬ 10 ≤ digC (s[k]).toNat) :
    Calls Tryz.prog 25 #[.string (s.extract k (k + 1)), .int .i64 10] w fun e w' => e = .returned (.tuple #[.int .i64 (digC (s[k]).toNat : Nat), .bool true]) ∧ w = w' := by
  have := refNumber_10 (s.extract k (k + 1)) w (by simp; omega)
  rw [one_sign s k 10 hk (by omega), if_neg h] at this
  exact this

theorem refOne_16_no (s : ByteArray) (k : Nat) (w : World) (hs : s.size ≤ 1000000) (hk : k < s.size) (h : 16 ≤ digC (s[k]).toNat) :
    Calls Tryz.prog 25 #[.string (s.extract k (k + 1)), .int .i64 16] w fun e w' => e = .returned (.tuple #[.int .i64 0, .bool false]) ∧ w = w' := by
  have := refNumber_16 (s.extract k (k + 1)) w (by simp; omega)
  rw [one_sign s k 16 hk (by omega), if_pos h] at this
  exact this
theorem refOne_16_is (s : ByteArray) (k : Nat) (w : World) (hs : s.size ≤ 1000000) (hk : k < s.size) (h : ¬ 16 ≤ digC (s[k]).toNat) :
    Calls Tryz.prog 25 #[.string (s.extract k (k + 1)), .int .i64 16] w fun e w' => e = .returned (.tuple #[.int .i64 (digC (s[k]).toNat : Nat), .bool true]) ∧ w = w' := by
  have := refNumber_16 (s.extract k (k + 1)) w (by simp; omega)
  rw [one_sign s k 16 hk (by omega), if_neg h] at this
  exact this

/-- As the reference tells it; -1: there is none. -/
def optI : Option Nat → Int
  | none => -1
  | some n => n
theorem int_ret {a b : Int} (h : a = b) : Ending.returned (.int .i64 a) = .returned (.int .i64 b) := by rw [h]

end Go.Proofs.YtgbajagacmfcmaaGreatDoor
/- Rows of texts as a walk reads them; the pieces of a text are no longer than the text. -/
namespace Go.Proofs.YtgbajagacmfcmaaGreatDoor
open Go.RowKit
set_option linter.unusedVariables false
set_option maxRecDepth 20000

/-- A row of these texts lies at g. -/
structure StrRow (w : World) (g n c : Nat) (l : List ByteArray) : Prop where
  len : l.length = n
  cap : n ≤ c
  capm : c ≤ maxLen
  lt : g < w.heap.size
  cells : ∀ i, i < n → w.cell? ⟨g, i, none⟩ = some (.string (l.getD i ⟨#[]⟩))
theorem StrRow.below {w w' : World} {g n c : Nat} {l : List ByteArray} (h : StrRow w g n c l) (hb : Below w.heap.size w w') : StrRow w' g n c l :=
  ⟨h.len, h.cap, h.capm, Nat.lt_of_lt_of_le h.lt hb.size, fun i hi => by rw [hb.cell (p := ⟨g, i, none⟩) h.lt]; exact h.cells i hi⟩
theorem StrRow.front {w : World} {g n c : Nat} {l : List ByteArray} (h : StrRow w g n c l) (m : Nat) (hm : m ≤ n) : StrRow w g m c (l.take m) :=
  ⟨by have := h.len; simp; omega, by have := h.cap; omega, h.capm, h.lt, fun i hi => by
    rw [h.cells i (by omega)]
    simp only [List.getD_eq_getElem?_getD, List.getElem?_take, if_pos hi]⟩
theorem own_row {w : World} {B : Nat} {v : Value} {l : List ByteArray} (h : w.ownsRow B 9 1 v l.length (l.map Value.string)) (h0 : 0 < l.length) :
    ∃ g c, v = .slice (some ⟨g, 0, none⟩) l.length c ∧ B ≤ g ∧ StrRow w g l.length c l := by
  have hh := h
  obtain ⟨g, c, rfl, hg1, hg2⟩ := h.form h0
  have hc : l.length ≤ c ∧ c ≤ maxLen := by
    rcases hh.2 with ⟨h1, _⟩ | ⟨g', cap, cur, h1, _, _, h2, h3, _⟩
    · simp at h1
    · simp only [Value.slice.injEq, Option.some.injEq, Addr.mk.injEq, and_true, true_and] at h1
      obtain ⟨rfl, rfl⟩ := h1
      exact ⟨h2, h3⟩
  refine ⟨g, c, rfl, hg1, rfl, hc.1, hc.2, hg2, fun i hi => ?_⟩
  rw [own_cells hh i hi, List.getD_eq_getElem?_getD, List.getElem?_eq_getElem hi]
  rfl

theorem pieces_pos (s : ByteArray) (sep : Nat) : 0 < (pieces s sep).length := by unfold pieces; simp
theorem sp_small (s : ByteArray) (sep : Nat) : ∀ k, ∀ p ∈ (sp s sep k).1, p.size ≤ s.size
  | 0 => by simp [sp]
  | k + 1 => by
    unfold sp
    split
    · intro p hp
      rcases List.mem_append.1 hp with h | h
      · exact sp_small s sep k p h
      · simp at h; subst h; simp; omega
    · exact sp_small s sep k
theorem pieces_small (s : ByteArray) (sep : Nat) : ∀ p ∈ pieces s sep, p.size ≤ s.size := by
  intro p hp
  unfold pieces at hp
  rcases List.mem_append.1 hp with h | h
  · exact sp_small s sep _ p h
  · simp at h; subst h; simp
theorem getD_small {l : List ByteArray} {m : Nat} (h : ∀ p ∈ l, p.size ≤ m) (i : Nat) : (l.getD i ⟨#[]⟩).size ≤ m := by
  rw [List.getD_eq_getElem?_getD]
  cases hi : l[i]? with
  | none => exact Nat.zero_le _
  | some p => exact h p (List.mem_of_getElem? hi)
theorem pieces_len (s : ByteArray) (sep : Nat) : (pieces s sep).length ≤ s.size + 1 := by
  unfold pieces
  have := (sp_le s sep s.size).2
  simp
  omega

/-- What Split hands back, as a row. -/
theorem split_row (s : ByteArray) (sep : Nat) (w : World) (hs : s.size ≤ 1000000) :
    Calls Tryz.prog 71 #[.string s, .int .u8 sep] w fun e w' => ∃ g c, e = .returned (.slice (some ⟨g, 0, none⟩) (pieces s sep).length c) ∧ w.heap.size ≤ g ∧ StrRow w' g (pieces s sep).length c (pieces s sep) ∧ Below w.heap.size w w' := by
  refine (split_any s sep w hs).mono ?_
  rintro e w' ⟨v, rfl, ho, hb⟩
  obtain ⟨g, c, rfl, h1, h2⟩ := own_row ho (pieces_pos s sep)
  exact ⟨g, c, rfl, h1, h2, hb⟩
end Go.Proofs.YtgbajagacmfcmaaGreatDoor
/- Contracts of four.Of and four.Strict: the address of four bytes, and of a strict text. -/
namespace Go.Proofs.YtgbajagacmfcmaaGreatDoor
open Go.RowKit
set_option linter.unusedVariables false
set_option maxRecDepth 20000

def arr4 (a b c d : Nat) : Value := .agg #[.int .u8 (a : Int), .int .u8 (b : Int), .int .u8 (c : Int), .int .u8 (d : Int)]
theorem or_low (X c : Nat) (hX : X < 16777216) (hc : c < 256) : bits .or .u32 ((X : Int) * 256) (c : Int) = ((X * 256 + c : Nat) : Int) := by
  rw [bits_join .u32 32 (by decide) (fun n h0 h1 => by rw [IntKind.wrap_u32]; omega) 8 ((X : Int) * 256) c (by omega) (by omega) (by omega) (by omega) (by omega) (by omega)]
  omega
/-- The first k of four bytes, as a number. -/
def ofTo (a b c d : Nat) : Nat → Nat
  | 0 => 0
  | 1 => a
  | 2 => a * 256 + b
  | 3 => (a * 256 + b) * 256 + c
  | _ => ((a * 256 + b) * 256 + c) * 256 + d
set_option maxRecDepth 100000 in
set_option maxHeartbeats 1000000 in
theorem of_any (a b c d : Nat) (w : World) (ha : a < 256) (hb : b < 256) (hc : c < 256) (hd : d < 256) :
    Calls Tryz.prog 30 #[arr4 a b c d] w fun e w' => e = .returned (.int .u32 (((a * 256 + b) * 256 + c) * 256 + d : Nat)) ∧ Below w.heap.size w w' := by
  unfold arr4
  have i0 : ∀ w : World, (Instr.index 75 (.agg #[.int .u8 (a : Int), .int .u8 (b : Int), .int .u8 (c : Int), .int .u8 (d : Int)]) (.int .i64 0)).run Tryz.prog w = .ok (.int .u8 (a : Int)) w := fun _ => by kernel_rfl
  have i1 : ∀ w : World, (Instr.index 75 (.agg #[.int .u8 (a : Int), .int .u8 (b : Int), .int .u8 (c : Int), .int .u8 (d : Int)]) (.int .i64 1)).run Tryz.prog w = .ok (.int .u8 (b : Int)) w := fun _ => by kernel_rfl
  have i2 : ∀ w : World, (Instr.index 75 (.agg #[.int .u8 (a : Int), .int .u8 (b : Int), .int .u8 (c : Int), .int .u8 (d : Int)]) (.int .i64 2)).run Tryz.prog w = .ok (.int .u8 (c : Int)) w := fun _ => by kernel_rfl
  have i3 : ∀ w : World, (Instr.index 75 (.agg #[.int .u8 (a : Int), .int .u8 (b : Int), .int .u8 (c : Int), .int .u8 (d : Int)]) (.int .i64 3)).run Tryz.prog w = .ok (.int .u8 (d : Int)) w := fun _ => by kernel_rfl
  go_enter Tryz.func30, Tryz.ntmps30
  go_wp2
  go_loop [3, 7] (fun t i => ∃ k X : Nat, k ≤ 4 ∧ i = .int .i64 k ∧ t = .int .u32 (X : Int) ∧ X < 256 ^ k ∧ Hid (X = ofTo a b c d k)) (fun _ i => 4 - (intOf i).toNat)
  case atStart => exact ⟨0, 0, Nat.zero_le _, rfl, rfl, by decide, Lib.hid rfl⟩
  case round =>
    obtain ⟨k, X, hk, rfl, rfl, hX, HX⟩ := hrel
    have hk5 : k = 0 ∨ k = 1 ∨ k = 2 ∨ k = 3 ∨ k = 4 := by omega
    rcases hk5 with rfl | rfl | rfl | rfl | rfl
    · have hXb : X < 16777216 := Nat.lt_of_lt_of_le hX (by decide)
      go_wp2
      exact ⟨⟨1, X * 256 + a, by omega, rfl, by rw [or_low X a hXb ha], by simp at hX ⊢; omega, Lib.hid (by rw [HX.out]; simp [ofTo])⟩, by decide⟩
    · have hXb : X < 16777216 := Nat.lt_of_lt_of_le hX (by decide)
      go_wp2
      exact ⟨⟨2, X * 256 + b, by omega, rfl, by rw [or_low X b hXb hb], by simp at hX ⊢; omega, Lib.hid (by rw [HX.out]; simp [ofTo])⟩, by decide⟩
    · have hXb : X < 16777216 := Nat.lt_of_lt_of_le hX (by decide)
      go_wp2
      exact ⟨⟨3, X * 256 + c, by omega, rfl, by rw [or_low X c hXb hc], by simp at hX ⊢; omega, Lib.hid (by rw [HX.out]; simp [ofTo])⟩, by decide⟩
    · have hXb : X < 16777216 := Nat.lt_of_lt_of_le hX (by decide)
      go_wp2
      exact ⟨⟨4, X * 256 + d, by omega, rfl, by rw [or_low X d hXb hd], by simp at hX ⊢; omega, Lib.hid (by rw [HX.out]; simp [ofTo])⟩, by decide⟩
    · go_wp2
      go_ret
      exact ⟨by have := HX.out; rw [this]; rfl, (Below.refl _ _).alloc (Nat.le_refl _) _⟩

/-- A part of a strict text. -/
def octet (p : ByteArray) : Option Nat :=
  match numB p 10 with
  | none => none
  | some n => if 255 < n then none else if 1 < p.size ∧ byteOf p 0 = 48 then none else some n
theorem octet_lt (p : ByteArray) (n : Nat) (h : octet p = some n) : n < 256 := by
  unfold octet at h
  split at h
  · cases h
  · split at h
    · cases h
    · split at h
      · cases h
      · have := Option.some.inj h; omega
/-- The number of the first k parts. -/
def octTo (l : List ByteArray) : Nat → Option Nat
  | 0 => some 0
  | k + 1 => match octTo l k with
    | none => none
    | some m => match octet (l.getD k ⟨#[]⟩) with
      | none => none
      | some n => some (m * 256 + n)
theorem octTo_none (l : List ByteArray) (k : Nat) (h : octTo l k = none) : ∀ m, octTo l (k + m) = none
  | 0 => h
  | m + 1 => by rw [← Nat.add_assoc, octTo, octTo_none l k h m]
theorem octTo_dead {l : List ByteArray} {k n : Nat} (hk : k ≤ n) (h : octTo l k = none) : octTo l n = none := by
  have := octTo_none l k h (n - k)
  rwa [show k + (n - k) = n by omega] at this
theorem octTo_step {l : List ByteArray} {k m n : Nat} (h : octTo l k = some m) (hn : octet (l.getD k ⟨#[]⟩) = some n) : octTo l (k + 1) = some (m * 256 + n) := by
  rw [octTo, h]
  simp only [hn]
theorem octTo_stop {l : List ByteArray} {k m : Nat} (h : octTo l k = some m) (hn : octet (l.getD k ⟨#[]⟩) = none) : octTo l (k + 1) = none := by
  rw [octTo, h]
  simp only [hn]
theorem octTo_lt (l : List ByteArray) : ∀ k m, octTo l k = some m → m < 256 ^ k
  | 0, m, h => by simp [octTo] at h; omega
  | k + 1, m, h => by
    rw [octTo] at h
    cases hk : octTo l k with
    | none => rw [hk] at h; cases h
    | some j =>
      have := octTo_lt l k j hk
      rw [hk] at h
      simp only at h
      split at h
      · cases h
      · rename_i n hn
        have h2 := octet_lt _ _ hn
        have := Option.some.inj h
        rw [Nat.pow_succ]
        omega
/-- A strict text's address. -/
def strictB (s : ByteArray) : Option Nat := if (pieces s 46).length = 4 then octTo (pieces s 46) 4 else none
theorem strictB_lt (s : ByteArray) (a : Nat) (h : strictB s = some a) : a < 4294967296 := by
  unfold strictB at h
  split at h
  · exact octTo_lt _ 4 a h
  · cases h
def strictRet (o : Option Nat) : Value := .tuple #[.int .u32 ((o.getD 0 : Nat) : Int), .bool o.isSome]
theorem strict_ret {o p : Option Nat} (h : o = p) : Ending.returned (strictRet o) = .returned (strictRet p) := by rw [h]

set_option maxRecDepth 100000 in
set_option maxHeartbeats 4000000 in
theorem strict_any (s : ByteArray) (w : World) (hs : s.size ≤ 1000000) :
    Calls Tryz.prog 59 #[.string s] w fun e w' => e = .returned (strictRet (strictB s)) ∧ Below w.heap.size w w' := by
  have hp := pieces_pos s 46
  have hpl := pieces_len s 46
  go_enter Tryz.func59, Tryz.ntmps59
  go_wp2_with fail
  refine (split_row s 46 _ hs).mono ?_
  rintro e w1 ⟨g, c, rfl, hg, hr, hb⟩
  have hc1 := hr.cap
  have hc2 := hr.capm
  unfold maxLen at hc2
  have hlt := hr.lt
  have HR := Lib.hid hr
  clear hr
  by_cases h4 : (pieces s 46).length = 4
  · have HS : Hid (strictB s = octTo (pieces s 46) 4) := Lib.hid (by unfold strictB; rw [if_pos h4])
    have HM := Lib.hid (fun k => Nat.le_trans (getD_small (pieces_small s 46) k) hs)
    generalize pieces s 46 = l at *
    rw [h4]
    rw [h4] at HR
    clear h4 hp hpl
    go_wp2_with fail
    go_loopw [17] (fun i wr => ∃ k a0 a1 a2 a3 : Nat, k ≤ 4 ∧ i = .int .i64 k ∧ wr = w1.alloc (.cells #[.int .u8 (a0 : Int), .int .u8 (a1 : Int), .int .u8 (a2 : Int), .int .u8 (a3 : Int)] 75) ∧ a0 < 256 ∧ a1 < 256 ∧ a2 < 256 ∧ a3 < 256 ∧ Hid (octTo l k = some (ofTo a0 a1 a2 a3 k))) (fun i _ => 4 - (intOf i).toNat)
    case atStart => exact ⟨0, 0, 0, 0, 0, by decide, rfl, rfl, by decide, by decide, by decide, by decide, Lib.hid rfl⟩
    case round =>
      obtain ⟨k, a0, a1, a2, a3, hk, rfl, rfl, hb0, hb1, hb2, hb3, HK⟩ := hrel
      have hk5 : k = 0 ∨ k = 1 ∨ k = 2 ∨ k = 3 ∨ k = 4 := by omega
      rcases hk5 with rfl | rfl | rfl | rfl | rfl
      · have hcell : ∀ o, (w1.alloc o).cell? ⟨g, 0, none⟩ = some (.string (l.getD 0 ⟨#[]⟩)) := fun o => by rw [World.cell?_alloc_lt _ _ _ hlt]; exact HR.out.cells 0 (by decide)
        have hsm := HM.out 0
        obtain ⟨p, hp⟩ : ∃ p, l.getD 0 ⟨#[]⟩ = p := ⟨_, rfl⟩
        rw [hp] at hcell hsm
        have HP := Lib.hid hp
        clear hp
        go_wp2_with fail
        refine (number_10 p _ hsm).mono ?_
        rintro e w2 ⟨rfl, rfl⟩
        cases hq : numB p 10 with
        | none =>
          have HD : Hid (strictB s = none) := Lib.hid (by rw [HS.out]; exact octTo_dead (k := 1) (by decide) (octTo_stop HK.out (by rw [HP.out]; unfold octet; rw [hq])))
          clear hq
          unfold numRet
          go_wp2_with fail
          go_ret2
          exact ⟨strict_ret HD.out.symm, hb.alloc hb.size _⟩
        | some n =>
          have HQ := Lib.hid hq
          have hn : n ≤ 1099511627776 := by
            unfold numB at hq
            split at hq
            · cases hq
            · exact numTo_le _ _ _ _ hq
          clear hq
          unfold numRet
          by_cases h255 : 255 < n
          · have HD : Hid (strictB s = none) := Lib.hid (by rw [HS.out]; exact octTo_dead (k := 1) (by decide) (octTo_stop HK.out (by rw [HP.out]; unfold octet; rw [HQ.out]; simp only [if_pos h255])))
            go_wp2_with fail
            go_ret2
            exact ⟨strict_ret HD.out.symm, hb.alloc hb.size _⟩
          · have hw8 : IntKind.u8.wrap (n : Int) = (n : Int) := by rw [IntKind.wrap_u8]; omega
            by_cases h1 : 1 < p.size
            · by_cases hz : byteOf p 0 = 48
              · have HD : Hid (strictB s = none) := Lib.hid (by rw [HS.out]; exact octTo_dead (k := 1) (by decide) (octTo_stop HK.out (by rw [HP.out]; unfold octet; rw [HQ.out]; simp only [if_neg h255, if_pos (show 1 < p.size ∧ byteOf p 0 = 48 from ⟨h1, hz⟩)])))
                rw [byteOf_eq p 0 (by omega)] at hz
                go_wp2_with fail
                go_ret2
                exact ⟨strict_ret HD.out.symm, hb.alloc hb.size _⟩
              · have HT : Hid (octTo l 1 = some (ofTo a0 a1 a2 a3 0 * 256 + n)) := Lib.hid (octTo_step HK.out (by rw [HP.out]; unfold octet; rw [HQ.out]; simp only [if_neg h255, if_neg (show ¬ (1 < p.size ∧ byteOf p 0 = 48) from fun h => hz h.2)]))
                rw [byteOf_eq p 0 (by omega)] at hz
                have hzb : (((p[0]).toNat : Int) == 48) = false := by simp; omega
                go_wp2_with fail
                go_roundw
                case rel => exact ⟨1, n, a1, a2, a3, by decide, rfl, rfl, by omega, by omega, by omega, by omega, Lib.hid (by rw [HT.out]; simp [ofTo])⟩
                case measure => simp [intOf]
            · have HT : Hid (octTo l 1 = some (ofTo a0 a1 a2 a3 0 * 256 + n)) := Lib.hid (octTo_step HK.out (by rw [HP.out]; unfold octet; rw [HQ.out]; simp only [if_neg h255, if_neg (show ¬ (1 < p.size ∧ byteOf p 0 = 48) from fun h => h1 h.1)]))
              go_wp2_with fail
              go_roundw
              case rel => exact ⟨1, n, a1, a2, a3, by decide, rfl, rfl, by omega, by omega, by omega, by omega, Lib.hid (by rw [HT.out]; simp [ofTo])⟩
              case measure => simp [intOf]
      · have hcell : ∀ o, (w1.alloc o).cell? ⟨g, 1, none⟩ = some (.string (l.getD 1 ⟨#[]⟩)) := fun o => by rw [World.cell?_alloc_lt _ _ _ hlt]; exact HR.out.cells 1 (by decide)
        have hsm := HM.out 1
        obtain ⟨p, hp⟩ : ∃ p, l.getD 1 ⟨#[]⟩ = p := ⟨_, rfl⟩
        rw [hp] at hcell hsm
        have HP := Lib.hid hp
        clear hp
        go_wp2_with fail
        refine (number_10 p _ hsm).mono ?_
        rintro e w2 ⟨rfl, rfl⟩
        cases hq : numB p 10 with
        | none =>
          have HD : Hid (strictB s = none) := Lib.hid (by rw [HS.out]; exact octTo_dead (k := 2) (by decide) (octTo_stop HK.out (by rw [HP.out]; unfold octet; rw [hq])))
          clear hq
          unfold numRet
          go_wp2_with fail
          go_ret2
          exact ⟨strict_ret HD.out.symm, hb.alloc hb.size _⟩
        | some n =>
          have HQ := Lib.hid hq
          have hn : n ≤ 1099511627776 := by
            unfold numB at hq
            split at hq
            · cases hq
            · exact numTo_le _ _ _ _ hq
          clear hq
          unfold numRet
          by_cases h255 : 255 < n
          · have HD : Hid (strictB s = none) := Lib.hid (by rw [HS.out]; exact octTo_dead (k := 2) (by decide) (octTo_stop HK.out (by rw [HP.out]; unfold octet; rw [HQ.out]; simp only [if_pos h255])))
            go_wp2_with fail
            go_ret2
            exact ⟨strict_ret HD.out.symm, hb.alloc hb.size _⟩
          · have hw8 : IntKind.u8.wrap (n : Int) = (n : Int) := by rw [IntKind.wrap_u8]; omega
            by_cases h1 : 1 < p.size
            · by_cases hz : byteOf p 0 = 48
              · have HD : Hid (strictB s = none) := Lib.hid (by rw [HS.out]; exact octTo_dead (k := 2) (by decide) (octTo_stop HK.out (by rw [HP.out]; unfold octet; rw [HQ.out]; simp only [if_neg h255, if_pos (show 1 < p.size ∧ byteOf p 0 = 48 from ⟨h1, hz⟩)])))
                rw [byteOf_eq p 0 (by omega)] at hz
                go_wp2_with fail
                go_ret2
                exact ⟨strict_ret HD.out.symm, hb.alloc hb.size _⟩
              · have HT : Hid (octTo l 2 = some (ofTo a0 a1 a2 a3 1 * 256 + n)) := Lib.hid (octTo_step HK.out (by rw [HP.out]; unfold octet; rw [HQ.out]; simp only [if_neg h255, if_neg (show ¬ (1 < p.size ∧ byteOf p 0 = 48) from fun h => hz h.2)]))
                rw [byteOf_eq p 0 (by omega)] at hz
                have hzb : (((p[0]).toNat : Int) == 48) = false := by simp; omega
                go_wp2_with fail
                go_roundw
                case rel => exact ⟨2, a0, n, a2, a3, by decide, rfl, rfl, by omega, by omega, by omega, by omega, Lib.hid (by rw [HT.out]; simp [ofTo])⟩
                case measure => simp [intOf]
            · have HT : Hid (octTo l 2 = some (ofTo a0 a1 a2 a3 1 * 256 + n)) := Lib.hid (octTo_step HK.out (by rw [HP.out]; unfold octet; rw [HQ.out]; simp only [if_neg h255, if_neg (show ¬ (1 < p.size ∧ byteOf p 0 = 48) from fun h => h1 h.1)]))
              go_wp2_with fail
              go_roundw
              case rel => exact ⟨2, a0, n, a2, a3, by decide, rfl, rfl, by omega, by omega, by omega, by omega, Lib.hid (by rw [HT.out]; simp [ofTo])⟩
              case measure => simp [intOf]
      · have hcell : ∀ o, (w1.alloc o).cell? ⟨g, 2, none⟩ = some (.string (l.getD 2 ⟨#[]⟩)) := fun o => by rw [World.cell?_alloc_lt _ _ _ hlt]; exact HR.out.cells 2 (by decide)
        have hsm := HM.out 2
        obtain ⟨p, hp⟩ : ∃ p, l.getD 2 ⟨#[]⟩ = p := ⟨_, rfl⟩
        rw [hp] at hcell hsm
        have HP := Lib.hid hp
        clear hp
        go_wp2_with fail
        refine (number_10 p _ hsm).mono ?_
        rintro e w2 ⟨rfl, rfl⟩
        cases hq : numB p 10 with
        | none =>
          have HD : Hid (strictB s = none) := Lib.hid (by rw [HS.out]; exact octTo_dead (k := 3) (by decide) (octTo_stop HK.out (by rw [HP.out]; unfold octet; rw [hq])))
          clear hq
          unfold numRet
          go_wp2_with fail
          go_ret2
          exact ⟨strict_ret HD.out.symm, hb.alloc hb.size _⟩
        | some n =>
          have HQ := Lib.hid hq
          have hn : n ≤ 1099511627776 := by
            unfold numB at hq
            split at hq
            · cases hq
            · exact numTo_le _ _ _ _ hq
          clear hq
          unfold numRet
          by_cases h255 : 255 < n
          · have HD : Hid (strictB s = none) := Lib.hid (by rw [HS.out]; exact octTo_dead (k := 3) (by decide) (octTo_stop HK.out (by rw [HP.out]; unfold octet; rw [HQ.out]; simp only [if_pos h255])))
            go_wp2_with fail
            go_ret2
            exact ⟨strict_ret HD.out.symm, hb.alloc hb.size _⟩
          · have hw8 : IntKind.u8.wrap (n : Int) = (n : Int) := by rw [IntKind.wrap_u8]; omega
            by_cases h1 : 1 < p.size
            · by_cases hz : byteOf p 0 = 48
              · have HD : Hid (strictB s = none) := Lib.hid (by rw [HS.out]; exact octTo_dead (k := 3) (by decide) (octTo_stop HK.out (by rw [HP.out]; unfold octet; rw [HQ.out]; simp only [if_neg h255, if_pos (show 1 < p.size ∧ byteOf p 0 = 48 from ⟨h1, hz⟩)])))
                rw [byteOf_eq p 0 (by omega)] at hz
                go_wp2_with fail
                go_ret2
                exact ⟨strict_ret HD.out.symm, hb.alloc hb.size _⟩
              · have HT : Hid (octTo l 3 = some (ofTo a0 a1 a2 a3 2 * 256 + n)) := Lib.hid (octTo_step HK.out (by rw [HP.out]; unfold octet; rw [HQ.out]; simp only [if_neg h255, if_neg (show ¬ (1 < p.size ∧ byteOf p 0 = 48) from fun h => hz h.2)]))
                rw [byteOf_eq p 0 (by omega)] at hz
                have hzb : (((p[0]).toNat : Int) == 48) = false := by simp; omega
                go_wp2_with fail
                go_roundw
                case rel => exact ⟨3, a0, a1, n, a3, by decide, rfl, rfl, by omega, by omega, by omega, by omega, Lib.hid (by rw [HT.out]; simp [ofTo])⟩
                case measure => simp [intOf]
            · have HT : Hid (octTo l 3 = some (ofTo a0 a1 a2 a3 2 * 256 + n)) := Lib.hid (octTo_step HK.out (by rw [HP.out]; unfold octet; rw [HQ.out]; simp only [if_neg h255, if_neg (show ¬ (1 < p.size ∧ byteOf p 0 = 48) from fun h => h1 h.1)]))
              go_wp2_with fail
              go_roundw
              case rel => exact ⟨3, a0, a1, n, a3, by decide, rfl, rfl, by omega, by omega, by omega, by omega, Lib.hid (by rw [HT.out]; simp [ofTo])⟩
              case measure => simp [intOf]
      · have hcell : ∀ o, (w1.alloc o).cell? ⟨g, 3, none⟩ = some (.string (l.getD 3 ⟨#[]⟩)) := fun o => by rw [World.cell?_alloc_lt _ _ _ hlt]; exact HR.out.cells 3 (by decide)
        have hsm := HM.out 3
        obtain ⟨p, hp⟩ : ∃ p, l.getD 3 ⟨#[]⟩ = p := ⟨_, rfl⟩
        rw [hp] at hcell hsm
        have HP := Lib.hid hp
        clear hp
        go_wp2_with fail
        refine (number_10 p _ hsm).mono ?_
        rintro e w2 ⟨rfl, rfl⟩
        cases hq : numB p 10 with
        | none =>
          have HD : Hid (strictB s = none) := Lib.hid (by rw [HS.out]; exact octTo_dead (k := 4) (by decide) (octTo_stop HK.out (by rw [HP.out]; unfold octet; rw [hq])))
          clear hq
          unfold numRet
          go_wp2_with fail
          go_ret2
          exact ⟨strict_ret HD.out.symm, hb.alloc hb.size _⟩
        | some n =>
          have HQ := Lib.hid hq
          have hn : n ≤ 1099511627776 := by
            unfold numB at hq
            split at hq
            · cases hq
            · exact numTo_le _ _ _ _ hq
          clear hq
          unfold numRet
          by_cases h255 : 255 < n
          · have HD : Hid (strictB s = none) := Lib.hid (by rw [HS.out]; exact octTo_dead (k := 4) (by decide) (octTo_stop HK.out (by rw [HP.out]; unfold octet; rw [HQ.out]; simp only [if_pos h255])))
            go_wp2_with fail
            go_ret2
            exact ⟨strict_ret HD.out.symm, hb.alloc hb.size _⟩
          · have hw8 : IntKind.u8.wrap (n : Int) = (n : Int) := by rw [IntKind.wrap_u8]; omega
            by_cases h1 : 1 < p.size
            · by_cases hz : byteOf p 0 = 48
              · have HD : Hid (strictB s = none) := Lib.hid (by rw [HS.out]; exact octTo_dead (k := 4) (by decide) (octTo_stop HK.out (by rw [HP.out]; unfold octet; rw [HQ.out]; simp only [if_neg h255, if_pos (show 1 < p.size ∧ byteOf p 0 = 48 from ⟨h1, hz⟩)])))
                rw [byteOf_eq p 0 (by omega)] at hz
                go_wp2_with fail
                go_ret2
                exact ⟨strict_ret HD.out.symm, hb.alloc hb.size _⟩
              · have HT : Hid (octTo l 4 = some (ofTo a0 a1 a2 a3 3 * 256 + n)) := Lib.hid (octTo_step HK.out (by rw [HP.out]; unfold octet; rw [HQ.out]; simp only [if_neg h255, if_neg (show ¬ (1 < p.size ∧ byteOf p 0 = 48) from fun h => hz h.2)]))
                rw [byteOf_eq p 0 (by omega)] at hz
                have hzb : (((p[0]).toNat : Int) == 48) = false := by simp; omega
                go_wp2_with fail
                go_roundw
                case rel => exact ⟨4, a0, a1, a2, n, by decide, rfl, rfl, by omega, by omega, by omega, by omega, Lib.hid (by rw [HT.out]; simp [ofTo])⟩
                case measure => simp [intOf]
            · have HT : Hid (octTo l 4 = some (ofTo a0 a1 a2 a3 3 * 256 + n)) := Lib.hid (octTo_step HK.out (by rw [HP.out]; unfold octet; rw [HQ.out]; simp only [if_neg h255, if_neg (show ¬ (1 < p.size ∧ byteOf p 0 = 48) from fun h => h1 h.1)]))
              go_wp2_with fail
              go_roundw
              case rel => exact ⟨4, a0, a1, a2, n, by decide, rfl, rfl, by omega, by omega, by omega, by omega, Lib.hid (by rw [HT.out]; simp [ofTo])⟩
              case measure => simp [intOf]
      · go_wp2_with fail
        refine (of_any a0 a1 a2 a3 _ hb0 hb1 hb2 hb3).mono ?_
        rintro e w2 ⟨rfl, hbo⟩
        go_wp2_with fail
        go_ret2
        exact ⟨strict_ret (o := some _) (by rw [HS.out, HK.out]; rfl), chain (hb.alloc hb.size _) hbo⟩
  · have HS : Hid (strictB s = none) := Lib.hid (by unfold strictB; rw [if_neg h4])
    generalize pieces s 46 = l at *
    have hlb : ((l.length : Int) != 4) = true := by simp; omega
    go_wp2_with fail
    go_ret2
    exact ⟨strict_ret HS.out.symm, hb⟩
end Go.Proofs.YtgbajagacmfcmaaGreatDoor
/- The contract of the reference's Split. -/
namespace Go.Proofs.YtgbajagacmfcmaaGreatDoor
open Go.RowKit
set_option linter.unusedVariables false
set_option maxRecDepth 20000

set_option maxHeartbeats 400000 in
theorem refSplit_any (s : ByteArray) (sep : Nat) (w : World) (hs : s.size ≤ 1000000) :
    Calls Tryz.prog 63 #[.string s, .int .u8 sep] w (RetStrs w (pieces s sep)) := by
  obtain ⟨i0, hi0, hz0, hz1, hz2⟩ := info_parts Tryz.infoString
  go_enter Tryz.func63, Tryz.ntmps63
  go_wp2
  go_loopw [5, 6, 7] (fun v f i wr => ∃ k : Nat, k ≤ s.size ∧ i = .int .i64 k ∧ f = .int .i64 (sp s sep k).2 ∧ wr.ownsRow w.heap.size 9 1 v (sp s sep k).1.length ((sp s sep k).1.map Value.string) ∧ Below w.heap.size w wr) (fun _ _ i _ => s.size - (intOf i).toNat)
  case atStart => exact ⟨0, Nat.zero_le _, rfl, rfl, World.ownsRow_nil _ _ _ _, Below.refl _ _⟩
  case round =>
    obtain ⟨k, hk, rfl, rfl, hown, hbel⟩ := hrel
    have hle := sp_le s sep k
    have hsz := hbel.size
    by_cases hlt : k < s.size
    · by_cases hit : (s[k]).toNat = sep
      · have HS := Lib.hid (sp_hit s sep k hlt hit)
        go_wp2_with (at_builtin; refine wpList_append_own _ rfl (.tmp 19) (.tmp 24) 49 rfl w.heap.size 9 i0 _ 1 16 Tryz.underlying49 hi0 hz0 hz1 hz2 rfl (by decide) _ _ _ rfl (hown.alloc _) ⟨wr.heap.size, 0, none⟩ 1 1 [.string (s.extract (sp s sep k).2 k)] rfl rfl ?c1 ?c2 ?c3 ?c4 ?c5 ?_)
        case c1 => exact cell_one_new _ _ _
        case c2 => intro u hu; simp at hu; subst hu; rfl
        case c3 => unfold maxLen; omega
        case c4 => omega
        case c5 => simp; omega
        intro v' w1 hown' hgrow _
        have R := own_snoc hown' hgrow hown hbel
        clear hown' hgrow hown hbel
        go_wp2
        go_roundw
        case rel => exact ⟨k + 1, by omega, by go_num, by rw [HS.out]; go_num, by rw [HS.out]; exact R.1, R.2⟩
        case measure => simp [intOf]; omega
      · have HS := Lib.hid (sp_miss s sep k hlt hit)
        go_wp2
        go_roundw
        case rel => exact ⟨k + 1, by omega, by go_num, by rw [HS.out], by rw [HS.out]; exact hown, hbel⟩
        case measure => simp [intOf]; omega
    · have hks : k = s.size := by omega
      subst hks
      go_wp2_with (at_builtin; refine wpList_append_own _ rfl (.tmp 28) (.tmp 32) 49 rfl w.heap.size 9 i0 _ 1 16 Tryz.underlying49 hi0 hz0 hz1 hz2 rfl (by decide) _ _ _ rfl (hown.alloc _) ⟨wr.heap.size, 0, none⟩ 1 1 [.string (s.extract (sp s sep s.size).2 s.size)] rfl rfl ?c1 ?c2 ?c3 ?c4 ?c5 ?_)
      case c1 => exact cell_one_new _ _ _
      case c2 => intro u hu; simp at hu; subst hu; rfl
      case c3 => unfold maxLen; omega
      case c4 => omega
      case c5 => simp; omega
      intro v' w1 hown' hgrow _
      have R := own_snoc hown' hgrow hown hbel
      clear hown' hgrow hown hbel
      go_wp2
      go_ret
      exact ⟨_, rfl, R.1, R.2⟩
/-- What the reference's Split hands back, as a row. -/
theorem refSplit_row (s : ByteArray) (sep : Nat) (w : World) (hs : s.size ≤ 1000000) :
    Calls Tryz.prog 63 #[.string s, .int .u8 sep] w fun e w' => ∃ g c, e = .returned (.slice (some ⟨g, 0, none⟩) (pieces s sep).length c) ∧ w.heap.size ≤ g ∧ StrRow w' g (pieces s sep).length c (pieces s sep) ∧ Below w.heap.size w w' := by
  refine (refSplit_any s sep w hs).mono ?_
  rintro e w' ⟨v, rfl, ho, hb⟩
  obtain ⟨g, c, rfl, h1, h2⟩ := own_row ho (pieces_pos s sep)
  exact ⟨g, c, rfl, h1, h2, hb⟩
end Go.Proofs.YtgbajagacmfcmaaGreatDoor
/- The contract of the reference's Strict. -/
namespace Go.Proofs.YtgbajagacmfcmaaGreatDoor
open Go.RowKit
set_option linter.unusedVariables false
set_option maxRecDepth 20000

theorem strict_some {s : ByteArray} {a : Nat} {v : Int} (h : strictB s = some a) (hv : v = a) : Ending.returned (.tuple #[.int .u32 v, .bool true]) = .returned (strictRet (strictB s)) := by
  rw [h, hv]; rfl

set_option maxRecDepth 100000 in
set_option maxHeartbeats 4000000 in
theorem refStrict_any (s : ByteArray) (w : World) (hs : s.size ≤ 1000000) :
    Calls Tryz.prog 43 #[.string s] w fun e w' => e = .returned (strictRet (strictB s)) ∧ Below w.heap.size w w' := by
  have hp := pieces_pos s 46
  have hpl := pieces_len s 46
  go_enter Tryz.func43, Tryz.ntmps43
  go_wp2_with fail
  refine (refSplit_row s 46 _ hs).mono ?_
  rintro e w1 ⟨g, c, rfl, hg, hr, hb⟩
  have hc1 := hr.cap
  have hc2 := hr.capm
  unfold maxLen at hc2
  have hlt := hr.lt
  have HR := Lib.hid hr
  clear hr
  by_cases h4 : (pieces s 46).length = 4
  · have HS : Hid (strictB s = octTo (pieces s 46) 4) := Lib.hid (by unfold strictB; rw [if_pos h4])
    have HM := Lib.hid (fun k => Nat.le_trans (getD_small (pieces_small s 46) k) hs)
    generalize pieces s 46 = l at *
    rw [h4]
    rw [h4] at HR
    clear h4 hp hpl
    go_wp2_with fail
    go_loop [5, 6] (fun o i => ∃ k m : Nat, k ≤ 4 ∧ i = .int .i64 k ∧ o = .int .u32 (m : Int) ∧ Hid (octTo l k = some m)) (fun _ i => 4 - (intOf i).toNat)
    case atStart => exact ⟨0, 0, by decide, rfl, rfl, Lib.hid rfl⟩
    case round =>
      obtain ⟨k, m, hk, rfl, rfl, HK⟩ := hrel
      by_cases hk4 : k < 4
      · have hm : m < 16777216 := Nat.lt_of_lt_of_le (octTo_lt l k m HK.out) (Nat.le_trans (Nat.pow_le_pow_right (by decide) (by omega : k ≤ 3)) (by decide))
        have hcell := HR.out.cells k hk4
        have hsm := HM.out k
        obtain ⟨p, hp⟩ : ∃ p, l.getD k ⟨#[]⟩ = p := ⟨_, rfl⟩
        rw [hp] at hcell hsm
        have HP := Lib.hid hp
        clear hp
        go_wp2_with fail
        refine (refNumber_10 p _ hsm).mono ?_
        rintro e w2 ⟨rfl, rfl⟩
        cases hq : numB p 10 with
        | none =>
          have HD : Hid (strictB s = none) := Lib.hid (by rw [HS.out]; exact octTo_dead (k := k + 1) hk4 (octTo_stop HK.out (by rw [HP.out]; unfold octet; rw [hq])))
          clear hq
          unfold numRet
          go_wp2_with fail
          go_ret2
          exact ⟨strict_ret HD.out.symm, hb⟩
        | some n =>
          have HQ := Lib.hid hq
          have hn : n ≤ 1099511627776 := by
            unfold numB at hq
            split at hq
            · cases hq
            · exact numTo_le _ _ _ _ hq
          clear hq
          unfold numRet
          by_cases h255 : 255 < n
          · have HD : Hid (strictB s = none) := Lib.hid (by rw [HS.out]; exact octTo_dead (k := k + 1) hk4 (octTo_stop HK.out (by rw [HP.out]; unfold octet; rw [HQ.out]; simp only [if_pos h255])))
            go_wp2_with fail
            go_ret2
            exact ⟨strict_ret HD.out.symm, hb⟩
          · have hw8 : IntKind.u32.wrap (n : Int) = (n : Int) := by rw [IntKind.wrap_u32]; omega
            have hw9 : IntKind.u32.wrap ((m : Int) * 256) = (m : Int) * 256 := by rw [IntKind.wrap_u32]; omega
            have hw10 : IntKind.u32.wrap ((m : Int) * 256 + (n : Int)) = (m : Int) * 256 + (n : Int) := by rw [IntKind.wrap_u32]; omega
            by_cases h1 : 1 < p.size
            · by_cases hz : byteOf p 0 = 48
              · have HD : Hid (strictB s = none) := Lib.hid (by rw [HS.out]; exact octTo_dead (k := k + 1) hk4 (octTo_stop HK.out (by rw [HP.out]; unfold octet; rw [HQ.out]; simp only [if_neg h255, if_pos (show 1 < p.size ∧ byteOf p 0 = 48 from ⟨h1, hz⟩)])))
                rw [byteOf_eq p 0 (by omega)] at hz
                go_wp2_with fail
                go_ret2
                exact ⟨strict_ret HD.out.symm, hb⟩
              · have HT : Hid (octTo l (k + 1) = some (m * 256 + n)) := Lib.hid (octTo_step HK.out (by rw [HP.out]; unfold octet; rw [HQ.out]; simp only [if_neg h255, if_neg (show ¬ (1 < p.size ∧ byteOf p 0 = 48) from fun h => hz h.2)]))
                rw [byteOf_eq p 0 (by omega)] at hz
                have hzb : (((p[0]).toNat : Int) == 48) = false := by simp; omega
                go_wp2_with fail
                go_round
                case rel => exact ⟨k + 1, m * 256 + n, by omega, by go_num, by go_num, HT⟩
                case measure => simp [intOf]; omega
            · have HT : Hid (octTo l (k + 1) = some (m * 256 + n)) := Lib.hid (octTo_step HK.out (by rw [HP.out]; unfold octet; rw [HQ.out]; simp only [if_neg h255, if_neg (show ¬ (1 < p.size ∧ byteOf p 0 = 48) from fun h => h1 h.1)]))
              go_wp2_with fail
              go_round
              case rel => exact ⟨k + 1, m * 256 + n, by omega, by go_num, by go_num, HT⟩
              case measure => simp [intOf]; omega
      · obtain rfl : k = 4 := by omega
        have HT : Hid (strictB s = some m) := Lib.hid (by rw [HS.out]; exact HK.out)
        go_wp2_with fail
        go_ret2
        exact ⟨strict_some HT.out rfl, hb⟩
  · have HS : Hid (strictB s = none) := Lib.hid (by unfold strictB; rw [if_neg h4])
    generalize pieces s 46 = l at *
    have hlb : ((l.length : Int) != 4) = true := by simp; omega
    go_wp2_with fail
    go_ret2
    exact ⟨strict_ret HS.out.symm, hb⟩
end Go.Proofs.YtgbajagacmfcmaaGreatDoor
/- Contracts of the reference's readers of layer 3: hex, gap, Groups. -/
namespace Go.Proofs.YtgbajagacmfcmaaGreatDoor
open Go.RowKit
set_option linter.unusedVariables false
set_option maxRecDepth 20000

theorem optI_some {o : Option Nat} {v : Nat} (h : o = some v) : optI o = (v : Int) := by rw [h]; rfl
theorem optI_none {o : Option Nat} (h : o = none) : optI o = -1 := by rw [h]; rfl
/-- A group's number. -/
def hexG (p : ByteArray) : Option Nat := if 4 < p.size then none else numB p 16
theorem numTo_pow (s : ByteArray) : ∀ k n, numTo s 16 k = some n → n < 16 ^ k
  | 0, n, h => by simp [numTo] at h; omega
  | k + 1, n, h => by
    rw [numTo] at h
    cases hk : numTo s 16 k with
    | none => rw [hk] at h; cases h
    | some m =>
      have := numTo_pow s k m hk
      rw [hk] at h
      simp only at h
      split at h
      · cases h
      · split at h
        · cases h
        · have := Option.some.inj h
          rw [Nat.pow_succ]
          omega
theorem hexG_lt (p : ByteArray) (n : Nat) (h : hexG p = some n) : n < 65536 := by
  unfold hexG at h
  split at h
  · cases h
  · unfold numB at h
    split at h
    · cases h
    · exact Nat.lt_of_lt_of_le (numTo_pow p _ n h) (Nat.le_trans (Nat.pow_le_pow_right (by decide) (by omega : p.size ≤ 4)) (by decide))

set_option maxHeartbeats 1000000 in
theorem refHex_any (p : ByteArray) (w : World) (hs : p.size ≤ 1000000) :
    Calls Tryz.prog 77 #[.string p] w fun e w' => e = .returned (.int .i64 (optI (hexG p))) ∧ w = w' := by
  have HG : Hid (hexG p = if 4 < p.size then none else numB p 16) := Lib.hid rfl
  go_enter Tryz.func77, Tryz.ntmps77
  go_wp2_with fail
  refine (refNumber_16 p _ hs).mono ?_
  rintro e w' ⟨rfl, rfl⟩
  cases hq : numB p 16 with
  | none =>
    have HD : Hid (hexG p = none) := Lib.hid (by rw [HG.out, hq]; split <;> rfl)
    clear hq
    unfold numRet
    go_wp2_with fail
    go_ret
    exact ⟨int_ret (by rw [HD.out]; rfl), rfl⟩
  | some n =>
    by_cases h4 : 4 < p.size
    · have HD : Hid (hexG p = none) := Lib.hid (by rw [HG.out, if_pos h4])
      clear hq
      unfold numRet
      go_wp2_with fail
      go_ret
      exact ⟨int_ret (by rw [HD.out]; rfl), rfl⟩
    · have HD : Hid (hexG p = some n) := Lib.hid (by rw [HG.out, if_neg h4, hq])
      clear hq
      unfold numRet
      go_wp2_with fail
      go_ret
      exact ⟨int_ret (by rw [HD.out]; rfl), rfl⟩

/-- Where two colons stand first, among the first k places. -/
def gapTo (s : ByteArray) : Nat → Option Nat
  | 0 => none
  | k + 1 => match gapTo s k with
    | some i => some i
    | none => if byteOf s k = 58 ∧ byteOf s (k + 1) = 58 then some k else none
def gapB (s : ByteArray) : Option Nat := gapTo s (s.size - 1)
theorem gapTo_some (s : ByteArray) (k i : Nat) (h : gapTo s k = some i) : ∀ m, gapTo s (k + m) = some i
  | 0 => h
  | m + 1 => by rw [← Nat.add_assoc, gapTo, gapTo_some s k i h m]
theorem gapTo_found {s : ByteArray} {k n i : Nat} (hk : k ≤ n) (h : gapTo s k = some i) : gapTo s n = some i := by
  have := gapTo_some s k i h (n - k)
  rwa [show k + (n - k) = n by omega] at this
theorem gapTo_lt (s : ByteArray) : ∀ k i, gapTo s k = some i → i < k
  | 0, i, h => by cases h
  | k + 1, i, h => by
    rw [gapTo] at h
    cases hk : gapTo s k with
    | some j =>
      rw [hk] at h
      have := Option.some.inj h
      have := gapTo_lt s k j hk
      omega
    | none =>
      rw [hk] at h
      simp only at h
      split at h
      · have := Option.some.inj h; omega
      · cases h

set_option maxHeartbeats 1000000 in
theorem refGap_any (s : ByteArray) (w : World) (hs : s.size ≤ 1000000) :
    Calls Tryz.prog 64 #[.string s] w fun e w' => e = .returned (.int .i64 (optI (gapB s))) ∧ w = w' := by
  go_enter Tryz.func64, Tryz.ntmps64
  go_wp2
  go_loop [3] (fun i => ∃ k : Nat, k ≤ s.size ∧ i = .int .i64 k ∧ (k = 0 ∨ k + 1 ≤ s.size) ∧ Hid (gapTo s k = none)) (fun i => s.size - (intOf i).toNat)
  case atStart => exact ⟨0, Nat.zero_le _, rfl, .inl rfl, Lib.hid rfl⟩
  case round =>
    obtain ⟨k, hk, rfl, hk0, HK⟩ := hrel
    have HK0 := Lib.hid hk0
    clear hk0
    by_cases hlt : k + 1 < s.size
    · have hli : (k : Int) + 1 < (s.size : Int) := by omega
      have b0 := byteOf_eq s k (by omega)
      have b1 := byteOf_eq s (k + 1) hlt
      by_cases h0 : (s[k]).toNat = 58
      · by_cases h1 : (s[k + 1]).toNat = 58
        · have HD : Hid (gapB s = some k) := Lib.hid (by
            unfold gapB
            apply gapTo_found (k := k + 1) (by omega)
            rw [gapTo, HK.out, b0, b1]
            simp only [h0, h1, and_self, if_true])
          clear b0 b1
          go_wp2
          go_ret
          exact ⟨int_ret (by rw [HD.out]; rfl), rfl⟩
        · have HD : Hid (gapTo s (k + 1) = none) := Lib.hid (by
            rw [gapTo, HK.out, b0, b1]
            simp only [if_neg (show ¬ ((s[k]).toNat = 58 ∧ (s[k + 1]).toNat = 58) from fun h => h1 h.2)])
          have h1b : (((s[k + 1]).toNat : Int) == 58) = false := by simp; omega
          clear b0 b1
          go_wp2
          go_round
          case rel => exact ⟨k + 1, by omega, by go_num, .inr (by omega), HD⟩
          case measure => simp [intOf]; omega
      · have HD : Hid (gapTo s (k + 1) = none) := Lib.hid (by
          rw [gapTo, HK.out, b0, b1]
          simp only [if_neg (show ¬ ((s[k]).toNat = 58 ∧ (s[k + 1]).toNat = 58) from fun h => h0 h.1)])
        have h1b : (((s[k]).toNat : Int) == 58) = false := by simp; omega
        clear b0 b1
        go_wp2
        go_round
        case rel => exact ⟨k + 1, by omega, by go_num, .inr (by omega), HD⟩
        case measure => simp [intOf]; omega
    · have hli : ¬ (k : Int) + 1 < (s.size : Int) := by omega
      have HD : Hid (gapB s = none) := Lib.hid (by
        unfold gapB
        rw [show s.size - 1 = k by have := HK0.out; omega]
        exact HK.out)
      go_wp2
      go_ret
      exact ⟨int_ret (by rw [HD.out]; rfl), rfl⟩

/-- A row of one's own, over a lower base. -/
theorem own_lower {w : World} {B B' : Nat} {t : TypeId} {z : Nat} {v : Value} {n : Nat} {xs : List Value} (h : w.ownsRow B t z v n xs) (hB : B' ≤ B) : w.ownsRow B' t z v n xs := by
  obtain ⟨h1, h2⟩ := h
  refine ⟨h1, ?_⟩
  rcases h2 with h2 | ⟨g, cap, cur, e, hb, rest⟩
  · exact .inl h2
  · exact .inr ⟨g, cap, cur, e, by omega, rest⟩
/-- A row of one's own, behind a call that turned nothing of what was there. -/
theorem own_below {w w' : World} {B : Nat} {t : TypeId} {z : Nat} {v : Value} {n : Nat} {xs : List Value} (h : w.ownsRow B t z v n xs) (hb : Below w.heap.size w w') : w'.ownsRow B t z v n xs := by
  obtain ⟨h1, h2⟩ := h
  refine ⟨h1, ?_⟩
  rcases h2 with h2 | ⟨g, cap, cur, e, hB, hg, rest⟩
  · exact .inl h2
  · refine .inr ⟨g, cap, cur, e, hB, ?_, rest⟩
    rw [hb.block g (by
      rcases Nat.lt_or_ge g w.heap.size with h | h
      · exact h
      · rw [Array.getElem?_eq_none h] at hg; cases hg)]
    exact hg
theorem cells_new (w : World) (l : List Value) (t : TypeId) : ∀ j u, l[j]? = some u → (w.alloc (.cells l.toArray t)).cell? ((⟨w.heap.size, 0, none⟩ : Addr).add j) = some u := by
  intro j u h
  rw [add_none]
  simp [World.cell?_alloc_new, h]
/-- Numbers, as cells. -/
def ints (l : List Nat) : List Value := l.map fun n => Value.int .i64 ((n : Nat) : Int)
theorem ints_length (l : List Nat) : (ints l).length = l.length := by simp [ints]
theorem ints_append (l m : List Nat) : ints (l ++ m) = ints l ++ ints m := by simp [ints]
theorem Tryz.infoInt : (Tryz.prog.info? 3).map (fun i => (i.zero, i.size, i.bytes)) = some (some (.int .i64 0), 1, 8) := by kernel_rfl
/-- More numbers behind a row of numbers of one's own. -/
theorem own_ints {w0 wr w1 : World} {v v' : Value} {l m : List Nat} {o : Obj} (hown' : w1.ownsRow w0.heap.size 3 1 v' (l.length + m.length) (ints l ++ ints m))
    (hg : (wr.alloc o).grownBy w1 v.ownBlock) (hown : wr.ownsRow w0.heap.size 3 1 v l.length (ints l)) (hb : Below w0.heap.size w0 wr) :
    w1.ownsRow w0.heap.size 3 1 v' (l ++ m).length (ints (l ++ m)) ∧ Below w0.heap.size w0 w1 := by
  refine ⟨by rw [ints_append]; simpa using hown', ?_⟩
  refine (hb.alloc hb.size o).grown hg (by have := hb.size; simp; omega) ?_
  intro k hk
  exact (hown.lt k hk).1

/-- The groups of the first k pieces. -/
def grTo (l : List ByteArray) (dot : Bool) : Nat → Option (List Nat)
  | 0 => some []
  | k + 1 => match grTo l dot k with
    | none => none
    | some out => match hexG (l.getD k ⟨#[]⟩) with
      | some v => some (out ++ [v])
      | none => match strictB (l.getD k ⟨#[]⟩) with
        | none => none
        | some v => if dot = true ∧ ¬ k + 1 < l.length then some (out ++ [v / 65536, v % 65536]) else none
def groupsB (s : ByteArray) (dot : Bool) : Option (List Nat) := if s.size = 0 then some [] else grTo (pieces s 58) dot (pieces s 58).length
theorem grTo_none (l : List ByteArray) (dot : Bool) (k : Nat) (h : grTo l dot k = none) : ∀ m, grTo l dot (k + m) = none
  | 0 => h
  | m + 1 => by rw [← Nat.add_assoc, grTo, grTo_none l dot k h m]
theorem grTo_dead {l : List ByteArray} {dot : Bool} {k n : Nat} (hk : k ≤ n) (h : grTo l dot k = none) : grTo l dot n = none := by
  have := grTo_none l dot k h (n - k)
  rwa [show k + (n - k) = n by omega] at this
theorem grTo_hex {l : List ByteArray} {dot : Bool} {k v : Nat} {out : List Nat} (h : grTo l dot k = some out) (hv : hexG (l.getD k ⟨#[]⟩) = some v) : grTo l dot (k + 1) = some (out ++ [v]) := by
  rw [grTo, h]; simp only [hv]
theorem grTo_strict {l : List ByteArray} {dot : Bool} {k v : Nat} {out : List Nat} (h : grTo l dot k = some out) (hx : hexG (l.getD k ⟨#[]⟩) = none) (hv : strictB (l.getD k ⟨#[]⟩) = some v) :
    grTo l dot (k + 1) = if dot = true ∧ ¬ k + 1 < l.length then some (out ++ [v / 65536, v % 65536]) else none := by
  rw [grTo, h]; simp only [hx, hv]
theorem grTo_stop {l : List ByteArray} {dot : Bool} {k : Nat} {out : List Nat} (h : grTo l dot k = some out) (hx : hexG (l.getD k ⟨#[]⟩) = none) (hv : strictB (l.getD k ⟨#[]⟩) = none) : grTo l dot (k + 1) = none := by
  rw [grTo, h]; simp only [hx, hv]
theorem grTo_lt (l : List ByteArray) (dot : Bool) : ∀ k out, grTo l dot k = some out → ∀ x ∈ out, x < 65536
  | 0, out, h => by
    have := Option.some.inj h
    subst this
    simp
  | k + 1, out, h => by
    cases hk : grTo l dot k with
    | none => rw [grTo, hk] at h; cases h
    | some o =>
      have ih := grTo_lt l dot k o hk
      cases hx : hexG (l.getD k ⟨#[]⟩) with
      | some v =>
        rw [grTo_hex hk hx] at h
        have := Option.some.inj h
        subst this
        intro x hm
        rcases List.mem_append.1 hm with hm | hm
        · exact ih x hm
        · rw [List.mem_singleton] at hm; rw [hm]; exact hexG_lt _ _ hx
      | none =>
        cases hv : strictB (l.getD k ⟨#[]⟩) with
        | none => rw [grTo_stop hk hx hv] at h; cases h
        | some v =>
          rw [grTo_strict hk hx hv] at h
          have hvl := strictB_lt _ _ hv
          split at h
          · have := Option.some.inj h
            subst this
            intro x hm
            rcases List.mem_append.1 hm with hm | hm
            · exact ih x hm
            · simp at hm
              omega
          · cases h
theorem groupsB_lt (s : ByteArray) (dot : Bool) (out : List Nat) (h : groupsB s dot = some out) : ∀ x ∈ out, x < 65536 := by
  unfold groupsB at h
  split at h
  · have := Option.some.inj h
    subst this
    simp
  · exact grTo_lt _ _ _ _ h
/-- What Groups hands back: a row of its own. -/
def GrRet (w : World) (o : Option (List Nat)) (e : Ending) (w' : World) : Prop :=
  ∃ v, e = .returned (.tuple #[v, .bool o.isSome]) ∧ w'.ownsRow w.heap.size 3 1 v (o.getD []).length (ints (o.getD [])) ∧ Below w.heap.size w w'
theorem gr_none {w w' : World} {o : Option (List Nat)} (h : o = none) (hb : Below w.heap.size w w') : GrRet w o (.returned (.tuple #[.slice none 0 0, .bool false])) w' := by
  subst h
  exact ⟨_, rfl, World.ownsRow_nil _ _ _ _, hb⟩
theorem gr_some {w w' : World} {o : Option (List Nat)} {l : List Nat} {v : Value} (h : o = some l) (ho : w'.ownsRow w.heap.size 3 1 v l.length (ints l)) (hb : Below w.heap.size w w') : GrRet w o (.returned (.tuple #[v, .bool true])) w' := by
  subst h
  exact ⟨_, rfl, ho, hb⟩

set_option maxRecDepth 100000 in
set_option maxHeartbeats 4000000 in
theorem refGroups_any (s : ByteArray) (dot : Bool) (w : World) (hs : s.size ≤ 100000) :
    Calls Tryz.prog 65 #[.string s, .bool dot] w (GrRet w (groupsB s dot)) := by
  by_cases h0 : s.size = 0
  · have HD : Hid (groupsB s dot = some []) := Lib.hid (by unfold groupsB; rw [if_pos h0])
    have he := isEmpty_true s h0
    go_enter Tryz.func65, Tryz.ntmps65
    go_wp2_with fail
    go_ret2
    exact gr_some HD.out (World.ownsRow_nil _ _ _ _) (Below.refl _ _)
  · have HG : Hid (groupsB s dot = grTo (pieces s 58) dot (pieces s 58).length) := Lib.hid (by unfold groupsB; rw [if_neg h0])
    have he := isEmpty_false s (by omega)
    have hpl := pieces_len s 58
    have HSM : Hid (∀ k, ((pieces s 58).getD k ⟨#[]⟩).size ≤ 1000000) := Lib.hid (fun k => Nat.le_trans (getD_small (pieces_small s 58) k) (by omega))
    obtain ⟨i0, hi0, hz0, hz1, hz2⟩ := info_parts Tryz.infoInt
    go_enter Tryz.func65, Tryz.ntmps65
    go_wp2_with fail
    refine (refSplit_row s 58 _ (by omega)).mono ?_
    rintro e w1 ⟨g, c, rfl, hg, hr, hb⟩
    have hc1 := hr.cap
    have hc2 := hr.capm
    unfold maxLen at hc2
    have HR := Lib.hid hr
    clear hr
    generalize hL : pieces s 58 = l at *
    clear hL
    obtain ⟨n, hn⟩ : ∃ n, l.length = n := ⟨_, rfl⟩
    rw [hn] at HG HR hpl hc1
    rw [hn]
    have HN := Lib.hid hn
    clear hn
    go_wp2_with fail
    go_loopw [6, 8] (fun v i wr => ∃ (k : Nat) (out : List Nat), k ≤ n ∧ i = .int .i64 k ∧ out.length ≤ 2 * k ∧ wr.ownsRow w1.heap.size 3 1 v out.length (ints out) ∧ Hid (grTo l dot k = some out) ∧ Below w1.heap.size w1 wr) (fun _ i _ => n - (intOf i).toNat)
    case atStart => exact ⟨0, [], Nat.zero_le _, rfl, by simp, World.ownsRow_nil _ _ _ _, Lib.hid rfl, Below.refl _ _⟩
    case round =>
      obtain ⟨k, out, hk, rfl, hol, hown, HK, hbel⟩ := hrel
      by_cases hlt : k < n
      · have hcell := (HR.out.below hbel).cells k hlt
        have hsm := HSM.out k
        obtain ⟨p, hp⟩ : ∃ p, l.getD k ⟨#[]⟩ = p := ⟨_, rfl⟩
        rw [hp] at hcell hsm
        have HP := Lib.hid hp
        clear hp
        cases hx : hexG p with
        | some x =>
          have hxl := hexG_lt _ _ hx
          have HX := Lib.hid (optI_some hx)
          have HT := Lib.hid (grTo_hex HK.out (by rw [HP.out]; exact hx))
          clear hx
          go_wp2_with fail
          refine (refHex_any p _ hsm).mono ?_
          rintro e w2 ⟨rfl, rfl⟩
          rw [HX.out]
          go_wp2_with (at_builtin; refine wpList_append_own _ rfl (.tmp 30) (.tmp 32) 103 rfl w1.heap.size 3 i0 _ 1 8 Tryz.underlying103 hi0 hz0 hz1 hz2 rfl (by decide) _ _ _ rfl (hown.alloc _) ⟨wr.heap.size, 0, none⟩ 1 1 [.int .i64 (x : Int)] rfl rfl ?c1 ?c2 ?c3 ?c4 ?c5 ?_)
          case c1 => exact cell_one_new _ _ _
          case c2 => intro u hu; simp at hu; subst hu; rfl
          case c3 => unfold maxLen; omega
          case c4 => have := hbel.size; omega
          case c5 => have := hbel.size; simp; omega
          intro v' w3 hown' hgrow _
          have R := own_ints (m := [x]) hown' hgrow hown hbel
          clear hown' hgrow hown hbel
          go_wp2_with fail
          go_roundw
          case rel => exact ⟨k + 1, out ++ [x], by omega, by go_num, by simp; omega, R.1, HT, R.2⟩
          case measure => simp [intOf]; omega
        | none =>
          have HX := Lib.hid (optI_none hx)
          have HXN := Lib.hid hx
          clear hx
          go_wp2_with fail
          refine (refHex_any p _ hsm).mono ?_
          rintro e w2 ⟨rfl, rfl⟩
          rw [HX.out]
          go_wp2_with fail
          refine (refStrict_any p _ hsm).mono ?_
          rintro e w2 ⟨rfl, hb2⟩
          cases hv : strictB p with
          | none =>
            have HD := Lib.hid (grTo_stop HK.out (by rw [HP.out]; exact HXN.out) (by rw [HP.out]; exact hv))
            clear hv
            unfold strictRet
            go_wp2_with fail
            go_ret2
            exact gr_none (by rw [HG.out]; exact grTo_dead (k := k + 1) hlt HD.out) (chain hb (chain hbel hb2))
          | some x =>
            have hxl : x ≤ 4294967295 := by have := strictB_lt _ _ hv; omega
            have HD := Lib.hid (grTo_strict HK.out (by rw [HP.out]; exact HXN.out) (by rw [HP.out]; exact hv))
            clear hv
            unfold strictRet
            cases dot with
            | false =>
              have HD2 : Hid (grTo l false (k + 1) = none) := Lib.hid (by rw [HD.out, if_neg (by simp)])
              go_wp2_with fail
              go_ret2
              exact gr_none (by rw [HG.out]; exact grTo_dead (k := k + 1) hlt HD2.out) (chain hb (chain hbel hb2))
            | true =>
              by_cases hlast : k + 1 < n
              · have HD2 : Hid (grTo l true (k + 1) = none) := Lib.hid (by rw [HD.out, if_neg (by rw [HN.out]; intro h; exact h.2 hlast)])
                have hli : (k : Int) + 1 < (n : Int) := by omega
                go_wp2_with fail
                go_ret2
                exact gr_none (by rw [HG.out]; exact grTo_dead (k := k + 1) hlt HD2.out) (chain hb (chain hbel hb2))
              · have HT : Hid (grTo l true (k + 1) = some (out ++ [x / 65536, x % 65536])) := Lib.hid (by rw [HD.out, if_pos ⟨rfl, by rw [HN.out]; exact hlast⟩])
                have hli : ¬ (k : Int) + 1 < (n : Int) := by omega
                obtain ⟨y, hy, ey⟩ : ∃ y : Nat, x / 65536 = y ∧ (x : Int) / 65536 = (y : Int) := ⟨_, rfl, by omega⟩
                obtain ⟨z, hz, ez⟩ : ∃ z : Nat, x % 65536 = z ∧ (x : Int) % 65536 = (z : Int) := ⟨_, rfl, by omega⟩
                rw [hy, hz] at HT
                have hown2 := own_below hown hb2
                have hbel2 := chain hbel hb2
                clear hy hz hown
                go_wp2_with (at_builtin; refine wpList_append_own _ rfl (.tmp 55) (.tmp 62) 103 rfl w1.heap.size 3 i0 _ 1 8 Tryz.underlying103 hi0 hz0 hz1 hz2 rfl (by decide) _ _ _ rfl (hown2.alloc _) ⟨w2.heap.size, 0, none⟩ 2 2 [.int .i64 (y : Int), .int .i64 (z : Int)] rfl rfl ?c1 ?c2 ?c3 ?c4 ?c5 ?_)
                case c1 => exact cells_new _ [_, _] _
                case c2 => intro u hu; simp at hu; rcases hu with rfl | rfl <;> rfl
                case c3 => unfold maxLen; omega
                case c4 => have := hbel2.size; omega
                case c5 => have := hbel2.size; simp; omega
                intro v' w3 hown' hgrow _
                have R := own_ints (m := [y, z]) hown' hgrow hown2 hbel2
                clear hown' hgrow hown2 hbel2
                go_wp2_with fail
                go_roundw
                case rel => exact ⟨k + 1, out ++ [y, z], by omega, by go_num, by simp; omega, R.1, HT, R.2⟩
                case measure => simp [intOf]; omega
      · obtain rfl : k = n := by omega
        go_wp2_with fail
        go_ret2
        exact gr_some (by rw [HG.out]; exact HK.out) (own_lower hown hb.size) (chain hb hbel)
end Go.Proofs.YtgbajagacmfcmaaGreatDoor
