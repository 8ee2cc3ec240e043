/- Texts that belong together, one behind the other: EqArr, OpenArr, OpenAddr, EqAddr, Util, Base, Lists, AddrKit, AddrMid, AddrBox, Bytes16, AddrEq, HeldR, OpenRows, StrRows, RefSplit, Pieces, Cases, RefLabel, RecKit, RecAt, RefAddr, RefAddrBits, RefAddrMay, RefRest, RefLabBytes, RefLabGood, RefRun, Foot. -/
import Derived.Test.YtedmkdjijhflnaaRows
import Derived.WalkKit
import Derived.ChangeKeysEq
import Derived.ProofKit
import Derived.OpenShut
import Derived.Laws.IdiomArrays
import Derived.ChangeSame
import Derived.Lib.Strings
import Derived.WalkSpells
import Derived.WalkLawsBesides
import Derived.Deep.QuietTactic
import Derived.BigQuiet
import Derived.Lib.Hide
import Derived.Deep.AppendLies
import Derived.Laws.IdiomStrings
import Derived.Deep.MidRow
import Derived.Deep.Cut
import Derived.Laws.StructEq
import Derived.Deep.RegionHeld3
import Derived.Deep.Slices
import Derived.Lib.ConvBytes
import Derived.RegionTactic
import Derived.BigRegion
import Derived.Lib.AppendStr
/- Two arrays of integers, held against each other: they are equal, if all their numbers are. -/
namespace Go.Proofs.Ytedmkdjijhflnaa
open Go.RowKit
set_option linter.unusedVariables false
set_option maxRecDepth 20000

theorem run_eqItems_ints (W : World) (d : Nat) {e : TypeId} {k : IntKind} (he : Try.prog.plainKey e = true) (hu : Try.prog.underlying e = some (.int k)) (zs ys : List Int) : ∀ (is : List Nat), (∀ i ∈ is, i < zs.length ∧ i < ys.length) →
    (Op.eqItems (d + 1) e 1 (zs.map (Value.int k)).toArray (ys.map (Value.int k)).toArray is).run Try.prog W = .ok (is.all fun i => zs.getD i 0 == ys.getD i 0) W
  | [], _ => by simp [Op.eqItems]
  | i :: is, h => by
    have hi := h i (by simp)
    have p1 : (part e (zs.map (Value.int k)).toArray (i * 1)).run Try.prog W = .ok (.int k (zs.getD i 0)) W := run_part_plain W he (by simp [hi.1])
    have p2 : (part e (ys.map (Value.int k)).toArray (i * 1)).run Try.prog W = .ok (.int k (ys.getD i 0)) W := run_part_plain W he (by simp [hi.2])
    have p3 := run_equalIn_int (P := Try.prog) W d e k k (zs.getD i 0) (ys.getD i 0) hu
    have ih := run_eqItems_ints W d he hu zs ys is (fun j hj => h j (by simp [hj]))
    simp only [Op.eqItems, Sem.run_bind, p1, p2, p3, Result.andThen_ok, List.all_cons]
    cases zs.getD i 0 == ys.getD i 0 with
    | false => simp
    | true => simpa using ih
theorem run_eq_ints (W : World) {t e : TypeId} {n : Nat} {k : IntKind} {i : TypeInfo} (ht : Try.prog.underlying t = some (.array n e)) (he : Try.prog.plainKey e = true) (hu : Try.prog.underlying e = some (.int k)) (hi : Try.prog.info? e = some i) (hc : Try.prog.cellsOf e = 1)
    (zs ys : List Int) (hz : zs.length = n) (hy : ys.length = n) :
    (Op.equalIn 10000 t (.agg (zs.map (Value.int k)).toArray) (.agg (ys.map (Value.int k)).toArray)).run Try.prog W = .ok (decide (zs = ys)) W := by
  rw [run_equalIn_array W 9999 _ _ ht hi, hc, run_eqItems_ints W 9998 he hu zs ys _ (fun j hj => by rw [List.mem_range] at hj; omega)]
  congr 1
  rw [Bool.eq_iff_iff]
  simp only [List.all_eq_true, List.mem_range, beq_iff_eq, decide_eq_true_eq]
  constructor
  · intro h
    apply List.ext_getElem (by omega)
    intro j h1 h2
    have := h j (by omega)
    rw [List.getD_eq_getElem?_getD, List.getD_eq_getElem?_getD, List.getElem?_eq_getElem h1, List.getElem?_eq_getElem h2] at this
    exact this
  · intro h j _
    rw [h]
end Go.Proofs.Ytedmkdjijhflnaa
/- An array of integers that came in, opened: the list of its numbers. -/
namespace Go.Proofs.Ytedmkdjijhflnaa
open Go.ChangeShapes Go.WideShapes Go.ChangeAt Go.RowKit
set_option linter.unusedVariables false
set_option maxRecDepth 20000

theorem laidOut : laidOutB Try.prog = true := by kernel_rfl
theorem open_int_array {H : Type} {enc : TypeId × Value → H} {W : World} {base : Nat} {spare : Nat → Bool} {t e : TypeId} {n : Nat} {k : IntKind} {v : Value} {d : DataW H} {ps : List MemPlace}
    (ht : Try.prog.underlying t = some (.array n e)) (he : Try.prog.underlying e = some (.int k)) (hce : Try.prog.cellsOf e = 1) (hct : Try.prog.cellsOf t = n)
    (hok : Value.okWide Try.prog W .any base t v) (h : DataW.Trod enc Try.prog W 0 spare true t v d ps) :
    ∃ zs : List Int, v = .agg (zs.map (Value.int k)).toArray ∧ zs.length = n ∧ ∀ z ∈ zs, (Lit.int k z).wf = true := by
  obtain ⟨cs, rfl, hsz, _⟩ : ∃ cs, v = .agg cs ∧ cs.size = Try.prog.cellsOf t ∧ Row.okWide Try.prog W .any base t cs := by
    simpa [Value.okWide, ht] using hok
  rw [hct] at hsz
  obtain ⟨fuel, hf⟩ := h
  obtain ⟨xs, m, _, _, _, hl, hx⟩ := DataW.trod_array ht hf
  rw [hce] at hx
  have key : ∀ i (hi : i < cs.toList.length), ∃ z, cs.toList[i] = .int k z ∧ (Lit.int k z).wf = true := by
    intro i hi
    have hin : i < n := by simpa [hsz] using hi
    have h1 := hx i hin
    rw [List.getElem?_eq_getElem (by omega)] at h1
    obtain ⟨z, h2, _, h3⟩ := DataW.trod_int he h1
    refine ⟨z, ?_, h3⟩
    have h4 : (Value.cells (.agg cs)).toList = cs.toList := rfl
    rw [h4, Nat.mul_one] at h2
    have h5 : ((cs.toList.drop i).take 1)[0]? = some (.int k z) := by rw [h2]; rfl
    rw [List.getElem?_take, if_pos (by decide), List.getElem?_drop, Nat.add_zero, List.getElem?_eq_getElem hi] at h5
    exact Option.some.inj h5
  refine ⟨cs.toList.map intOf, ?_, by simpa using hsz, ?_⟩
  · congr 1
    apply Array.ext'
    simp only [List.map_map]
    apply List.ext_getElem
    · simp
    · intro i h1 h2
      obtain ⟨z, hz, _⟩ := key i h1
      rw [List.getElem_map, hz]
      rfl
  · intro z hz
    obtain ⟨u, hu, rfl⟩ := List.mem_map.1 hz
    obtain ⟨i, hi, rfl⟩ := List.getElem_of_mem hu
    obtain ⟨z, h1, h2⟩ := key i hi
    rw [h1]
    exact h2
theorem list4 {α : Type} (l : List α) (h : l.length = 4) : ∃ a b c d, l = [a, b, c, d] := by
  match l, h with
  | [a, b, c, d], _ => exact ⟨a, b, c, d, rfl⟩
end Go.Proofs.Ytedmkdjijhflnaa
/- An address (api.Addr) that came in, opened: its family, and the list of its bytes. -/
namespace Go.Proofs.Ytedmkdjijhflnaa
open Go.ChangeShapes Go.WideShapes Go.ChangeAt Go.RowKit
set_option linter.unusedVariables false
set_option maxRecDepth 20000

/-- An address, as a value. -/
def addrV (f : Int) (bs : List Nat) : Value := .agg (Value.int .i64 f :: bs.map fun n => Value.int .u8 ((n : Nat) : Int)).toArray
theorem ints_of_trod {H : Type} {enc : TypeId × Value → H} {W : World} {spare : Nat → Bool} {t e : TypeId} {n fuel : Nat} {k : IntKind} {l : List Value} {x : DataW H × List MemPlace}
    (ht : Try.prog.underlying t = some (.array n e)) (he : Try.prog.underlying e = some (.int k)) (hce : Try.prog.cellsOf e = 1) (hct : Try.prog.cellsOf t = n)
    (h : DataW.trod enc Try.prog W 0 spare true fuel t l = some x) : ∃ zs : List Int, l = zs.map (Value.int k) ∧ zs.length = n ∧ ∀ z ∈ zs, (Lit.int k z).wf = true := by
  obtain ⟨xs, m, _, _, hl0, hl, hx⟩ := DataW.trod_array ht h
  rw [hce] at hx
  rw [hct] at hl0
  have key : ∀ i (hi : i < l.length), ∃ z, l[i] = .int k z ∧ (Lit.int k z).wf = true := by
    intro i hi
    have h1 := hx i (by omega)
    rw [List.getElem?_eq_getElem (by omega)] at h1
    obtain ⟨z, h2, _, h3⟩ := DataW.trod_int he h1
    refine ⟨z, ?_, h3⟩
    rw [Nat.mul_one] at h2
    have h5 : ((l.drop i).take 1)[0]? = some (.int k z) := by rw [h2]; rfl
    rw [List.getElem?_take, if_pos (by decide), List.getElem?_drop, Nat.add_zero, List.getElem?_eq_getElem hi] at h5
    exact Option.some.inj h5
  refine ⟨l.map intOf, ?_, by simpa using hl0, ?_⟩
  · rw [List.map_map]
    apply List.ext_getElem
    · simp
    · intro i h1 h2
      obtain ⟨z, hz, _⟩ := key i h1
      rw [List.getElem_map, hz]
      rfl
  · intro z hz
    obtain ⟨u, hu, rfl⟩ := List.mem_map.1 hz
    obtain ⟨i, hi, rfl⟩ := List.getElem_of_mem hu
    obtain ⟨z, h1, h2⟩ := key i hi
    rw [h1]
    exact h2
theorem open_addr {H : Type} {enc : TypeId × Value → H} {W : World} {base : Nat} {spare : Nat → Bool} {v : Value} {d : DataW H} {ps : List MemPlace}
    (hok : Value.okWide Try.prog W .any base 42 v) (h : DataW.Trod enc Try.prog W 0 spare true 42 v d ps) :
    ∃ (f : Int) (bs : List Nat), v = addrV f bs ∧ (Lit.int .i64 f).wf = true ∧ bs.length = 16 ∧ ∀ x ∈ bs, x < 256 := by
  have hs := Try.underlying42
  obtain ⟨cs, rfl, hsz, _⟩ : ∃ cs, v = .agg cs ∧ cs.size = Try.prog.cellsOf 42 ∧ Row.okWide Try.prog W .any base 42 cs := by
    simpa [Value.okWide, hs] using hok
  rw [show Try.prog.cellsOf 42 = 17 by kernel_rfl] at hsz
  obtain ⟨fuel, hf⟩ := h
  obtain ⟨y0, y1, n, _, _, h0, h1⟩ := trod_struct2 hs hf
  have e0 : (Value.cells (.agg cs)).toList = cs.toList := rfl
  rw [e0] at h0 h1
  obtain ⟨f, h2, _, h3⟩ := DataW.trod_int Try.underlying3 h0
  obtain ⟨zs, h4, h5, h6⟩ := ints_of_trod Try.underlying40 Try.underlying5 (by kernel_rfl) (by kernel_rfl) h1
  have hc1 : Try.prog.cellsOf 3 = 1 := by kernel_rfl
  have hc16 : Try.prog.cellsOf 40 = 16 := by kernel_rfl
  refine ⟨f, zs.map Int.toNat, ?_, h3, by simpa using h5, ?_⟩
  · unfold addrV
    congr 1
    apply Array.ext'
    have e1 : cs.toList = (cs.toList.drop 0).take 1 ++ (cs.toList.drop 1).take 16 := by
      have : (cs.toList.drop 1).take 16 = cs.toList.drop 1 := List.take_of_length_le (by simp; omega)
      rw [this, List.drop_zero, List.take_append_drop]
    rw [e1]
    have e2 : (cs.toList.drop 0).take 1 = [Value.int .i64 f] := by rw [← h2, hc1]
    have e3 : (cs.toList.drop 1).take 16 = zs.map (Value.int .u8) := by rw [← h4, hc16]
    rw [e2, e3, List.map_map]
    show Value.int .i64 f :: zs.map (Value.int .u8) = Value.int .i64 f :: _
    congr 1
    apply List.map_congr_left
    intro z hz
    have := bounds_u8 (h6 z hz)
    show Value.int .u8 z = Value.int .u8 ((z.toNat : Nat) : Int)
    congr 1
    omega
  · intro x hx
    obtain ⟨z, hz, rfl⟩ := List.mem_map.1 hx
    have := bounds_u8 (h6 z hz)
    omega
end Go.Proofs.Ytedmkdjijhflnaa
/- Two addresses, held against each other: they are equal, if their families are and all their bytes. -/
namespace Go.Proofs.Ytedmkdjijhflnaa
open Go.RowKit
set_option linter.unusedVariables false
set_option maxRecDepth 20000

theorem run_eq_ints_at (d : Nat) (W : World) {t e : TypeId} {n : Nat} {k : IntKind} {i : TypeInfo} (ht : Try.prog.underlying t = some (.array n e)) (he : Try.prog.plainKey e = true) (hu : Try.prog.underlying e = some (.int k)) (hi : Try.prog.info? e = some i) (hc : Try.prog.cellsOf e = 1)
    (zs ys : List Int) (hz : zs.length = n) (hy : ys.length = n) :
    (Op.equalIn (d + 2) t (.agg (zs.map (Value.int k)).toArray) (.agg (ys.map (Value.int k)).toArray)).run Try.prog W = .ok (decide (zs = ys)) W := by
  rw [run_equalIn_array W (d + 1) _ _ ht hi, hc, run_eqItems_ints W d he hu zs ys _ (fun j hj => by rw [List.mem_range] at hj; omega)]
  congr 1
  rw [Bool.eq_iff_iff]
  simp only [List.all_eq_true, List.mem_range, beq_iff_eq, decide_eq_true_eq]
  constructor
  · intro h
    apply List.ext_getElem (by omega)
    intro j h1 h2
    have := h j (by omega)
    rw [List.getD_eq_getElem?_getD, List.getD_eq_getElem?_getD, List.getElem?_eq_getElem h1, List.getElem?_eq_getElem h2] at this
    exact this
  · intro h j _
    rw [h]
theorem bytes_of (xs : List Nat) : (xs.map fun n => Value.int .u8 ((n : Nat) : Int)) = (xs.map fun n : Nat => (n : Int)).map (Value.int .u8) := by simp
theorem casts_inj {xs ys : List Nat} : (xs.map fun n : Nat => (n : Int)) = (ys.map fun n : Nat => (n : Int)) ↔ xs = ys := by
  constructor
  · intro h
    exact List.map_inj_right (fun _ _ e => by exact_mod_cast e) |>.1 h
  · rintro rfl; rfl
theorem part_bytes (W : World) (f : Int) (xs : List Nat) (hx : xs.length = 16) : (part 40 (Value.int .i64 f :: xs.map fun n => Value.int .u8 ((n : Nat) : Int)).toArray 1).run Try.prog W = .ok (.agg (xs.map fun n => Value.int .u8 ((n : Nat) : Int)).toArray) W := by
  obtain ⟨i, hi, hs⟩ : ∃ i, Try.prog.info? 40 = some i ∧ i.size = 16 := ⟨_, rfl, by kernel_rfl⟩
  have h2 : (isAgg 40).run Try.prog W = .ok true W := by
    unfold isAgg
    rw [Sem.run_bind, run_underlying Try.underlying40 W]
    simp
  have h3 : (sizeOf 40).run Try.prog W = .ok 16 W := by simp [sizeOf, typeInfo, hi, hs]
  simp only [part, Sem.run_bind, h2, Result.andThen_ok, if_true, h3, Sem.run_pure]
  congr 2
  apply Array.ext'
  simp
  exact List.take_of_length_le (by rw [List.length_map, hx]; exact Nat.le_refl _)
theorem plainK_int : Try.prog.plainKey 3 = true := by kernel_rfl
theorem plainK_u8 : Try.prog.plainKey 5 = true := by kernel_rfl
theorem cells_u8 : Try.prog.cellsOf 5 = 1 := by kernel_rfl
theorem addr_fields : Try.prog.fieldsOf 42 = #[{ name := "Fam", type := 3, offset := 0, embedded := false, tag := "", pkgPath := "", byteOffset := 0 }, { name := "B", type := 40, offset := 1, embedded := false, tag := "", pkgPath := "", byteOffset := 8 }] := by simp only [Program.fieldsOf, Try.underlying42]
theorem nm1 : ("Fam" = "_") = False := by simp
theorem nm2 : ("B" = "_") = False := by simp
theorem st (d : Nat) (xs ys : Array Value) (W : World) : (Op.equalIn (d + 3) 42 (.agg xs) (.agg ys)).run Try.prog W = (Op.eqFields (d + 2) xs ys (Try.prog.fieldsOf 42).toList).run Try.prog W :=
  run_equalIn_struct W (d + 2) _ _ _ (by rw [addr_fields]; exact Try.underlying42) Try.stoodInHeld42
theorem part_fam (W : World) (f : Int) (xs : List Nat) : (part 3 (Value.int .i64 f :: xs.map fun n => Value.int .u8 ((n : Nat) : Int)).toArray 0).run Try.prog W = .ok (.int .i64 f) W := run_part_plain W plainK_int (by simp)
theorem eq_fam (d : Nat) (f g : Int) (W : World) : (Op.equalIn (d + 2) 3 (.int .i64 f) (.int .i64 g)).run Try.prog W = .ok (f == g) W := run_equalIn_int (P := Try.prog) W (d + 1) 3 .i64 .i64 f g Try.underlying3
theorem eq_arr16 (d : Nat) (xs ys : List Nat) (W : World) (hx : xs.length = 16) (hy : ys.length = 16) : (Op.equalIn (d + 2) 40 (.agg (xs.map fun n => Value.int .u8 ((n : Nat) : Int)).toArray) (.agg (ys.map fun n => Value.int .u8 ((n : Nat) : Int)).toArray)).run Try.prog W = .ok (decide (xs = ys)) W := by
  obtain ⟨i, hi⟩ : ∃ i, Try.prog.info? 5 = some i := ⟨_, rfl⟩
  have p6 := run_eq_ints_at d W (k := .u8) Try.underlying40 plainK_u8 Try.underlying5 hi cells_u8 (xs.map fun n : Nat => (n : Int)) (ys.map fun n : Nat => (n : Int)) (by simpa using hx) (by simpa using hy)
  rw [← bytes_of, ← bytes_of, show decide ((xs.map fun n : Nat => (n : Int)) = (ys.map fun n : Nat => (n : Int))) = decide (xs = ys) from decide_eq_decide.2 casts_inj] at p6
  exact p6
theorem two_fields (P : Program) (W : World) (D : Nat) (X Y : Array Value) (t1 t2 : TypeId) (a1 b1 a2 b2 : Value) (r1 r2 : Bool)
    (h1 : (part t1 X 0).run P W = .ok a1 W) (h2 : (part t1 Y 0).run P W = .ok b1 W) (h3 : (Op.equalIn D t1 a1 b1).run P W = .ok r1 W)
    (h4 : (part t2 X 1).run P W = .ok a2 W) (h5 : (part t2 Y 1).run P W = .ok b2 W) (h6 : (Op.equalIn D t2 a2 b2).run P W = .ok r2 W) :
    (Op.eqFields D X Y [{ name := "Fam", type := t1, offset := 0, embedded := false, tag := "", pkgPath := "", byteOffset := 0 }, { name := "B", type := t2, offset := 1, embedded := false, tag := "", pkgPath := "", byteOffset := 8 }]).run P W = .ok (r1 && r2) W := by
  simp only [Op.eqFields, ne_eq, nm1, nm2, not_false_eq_true, if_true, Sem.run_bind, h1, h2, h3, Result.andThen_ok, Sem.run_ite, h4, h5, h6, Sem.run_pure]
  cases r1 <;> cases r2 <;> rfl
theorem eq_addr_at (d : Nat) (f g : Int) (xs ys : List Nat) (W : World) (hx : xs.length = 16) (hy : ys.length = 16) : (Op.equalIn (d + 3) 42 (addrV f xs) (addrV g ys)).run Try.prog W = .ok (decide (f = g ∧ xs = ys)) W := by
  rw [addrV, addrV, st, addr_fields]
  refine (two_fields Try.prog W (d + 2) _ _ 3 40 _ _ _ _ _ _ (part_fam W f xs) (part_fam W g ys) (eq_fam d f g W) (part_bytes W f xs hx) (part_bytes W g ys hy) (eq_arr16 d xs ys W hx hy)).trans ?_
  congr 1
  by_cases h1 : f = g <;> by_cases h2 : xs = ys <;> simp [h1, h2]
theorem eq_addr (f g : Int) (xs ys : List Nat) (W : World) (hx : xs.length = 16) (hy : ys.length = 16) : (Op.equalIn 10000 42 (addrV f xs) (addrV g ys)).run Try.prog W = .ok (decide (f = g ∧ xs = ys)) W :=
  eq_addr_at 9997 f g xs ys W hx hy
end Go.Proofs.Ytedmkdjijhflnaa
/- Plain facts on texts as rows of bytes; nothing here speaks of the program. -/
namespace Go.Proofs.Ytedmkdjijhflnaa
open Go.RowKit
set_option linter.unusedVariables false
set_option maxRecDepth 20000

theorem bytes_ext {a b : ByteArray} (h : a.data.toList = b.data.toList) : a = b := by
  cases a; cases b
  simp only at h
  congr
  exact Array.ext' h
theorem isEmpty_true (s : ByteArray) (h : s.size = 0) : s.toList.isEmpty = true := by
  rw [ByteArray.toList_eq]
  have h2 : s.data.toList.length = s.size := by simp
  rw [List.eq_nil_of_length_eq_zero (h2.trans h)]
  rfl
theorem isEmpty_false (s : ByteArray) (h : 0 < s.size) : s.toList.isEmpty = false := by
  rw [ByteArray.toList_eq]
  have h2 : s.data.toList.length = s.size := by simp
  cases h3 : s.data.toList with
  | nil => rw [h3] at h2; simp at h2; omega
  | cons x l => rfl
theorem get!_eq (s : ByteArray) (j : Nat) (h : j < s.size) : s.get! j = s[j] := by
  cases s with | mk d => exact getElem!_pos d j h
theorem getElem_data (s : ByteArray) (j : Nat) (h : j < s.size) : s[j] = s.data.toList[j]'(by simpa using h) := rfl
theorem data_append (a b : ByteArray) : (a ++ b).data.toList = a.data.toList ++ b.data.toList := by simp
theorem data_extract (s : ByteArray) (i j : Nat) : (s.extract i j).data.toList = (s.data.toList.drop i).take (j - i) := Lib.toList_data (s.extract i j) ▸ Lib.extract_toList s i j
theorem append_left (a b : ByteArray) (j : Nat) (h : j < a.size) : ((a ++ b).get! j) = a[j] := by
  have h2 : j < (a ++ b).size := by simp; omega
  rw [get!_eq _ _ h2, getElem_data, getElem_data]
  have e := data_append a b
  have : ((a ++ b).data.toList)[j]? = (a.data.toList ++ b.data.toList)[j]? := by rw [e]
  rw [List.getElem?_eq_getElem (by simpa using h2), List.getElem?_append_left (by simpa using h), List.getElem?_eq_getElem (by simpa using h)] at this
  exact Option.some.inj this
theorem extract_right (a b : ByteArray) : (a ++ b).extract a.size (a ++ b).size = b := by
  apply bytes_ext
  rw [data_extract, data_append, List.drop_append_of_le_length (by simp)]
  have : a.data.toList.drop a.size = [] := List.drop_eq_nil_of_le (by simp)
  rw [this, List.nil_append]
  apply List.take_of_length_le
  simp
end Go.Proofs.Ytedmkdjijhflnaa
/- Contracts of the small functions of text and of its reference that every statement of the layer runs: Few, Split, Same, lives. -/
namespace Go.Proofs.Ytedmkdjijhflnaa
open Go.RowKit
set_option linter.unusedVariables false
set_option maxRecDepth 20000

theorem bool_ret {a b : Bool} (h : a = b) : Ending.returned (.bool a) = .returned (.bool b) := by rw [h]
theorem chain {a b c : World} (h : Below a.heap.size a b) (k : Below b.heap.size b c) : Below a.heap.size a c := h.trans (k.mono h.size)

theorem quiet_left {P : Program} {f : FuncId} {args : Array Value} {w : World} {n : Nat} {v : Value}
    (h : Calls P f args (w.drewN n) fun e w' => e = .returned v ∧ w.drewN n = w') : Calls P f args (w.drewN n) fun e w'' => e = .returned v ∧ ∃ m, w'' = w.drewN m :=
  h.mono fun _ _ ⟨he, hm⟩ => ⟨he, n, hm.symm⟩
theorem quiet_add_left {P : Program} {f : FuncId} {args : Array Value} {w : World} {a n : Nat} {v : Value}
    (h : Calls P f args (w.drewN (a + n)) fun e w' => e = .returned v ∧ w.drewN (a + n) = w') :
    Calls P f args (w.drewN (a + n)) fun e w'' => e = .returned v ∧ ∃ m, w'' = w.drewN (a + m) :=
  h.mono fun _ _ ⟨he, hm⟩ => ⟨he, n, hm.symm⟩

theorem add_none (b j : Nat) : (⟨b, 0, none⟩ : Addr).add j = ⟨b, j, none⟩ := by
  unfold Addr.add
  split <;> simp_all

/-- Bytes, as cells. -/
def bys (l : List UInt8) : List Value := l.map fun c => Value.int .u8 ((c.toNat : Nat) : Int)
theorem bys_length (l : List UInt8) : (bys l).length = l.length := by simp [bys]
theorem bys_snoc (l : List UInt8) (c : UInt8) : bys (l ++ [c]) = bys l ++ [.int .u8 ((c.toNat : Nat) : Int)] := by simp [bys]
theorem Try.infoByte : (Try.prog.info? 5).map (fun i => (i.zero, i.size, i.bytes)) = some (some (.int .u8 0), 1, 1) := by kernel_rfl
/-- 'string(b)' of a row of bytes of one's own. -/
theorem own_bytes_back {w : World} {B : Nat} {v : Value} {l : List UInt8} (h : w.ownsRow B 5 1 v l.length (bys l)) :
    (convert 115 9 v).run Try.prog w = .ok (.string ⟨l.toArray⟩) w := by
  by_cases h0 : 0 < l.length
  · obtain ⟨g, c, rfl, _, _⟩ := h.form h0
    refine run_convert_bytes_back (P := Try.prog) w 115 9 5 ⟨g, 0, none⟩ c l Try.underlying115 Try.underlying5 Try.underlying9 (fun j hj => ?_)
    rw [add_none, h.cellAt j (by omega)]
    simp [bys, hj]
  · have hl : l = [] := List.eq_nil_of_length_eq_zero (by omega)
    subst hl
    rcases h.2 with ⟨rfl, _⟩ | ⟨g, cap, cur, rfl, _⟩
    · rw [run_convert_bytes_string w 115 9 5 none 0 0 Try.underlying115 Try.underlying5 Try.underlying9]
      simp [Conv.bytesToString]
      rfl
    · exact run_convert_bytes_back (P := Try.prog) w 115 9 5 ⟨g, 0, none⟩ cap [] Try.underlying115 Try.underlying5 Try.underlying9 (fun j hj => by simp at hj)
/-- One more byte behind a row of bytes of one's own. -/
theorem own_byte {w0 wr w1 : World} {v v' : Value} {l : List UInt8} {x : UInt8} {o : Obj} (hown' : w1.ownsRow w0.heap.size 5 1 v' (l.length + 1) (bys l ++ [.int .u8 ((x.toNat : Nat) : Int)]))
    (hg : (wr.alloc o).grownBy w1 v.ownBlock) (hown : wr.ownsRow w0.heap.size 5 1 v l.length (bys l)) (hb : Below w0.heap.size w0 wr) :
    w1.ownsRow w0.heap.size 5 1 v' (l ++ [x]).length (bys (l ++ [x])) ∧ Below w0.heap.size w0 w1 := by
  refine ⟨by rw [bys_snoc]; simpa using hown', ?_⟩
  refine (hb.alloc hb.size o).grown hg (by have := hb.size; simp; omega) ?_
  intro k hk
  exact (hown.lt k hk).1

/-- 'string([]byte{c})'. -/
theorem one_byte (c : Nat) (hc : c < 256) (W : World) :
    (convert 115 9 (.slice (some ⟨W.heap.size, 0, none⟩) 1 1)).run Try.prog (W.alloc (.cells #[.int .u8 (c : Int)] 5)) = .ok (.string { data := #[UInt8.ofNat c] }) (W.alloc (.cells #[.int .u8 (c : Int)] 5)) := by
  have hb := run_convert_bytes_back (P := Try.prog) (W.alloc (.cells #[.int .u8 (c : Int)] 5)) 115 9 5 ⟨W.heap.size, 0, none⟩ 1 [UInt8.ofNat c] Try.underlying115 Try.underlying5 Try.underlying9 (by
    intro j hj
    obtain rfl : j = 0 := by simpa using hj
    rw [add_none]
    simp [World.cell?_alloc_new]
    omega)
  exact hb

/-- The first so many bytes. -/
def few (s : ByteArray) (n : Nat) : ByteArray := if n < s.size then s.extract 0 n else s
theorem few_size (s : ByteArray) (n : Nat) : (few s n).size ≤ n := by
  unfold few
  split
  · simp; omega
  · omega

/-- What a splitting reader holds behind the first k bytes: the pieces so far, and where the next one begins. -/
def sp (s : ByteArray) (sep : Nat) : Nat → List ByteArray × Nat
  | 0 => ([], 0)
  | k + 1 => if (s.data.toList.getD k 0).toNat = sep then ((sp s sep k).1 ++ [s.extract (sp s sep k).2 k], k + 1) else sp s sep k
def pieces (s : ByteArray) (sep : Nat) : List ByteArray := (sp s sep s.size).1 ++ [s.extract (sp s sep s.size).2 s.size]
theorem sp_le (s : ByteArray) (sep : Nat) : ∀ k, (sp s sep k).2 ≤ k ∧ (sp s sep k).1.length ≤ k
  | 0 => by simp [sp]
  | k + 1 => by
    have := sp_le s sep k
    unfold sp
    split
    · simp; omega
    · omega
theorem sp_hit (s : ByteArray) (sep k : Nat) (hk : k < s.size) (h : (s[k]).toNat = sep) : sp s sep (k + 1) = ((sp s sep k).1 ++ [s.extract (sp s sep k).2 k], k + 1) := by
  have e : s.data.toList.getD k 0 = s[k] := by
    rw [List.getD_eq_getElem?_getD, List.getElem?_eq_getElem (by simpa using hk)]; rfl
  rw [sp, e, if_pos h]
theorem sp_miss (s : ByteArray) (sep k : Nat) (hk : k < s.size) (h : ¬ (s[k]).toNat = sep) : sp s sep (k + 1) = sp s sep k := by
  have e : s.data.toList.getD k 0 = s[k] := by
    rw [List.getD_eq_getElem?_getD, List.getElem?_eq_getElem (by simpa using hk)]; rfl
  rw [sp, e, if_neg h]

/-- It returns a slice of its own that holds just these texts, and nothing that was there has turned. -/
def RetStrs (w : World) (l : List ByteArray) (e : Ending) (w' : World) : Prop :=
  ∃ v, e = .returned v ∧ w'.ownsRow w.heap.size 9 1 v l.length (l.map Value.string) ∧ Below w.heap.size w w'

theorem Try.infoString : (Try.prog.info? 9).map (fun i => (i.zero, i.size, i.bytes)) = some (some (.string ByteArray.empty), 1, 16) := by kernel_rfl

/-- One more text behind a row of texts of one's own. -/
theorem own_snoc {w0 wr w1 : World} {v v' : Value} {l : List ByteArray} {x : ByteArray} {o : Obj} (hown' : w1.ownsRow w0.heap.size 9 1 v' (l.length + 1) (l.map Value.string ++ [.string x]))
    (hg : (wr.alloc o).grownBy w1 v.ownBlock) (hown : wr.ownsRow w0.heap.size 9 1 v l.length (l.map Value.string)) (hb : Below w0.heap.size w0 wr) :
    w1.ownsRow w0.heap.size 9 1 v' (l ++ [x]).length ((l ++ [x]).map Value.string) ∧ Below w0.heap.size w0 w1 := by
  refine ⟨by simpa using hown', ?_⟩
  refine (hb.alloc hb.size o).grown hg (by have := hb.size; simp; omega) ?_
  intro k hk
  exact (hown.lt k hk).1

set_option maxHeartbeats 400000 in
theorem split_any (s : ByteArray) (sep : Nat) (w : World) (hs : s.size ≤ 2000000) :
    Calls Try.prog 50 #[.string s, .int .u8 sep] w (RetStrs w (pieces s sep)) := by
  obtain ⟨i0, hi0, hz0, hz1, hz2⟩ := info_parts Try.infoString
  go_enter Try.func50, Try.ntmps50
  go_wp2
  go_loopw [5, 6, 10] (fun v f i wr => ∃ k : Nat, k ≤ s.size ∧ i = .int .i64 k ∧ f = .int .i64 (sp s sep k).2 ∧ wr.ownsRow w.heap.size 9 1 v (sp s sep k).1.length ((sp s sep k).1.map Value.string) ∧ Below w.heap.size w wr) (fun _ _ i _ => s.size - (intOf i).toNat)
  case atStart => exact ⟨0, Nat.zero_le _, rfl, rfl, World.ownsRow_nil _ _ _ _, Below.refl _ _⟩
  case round =>
    obtain ⟨k, hk, rfl, rfl, hown, hbel⟩ := hrel
    have hle := sp_le s sep k
    have hsz := hbel.size
    by_cases hlt : k < s.size
    · by_cases hit : (s[k]).toNat = sep
      · have HS := Lib.hid (sp_hit s sep k hlt hit)
        go_wp2_with (at_builtin; refine wpList_append_own _ rfl (.tmp 18) (.tmp 23) 37 rfl w.heap.size 9 i0 _ 1 16 Try.underlying37 hi0 hz0 hz1 hz2 rfl (by decide) _ _ _ rfl (hown.alloc _) ⟨wr.heap.size, 0, none⟩ 1 1 [.string (s.extract (sp s sep k).2 k)] rfl rfl ?c1 ?c2 ?c3 ?c4 ?c5 ?_)
        case c1 => exact cell_one_new _ _ _
        case c2 => intro u hu; simp at hu; subst hu; rfl
        case c3 => unfold maxLen; omega
        case c4 => omega
        case c5 => simp; omega
        intro v' w1 hown' hgrow _
        have R := own_snoc hown' hgrow hown hbel
        clear hown' hgrow hown hbel
        go_wp2
        go_roundw
        case rel => exact ⟨k + 1, by omega, by go_num, by rw [HS.out]; go_num, by rw [HS.out]; exact R.1, R.2⟩
        case measure => simp [intOf]; omega
      · have HS := Lib.hid (sp_miss s sep k hlt hit)
        go_wp2
        go_roundw
        case rel => exact ⟨k + 1, by omega, by go_num, by rw [HS.out], by rw [HS.out]; exact hown, hbel⟩
        case measure => simp [intOf]; omega
    · have hks : k = s.size := by omega
      subst hks
      go_wp2_with (at_builtin; refine wpList_append_own _ rfl (.tmp 28) (.tmp 32) 37 rfl w.heap.size 9 i0 _ 1 16 Try.underlying37 hi0 hz0 hz1 hz2 rfl (by decide) _ _ _ rfl (hown.alloc _) ⟨wr.heap.size, 0, none⟩ 1 1 [.string (s.extract (sp s sep s.size).2 s.size)] rfl rfl ?c1 ?c2 ?c3 ?c4 ?c5 ?_)
      case c1 => exact cell_one_new _ _ _
      case c2 => intro u hu; simp at hu; subst hu; rfl
      case c3 => unfold maxLen; omega
      case c4 => omega
      case c5 => simp; omega
      intro v' w1 hown' hgrow _
      have R := own_snoc hown' hgrow hown hbel
      clear hown' hgrow hown hbel
      go_wp2
      go_ret
      exact ⟨_, rfl, R.1, R.2⟩

theorem pieces_example : pieces { data := #[97, 46, 46, 98] } 46 = [{ data := #[97] }, { data := #[] }, { data := #[98] }] := by kernel_rfl

/-- The cells of a row of texts. -/
theorem own_cells {w : World} {B g n c : Nat} {l : List ByteArray} (h : w.ownsRow B 9 1 (.slice (some ⟨g, 0, none⟩) n c) n (l.map Value.string)) :
    ∀ i (hi : i < l.length), w.cell? ⟨g, i, none⟩ = some (.string l[i]) := by
  intro i hi
  have hl : l.length = n := by simpa using h.1
  rw [h.cellAt i (by omega)]
  simp [hi]

theorem bcell {W w1 : World} (hb : Below W.heap.size W w1) : (∀ b o, b < W.heap.size → w1.cell? ⟨b, o, none⟩ = W.cell? ⟨b, o, none⟩) ∧ (∀ b o, b < W.heap.size → w1.frozen? ⟨b, o, none⟩ = W.frozen? ⟨b, o, none⟩) :=
  ⟨fun b o h => hb.cell (p := ⟨b, o, none⟩) h, fun b o h => hb.frozen (p := ⟨b, o, none⟩) h⟩
theorem belowN {B : Nat} {a w : World} (h : Below B a w) (n : Nat) : Below B a (w.drewN n) := ⟨h.os, h.tape, h.output, h.size, h.block⟩

end Go.Proofs.Ytedmkdjijhflnaa
/- A list of sixteen, written out. -/
namespace Go.Proofs.Ytedmkdjijhflnaa
theorem list16 {α : Type} (l : List α) (h : l.length = 16) : ∃ y0 y1 y2 y3 y4 y5 y6 y7 y8 y9 y10 y11 y12 y13 y14 y15, l = [y0, y1, y2, y3, y4, y5, y6, y7, y8, y9, y10, y11, y12, y13, y14, y15] := by
  match l, h with
  | [y0, y1, y2, y3, y4, y5, y6, y7, y8, y9, y10, y11, y12, y13, y14, y15], _ => exact ⟨y0, y1, y2, y3, y4, y5, y6, y7, y8, y9, y10, y11, y12, y13, y14, y15, rfl⟩
theorem list8 {α : Type} (l : List α) (h : l.length = 8) : ∃ a b c d e f g i, l = [a, b, c, d, e, f, g, i] := by
  match l, h with
  | [a, b, c, d, e, f, g, i], _ => exact ⟨a, b, c, d, e, f, g, i, rfl⟩
end Go.Proofs.Ytedmkdjijhflnaa
/- An address (api.Addr: 17 cells) in memory: its facts, stores of its bytes, a store of all of it. Written by mkaddr.py. -/
namespace Go.Proofs.Ytedmkdjijhflnaa
open Go.RowKit
set_option linter.unusedVariables false
set_option maxRecDepth 20000

theorem addrV_eq (f : Int) (y0 y1 y2 y3 y4 y5 y6 y7 y8 y9 y10 y11 y12 y13 y14 y15 : Nat) : addrV f [y0, y1, y2, y3, y4, y5, y6, y7, y8, y9, y10, y11, y12, y13, y14, y15] = .agg #[.int .i64 f, .int .u8 (y0 : Int), .int .u8 (y1 : Int), .int .u8 (y2 : Int), .int .u8 (y3 : Int), .int .u8 (y4 : Int), .int .u8 (y5 : Int), .int .u8 (y6 : Int), .int .u8 (y7 : Int), .int .u8 (y8 : Int), .int .u8 (y9 : Int), .int .u8 (y10 : Int), .int .u8 (y11 : Int), .int .u8 (y12 : Int), .int .u8 (y13 : Int), .int .u8 (y14 : Int), .int .u8 (y15 : Int)] := rfl
/-- An address lies at G. -/
structure AddrAt (w : World) (G : Nat) (f : Int) (bs : List Nat) : Prop where
  len : bs.length = 16
  lt : G < w.heap.size
  fam : w.cell? ⟨G, 0, none⟩ = some (.int .i64 f)
  cells : ∀ j, j < 16 → w.cell? ⟨G, 1 + j, none⟩ = some (.int .u8 ((bs.getD j 0 : Nat) : Int))
  live : ∀ j, j < 17 → w.frozen? ⟨G, j, none⟩ = false
theorem AddrAt.below {w w' : World} {G : Nat} {f : Int} {bs : List Nat} (h : AddrAt w G f bs) (hb : Below w.heap.size w w') : AddrAt w' G f bs :=
  ⟨h.len, Nat.lt_of_lt_of_le h.lt hb.size, by rw [hb.cell (p := ⟨G, 0, none⟩) h.lt]; exact h.fam, fun j hj => by rw [hb.cell (p := ⟨G, 1 + j, none⟩) h.lt]; exact h.cells j hj, fun j hj => by rw [hb.frozen (p := ⟨G, j, none⟩) h.lt]; exact h.live j hj⟩
theorem AddrAt.set {w : World} {G i : Nat} {f : Int} {bs : List Nat} (h : AddrAt w G f bs) (hi : i < 16) (v : Nat) : AddrAt (w.setCell ⟨G, 1 + i, none⟩ (.int .u8 ((v : Nat) : Int))) G f (bs.set i v) := by
  refine ⟨by simp [h.len], by simpa using h.lt, ?_, ?_, ?_⟩
  · rw [World.cell?_setCell_other _ _ _ _ (by intro h2; injection h2 with _ h3 _; omega)]
    exact h.fam
  · intro j hj
    by_cases e : j = i
    · subst e
      rw [World.cell?_setCell_same _ _ _ (h.cells j hj), List.getD_eq_getElem?_getD, List.getElem?_set_self (by rw [h.len]; exact hj)]
      rfl
    · rw [World.cell?_setCell_other _ _ _ _ (by intro h2; injection h2 with _ h3 _; omega), h.cells j hj, List.getD_eq_getElem?_getD, List.getD_eq_getElem?_getD, List.getElem?_set_ne (by omega)]
  · intro j hj
    rw [World.frozen?_setCell]
    exact h.live j hj
theorem AddrAt.setFam {w : World} {G : Nat} {f : Int} {bs : List Nat} (h : AddrAt w G f bs) (g : Int) : AddrAt (w.setCell ⟨G, 0, none⟩ (.int .i64 g)) G g bs := by
  refine ⟨h.len, by simpa using h.lt, World.cell?_setCell_same _ _ _ h.fam, ?_, ?_⟩
  · intro j hj
    rw [World.cell?_setCell_other _ _ _ _ (by intro h2; injection h2 with _ h3 _; omega)]
    exact h.cells j hj
  · intro j hj
    rw [World.frozen?_setCell]
    exact h.live j hj
theorem AddrAt.other {w : World} {G G' i : Nat} {f : Int} {bs : List Nat} (h : AddrAt w G f bs) (hG : G' ≠ G) (u : Value) : AddrAt (w.setCell ⟨G', i, none⟩ u) G f bs := by
  have hn : ∀ j, (⟨G', i, none⟩ : Addr) ≠ ⟨G, j, none⟩ := fun j h2 => by injection h2 with h3 _ _; exact hG h3
  refine ⟨h.len, by simpa using h.lt, by rw [World.cell?_setCell_other _ _ _ _ (hn _)]; exact h.fam, fun j hj => by rw [World.cell?_setCell_other _ _ _ _ (hn _)]; exact h.cells j hj, fun j hj => by rw [World.frozen?_setCell]; exact h.live j hj⟩
theorem AddrAt.of (w : World) (t : TypeId) (cs : Array Value) (f : Int) (bs : List Nat) (h16 : bs.length = 16) (h : cs.toList = Value.int .i64 f :: bs.map fun n => Value.int .u8 ((n : Nat) : Int)) : AddrAt (w.alloc (.cells cs t)) w.heap.size f bs := by
  have e : ∀ j, cs[j]? = (Value.int .i64 f :: bs.map fun n => Value.int .u8 ((n : Nat) : Int))[j]? := fun j => by rw [← h, Array.getElem?_toList]
  refine ⟨h16, by simp, ?_, ?_, fun j _ => World.frozen?_alloc_new _ _ _ _⟩
  · rw [World.cell?_alloc_new, e]; rfl
  · intro j hj
    rw [World.cell?_alloc_new, Nat.add_comm 1 j, e, List.getElem?_cons_succ, List.getElem?_map, List.getD_eq_getElem?_getD, List.getElem?_eq_getElem (by omega)]
    rfl
theorem AddrAt.new (w : World) (t : TypeId) (f : Int) (y0 y1 y2 y3 y4 y5 y6 y7 y8 y9 y10 y11 y12 y13 y14 y15 : Nat) : AddrAt (w.alloc (.cells #[.int .i64 f, .int .u8 (y0 : Int), .int .u8 (y1 : Int), .int .u8 (y2 : Int), .int .u8 (y3 : Int), .int .u8 (y4 : Int), .int .u8 (y5 : Int), .int .u8 (y6 : Int), .int .u8 (y7 : Int), .int .u8 (y8 : Int), .int .u8 (y9 : Int), .int .u8 (y10 : Int), .int .u8 (y11 : Int), .int .u8 (y12 : Int), .int .u8 (y13 : Int), .int .u8 (y14 : Int), .int .u8 (y15 : Int)] t)) w.heap.size f [y0, y1, y2, y3, y4, y5, y6, y7, y8, y9, y10, y11, y12, y13, y14, y15] := AddrAt.of w t _ f _ rfl rfl
theorem AddrAt.all {w : World} {G : Nat} {f : Int} {y0 y1 y2 y3 y4 y5 y6 y7 y8 y9 y10 y11 y12 y13 y14 y15 : Nat} (h : AddrAt w G f [y0, y1, y2, y3, y4, y5, y6, y7, y8, y9, y10, y11, y12, y13, y14, y15]) :
    w.cell? ⟨G, 0, none⟩ = some (.int .i64 f) ∧ w.cell? ⟨G, 1, none⟩ = some (.int .u8 (y0 : Int)) ∧ w.cell? ⟨G, 2, none⟩ = some (.int .u8 (y1 : Int)) ∧ w.cell? ⟨G, 3, none⟩ = some (.int .u8 (y2 : Int)) ∧ w.cell? ⟨G, 4, none⟩ = some (.int .u8 (y3 : Int)) ∧ w.cell? ⟨G, 5, none⟩ = some (.int .u8 (y4 : Int)) ∧ w.cell? ⟨G, 6, none⟩ = some (.int .u8 (y5 : Int)) ∧ w.cell? ⟨G, 7, none⟩ = some (.int .u8 (y6 : Int)) ∧ w.cell? ⟨G, 8, none⟩ = some (.int .u8 (y7 : Int)) ∧ w.cell? ⟨G, 9, none⟩ = some (.int .u8 (y8 : Int)) ∧ w.cell? ⟨G, 10, none⟩ = some (.int .u8 (y9 : Int)) ∧ w.cell? ⟨G, 11, none⟩ = some (.int .u8 (y10 : Int)) ∧ w.cell? ⟨G, 12, none⟩ = some (.int .u8 (y11 : Int)) ∧ w.cell? ⟨G, 13, none⟩ = some (.int .u8 (y12 : Int)) ∧ w.cell? ⟨G, 14, none⟩ = some (.int .u8 (y13 : Int)) ∧ w.cell? ⟨G, 15, none⟩ = some (.int .u8 (y14 : Int)) ∧ w.cell? ⟨G, 16, none⟩ = some (.int .u8 (y15 : Int)) :=
  ⟨h.fam, h.cells 0 (by decide), h.cells 1 (by decide), h.cells 2 (by decide), h.cells 3 (by decide), h.cells 4 (by decide), h.cells 5 (by decide), h.cells 6 (by decide), h.cells 7 (by decide), h.cells 8 (by decide), h.cells 9 (by decide), h.cells 10 (by decide), h.cells 11 (by decide), h.cells 12 (by decide), h.cells 13 (by decide), h.cells 14 (by decide), h.cells 15 (by decide)⟩
theorem AddrAt.lives {w : World} {G : Nat} {f : Int} {bs : List Nat} (h : AddrAt w G f bs) :
    w.frozen? ⟨G, 0, none⟩ = false ∧ w.frozen? ⟨G, 1, none⟩ = false ∧ w.frozen? ⟨G, 2, none⟩ = false ∧ w.frozen? ⟨G, 3, none⟩ = false ∧ w.frozen? ⟨G, 4, none⟩ = false ∧ w.frozen? ⟨G, 5, none⟩ = false ∧ w.frozen? ⟨G, 6, none⟩ = false ∧ w.frozen? ⟨G, 7, none⟩ = false ∧ w.frozen? ⟨G, 8, none⟩ = false ∧ w.frozen? ⟨G, 9, none⟩ = false ∧ w.frozen? ⟨G, 10, none⟩ = false ∧ w.frozen? ⟨G, 11, none⟩ = false ∧ w.frozen? ⟨G, 12, none⟩ = false ∧ w.frozen? ⟨G, 13, none⟩ = false ∧ w.frozen? ⟨G, 14, none⟩ = false ∧ w.frozen? ⟨G, 15, none⟩ = false ∧ w.frozen? ⟨G, 16, none⟩ = false :=
  ⟨h.live 0 (by decide), h.live 1 (by decide), h.live 2 (by decide), h.live 3 (by decide), h.live 4 (by decide), h.live 5 (by decide), h.live 6 (by decide), h.live 7 (by decide), h.live 8 (by decide), h.live 9 (by decide), h.live 10 (by decide), h.live 11 (by decide), h.live 12 (by decide), h.live 13 (by decide), h.live 14 (by decide), h.live 15 (by decide), h.live 16 (by decide)⟩
/-- An address, stored cell by cell. -/
def storeA (W : World) (R : Nat) (f : Int) (y0 y1 y2 y3 y4 y5 y6 y7 y8 y9 y10 y11 y12 y13 y14 y15 : Nat) : World := (((((((((((((((((W.setCell ⟨R, 0, none⟩ (.int .i64 f)).setCell ⟨R, 1, none⟩ (.int .u8 ((y0 : Nat) : Int))).setCell ⟨R, 2, none⟩ (.int .u8 ((y1 : Nat) : Int))).setCell ⟨R, 3, none⟩ (.int .u8 ((y2 : Nat) : Int))).setCell ⟨R, 4, none⟩ (.int .u8 ((y3 : Nat) : Int))).setCell ⟨R, 5, none⟩ (.int .u8 ((y4 : Nat) : Int))).setCell ⟨R, 6, none⟩ (.int .u8 ((y5 : Nat) : Int))).setCell ⟨R, 7, none⟩ (.int .u8 ((y6 : Nat) : Int))).setCell ⟨R, 8, none⟩ (.int .u8 ((y7 : Nat) : Int))).setCell ⟨R, 9, none⟩ (.int .u8 ((y8 : Nat) : Int))).setCell ⟨R, 10, none⟩ (.int .u8 ((y9 : Nat) : Int))).setCell ⟨R, 11, none⟩ (.int .u8 ((y10 : Nat) : Int))).setCell ⟨R, 12, none⟩ (.int .u8 ((y11 : Nat) : Int))).setCell ⟨R, 13, none⟩ (.int .u8 ((y12 : Nat) : Int))).setCell ⟨R, 14, none⟩ (.int .u8 ((y13 : Nat) : Int))).setCell ⟨R, 15, none⟩ (.int .u8 ((y14 : Nat) : Int))).setCell ⟨R, 16, none⟩ (.int .u8 ((y15 : Nat) : Int)))
theorem storeA_at {W : World} {R : Nat} {g : Int} {bs : List Nat} (f : Int) (y0 y1 y2 y3 y4 y5 y6 y7 y8 y9 y10 y11 y12 y13 y14 y15 : Nat) (h : AddrAt W R g bs) : AddrAt (storeA W R f y0 y1 y2 y3 y4 y5 y6 y7 y8 y9 y10 y11 y12 y13 y14 y15) R f [y0, y1, y2, y3, y4, y5, y6, y7, y8, y9, y10, y11, y12, y13, y14, y15] := by
  obtain ⟨z0, z1, z2, z3, z4, z5, z6, z7, z8, z9, z10, z11, z12, z13, z14, z15, rfl⟩ := list16 bs h.len
  exact (((((((((((((((((h.setFam f).set (i := 0) (by decide) y0).set (i := 1) (by decide) y1).set (i := 2) (by decide) y2).set (i := 3) (by decide) y3).set (i := 4) (by decide) y4).set (i := 5) (by decide) y5).set (i := 6) (by decide) y6).set (i := 7) (by decide) y7).set (i := 8) (by decide) y8).set (i := 9) (by decide) y9).set (i := 10) (by decide) y10).set (i := 11) (by decide) y11).set (i := 12) (by decide) y12).set (i := 13) (by decide) y13).set (i := 14) (by decide) y14).set (i := 15) (by decide) y15)
theorem storeA_below {w W : World} {R : Nat} (f : Int) (y0 y1 y2 y3 y4 y5 y6 y7 y8 y9 y10 y11 y12 y13 y14 y15 : Nat) (h : Below w.heap.size w W) (hR : w.heap.size ≤ R) : Below w.heap.size w (storeA W R f y0 y1 y2 y3 y4 y5 y6 y7 y8 y9 y10 y11 y12 y13 y14 y15) :=
  (((((((((((((((((h.setCell (p := ⟨R, 0, none⟩) hR _).setCell (p := ⟨R, 1, none⟩) hR _).setCell (p := ⟨R, 2, none⟩) hR _).setCell (p := ⟨R, 3, none⟩) hR _).setCell (p := ⟨R, 4, none⟩) hR _).setCell (p := ⟨R, 5, none⟩) hR _).setCell (p := ⟨R, 6, none⟩) hR _).setCell (p := ⟨R, 7, none⟩) hR _).setCell (p := ⟨R, 8, none⟩) hR _).setCell (p := ⟨R, 9, none⟩) hR _).setCell (p := ⟨R, 10, none⟩) hR _).setCell (p := ⟨R, 11, none⟩) hR _).setCell (p := ⟨R, 12, none⟩) hR _).setCell (p := ⟨R, 13, none⟩) hR _).setCell (p := ⟨R, 14, none⟩) hR _).setCell (p := ⟨R, 15, none⟩) hR _).setCell (p := ⟨R, 16, none⟩) hR _)
end Go.Proofs.Ytedmkdjijhflnaa
/- An address in memory, read and stored whole (17 cells as one list), and given back as the result. -/
namespace Go.Proofs.Ytedmkdjijhflnaa
open Go.RowKit
set_option linter.unusedVariables false
set_option maxRecDepth 20000

/-- The cells of an address. -/
def addrL (f : Int) (bs : List Nat) : List Value := Value.int .i64 f :: bs.map fun n => Value.int .u8 ((n : Nat) : Int)
theorem addrL_len (f : Int) (bs : List Nat) (h : bs.length = 16) : (addrL f bs).length = 17 := by simp [addrL, h]
theorem addrV_L (f : Int) (bs : List Nat) : addrV f bs = .agg (addrL f bs).toArray := rfl
theorem addrL_one (f : Int) (bs : List Nat) : (addrL f bs).toArray.all (·.oneCell') = true := all_oneCell_toArray fun v hv => by
  rcases List.mem_cons.1 hv with rfl | hv
  · rfl
  · obtain ⟨n, _, rfl⟩ := List.mem_map.1 hv
    rfl
theorem AddrAt.range {w : World} {G : Nat} {f : Int} {bs : List Nat} (h : AddrAt w G f bs) : w.rangeAt G 0 (addrL f bs) := by
  intro j v hv
  rw [Nat.zero_add]
  cases j with
  | zero => rw [h.fam, ← hv]; rfl
  | succ j =>
    have hv2 : (bs.map fun n => Value.int .u8 ((n : Nat) : Int))[j]? = some v := hv
    rw [List.getElem?_map] at hv2
    have hj : j < 16 := by
      rw [← h.len]
      apply Classical.byContradiction
      intro h2
      rw [List.getElem?_eq_none (by omega)] at hv2
      cases hv2
    have h3 := h.cells j hj
    rw [Nat.add_comm 1 j] at h3
    rw [h3, ← hv2, List.getD_eq_getElem?_getD, List.getElem?_eq_getElem (by rw [h.len]; exact hj)]
    rfl
theorem AddrAt.there {w : World} {G : Nat} {f : Int} {bs : List Nat} (h : AddrAt w G f bs) : w.there G 0 17 := by
  intro j hj
  rw [Nat.zero_add]
  refine ⟨?_, h.live j hj⟩
  cases j with
  | zero => rw [h.fam]; rfl
  | succ j => have h3 := h.cells j (by omega); rw [Nat.add_comm 1 j] at h3; rw [h3]; rfl
theorem AddrAt.ofRange {w : World} {G : Nat} {f : Int} {bs : List Nat} (hl : bs.length = 16) (hlt : G < w.heap.size) (h : w.rangeAt G 0 (addrL f bs)) (ht : w.there G 0 17) : AddrAt w G f bs := by
  refine ⟨hl, hlt, h 0 _ rfl, ?_, fun j hj => ?_⟩
  · intro j hj
    have h1 := h (1 + j) (.int .u8 ((bs.getD j 0 : Nat) : Int)) (by
      rw [addrL, Nat.add_comm 1 j, List.getElem?_cons_succ, List.getElem?_map, List.getD_eq_getElem?_getD, List.getElem?_eq_getElem (by omega)]; rfl)
    rw [Nat.zero_add] at h1
    exact h1
  · have h1 := (ht j hj).2
    rw [Nat.zero_add] at h1
    exact h1
theorem size_setCells (b : Nat) : ∀ (vs : List Value) (o : Nat) (w : World), (w.setCells b o vs).heap.size = w.heap.size
  | [], _, _ => rfl
  | v :: r, o, w => by rw [World.setCells, size_setCells b r]; simp
theorem below_cells {B b : Nat} {a : World} (hb : B ≤ b) : ∀ (vs : List Value) (o : Nat) (w : World), Below B a w → Below B a (w.setCells b o vs)
  | [], _, _, h => h
  | v :: r, o, w, h => by rw [World.setCells]; exact below_cells hb r _ _ (h.setCell (p := ⟨b, o, none⟩) hb v)
theorem AddrAt.stored {w : World} {G : Nat} {g : Int} {bs : List Nat} (h : AddrAt w G g bs) (f : Int) (cs : List Nat) (hl : cs.length = 16) : AddrAt (w.setCells G 0 (addrL f cs)) G f cs := by
  have ht : w.there G 0 (addrL f cs).length := by rw [addrL_len f cs hl]; exact h.there
  exact AddrAt.ofRange hl (by rw [size_setCells]; exact h.lt) (World.rangeAt_setCells_same w G 0 _ ht) (World.there_setCells h.there G 0 _)
theorem AddrAt.apart {w : World} {G G' o : Nat} {g : Int} {bs : List Nat} (h : AddrAt w G g bs) (hG : G ≠ G') (vs : List Value) : AddrAt (w.setCells G' o vs) G g bs :=
  AddrAt.ofRange h.len (by rw [size_setCells]; exact h.lt) (World.rangeAt_setCells_apart h.range _ _ _ (.inl hG)) (World.there_setCells h.there _ _ _)
theorem addr_size : (Try.prog.info? 42).map (·.size) = some 17 := by kernel_rfl
theorem loadVar_addr {w : World} {G : Nat} {f : Int} {bs : List Nat} (h : AddrAt w G f bs) : (loadVar 42 ⟨G, 0, none⟩).run Try.prog w = .ok (addrV f bs) w :=
  run_loadVar_mid w G 0 42 (addrL f bs) _ h.range Try.underlying42 rfl (by rw [addr_size, addrL_len f bs h.len])
/-- An address, loaded whole. -/
theorem load_addr {ops : Array Oper} {rest : List Oper} {op : Oper} {a : Act} {w : World} {Q : Exit → Act → World → Prop} {G : Nat} {f : Int} {bs : List Nat} (hA : Hid (AddrAt w G f bs)) (x : Operand) (hgd : op.guard = none) (ho : op.op = .load 42 x)
    (hx : a.eval x = .pointer (some ⟨G, 0, none⟩)) (h : wpList Try.prog ops Q rest (a.put op.dst (addrV f bs)) w) : wpList Try.prog ops Q (op :: rest) a w :=
  wpList_load_mid hgd 42 x ho G 0 hx (addrL f bs) _ hA.out.range Try.underlying42 rfl (by rw [addr_size, addrL_len f bs hA.out.len]) h
/-- An address, stored whole: the world behind it is any that is so. -/
theorem store_addr {ops : Array Oper} {rest : List Oper} {op : Oper} {a : Act} {w : World} {Q : Exit → Act → World → Prop} {G : Nat} {g : Int} {bs0 : List Nat} (hA : Hid (AddrAt w G g bs0)) (x y : Operand) {f : Int} {bs : List Nat} (hl : Hid (bs.length = 16)) (hgd : op.guard = none) (ho : op.op = .store 42 x y)
    (hx : a.eval x = .pointer (some ⟨G, 0, none⟩)) (hy : a.eval y = addrV f bs) (h : ∀ W, Hid (W = w.setCells G 0 (addrL f bs)) → Hid (AddrAt W G f bs) → wpList Try.prog ops Q rest (a.put op.dst undef) W) : wpList Try.prog ops Q (op :: rest) a w :=
  wpList_store_mid hgd 42 x y ho G 0 (addrL f bs).toArray hx hy (by rw [List.size_toArray, addrL_len f bs hl.out]; exact hA.out.there) (by rw [addr_size, List.size_toArray, addrL_len f bs hl.out]) (addrL_one f bs) (h _ (Lib.hid rfl) (Lib.hid (hA.out.stored f bs hl.out)))
/-- An address, given back out of its cells. -/
theorem results_addr {fn : Func} {a : Tmp} {tmps : Array Value} {W : World} {R : Nat} {f : Int} {bs : List Nat} (h : fn.results = #[.cell a 42]) (ha : tmps.getD a undef = .pointer (some ⟨R, 0, none⟩)) (hA : AddrAt W R f bs) : (results fn tmps).run Try.prog W = .ok (addrV f bs) W := by
  rw [Array.getD_eq_getD_getElem?] at ha
  simp [results, h, ha, asAddr, loadVar_addr hA]
/-- .. and beside it what lies in a slot. -/
theorem results_addr2 {fn : Func} {a t : Tmp} {tmps : Array Value} {W : World} {R : Nat} {f : Int} {bs : List Nat} (h : fn.results = #[.cell a 42, .tmp t]) (ha : tmps.getD a undef = .pointer (some ⟨R, 0, none⟩)) (hA : AddrAt W R f bs) : (results fn tmps).run Try.prog W = .ok (.tuple #[addrV f bs, tmps.getD t undef]) W := by
  rw [Array.getD_eq_getD_getElem?] at ha
  simp [results, h, ha, asAddr, loadVar_addr hA]
end Go.Proofs.Ytedmkdjijhflnaa
/- An address that comes in, boxed; one of zeros. -/
namespace Go.Proofs.Ytedmkdjijhflnaa
open Go.RowKit
set_option linter.unusedVariables false
set_option maxRecDepth 20000

/-- The cells of an address of zeros. -/
abbrev zA : Array Value := #[.int .i64 0, .int .u8 0, .int .u8 0, .int .u8 0, .int .u8 0, .int .u8 0, .int .u8 0, .int .u8 0, .int .u8 0, .int .u8 0, .int .u8 0, .int .u8 0, .int .u8 0, .int .u8 0, .int .u8 0, .int .u8 0, .int .u8 0]
theorem addr_boxed (f : Int) (bs : List Nat) (w : World) (h16 : bs.length = 16) :
    ∃ cs : Array Value, addrV f bs = .agg cs ∧ Hid (AddrAt (w.alloc (.cells cs 42)) w.heap.size f bs) ∧ Hid (Below w.heap.size w (w.alloc (.cells cs 42))) :=
  ⟨_, rfl, Lib.hid (AddrAt.of w _ _ f bs h16 rfl), Lib.hid ((Below.refl _ _).alloc (Nat.le_refl _) _)⟩
theorem addr_zeroed (w : World) : AddrAt (w.alloc (.cells zA 42)) w.heap.size 0 (List.replicate 16 0) := AddrAt.of w _ _ 0 _ rfl rfl
theorem heap_alloc (w : World) (b : Obj) : (w.alloc b).heap.size = w.heap.size + 1 := by simp
theorem AddrAt.alloc {w : World} {G : Nat} {f : Int} {bs : List Nat} (h : AddrAt w G f bs) (b : Obj) : AddrAt (w.alloc b) G f bs := h.below ((Below.refl _ _).alloc (Nat.le_refl _) _)
end Go.Proofs.Ytedmkdjijhflnaa
/- Groups and their bytes; plain facts. -/
namespace Go.Proofs.Ytedmkdjijhflnaa
open Go.RowKit
set_option linter.unusedVariables false
set_option maxRecDepth 20000

/-- The bytes of groups, the higher one first. -/
def byL (gs : List Nat) : List Nat := gs.flatMap fun x => [x / 256, x % 256]
def arr16 (l : List Nat) : Value := .agg (l.map fun n => Value.int .u8 ((n : Nat) : Int)).toArray
theorem byL_snoc (l : List Nat) (x : Nat) : byL (l ++ [x]) = byL l ++ [x / 256, x % 256] := by simp [byL]
theorem byL_len : ∀ l : List Nat, (byL l).length = 2 * l.length
  | [] => rfl
  | x :: r => by
    have ih := byL_len r
    show ([x / 256, x % 256] ++ byL r).length = _
    rw [List.length_append, ih, List.length_cons]
    simp
    omega
/-- Two bytes laid behind those of the first k groups. -/
theorem set_two (l : List Nat) (k a b : Nat) (hk : k < 8) (hl : l.length = 2 * k) : ((l ++ List.replicate (16 - 2 * k) 0).set (2 * k) a).set (2 * k + 1) b = (l ++ [a, b]) ++ List.replicate (16 - 2 * (k + 1)) 0 := by
  rw [show 16 - 2 * k = (16 - 2 * (k + 1)) + 1 + 1 by omega, List.replicate_succ, List.replicate_succ, List.set_append_right _ _ (by omega), hl, Nat.sub_self, List.set_cons_zero, List.set_append_right _ _ (by omega), hl, show 2 * k + 1 - 2 * k = 0 + 1 by omega, List.set_cons_succ, List.set_cons_zero]
  simp
/-- The groups of bytes. -/
def grL (bs : List Nat) : Nat → List Nat
  | 0 => []
  | k + 1 => grL bs k ++ [bs.getD (2 * k) 0 * 256 + bs.getD (2 * k + 1) 0]
theorem grL_len (bs : List Nat) : ∀ k, (grL bs k).length = k
  | 0 => rfl
  | k + 1 => by rw [grL, List.length_append, grL_len bs k]; rfl
theorem grL_byL (gs : List Nat) (h8 : gs.length = 8) : grL (byL gs) 8 = gs := by
  obtain ⟨x0, x1, x2, x3, x4, x5, x6, x7, rfl⟩ := list8 gs h8
  simp [grL, byL]
  omega
theorem byL_grL (bs : List Nat) (h : bs.length = 16) (hlt : ∀ x ∈ bs, x < 256) : byL (grL bs 8) = bs := by
  obtain ⟨y0, y1, y2, y3, y4, y5, y6, y7, y8, y9, y10, y11, y12, y13, y14, y15, rfl⟩ := list16 bs h
  simp at hlt
  simp [grL, byL]
  omega
theorem grL_lt (bs : List Nat) (hlt : ∀ x ∈ bs, x < 256) : ∀ k, ∀ x ∈ grL bs k, x < 65536
  | 0, x, h => by simp [grL] at h
  | k + 1, x, h => by
    rw [grL] at h
    rcases List.mem_append.1 h with h | h
    · exact grL_lt bs hlt k x h
    · have g : ∀ j, bs.getD j 0 < 256 := by
        intro j
        rw [List.getD_eq_getElem?_getD]
        cases hj : bs[j]? with
        | none => exact Nat.zero_lt_succ _
        | some v => exact hlt v (List.mem_of_getElem? hj)
      have h1 := g (2 * k)
      have h2 := g (2 * k + 1)
      rw [List.mem_singleton] at h
      omega
theorem byL_lt (gs : List Nat) (hlt : ∀ x ∈ gs, x < 65536) : ∀ x ∈ byL gs, x < 256 := by
  intro x hx
  obtain ⟨y, hy, h⟩ := List.mem_flatMap.1 hx
  have := hlt y hy
  simp at h
  omega
theorem set_one (l : List Nat) (k a : Nat) (hk : k < 8) (hl : l.length = k) : (l ++ List.replicate (8 - k) 0).set k a = (l ++ [a]) ++ List.replicate (8 - (k + 1)) 0 := by
  rw [show 8 - k = (8 - (k + 1)) + 1 by omega, List.replicate_succ, List.set_append_right _ _ (by omega), hl, Nat.sub_self, List.set_cons_zero]
  simp
end Go.Proofs.Ytedmkdjijhflnaa
/- Two addresses held against each other, as a walk meets it. -/
namespace Go.Proofs.Ytedmkdjijhflnaa
open Go.RowKit
set_option linter.unusedVariables false
set_option maxRecDepth 20000

/-- No interface lies inside an address. -/
theorem guard_addr (op : BinOp) (x y : Operand) (f g : Int) (xs ys : List Nat) (W : World) : (eqGuard op 42 x y (addrV f xs) (addrV g ys)).run Try.prog W = .ok () W := run_eqGuard_agg _ _ _ _ _ _ _ Try.eqGuardType42
theorem guard_zero (op : BinOp) (x y : Operand) (f : Int) (xs : List Nat) (W : World) : (eqGuard op 42 x y (addrV f xs) (.agg zA)).run Try.prog W = .ok () W := run_eqGuard_agg _ _ _ _ _ _ _ Try.eqGuardType42
theorem guard_arr16 (op : BinOp) (x y : Operand) (xs ys : List Nat) (W : World) : (eqGuard op 40 x y (arr16 xs) (arr16 ys)).run Try.prog W = .ok () W := run_eqGuard_agg _ _ _ _ _ _ _ Try.eqGuardType40
theorem run_eq_addr (f g : Int) (xs ys : List Nat) (W : World) (hx : xs.length = 16) (hy : ys.length = 16) : (binOp .eql 42 (addrV f xs) (addrV g ys)).run Try.prog W = .ok (.bool (decide (f = g ∧ xs = ys))) W := by
  have h := eq_addr f g xs ys W hx hy
  unfold addrV at h ⊢
  rw [run_eql_struct, h]
  rfl
theorem run_neq_addr (f g : Int) (xs ys : List Nat) (W : World) (hx : xs.length = 16) (hy : ys.length = 16) : (binOp .neq 42 (addrV f xs) (addrV g ys)).run Try.prog W = .ok (.bool (!decide (f = g ∧ xs = ys))) W := by
  have h := eq_addr f g xs ys W hx hy
  unfold addrV at h ⊢
  rw [run_neq_struct, h]
  rfl
theorem run_same_addr (f : Int) (xs : List Nat) (W : World) (hx : xs.length = 16) : (binOp .eql 42 (addrV f xs) (addrV f xs)).run Try.prog W = .ok (.bool true) W := by
  rw [run_eq_addr f f xs xs W hx hx, decide_eq_true ⟨rfl, rfl⟩]
theorem run_nsame_addr (f : Int) (xs : List Nat) (W : World) (hx : xs.length = 16) : (binOp .neq 42 (addrV f xs) (addrV f xs)).run Try.prog W = .ok (.bool false) W := by
  rw [run_neq_addr f f xs xs W hx hx, decide_eq_true ⟨rfl, rfl⟩]
  rfl
theorem run_zero_addr (f : Int) (xs : List Nat) (W : World) (hx : xs.length = 16) : (binOp .eql 42 (addrV f xs) (.agg zA)).run Try.prog W = .ok (.bool (decide (f = 0 ∧ xs = List.replicate 16 0))) W :=
  run_eq_addr f 0 xs (List.replicate 16 0) W hx rfl
theorem run_eq_arr16 (xs ys : List Nat) (W : World) (hx : xs.length = 16) (hy : ys.length = 16) : (binOp .eql 40 (arr16 xs) (arr16 ys)).run Try.prog W = .ok (.bool (decide (xs = ys))) W := by
  have h := eq_arr16 9998 xs ys W hx hy
  unfold arr16
  rw [run_eql_struct, h]
  rfl
theorem run_neq_arr16 (xs ys : List Nat) (W : World) (hx : xs.length = 16) (hy : ys.length = 16) : (binOp .neq 40 (arr16 xs) (arr16 ys)).run Try.prog W = .ok (.bool (!decide (xs = ys))) W := by
  have h := eq_arr16 9998 xs ys W hx hy
  unfold arr16
  rw [run_neq_struct, h]
  rfl
end Go.Proofs.Ytedmkdjijhflnaa
/- What a walk holds in a region that draws its order: ranges of cells, and that nothing older has turned. -/
namespace Go.Proofs.Ytedmkdjijhflnaa
open Go.RowKit
set_option linter.unusedVariables false
set_option maxRecDepth 20000

/-- The ranges of L lie there; all that lay below W is as it was. -/
def HeldR (L : List (Nat × Nat × List Value)) (W w : World) : Prop := (∀ x ∈ L, w.rangeAt x.1 x.2.1 x.2.2 ∧ x.1 < w.heap.size) ∧ Below W.heap.size W w
section
variable {L : List (Nat × Nat × List Value)} {W w w' : World} {b o : Nat} {cs : List Value}
theorem HeldR.get (h : HeldR L W w) (hm : (b, o, cs) ∈ L) : w.rangeAt b o cs := (h.1 _ hm).1
theorem HeldR.cell (h : HeldR L W w) (hm : (b, o, cs) ∈ L) (j : Nat) (v : Value) (hv : cs[j]? = some v) : w.cell? ⟨b, o + j, none⟩ = some v := (h.1 _ hm).1 j v hv
theorem HeldR.bel (h : HeldR L W w) : Below W.heap.size W w := h.2
theorem HeldR.next (h : HeldR L W w) (hb : Below w.heap.size w w') : HeldR L W w' := by
  refine ⟨fun x hx => ?_, chain h.2 hb⟩
  obtain ⟨h1, h2⟩ := h.1 x hx
  refine ⟨fun j v hv => ?_, Nat.lt_of_lt_of_le h2 hb.size⟩
  rw [hb.cell (p := ⟨x.1, x.2.1 + j, none⟩) h2]
  exact h1 j v hv
theorem HeldR.drew (h : HeldR L W w) : HeldR L W w.drew := h.next (Below.refl _ _).drew
theorem HeldR.nil (h : Below W.heap.size W w) : HeldR [] W w := ⟨(fun x hx => by cases hx), h⟩
theorem HeldR.cons (h : HeldR L W w) (hr : w.rangeAt b o cs) (hb : b < w.heap.size) : HeldR ((b, o, cs) :: L) W w :=
  ⟨fun x hx => by
    rcases List.mem_cons.1 hx with rfl | hx
    · exact ⟨hr, hb⟩
    · exact h.1 x hx, h.2⟩
theorem Calls.heldR {P : Program} {f : FuncId} {args : Array Value} {v : Value} (hc : Calls P f args w fun e w' => e = .returned v ∧ Below w.heap.size w w') (h : HeldR L W w) :
    Calls P f args w fun e w' => e = .returned v ∧ HeldR L W w' :=
  hc.mono fun _ _ ⟨he, hb⟩ => ⟨he, h.next hb⟩
/-- A cell that lies in one of the ranges. -/
def CellR (L : List (Nat × Nat × List Value)) (W : World) (b o : Nat) (v : Value) : Prop := ∀ w, HeldR L W w → w.cell? ⟨b, o, none⟩ = some v
end
/-- A guarded or plain load of a whole row, in a plain region. -/
theorem wpList_load_row {P : Program} {ops : Array Oper} {rest : List Oper} {op : Oper} {a : Act} {w : World} {Q : Exit → Act → World → Prop} (hw : Region.wanted op (yielded ops a.tmps) = true) (ty : TypeId) (x : Operand) (ho : op.op = .load ty x)
    (b o : Nat) (hx : a.eval x = .pointer (some ⟨b, o, none⟩)) (cs : List Value) (d : TypeDesc) (hc : w.rangeAt b o cs)
    (hu : P.underlying ty = some d) (hd : d.isRow = true) (hi : (P.info? ty).map (·.size) = some cs.length)
    (h : wpList P ops Q rest (a.put op.dst (.agg cs.toArray)) w) : wpList P ops Q (op :: rest) a w := by
  simp only [wpList, hw, if_true]
  exact .inl (wp_load_mid ty x ho b o hx cs d hc hu hd hi h)
end Go.Proofs.Ytedmkdjijhflnaa
/- A row (a slice) of structs that came in, opened: the list of its elements, as they lie. -/
namespace Go.Proofs.Ytedmkdjijhflnaa
open Go.ChangeShapes Go.WideShapes Go.ChangeAt Go.RowKit
set_option linter.unusedVariables false
set_option maxRecDepth 20000

theorem flatMap_len {α : Type} (Lf : α → List Value) (S : Nat) : ∀ D : List α, (∀ d ∈ D, (Lf d).length = S) → (D.flatMap Lf).length = D.length * S
  | [], _ => by simp
  | d :: D, h => by
    rw [List.flatMap_cons, List.length_append, h d (by simp), flatMap_len Lf S D (fun x hx => h x (by simp [hx])), List.length_cons, Nat.succ_mul, Nat.add_comm]
theorem flatMap_at {α : Type} (Lf : α → List Value) (S : Nat) : ∀ D : List α, (∀ d ∈ D, (Lf d).length = S) → ∀ k (hk : k < D.length) j, j < S → (D.flatMap Lf)[k * S + j]? = (Lf D[k])[j]?
  | [], _, k, hk, j, hj => absurd hk (by simp)
  | d :: D, h, k, hk, j, hj => by
    have h1 := h d (by simp)
    rw [List.flatMap_cons]
    cases k with
    | zero => rw [Nat.zero_mul, Nat.zero_add, List.getElem?_append_left (by omega)]; rfl
    | succ k =>
      rw [List.getElem?_append_right (by rw [h1, Nat.succ_mul]; omega), h1, show (k + 1) * S + j - S = k * S + j by rw [Nat.succ_mul]; omega]
      exact flatMap_at Lf S D (fun x hx => h x (by simp [hx])) k (by simpa using hk) j hj
/-- Where an element lies. -/
theorem range_at {α : Type} {Lf : α → List Value} {S : Nat} {w : World} {g o : Nat} {D : List α} (h : w.rangeAt g o (D.flatMap Lf)) (hl : ∀ d ∈ D, (Lf d).length = S) (k : Nat) (hk : k < D.length) : w.rangeAt g (o + k * S) (Lf D[k]) := by
  intro j u hu
  have hj : j < S := by
    have := hl _ (List.getElem_mem hk)
    apply Classical.byContradiction
    intro h2
    rw [List.getElem?_eq_none (by omega)] at hu
    cases hu
  have := h (k * S + j) u (by rw [flatMap_at Lf S D hl k hk j hj]; exact hu)
  rw [← Nat.add_assoc] at this
  exact this
theorem choose_list {α : Type} (p : Nat → α → Prop) : ∀ n, (∀ i, i < n → ∃ d, p i d) → ∃ D : List α, D.length = n ∧ ∀ i (hi : i < D.length), p i D[i]
  | 0, _ => ⟨[], rfl, fun i hi => absurd hi (by simp)⟩
  | n + 1, h => by
    obtain ⟨D, h1, h2⟩ := choose_list p n (fun i hi => h i (by omega))
    obtain ⟨d, hd⟩ := h n (by omega)
    refine ⟨D ++ [d], by simp [h1], fun i hi => ?_⟩
    by_cases e : i < D.length
    · rw [List.getElem_append_left e]; exact h2 i e
    · have hin : i = D.length := by simp at hi; omega
      subst hin
      rw [List.getElem_append_right (Nat.le_refl _)]
      simp only [Nat.sub_self, List.getElem_cons_zero]
      rw [h1]
      exact hd
theorem mapM_some {α : Type} (f : Nat → Option α) : ∀ (n : Nat) (cs : List α), (List.range n).mapM f = some cs → cs.length = n ∧ ∀ j (hj : j < cs.length), f j = some cs[j] := by
  intro n
  induction n with
  | zero => intro cs h; simp at h; subst h; exact ⟨rfl, fun j hj => absurd hj (by simp)⟩
  | succ n ih =>
    intro cs h
    rw [List.range_succ, List.mapM_append] at h
    simp only [Option.bind_eq_bind, List.mapM_cons, List.mapM_nil, Option.pure_def] at h
    cases h1 : (List.range n).mapM f with
    | none => rw [h1] at h; simp at h
    | some xs =>
      rw [h1] at h
      cases h2 : f n with
      | none => rw [h2] at h; simp at h
      | some y =>
        rw [h2] at h
        simp at h
        obtain ⟨l1, l2⟩ := ih xs h1
        subst h
        refine ⟨by simp [l1], fun j hj => ?_⟩
        by_cases e : j < xs.length
        · rw [List.getElem_append_left e]; exact l2 j e
        · have hjn : j = xs.length := by simp at hj; omega
          subst hjn
          rw [List.getElem_append_right (Nat.le_refl _)]
          simp only [Nat.sub_self, List.getElem_cons_zero]
          rw [l1]
          exact h2
/-- A row of structs, opened. -/
theorem open_rows {α : Type} {H : Type} {enc : TypeId × Value → H} {W : World} {spare : Nat → Bool} {t e : TypeId} {fuel : Nat} {a : Option Addr} {len cap : Nat} {x : DataW H × List MemPlace} (Lf : α → List Value) (S : Nat) (q : α → Prop)
    (ht : Try.prog.underlying t = some (.slice e)) (hS : Try.prog.cellsOf e = S) (hpos : 0 < S)
    (hel : ∀ (n : Nat) (cs : List Value) (y : DataW H × List MemPlace), cs.length = S → DataW.trod enc Try.prog W 0 spare true n e cs = some y → ∃ d, cs = Lf d ∧ q d)
    (h : DataW.trod enc Try.prog W 0 spare true fuel t [.slice a len cap] = some x) :
    len ≤ cap ∧ cap ≤ maxLen ∧ (len = 0 ∨ ∃ (g o : Nat) (D : List α), a = some ⟨g, o, none⟩ ∧ D.length = len ∧ (∀ d ∈ D, q d ∧ (Lf d).length = S) ∧ W.rangeAt g o (D.flatMap Lf) ∧ g < W.heap.size) := by
  rcases Deep.open_slice ht h with ⟨h0, _⟩ | ⟨a', len', cap', m, n, D, Pl, h0, hb, hl, hm, hmm, _, hc⟩
  · injection h0 with h0 _
    injection h0 with h1 h2 h3
    subst h1 h2 h3
    exact ⟨Nat.le_refl _, Nat.zero_le _, .inl rfl⟩
  · injection h0 with h0 _
    injection h0 with h1 h2 h3
    subst h1 h2 h3
    refine ⟨hl, hm, ?_⟩
    by_cases hz : len = 0
    · exact .inl hz
    · right
      have hle : len ≤ m := by rw [hmm]; split <;> omega
      rw [hS] at hc
      have key : ∀ i, i < len → ∃ d, (∀ j u, (Lf d)[j]? = some u → W.cell? ((a'.add (i * S)).add j) = some u) ∧ q d ∧ (Lf d).length = S := fun i hi => by
        obtain ⟨cs, c1, c2⟩ := hc i (by omega)
        unfold World.cells? at c1
        rw [if_pos (Nat.zero_le _)] at c1
        obtain ⟨l1, l2⟩ := mapM_some _ _ _ c1
        obtain ⟨d, rfl, hq⟩ := hel n cs _ l1 c2
        refine ⟨d, fun j u hu => ?_, hq, l1⟩
        have hj : j < (Lf d).length := by
          apply Classical.byContradiction
          intro h2
          rw [List.getElem?_eq_none (by omega)] at hu
          cases hu
        rw [l2 j hj]
        rw [List.getElem?_eq_getElem hj] at hu
        exact hu
      obtain ⟨D, d1, d2⟩ := choose_list _ len key
      obtain ⟨d0, e1, _, e3⟩ := key 0 (by omega)
      have hc0 := e1 0 _ (List.getElem?_eq_getElem (by omega))
      have hspot : a'.spot = none := by
        rw [Nat.zero_mul] at hc0
        have : (a'.add 0).add 0 = a' := by simp [Addr.add]
        rw [this] at hc0
        unfold World.cell? at hc0
        split at hc0
        · split at hc0
          · cases hc0
          · rename_i h; simpa using h
        · cases hc0
      obtain ⟨g, o, sp⟩ := a'
      simp only at hspot
      subst hspot
      have hadd : ∀ i j, ((⟨g, o, none⟩ : Addr).add i).add j = ⟨g, o + i + j, none⟩ := fun i j => by
        unfold Addr.add
        split <;> split <;> simp_all [Nat.add_assoc]
      have hlen : ∀ d ∈ D, (Lf d).length = S := fun d hd => by
        obtain ⟨i, hi, rfl⟩ := List.getElem_of_mem hd
        exact (d2 i hi).2.2
      refine ⟨g, o, D, rfl, d1, fun d hd => ?_, fun k u hu => ?_, ?_⟩
      · obtain ⟨i, hi, rfl⟩ := List.getElem_of_mem hd
        exact ⟨(d2 i hi).2.1, (d2 i hi).2.2⟩
      · have hk : k < D.length * S := by
          rw [← flatMap_len Lf S D hlen]
          apply Classical.byContradiction
          intro h2
          rw [List.getElem?_eq_none (by omega)] at hu
          cases hu
        have hq : k / S < D.length := Nat.div_lt_of_lt_mul (by rw [Nat.mul_comm]; exact hk)
        have hkk : k / S * S + k % S = k := by rw [Nat.mul_comm]; exact Nat.div_add_mod k S
        have h3 := flatMap_at Lf S D hlen (k / S) hq (k % S) (Nat.mod_lt _ hpos)
        rw [hkk, hu] at h3
        have h4 := (d2 (k / S) hq).1 (k % S) u h3.symm
        rw [hadd] at h4
        rw [← hkk, ← Nat.add_assoc]
        exact h4
      · rw [Nat.zero_mul, hadd] at hc0
        unfold World.cell? at hc0
        apply Classical.byContradiction
        intro h2
        rw [Array.getElem?_eq_none (by simpa using h2)] at hc0
        cases hc0
end Go.Proofs.Ytedmkdjijhflnaa
/- Rows of texts as a walk reads them; the pieces of a text are no longer than the text. -/
namespace Go.Proofs.Ytedmkdjijhflnaa
open Go.RowKit
set_option linter.unusedVariables false
set_option maxRecDepth 20000

/-- A row of these texts lies at g. -/
structure StrRow (w : World) (g n c : Nat) (l : List ByteArray) : Prop where
  len : l.length = n
  cap : n ≤ c
  capm : c ≤ maxLen
  lt : g < w.heap.size
  cells : ∀ i, i < n → w.cell? ⟨g, i, none⟩ = some (.string (l.getD i ⟨#[]⟩))
theorem StrRow.below {w w' : World} {g n c : Nat} {l : List ByteArray} (h : StrRow w g n c l) (hb : Below w.heap.size w w') : StrRow w' g n c l :=
  ⟨h.len, h.cap, h.capm, Nat.lt_of_lt_of_le h.lt hb.size, fun i hi => by rw [hb.cell (p := ⟨g, i, none⟩) h.lt]; exact h.cells i hi⟩
theorem StrRow.front {w : World} {g n c : Nat} {l : List ByteArray} (h : StrRow w g n c l) (m : Nat) (hm : m ≤ n) : StrRow w g m c (l.take m) :=
  ⟨by have := h.len; simp; omega, by have := h.cap; omega, h.capm, h.lt, fun i hi => by
    rw [h.cells i (by omega)]
    simp only [List.getD_eq_getElem?_getD, List.getElem?_take, if_pos hi]⟩
theorem own_row {w : World} {B : Nat} {v : Value} {l : List ByteArray} (h : w.ownsRow B 9 1 v l.length (l.map Value.string)) (h0 : 0 < l.length) :
    ∃ g c, v = .slice (some ⟨g, 0, none⟩) l.length c ∧ B ≤ g ∧ StrRow w g l.length c l := by
  have hh := h
  obtain ⟨g, c, rfl, hg1, hg2⟩ := h.form h0
  have hc : l.length ≤ c ∧ c ≤ maxLen := by
    rcases hh.2 with ⟨h1, _⟩ | ⟨g', cap, cur, h1, _, _, h2, h3, _⟩
    · simp at h1
    · simp only [Value.slice.injEq, Option.some.injEq, Addr.mk.injEq, and_true, true_and] at h1
      obtain ⟨rfl, rfl⟩ := h1
      exact ⟨h2, h3⟩
  refine ⟨g, c, rfl, hg1, rfl, hc.1, hc.2, hg2, fun i hi => ?_⟩
  rw [own_cells hh i hi, List.getD_eq_getElem?_getD, List.getElem?_eq_getElem hi]
  rfl

theorem pieces_pos (s : ByteArray) (sep : Nat) : 0 < (pieces s sep).length := by unfold pieces; simp
theorem sp_small (s : ByteArray) (sep : Nat) : ∀ k, ∀ p ∈ (sp s sep k).1, p.size ≤ s.size
  | 0 => by simp [sp]
  | k + 1 => by
    unfold sp
    split
    · intro p hp
      rcases List.mem_append.1 hp with h | h
      · exact sp_small s sep k p h
      · simp at h; subst h; simp; omega
    · exact sp_small s sep k
theorem pieces_small (s : ByteArray) (sep : Nat) : ∀ p ∈ pieces s sep, p.size ≤ s.size := by
  intro p hp
  unfold pieces at hp
  rcases List.mem_append.1 hp with h | h
  · exact sp_small s sep _ p h
  · simp at h; subst h; simp
theorem getD_small {l : List ByteArray} {m : Nat} (h : ∀ p ∈ l, p.size ≤ m) (i : Nat) : (l.getD i ⟨#[]⟩).size ≤ m := by
  rw [List.getD_eq_getElem?_getD]
  cases hi : l[i]? with
  | none => exact Nat.zero_le _
  | some p => exact h p (List.mem_of_getElem? hi)
theorem pieces_len (s : ByteArray) (sep : Nat) : (pieces s sep).length ≤ s.size + 1 := by
  unfold pieces
  have := (sp_le s sep s.size).2
  simp
  omega

/-- What Split hands back, as a row. -/
theorem split_row (s : ByteArray) (sep : Nat) (w : World) (hs : s.size ≤ 2000000) :
    Calls Try.prog 50 #[.string s, .int .u8 sep] w fun e w' => ∃ g c, e = .returned (.slice (some ⟨g, 0, none⟩) (pieces s sep).length c) ∧ w.heap.size ≤ g ∧ StrRow w' g (pieces s sep).length c (pieces s sep) ∧ Below w.heap.size w w' := by
  refine (split_any s sep w hs).mono ?_
  rintro e w' ⟨v, rfl, ho, hb⟩
  obtain ⟨g, c, rfl, h1, h2⟩ := own_row ho (pieces_pos s sep)
  exact ⟨g, c, rfl, h1, h2, hb⟩
end Go.Proofs.Ytedmkdjijhflnaa
/- The contract of the reference's Split. -/
namespace Go.Proofs.Ytedmkdjijhflnaa
open Go.RowKit
set_option linter.unusedVariables false
set_option maxRecDepth 20000

end Go.Proofs.Ytedmkdjijhflnaa
/- Contracts of the functions that cut a text: blank, Trim, the reference's Split, Join; and that the pieces joined are the text. -/
namespace Go.Proofs.Ytedmkdjijhflnaa
open Go.RowKit
set_option linter.unusedVariables false
set_option maxRecDepth 20000

def blankC (n : Nat) : Bool := decide (n = 32) || decide (n = 9)

/-- The byte at a place, or 0. -/
def byteAt (s : ByteArray) (k : Nat) : Nat := (s.data.toList.getD k 0).toNat
theorem byteAt_eq (s : ByteArray) (k : Nat) (h : k < s.size) : byteAt s k = (s[k]).toNat := by
  unfold byteAt
  rw [List.getD_eq_getElem?_getD, List.getElem?_eq_getElem (by simpa using h)]; rfl
/-- From k on, past blanks. -/
def skip (s : ByteArray) : Nat → Nat → Nat
  | 0, k => k
  | n + 1, k => if k < s.size ∧ blankC (byteAt s k) = true then skip s n (k + 1) else k
def lead (s : ByteArray) : Nat := skip s s.size 0
/-- From k back, past blanks, not below f. -/
def back (s : ByteArray) (f : Nat) : Nat → Nat
  | 0 => 0
  | k + 1 => if f < k + 1 ∧ blankC (byteAt s k) = true then back s f k else k + 1
def trimB (s : ByteArray) : ByteArray := s.extract (lead s) (back s (lead s) s.size)
theorem skip_le (s : ByteArray) : ∀ n k, k ≤ s.size → k ≤ skip s n k ∧ skip s n k ≤ s.size
  | 0, k, h => ⟨Nat.le_refl _, h⟩
  | n + 1, k, h => by
    unfold skip
    split
    · rename_i hh
      have := skip_le s n (k + 1) (by omega)
      omega
    · omega
theorem skip_stop (s : ByteArray) : ∀ n k, s.size ≤ k + n → skip s n k < s.size → blankC (byteAt s (skip s n k)) = false
  | 0, k, h, hlt => by unfold skip at hlt; omega
  | n + 1, k, h, hlt => by
    by_cases hh : k < s.size ∧ blankC (byteAt s k) = true
    · have e : skip s (n + 1) k = skip s n (k + 1) := by rw [skip, if_pos hh]
      rw [e] at hlt ⊢
      exact skip_stop s n (k + 1) (by omega) hlt
    · have e : skip s (n + 1) k = k := by rw [skip, if_neg hh]
      rw [e] at hlt ⊢
      cases hb : blankC (byteAt s k) with
      | false => rfl
      | true => exact absurd ⟨hlt, hb⟩ hh
theorem back_le (s : ByteArray) (f : Nat) : ∀ k, f ≤ k → f ≤ back s f k ∧ back s f k ≤ k
  | 0, h => ⟨h, Nat.le_refl _⟩
  | k + 1, h => by
    unfold back
    split
    · rename_i hh
      have := back_le s f k (by omega)
      omega
    · omega
theorem back_stop (s : ByteArray) (f : Nat) : ∀ k, f < back s f k → blankC (byteAt s (back s f k - 1)) = false
  | 0, h => by unfold back at h; omega
  | k + 1, h => by
    by_cases hh : f < k + 1 ∧ blankC (byteAt s k) = true
    · have e : back s f (k + 1) = back s f k := by rw [back, if_pos hh]
      rw [e] at h ⊢
      exact back_stop s f k h
    · have e : back s f (k + 1) = k + 1 := by rw [back, if_neg hh]
      rw [e] at h ⊢
      cases hb : blankC (byteAt s k) with
      | false => exact hb
      | true => exact absurd ⟨h, hb⟩ hh
theorem lead_le (s : ByteArray) : lead s ≤ s.size := (skip_le s s.size 0 (Nat.zero_le _)).2
theorem byteAt_extract (s : ByteArray) (f t j : Nat) (h : f + j < t) (ht : t ≤ s.size) : byteAt (s.extract f t) j = byteAt s (f + j) := by
  unfold byteAt
  rw [data_extract]
  simp only [List.getD_eq_getElem?_getD]
  rw [List.getElem?_take_of_lt (by omega), List.getElem?_drop]
theorem lead_zero (s : ByteArray) (h : s.size = 0 ∨ blankC (byteAt s 0) = false) : lead s = 0 := by
  unfold lead
  cases hs : s.size with
  | zero => rfl
  | succ n =>
    rw [skip, if_neg]
    rcases h with h | h
    · omega
    · simp [h]
theorem back_full (s : ByteArray) (k : Nat) (h : k = 0 ∨ blankC (byteAt s (k - 1)) = false) : back s 0 k = k := by
  cases k with
  | zero => rfl
  | succ k =>
    rw [back, if_neg]
    rcases h with h | h
    · omega
    · simp at h; simp [h]
theorem trim_trim (s : ByteArray) : trimB (trimB s) = trimB s := by
  have h1 := lead_le s
  have h2 := back_le s (lead s) s.size h1
  have hz : (trimB s).size = back s (lead s) s.size - lead s := by
    unfold trimB
    simp
    omega
  have hl : lead (trimB s) = 0 := by
    apply lead_zero
    by_cases h0 : (trimB s).size = 0
    · exact .inl h0
    · right
      unfold trimB
      rw [byteAt_extract _ _ _ _ (by omega) (by omega)]
      exact skip_stop s s.size 0 (by omega) (by show lead s < s.size; omega)
  have hb : back (trimB s) 0 (trimB s).size = (trimB s).size := by
    apply back_full
    by_cases h0 : (trimB s).size = 0
    · exact .inl h0
    · right
      have e : byteAt (trimB s) ((trimB s).size - 1) = byteAt s (back s (lead s) s.size - 1) := by
        rw [hz]
        unfold trimB
        rw [byteAt_extract _ _ _ _ (by omega) (by omega)]
        congr 1
        omega
      rw [e]
      exact back_stop s (lead s) s.size (by omega)
  have e : trimB (trimB s) = (trimB s).extract (lead (trimB s)) (back (trimB s) (lead (trimB s)) (trimB s).size) := rfl
  rw [e, hl, hb]
  apply bytes_ext
  rw [data_extract]
  simp only [List.drop_zero, Nat.sub_zero]
  exact List.take_of_length_le (by simp)
theorem skip_step (s : ByteArray) (k : Nat) (h : k < s.size) (hb : blankC (s[k]).toNat = true) : skip s (s.size - k) k = skip s (s.size - (k + 1)) (k + 1) := by
  rw [show s.size - k = (s.size - (k + 1)) + 1 by omega, skip, if_pos ⟨h, by rw [byteAt_eq s k h]; exact hb⟩]
theorem skip_out (s : ByteArray) (k : Nat) (h : ¬ k < s.size ∨ ∃ hk : k < s.size, blankC (s[k]).toNat = false) : skip s (s.size - k) k = k := by
  cases hn : s.size - k with
  | zero => rfl
  | succ n =>
    rw [skip, if_neg]
    rintro ⟨h1, h2⟩
    rcases h with h | ⟨hk, h⟩
    · exact h h1
    · rw [byteAt_eq s k hk, h] at h2
      cases h2
theorem back_step (s : ByteArray) (f t : Nat) (h : f < t + 1) (hk : t < s.size) (hb : blankC (s[t]).toNat = true) : back s f (t + 1) = back s f t := by
  rw [back, if_pos ⟨h, by rw [byteAt_eq s t hk]; exact hb⟩]
theorem back_out (s : ByteArray) (f t : Nat) (hf : f ≤ t) (h : ¬ f < t ∨ ∃ hk : t - 1 < s.size, blankC (s[t - 1]).toNat = false) : back s f t = t := by
  cases t with
  | zero => rfl
  | succ t =>
    rw [back, if_neg]
    rintro ⟨h1, h2⟩
    rcases h with h | ⟨hk, h⟩
    · exact h h1
    · have hk' : t < s.size := by simpa using hk
      rw [byteAt_eq s t hk'] at h2
      have h' : blankC (s[t]).toNat = false := by simpa using h
      rw [h'] at h2
      cases h2

/-- The first k texts with another one between. -/
def joinTo (xs : List ByteArray) (sep : ByteArray) : Nat → ByteArray
  | 0 => { data := #[] }
  | k + 1 => (if 0 < k then joinTo xs sep k ++ sep else joinTo xs sep k) ++ xs.getD k { data := #[] }
theorem joinTo_mono (xs : List ByteArray) (sep : ByteArray) (k : Nat) : ∀ m, (joinTo xs sep k).size ≤ (joinTo xs sep (k + m)).size
  | 0 => Nat.le_refl _
  | m + 1 => by
    have := joinTo_mono xs sep k m
    rw [← Nat.add_assoc, joinTo, ByteArray.size_append]
    split
    · rw [ByteArray.size_append]; omega
    · omega
theorem joinTo_piece (xs : List ByteArray) (sep : ByteArray) (k : Nat) : (xs.getD k { data := #[] }).size ≤ (joinTo xs sep (k + 1)).size := by
  rw [joinTo, ByteArray.size_append]; omega

/-- All of them. -/
def joinB (xs : List ByteArray) (sep : ByteArray) : ByteArray := joinTo xs sep xs.length
theorem joinTo_front (xs : List ByteArray) (sep x : ByteArray) : ∀ k, k ≤ xs.length → joinTo (xs ++ [x]) sep k = joinTo xs sep k
  | 0, _ => rfl
  | k + 1, h => by
    have e : (xs ++ [x]).getD k { data := #[] } = xs.getD k { data := #[] } := by
      simp only [List.getD_eq_getElem?_getD]
      rw [List.getElem?_append_left (by omega)]
    rw [joinTo, joinTo, joinTo_front xs sep x k (by omega), e]
theorem joinB_snoc (xs : List ByteArray) (sep x : ByteArray) : joinB (xs ++ [x]) sep = (if 0 < xs.length then joinB xs sep ++ sep else joinB xs sep) ++ x := by
  have e : (xs ++ [x]).getD xs.length { data := #[] } = x := by simp [List.getD_eq_getElem?_getD]
  unfold joinB
  rw [List.length_append, List.length_singleton, joinTo, joinTo_front xs sep x xs.length (Nat.le_refl _), e]
theorem take_more (l : List UInt8) (f k : Nat) (h : f ≤ k) : l.take f ++ (l.drop f).take (k - f) = l.take k := by
  rw [← List.take_add, Nat.add_sub_cancel' h]
theorem sp_join (s : ByteArray) (sep : Nat) (hsep : sep < 256) : ∀ k, k ≤ s.size →
    ((sp s sep k).1 = [] ∧ (sp s sep k).2 = 0) ∨ (0 < (sp s sep k).1.length ∧ (joinB (sp s sep k).1 { data := #[UInt8.ofNat sep] }).data.toList ++ [UInt8.ofNat sep] = s.data.toList.take (sp s sep k).2)
  | 0, _ => .inl ⟨rfl, rfl⟩
  | k + 1, h => by
    have ih := sp_join s sep hsep k (by omega)
    have hle := sp_le s sep k
    by_cases hit : (s[k]).toNat = sep
    · rw [sp_hit s sep k (by omega) hit]
      right
      refine ⟨by simp, ?_⟩
      have hlast : s.data.toList.take (k + 1) = s.data.toList.take k ++ [UInt8.ofNat sep] := by
        rw [List.take_succ_eq_append_getElem (by simp; omega)]
        congr 2
        rw [← hit]
        exact (UInt8.ofNat_toNat).symm
      rw [joinB_snoc, data_append, data_extract, hlast]
      congr 1
      rcases ih with ⟨h1, h2⟩ | ⟨h1, h2⟩
      · rw [h1, h2]
        simp [joinB, joinTo]
      · rw [if_pos h1, data_append]
        show (_ ++ [UInt8.ofNat sep]) ++ _ = _
        rw [h2, take_more _ _ _ hle.1]
    · rw [sp_miss s sep k (by omega) hit]
      exact ih
theorem pieces_join (s : ByteArray) (sep : Nat) (hsep : sep < 256) : joinB (pieces s sep) { data := #[UInt8.ofNat sep] } = s := by
  have hle := sp_le s sep s.size
  apply bytes_ext
  unfold pieces
  rw [joinB_snoc, data_append, data_extract]
  have hall : s.data.toList.take s.size = s.data.toList := List.take_of_length_le (by simp)
  rcases sp_join s sep hsep s.size (Nat.le_refl _) with ⟨h1, h2⟩ | ⟨h1, h2⟩
  · rw [h1, h2]
    simp [joinB, joinTo]
    exact hall
  · rw [if_pos h1, data_append]
    show (_ ++ [UInt8.ofNat sep]) ++ _ = _
    rw [h2, take_more _ _ _ hle.1, hall]
end Go.Proofs.Ytedmkdjijhflnaa
/- Contracts of the functions that make letters small and hold texts against one another: small, Lower, Like. -/
namespace Go.Proofs.Ytedmkdjijhflnaa
open Go.RowKit
set_option linter.unusedVariables false
set_option maxRecDepth 20000

/-- A byte, as the small letter if it is a great one. -/
def lowC (n : Nat) : Nat := if 65 ≤ n ∧ n ≤ 90 then n + 32 else n
theorem lowC_le {n : Nat} (h : n < 256) : lowC n < 256 := by unfold lowC; split <;> omega
theorem lowC_low (n : Nat) : lowC (lowC n) = lowC n := by
  by_cases h : 65 ≤ n ∧ n ≤ 90
  · have e : lowC n = n + 32 := by unfold lowC; rw [if_pos h]
    rw [e]; unfold lowC; rw [if_neg (by omega)]
  · have e : lowC n = n := by unfold lowC; rw [if_neg h]
    rw [e, e]
def lowU (c : UInt8) : UInt8 := UInt8.ofNat (lowC c.toNat)
theorem lowU_toNat (c : UInt8) : (lowU c).toNat = lowC c.toNat := by
  unfold lowU
  rw [UInt8.toNat_ofNat']
  exact Nat.mod_eq_of_lt (lowC_le c.toNat_lt)
theorem lowU_low (c : UInt8) : lowU (lowU c) = lowU c := by
  apply UInt8.toNat_inj.1
  rw [lowU_toNat, lowU_toNat, lowC_low]
/-- A text with small letters. -/
def lowB (s : ByteArray) : ByteArray := ⟨(s.data.toList.map lowU).toArray⟩
theorem lowB_list (s : ByteArray) : (lowB s).data.toList = s.data.toList.map lowU := by simp [lowB]
theorem lowB_size (s : ByteArray) : (lowB s).size = s.size := by
  have : (lowB s).data.toList.length = s.data.toList.length := by rw [lowB_list]; simp
  simpa using this
theorem lowB_low (s : ByteArray) : lowB (lowB s) = lowB s := by
  apply bytes_ext
  rw [lowB_list, lowB_list, List.map_map]
  congr 1
  funext c
  exact lowU_low c
def likeB (a b : ByteArray) : Bool := (lowB a).toList == (lowB b).toList
theorem likeB_iff (a b : ByteArray) : likeB a b = true ↔ a.data.toList.map lowU = b.data.toList.map lowU := by
  unfold likeB
  rw [beq_iff_eq, ByteArray.toList_eq, ByteArray.toList_eq, lowB_list, lowB_list]
theorem likeB_symm (a b : ByteArray) : likeB a b = likeB b a := by
  rw [Bool.eq_iff_iff, likeB_iff, likeB_iff]
  exact eq_comm
theorem likeB_low (a : ByteArray) : likeB a (lowB a) = true := by
  rw [likeB_iff, lowB_list, List.map_map]
  congr 1
  funext c
  exact (lowU_low c).symm
theorem likeB_size {a b : ByteArray} (h : a.size ≠ b.size) : likeB a b = false := by
  cases hl : likeB a b with
  | false => rfl
  | true =>
    rw [likeB_iff] at hl
    have := congrArg List.length hl
    simp at this
    omega
def LikeTo (a b : ByteArray) (k : Nat) : Prop := ∀ j (ha : j < a.size) (hb : j < b.size), j < k → lowC (a[j]).toNat = lowC (b[j]).toNat
theorem likeTo_zero (a b : ByteArray) : LikeTo a b 0 := fun _ _ _ h => by omega
theorem likeTo_succ {a b : ByteArray} {k : Nat} (h : LikeTo a b k) (ha : k < a.size) (hb : k < b.size) (he : lowC (a[k]).toNat = lowC (b[k]).toNat) : LikeTo a b (k + 1) := by
  intro j ja jb hlt
  by_cases e : j = k
  · subst e; exact he
  · exact h j ja jb (by omega)
theorem likeB_true {a b : ByteArray} {k : Nat} (h : LikeTo a b k) (hs : a.size = b.size) (hk : a.size ≤ k) : likeB a b = true := by
  rw [likeB_iff]
  apply List.ext_getElem
  · simpa using hs
  · intro j h1 h2
    have j1 : j < a.size := by simpa using h1
    have j2 : j < b.size := by simpa using h2
    rw [List.getElem_map, List.getElem_map]
    apply UInt8.toNat_inj.1
    rw [lowU_toNat, lowU_toNat]
    exact h j j1 j2 (by omega)
theorem likeB_false {a b : ByteArray} {k : Nat} (ha : k < a.size) (hb : k < b.size) (he : lowC (a[k]).toNat ≠ lowC (b[k]).toNat) : likeB a b = false := by
  cases hl : likeB a b with
  | false => rfl
  | true =>
    rw [likeB_iff] at hl
    have h1 : (a.data.toList.map lowU)[k]? = (b.data.toList.map lowU)[k]? := by rw [hl]
    rw [List.getElem?_eq_getElem (by simpa using ha), List.getElem?_eq_getElem (by simpa using hb), List.getElem_map, List.getElem_map] at h1
    have h2 := congrArg UInt8.toNat (Option.some.inj h1)
    rw [lowU_toNat, lowU_toNat] at h2
    exact absurd h2 he

set_option maxHeartbeats 400000 in
theorem small_any (c : Nat) (w : World) (hc : c < 256) :
    Calls Try.prog 53 #[.int .u8 (c : Int)] w fun e w' => e = .returned (.int .u8 ((lowC c : Nat) : Int)) ∧ w = w' := by
  by_cases h : 65 ≤ c ∧ c ≤ 90
  · have e : lowC c = c + 32 := by unfold lowC; rw [if_pos h]
    rw [e]
    go_enter Try.func53, Try.ntmps53
    go_wp2
    go_ret
    refine ⟨?_, rfl⟩
    have e2 : IntKind.u8.wrap ((c : Int) + 32) = ((c + 32 : Nat) : Int) := by rw [IntKind.wrap_u8]; omega
    first | rfl | rw [e2] | simp [e2]
  · have e : lowC c = c := by unfold lowC; rw [if_neg h]
    rw [e]
    by_cases h1 : c < 65
    · go_enter Try.func53, Try.ntmps53
      go_wp2
      go_ret
      exact ⟨rfl, rfl⟩
    · have h2 : 90 < c := by omega
      go_enter Try.func53, Try.ntmps53
      go_wp2
      go_ret
      exact ⟨rfl, rfl⟩

set_option maxHeartbeats 400000 in
theorem like_any (a b : ByteArray) (w : World) (ha : a.size ≤ 2000000) (hb : b.size ≤ 2000000) :
    Calls Try.prog 47 #[.string a, .string b] w fun e w' => e = .returned (.bool (likeB a b)) ∧ ∃ q, w' = w.drewN q := by
  by_cases hs : a.size = b.size
  · have HS := Lib.hid hs
    have hs1 : ((a.size : Int) != (b.size : Int)) = false := by simp [hs]
    have hs2 : a.size ≤ b.size := by omega
    clear hs
    go_enter Try.func47, Try.ntmps47
    go_wp2
    go_loopw [13] (fun i wr => ∃ k q : Nat, k ≤ a.size ∧ i = .int .i64 k ∧ LikeTo a b k ∧ wr = w.drewN q) (fun i _ => a.size - (intOf i).toNat)
    case atStart => exact ⟨0, 0, Nat.zero_le _, rfl, likeTo_zero _ _, rfl⟩
    case round =>
      obtain ⟨k, q, hk, rfl, hlk, rfl⟩ := hrel
      by_cases hlt : k < a.size
      · have hltb : k < b.size := by omega
        have b0 : (0 : Int) ≤ (k : Int) := by omega
        have b1 : (k : Int) < (a.size : Int) := by omega
        have b2 : (k : Int) < (b.size : Int) := by omega
        have u1 : (a[k]).toNat < 256 := (a[k]).toNat_lt
        have u2 : (b[k]).toNat < 256 := (b[k]).toNat_lt
        by_cases he : lowC (a[k]).toNat = lowC (b[k]).toNat
        · have ht : ((lowC (a[k]).toNat : Int) != (lowC (b[k]).toNat : Int)) = false := by simp [he]
          have HE := Lib.hid he
          clear he
          go_wp2
          go_quiet ((go_at_call 53; first | exact quiet_left (small_any _ _ (by assumption)) | exact quiet_add_left (small_any _ _ (by assumption))))
          go_wp2
          go_roundw
          case rel => exact ⟨k + 1, _, by omega, by go_num, likeTo_succ hlk hlt hltb HE.out, rfl⟩
          case measure => simp [intOf]; omega
        · have ht : ((lowC (a[k]).toNat : Int) != (lowC (b[k]).toNat : Int)) = true := by simp; omega
          have HE := Lib.hid he
          clear he
          go_wp2
          go_quiet ((go_at_call 53; first | exact quiet_left (small_any _ _ (by assumption)) | exact quiet_add_left (small_any _ _ (by assumption))))
          go_wp2
          go_ret
          exact ⟨bool_ret (likeB_false hlt hltb HE.out).symm, by first | exact ⟨_, rfl⟩ | exact ⟨_, World.drewN_drewN _ _ _⟩⟩
      · go_wp2
        go_ret
        exact ⟨bool_ret (likeB_true hlk HS.out (by omega)).symm, _, rfl⟩
  · have hs1 : ((a.size : Int) != (b.size : Int)) = true := by simp; omega
    have HS := Lib.hid hs
    clear hs
    go_enter Try.func47, Try.ntmps47
    go_wp2
    go_ret
    exact ⟨bool_ret (likeB_size HS.out).symm, 0, rfl⟩

/-- The row of bytes that Lower works on, its first k bytes made small. -/
def LowAt (w : World) (s : ByteArray) (k : Nat) (wr : World) : Prop :=
  Below w.heap.size w wr ∧ w.heap.size < wr.heap.size ∧ ∀ j (hj : j < s.size), wr.cell? ⟨w.heap.size, j, none⟩ = some (.int .u8 ((if j < k then lowC (s[j]).toNat else (s[j]).toNat : Nat) : Int)) ∧ wr.frozen? ⟨w.heap.size, j, none⟩ = false
theorem lowAt_start (w : World) (s : ByteArray) : LowAt w s 0 (Lib.bytesWorld w 5 s) := by
  refine ⟨⟨rfl, rfl, rfl, by rw [Lib.bytesWorld_size]; omega, fun k hk => Lib.bytesWorld_at_old w _ s k hk⟩, by rw [Lib.bytesWorld_size]; omega, fun j hj => ⟨?_, ?_⟩⟩
  · rw [Lib.bytesWorld_cell w _ s j hj, if_neg (by omega)]
    have e : s.data.toList.getD j 0 = s[j] := by
      rw [List.getD_eq_getElem?_getD, List.getElem?_eq_getElem (by simpa using hj)]; rfl
    rw [e]
  · unfold World.frozen?
    rw [Lib.bytesWorld_at_new]
    have : s.size ≤ (Lib.bytesCells w 5 s).size := by simp [Lib.bytesCells]
    simp
    omega
theorem lowAt_step {w : World} {s : ByteArray} {k : Nat} {wr : World} (h : LowAt w s k wr) (hk : k < s.size) : LowAt w s (k + 1) (wr.setCell ⟨w.heap.size, k, none⟩ (.int .u8 ((lowC (s[k]).toNat : Nat) : Int))) := by
  obtain ⟨h1, h2, h3⟩ := h
  refine ⟨h1.setCell (Nat.le_refl _) _, by simpa [World.setCell] using h2, fun j hj => ⟨?_, by rw [World.frozen?_setCell]; exact (h3 j hj).2⟩⟩
  by_cases e : j = k
  · subst e
    rw [World.cell?_setCell_same _ _ _ (h3 j hj).1, if_pos (by omega)]
  · rw [World.cell?_setCell_other _ _ _ _ (by intro h; injection h; omega), (h3 j hj).1]
    by_cases hlt : j < k
    · rw [if_pos hlt, if_pos (by omega)]
    · rw [if_neg hlt, if_neg (by omega)]
theorem lowAt_back {w : World} {s : ByteArray} {wr : World} (cap : Nat) (h : LowAt w s s.size wr) :
    (convert 115 9 (.slice (some ⟨w.heap.size, 0, none⟩) s.size cap)).run Try.prog wr = .ok (.string (lowB s)) wr := by
  have hl : (s.data.toList.map lowU).length = s.size := by simp
  have hb := run_convert_bytes_back (P := Try.prog) wr 115 9 5 ⟨w.heap.size, 0, none⟩ cap (s.data.toList.map lowU) Try.underlying115 Try.underlying5 Try.underlying9 (by
    intro j hj
    have hj' : j < s.size := by omega
    have := (h.2.2 j hj').1
    rw [if_pos hj'] at this
    rw [List.getElem_map, lowU_toNat]
    rw [add_none]
    exact this)
  rw [hl] at hb
  exact hb

set_option maxHeartbeats 400000 in
theorem lower_any (s : ByteArray) (w : World) (hs : s.size ≤ 2000000) :
    Calls Try.prog 51 #[.string s] w fun e w' => e = .returned (.string (lowB s)) ∧ Below w.heap.size w w' := by
  have hconv := fun W => Lib.run_convert_string_bytes (P := Try.prog) W 9 115 5 s Try.underlying9 Try.underlying115 Try.underlying5
  have hst := lowAt_start w s
  go_enter Try.func51, Try.ntmps51
  go_wp2
  generalize grownCap w s.size 0 5 = cap
  clear hconv
  generalize Lib.bytesWorld w 5 s = W1 at *
  go_loopw [10] (fun i wr => ∃ k : Nat, k ≤ s.size ∧ i = .int .i64 k ∧ LowAt w s k wr) (fun i _ => s.size - (intOf i).toNat)
  case atStart => exact ⟨0, Nat.zero_le _, rfl, hst⟩
  case round =>
    obtain ⟨k, hk, rfl, hat⟩ := hrel
    by_cases hlt : k < s.size
    · have hc := (hat.2.2 k hlt).1
      have hf := (hat.2.2 k hlt).2
      rw [if_neg (by omega)] at hc
      have u1 : (s[k]).toNat < 256 := (s[k]).toNat_lt
      have hnext := lowAt_step hat hlt
      go_wp2_with fail
      refine (small_any _ _ u1).mono ?_
      rintro e w' ⟨rfl, rfl⟩
      go_wp2
      go_roundw
      case rel => exact ⟨k + 1, by omega, by go_num, hnext⟩
      case measure => simp [intOf]; omega
    · obtain rfl : k = s.size := by omega
      have hb := lowAt_back cap hat
      have hbel := hat.1
      go_wp2
      go_ret
      exact ⟨rfl, hbel⟩

theorem low_snoc (s : ByteArray) (k : Nat) (h : k < s.size) : (s.data.toList.map lowU).take (k + 1) = (s.data.toList.map lowU).take k ++ [lowU s[k]] := by
  rw [List.take_succ_eq_append_getElem (by simpa using h)]
  simp
  rfl

set_option maxHeartbeats 400000 in
theorem refLower_any (s : ByteArray) (w : World) (hs : s.size ≤ 2000000) :
    Calls Try.prog 49 #[.string s] w fun e w' => e = .returned (.string (lowB s)) ∧ Below w.heap.size w w' := by
  obtain ⟨i0, hi0, hz0, hz1, hz2⟩ := info_parts Try.infoByte
  go_enter Try.func49, Try.ntmps49
  go_wp2
  go_loopw [3, 4] (fun v i wr => ∃ k : Nat, k ≤ s.size ∧ i = .int .i64 k ∧ wr.ownsRow w.heap.size 5 1 v ((s.data.toList.map lowU).take k).length (bys ((s.data.toList.map lowU).take k)) ∧ Below w.heap.size w wr) (fun _ i _ => s.size - (intOf i).toNat)
  case atStart => exact ⟨0, Nat.zero_le _, rfl, World.ownsRow_nil _ _ _ _, Below.refl _ _⟩
  case round =>
    obtain ⟨k, hk, rfl, hown, hbel⟩ := hrel
    have hsz := hbel.size
    by_cases hlt : k < s.size
    · have HS := Lib.hid (low_snoc s k hlt)
      have hl : ((s.data.toList.map lowU).take k).length ≤ k := List.length_take_le _ _
      generalize (s.data.toList.map lowU).take k = l at *
      have u1 : (s[k]).toNat < 256 := (s[k]).toNat_lt
      by_cases hc : 65 ≤ (s[k]).toNat ∧ (s[k]).toNat ≤ 90
      · have hx : (s[k]).toNat + 32 = (lowU s[k]).toNat := by rw [lowU_toNat]; unfold lowC; rw [if_pos hc]
        have HX := Lib.hid hx
        clear hx
        have hw : IntKind.u8.wrap (((s[k]).toNat : Int) + 32) = ((s[k]).toNat : Int) + 32 := by rw [IntKind.wrap_u8]; omega
        go_wp2_with (at_builtin; refine wpList_append_own _ rfl (.tmp 23) (.tmp 25) 115 rfl w.heap.size 5 i0 _ 1 1 Try.underlying115 hi0 hz0 hz1 hz2 rfl (by decide) _ _ _ rfl (hown.alloc _) ⟨wr.heap.size, 0, none⟩ 1 1 [.int .u8 (((s[k]).toNat : Int) + 32)] rfl rfl ?c1 ?c2 ?c3 ?c4 ?c5 ?_)
        case c1 => exact cell_one_new _ _ _
        case c2 => intro u hu; simp at hu; subst hu; rfl
        case c3 => unfold maxLen; omega
        case c4 => omega
        case c5 => simp; omega
        intro v' w1 hown' hgrow _
        rw [show (((s[k]).toNat : Int) + 32) = ((lowU s[k]).toNat : Int) by have := HX.out; omega] at hown'
        have R := own_byte hown' hgrow hown hbel
        clear hown' hgrow hown hbel hw
        go_wp2
        go_roundw
        case rel => exact ⟨k + 1, by omega, by go_num, by rw [HS.out]; exact R.1, R.2⟩
        case measure => simp [intOf]; omega
      · have hx : (s[k]).toNat = (lowU s[k]).toNat := by rw [lowU_toNat]; unfold lowC; rw [if_neg hc]
        have HX := Lib.hid hx
        clear hx
        have hcc : (s[k]).toNat < 65 ∨ 90 < (s[k]).toNat := by omega
        clear hc
        rcases hcc with hc | hc
        all_goals
          go_wp2_with (at_builtin; refine wpList_append_own _ rfl (.tmp 23) (.tmp 25) 115 rfl w.heap.size 5 i0 _ 1 1 Try.underlying115 hi0 hz0 hz1 hz2 rfl (by decide) _ _ _ rfl (hown.alloc _) ⟨wr.heap.size, 0, none⟩ 1 1 [.int .u8 ((s[k]).toNat : Int)] rfl rfl (cell_one_new _ _ _) (by intro u hu; simp at hu; subst hu; rfl) (by unfold maxLen; omega) (by omega) (by simp; omega) ?_)
          intro v' w1 hown' hgrow _
          rw [HX.out] at hown'
          have R := own_byte hown' hgrow hown hbel
          clear hown' hgrow hown hbel
          go_wp2
          go_roundw
          case rel => exact ⟨k + 1, by omega, by go_num, by rw [HS.out]; exact R.1, R.2⟩
          case measure => simp [intOf]; omega
    · obtain rfl : k = s.size := by omega
      have hb := own_bytes_back hown
      have e : (⟨((s.data.toList.map lowU).take s.size).toArray⟩ : ByteArray) = lowB s := by
        rw [List.take_of_length_le (by simp)]; rfl
      rw [e] at hb
      clear hown e
      go_wp2
      go_ret
      exact ⟨rfl, hbel⟩

set_option maxHeartbeats 400000 in
theorem refLike_any (a b : ByteArray) (w : World) (ha : a.size ≤ 2000000) (hb : b.size ≤ 2000000) :
    Calls Try.prog 38 #[.string a, .string b] w fun e w' => e = .returned (.bool (likeB a b)) ∧ Below w.heap.size w w' := by
  have HL : Hid (likeB a b = ((lowB a).toList == (lowB b).toList)) := rfl
  go_enter Try.func38, Try.ntmps38
  go_wp2_with fail
  refine (refLower_any a _ ha).mono ?_
  rintro e w1 ⟨rfl, hb1⟩
  go_wp2_with fail
  refine (refLower_any b _ hb).mono ?_
  rintro e w2 ⟨rfl, hb2⟩
  go_wp2
  go_ret
  exact ⟨bool_ret HL.out.symm, chain hb1 hb2⟩

end Go.Proofs.Ytedmkdjijhflnaa
/- Contracts of the reference's layer 8: Labels, size, May, Rest, Under. -/
namespace Go.Proofs.Ytedmkdjijhflnaa
open Go.RowKit
set_option linter.unusedVariables false
set_option maxRecDepth 20000

/-- A name's labels. -/
def labelsB (s : ByteArray) : List ByteArray := if s.size = 0 then [] else pieces s 46
/-- A row of texts, which may be nil. -/
def RowS (w : World) (a : Option Addr) (c : Nat) (l : List ByteArray) : Prop := (a = none ∧ c = 0 ∧ l = []) ∨ ∃ g, a = some ⟨g, 0, none⟩ ∧ StrRow w g l.length c l
theorem RowS.below {w w' : World} {a : Option Addr} {c : Nat} {l : List ByteArray} (h : RowS w a c l) (hb : Below w.heap.size w w') : RowS w' a c l := by
  rcases h with h | ⟨g, e, h⟩
  · exact .inl h
  · exact .inr ⟨g, e, h.below hb⟩
theorem RowS.cap {w : World} {a : Option Addr} {c : Nat} {l : List ByteArray} (h : RowS w a c l) : l.length ≤ c ∧ c ≤ maxLen := by
  rcases h with ⟨_, rfl, rfl⟩ | ⟨g, e, h⟩
  · exact ⟨Nat.le_refl _, Nat.zero_le _⟩
  · exact ⟨h.cap, h.capm⟩
theorem labels_small (s : ByteArray) : ∀ p ∈ labelsB s, p.size ≤ s.size := by
  unfold labelsB
  split
  · intro p hp; cases hp
  · exact pieces_small s 46
theorem labels_len (s : ByteArray) : (labelsB s).length ≤ s.size + 1 := by
  unfold labelsB
  split
  · simp
  · exact pieces_len s 46
/-- How many bytes names of these labels have. -/
def sizeTo (l : List ByteArray) : Nat → Nat
  | 0 => 1
  | k + 1 => sizeTo l k + 1 + (l.getD k ⟨#[]⟩).size
def sizeL (l : List ByteArray) : Nat := sizeTo l l.length
theorem sizeTo_le {l : List ByteArray} (h : ∀ p ∈ l, p.size ≤ 2000000) : ∀ k, sizeTo l k ≤ 1 + k * 2000001
  | 0 => by simp [sizeTo]
  | k + 1 => by
    have h1 := sizeTo_le h k
    have h2 := getD_small h k
    unfold sizeTo
    omega
/-- A name of these labels may be. -/
def MayL (l : List ByteArray) : Prop := (∀ k, k < l.length → 1 ≤ (l.getD k ⟨#[]⟩).size ∧ (l.getD k ⟨#[]⟩).size ≤ 63) ∧ sizeL l ≤ 255
instance (l : List ByteArray) : Decidable (MayL l) := by unfold MayL; infer_instance
def mayN (s : ByteArray) : Bool := decide (MayL (labelsB s))
end Go.Proofs.Ytedmkdjijhflnaa
/- A record (api.Record: 23 cells) in memory: its cells, read whole or in part; rows of records. -/
namespace Go.Proofs.Ytedmkdjijhflnaa
open Go.RowKit
set_option linter.unusedVariables false
set_option maxRecDepth 20000

structure Rec where
  name : ByteArray
  ty : Int
  cl : Int
  ttl : Int
  f : Int
  b : List Nat
  tg : ByteArray
  da : ByteArray
deriving DecidableEq
def recL (r : Rec) : List Value := [Value.string r.name, .int .i64 r.ty, .int .i64 r.cl, .int .i64 r.ttl] ++ addrL r.f r.b ++ [.string r.tg, .string r.da]
def recV (r : Rec) : Value := .agg (recL r).toArray
theorem recL_len (r : Rec) (h : r.b.length = 16) : (recL r).length = 23 := by simp [recL, addrL_len r.f r.b h]
theorem recL_one (r : Rec) : ∀ u ∈ recL r, u.oneCell' = true := by
  intro u hu
  unfold recL at hu
  rcases List.mem_append.1 hu with hu | hu
  · rcases List.mem_append.1 hu with hu | hu
    · simp at hu
      rcases hu with rfl | rfl | rfl | rfl <;> rfl
    · have := addrL_one r.f r.b
      rw [Array.all_eq_true_iff_forall_mem] at this
      exact this u (by simpa using hu)
  · simp at hu
    rcases hu with rfl | rfl <;> rfl
theorem rec_size : (Try.prog.info? 44).map (·.size) = some 23 := by kernel_rfl
/-- A record's parts, where it lies. -/
structure RecIn (w : World) (G o : Nat) (r : Rec) : Prop where
  name : w.cell? ⟨G, o, none⟩ = some (.string r.name)
  ty : w.cell? ⟨G, o + 1, none⟩ = some (.int .i64 r.ty)
  cl : w.cell? ⟨G, o + 2, none⟩ = some (.int .i64 r.cl)
  ttl : w.cell? ⟨G, o + 3, none⟩ = some (.int .i64 r.ttl)
  addr : w.rangeAt G (o + 4) (addrL r.f r.b)
  tg : w.cell? ⟨G, o + 21, none⟩ = some (.string r.tg)
  da : w.cell? ⟨G, o + 22, none⟩ = some (.string r.da)
theorem RecIn.fam {w : World} {G o : Nat} {r : Rec} (h : RecIn w G o r) : w.cell? ⟨G, o + 4, none⟩ = some (.int .i64 r.f) := h.addr 0 _ rfl
theorem rec_parts {w : World} {G o : Nat} {r : Rec} (h : w.rangeAt G o (recL r)) (h16 : r.b.length = 16) : RecIn w G o r := by
  have hl := addrL_len r.f r.b h16
  have e1 : ∀ j, j < 17 → (recL r)[4 + j]? = (addrL r.f r.b)[j]? := fun j hj => by
    unfold recL
    rw [List.append_assoc, List.getElem?_append_right (by simp), List.getElem?_append_left (by simp [hl]; omega)]
    congr 1
    simp
  refine ⟨h 0 _ rfl, h 1 _ rfl, h 2 _ rfl, h 3 _ rfl, fun j u hu => ?_, ?_, ?_⟩
  · have hj : j < 17 := by
      have := (List.getElem?_eq_some_iff.1 hu).1
      omega
    have := h (4 + j) u (by rw [e1 j hj]; exact hu)
    rw [← Nat.add_assoc] at this
    exact this
  · refine h 21 _ ?_
    unfold recL
    rw [List.getElem?_append_right (by simp [hl])]
    simp [hl]
  · refine h 22 _ ?_
    unfold recL
    rw [List.getElem?_append_right (by simp [hl])]
    simp [hl]
theorem RecIn.below {w w' : World} {G o : Nat} {r : Rec} (h : RecIn w G o r) (hb : Below w.heap.size w w') : RecIn w' G o r := by
  have hlt : G < w.heap.size := World.block_lt_of_cell? w ⟨G, o, none⟩ h.name
  exact ⟨(hb.cell (p := ⟨G, o, none⟩) hlt).trans h.name, (hb.cell (p := ⟨G, o + 1, none⟩) hlt).trans h.ty, (hb.cell (p := ⟨G, o + 2, none⟩) hlt).trans h.cl, (hb.cell (p := ⟨G, o + 3, none⟩) hlt).trans h.ttl, fun j u hu => (hb.cell (p := ⟨G, o + 4 + j, none⟩) hlt).trans (h.addr j u hu), (hb.cell (p := ⟨G, o + 21, none⟩) hlt).trans h.tg, (hb.cell (p := ⟨G, o + 22, none⟩) hlt).trans h.da⟩
/-- A record boxed. -/
theorem rec_boxed (r : Rec) (w : World) (h16 : r.b.length = 16) : ∃ cs : Array Value, recV r = .agg cs ∧ Hid (RecIn (w.alloc (.cells cs 44)) w.heap.size 0 r) ∧ Hid (Below w.heap.size w (w.alloc (.cells cs 44))) := by
  refine ⟨_, rfl, Lib.hid (rec_parts (fun j u hu => ?_) h16), Lib.hid ((Below.refl _ _).alloc (Nat.le_refl _) _)⟩
  rw [World.cell?_alloc_new, Nat.zero_add]
  simpa using hu
/-- A record, loaded whole. -/
theorem load_rec {ops : Array Oper} {rest : List Oper} {op : Oper} {a : Act} {w : World} {Q : Exit → Act → World → Prop} {G o : Nat} {r : Rec} (hl : Hid (r.b.length = 16)) (hA : Hid (w.rangeAt G o (recL r))) (x : Operand) (hw : Region.wanted op (yielded ops a.tmps) = true) (ho : op.op = .load 44 x)
    (hx : a.eval x = .pointer (some ⟨G, o, none⟩)) (h : wpList Try.prog ops Q rest (a.put op.dst (recV r)) w) : wpList Try.prog ops Q (op :: rest) a w :=
  wpList_load_row hw 44 x ho G o hx (recL r) _ hA.out Try.underlying44 rfl (by rw [rec_size, recL_len r hl.out]) h
/-- An address, loaded whole from wherever it lies. -/
theorem load_addr_o {ops : Array Oper} {rest : List Oper} {op : Oper} {a : Act} {w : World} {Q : Exit → Act → World → Prop} {G o : Nat} {f : Int} {bs : List Nat} (hl : Hid (bs.length = 16)) (hA : Hid (w.rangeAt G o (addrL f bs))) (x : Operand) (hw : Region.wanted op (yielded ops a.tmps) = true) (ho : op.op = .load 42 x)
    (hx : a.eval x = .pointer (some ⟨G, o, none⟩)) (h : wpList Try.prog ops Q rest (a.put op.dst (addrV f bs)) w) : wpList Try.prog ops Q (op :: rest) a w :=
  wpList_load_row hw 42 x ho G o hx (addrL f bs) _ hA.out Try.underlying42 rfl (by rw [addr_size, addrL_len f bs hl.out]) h
/-- Rows of records that lie somewhere, or none. -/
def flatR (D : List Rec) : List Value := D.flatMap recL
def Fit (r : Rec) : Prop := r.b.length = 16 ∧ (∀ x ∈ r.b, x < 256) ∧ (Lit.int .i64 r.ty).wf = true ∧ (Lit.int .i64 r.cl).wf = true ∧ (Lit.int .i64 r.ttl).wf = true ∧ (Lit.int .i64 r.f).wf = true ∧ r.name.size ≤ maxLen ∧ r.tg.size ≤ maxLen ∧ r.da.size ≤ maxLen
def RecsAt (w : World) (a : Option Addr) (cap : Nat) (D : List Rec) : Prop :=
  D.length ≤ cap ∧ cap ≤ maxLen ∧ (∀ r ∈ D, Fit r) ∧ (D.length = 0 ∨ ∃ g o, a = some ⟨g, o, none⟩ ∧ g < w.heap.size ∧ w.rangeAt g o (flatR D))
theorem RecsAt.below {w w' : World} {a : Option Addr} {cap : Nat} {D : List Rec} (h : RecsAt w a cap D) (hb : Below w.heap.size w w') : RecsAt w' a cap D := by
  obtain ⟨h1, h2, h3, h4⟩ := h
  refine ⟨h1, h2, h3, ?_⟩
  rcases h4 with h4 | ⟨g, o, e, hg, hr⟩
  · exact .inl h4
  · exact .inr ⟨g, o, e, Nat.lt_of_lt_of_le hg hb.size, fun j u hu => (hb.cell (p := ⟨g, o + j, none⟩) hg).trans (hr j u hu)⟩
theorem RecsAt.at {w : World} {a : Option Addr} {cap : Nat} {D : List Rec} (h : RecsAt w a cap D) (k : Nat) (hk : k < D.length) : ∃ g o, a = some ⟨g, o, none⟩ ∧ g < w.heap.size ∧ w.rangeAt g (o + k * 23) (recL D[k]) := by
  obtain ⟨h1, h2, h3, h4⟩ := h
  rcases h4 with h4 | ⟨g, o, e, hg, hr⟩
  · omega
  · exact ⟨g, o, e, hg, range_at hr (fun d hd => recL_len d (h3 d hd).1) k hk⟩
end Go.Proofs.Ytedmkdjijhflnaa
/- A record of one's own in memory: stored whole and in part, given back. -/
namespace Go.Proofs.Ytedmkdjijhflnaa
open Go.RowKit
set_option linter.unusedVariables false
set_option maxRecDepth 20000

/-- A record lies at G, and may be written. -/
structure RecAt (w : World) (G : Nat) (r : Rec) : Prop where
  len : r.b.length = 16
  lt : G < w.heap.size
  range : w.rangeAt G 0 (recL r)
  there : w.there G 0 23
section
variable {w w' : World} {G : Nat} {r : Rec}
theorem RecAt.below (h : RecAt w G r) (hb : Below w.heap.size w w') : RecAt w' G r :=
  ⟨h.len, Nat.lt_of_lt_of_le h.lt hb.size, fun j u hu => by rw [hb.cell (p := ⟨G, 0 + j, none⟩) h.lt]; exact h.range j u hu, fun j hj => by
    rw [hb.cell (p := ⟨G, 0 + j, none⟩) h.lt, hb.frozen (p := ⟨G, 0 + j, none⟩) h.lt]
    exact h.there j hj⟩
theorem RecAt.parts (h : RecAt w G r) : RecIn w G 0 r := rec_parts h.range h.len
theorem RecAt.cell (h : RecAt w G r) (k : Nat) (v : Value) (hv : (recL r)[k]? = some v) : w.cell? ⟨G, k, none⟩ = some v := by
  have := h.range k v hv
  rwa [Nat.zero_add] at this
theorem RecAt.live (h : RecAt w G r) (k : Nat) (hk : k < 23) : w.frozen? ⟨G, k, none⟩ = false := by
  have := (h.there k hk).2
  rwa [Nat.zero_add] at this
theorem RecAt.stored (h : RecAt w G r) (s : Rec) (hl : s.b.length = 16) : RecAt (w.setCells G 0 (recL s)) G s := by
  have ht : w.there G 0 (recL s).length := by rw [recL_len s hl]; exact h.there
  exact ⟨hl, by rw [size_setCells]; exact h.lt, World.rangeAt_setCells_same w G 0 _ ht, World.there_setCells h.there G 0 _⟩
theorem RecAt.other (h : RecAt w G r) {G' : Nat} (hG : G' ≠ G) (k : Nat) (v : Value) : RecAt (w.setCell ⟨G', k, none⟩ v) G r := by
  have hn : ∀ j, (⟨G', k, none⟩ : Addr) ≠ ⟨G, j, none⟩ := fun j h2 => by injection h2 with h3 _ _; exact hG h3
  refine ⟨h.len, by simpa using h.lt, fun j u hu => ?_, fun j hj => ⟨?_, ?_⟩⟩
  · rw [World.cell?_setCell_other _ _ _ _ (hn _)]; exact h.range j u hu
  · rw [World.cell?_setCell_other _ _ _ _ (hn _)]; exact (h.there j hj).1
  · rw [World.frozen?_setCell]; exact (h.there j hj).2
theorem RecAt.apart (h : RecAt w G r) {G' o : Nat} (hG : G ≠ G') (vs : List Value) : RecAt (w.setCells G' o vs) G r :=
  ⟨h.len, by rw [size_setCells]; exact h.lt, World.rangeAt_setCells_apart h.range G' o vs (.inl hG), World.there_setCells h.there G' o vs⟩
/-- One cell of it written. -/
theorem RecAt.set (h : RecAt w G r) (k : Nat) (v : Value) (s : Rec) (hs : s.b.length = 16) (hk : k < 23) (hL : recL s = (recL r).set k v) : RecAt (w.setCell ⟨G, k, none⟩ v) G s := by
  have hl := recL_len r h.len
  obtain ⟨u0, hu0⟩ : ∃ u, (recL r)[k]? = some u := ⟨_, List.getElem?_eq_getElem (by omega)⟩
  refine ⟨hs, by simpa using h.lt, fun j u hu => ?_, fun j hj => ⟨?_, ?_⟩⟩
  · rw [Nat.zero_add]
    rw [hL] at hu
    by_cases e : j = k
    · subst e
      rw [List.getElem?_set_self (by omega)] at hu
      cases hu
      exact World.cell?_setCell_same _ _ _ (h.cell j u0 hu0)
    · rw [List.getElem?_set_ne (fun e2 => e e2.symm)] at hu
      rw [World.cell?_setCell_other _ _ _ _ (by intro h2; injection h2 with _ h3 _; omega)]
      exact h.cell j u hu
  · rw [Nat.zero_add]
    by_cases e : j = k
    · subst e
      rw [World.cell?_setCell_same _ _ _ (h.cell j u0 hu0)]
      rfl
    · rw [World.cell?_setCell_other _ _ _ _ (by intro h2; injection h2 with _ h3 _; omega)]
      have := (h.there j hj).1
      rwa [Nat.zero_add] at this
  · rw [World.frozen?_setCell]
    exact (h.there j hj).2
end
theorem recL_ty (r : Rec) (x : Int) : recL { r with ty := x } = (recL r).set 1 (.int .i64 x) := rfl
theorem recL_ttl (r : Rec) (x : Int) : recL { r with ttl := x } = (recL r).set 3 (.int .i64 x) := rfl
theorem recL_fam (r : Rec) (x : Int) : recL { r with f := x } = (recL r).set 4 (.int .i64 x) := rfl
theorem recL_tg (r : Rec) (h16 : r.b.length = 16) (x : ByteArray) : recL { r with tg := x } = (recL r).set 21 (.string x) := by
  have hl := addrL_len r.f r.b h16
  unfold recL
  rw [List.set_append_right _ _ (by simp [hl])]
  simp [hl]
theorem recL_da (r : Rec) (h16 : r.b.length = 16) (x : ByteArray) : recL { r with da := x } = (recL r).set 22 (.string x) := by
  have hl := addrL_len r.f r.b h16
  unfold recL
  rw [List.set_append_right _ _ (by simp [hl])]
  simp [hl]
theorem recL_byte (r : Rec) (h16 : r.b.length = 16) (i v : Nat) (hi : i < 16) : recL { r with b := r.b.set i v } = (recL r).set (5 + i) (.int .u8 (v : Int)) := by
  have hl := addrL_len r.f r.b h16
  unfold recL
  rw [List.set_append_left _ _ (by simp [hl]; omega), List.set_append_right _ _ (by simp; omega)]
  have e : addrL r.f (r.b.set i v) = (addrL r.f r.b).set (i + 1) (.int .u8 (v : Int)) := by
    unfold addrL
    rw [List.set_cons_succ, List.map_set]
  rw [e]
  congr 3
  show i + 1 = 5 + i - 4
  omega
theorem RecAt.of (w : World) (t : TypeId) (cs : Array Value) (r : Rec) (h16 : r.b.length = 16) (h : cs.toList = recL r) : RecAt (w.alloc (.cells cs t)) w.heap.size r := by
  have e : ∀ j, cs[j]? = (recL r)[j]? := fun j => by rw [← h, Array.getElem?_toList]
  refine ⟨h16, by simp, fun j u hu => ?_, fun j hj => ⟨?_, World.frozen?_alloc_new _ _ _ _⟩⟩
  · rw [World.cell?_alloc_new, Nat.zero_add, e]; exact hu
  · rw [World.cell?_alloc_new, Nat.zero_add, e, List.getElem?_eq_getElem (by rw [recL_len r h16]; exact hj)]; rfl
/-- A record of zeros. -/
def zR : Rec := ⟨⟨#[]⟩, 0, 0, 0, 0, List.replicate 16 0, ⟨#[]⟩, ⟨#[]⟩⟩
abbrev zC : Array Value := #[.string ⟨#[]⟩, .int .i64 0, .int .i64 0, .int .i64 0, .int .i64 0, .int .u8 0, .int .u8 0, .int .u8 0, .int .u8 0, .int .u8 0, .int .u8 0, .int .u8 0, .int .u8 0, .int .u8 0, .int .u8 0, .int .u8 0, .int .u8 0, .int .u8 0, .int .u8 0, .int .u8 0, .int .u8 0, .string ⟨#[]⟩, .string ⟨#[]⟩]
theorem rec_zeroed (w : World) : RecAt (w.alloc (.cells zC 44)) w.heap.size zR := RecAt.of w _ _ zR rfl rfl
theorem loadVar_rec {w : World} {G : Nat} {r : Rec} (h : RecAt w G r) : (loadVar 44 ⟨G, 0, none⟩).run Try.prog w = .ok (recV r) w :=
  run_loadVar_mid w G 0 44 (recL r) _ h.range Try.underlying44 rfl (by rw [rec_size, recL_len r h.len])
theorem results_rec {fn : Func} {a : Tmp} {tmps : Array Value} {W : World} {R : Nat} {r : Rec} (h : fn.results = #[.cell a 44]) (ha : tmps.getD a undef = .pointer (some ⟨R, 0, none⟩)) (hA : RecAt W R r) : (results fn tmps).run Try.prog W = .ok (recV r) W := by
  rw [Array.getD_eq_getD_getElem?] at ha
  simp [results, h, ha, asAddr, loadVar_rec hA]
theorem results_rec3 {fn : Func} {a t u : Tmp} {tmps : Array Value} {W : World} {R : Nat} {r : Rec} (h : fn.results = #[.cell a 44, .tmp t, .tmp u]) (ha : tmps.getD a undef = .pointer (some ⟨R, 0, none⟩)) (hA : RecAt W R r) : (results fn tmps).run Try.prog W = .ok (.tuple #[recV r, tmps.getD t undef, tmps.getD u undef]) W := by
  rw [Array.getD_eq_getD_getElem?] at ha
  simp [results, h, ha, asAddr, loadVar_rec hA]
/-- A record, stored whole. -/
theorem store_rec {ops : Array Oper} {rest : List Oper} {op : Oper} {a : Act} {w : World} {Q : Exit → Act → World → Prop} {G : Nat} {r0 r : Rec} (hA : Hid (RecAt w G r0)) (x y : Operand) (hl : Hid (r.b.length = 16)) (hgd : op.guard = none) (ho : op.op = .store 44 x y)
    (hx : a.eval x = .pointer (some ⟨G, 0, none⟩)) (hy : a.eval y = recV r) (h : ∀ W, Hid (W = w.setCells G 0 (recL r)) → Hid (RecAt W G r) → wpList Try.prog ops Q rest (a.put op.dst undef) W) : wpList Try.prog ops Q (op :: rest) a w :=
  wpList_store_mid hgd 44 x y ho G 0 (recL r).toArray hx hy (by rw [List.size_toArray, recL_len r hl.out]; exact hA.out.there) (by rw [rec_size, List.size_toArray, recL_len r hl.out]) (all_oneCell_toArray (recL_one r)) (h _ (Lib.hid rfl) (Lib.hid (hA.out.stored r hl.out)))
theorem load_recAt {ops : Array Oper} {rest : List Oper} {op : Oper} {a : Act} {w : World} {Q : Exit → Act → World → Prop} {G : Nat} {r : Rec} (hA : Hid (RecAt w G r)) (x : Operand) (hw : Region.wanted op (yielded ops a.tmps) = true) (ho : op.op = .load 44 x)
    (hx : a.eval x = .pointer (some ⟨G, 0, none⟩)) (h : wpList Try.prog ops Q rest (a.put op.dst (recV r)) w) : wpList Try.prog ops Q (op :: rest) a w :=
  load_rec (Lib.hid hA.out.len) (Lib.hid hA.out.range) x hw ho hx h
/-- Records built. -/
theorem built_rec0 : Try.prog.built 44 [] = some (recL zR).toArray := rfl
theorem build_rec0 {ops : Array Oper} {rest : List Oper} {op : Oper} {a : Act} {w : World} {Q : Exit → Act → World → Prop} (hg : op.guard = none) (ho : op.op = .build 44 #[])
    (h : wpList Try.prog ops Q rest (a.put op.dst (recV zR)) w) : wpList Try.prog ops Q (op :: rest) a w := by
  have e : Try.prog.built 44 ((#[] : Array (Nat × Operand)).map fun (i, x) => (i, a.eval x)).toList = some (recL zR).toArray := by
    simp only [List.map_toArray, List.map_nil]
    exact built_rec0
  refine wpList_build hg 44 _ ho (by rw [e]; rfl) ?_
  rw [e]
  exact h
theorem built_rec4 (nm : ByteArray) (ty cl ttl : Int) : Try.prog.built 44 [(0, .string nm), (1, .int .i64 ty), (2, .int .i64 cl), (3, .int .i64 ttl)] = some (recL { zR with name := nm, ty := ty, cl := cl, ttl := ttl }).toArray := rfl
theorem build_rec4 {ops : Array Oper} {rest : List Oper} {op : Oper} {a : Act} {w : World} {Q : Exit → Act → World → Prop} {nm : ByteArray} {ty cl ttl : Int} (hg : op.guard = none) (x0 x1 x2 x3 : Operand) (ho : op.op = .build 44 #[(0, x0), (1, x1), (2, x2), (3, x3)])
    (h0 : a.eval x0 = .string nm) (h1 : a.eval x1 = .int .i64 ty) (h2 : a.eval x2 = .int .i64 cl) (h3 : a.eval x3 = .int .i64 ttl) (h : wpList Try.prog ops Q rest (a.put op.dst (recV { zR with name := nm, ty := ty, cl := cl, ttl := ttl })) w) : wpList Try.prog ops Q (op :: rest) a w := by
  have e : Try.prog.built 44 ((#[(0, x0), (1, x1), (2, x2), (3, x3)] : Array (Nat × Operand)).map fun (i, x) => (i, a.eval x)).toList = some (recL { zR with name := nm, ty := ty, cl := cl, ttl := ttl }).toArray := by
    simp only [List.map_toArray, List.map_cons, List.map_nil]
    rw [h0, h1, h2, h3]; exact built_rec4 nm ty cl ttl
  refine wpList_build hg 44 _ ho (by rw [e]; rfl) ?_
  rw [e]
  exact h
end Go.Proofs.Ytedmkdjijhflnaa
/- Contracts of the reference's Four, Groups, Of4, Of6 of layer 4. -/
namespace Go.Proofs.Ytedmkdjijhflnaa
open Go.RowKit
set_option linter.unusedVariables false
set_option maxRecDepth 20000

theorem byte_lt {bs : List Nat} (h : ∀ x ∈ bs, x < 256) (j : Nat) : bs.getD j 0 < 256 := by
  rw [List.getD_eq_getElem?_getD]
  cases hj : bs[j]? with
  | none => exact Nat.zero_lt_succ _
  | some v => exact h v (List.mem_of_getElem? hj)
/-- The number of the first k bytes. -/
def fourTo (bs : List Nat) : Nat → Nat
  | 0 => 0
  | k + 1 => fourTo bs k * 256 + bs.getD k 0
def fourB (bs : List Nat) : Nat := fourTo bs 4
theorem fourTo_lt (bs : List Nat) (h : ∀ x ∈ bs, x < 256) : ∀ k, fourTo bs k < 256 ^ k
  | 0 => Nat.zero_lt_one
  | k + 1 => by
    have h1 := fourTo_lt bs h k
    have h2 := byte_lt h k
    rw [fourTo, Nat.pow_succ]
    omega
end Go.Proofs.Ytedmkdjijhflnaa
/- Contracts of the reference's Bits, Bit, May, Compare of layer 4. -/
namespace Go.Proofs.Ytedmkdjijhflnaa
open Go.RowKit
set_option linter.unusedVariables false
set_option maxRecDepth 20000

/-- How many bits. -/
def bitsN (f : Int) : Nat := if f = 4 then 32 else if f = 6 then 128 else 0
end Go.Proofs.Ytedmkdjijhflnaa
/- Contract of the reference's May of layer 4. -/
namespace Go.Proofs.Ytedmkdjijhflnaa
open Go.RowKit
set_option linter.unusedVariables false
set_option maxRecDepth 20000

/-- All zero from a place on. -/
def zeroTo (bs : List Nat) (k : Nat) : Bool := (bs.drop k).all (· == 0)
theorem zeroTo_at (bs : List Nat) (k : Nat) (h : bs.length = 16) (hk : k < 16) : zeroTo bs k = (bs.getD k 0 == 0 && zeroTo bs (k + 1)) := by
  unfold zeroTo
  rw [List.drop_eq_getElem_cons (by omega), List.all_cons, List.getD_eq_getElem?_getD, List.getElem?_eq_getElem (by omega)]
  rfl
theorem zeroTo_end (bs : List Nat) (h : bs.length = 16) : zeroTo bs 16 = true := by
  unfold zeroTo
  rw [List.drop_eq_nil_of_le (by omega)]
  rfl
def fromN (f : Int) : Nat := if f = 0 then 0 else if f = 4 then 4 else 16
/-- Which address may be. -/
def mayB (f : Int) (bs : List Nat) : Bool := zeroTo bs (fromN f) && (f == 0 || f == 4 || f == 6)
end Go.Proofs.Ytedmkdjijhflnaa
/- Contracts of the reference's layer 8: Rest, Under; Join from anywhere in a row. -/
namespace Go.Proofs.Ytedmkdjijhflnaa
open Go.RowKit
set_option linter.unusedVariables false
set_option maxRecDepth 20000

theorem joinTo_le {xs : List ByteArray} {m : Nat} (h : ∀ p ∈ xs, p.size ≤ m) : ∀ k, (joinTo xs ⟨#[46]⟩ k).size ≤ k * (m + 1)
  | 0 => Nat.zero_le _
  | k + 1 => by
    have h1 := joinTo_le h k
    have h2 := getD_small h k
    rw [joinTo, ByteArray.size_append, Nat.succ_mul]
    split
    · rw [ByteArray.size_append]
      show _ + 1 + _ ≤ _
      omega
    · omega
/-- A name without its first k labels. -/
def restB (s : ByteArray) (k : Nat) : ByteArray := if (labelsB s).length ≤ k then ⟨#[]⟩ else joinB ((labelsB s).drop k) ⟨#[46]⟩
theorem rest_small (s : ByteArray) (k : Nat) (hs : s.size ≤ 900) : (restB s k).size ≤ 2000000 := by
  unfold restB
  split
  · decide
  · unfold joinB
    have h1 := joinTo_le (xs := (labelsB s).drop k) (m := 900) (fun p hp => Nat.le_trans (labels_small s p (List.mem_of_mem_drop hp)) hs) ((labelsB s).drop k).length
    have h2 := labels_len s
    have h3 : ((labelsB s).drop k).length ≤ 901 := by simp; omega
    have h4 := Nat.mul_le_mul_right 901 h3
    omega
/-- A name is under another one. -/
def UnderP (s t : ByteArray) : Prop := ∃ k, k < (labelsB s).length + 1 ∧ likeB (restB s k) t = true
instance (s t : ByteArray) : Decidable (UnderP s t) := by unfold UnderP; infer_instance
def underB (s t : ByteArray) : Bool := decide (UnderP s t)
end Go.Proofs.Ytedmkdjijhflnaa
/- Contracts of the reference's layer 8: Bytes, SameBytes, Good. -/
namespace Go.Proofs.Ytedmkdjijhflnaa
open Go.RowKit
set_option linter.unusedVariables false
set_option maxRecDepth 20000

/-- A label's bytes. -/
def labL (p : ByteArray) : List UInt8 := UInt8.ofNat p.size :: p.data.toList
def bytesTo (l : List ByteArray) : Nat → List UInt8
  | 0 => []
  | k + 1 => bytesTo l k ++ labL (l.getD k ⟨#[]⟩)
/-- A name's bytes. -/
def bytesL (l : List ByteArray) : List UInt8 := bytesTo l l.length ++ [0]
theorem bytesTo_len {l : List ByteArray} (h : ∀ p ∈ l, p.size ≤ 255) : ∀ k, (bytesTo l k).length ≤ k * 256
  | 0 => by simp [bytesTo]
  | k + 1 => by
    have h1 := bytesTo_len h k
    have h2 := getD_small h k
    unfold bytesTo labL
    have h3 : (l.getD k ⟨#[]⟩).data.toList.length = (l.getD k ⟨#[]⟩).size := Array.length_toList
    rw [List.length_append, List.length_cons, h3]
    omega
/-- A row of one's own, over a lower base. -/
theorem own_lower8 {w : World} {B B' : Nat} {t : TypeId} {z : Nat} {v : Value} {n : Nat} {xs : List Value} (h : w.ownsRow B t z v n xs) (hB : B' ≤ B) : w.ownsRow B' t z v n xs := by
  obtain ⟨h1, h2⟩ := h
  refine ⟨h1, ?_⟩
  rcases h2 with h2 | ⟨g, cap, cur, e, hb, rest⟩
  · exact .inl h2
  · exact .inr ⟨g, cap, cur, e, by omega, rest⟩
/-- A text's bytes behind a row of bytes of one's own. -/
theorem own_text {w0 wr w1 : World} {v v' : Value} {l : List UInt8} {s : ByteArray} (hown' : w1.ownsRow w0.heap.size 5 1 v' (l.length + s.size) (bys l ++ Lib.strCells s))
    (hg : wr.grownBy w1 v.ownBlock) (hown : wr.ownsRow w0.heap.size 5 1 v l.length (bys l)) (hb : Below w0.heap.size w0 wr) :
    w1.ownsRow w0.heap.size 5 1 v' (l ++ s.data.toList).length (bys (l ++ s.data.toList)) ∧ Below w0.heap.size w0 w1 := by
  refine ⟨?_, hb.grown hg hb.size (fun k hk => (hown.lt k hk).1)⟩
  have e : bys (l ++ s.data.toList) = bys l ++ Lib.strCells s := by simp [bys, Lib.strCells]
  rw [e, List.length_append, Array.length_toList]
  exact hown'
end Go.Proofs.Ytedmkdjijhflnaa
/- Contracts of the reference's layer 8: SameBytes, Good. -/
namespace Go.Proofs.Ytedmkdjijhflnaa
open Go.RowKit
set_option linter.unusedVariables false
set_option maxRecDepth 20000

/-- These are a slice's bytes (as a conversion to a text reads them). -/
def BytesAt (w : World) (v : Value) (l : List UInt8) : Prop := (convert 115 9 v).run Try.prog w = .ok (.string ⟨l.toArray⟩) w
/-- The labels of a name made good. -/
def goodTo (l : List ByteArray) : Nat → List ByteArray
  | 0 => []
  | k + 1 => if 6 ≤ (goodTo l k).length then goodTo l k else if (few (l.getD k ⟨#[]⟩) 12).size = 0 then goodTo l k else goodTo l k ++ [few (l.getD k ⟨#[]⟩) 12]
theorem goodTo_len (l : List ByteArray) : ∀ k, (goodTo l k).length ≤ 6
  | 0 => by simp [goodTo]
  | k + 1 => by
    have h := goodTo_len l k
    unfold goodTo
    split
    · exact h
    · split
      · exact h
      · simp; omega
theorem goodTo_small (l : List ByteArray) : ∀ k, ∀ p ∈ goodTo l k, p.size ≤ 12
  | 0 => by simp [goodTo]
  | k + 1 => by
    have h := goodTo_small l k
    unfold goodTo
    split
    · exact h
    · split
      · exact h
      · intro p hp
        rcases List.mem_append.1 hp with hp | hp
        · exact h p hp
        · rw [List.mem_singleton.1 hp]; exact few_size _ _
theorem goodTo_full {l : List ByteArray} {k : Nat} (h : 6 ≤ (goodTo l k).length) : ∀ m, goodTo l (k + m) = goodTo l k
  | 0 => rfl
  | m + 1 => by
    have e := goodTo_full h m
    rw [← Nat.add_assoc]
    show (if 6 ≤ (goodTo l (k + m)).length then goodTo l (k + m) else _) = _
    rw [e, if_pos h]
/-- A name made good. -/
def goodN (s : ByteArray) : ByteArray := joinB (goodTo (labelsB s) (labelsB s).length) ⟨#[46]⟩
theorem goodN_small (s : ByteArray) : (goodN s).size ≤ 100 := by
  have h1 := joinTo_le (goodTo_small (labelsB s) (labelsB s).length) (goodTo (labelsB s) (labelsB s).length).length
  have h2 := goodTo_len (labelsB s) (labelsB s).length
  unfold goodN joinB
  omega
end Go.Proofs.Ytedmkdjijhflnaa
/- Contracts of the reference's layer 8: Run (and Has of layer 1). -/
namespace Go.Proofs.Ytedmkdjijhflnaa
open Go.RowKit
set_option linter.unusedVariables false
set_option maxRecDepth 20000

/-- One of the first k bytes of a text is c. -/
def hasTo (s : ByteArray) (c : Nat) : Nat → Bool
  | 0 => false
  | k + 1 => hasTo s c k || decide ((s.data.toList.getD k 0).toNat = c)
def has8 (s : ByteArray) (c : Nat) : Bool := hasTo s c s.size
theorem hasTo_mono {s : ByteArray} {c k : Nat} (h : hasTo s c k = true) : ∀ m, hasTo s c (k + m) = true
  | 0 => h
  | m + 1 => by rw [← Nat.add_assoc, hasTo, hasTo_mono h m]; rfl
theorem getD_byte (s : ByteArray) (k : Nat) (h : k < s.size) : s.data.toList.getD k 0 = s[k] := by
  rw [List.getD_eq_getElem?_getD, List.getElem?_eq_getElem (by simpa using h)]; rfl
/-- Bytes that came in, as a walk reads them. -/
def BytesIn (w : World) (a : Option Addr) (cap : Nat) (bs : List UInt8) : Prop :=
  bs.length ≤ cap ∧ cap ≤ maxLen ∧ (bs.length = 0 ∨ ∃ x : Addr, a = some x ∧ ∀ i (h : i < bs.length), w.cell? (x.add i) = some (.int .u8 ((bs[i].toNat : Nat) : Int)))
theorem BytesIn.below {w w' : World} {a : Option Addr} {cap : Nat} {bs : List UInt8} (h : BytesIn w a cap bs) (hb : Below w.heap.size w w') : BytesIn w' a cap bs := by
  obtain ⟨h1, h2, h3⟩ := h
  refine ⟨h1, h2, ?_⟩
  rcases h3 with h3 | ⟨x, e, h3⟩
  · exact .inl h3
  · exact .inr ⟨x, e, fun i hi => by rw [hb.cell (p := x.add i) (World.block_lt_of_cell? w _ (h3 i hi))]; exact h3 i hi⟩
/-- The label that stands at i, of n bytes. -/
def ownAt (bs : List UInt8) (i n : Nat) : ByteArray := ⟨((bs.drop (i + 1)).take n).toArray⟩
theorem ownAt_size {bs : List UInt8} {i n : Nat} (h : i + 1 + n ≤ bs.length) : (ownAt bs i n).size = n := by
  show ((bs.drop (i + 1)).take n).toArray.size = n
  simp; omega
def runB (bs : List UInt8) (had : Nat) : Nat → Nat → List ByteArray → List ByteArray × Nat × Bool × Int
  | 0, _, _ => ([], 0, false, 2)
  | f + 1, i, l =>
    if bs.length ≤ i then ([], 0, false, 2) else
    if (bs.getD i 0).toNat = 0 then (l, i, false, 0) else
    if 192 ≤ (bs.getD i 0).toNat then (l, i, true, 0) else
    if 63 < (bs.getD i 0).toNat ∨ bs.length < i + 1 + (bs.getD i 0).toNat then ([], 0, false, 2) else
    if has8 (ownAt bs i (bs.getD i 0).toNat) 46 = true then ([], 0, false, 2) else
    if 255 < had + sizeL (l ++ [ownAt bs i (bs.getD i 0).toNat]) then ([], 0, false, 3) else
    runB bs had f (i + 1 + (bs.getD i 0).toNat) (l ++ [ownAt bs i (bs.getD i 0).toNat])
/-- What Run hands back. -/
def RunRet (w : World) (R : List ByteArray × Nat × Bool × Int) (e : Ending) (w' : World) : Prop :=
  ∃ v, e = .returned (.tuple #[v, .int .i64 (R.2.1 : Int), .bool R.2.2.1, .int .i64 R.2.2.2]) ∧ w'.ownsRow w.heap.size 9 1 v R.1.length (R.1.map Value.string) ∧ Below w.heap.size w w'
theorem own_RowS {w : World} {B : Nat} {v : Value} {l : List ByteArray} (h : w.ownsRow B 9 1 v l.length (l.map Value.string)) : ∃ a c, v = .slice a l.length c ∧ (RowS w a c l ∨ l = []) := by
  by_cases h0 : 0 < l.length
  · obtain ⟨g, c, rfl, _, hr⟩ := own_row h h0
    exact ⟨_, _, rfl, .inl (.inr ⟨g, rfl, hr⟩)⟩
  · obtain rfl : l = [] := List.eq_nil_of_length_eq_zero (by omega)
    rcases h.2 with ⟨rfl, _⟩ | ⟨g, cap, cur, rfl, _⟩
    · exact ⟨_, _, rfl, .inr rfl⟩
    · exact ⟨_, _, rfl, .inr rfl⟩
end Go.Proofs.Ytedmkdjijhflnaa
/- What a thing of one's own may turn: the blocks of its footprint, and new ones. -/
namespace Go.Proofs.Ytedmkdjijhflnaa
open Go.RowKit
set_option linter.unusedVariables false
set_option maxRecDepth 20000

/-- Nothing but the blocks of F has turned; F' holds such as were in F, and new ones. -/
structure Foot (F F' : List Nat) (w w' : World) : Prop where
  os : w'.os = w.os
  tape : w'.tape = w.tape
  output : w'.output = w.output
  size : w.heap.size ≤ w'.heap.size
  keep : ∀ k, k < w.heap.size → k ∉ F → w'.heap[k]? = w.heap[k]?
  new : ∀ k ∈ F', k ∈ F ∨ w.heap.size ≤ k
theorem Foot.ofBelow (F : List Nat) {w w' : World} (h : Below w.heap.size w w') : Foot F F w w' := ⟨h.os, h.tape, h.output, h.size, fun k hk _ => h.block k hk, fun k hk => .inl hk⟩
theorem Foot.trans {F F' F'' : List Nat} {a b c : World} (h : Foot F F' a b) (k : Foot F' F'' b c) : Foot F F'' a c :=
  ⟨k.os.trans h.os, k.tape.trans h.tape, k.output.trans h.output, Nat.le_trans h.size k.size, fun i hi hn => (k.keep i (Nat.lt_of_lt_of_le hi h.size) (fun e => by
    rcases h.new i e with e | e
    · exact hn e
    · omega)).trans (h.keep i hi hn), fun i hi => by
    rcases k.new i hi with e | e
    · exact h.new i e
    · exact .inr (Nat.le_trans h.size e)⟩
theorem Foot.below {F F' : List Nat} {w w' : World} {B : Nat} (h : Foot F F' w w') (hF : ∀ k ∈ F, B ≤ k) (hB : B ≤ w.heap.size) : Below B w w' :=
  ⟨h.os, h.tape, h.output, h.size, fun k hk => h.keep k (by omega) (fun e => by have := hF k e; omega)⟩
theorem Foot.out {F F' : List Nat} {w w' : World} (h : Foot F F' w w') {k : Nat} (hk : k < w.heap.size) (hn : k ∉ F) : k ∉ F' := fun e => by
  rcases h.new k e with e | e
  · exact hn e
  · omega
theorem range_foot {F F' : List Nat} {w w' : World} (h : Foot F F' w w') {G o : Nat} {cs : List Value} (hr : w.rangeAt G o cs) (hk : G < w.heap.size) (hn : G ∉ F) : w'.rangeAt G o cs := fun j u hu => by
  rw [World.cell?_of_block (w := w) (a := ⟨G, o + j, none⟩) (h.keep G hk hn)]; exact hr j u hu
/-- A row's block is none of the footprint's. -/
def NotIn (v : Value) (F : List Nat) : Prop := ∀ g, v.ownBlock = some g → g ∉ F
theorem Foot.wider {F F' K : List Nat} {w w' : World} (h : Foot F F' w w') (hk : ∀ k ∈ F, k ∈ K) : Foot K (F' ++ K) w w' :=
  ⟨h.os, h.tape, h.output, h.size, fun k hk2 hn => h.keep k hk2 (fun e => hn (hk k e)), fun k hk2 => by
    rcases List.mem_append.1 hk2 with e | e
    · rcases h.new k e with e | e
      · exact .inl (hk k e)
      · exact .inr e
    · exact .inl e⟩
/-- An append's footprint: the row's own block. -/
theorem Foot.ofGrown {w w' : World} {v v' : Value} (h : w.grownBy w' v.ownBlock) (hv : v'.ownBlock = v.ownBlock ∨ ∀ g, v'.ownBlock = some g → w.heap.size ≤ g) : Foot v.ownBlock.toList v'.ownBlock.toList w w' :=
  ⟨h.os, h.tape, h.output, h.size, fun k hk hn => h.block k hk (fun e => hn (by rw [← e]; simp)), fun k hk => by
    have hk2 : v'.ownBlock = some k := by simpa using hk
    rcases hv with e | e
    · exact .inl (by rw [← e, hk2]; simp)
    · exact .inr (e k hk2)⟩
theorem blk_cells (b : Nat) : ∀ (vs : List Value) (o : Nat) (w : World) (k : Nat), k ≠ b → (w.setCells b o vs).heap[k]? = w.heap[k]?
  | [], _, _, _, _ => rfl
  | v :: r, o, w, k, h => by rw [World.setCells, blk_cells b r _ _ k h]; simp [World.setCell, Array.getElem?_modify, Ne.symm h]
/-- A store into a block: its footprint is that block. -/
theorem foot_cells {w : World} (b o : Nat) (vs : List Value) : Foot [b] [b] w (w.setCells b o vs) := by
  have hc : ∀ (vs : List Value) (o : Nat) (W : World), Below 0 w W → Below 0 w (W.setCells b o vs) := fun vs => by
    induction vs with
    | nil => exact fun _ _ h => h
    | cons v r ih => exact fun o W h => by rw [World.setCells]; exact ih _ _ (h.setCell (p := ⟨b, o, none⟩) (Nat.zero_le _) v)
  have hb : Below 0 w (w.setCells b o vs) := hc vs o w (Below.refl _ _)
  exact ⟨hb.os, hb.tape, hb.output, hb.size, fun k _ hn => blk_cells b vs o w k (fun e => hn (by simp [e])), fun k hk => .inl hk⟩
end Go.Proofs.Ytedmkdjijhflnaa
