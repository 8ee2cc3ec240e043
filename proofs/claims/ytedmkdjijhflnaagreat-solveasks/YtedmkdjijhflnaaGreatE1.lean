/- Texts that belong together, one behind the other: EqArr, OpenArr, OpenAddr, EqAddr, Util, Base, Lists, AddrKit, AddrMid, AddrBox, Bytes16, AddrEq, HeldR, OpenRows, StrRows, RefSplit, Pieces, Cases, RefLabel, RecKit, RecAt, RefAddr, RefAddrBits, RefAddrMay, RefRest, RefLabBytes, RefLabGood, RefRun, Foot, AppendFoot, BytesKit, RefRunAny, RefReadDefs, RefReadAny, RefFind8, RefName8. -/
import Derived.Test.YtedmkdjijhflnaaGreatRows
import Derived.WalkKit
import Derived.ChangeKeysEq
import Derived.ProofKit
import Derived.OpenShut
import Derived.Laws.IdiomArrays
import Derived.ChangeSame
import Derived.Lib.Strings
import Derived.WalkSpells
import Derived.WalkLawsBesides
import Derived.Deep.QuietTactic
import Derived.BigQuiet
import Derived.Lib.Hide
import Derived.Deep.AppendLies
import Derived.Laws.IdiomStrings
import Derived.Deep.MidRow
import Derived.Deep.Cut
import Derived.Laws.StructEq
import Derived.Deep.RegionHeld3
import Derived.Deep.Slices
import Derived.Lib.ConvBytes
import Derived.RegionTactic
import Derived.BigRegion
import Derived.Lib.AppendStr
import Derived.Maps.AppendAt
import Derived.Laws.AppendOwnNone
set_option linter.unusedVariables false
set_option linter.unusedSimpArgs false
set_option maxRecDepth 20000
namespace Go.Proofs.YtedmkdjijhflnaaGreat
/-- An operation of a drawn region, taken first. -/
theorem tkT {P : Program} {md : Region.Mode} {ops : Array Oper} {Q : Exit → Act → World → Prop} {S : World → Prop} {fuel : Nat} {listed : Array Bool} {a : Act} {w : World} (i : Nat) (v : Value) {oi : Oper} (hi : ops[i]? = some oi) (hy : YieldsIf P ops S oi v a) (h : wpAnyH P md ops Q S fuel (listed.setIfInBounds i true) (a.put oi.dst v) w)
    (hs : Region.noSelect ops = true := by kernel_rfl) (hf : Region.free md ops listed i = true := by kernel_rfl) (hr : (Region.ready md ops listed).contains i = true := by kernel_rfl) (hQ : ∀ c a w, Q (.panic c) (a.put oi.dst v) w → Q (.panic c) a w := by exact fun _ _ _ h => h) (hS : S w := by assumption) : wpAnyH P md ops Q S (fuel + 1) listed a w :=
  wpAnyH_take hi hs hf hr hQ hy hS h
/-- What lays the frame out anew. -/
theorem pZ : (∀ {α : Type} (xs : List α) (i : Nat) (h : i < xs.toArray.size), xs.toArray[i] = xs[i]'(by simpa using h)) ∧ (∀ {α : Type} (a : α) (xs : List α) (h : 0 < (a :: xs).length), (a :: xs)[0]'h = a) ∧ (∀ {α : Type} (a : α) (xs : List α) (i : Nat) (h : i + 1 < (a :: xs).length), (a :: xs)[i + 1]'h = xs[i]'(Nat.lt_of_succ_lt_succ h)) ∧
    (∀ {α : Type} (xs : List α) (i : Nat) (a : α), xs.toArray.setIfInBounds i a = (xs.set i a).toArray) ∧ (∀ {α : Type} (x a : α) (xs : List α), (x :: xs).set 0 a = a :: xs) ∧ (∀ {α : Type} (x a : α) (xs : List α) (i : Nat), (x :: xs).set (i + 1) a = x :: xs.set i a) :=
  ⟨fun xs i h => by simp, fun a xs h => rfl, fun a xs i h => rfl, fun xs i a => by simp, fun x a xs => rfl, fun x a xs i => rfl⟩
end Go.Proofs.YtedmkdjijhflnaaGreat

namespace Go.Proofs.YtedmkdjijhflnaaGreat
open Go.RowKit

theorem run_eqItems_ints (W : World) (d : Nat) {e : TypeId} {k : IntKind} (he : Tryz.prog.plainKey e = true) (hu : Tryz.prog.underlying e = some (.int k)) (zs ys : List Int) : ∀ (is : List Nat), (∀ i ∈ is, i < zs.length ∧ i < ys.length) →
    (Op.eqItems (d + 1) e 1 (zs.map (Value.int k)).toArray (ys.map (Value.int k)).toArray is).run Tryz.prog W = .ok (is.all fun i => zs.getD i 0 == ys.getD i 0) W
  | [], _ => by simp [Op.eqItems]
  | i :: is, h => by
    have hi := h i (by simp)
    have p1 : (part e (zs.map (Value.int k)).toArray (i * 1)).run Tryz.prog W = .ok (.int k (zs.getD i 0)) W := run_part_plain W he (by simp [hi.1])
    have p2 : (part e (ys.map (Value.int k)).toArray (i * 1)).run Tryz.prog W = .ok (.int k (ys.getD i 0)) W := run_part_plain W he (by simp [hi.2])
    have p3 := run_equalIn_int (P := Tryz.prog) W d e k k (zs.getD i 0) (ys.getD i 0) hu
    have ih := run_eqItems_ints W d he hu zs ys is (fun j hj => h j (by simp [hj]))
    simp only [Op.eqItems, Sem.run_bind, p1, p2, p3, Result.andThen_ok, List.all_cons]
    cases zs.getD i 0 == ys.getD i 0 with
    | false => simp
    | true => simpa using ih
end Go.Proofs.YtedmkdjijhflnaaGreat
namespace Go.Proofs.YtedmkdjijhflnaaGreat
open Go.ChangeShapes Go.WideShapes Go.ChangeAt Go.RowKit

theorem laidOut : laidOutB Tryz.prog = true := by kernel_rfl
end Go.Proofs.YtedmkdjijhflnaaGreat
namespace Go.Proofs.YtedmkdjijhflnaaGreat
open Go.ChangeShapes Go.WideShapes Go.ChangeAt Go.RowKit

def addrV (f : Int) (bs : List Nat) : Value := .agg (Value.int .i64 f :: bs.map fun n => Value.int .u8 ((n : Nat) : Int)).toArray
end Go.Proofs.YtedmkdjijhflnaaGreat
namespace Go.Proofs.YtedmkdjijhflnaaGreat
open Go.RowKit

theorem run_eq_ints_at (d : Nat) (W : World) {t e : TypeId} {n : Nat} {k : IntKind} {i : TypeInfo} (ht : Tryz.prog.underlying t = some (.array n e)) (he : Tryz.prog.plainKey e = true) (hu : Tryz.prog.underlying e = some (.int k)) (hi : Tryz.prog.info? e = some i) (hc : Tryz.prog.cellsOf e = 1)
    (zs ys : List Int) (hz : zs.length = n) (hy : ys.length = n) :
    (Op.equalIn (d + 2) t (.agg (zs.map (Value.int k)).toArray) (.agg (ys.map (Value.int k)).toArray)).run Tryz.prog W = .ok (decide (zs = ys)) W := by
  rw [run_equalIn_array W (d + 1) _ _ ht hi, hc, run_eqItems_ints W d he hu zs ys _ (fun j hj => by rw [List.mem_range] at hj; omega)]
  congr 1
  rw [Bool.eq_iff_iff]
  simp only [List.all_eq_true, List.mem_range, beq_iff_eq, decide_eq_true_eq]
  constructor
  · intro h
    apply List.ext_getElem (by omega)
    intro j h1 h2
    have := h j (by omega)
    rw [List.getD_eq_getElem?_getD, List.getD_eq_getElem?_getD, List.getElem?_eq_getElem h1, List.getElem?_eq_getElem h2] at this
    exact this
  · intro h j _
    rw [h]
theorem bytes_of (xs : List Nat) : (xs.map fun n => Value.int .u8 ((n : Nat) : Int)) = (xs.map fun n : Nat => (n : Int)).map (Value.int .u8) := by simp
theorem casts_inj {xs ys : List Nat} : (xs.map fun n : Nat => (n : Int)) = (ys.map fun n : Nat => (n : Int)) ↔ xs = ys := by
  constructor
  · intro h
    exact List.map_inj_right (fun _ _ e => by exact_mod_cast e) |>.1 h
  · rintro rfl; rfl
theorem part_bytes (W : World) (f : Int) (xs : List Nat) (hx : xs.length = 16) : (part 67 (Value.int .i64 f :: xs.map fun n => Value.int .u8 ((n : Nat) : Int)).toArray 1).run Tryz.prog W = .ok (.agg (xs.map fun n => Value.int .u8 ((n : Nat) : Int)).toArray) W := by
  obtain ⟨i, hi, hs⟩ : ∃ i, Tryz.prog.info? 67 = some i ∧ i.size = 16 := ⟨_, rfl, by kernel_rfl⟩
  have h2 : (isAgg 67).run Tryz.prog W = .ok true W := by
    unfold isAgg
    rw [Sem.run_bind, run_underlying Tryz.underlying67 W]
    simp
  have h3 : (sizeOf 67).run Tryz.prog W = .ok 16 W := by simp [sizeOf, typeInfo, hi, hs]
  simp only [part, Sem.run_bind, h2, Result.andThen_ok, if_true, h3, Sem.run_pure]
  congr 2
  apply Array.ext'
  simp
  exact List.take_of_length_le (by rw [List.length_map, hx]; exact Nat.le_refl _)
theorem plainK_int : Tryz.prog.plainKey 3 = true := by kernel_rfl
theorem plainK_u8 : Tryz.prog.plainKey 5 = true := by kernel_rfl
theorem cells_u8 : Tryz.prog.cellsOf 5 = 1 := by kernel_rfl
theorem addr_fields : Tryz.prog.fieldsOf 69 = #[{ name := "Fam", type := 3, offset := 0, embedded := false, tag := "", pkgPath := "", byteOffset := 0 }, { name := "B", type := 67, offset := 1, embedded := false, tag := "", pkgPath := "", byteOffset := 8 }] := by simp only [Program.fieldsOf, Tryz.underlying69]
theorem nm1 : ("Fam" = "_") = False := by simp
theorem nm2 : ("B" = "_") = False := by simp
theorem st (d : Nat) (xs ys : Array Value) (W : World) : (Op.equalIn (d + 3) 69 (.agg xs) (.agg ys)).run Tryz.prog W = (Op.eqFields (d + 2) xs ys (Tryz.prog.fieldsOf 69).toList).run Tryz.prog W :=
  run_equalIn_struct W (d + 2) _ _ _ (by rw [addr_fields]; exact Tryz.underlying69) Tryz.stoodInHeld69
theorem part_fam (W : World) (f : Int) (xs : List Nat) : (part 3 (Value.int .i64 f :: xs.map fun n => Value.int .u8 ((n : Nat) : Int)).toArray 0).run Tryz.prog W = .ok (.int .i64 f) W := run_part_plain W plainK_int (by simp)
theorem eq_fam (d : Nat) (f g : Int) (W : World) : (Op.equalIn (d + 2) 3 (.int .i64 f) (.int .i64 g)).run Tryz.prog W = .ok (f == g) W := run_equalIn_int (P := Tryz.prog) W (d + 1) 3 .i64 .i64 f g Tryz.underlying3
theorem eq_arr16 (d : Nat) (xs ys : List Nat) (W : World) (hx : xs.length = 16) (hy : ys.length = 16) : (Op.equalIn (d + 2) 67 (.agg (xs.map fun n => Value.int .u8 ((n : Nat) : Int)).toArray) (.agg (ys.map fun n => Value.int .u8 ((n : Nat) : Int)).toArray)).run Tryz.prog W = .ok (decide (xs = ys)) W := by
  obtain ⟨i, hi⟩ : ∃ i, Tryz.prog.info? 5 = some i := ⟨_, rfl⟩
  have p6 := run_eq_ints_at d W (k := .u8) Tryz.underlying67 plainK_u8 Tryz.underlying5 hi cells_u8 (xs.map fun n : Nat => (n : Int)) (ys.map fun n : Nat => (n : Int)) (by simpa using hx) (by simpa using hy)
  rw [← bytes_of, ← bytes_of, show decide ((xs.map fun n : Nat => (n : Int)) = (ys.map fun n : Nat => (n : Int))) = decide (xs = ys) from decide_eq_decide.2 casts_inj] at p6
  exact p6
theorem two_fields (P : Program) (W : World) (D : Nat) (X Y : Array Value) (t1 t2 : TypeId) (a1 b1 a2 b2 : Value) (r1 r2 : Bool)
    (h1 : (part t1 X 0).run P W = .ok a1 W) (h2 : (part t1 Y 0).run P W = .ok b1 W) (h3 : (Op.equalIn D t1 a1 b1).run P W = .ok r1 W)
    (h4 : (part t2 X 1).run P W = .ok a2 W) (h5 : (part t2 Y 1).run P W = .ok b2 W) (h6 : (Op.equalIn D t2 a2 b2).run P W = .ok r2 W) :
    (Op.eqFields D X Y [{ name := "Fam", type := t1, offset := 0, embedded := false, tag := "", pkgPath := "", byteOffset := 0 }, { name := "B", type := t2, offset := 1, embedded := false, tag := "", pkgPath := "", byteOffset := 8 }]).run P W = .ok (r1 && r2) W := by
  simp only [Op.eqFields, ne_eq, nm1, nm2, not_false_eq_true, if_true, Sem.run_bind, h1, h2, h3, Result.andThen_ok, Sem.run_ite, h4, h5, h6, Sem.run_pure]
  cases r1 <;> cases r2 <;> rfl
theorem eq_addr_at (d : Nat) (f g : Int) (xs ys : List Nat) (W : World) (hx : xs.length = 16) (hy : ys.length = 16) : (Op.equalIn (d + 3) 69 (addrV f xs) (addrV g ys)).run Tryz.prog W = .ok (decide (f = g ∧ xs = ys)) W := by
  rw [addrV, addrV, st, addr_fields]
  refine (two_fields Tryz.prog W (d + 2) _ _ 3 67 _ _ _ _ _ _ (part_fam W f xs) (part_fam W g ys) (eq_fam d f g W) (part_bytes W f xs hx) (part_bytes W g ys hy) (eq_arr16 d xs ys W hx hy)).trans ?_
  congr 1
  by_cases h1 : f = g <;> by_cases h2 : xs = ys <;> simp [h1, h2]
theorem eq_addr (f g : Int) (xs ys : List Nat) (W : World) (hx : xs.length = 16) (hy : ys.length = 16) : (Op.equalIn 10000 69 (addrV f xs) (addrV g ys)).run Tryz.prog W = .ok (decide (f = g ∧ xs = ys)) W :=
  eq_addr_at 9997 f g xs ys W hx hy
end Go.Proofs.YtedmkdjijhflnaaGreat
namespace Go.Proofs.YtedmkdjijhflnaaGreat
open Go.RowKit

theorem bytes_ext {a b : ByteArray} (h : a.data.toList = b.data.toList) : a = b := by
  cases a; cases b
  simp only at h
  congr
  exact Array.ext' h
theorem isEmpty_true (s : ByteArray) (h : s.size = 0) : s.toList.isEmpty = true := by
  rw [ByteArray.toList_eq]
  have h2 : s.data.toList.length = s.size := by simp
  rw [List.eq_nil_of_length_eq_zero (h2.trans h)]
  rfl
theorem isEmpty_false (s : ByteArray) (h : 0 < s.size) : s.toList.isEmpty = false := by
  rw [ByteArray.toList_eq]
  have h2 : s.data.toList.length = s.size := by simp
  cases h3 : s.data.toList with
  | nil => rw [h3] at h2; simp at h2; omega
  | cons x l => rfl
theorem getElem_data (s : ByteArray) (j : Nat) (h : j < s.size) : s[j] = s.data.toList[j]'(by simpa using h) := rfl
theorem data_append (a b : ByteArray) : (a ++ b).data.toList = a.data.toList ++ b.data.toList := by simp
theorem data_extract (s : ByteArray) (i j : Nat) : (s.extract i j).data.toList = (s.data.toList.drop i).take (j - i) := Lib.toList_data (s.extract i j) ▸ Lib.extract_toList s i j
end Go.Proofs.YtedmkdjijhflnaaGreat
namespace Go.Proofs.YtedmkdjijhflnaaGreat
open Go.RowKit

theorem bool_ret {a b : Bool} (h : a = b) : Ending.returned (.bool a) = .returned (.bool b) := by rw [h]
theorem chain {a b c : World} (h : Below a.heap.size a b) (k : Below b.heap.size b c) : Below a.heap.size a c := h.trans (k.mono h.size)

theorem quiet_left {P : Program} {f : FuncId} {args : Array Value} {w : World} {n : Nat} {v : Value}
    (h : Calls P f args (w.drewN n) fun e w' => e = .returned v ∧ w.drewN n = w') : Calls P f args (w.drewN n) fun e w'' => e = .returned v ∧ ∃ m, w'' = w.drewN m :=
  h.mono fun _ _ ⟨he, hm⟩ => ⟨he, n, hm.symm⟩
theorem quiet_add_left {P : Program} {f : FuncId} {args : Array Value} {w : World} {a n : Nat} {v : Value}
    (h : Calls P f args (w.drewN (a + n)) fun e w' => e = .returned v ∧ w.drewN (a + n) = w') :
    Calls P f args (w.drewN (a + n)) fun e w'' => e = .returned v ∧ ∃ m, w'' = w.drewN (a + m) :=
  h.mono fun _ _ ⟨he, hm⟩ => ⟨he, n, hm.symm⟩

theorem add_none (b j : Nat) : (⟨b, 0, none⟩ : Addr).add j = ⟨b, j, none⟩ := by
  unfold Addr.add
  split <;> simp_all

def bys (l : List UInt8) : List Value := l.map fun c => Value.int .u8 ((c.toNat : Nat) : Int)
theorem bys_length (l : List UInt8) : (bys l).length = l.length := by simp [bys]
theorem Tryz.infoByte : (Tryz.prog.info? 5).map (fun i => (i.zero, i.size, i.bytes)) = some (some (.int .u8 0), 1, 1) := by kernel_rfl
theorem one_byte (c : Nat) (hc : c < 256) (W : World) :
    (convert 38 9 (.slice (some ⟨W.heap.size, 0, none⟩) 1 1)).run Tryz.prog (W.alloc (.cells #[.int .u8 (c : Int)] 5)) = .ok (.string { data := #[UInt8.ofNat c] }) (W.alloc (.cells #[.int .u8 (c : Int)] 5)) := by
  have hb := run_convert_bytes_back (P := Tryz.prog) (W.alloc (.cells #[.int .u8 (c : Int)] 5)) 38 9 5 ⟨W.heap.size, 0, none⟩ 1 [UInt8.ofNat c] Tryz.underlying38 Tryz.underlying5 Tryz.underlying9 (by
    intro j hj
    obtain rfl : j = 0 := by simpa using hj
    rw [add_none]
    simp [World.cell?_alloc_new]
    omega)
  exact hb

def few (s : ByteArray) (n : Nat) : ByteArray := if n < s.size then s.extract 0 n else s
def sp (s : ByteArray) (sep : Nat) : Nat → List ByteArray × Nat
  | 0 => ([], 0)
  | k + 1 => if (s.data.toList.getD k 0).toNat = sep then ((sp s sep k).1 ++ [s.extract (sp s sep k).2 k], k + 1) else sp s sep k
def pieces (s : ByteArray) (sep : Nat) : List ByteArray := (sp s sep s.size).1 ++ [s.extract (sp s sep s.size).2 s.size]
theorem sp_le (s : ByteArray) (sep : Nat) : ∀ k, (sp s sep k).2 ≤ k ∧ (sp s sep k).1.length ≤ k
  | 0 => by simp [sp]
  | k + 1 => by
    have := sp_le s sep k
    unfold sp
    split
    · simp; omega
    · omega
theorem sp_hit (s : ByteArray) (sep k : Nat) (hk : k < s.size) (h : (s[k]).toNat = sep) : sp s sep (k + 1) = ((sp s sep k).1 ++ [s.extract (sp s sep k).2 k], k + 1) := by
  have e : s.data.toList.getD k 0 = s[k] := by
    rw [List.getD_eq_getElem?_getD, List.getElem?_eq_getElem (by simpa using hk)]; rfl
  rw [sp, e, if_pos h]
theorem sp_miss (s : ByteArray) (sep k : Nat) (hk : k < s.size) (h : ¬ (s[k]).toNat = sep) : sp s sep (k + 1) = sp s sep k := by
  have e : s.data.toList.getD k 0 = s[k] := by
    rw [List.getD_eq_getElem?_getD, List.getElem?_eq_getElem (by simpa using hk)]; rfl
  rw [sp, e, if_neg h]

def RetStrs (w : World) (l : List ByteArray) (e : Ending) (w' : World) : Prop :=
  ∃ v, e = .returned v ∧ w'.ownsRow w.heap.size 9 1 v l.length (l.map Value.string) ∧ Below w.heap.size w w'

theorem Tryz.infoString : (Tryz.prog.info? 9).map (fun i => (i.zero, i.size, i.bytes)) = some (some (.string ByteArray.empty), 1, 16) := by kernel_rfl

theorem own_snoc {w0 wr w1 : World} {v v' : Value} {l : List ByteArray} {x : ByteArray} {o : Obj} (hown' : w1.ownsRow w0.heap.size 9 1 v' (l.length + 1) (l.map Value.string ++ [.string x]))
    (hg : (wr.alloc o).grownBy w1 v.ownBlock) (hown : wr.ownsRow w0.heap.size 9 1 v l.length (l.map Value.string)) (hb : Below w0.heap.size w0 wr) :
    w1.ownsRow w0.heap.size 9 1 v' (l ++ [x]).length ((l ++ [x]).map Value.string) ∧ Below w0.heap.size w0 w1 := by
  refine ⟨by simpa using hown', ?_⟩
  refine (hb.alloc hb.size o).grown hg (by have := hb.size; simp; omega) ?_
  intro k hk
  exact (hown.lt k hk).1

set_option maxHeartbeats 400000 in
theorem split_any (s : ByteArray) (sep : Nat) (w : World) (hs : s.size ≤ 2000000) :
    Calls Tryz.prog 118 #[.string s, .int .u8 sep] w (RetStrs w (pieces s sep)) := by
  obtain ⟨i0, hi0, hz0, hz1, hz2⟩ := info_parts Tryz.infoString
  go_enter Tryz.func118, Tryz.ntmps118
  go_wp2
  go_loopw [5, 6, 10] (fun v f i wr => ∃ k : Nat, k ≤ s.size ∧ i = .int .i64 k ∧ f = .int .i64 (sp s sep k).2 ∧ wr.ownsRow w.heap.size 9 1 v (sp s sep k).1.length ((sp s sep k).1.map Value.string) ∧ Below w.heap.size w wr) (fun _ _ i _ => s.size - (intOf i).toNat)
  case atStart => exact ⟨0, Nat.zero_le _, rfl, rfl, World.ownsRow_nil _ _ _ _, Below.refl _ _⟩
  case round =>
    obtain ⟨k, hk, rfl, rfl, hown, hbel⟩ := hrel
    have hle := sp_le s sep k
    have hsz := hbel.size
    by_cases hlt : k < s.size
    · by_cases hit : (s[k]).toNat = sep
      · have HS := Lib.hid (sp_hit s sep k hlt hit)
        go_wp2_with (at_builtin; refine wpList_append_own _ rfl (.tmp 18) (.tmp 23) 131 rfl w.heap.size 9 i0 _ 1 16 Tryz.underlying131 hi0 hz0 hz1 hz2 rfl (by decide) _ _ _ rfl (hown.alloc _) ⟨wr.heap.size, 0, none⟩ 1 1 [.string (s.extract (sp s sep k).2 k)] rfl rfl ?c1 ?c2 ?c3 ?c4 ?c5 ?_)
        case c1 => exact cell_one_new _ _ _
        case c2 => intro u hu; simp at hu; subst hu; rfl
        case c3 => unfold maxLen; omega
        case c4 => omega
        case c5 => simp; omega
        intro v' w1 hown' hgrow _
        have R := own_snoc hown' hgrow hown hbel
        clear hown' hgrow hown hbel
        go_wp2
        go_roundw
        case rel => exact ⟨k + 1, by omega, by go_num, by rw [HS.out]; go_num, by rw [HS.out]; exact R.1, R.2⟩
        case measure => simp [intOf]; omega
      · have HS := Lib.hid (sp_miss s sep k hlt hit)
        go_wp2
        go_roundw
        case rel => exact ⟨k + 1, by omega, by go_num, by rw [HS.out], by rw [HS.out]; exact hown, hbel⟩
        case measure => simp [intOf]; omega
    · have hks : k = s.size := by omega
      subst hks
      go_wp2_with (at_builtin; refine wpList_append_own _ rfl (.tmp 28) (.tmp 32) 131 rfl w.heap.size 9 i0 _ 1 16 Tryz.underlying131 hi0 hz0 hz1 hz2 rfl (by decide) _ _ _ rfl (hown.alloc _) ⟨wr.heap.size, 0, none⟩ 1 1 [.string (s.extract (sp s sep s.size).2 s.size)] rfl rfl ?c1 ?c2 ?c3 ?c4 ?c5 ?_)
      case c1 => exact cell_one_new _ _ _
      case c2 => intro u hu; simp at hu; subst hu; rfl
      case c3 => unfold maxLen; omega
      case c4 => omega
      case c5 => simp; omega
      intro v' w1 hown' hgrow _
      have R := own_snoc hown' hgrow hown hbel
      clear hown' hgrow hown hbel
      go_wp2
      go_ret
      exact ⟨_, rfl, R.1, R.2⟩

theorem own_cells {w : World} {B g n c : Nat} {l : List ByteArray} (h : w.ownsRow B 9 1 (.slice (some ⟨g, 0, none⟩) n c) n (l.map Value.string)) :
    ∀ i (hi : i < l.length), w.cell? ⟨g, i, none⟩ = some (.string l[i]) := by
  intro i hi
  have hl : l.length = n := by simpa using h.1
  rw [h.cellAt i (by omega)]
  simp [hi]

theorem belowN {B : Nat} {a w : World} (h : Below B a w) (n : Nat) : Below B a (w.drewN n) := ⟨h.os, h.tape, h.output, h.size, h.block⟩

end Go.Proofs.YtedmkdjijhflnaaGreat
namespace Go.Proofs.YtedmkdjijhflnaaGreat
theorem list16 {α : Type} (l : List α) (h : l.length = 16) : ∃ y0 y1 y2 y3 y4 y5 y6 y7 y8 y9 y10 y11 y12 y13 y14 y15, l = [y0, y1, y2, y3, y4, y5, y6, y7, y8, y9, y10, y11, y12, y13, y14, y15] := by
  match l, h with
  | [y0, y1, y2, y3, y4, y5, y6, y7, y8, y9, y10, y11, y12, y13, y14, y15], _ => exact ⟨y0, y1, y2, y3, y4, y5, y6, y7, y8, y9, y10, y11, y12, y13, y14, y15, rfl⟩
end Go.Proofs.YtedmkdjijhflnaaGreat
namespace Go.Proofs.YtedmkdjijhflnaaGreat
open Go.RowKit

structure AddrAt (w : World) (G : Nat) (f : Int) (bs : List Nat) : Prop where
  len : bs.length = 16
  lt : G < w.heap.size
  fam : w.cell? ⟨G, 0, none⟩ = some (.int .i64 f)
  cells : ∀ j, j < 16 → w.cell? ⟨G, 1 + j, none⟩ = some (.int .u8 ((bs.getD j 0 : Nat) : Int))
  live : ∀ j, j < 17 → w.frozen? ⟨G, j, none⟩ = false
theorem AddrAt.below {w w' : World} {G : Nat} {f : Int} {bs : List Nat} (h : AddrAt w G f bs) (hb : Below w.heap.size w w') : AddrAt w' G f bs :=
  ⟨h.len, Nat.lt_of_lt_of_le h.lt hb.size, by rw [hb.cell (p := ⟨G, 0, none⟩) h.lt]; exact h.fam, fun j hj => by rw [hb.cell (p := ⟨G, 1 + j, none⟩) h.lt]; exact h.cells j hj, fun j hj => by rw [hb.frozen (p := ⟨G, j, none⟩) h.lt]; exact h.live j hj⟩
theorem AddrAt.of (w : World) (t : TypeId) (cs : Array Value) (f : Int) (bs : List Nat) (h16 : bs.length = 16) (h : cs.toList = Value.int .i64 f :: bs.map fun n => Value.int .u8 ((n : Nat) : Int)) : AddrAt (w.alloc (.cells cs t)) w.heap.size f bs := by
  have e : ∀ j, cs[j]? = (Value.int .i64 f :: bs.map fun n => Value.int .u8 ((n : Nat) : Int))[j]? := fun j => by rw [← h, Array.getElem?_toList]
  refine ⟨h16, by simp, ?_, ?_, fun j _ => World.frozen?_alloc_new _ _ _ _⟩
  · rw [World.cell?_alloc_new, e]; rfl
  · intro j hj
    rw [World.cell?_alloc_new, Nat.add_comm 1 j, e, List.getElem?_cons_succ, List.getElem?_map, List.getD_eq_getElem?_getD, List.getElem?_eq_getElem (by omega)]
    rfl
def storeA (W : World) (R : Nat) (f : Int) (y0 y1 y2 y3 y4 y5 y6 y7 y8 y9 y10 y11 y12 y13 y14 y15 : Nat) : World := (((((((((((((((((W.setCell ⟨R, 0, none⟩ (.int .i64 f)).setCell ⟨R, 1, none⟩ (.int .u8 ((y0 : Nat) : Int))).setCell ⟨R, 2, none⟩ (.int .u8 ((y1 : Nat) : Int))).setCell ⟨R, 3, none⟩ (.int .u8 ((y2 : Nat) : Int))).setCell ⟨R, 4, none⟩ (.int .u8 ((y3 : Nat) : Int))).setCell ⟨R, 5, none⟩ (.int .u8 ((y4 : Nat) : Int))).setCell ⟨R, 6, none⟩ (.int .u8 ((y5 : Nat) : Int))).setCell ⟨R, 7, none⟩ (.int .u8 ((y6 : Nat) : Int))).setCell ⟨R, 8, none⟩ (.int .u8 ((y7 : Nat) : Int))).setCell ⟨R, 9, none⟩ (.int .u8 ((y8 : Nat) : Int))).setCell ⟨R, 10, none⟩ (.int .u8 ((y9 : Nat) : Int))).setCell ⟨R, 11, none⟩ (.int .u8 ((y10 : Nat) : Int))).setCell ⟨R, 12, none⟩ (.int .u8 ((y11 : Nat) : Int))).setCell ⟨R, 13, none⟩ (.int .u8 ((y12 : Nat) : Int))).setCell ⟨R, 14, none⟩ (.int .u8 ((y13 : Nat) : Int))).setCell ⟨R, 15, none⟩ (.int .u8 ((y14 : Nat) : Int))).setCell ⟨R, 16, none⟩ (.int .u8 ((y15 : Nat) : Int)))
end Go.Proofs.YtedmkdjijhflnaaGreat
namespace Go.Proofs.YtedmkdjijhflnaaGreat
open Go.RowKit

def addrL (f : Int) (bs : List Nat) : List Value := Value.int .i64 f :: bs.map fun n => Value.int .u8 ((n : Nat) : Int)
theorem addrL_len (f : Int) (bs : List Nat) (h : bs.length = 16) : (addrL f bs).length = 17 := by simp [addrL, h]
theorem addrL_one (f : Int) (bs : List Nat) : (addrL f bs).toArray.all (·.oneCell') = true := all_oneCell_toArray fun v hv => by
  rcases List.mem_cons.1 hv with rfl | hv
  · rfl
  · obtain ⟨n, _, rfl⟩ := List.mem_map.1 hv
    rfl
theorem AddrAt.range {w : World} {G : Nat} {f : Int} {bs : List Nat} (h : AddrAt w G f bs) : w.rangeAt G 0 (addrL f bs) := by
  intro j v hv
  rw [Nat.zero_add]
  cases j with
  | zero => rw [h.fam, ← hv]; rfl
  | succ j =>
    have hv2 : (bs.map fun n => Value.int .u8 ((n : Nat) : Int))[j]? = some v := hv
    rw [List.getElem?_map] at hv2
    have hj : j < 16 := by
      rw [← h.len]
      apply Classical.byContradiction
      intro h2
      rw [List.getElem?_eq_none (by omega)] at hv2
      cases hv2
    have h3 := h.cells j hj
    rw [Nat.add_comm 1 j] at h3
    rw [h3, ← hv2, List.getD_eq_getElem?_getD, List.getElem?_eq_getElem (by rw [h.len]; exact hj)]
    rfl
theorem AddrAt.there {w : World} {G : Nat} {f : Int} {bs : List Nat} (h : AddrAt w G f bs) : w.there G 0 17 := by
  intro j hj
  rw [Nat.zero_add]
  refine ⟨?_, h.live j hj⟩
  cases j with
  | zero => rw [h.fam]; rfl
  | succ j => have h3 := h.cells j (by omega); rw [Nat.add_comm 1 j] at h3; rw [h3]; rfl
theorem AddrAt.ofRange {w : World} {G : Nat} {f : Int} {bs : List Nat} (hl : bs.length = 16) (hlt : G < w.heap.size) (h : w.rangeAt G 0 (addrL f bs)) (ht : w.there G 0 17) : AddrAt w G f bs := by
  refine ⟨hl, hlt, h 0 _ rfl, ?_, fun j hj => ?_⟩
  · intro j hj
    have h1 := h (1 + j) (.int .u8 ((bs.getD j 0 : Nat) : Int)) (by
      rw [addrL, Nat.add_comm 1 j, List.getElem?_cons_succ, List.getElem?_map, List.getD_eq_getElem?_getD, List.getElem?_eq_getElem (by omega)]; rfl)
    rw [Nat.zero_add] at h1
    exact h1
  · have h1 := (ht j hj).2
    rw [Nat.zero_add] at h1
    exact h1
theorem size_setCells (b : Nat) : ∀ (vs : List Value) (o : Nat) (w : World), (w.setCells b o vs).heap.size = w.heap.size
  | [], _, _ => rfl
  | v :: r, o, w => by rw [World.setCells, size_setCells b r]; simp
theorem below_cells {B b : Nat} {a : World} (hb : B ≤ b) : ∀ (vs : List Value) (o : Nat) (w : World), Below B a w → Below B a (w.setCells b o vs)
  | [], _, _, h => h
  | v :: r, o, w, h => by rw [World.setCells]; exact below_cells hb r _ _ (h.setCell (p := ⟨b, o, none⟩) hb v)
theorem AddrAt.stored {w : World} {G : Nat} {g : Int} {bs : List Nat} (h : AddrAt w G g bs) (f : Int) (cs : List Nat) (hl : cs.length = 16) : AddrAt (w.setCells G 0 (addrL f cs)) G f cs := by
  have ht : w.there G 0 (addrL f cs).length := by rw [addrL_len f cs hl]; exact h.there
  exact AddrAt.ofRange hl (by rw [size_setCells]; exact h.lt) (World.rangeAt_setCells_same w G 0 _ ht) (World.there_setCells h.there G 0 _)
theorem addr_size : (Tryz.prog.info? 69).map (·.size) = some 17 := by kernel_rfl
theorem store_addr {ops : Array Oper} {rest : List Oper} {op : Oper} {a : Act} {w : World} {Q : Exit → Act → World → Prop} {G : Nat} {g : Int} {bs0 : List Nat} (hA : Hid (AddrAt w G g bs0)) (x y : Operand) {f : Int} {bs : List Nat} (hl : Hid (bs.length = 16)) (hgd : op.guard = none) (ho : op.op = .store 69 x y)
    (hx : a.eval x = .pointer (some ⟨G, 0, none⟩)) (hy : a.eval y = addrV f bs) (h : ∀ W, Hid (W = w.setCells G 0 (addrL f bs)) → Hid (AddrAt W G f bs) → wpList Tryz.prog ops Q rest (a.put op.dst undef) W) : wpList Tryz.prog ops Q (op :: rest) a w :=
  wpList_store_mid hgd 69 x y ho G 0 (addrL f bs).toArray hx hy (by rw [List.size_toArray, addrL_len f bs hl.out]; exact hA.out.there) (by rw [addr_size, List.size_toArray, addrL_len f bs hl.out]) (addrL_one f bs) (h _ (Lib.hid rfl) (Lib.hid (hA.out.stored f bs hl.out)))
end Go.Proofs.YtedmkdjijhflnaaGreat
namespace Go.Proofs.YtedmkdjijhflnaaGreat
open Go.RowKit

abbrev zA : Array Value := #[.int .i64 0, .int .u8 0, .int .u8 0, .int .u8 0, .int .u8 0, .int .u8 0, .int .u8 0, .int .u8 0, .int .u8 0, .int .u8 0, .int .u8 0, .int .u8 0, .int .u8 0, .int .u8 0, .int .u8 0, .int .u8 0, .int .u8 0]
theorem addr_boxed (f : Int) (bs : List Nat) (w : World) (h16 : bs.length = 16) :
    ∃ cs : Array Value, addrV f bs = .agg cs ∧ Hid (AddrAt (w.alloc (.cells cs 69)) w.heap.size f bs) ∧ Hid (Below w.heap.size w (w.alloc (.cells cs 69))) :=
  ⟨_, rfl, Lib.hid (AddrAt.of w _ _ f bs h16 rfl), Lib.hid ((Below.refl _ _).alloc (Nat.le_refl _) _)⟩
theorem addr_zeroed (w : World) : AddrAt (w.alloc (.cells zA 69)) w.heap.size 0 (List.replicate 16 0) := AddrAt.of w _ _ 0 _ rfl rfl
end Go.Proofs.YtedmkdjijhflnaaGreat
namespace Go.Proofs.YtedmkdjijhflnaaGreat
open Go.RowKit

def byL (gs : List Nat) : List Nat := gs.flatMap fun x => [x / 256, x % 256]
def arr16 (l : List Nat) : Value := .agg (l.map fun n => Value.int .u8 ((n : Nat) : Int)).toArray
def grL (bs : List Nat) : Nat → List Nat
  | 0 => []
  | k + 1 => grL bs k ++ [bs.getD (2 * k) 0 * 256 + bs.getD (2 * k + 1) 0]
end Go.Proofs.YtedmkdjijhflnaaGreat
namespace Go.Proofs.YtedmkdjijhflnaaGreat
open Go.RowKit

theorem guard_addr (op : BinOp) (x y : Operand) (f g : Int) (xs ys : List Nat) (W : World) : (eqGuard op 69 x y (addrV f xs) (addrV g ys)).run Tryz.prog W = .ok () W := run_eqGuard_agg _ _ _ _ _ _ _ Tryz.eqGuardType69
theorem run_eq_addr (f g : Int) (xs ys : List Nat) (W : World) (hx : xs.length = 16) (hy : ys.length = 16) : (binOp .eql 69 (addrV f xs) (addrV g ys)).run Tryz.prog W = .ok (.bool (decide (f = g ∧ xs = ys))) W := by
  have h := eq_addr f g xs ys W hx hy
  unfold addrV at h ⊢
  rw [run_eql_struct, h]
  rfl
theorem run_neq_addr (f g : Int) (xs ys : List Nat) (W : World) (hx : xs.length = 16) (hy : ys.length = 16) : (binOp .neq 69 (addrV f xs) (addrV g ys)).run Tryz.prog W = .ok (.bool (!decide (f = g ∧ xs = ys))) W := by
  have h := eq_addr f g xs ys W hx hy
  unfold addrV at h ⊢
  rw [run_neq_struct, h]
  rfl
end Go.Proofs.YtedmkdjijhflnaaGreat
namespace Go.Proofs.YtedmkdjijhflnaaGreat
open Go.RowKit

def HeldR (L : List (Nat × Nat × List Value)) (W w : World) : Prop := (∀ x ∈ L, w.rangeAt x.1 x.2.1 x.2.2 ∧ x.1 < w.heap.size) ∧ Below W.heap.size W w
section
variable {L : List (Nat × Nat × List Value)} {W w w' : World} {b o : Nat} {cs : List Value}
theorem HeldR.get (h : HeldR L W w) (hm : (b, o, cs) ∈ L) : w.rangeAt b o cs := (h.1 _ hm).1
theorem HeldR.bel (h : HeldR L W w) : Below W.heap.size W w := h.2
theorem HeldR.next (h : HeldR L W w) (hb : Below w.heap.size w w') : HeldR L W w' := by
  refine ⟨fun x hx => ?_, chain h.2 hb⟩
  obtain ⟨h1, h2⟩ := h.1 x hx
  refine ⟨fun j v hv => ?_, Nat.lt_of_lt_of_le h2 hb.size⟩
  rw [hb.cell (p := ⟨x.1, x.2.1 + j, none⟩) h2]
  exact h1 j v hv
theorem HeldR.nil (h : Below W.heap.size W w) : HeldR [] W w := ⟨(fun x hx => by cases hx), h⟩
theorem HeldR.cons (h : HeldR L W w) (hr : w.rangeAt b o cs) (hb : b < w.heap.size) : HeldR ((b, o, cs) :: L) W w :=
  ⟨fun x hx => by
    rcases List.mem_cons.1 hx with rfl | hx
    · exact ⟨hr, hb⟩
    · exact h.1 x hx, h.2⟩
theorem Calls.heldR {P : Program} {f : FuncId} {args : Array Value} {v : Value} (hc : Calls P f args w fun e w' => e = .returned v ∧ Below w.heap.size w w') (h : HeldR L W w) :
    Calls P f args w fun e w' => e = .returned v ∧ HeldR L W w' :=
  hc.mono fun _ _ ⟨he, hb⟩ => ⟨he, h.next hb⟩
def CellR (L : List (Nat × Nat × List Value)) (W : World) (b o : Nat) (v : Value) : Prop := ∀ w, HeldR L W w → w.cell? ⟨b, o, none⟩ = some v
end
theorem wpList_load_row {P : Program} {ops : Array Oper} {rest : List Oper} {op : Oper} {a : Act} {w : World} {Q : Exit → Act → World → Prop} (hw : Region.wanted op (yielded ops a.tmps) = true) (ty : TypeId) (x : Operand) (ho : op.op = .load ty x)
    (b o : Nat) (hx : a.eval x = .pointer (some ⟨b, o, none⟩)) (cs : List Value) (d : TypeDesc) (hc : w.rangeAt b o cs)
    (hu : P.underlying ty = some d) (hd : d.isRow = true) (hi : (P.info? ty).map (·.size) = some cs.length)
    (h : wpList P ops Q rest (a.put op.dst (.agg cs.toArray)) w) : wpList P ops Q (op :: rest) a w := by
  simp only [wpList, hw, if_true]
  exact .inl (wp_load_mid ty x ho b o hx cs d hc hu hd hi h)
end Go.Proofs.YtedmkdjijhflnaaGreat
namespace Go.Proofs.YtedmkdjijhflnaaGreat
open Go.ChangeShapes Go.WideShapes Go.ChangeAt Go.RowKit

theorem flatMap_len {α : Type} (Lf : α → List Value) (S : Nat) : ∀ D : List α, (∀ d ∈ D, (Lf d).length = S) → (D.flatMap Lf).length = D.length * S
  | [], _ => by simp
  | d :: D, h => by
    rw [List.flatMap_cons, List.length_append, h d (by simp), flatMap_len Lf S D (fun x hx => h x (by simp [hx])), List.length_cons, Nat.succ_mul, Nat.add_comm]
theorem flatMap_at {α : Type} (Lf : α → List Value) (S : Nat) : ∀ D : List α, (∀ d ∈ D, (Lf d).length = S) → ∀ k (hk : k < D.length) j, j < S → (D.flatMap Lf)[k * S + j]? = (Lf D[k])[j]?
  | [], _, k, hk, j, hj => absurd hk (by simp)
  | d :: D, h, k, hk, j, hj => by
    have h1 := h d (by simp)
    rw [List.flatMap_cons]
    cases k with
    | zero => rw [Nat.zero_mul, Nat.zero_add, List.getElem?_append_left (by omega)]; rfl
    | succ k =>
      rw [List.getElem?_append_right (by rw [h1, Nat.succ_mul]; omega), h1, show (k + 1) * S + j - S = k * S + j by rw [Nat.succ_mul]; omega]
      exact flatMap_at Lf S D (fun x hx => h x (by simp [hx])) k (by simpa using hk) j hj
theorem range_at {α : Type} {Lf : α → List Value} {S : Nat} {w : World} {g o : Nat} {D : List α} (h : w.rangeAt g o (D.flatMap Lf)) (hl : ∀ d ∈ D, (Lf d).length = S) (k : Nat) (hk : k < D.length) : w.rangeAt g (o + k * S) (Lf D[k]) := by
  intro j u hu
  have hj : j < S := by
    have := hl _ (List.getElem_mem hk)
    apply Classical.byContradiction
    intro h2
    rw [List.getElem?_eq_none (by omega)] at hu
    cases hu
  have := h (k * S + j) u (by rw [flatMap_at Lf S D hl k hk j hj]; exact hu)
  rw [← Nat.add_assoc] at this
  exact this
end Go.Proofs.YtedmkdjijhflnaaGreat
namespace Go.Proofs.YtedmkdjijhflnaaGreat
open Go.RowKit

structure StrRow (w : World) (g n c : Nat) (l : List ByteArray) : Prop where
  len : l.length = n
  cap : n ≤ c
  capm : c ≤ maxLen
  lt : g < w.heap.size
  cells : ∀ i, i < n → w.cell? ⟨g, i, none⟩ = some (.string (l.getD i ⟨#[]⟩))
theorem StrRow.below {w w' : World} {g n c : Nat} {l : List ByteArray} (h : StrRow w g n c l) (hb : Below w.heap.size w w') : StrRow w' g n c l :=
  ⟨h.len, h.cap, h.capm, Nat.lt_of_lt_of_le h.lt hb.size, fun i hi => by rw [hb.cell (p := ⟨g, i, none⟩) h.lt]; exact h.cells i hi⟩
theorem own_row {w : World} {B : Nat} {v : Value} {l : List ByteArray} (h : w.ownsRow B 9 1 v l.length (l.map Value.string)) (h0 : 0 < l.length) :
    ∃ g c, v = .slice (some ⟨g, 0, none⟩) l.length c ∧ B ≤ g ∧ StrRow w g l.length c l := by
  have hh := h
  obtain ⟨g, c, rfl, hg1, hg2⟩ := h.form h0
  have hc : l.length ≤ c ∧ c ≤ maxLen := by
    rcases hh.2 with ⟨h1, _⟩ | ⟨g', cap, cur, h1, _, _, h2, h3, _⟩
    · simp at h1
    · simp only [Value.slice.injEq, Option.some.injEq, Addr.mk.injEq, and_true, true_and] at h1
      obtain ⟨rfl, rfl⟩ := h1
      exact ⟨h2, h3⟩
  refine ⟨g, c, rfl, hg1, rfl, hc.1, hc.2, hg2, fun i hi => ?_⟩
  rw [own_cells hh i hi, List.getD_eq_getElem?_getD, List.getElem?_eq_getElem hi]
  rfl

theorem pieces_pos (s : ByteArray) (sep : Nat) : 0 < (pieces s sep).length := by unfold pieces; simp
theorem sp_small (s : ByteArray) (sep : Nat) : ∀ k, ∀ p ∈ (sp s sep k).1, p.size ≤ s.size
  | 0 => by simp [sp]
  | k + 1 => by
    unfold sp
    split
    · intro p hp
      rcases List.mem_append.1 hp with h | h
      · exact sp_small s sep k p h
      · simp at h; subst h; simp; omega
    · exact sp_small s sep k
theorem pieces_small (s : ByteArray) (sep : Nat) : ∀ p ∈ pieces s sep, p.size ≤ s.size := by
  intro p hp
  unfold pieces at hp
  rcases List.mem_append.1 hp with h | h
  · exact sp_small s sep _ p h
  · simp at h; subst h; simp
theorem getD_small {l : List ByteArray} {m : Nat} (h : ∀ p ∈ l, p.size ≤ m) (i : Nat) : (l.getD i ⟨#[]⟩).size ≤ m := by
  rw [List.getD_eq_getElem?_getD]
  cases hi : l[i]? with
  | none => exact Nat.zero_le _
  | some p => exact h p (List.mem_of_getElem? hi)
theorem pieces_len (s : ByteArray) (sep : Nat) : (pieces s sep).length ≤ s.size + 1 := by
  unfold pieces
  have := (sp_le s sep s.size).2
  simp
  omega

theorem split_row (s : ByteArray) (sep : Nat) (w : World) (hs : s.size ≤ 2000000) :
    Calls Tryz.prog 118 #[.string s, .int .u8 sep] w fun e w' => ∃ g c, e = .returned (.slice (some ⟨g, 0, none⟩) (pieces s sep).length c) ∧ w.heap.size ≤ g ∧ StrRow w' g (pieces s sep).length c (pieces s sep) ∧ Below w.heap.size w w' := by
  refine (split_any s sep w hs).mono ?_
  rintro e w' ⟨v, rfl, ho, hb⟩
  obtain ⟨g, c, rfl, h1, h2⟩ := own_row ho (pieces_pos s sep)
  exact ⟨g, c, rfl, h1, h2, hb⟩
end Go.Proofs.YtedmkdjijhflnaaGreat
namespace Go.Proofs.YtedmkdjijhflnaaGreat
open Go.RowKit

set_option maxHeartbeats 400000 in
theorem refSplit_any (s : ByteArray) (sep : Nat) (w : World) (hs : s.size ≤ 2000000) :
    Calls Tryz.prog 119 #[.string s, .int .u8 sep] w (RetStrs w (pieces s sep)) := by
  obtain ⟨i0, hi0, hz0, hz1, hz2⟩ := info_parts Tryz.infoString
  go_enter Tryz.func119, Tryz.ntmps119
  go_wp2
  go_loopw [5, 6, 7] (fun v f i wr => ∃ k : Nat, k ≤ s.size ∧ i = .int .i64 k ∧ f = .int .i64 (sp s sep k).2 ∧ wr.ownsRow w.heap.size 9 1 v (sp s sep k).1.length ((sp s sep k).1.map Value.string) ∧ Below w.heap.size w wr) (fun _ _ i _ => s.size - (intOf i).toNat)
  case atStart => exact ⟨0, Nat.zero_le _, rfl, rfl, World.ownsRow_nil _ _ _ _, Below.refl _ _⟩
  case round =>
    obtain ⟨k, hk, rfl, rfl, hown, hbel⟩ := hrel
    have hle := sp_le s sep k
    have hsz := hbel.size
    by_cases hlt : k < s.size
    · by_cases hit : (s[k]).toNat = sep
      · have HS := Lib.hid (sp_hit s sep k hlt hit)
        go_wp2_with (at_builtin; refine wpList_append_own _ rfl (.tmp 19) (.tmp 24) 131 rfl w.heap.size 9 i0 _ 1 16 Tryz.underlying131 hi0 hz0 hz1 hz2 rfl (by decide) _ _ _ rfl (hown.alloc _) ⟨wr.heap.size, 0, none⟩ 1 1 [.string (s.extract (sp s sep k).2 k)] rfl rfl ?c1 ?c2 ?c3 ?c4 ?c5 ?_)
        case c1 => exact cell_one_new _ _ _
        case c2 => intro u hu; simp at hu; subst hu; rfl
        case c3 => unfold maxLen; omega
        case c4 => omega
        case c5 => simp; omega
        intro v' w1 hown' hgrow _
        have R := own_snoc hown' hgrow hown hbel
        clear hown' hgrow hown hbel
        go_wp2
        go_roundw
        case rel => exact ⟨k + 1, by omega, by go_num, by rw [HS.out]; go_num, by rw [HS.out]; exact R.1, R.2⟩
        case measure => simp [intOf]; omega
      · have HS := Lib.hid (sp_miss s sep k hlt hit)
        go_wp2
        go_roundw
        case rel => exact ⟨k + 1, by omega, by go_num, by rw [HS.out], by rw [HS.out]; exact hown, hbel⟩
        case measure => simp [intOf]; omega
    · have hks : k = s.size := by omega
      subst hks
      go_wp2_with (at_builtin; refine wpList_append_own _ rfl (.tmp 28) (.tmp 32) 131 rfl w.heap.size 9 i0 _ 1 16 Tryz.underlying131 hi0 hz0 hz1 hz2 rfl (by decide) _ _ _ rfl (hown.alloc _) ⟨wr.heap.size, 0, none⟩ 1 1 [.string (s.extract (sp s sep s.size).2 s.size)] rfl rfl ?c1 ?c2 ?c3 ?c4 ?c5 ?_)
      case c1 => exact cell_one_new _ _ _
      case c2 => intro u hu; simp at hu; subst hu; rfl
      case c3 => unfold maxLen; omega
      case c4 => omega
      case c5 => simp; omega
      intro v' w1 hown' hgrow _
      have R := own_snoc hown' hgrow hown hbel
      clear hown' hgrow hown hbel
      go_wp2
      go_ret
      exact ⟨_, rfl, R.1, R.2⟩
theorem refSplit_row (s : ByteArray) (sep : Nat) (w : World) (hs : s.size ≤ 2000000) :
    Calls Tryz.prog 119 #[.string s, .int .u8 sep] w fun e w' => ∃ g c, e = .returned (.slice (some ⟨g, 0, none⟩) (pieces s sep).length c) ∧ w.heap.size ≤ g ∧ StrRow w' g (pieces s sep).length c (pieces s sep) ∧ Below w.heap.size w w' := by
  refine (refSplit_any s sep w hs).mono ?_
  rintro e w' ⟨v, rfl, ho, hb⟩
  obtain ⟨g, c, rfl, h1, h2⟩ := own_row ho (pieces_pos s sep)
  exact ⟨g, c, rfl, h1, h2, hb⟩
end Go.Proofs.YtedmkdjijhflnaaGreat
namespace Go.Proofs.YtedmkdjijhflnaaGreat
open Go.RowKit

def blankC (n : Nat) : Bool := decide (n = 32) || decide (n = 9)

def byteAt (s : ByteArray) (k : Nat) : Nat := (s.data.toList.getD k 0).toNat
def skip (s : ByteArray) : Nat → Nat → Nat
  | 0, k => k
  | n + 1, k => if k < s.size ∧ blankC (byteAt s k) = true then skip s n (k + 1) else k
def lead (s : ByteArray) : Nat := skip s s.size 0
def back (s : ByteArray) (f : Nat) : Nat → Nat
  | 0 => 0
  | k + 1 => if f < k + 1 ∧ blankC (byteAt s k) = true then back s f k else k + 1
def trimB (s : ByteArray) : ByteArray := s.extract (lead s) (back s (lead s) s.size)
def joinTo (xs : List ByteArray) (sep : ByteArray) : Nat → ByteArray
  | 0 => { data := #[] }
  | k + 1 => (if 0 < k then joinTo xs sep k ++ sep else joinTo xs sep k) ++ xs.getD k { data := #[] }
theorem joinTo_mono (xs : List ByteArray) (sep : ByteArray) (k : Nat) : ∀ m, (joinTo xs sep k).size ≤ (joinTo xs sep (k + m)).size
  | 0 => Nat.le_refl _
  | m + 1 => by
    have := joinTo_mono xs sep k m
    rw [← Nat.add_assoc, joinTo, ByteArray.size_append]
    split
    · rw [ByteArray.size_append]; omega
    · omega
theorem joinTo_piece (xs : List ByteArray) (sep : ByteArray) (k : Nat) : (xs.getD k { data := #[] }).size ≤ (joinTo xs sep (k + 1)).size := by
  rw [joinTo, ByteArray.size_append]; omega

def joinB (xs : List ByteArray) (sep : ByteArray) : ByteArray := joinTo xs sep xs.length
theorem joinTo_front (xs : List ByteArray) (sep x : ByteArray) : ∀ k, k ≤ xs.length → joinTo (xs ++ [x]) sep k = joinTo xs sep k
  | 0, _ => rfl
  | k + 1, h => by
    have e : (xs ++ [x]).getD k { data := #[] } = xs.getD k { data := #[] } := by
      simp only [List.getD_eq_getElem?_getD]
      rw [List.getElem?_append_left (by omega)]
    rw [joinTo, joinTo, joinTo_front xs sep x k (by omega), e]
theorem joinB_snoc (xs : List ByteArray) (sep x : ByteArray) : joinB (xs ++ [x]) sep = (if 0 < xs.length then joinB xs sep ++ sep else joinB xs sep) ++ x := by
  have e : (xs ++ [x]).getD xs.length { data := #[] } = x := by simp [List.getD_eq_getElem?_getD]
  unfold joinB
  rw [List.length_append, List.length_singleton, joinTo, joinTo_front xs sep x xs.length (Nat.le_refl _), e]
theorem take_more (l : List UInt8) (f k : Nat) (h : f ≤ k) : l.take f ++ (l.drop f).take (k - f) = l.take k := by
  rw [← List.take_add, Nat.add_sub_cancel' h]
theorem sp_join (s : ByteArray) (sep : Nat) (hsep : sep < 256) : ∀ k, k ≤ s.size →
    ((sp s sep k).1 = [] ∧ (sp s sep k).2 = 0) ∨ (0 < (sp s sep k).1.length ∧ (joinB (sp s sep k).1 { data := #[UInt8.ofNat sep] }).data.toList ++ [UInt8.ofNat sep] = s.data.toList.take (sp s sep k).2)
  | 0, _ => .inl ⟨rfl, rfl⟩
  | k + 1, h => by
    have ih := sp_join s sep hsep k (by omega)
    have hle := sp_le s sep k
    by_cases hit : (s[k]).toNat = sep
    · rw [sp_hit s sep k (by omega) hit]
      right
      refine ⟨by simp, ?_⟩
      have hlast : s.data.toList.take (k + 1) = s.data.toList.take k ++ [UInt8.ofNat sep] := by
        rw [List.take_succ_eq_append_getElem (by simp; omega)]
        congr 2
        rw [← hit]
        exact (UInt8.ofNat_toNat).symm
      rw [joinB_snoc, data_append, data_extract, hlast]
      congr 1
      rcases ih with ⟨h1, h2⟩ | ⟨h1, h2⟩
      · rw [h1, h2]
        simp [joinB, joinTo]
      · rw [if_pos h1, data_append]
        show (_ ++ [UInt8.ofNat sep]) ++ _ = _
        rw [h2, take_more _ _ _ hle.1]
    · rw [sp_miss s sep k (by omega) hit]
      exact ih
theorem pieces_join (s : ByteArray) (sep : Nat) (hsep : sep < 256) : joinB (pieces s sep) { data := #[UInt8.ofNat sep] } = s := by
  have hle := sp_le s sep s.size
  apply bytes_ext
  unfold pieces
  rw [joinB_snoc, data_append, data_extract]
  have hall : s.data.toList.take s.size = s.data.toList := List.take_of_length_le (by simp)
  rcases sp_join s sep hsep s.size (Nat.le_refl _) with ⟨h1, h2⟩ | ⟨h1, h2⟩
  · rw [h1, h2]
    simp [joinB, joinTo]
    exact hall
  · rw [if_pos h1, data_append]
    show (_ ++ [UInt8.ofNat sep]) ++ _ = _
    rw [h2, take_more _ _ _ hle.1, hall]
end Go.Proofs.YtedmkdjijhflnaaGreat
namespace Go.Proofs.YtedmkdjijhflnaaGreat
open Go.RowKit

def lowC (n : Nat) : Nat := if 65 ≤ n ∧ n ≤ 90 then n + 32 else n
theorem lowC_le {n : Nat} (h : n < 256) : lowC n < 256 := by unfold lowC; split <;> omega
def lowU (c : UInt8) : UInt8 := UInt8.ofNat (lowC c.toNat)
theorem lowU_toNat (c : UInt8) : (lowU c).toNat = lowC c.toNat := by
  unfold lowU
  rw [UInt8.toNat_ofNat']
  exact Nat.mod_eq_of_lt (lowC_le c.toNat_lt)
def lowB (s : ByteArray) : ByteArray := ⟨(s.data.toList.map lowU).toArray⟩
theorem lowB_list (s : ByteArray) : (lowB s).data.toList = s.data.toList.map lowU := by simp [lowB]
theorem lowB_size (s : ByteArray) : (lowB s).size = s.size := by
  have : (lowB s).data.toList.length = s.data.toList.length := by rw [lowB_list]; simp
  simpa using this
def likeB (a b : ByteArray) : Bool := (lowB a).toList == (lowB b).toList
theorem likeB_iff (a b : ByteArray) : likeB a b = true ↔ a.data.toList.map lowU = b.data.toList.map lowU := by
  unfold likeB
  rw [beq_iff_eq, ByteArray.toList_eq, ByteArray.toList_eq, lowB_list, lowB_list]
theorem likeB_size {a b : ByteArray} (h : a.size ≠ b.size) : likeB a b = false := by
  cases hl : likeB a b with
  | false => rfl
  | true =>
    rw [likeB_iff] at hl
    have := congrArg List.length hl
    simp at this
    omega
def LikeTo (a b : ByteArray) (k : Nat) : Prop := ∀ j (ha : j < a.size) (hb : j < b.size), j < k → lowC (a[j]).toNat = lowC (b[j]).toNat
theorem likeTo_zero (a b : ByteArray) : LikeTo a b 0 := fun _ _ _ h => by omega
theorem likeTo_succ {a b : ByteArray} {k : Nat} (h : LikeTo a b k) (ha : k < a.size) (hb : k < b.size) (he : lowC (a[k]).toNat = lowC (b[k]).toNat) : LikeTo a b (k + 1) := by
  intro j ja jb hlt
  by_cases e : j = k
  · subst e; exact he
  · exact h j ja jb (by omega)
theorem likeB_true {a b : ByteArray} {k : Nat} (h : LikeTo a b k) (hs : a.size = b.size) (hk : a.size ≤ k) : likeB a b = true := by
  rw [likeB_iff]
  apply List.ext_getElem
  · simpa using hs
  · intro j h1 h2
    have j1 : j < a.size := by simpa using h1
    have j2 : j < b.size := by simpa using h2
    rw [List.getElem_map, List.getElem_map]
    apply UInt8.toNat_inj.1
    rw [lowU_toNat, lowU_toNat]
    exact h j j1 j2 (by omega)
theorem likeB_false {a b : ByteArray} {k : Nat} (ha : k < a.size) (hb : k < b.size) (he : lowC (a[k]).toNat ≠ lowC (b[k]).toNat) : likeB a b = false := by
  cases hl : likeB a b with
  | false => rfl
  | true =>
    rw [likeB_iff] at hl
    have h1 : (a.data.toList.map lowU)[k]? = (b.data.toList.map lowU)[k]? := by rw [hl]
    rw [List.getElem?_eq_getElem (by simpa using ha), List.getElem?_eq_getElem (by simpa using hb), List.getElem_map, List.getElem_map] at h1
    have h2 := congrArg UInt8.toNat (Option.some.inj h1)
    rw [lowU_toNat, lowU_toNat] at h2
    exact absurd h2 he

set_option maxHeartbeats 400000 in
theorem small_any (c : Nat) (w : World) (hc : c < 256) :
    Calls Tryz.prog 111 #[.int .u8 (c : Int)] w fun e w' => e = .returned (.int .u8 ((lowC c : Nat) : Int)) ∧ w = w' := by
  by_cases h : 65 ≤ c ∧ c ≤ 90
  · have e : lowC c = c + 32 := by unfold lowC; rw [if_pos h]
    rw [e]
    go_enter Tryz.func111, Tryz.ntmps111
    go_wp2
    go_ret
    refine ⟨?_, rfl⟩
    have e2 : IntKind.u8.wrap ((c : Int) + 32) = ((c + 32 : Nat) : Int) := by rw [IntKind.wrap_u8]; omega
    first | rfl | rw [e2] | simp [e2]
  · have e : lowC c = c := by unfold lowC; rw [if_neg h]
    rw [e]
    by_cases h1 : c < 65
    · go_enter Tryz.func111, Tryz.ntmps111
      go_wp2
      go_ret
      exact ⟨rfl, rfl⟩
    · have h2 : 90 < c := by omega
      go_enter Tryz.func111, Tryz.ntmps111
      go_wp2
      go_ret
      exact ⟨rfl, rfl⟩

set_option maxHeartbeats 400000 in
theorem like_any (a b : ByteArray) (w : World) (ha : a.size ≤ 2000000) (hb : b.size ≤ 2000000) :
    Calls Tryz.prog 82 #[.string a, .string b] w fun e w' => e = .returned (.bool (likeB a b)) ∧ ∃ q, w' = w.drewN q := by
  by_cases hs : a.size = b.size
  · have HS := Lib.hid hs
    have hs1 : ((a.size : Int) != (b.size : Int)) = false := by simp [hs]
    have hs2 : a.size ≤ b.size := by omega
    clear hs
    go_enter Tryz.func82, Tryz.ntmps82
    go_wp2
    go_loopw [13] (fun i wr => ∃ k q : Nat, k ≤ a.size ∧ i = .int .i64 k ∧ LikeTo a b k ∧ wr = w.drewN q) (fun i _ => a.size - (intOf i).toNat)
    case atStart => exact ⟨0, 0, Nat.zero_le _, rfl, likeTo_zero _ _, rfl⟩
    case round =>
      obtain ⟨k, q, hk, rfl, hlk, rfl⟩ := hrel
      by_cases hlt : k < a.size
      · have hltb : k < b.size := by omega
        have b0 : (0 : Int) ≤ (k : Int) := by omega
        have b1 : (k : Int) < (a.size : Int) := by omega
        have b2 : (k : Int) < (b.size : Int) := by omega
        have u1 : (a[k]).toNat < 256 := (a[k]).toNat_lt
        have u2 : (b[k]).toNat < 256 := (b[k]).toNat_lt
        by_cases he : lowC (a[k]).toNat = lowC (b[k]).toNat
        · have ht : ((lowC (a[k]).toNat : Int) != (lowC (b[k]).toNat : Int)) = false := by simp [he]
          have HE := Lib.hid he
          clear he
          go_wp2
          go_quiet ((go_at_call 111; first | exact quiet_left (small_any _ _ (by assumption)) | exact quiet_add_left (small_any _ _ (by assumption))))
          go_wp2
          go_roundw
          case rel => exact ⟨k + 1, _, by omega, by go_num, likeTo_succ hlk hlt hltb HE.out, rfl⟩
          case measure => simp [intOf]; omega
        · have ht : ((lowC (a[k]).toNat : Int) != (lowC (b[k]).toNat : Int)) = true := by simp; omega
          have HE := Lib.hid he
          clear he
          go_wp2
          go_quiet ((go_at_call 111; first | exact quiet_left (small_any _ _ (by assumption)) | exact quiet_add_left (small_any _ _ (by assumption))))
          go_wp2
          go_ret
          exact ⟨bool_ret (likeB_false hlt hltb HE.out).symm, by first | exact ⟨_, rfl⟩ | exact ⟨_, World.drewN_drewN _ _ _⟩⟩
      · go_wp2
        go_ret
        exact ⟨bool_ret (likeB_true hlk HS.out (by omega)).symm, _, rfl⟩
  · have hs1 : ((a.size : Int) != (b.size : Int)) = true := by simp; omega
    have HS := Lib.hid hs
    clear hs
    go_enter Tryz.func82, Tryz.ntmps82
    go_wp2
    go_ret
    exact ⟨bool_ret (likeB_size HS.out).symm, 0, rfl⟩

def LowAt (w : World) (s : ByteArray) (k : Nat) (wr : World) : Prop :=
  Below w.heap.size w wr ∧ w.heap.size < wr.heap.size ∧ ∀ j (hj : j < s.size), wr.cell? ⟨w.heap.size, j, none⟩ = some (.int .u8 ((if j < k then lowC (s[j]).toNat else (s[j]).toNat : Nat) : Int)) ∧ wr.frozen? ⟨w.heap.size, j, none⟩ = false
theorem lowAt_start (w : World) (s : ByteArray) : LowAt w s 0 (Lib.bytesWorld w 5 s) := by
  refine ⟨⟨rfl, rfl, rfl, by rw [Lib.bytesWorld_size]; omega, fun k hk => Lib.bytesWorld_at_old w _ s k hk⟩, by rw [Lib.bytesWorld_size]; omega, fun j hj => ⟨?_, ?_⟩⟩
  · rw [Lib.bytesWorld_cell w _ s j hj, if_neg (by omega)]
    have e : s.data.toList.getD j 0 = s[j] := by
      rw [List.getD_eq_getElem?_getD, List.getElem?_eq_getElem (by simpa using hj)]; rfl
    rw [e]
  · unfold World.frozen?
    rw [Lib.bytesWorld_at_new]
    have : s.size ≤ (Lib.bytesCells w 5 s).size := by simp [Lib.bytesCells]
    simp
    omega
theorem lowAt_step {w : World} {s : ByteArray} {k : Nat} {wr : World} (h : LowAt w s k wr) (hk : k < s.size) : LowAt w s (k + 1) (wr.setCell ⟨w.heap.size, k, none⟩ (.int .u8 ((lowC (s[k]).toNat : Nat) : Int))) := by
  obtain ⟨h1, h2, h3⟩ := h
  refine ⟨h1.setCell (Nat.le_refl _) _, by simpa [World.setCell] using h2, fun j hj => ⟨?_, by rw [World.frozen?_setCell]; exact (h3 j hj).2⟩⟩
  by_cases e : j = k
  · subst e
    rw [World.cell?_setCell_same _ _ _ (h3 j hj).1, if_pos (by omega)]
  · rw [World.cell?_setCell_other _ _ _ _ (by intro h; injection h; omega), (h3 j hj).1]
    by_cases hlt : j < k
    · rw [if_pos hlt, if_pos (by omega)]
    · rw [if_neg hlt, if_neg (by omega)]
theorem lowAt_back {w : World} {s : ByteArray} {wr : World} (cap : Nat) (h : LowAt w s s.size wr) :
    (convert 38 9 (.slice (some ⟨w.heap.size, 0, none⟩) s.size cap)).run Tryz.prog wr = .ok (.string (lowB s)) wr := by
  have hl : (s.data.toList.map lowU).length = s.size := by simp
  have hb := run_convert_bytes_back (P := Tryz.prog) wr 38 9 5 ⟨w.heap.size, 0, none⟩ cap (s.data.toList.map lowU) Tryz.underlying38 Tryz.underlying5 Tryz.underlying9 (by
    intro j hj
    have hj' : j < s.size := by omega
    have := (h.2.2 j hj').1
    rw [if_pos hj'] at this
    rw [List.getElem_map, lowU_toNat]
    rw [add_none]
    exact this)
  rw [hl] at hb
  exact hb

set_option maxHeartbeats 400000 in
theorem lower_any (s : ByteArray) (w : World) (hs : s.size ≤ 2000000) :
    Calls Tryz.prog 96 #[.string s] w fun e w' => e = .returned (.string (lowB s)) ∧ Below w.heap.size w w' := by
  have hconv := fun W => Lib.run_convert_string_bytes (P := Tryz.prog) W 9 38 5 s Tryz.underlying9 Tryz.underlying38 Tryz.underlying5
  have hst := lowAt_start w s
  go_enter Tryz.func96, Tryz.ntmps96
  go_wp2
  generalize grownCap w s.size 0 5 = cap
  clear hconv
  generalize Lib.bytesWorld w 5 s = W1 at *
  go_loopw [10] (fun i wr => ∃ k : Nat, k ≤ s.size ∧ i = .int .i64 k ∧ LowAt w s k wr) (fun i _ => s.size - (intOf i).toNat)
  case atStart => exact ⟨0, Nat.zero_le _, rfl, hst⟩
  case round =>
    obtain ⟨k, hk, rfl, hat⟩ := hrel
    by_cases hlt : k < s.size
    · have hc := (hat.2.2 k hlt).1
      have hf := (hat.2.2 k hlt).2
      rw [if_neg (by omega)] at hc
      have u1 : (s[k]).toNat < 256 := (s[k]).toNat_lt
      have hnext := lowAt_step hat hlt
      go_wp2_with fail
      refine (small_any _ _ u1).mono ?_
      rintro e w' ⟨rfl, rfl⟩
      go_wp2
      go_roundw
      case rel => exact ⟨k + 1, by omega, by go_num, hnext⟩
      case measure => simp [intOf]; omega
    · obtain rfl : k = s.size := by omega
      have hb := lowAt_back cap hat
      have hbel := hat.1
      go_wp2
      go_ret
      exact ⟨rfl, hbel⟩

end Go.Proofs.YtedmkdjijhflnaaGreat
namespace Go.Proofs.YtedmkdjijhflnaaGreat
open Go.RowKit

def labelsB (s : ByteArray) : List ByteArray := if s.size = 0 then [] else pieces s 46
def RowS (w : World) (a : Option Addr) (c : Nat) (l : List ByteArray) : Prop := (a = none ∧ c = 0 ∧ l = []) ∨ ∃ g, a = some ⟨g, 0, none⟩ ∧ StrRow w g l.length c l
theorem RowS.below {w w' : World} {a : Option Addr} {c : Nat} {l : List ByteArray} (h : RowS w a c l) (hb : Below w.heap.size w w') : RowS w' a c l := by
  rcases h with h | ⟨g, e, h⟩
  · exact .inl h
  · exact .inr ⟨g, e, h.below hb⟩
theorem RowS.cap {w : World} {a : Option Addr} {c : Nat} {l : List ByteArray} (h : RowS w a c l) : l.length ≤ c ∧ c ≤ maxLen := by
  rcases h with ⟨_, rfl, rfl⟩ | ⟨g, e, h⟩
  · exact ⟨Nat.le_refl _, Nat.zero_le _⟩
  · exact ⟨h.cap, h.capm⟩
theorem labels_small (s : ByteArray) : ∀ p ∈ labelsB s, p.size ≤ s.size := by
  unfold labelsB
  split
  · intro p hp; cases hp
  · exact pieces_small s 46
theorem labels_len (s : ByteArray) : (labelsB s).length ≤ s.size + 1 := by
  unfold labelsB
  split
  · simp
  · exact pieces_len s 46
set_option maxRecDepth 100000 in
theorem refLabels_any (s : ByteArray) (w : World) (hs : s.size ≤ 2000000) :
    Calls Tryz.prog 91 #[.string s] w fun e w' => ∃ a c, e = .returned (.slice a (labelsB s).length c) ∧ RowS w' a c (labelsB s) ∧ Below w.heap.size w w' := by
  by_cases h0 : s.size = 0
  · have he := isEmpty_true s h0
    have HE : Hid (labelsB s = []) := Lib.hid (by unfold labelsB; rw [if_pos h0])
    rw [HE.out]
    clear hs h0
    go_enter Tryz.func91, Tryz.ntmps91
    go_wp2_with fail
    go_ret
    exact ⟨none, 0, rfl, .inl ⟨rfl, rfl, rfl⟩, Below.refl _ _⟩
  · have he := isEmpty_false s (by omega)
    have HE : Hid (labelsB s = pieces s 46) := Lib.hid (by unfold labelsB; rw [if_neg h0])
    have HSP := Lib.hid (refSplit_row s 46 w hs)
    rw [HE.out]
    generalize pieces s 46 = l at *
    clear hs h0 HE
    go_enter Tryz.func91, Tryz.ntmps91
    go_wp2_with fail
    refine HSP.out.mono ?_
    rintro e w1 ⟨g, c, rfl, hg, hr, hb⟩
    have HR := Lib.hid hr
    have HB := Lib.hid hb
    clear hr hb hg HSP
    go_wp2_with fail
    go_ret
    exact ⟨_, _, rfl, .inr ⟨g, rfl, HR.out⟩, HB.out⟩
def sizeTo (l : List ByteArray) : Nat → Nat
  | 0 => 1
  | k + 1 => sizeTo l k + 1 + (l.getD k ⟨#[]⟩).size
def sizeL (l : List ByteArray) : Nat := sizeTo l l.length
theorem sizeTo_le {l : List ByteArray} (h : ∀ p ∈ l, p.size ≤ 2000000) : ∀ k, sizeTo l k ≤ 1 + k * 2000001
  | 0 => by simp [sizeTo]
  | k + 1 => by
    have h1 := sizeTo_le h k
    have h2 := getD_small h k
    unfold sizeTo
    omega
set_option maxRecDepth 100000 in
theorem refSize_any (a : Option Addr) (c : Nat) (l : List ByteArray) (w : World) (hr : RowS w a c l) (hsm : ∀ p ∈ l, p.size ≤ 2000000) (hn : l.length ≤ 2000000) :
    Calls Tryz.prog 94 #[.slice a l.length c] w fun e w' => e = .returned (.int .i64 ((sizeL l : Nat) : Int)) ∧ w' = w := by
  have HR := Lib.hid hr
  have HSM := Lib.hid hsm
  have HSZ : Hid (sizeL l = sizeTo l l.length) := Lib.hid rfl
  obtain ⟨N, hN⟩ : ∃ N, l.length = N := ⟨_, rfl⟩
  have HN := Lib.hid hN
  rw [hN] at hn HSZ ⊢
  clear hr hsm hN
  go_enter Tryz.func94, Tryz.ntmps94
  go_wp2_with fail
  go_loop [3, 4] (fun t i => ∃ k : Nat, k ≤ N ∧ i = .int .i64 (k : Int) ∧ t = .int .i64 ((sizeTo l k : Nat) : Int)) (fun _ i => N - (intOf i).toNat)
  case atStart => exact ⟨0, Nat.zero_le _, rfl, rfl⟩
  case round =>
    obtain ⟨k, hk, rfl, rfl⟩ := hrel
    by_cases hkN : k < N
    · have hd : decide ((k : Int) < (N : Int)) = true := decide_eq_true (by omega)
      have hdn : decide (k < N) = true := decide_eq_true (by omega)
      rcases HR.out with ⟨_, _, h0⟩ | ⟨g, rfl, h⟩
      · have := HN.out; rw [h0] at this; simp at this; omega
      have hc := h.cells k (by rw [HN.out]; exact hkN)
      have hz := getD_small HSM.out k
      have hb := sizeTo_le HSM.out k
      have HS : Hid (sizeTo l (k + 1) = sizeTo l k + 1 + (l.getD k ⟨#[]⟩).size) := Lib.hid rfl
      generalize l.getD k ⟨#[]⟩ = p at *
      generalize sizeTo l k = t at *
      have hb1 : (0 : Int) ≤ (k : Int) := by omega
      have hb2 : (k : Int) < (N : Int) := by omega
      clear h
      go_wp2_with fail
      go_round
      case rel => exact ⟨k + 1, by omega, by go_num, by rw [HS.out]; go_num⟩
      case measure => simp [intOf]; omega
    · obtain rfl : k = N := by omega
      have hd : decide ((k : Int) < (k : Int)) = false := by simp
      go_wp2_with fail
      go_ret
      exact ⟨by rw [HSZ.out]; rfl, rfl⟩
def MayL (l : List ByteArray) : Prop := (∀ k, k < l.length → 1 ≤ (l.getD k ⟨#[]⟩).size ∧ (l.getD k ⟨#[]⟩).size ≤ 63) ∧ sizeL l ≤ 255
instance (l : List ByteArray) : Decidable (MayL l) := by unfold MayL; infer_instance
def mayN (s : ByteArray) : Bool := decide (MayL (labelsB s))
set_option maxRecDepth 100000 in
set_option maxHeartbeats 2000000 in
theorem refMay8_any (s : ByteArray) (w : World) (hs : s.size ≤ 1900000) :
    Calls Tryz.prog 59 #[.string s] w fun e w' => e = .returned (.bool (mayN s)) ∧ Below w.heap.size w w' := by
  have HLA := Lib.hid (refLabels_any s w (by omega))
  have HM : Hid (mayN s = decide (MayL (labelsB s))) := Lib.hid rfl
  have hsm : ∀ p ∈ labelsB s, p.size ≤ 2000000 := fun p hp => Nat.le_trans (labels_small s p hp) (by omega)
  have hln := labels_len s
  generalize mayN s = m at *
  generalize labelsB s = l at *
  have HSM := Lib.hid hsm
  have HSI := fun a c W (h : RowS W a c l) => Lib.hid (refSize_any a c l W h hsm (by omega))
  clear hsm
  go_enter Tryz.func59, Tryz.ntmps59
  go_wp2_with fail
  refine HLA.out.mono ?_
  rintro e w1 ⟨a, c, rfl, hr, hb⟩
  have HR := Lib.hid hr
  have HB := Lib.hid hb
  replace HSI := HSI a c w1 hr
  clear hr hb HLA
  obtain ⟨N, hN⟩ : ∃ N, l.length = N := ⟨_, rfl⟩
  have HN := Lib.hid hN
  rw [hN] at hln HSI ⊢
  clear hN
  go_wp2_with fail
  go_loop [4] (fun i => ∃ k : Nat, k ≤ N ∧ i = .int .i64 (k : Int) ∧ Hid (∀ j, j < k → 1 ≤ (l.getD j ⟨#[]⟩).size ∧ (l.getD j ⟨#[]⟩).size ≤ 63)) (fun i => N - (intOf i).toNat)
  case atStart => exact ⟨0, Nat.zero_le _, rfl, Lib.hid (fun j hj => absurd hj (by omega))⟩
  case round =>
    obtain ⟨k, hk, rfl, HO⟩ := hrel
    by_cases hkN : k < N
    · have hd : decide ((k : Int) < (N : Int)) = true := decide_eq_true (by omega)
      have hdn : decide (k < N) = true := decide_eq_true (by omega)
      rcases HR.out with ⟨_, _, h0⟩ | ⟨g, rfl, h⟩
      · have := HN.out; rw [h0] at this; simp at this; omega
      have hc := h.cells k (by rw [HN.out]; exact hkN)
      have hz := getD_small HSM.out k
      have HO2 : Hid (1 ≤ (l.getD k ⟨#[]⟩).size ∧ (l.getD k ⟨#[]⟩).size ≤ 63 → ∀ j, j < k + 1 → 1 ≤ (l.getD j ⟨#[]⟩).size ∧ (l.getD j ⟨#[]⟩).size ≤ 63) := Lib.hid (fun hp j hj => by
        by_cases h : j < k
        · exact HO.out j h
        · obtain rfl : j = k := by omega
          exact hp)
      have HF : Hid (¬ (1 ≤ (l.getD k ⟨#[]⟩).size ∧ (l.getD k ⟨#[]⟩).size ≤ 63) → m = false) := Lib.hid (fun hp => by
        rw [HM.out]
        exact decide_eq_false (fun h => hp (h.1 k (by rw [HN.out]; exact hkN))))
      generalize l.getD k ⟨#[]⟩ = p at *
      have hb1 : (0 : Int) ≤ (k : Int) := by omega
      have hb2 : (k : Int) < (N : Int) := by omega
      clear h
      by_cases h1 : p.size < 1
      · have hd1 : decide ((p.size : Int) < 1) = true := decide_eq_true (by omega)
        have hd1n : decide (p.size < 1) = true := decide_eq_true (by omega)
        have ES := HF.out (fun h => absurd h.1 (by omega))
        subst ES
        clear HO2 HF HM
        go_wp2_with fail
        go_ret
        exact ⟨rfl, HB.out⟩
      · have hd1 : decide ((p.size : Int) < 1) = false := decide_eq_false (by omega)
        have hd1n : decide (p.size < 1) = false := decide_eq_false (by omega)
        by_cases h2 : 63 < p.size
        · have hd2 : decide (63 < (p.size : Int)) = true := decide_eq_true (by omega)
          have hd2n : decide (63 < p.size) = true := decide_eq_true (by omega)
          have ES := HF.out (fun h => absurd h.2 (by omega))
          subst ES
          clear HO2 HF HM
          go_wp2_with fail
          go_ret
          exact ⟨rfl, HB.out⟩
        · have hd2 : decide (63 < (p.size : Int)) = false := decide_eq_false (by omega)
          have hd2n : decide (63 < p.size) = false := decide_eq_false (by omega)
          have HO3 := Lib.hid (HO2.out (by omega))
          clear HO2 HF HO
          go_wp2_with fail
          go_round
          case rel => exact ⟨k + 1, by omega, by go_num, HO3⟩
          case measure => simp [intOf]; omega
    · obtain rfl : k = N := by omega
      have hd : decide ((k : Int) < (k : Int)) = false := by simp
      have HS : Hid (m = decide (sizeL l ≤ 255)) := Lib.hid (by
        rw [HM.out, Bool.eq_iff_iff, decide_eq_true_iff, decide_eq_true_iff]
        exact ⟨fun h => h.2, fun h => ⟨fun k hk => HO.out k (by rw [← HN.out]; exact hk), h⟩⟩)
      clear HM
      go_wp2_with fail
      refine HSI.out.mono ?_
      rintro e w2 ⟨rfl, rfl⟩
      generalize sizeL l = z at *
      have hzz : decide ((z : Int) ≤ 255) = m := by rw [HS.out]; exact decide_eq_decide.2 (by omega)
      go_wp2_with fail
      go_ret
      exact ⟨by first | rfl | (rw [← hzz]; rfl), HB.out⟩
end Go.Proofs.YtedmkdjijhflnaaGreat
namespace Go.Proofs.YtedmkdjijhflnaaGreat
open Go.RowKit

structure Rec where
  name : ByteArray
  ty : Int
  cl : Int
  ttl : Int
  f : Int
  b : List Nat
  tg : ByteArray
  da : ByteArray
deriving DecidableEq
def recL (r : Rec) : List Value := [Value.string r.name, .int .i64 r.ty, .int .i64 r.cl, .int .i64 r.ttl] ++ addrL r.f r.b ++ [.string r.tg, .string r.da]
def recV (r : Rec) : Value := .agg (recL r).toArray
theorem recL_len (r : Rec) (h : r.b.length = 16) : (recL r).length = 23 := by simp [recL, addrL_len r.f r.b h]
theorem recL_one (r : Rec) : ∀ u ∈ recL r, u.oneCell' = true := by
  intro u hu
  unfold recL at hu
  rcases List.mem_append.1 hu with hu | hu
  · rcases List.mem_append.1 hu with hu | hu
    · simp at hu
      rcases hu with rfl | rfl | rfl | rfl <;> rfl
    · have := addrL_one r.f r.b
      rw [Array.all_eq_true_iff_forall_mem] at this
      exact this u (by simpa using hu)
  · simp at hu
    rcases hu with rfl | rfl <;> rfl
theorem rec_size : (Tryz.prog.info? 71).map (·.size) = some 23 := by kernel_rfl
structure RecIn (w : World) (G o : Nat) (r : Rec) : Prop where
  name : w.cell? ⟨G, o, none⟩ = some (.string r.name)
  ty : w.cell? ⟨G, o + 1, none⟩ = some (.int .i64 r.ty)
  cl : w.cell? ⟨G, o + 2, none⟩ = some (.int .i64 r.cl)
  ttl : w.cell? ⟨G, o + 3, none⟩ = some (.int .i64 r.ttl)
  addr : w.rangeAt G (o + 4) (addrL r.f r.b)
  tg : w.cell? ⟨G, o + 21, none⟩ = some (.string r.tg)
  da : w.cell? ⟨G, o + 22, none⟩ = some (.string r.da)
theorem rec_parts {w : World} {G o : Nat} {r : Rec} (h : w.rangeAt G o (recL r)) (h16 : r.b.length = 16) : RecIn w G o r := by
  have hl := addrL_len r.f r.b h16
  have e1 : ∀ j, j < 17 → (recL r)[4 + j]? = (addrL r.f r.b)[j]? := fun j hj => by
    unfold recL
    rw [List.append_assoc, List.getElem?_append_right (by simp), List.getElem?_append_left (by simp [hl]; omega)]
    congr 1
    simp
  refine ⟨h 0 _ rfl, h 1 _ rfl, h 2 _ rfl, h 3 _ rfl, fun j u hu => ?_, ?_, ?_⟩
  · have hj : j < 17 := by
      have := (List.getElem?_eq_some_iff.1 hu).1
      omega
    have := h (4 + j) u (by rw [e1 j hj]; exact hu)
    rw [← Nat.add_assoc] at this
    exact this
  · refine h 21 _ ?_
    unfold recL
    rw [List.getElem?_append_right (by simp [hl])]
    simp [hl]
  · refine h 22 _ ?_
    unfold recL
    rw [List.getElem?_append_right (by simp [hl])]
    simp [hl]
theorem load_rec {ops : Array Oper} {rest : List Oper} {op : Oper} {a : Act} {w : World} {Q : Exit → Act → World → Prop} {G o : Nat} {r : Rec} (hl : Hid (r.b.length = 16)) (hA : Hid (w.rangeAt G o (recL r))) (x : Operand) (hw : Region.wanted op (yielded ops a.tmps) = true) (ho : op.op = .load 71 x)
    (hx : a.eval x = .pointer (some ⟨G, o, none⟩)) (h : wpList Tryz.prog ops Q rest (a.put op.dst (recV r)) w) : wpList Tryz.prog ops Q (op :: rest) a w :=
  wpList_load_row hw 71 x ho G o hx (recL r) _ hA.out Tryz.underlying71 rfl (by rw [rec_size, recL_len r hl.out]) h
theorem load_addr_o {ops : Array Oper} {rest : List Oper} {op : Oper} {a : Act} {w : World} {Q : Exit → Act → World → Prop} {G o : Nat} {f : Int} {bs : List Nat} (hl : Hid (bs.length = 16)) (hA : Hid (w.rangeAt G o (addrL f bs))) (x : Operand) (hw : Region.wanted op (yielded ops a.tmps) = true) (ho : op.op = .load 69 x)
    (hx : a.eval x = .pointer (some ⟨G, o, none⟩)) (h : wpList Tryz.prog ops Q rest (a.put op.dst (addrV f bs)) w) : wpList Tryz.prog ops Q (op :: rest) a w :=
  wpList_load_row hw 69 x ho G o hx (addrL f bs) _ hA.out Tryz.underlying69 rfl (by rw [addr_size, addrL_len f bs hl.out]) h
def flatR (D : List Rec) : List Value := D.flatMap recL
def Fit (r : Rec) : Prop := r.b.length = 16 ∧ (∀ x ∈ r.b, x < 256) ∧ (Lit.int .i64 r.ty).wf = true ∧ (Lit.int .i64 r.cl).wf = true ∧ (Lit.int .i64 r.ttl).wf = true ∧ (Lit.int .i64 r.f).wf = true ∧ r.name.size ≤ maxLen ∧ r.tg.size ≤ maxLen ∧ r.da.size ≤ maxLen
def RecsAt (w : World) (a : Option Addr) (cap : Nat) (D : List Rec) : Prop :=
  D.length ≤ cap ∧ cap ≤ maxLen ∧ (∀ r ∈ D, Fit r) ∧ (D.length = 0 ∨ ∃ g o, a = some ⟨g, o, none⟩ ∧ g < w.heap.size ∧ w.rangeAt g o (flatR D))
theorem RecsAt.below {w w' : World} {a : Option Addr} {cap : Nat} {D : List Rec} (h : RecsAt w a cap D) (hb : Below w.heap.size w w') : RecsAt w' a cap D := by
  obtain ⟨h1, h2, h3, h4⟩ := h
  refine ⟨h1, h2, h3, ?_⟩
  rcases h4 with h4 | ⟨g, o, e, hg, hr⟩
  · exact .inl h4
  · exact .inr ⟨g, o, e, Nat.lt_of_lt_of_le hg hb.size, fun j u hu => (hb.cell (p := ⟨g, o + j, none⟩) hg).trans (hr j u hu)⟩
theorem RecsAt.at {w : World} {a : Option Addr} {cap : Nat} {D : List Rec} (h : RecsAt w a cap D) (k : Nat) (hk : k < D.length) : ∃ g o, a = some ⟨g, o, none⟩ ∧ g < w.heap.size ∧ w.rangeAt g (o + k * 23) (recL D[k]) := by
  obtain ⟨h1, h2, h3, h4⟩ := h
  rcases h4 with h4 | ⟨g, o, e, hg, hr⟩
  · omega
  · exact ⟨g, o, e, hg, range_at hr (fun d hd => recL_len d (h3 d hd).1) k hk⟩
end Go.Proofs.YtedmkdjijhflnaaGreat
namespace Go.Proofs.YtedmkdjijhflnaaGreat
open Go.RowKit

structure RecAt (w : World) (G : Nat) (r : Rec) : Prop where
  len : r.b.length = 16
  lt : G < w.heap.size
  range : w.rangeAt G 0 (recL r)
  there : w.there G 0 23
section
variable {w w' : World} {G : Nat} {r : Rec}
theorem RecAt.below (h : RecAt w G r) (hb : Below w.heap.size w w') : RecAt w' G r :=
  ⟨h.len, Nat.lt_of_lt_of_le h.lt hb.size, fun j u hu => by rw [hb.cell (p := ⟨G, 0 + j, none⟩) h.lt]; exact h.range j u hu, fun j hj => by
    rw [hb.cell (p := ⟨G, 0 + j, none⟩) h.lt, hb.frozen (p := ⟨G, 0 + j, none⟩) h.lt]
    exact h.there j hj⟩
theorem RecAt.parts (h : RecAt w G r) : RecIn w G 0 r := rec_parts h.range h.len
theorem RecAt.cell (h : RecAt w G r) (k : Nat) (v : Value) (hv : (recL r)[k]? = some v) : w.cell? ⟨G, k, none⟩ = some v := by
  have := h.range k v hv
  rwa [Nat.zero_add] at this
theorem RecAt.live (h : RecAt w G r) (k : Nat) (hk : k < 23) : w.frozen? ⟨G, k, none⟩ = false := by
  have := (h.there k hk).2
  rwa [Nat.zero_add] at this
theorem RecAt.stored (h : RecAt w G r) (s : Rec) (hl : s.b.length = 16) : RecAt (w.setCells G 0 (recL s)) G s := by
  have ht : w.there G 0 (recL s).length := by rw [recL_len s hl]; exact h.there
  exact ⟨hl, by rw [size_setCells]; exact h.lt, World.rangeAt_setCells_same w G 0 _ ht, World.there_setCells h.there G 0 _⟩
theorem RecAt.other (h : RecAt w G r) {G' : Nat} (hG : G' ≠ G) (k : Nat) (v : Value) : RecAt (w.setCell ⟨G', k, none⟩ v) G r := by
  have hn : ∀ j, (⟨G', k, none⟩ : Addr) ≠ ⟨G, j, none⟩ := fun j h2 => by injection h2 with h3 _ _; exact hG h3
  refine ⟨h.len, by simpa using h.lt, fun j u hu => ?_, fun j hj => ⟨?_, ?_⟩⟩
  · rw [World.cell?_setCell_other _ _ _ _ (hn _)]; exact h.range j u hu
  · rw [World.cell?_setCell_other _ _ _ _ (hn _)]; exact (h.there j hj).1
  · rw [World.frozen?_setCell]; exact (h.there j hj).2
theorem RecAt.set (h : RecAt w G r) (k : Nat) (v : Value) (s : Rec) (hs : s.b.length = 16) (hk : k < 23) (hL : recL s = (recL r).set k v) : RecAt (w.setCell ⟨G, k, none⟩ v) G s := by
  have hl := recL_len r h.len
  obtain ⟨u0, hu0⟩ : ∃ u, (recL r)[k]? = some u := ⟨_, List.getElem?_eq_getElem (by omega)⟩
  refine ⟨hs, by simpa using h.lt, fun j u hu => ?_, fun j hj => ⟨?_, ?_⟩⟩
  · rw [Nat.zero_add]
    rw [hL] at hu
    by_cases e : j = k
    · subst e
      rw [List.getElem?_set_self (by omega)] at hu
      cases hu
      exact World.cell?_setCell_same _ _ _ (h.cell j u0 hu0)
    · rw [List.getElem?_set_ne (fun e2 => e e2.symm)] at hu
      rw [World.cell?_setCell_other _ _ _ _ (by intro h2; injection h2 with _ h3 _; omega)]
      exact h.cell j u hu
  · rw [Nat.zero_add]
    by_cases e : j = k
    · subst e
      rw [World.cell?_setCell_same _ _ _ (h.cell j u0 hu0)]
      rfl
    · rw [World.cell?_setCell_other _ _ _ _ (by intro h2; injection h2 with _ h3 _; omega)]
      have := (h.there j hj).1
      rwa [Nat.zero_add] at this
  · rw [World.frozen?_setCell]
    exact (h.there j hj).2
end
theorem recL_fam (r : Rec) (x : Int) : recL { r with f := x } = (recL r).set 4 (.int .i64 x) := rfl
theorem recL_tg (r : Rec) (h16 : r.b.length = 16) (x : ByteArray) : recL { r with tg := x } = (recL r).set 21 (.string x) := by
  have hl := addrL_len r.f r.b h16
  unfold recL
  rw [List.set_append_right _ _ (by simp [hl])]
  simp [hl]
theorem recL_da (r : Rec) (h16 : r.b.length = 16) (x : ByteArray) : recL { r with da := x } = (recL r).set 22 (.string x) := by
  have hl := addrL_len r.f r.b h16
  unfold recL
  rw [List.set_append_right _ _ (by simp [hl])]
  simp [hl]
theorem RecAt.of (w : World) (t : TypeId) (cs : Array Value) (r : Rec) (h16 : r.b.length = 16) (h : cs.toList = recL r) : RecAt (w.alloc (.cells cs t)) w.heap.size r := by
  have e : ∀ j, cs[j]? = (recL r)[j]? := fun j => by rw [← h, Array.getElem?_toList]
  refine ⟨h16, by simp, fun j u hu => ?_, fun j hj => ⟨?_, World.frozen?_alloc_new _ _ _ _⟩⟩
  · rw [World.cell?_alloc_new, Nat.zero_add, e]; exact hu
  · rw [World.cell?_alloc_new, Nat.zero_add, e, List.getElem?_eq_getElem (by rw [recL_len r h16]; exact hj)]; rfl
def zR : Rec := ⟨⟨#[]⟩, 0, 0, 0, 0, List.replicate 16 0, ⟨#[]⟩, ⟨#[]⟩⟩
abbrev zC : Array Value := #[.string ⟨#[]⟩, .int .i64 0, .int .i64 0, .int .i64 0, .int .i64 0, .int .u8 0, .int .u8 0, .int .u8 0, .int .u8 0, .int .u8 0, .int .u8 0, .int .u8 0, .int .u8 0, .int .u8 0, .int .u8 0, .int .u8 0, .int .u8 0, .int .u8 0, .int .u8 0, .int .u8 0, .int .u8 0, .string ⟨#[]⟩, .string ⟨#[]⟩]
theorem rec_zeroed (w : World) : RecAt (w.alloc (.cells zC 71)) w.heap.size zR := RecAt.of w _ _ zR rfl rfl
theorem loadVar_rec {w : World} {G : Nat} {r : Rec} (h : RecAt w G r) : (loadVar 71 ⟨G, 0, none⟩).run Tryz.prog w = .ok (recV r) w :=
  run_loadVar_mid w G 0 71 (recL r) _ h.range Tryz.underlying71 rfl (by rw [rec_size, recL_len r h.len])
theorem store_rec {ops : Array Oper} {rest : List Oper} {op : Oper} {a : Act} {w : World} {Q : Exit → Act → World → Prop} {G : Nat} {r0 r : Rec} (hA : Hid (RecAt w G r0)) (x y : Operand) (hl : Hid (r.b.length = 16)) (hgd : op.guard = none) (ho : op.op = .store 71 x y)
    (hx : a.eval x = .pointer (some ⟨G, 0, none⟩)) (hy : a.eval y = recV r) (h : ∀ W, Hid (W = w.setCells G 0 (recL r)) → Hid (RecAt W G r) → wpList Tryz.prog ops Q rest (a.put op.dst undef) W) : wpList Tryz.prog ops Q (op :: rest) a w :=
  wpList_store_mid hgd 71 x y ho G 0 (recL r).toArray hx hy (by rw [List.size_toArray, recL_len r hl.out]; exact hA.out.there) (by rw [rec_size, List.size_toArray, recL_len r hl.out]) (all_oneCell_toArray (recL_one r)) (h _ (Lib.hid rfl) (Lib.hid (hA.out.stored r hl.out)))
theorem load_recAt {ops : Array Oper} {rest : List Oper} {op : Oper} {a : Act} {w : World} {Q : Exit → Act → World → Prop} {G : Nat} {r : Rec} (hA : Hid (RecAt w G r)) (x : Operand) (hw : Region.wanted op (yielded ops a.tmps) = true) (ho : op.op = .load 71 x)
    (hx : a.eval x = .pointer (some ⟨G, 0, none⟩)) (h : wpList Tryz.prog ops Q rest (a.put op.dst (recV r)) w) : wpList Tryz.prog ops Q (op :: rest) a w :=
  load_rec (Lib.hid hA.out.len) (Lib.hid hA.out.range) x hw ho hx h
theorem built_rec0 : Tryz.prog.built 71 [] = some (recL zR).toArray := rfl
theorem build_rec0 {ops : Array Oper} {rest : List Oper} {op : Oper} {a : Act} {w : World} {Q : Exit → Act → World → Prop} (hg : op.guard = none) (ho : op.op = .build 71 #[])
    (h : wpList Tryz.prog ops Q rest (a.put op.dst (recV zR)) w) : wpList Tryz.prog ops Q (op :: rest) a w := by
  have e : Tryz.prog.built 71 ((#[] : Array (Nat × Operand)).map fun (i, x) => (i, a.eval x)).toList = some (recL zR).toArray := by
    simp only [List.map_toArray, List.map_nil]
    exact built_rec0
  refine wpList_build hg 71 _ ho (by rw [e]; rfl) ?_
  rw [e]
  exact h
theorem built_rec4 (nm : ByteArray) (ty cl ttl : Int) : Tryz.prog.built 71 [(0, .string nm), (1, .int .i64 ty), (2, .int .i64 cl), (3, .int .i64 ttl)] = some (recL { zR with name := nm, ty := ty, cl := cl, ttl := ttl }).toArray := rfl
theorem build_rec4 {ops : Array Oper} {rest : List Oper} {op : Oper} {a : Act} {w : World} {Q : Exit → Act → World → Prop} {nm : ByteArray} {ty cl ttl : Int} (hg : op.guard = none) (x0 x1 x2 x3 : Operand) (ho : op.op = .build 71 #[(0, x0), (1, x1), (2, x2), (3, x3)])
    (h0 : a.eval x0 = .string nm) (h1 : a.eval x1 = .int .i64 ty) (h2 : a.eval x2 = .int .i64 cl) (h3 : a.eval x3 = .int .i64 ttl) (h : wpList Tryz.prog ops Q rest (a.put op.dst (recV { zR with name := nm, ty := ty, cl := cl, ttl := ttl })) w) : wpList Tryz.prog ops Q (op :: rest) a w := by
  have e : Tryz.prog.built 71 ((#[(0, x0), (1, x1), (2, x2), (3, x3)] : Array (Nat × Operand)).map fun (i, x) => (i, a.eval x)).toList = some (recL { zR with name := nm, ty := ty, cl := cl, ttl := ttl }).toArray := by
    simp only [List.map_toArray, List.map_cons, List.map_nil]
    rw [h0, h1, h2, h3]; exact built_rec4 nm ty cl ttl
  refine wpList_build hg 71 _ ho (by rw [e]; rfl) ?_
  rw [e]
  exact h
end Go.Proofs.YtedmkdjijhflnaaGreat
namespace Go.Proofs.YtedmkdjijhflnaaGreat
open Go.RowKit

def fourTo (bs : List Nat) : Nat → Nat
  | 0 => 0
  | k + 1 => fourTo bs k * 256 + bs.getD k 0
def fourB (bs : List Nat) : Nat := fourTo bs 4
end Go.Proofs.YtedmkdjijhflnaaGreat
namespace Go.Proofs.YtedmkdjijhflnaaGreat
open Go.RowKit

def bitsN (f : Int) : Nat := if f = 4 then 32 else if f = 6 then 128 else 0
end Go.Proofs.YtedmkdjijhflnaaGreat
namespace Go.Proofs.YtedmkdjijhflnaaGreat
open Go.RowKit

def zeroTo (bs : List Nat) (k : Nat) : Bool := (bs.drop k).all (· == 0)
theorem zeroTo_end (bs : List Nat) (h : bs.length = 16) : zeroTo bs 16 = true := by
  unfold zeroTo
  rw [List.drop_eq_nil_of_le (by omega)]
  rfl
def fromN (f : Int) : Nat := if f = 0 then 0 else if f = 4 then 4 else 16
def mayB (f : Int) (bs : List Nat) : Bool := zeroTo bs (fromN f) && (f == 0 || f == 4 || f == 6)
end Go.Proofs.YtedmkdjijhflnaaGreat
namespace Go.Proofs.YtedmkdjijhflnaaGreat
open Go.RowKit

set_option maxHeartbeats 400000 in
theorem join_off (g o n c : Nat) (xs : List ByteArray) (sep : ByteArray) (w : World) (hn : xs.length = n) (hle : n ≤ 2000000) (hsep : sep.size ≤ 1000)
    (hall : (joinTo xs sep n).size ≤ 2000000) (hg : ∀ i (hi : i < xs.length), w.cell? ⟨g, o + i, none⟩ = some (.string xs[i])) :
    Calls Tryz.prog 103 #[.slice (some ⟨g, o, none⟩) n c, .string sep] w fun e w' => e = .returned (.string (joinTo xs sep n)) ∧ w = w' := by
  have HG := Lib.hid hg
  have HN := Lib.hid hn
  clear hg hn
  go_enter Tryz.func103, Tryz.ntmps103
  go_wp2
  go_loop [5, 6] (fun t i => ∃ k : Nat, k ≤ n ∧ i = .int .i64 k ∧ t = .string (joinTo xs sep k)) (fun _ i => n - (intOf i).toNat)
  case atStart => exact ⟨0, Nat.zero_le _, rfl, rfl⟩
  case round =>
    obtain ⟨k, hk, rfl, rfl⟩ := hrel
    by_cases hlt : k < n
    · have hk' : k < xs.length := by rw [HN.out]; exact hlt
      have hx : xs.getD k { data := #[] } = xs[k] := by rw [List.getD_eq_getElem?_getD, List.getElem?_eq_getElem hk']; rfl
      have hm := joinTo_mono xs sep (k + 1) (n - (k + 1))
      rw [show k + 1 + (n - (k + 1)) = n by omega] at hm
      have hp := joinTo_piece xs sep k
      have hm0 := joinTo_mono xs sep k 1
      rw [hx] at hp
      have HJ : Hid (joinTo xs sep (k + 1) = (if 0 < k then joinTo xs sep k ++ sep else joinTo xs sep k) ++ xs[k]) := by rw [← hx]; exact Lib.hid rfl
      have c1 := HG.out k hk'
      have z1 : (xs[k]).size ≤ 2000000 := by omega
      have z2 : (joinTo xs sep k).size ≤ 2000000 := by omega
      clear hx hm hp hm0
      generalize xs[k] = x at *
      generalize joinTo xs sep k = t at *
      by_cases h0 : 0 < k
      · go_wp2
        go_round
        case rel => exact ⟨k + 1, by omega, by go_num, by rw [HJ.out, if_pos h0]⟩
        case measure => simp [intOf]; omega
      · go_wp2
        go_round
        case rel => exact ⟨k + 1, by omega, by go_num, by rw [HJ.out, if_neg h0]⟩
        case measure => simp [intOf]; omega
    · obtain rfl : k = n := by omega
      go_wp2
      go_ret
      exact ⟨rfl, rfl⟩
theorem joinTo_le {xs : List ByteArray} {m : Nat} (h : ∀ p ∈ xs, p.size ≤ m) : ∀ k, (joinTo xs ⟨#[46]⟩ k).size ≤ k * (m + 1)
  | 0 => Nat.zero_le _
  | k + 1 => by
    have h1 := joinTo_le h k
    have h2 := getD_small h k
    rw [joinTo, ByteArray.size_append, Nat.succ_mul]
    split
    · rw [ByteArray.size_append]
      show _ + 1 + _ ≤ _
      omega
    · omega
def restB (s : ByteArray) (k : Nat) : ByteArray := if (labelsB s).length ≤ k then ⟨#[]⟩ else joinB ((labelsB s).drop k) ⟨#[46]⟩
theorem rest_small (s : ByteArray) (k : Nat) (hs : s.size ≤ 900) : (restB s k).size ≤ 2000000 := by
  unfold restB
  split
  · decide
  · unfold joinB
    have h1 := joinTo_le (xs := (labelsB s).drop k) (m := 900) (fun p hp => Nat.le_trans (labels_small s p (List.mem_of_mem_drop hp)) hs) ((labelsB s).drop k).length
    have h2 := labels_len s
    have h3 : ((labelsB s).drop k).length ≤ 901 := by simp; omega
    have h4 := Nat.mul_le_mul_right 901 h3
    omega
set_option maxRecDepth 100000 in
theorem refRest_any (s : ByteArray) (k : Nat) (w : World) (hs : s.size ≤ 900) (hk : k ≤ 100000) :
    Calls Tryz.prog 92 #[.string s, .int .i64 (k : Int)] w fun e w' => e = .returned (.string (restB s k)) ∧ Below w.heap.size w w' := by
  have HLA := Lib.hid (refLabels_any s w (by omega))
  have HRE : Hid (restB s k = if (labelsB s).length ≤ k then ⟨#[]⟩ else joinB ((labelsB s).drop k) ⟨#[46]⟩) := Lib.hid rfl
  have hrs := rest_small s k hs
  have hln := labels_len s
  generalize restB s k = R at *
  generalize labelsB s = l at *
  go_enter Tryz.func92, Tryz.ntmps92
  go_wp2_with fail
  refine HLA.out.mono ?_
  rintro e w1 ⟨a, c, rfl, hr, hb⟩
  have HB := Lib.hid hb
  have hcap := hr.cap
  have hcm := hcap.2
  unfold maxLen at hcm
  by_cases h : l.length ≤ k
  · have hd : decide ((l.length : Int) ≤ (k : Int)) = true := decide_eq_true (by omega)
    have hdn : decide (l.length ≤ k) = true := decide_eq_true h
    have ER := HRE.out
    rw [if_pos h] at ER
    subst ER
    clear hr hb HLA HRE
    go_wp2_with fail
    go_ret
    exact ⟨rfl, HB.out⟩
  · have hd : decide ((l.length : Int) ≤ (k : Int)) = false := decide_eq_false (by omega)
    have hdn : decide (l.length ≤ k) = false := decide_eq_false h
    have ER := HRE.out
    rw [if_neg h] at ER
    rcases hr with ⟨_, _, h0⟩ | ⟨g, rfl, hr⟩
    · rw [h0] at h; exact absurd (Nat.zero_le _) h
    have HJO := Lib.hid (join_off g k (l.length - k) (c - k) (l.drop k) ⟨#[46]⟩ w1 (by simp) (by omega) (by decide) (by
      have e : joinTo (l.drop k) ⟨#[46]⟩ (l.length - k) = R := by rw [ER]; unfold joinB; rw [List.length_drop]
      rw [e]; exact hrs) (fun i hi => by
        rw [List.length_drop] at hi
        rw [hr.cells (k + i) (by omega), List.getElem_drop, List.getD_eq_getElem?_getD, List.getElem?_eq_getElem (by omega)]
        rfl))
    rw [show joinTo (l.drop k) ⟨#[46]⟩ (l.length - k) = R by rw [ER]; unfold joinB; rw [List.length_drop]] at HJO
    have hck : ¬ c = k := by omega
    have hck2 : ¬ k = c := by omega
    have hb1 : (0 : Int) ≤ (k : Int) := by omega
    have hb2 : (k : Int) ≤ (l.length : Int) := by omega
    have hb3 : k ≤ l.length := by omega
    have hb4 : k ≤ c := by omega
    clear hr hb HLA HRE ER
    generalize l.length = N at *
    go_wp2_with fail
    refine HJO.out.mono ?_
    rintro e w2 ⟨rfl, rfl⟩
    clear HJO
    go_wp2_with fail
    go_ret
    exact ⟨rfl, HB.out⟩
def UnderP (s t : ByteArray) : Prop := ∃ k, k < (labelsB s).length + 1 ∧ likeB (restB s k) t = true
instance (s t : ByteArray) : Decidable (UnderP s t) := by unfold UnderP; infer_instance
def underB (s t : ByteArray) : Bool := decide (UnderP s t)
end Go.Proofs.YtedmkdjijhflnaaGreat
namespace Go.Proofs.YtedmkdjijhflnaaGreat
open Go.RowKit

def labL (p : ByteArray) : List UInt8 := UInt8.ofNat p.size :: p.data.toList
def bytesTo (l : List ByteArray) : Nat → List UInt8
  | 0 => []
  | k + 1 => bytesTo l k ++ labL (l.getD k ⟨#[]⟩)
def bytesL (l : List ByteArray) : List UInt8 := bytesTo l l.length ++ [0]
theorem own_lower8 {w : World} {B B' : Nat} {t : TypeId} {z : Nat} {v : Value} {n : Nat} {xs : List Value} (h : w.ownsRow B t z v n xs) (hB : B' ≤ B) : w.ownsRow B' t z v n xs := by
  obtain ⟨h1, h2⟩ := h
  refine ⟨h1, ?_⟩
  rcases h2 with h2 | ⟨g, cap, cur, e, hb, rest⟩
  · exact .inl h2
  · exact .inr ⟨g, cap, cur, e, by omega, rest⟩
end Go.Proofs.YtedmkdjijhflnaaGreat
namespace Go.Proofs.YtedmkdjijhflnaaGreat
open Go.RowKit

def BytesAt (w : World) (v : Value) (l : List UInt8) : Prop := (convert 38 9 v).run Tryz.prog w = .ok (.string ⟨l.toArray⟩) w
def goodTo (l : List ByteArray) : Nat → List ByteArray
  | 0 => []
  | k + 1 => if 6 ≤ (goodTo l k).length then goodTo l k else if (few (l.getD k ⟨#[]⟩) 12).size = 0 then goodTo l k else goodTo l k ++ [few (l.getD k ⟨#[]⟩) 12]
def goodN (s : ByteArray) : ByteArray := joinB (goodTo (labelsB s) (labelsB s).length) ⟨#[46]⟩
end Go.Proofs.YtedmkdjijhflnaaGreat
namespace Go.Proofs.YtedmkdjijhflnaaGreat
open Go.RowKit

def hasTo (s : ByteArray) (c : Nat) : Nat → Bool
  | 0 => false
  | k + 1 => hasTo s c k || decide ((s.data.toList.getD k 0).toNat = c)
def has8 (s : ByteArray) (c : Nat) : Bool := hasTo s c s.size
def BytesIn (w : World) (a : Option Addr) (cap : Nat) (bs : List UInt8) : Prop :=
  bs.length ≤ cap ∧ cap ≤ maxLen ∧ (bs.length = 0 ∨ ∃ x : Addr, a = some x ∧ ∀ i (h : i < bs.length), w.cell? (x.add i) = some (.int .u8 ((bs[i].toNat : Nat) : Int)))
theorem BytesIn.below {w w' : World} {a : Option Addr} {cap : Nat} {bs : List UInt8} (h : BytesIn w a cap bs) (hb : Below w.heap.size w w') : BytesIn w' a cap bs := by
  obtain ⟨h1, h2, h3⟩ := h
  refine ⟨h1, h2, ?_⟩
  rcases h3 with h3 | ⟨x, e, h3⟩
  · exact .inl h3
  · exact .inr ⟨x, e, fun i hi => by rw [hb.cell (p := x.add i) (World.block_lt_of_cell? w _ (h3 i hi))]; exact h3 i hi⟩
def ownAt (bs : List UInt8) (i n : Nat) : ByteArray := ⟨((bs.drop (i + 1)).take n).toArray⟩
theorem ownAt_size {bs : List UInt8} {i n : Nat} (h : i + 1 + n ≤ bs.length) : (ownAt bs i n).size = n := by
  show ((bs.drop (i + 1)).take n).toArray.size = n
  simp; omega
def runB (bs : List UInt8) (had : Nat) : Nat → Nat → List ByteArray → List ByteArray × Nat × Bool × Int
  | 0, _, _ => ([], 0, false, 2)
  | f + 1, i, l =>
    if bs.length ≤ i then ([], 0, false, 2) else
    if (bs.getD i 0).toNat = 0 then (l, i, false, 0) else
    if 192 ≤ (bs.getD i 0).toNat then (l, i, true, 0) else
    if 63 < (bs.getD i 0).toNat ∨ bs.length < i + 1 + (bs.getD i 0).toNat then ([], 0, false, 2) else
    if has8 (ownAt bs i (bs.getD i 0).toNat) 46 = true then ([], 0, false, 2) else
    if 255 < had + sizeL (l ++ [ownAt bs i (bs.getD i 0).toNat]) then ([], 0, false, 3) else
    runB bs had f (i + 1 + (bs.getD i 0).toNat) (l ++ [ownAt bs i (bs.getD i 0).toNat])
def RunRet (w : World) (R : List ByteArray × Nat × Bool × Int) (e : Ending) (w' : World) : Prop :=
  ∃ v, e = .returned (.tuple #[v, .int .i64 (R.2.1 : Int), .bool R.2.2.1, .int .i64 R.2.2.2]) ∧ w'.ownsRow w.heap.size 9 1 v R.1.length (R.1.map Value.string) ∧ Below w.heap.size w w'
theorem own_RowS {w : World} {B : Nat} {v : Value} {l : List ByteArray} (h : w.ownsRow B 9 1 v l.length (l.map Value.string)) : ∃ a c, v = .slice a l.length c ∧ (RowS w a c l ∨ l = []) := by
  by_cases h0 : 0 < l.length
  · obtain ⟨g, c, rfl, _, hr⟩ := own_row h h0
    exact ⟨_, _, rfl, .inl (.inr ⟨g, rfl, hr⟩)⟩
  · obtain rfl : l = [] := List.eq_nil_of_length_eq_zero (by omega)
    rcases h.2 with ⟨rfl, _⟩ | ⟨g, cap, cur, rfl, _⟩
    · exact ⟨_, _, rfl, .inr rfl⟩
    · exact ⟨_, _, rfl, .inr rfl⟩
end Go.Proofs.YtedmkdjijhflnaaGreat
namespace Go.Proofs.YtedmkdjijhflnaaGreat
open Go.RowKit

structure Foot (F F' : List Nat) (w w' : World) : Prop where
  os : w'.os = w.os
  tape : w'.tape = w.tape
  output : w'.output = w.output
  size : w.heap.size ≤ w'.heap.size
  keep : ∀ k, k < w.heap.size → k ∉ F → w'.heap[k]? = w.heap[k]?
  new : ∀ k ∈ F', k ∈ F ∨ w.heap.size ≤ k
theorem Foot.ofBelow (F : List Nat) {w w' : World} (h : Below w.heap.size w w') : Foot F F w w' := ⟨h.os, h.tape, h.output, h.size, fun k hk _ => h.block k hk, fun k hk => .inl hk⟩
theorem Foot.trans {F F' F'' : List Nat} {a b c : World} (h : Foot F F' a b) (k : Foot F' F'' b c) : Foot F F'' a c :=
  ⟨k.os.trans h.os, k.tape.trans h.tape, k.output.trans h.output, Nat.le_trans h.size k.size, fun i hi hn => (k.keep i (Nat.lt_of_lt_of_le hi h.size) (fun e => by
    rcases h.new i e with e | e
    · exact hn e
    · omega)).trans (h.keep i hi hn), fun i hi => by
    rcases k.new i hi with e | e
    · exact h.new i e
    · exact .inr (Nat.le_trans h.size e)⟩
theorem Foot.below {F F' : List Nat} {w w' : World} {B : Nat} (h : Foot F F' w w') (hF : ∀ k ∈ F, B ≤ k) (hB : B ≤ w.heap.size) : Below B w w' :=
  ⟨h.os, h.tape, h.output, h.size, fun k hk => h.keep k (by omega) (fun e => by have := hF k e; omega)⟩
theorem Foot.out {F F' : List Nat} {w w' : World} (h : Foot F F' w w') {k : Nat} (hk : k < w.heap.size) (hn : k ∉ F) : k ∉ F' := fun e => by
  rcases h.new k e with e | e
  · exact hn e
  · omega
theorem range_foot {F F' : List Nat} {w w' : World} (h : Foot F F' w w') {G o : Nat} {cs : List Value} (hr : w.rangeAt G o cs) (hk : G < w.heap.size) (hn : G ∉ F) : w'.rangeAt G o cs := fun j u hu => by
  rw [World.cell?_of_block (w := w) (a := ⟨G, o + j, none⟩) (h.keep G hk hn)]; exact hr j u hu
def NotIn (v : Value) (F : List Nat) : Prop := ∀ g, v.ownBlock = some g → g ∉ F
theorem Foot.ofGrown {w w' : World} {v v' : Value} (h : w.grownBy w' v.ownBlock) (hv : v'.ownBlock = v.ownBlock ∨ ∀ g, v'.ownBlock = some g → w.heap.size ≤ g) : Foot v.ownBlock.toList v'.ownBlock.toList w w' :=
  ⟨h.os, h.tape, h.output, h.size, fun k hk hn => h.block k hk (fun e => hn (by rw [← e]; simp)), fun k hk => by
    have hk2 : v'.ownBlock = some k := by simpa using hk
    rcases hv with e | e
    · exact .inl (by rw [← e, hk2]; simp)
    · exact .inr (e k hk2)⟩
theorem blk_cells (b : Nat) : ∀ (vs : List Value) (o : Nat) (w : World) (k : Nat), k ≠ b → (w.setCells b o vs).heap[k]? = w.heap[k]?
  | [], _, _, _, _ => rfl
  | v :: r, o, w, k, h => by rw [World.setCells, blk_cells b r _ _ k h]; simp [World.setCell, Array.getElem?_modify, Ne.symm h]
theorem foot_cells {w : World} (b o : Nat) (vs : List Value) : Foot [b] [b] w (w.setCells b o vs) := by
  have hc : ∀ (vs : List Value) (o : Nat) (W : World), Below 0 w W → Below 0 w (W.setCells b o vs) := fun vs => by
    induction vs with
    | nil => exact fun _ _ h => h
    | cons v r ih => exact fun o W h => by rw [World.setCells]; exact ih _ _ (h.setCell (p := ⟨b, o, none⟩) (Nat.zero_le _) v)
  have hb : Below 0 w (w.setCells b o vs) := hc vs o w (Below.refl _ _)
  exact ⟨hb.os, hb.tape, hb.output, hb.size, fun k _ hn => blk_cells b vs o w k (fun e => hn (by simp [e])), fun k hk => .inl hk⟩
end Go.Proofs.YtedmkdjijhflnaaGreat
namespace Go.Proofs.YtedmkdjijhflnaaGreat
open Go.RowKit

theorem text_block {P : Program} {w : World} {base : Nat} {t u ty e : TypeId} {i : TypeInfo} (ht : P.underlying t = some (.slice e)) (hu : P.underlying u = some .string) (hi : P.info? e = some i) (hz : i.zero = some (.int .u8 0)) (hsize : i.size = 1) (hby : i.bytes = 1)
    {v : Value} {n : Nat} {xs : List Value} (hown : w.ownsRow base e 1 v n xs) (s : ByteArray) (hn : n + s.size ≤ 1000000000) {v' : Value} {w' : World} (hr : (Builtin.append_ #[t, u] ty #[v, .string s]).run P w = .ok v' w') : v'.ownBlock = v.ownBlock ∨ v'.ownBlock = some w.heap.size := by
  have hxl : xs.length = n := by simpa using hown.1
  rcases hown.2 with ⟨rfl, rfl⟩ | ⟨g, cap, cur, rfl, hbg, hg, hnc, hcm, hcs, htake⟩
  · by_cases hm : s.size = 0
    · have hf := Lib.run_firstCells_string (P := P) w 1 s
      rw [hm] at hf
      have h2 : (Builtin.append_ #[t, u] ty #[.slice none 0 0, .string s]).run P w = .ok (.slice none 0 0) w := by
        simp [Builtin.append_, run_underlying ht, run_underlying hu, sizeOf, typeInfo, hi, hsize, Builtin.lenOf, hm, hf]
      rw [h2] at hr
      cases hr
      exact .inl rfl
    · have h2 := run_append_nil_string (P := P) w t u ty e i (.int .u8 0) ht hu hi hz s (by omega) (by omega) (by rw [hby]; omega)
      rw [h2] at hr
      cases hr
      exact .inr rfl
  · by_cases hroom : n + s.size ≤ cap
    · have hcs' : cur.size = cap := by simpa using hcs
      have h2 := Lib.run_append_room_string (P := P) w t u ty e i ht hu hi hsize g n cap cur hg s hroom (by omega)
      rw [h2] at hr
      cases hr
      exact .inl rfl
    · have holds : ∀ j u, xs[j]? = some u → w.cell? ((⟨g, 0, none⟩ : Addr).add j) = some u := hown.cells (g := g) rfl
      have h2 := Lib.run_append_grow_string (P := P) w t u ty e i (.int .u8 0) ht hu hi hz ⟨g, 0, none⟩ n cap xs (by rw [hsize]; simpa using hxl) holds s (by omega) (by omega) (by rw [hby]; exact growslice_fits (by omega) (by omega))
      rw [h2] at hr
      cases hr
      exact .inr rfl
theorem wp_append_text {op : Oper} {a : Act} {w : World} {K : Act → World → Prop} {Q : Exit → Act → World → Prop} {B : Nat} {v : Value} {l : List UInt8} {s : ByteArray} (hown : Hid (w.ownsRow B 5 1 v l.length (bys l))) (hn : Hid (l.length + s.size ≤ 1000000000 ∧ B ≤ w.heap.size)) (sl x : Operand)
    (ho : op.op = .call { callee := .builtin .append, args := #[sl, x], argTypes := #[38, 9] }) (hs : a.eval sl = v) (hx : a.eval x = .string s)
    (h : ∀ v' w', Hid (w'.ownsRow B 5 1 v' (l ++ s.data.toList).length (bys (l ++ s.data.toList))) → Hid (w.grownBy w' v.ownBlock) → Hid (Foot v.ownBlock.toList v'.ownBlock.toList w w') → K (a.put op.dst v') w') : op.wp Tryz.prog a w K Q := by
  obtain ⟨i0, hi0, hz0, hz1, hz2⟩ := info_parts Tryz.infoByte
  obtain ⟨hn1, hn2⟩ := hn.out
  obtain ⟨v', w', hr, h2, h3, _⟩ := Lib.run_append_own_string (P := Tryz.prog) w B 38 9 op.type 5 i0 Tryz.underlying38 Tryz.underlying9 hi0 hz0 hz1 hz2 v l.length (bys l) hown.out s (by unfold maxLen; omega) (by omega) hn2
  have h5 := text_block Tryz.underlying38 Tryz.underlying9 hi0 hz0 hz1 hz2 hown.out s hn1 hr
  unfold Oper.wp execOp
  simp only [ho, resolve, invoke, builtin, Sem.run_bind, Sem.run_pure, Result.andThen_ok, List.map_toArray, List.map_cons, List.map_nil, hs, hx, hr]
  refine h v' w' (Lib.hid ?_) (Lib.hid h3) (Lib.hid (Foot.ofGrown h3 (h5.imp id (fun e g hg => by rw [e] at hg; cases hg; exact Nat.le_refl _))))
  have e1 : bys (l ++ s.data.toList) = bys l ++ Lib.strCells s := by simp [bys, Lib.strCells]
  have e2 : s.data.toList.length = s.size := Array.length_toList
  rw [e1, List.length_append, e2]
  exact h2
theorem wp_append_bytes {op : Oper} {a : Act} {w : World} {K : Act → World → Prop} {Q : Exit → Act → World → Prop} {B G c : Nat} {v : Value} {l m : List UInt8} (hown : Hid (w.ownsRow B 5 1 v l.length (bys l))) (hm : Hid (∀ j u, (bys m)[j]? = some u → w.cell? ⟨G, j, none⟩ = some u)) (hn : Hid (l.length + m.length ≤ 1000000000 ∧ B ≤ w.heap.size)) (sl x : Operand)
    (ho : op.op = .call { callee := .builtin .append, args := #[sl, x], argTypes := #[38, 38] }) (hs : a.eval sl = v) (hx : a.eval x = .slice (some ⟨G, 0, none⟩) m.length c)
    (h : ∀ v' w', Hid (w'.ownsRow B 5 1 v' (l ++ m).length (bys (l ++ m))) → Hid (w.grownBy w' v.ownBlock) → Hid (Foot v.ownBlock.toList v'.ownBlock.toList w w') → K (a.put op.dst v') w') : op.wp Tryz.prog a w K Q := by
  obtain ⟨i0, hi0, hz0, hz1, hz2⟩ := info_parts Tryz.infoByte
  obtain ⟨hn1, hn2⟩ := hn.out
  obtain ⟨v', w', hr, h2, h3, _, h5⟩ := run_append_own_at (P := Tryz.prog) w B 38 op.type 5 i0 _ 1 1 Tryz.underlying38 hi0 hz0 hz1 hz2 rfl (by decide) v l.length (bys l) hown.out ⟨G, 0, none⟩ m.length c (bys m) (by rw [bys_length, Nat.mul_one]) (fun j u hu => by rw [add_none]; exact hm.out j u hu) (fun u hu => by
    obtain ⟨q, _, rfl⟩ := List.mem_map.1 hu
    rfl) (by unfold maxLen; omega) (by omega) hn2
  unfold Oper.wp execOp
  simp only [ho, resolve, invoke, builtin, Sem.run_bind, Sem.run_pure, Result.andThen_ok, List.map_toArray, List.map_cons, List.map_nil, hs, hx, hr]
  refine h v' w' (Lib.hid ?_) (Lib.hid h3) (Lib.hid (Foot.ofGrown h3 (h5.imp id (fun e g hg => by rw [e] at hg; cases hg; exact Nat.le_refl _))))
  have e1 : bys (l ++ m) = bys l ++ bys m := by simp [bys]
  rw [e1, List.length_append]
  exact h2
theorem wp_append_str {op : Oper} {a : Act} {w : World} {K : Act → World → Prop} {Q : Exit → Act → World → Prop} {B G c : Nat} {v : Value} {l : List ByteArray} {p : ByteArray} (hown : Hid (w.ownsRow B 9 1 v l.length (l.map Value.string))) (hm : Hid (w.cell? ⟨G, 0, none⟩ = some (.string p))) (hn : Hid (l.length ≤ 2000000 ∧ B ≤ w.heap.size)) (sl x : Operand)
    (ho : op.op = .call { callee := .builtin .append, args := #[sl, x], argTypes := #[131, 131] }) (hs : a.eval sl = v) (hx : a.eval x = .slice (some ⟨G, 0, none⟩) 1 c)
    (h : ∀ v' w', Hid (w'.ownsRow B 9 1 v' (l ++ [p]).length ((l ++ [p]).map Value.string)) → Hid (w.grownBy w' v.ownBlock) → Hid (Foot v.ownBlock.toList v'.ownBlock.toList w w') → K (a.put op.dst v') w') : op.wp Tryz.prog a w K Q := by
  obtain ⟨i0, hi0, hz0, hz1, hz2⟩ := info_parts Tryz.infoString
  obtain ⟨hn1, hn2⟩ := hn.out
  obtain ⟨v', w', hr, h2, h3, _, h5⟩ := run_append_own_at (P := Tryz.prog) w B 131 op.type 9 i0 _ 1 16 Tryz.underlying131 hi0 hz0 hz1 hz2 rfl (by decide) v l.length (l.map Value.string) hown.out ⟨G, 0, none⟩ 1 c [.string p] rfl (fun j u hu => by
      match j, hu with
      | 0, hu => rw [add_none, hm.out]; exact hu
      | j + 1, hu => simp at hu) (fun u hu => by rw [List.mem_singleton.1 hu]; rfl) (by unfold maxLen; omega) (by omega) hn2
  unfold Oper.wp execOp
  simp only [ho, resolve, invoke, builtin, Sem.run_bind, Sem.run_pure, Result.andThen_ok, List.map_toArray, List.map_cons, List.map_nil, hs, hx, hr]
  refine h v' w' (Lib.hid ?_) (Lib.hid h3) (Lib.hid (Foot.ofGrown h3 (h5.imp id (fun e g hg => by rw [e] at hg; cases hg; exact Nat.le_refl _))))
  simpa using h2
end Go.Proofs.YtedmkdjijhflnaaGreat
namespace Go.Proofs.YtedmkdjijhflnaaGreat
open Go.RowKit

def IsRow (k : IntKind) (W : World) (a : Option Addr) (len cap : Nat) (zs : List Int) : Prop :=
  (a = none ∧ len = 0 ∧ cap = 0 ∧ zs = []) ∨ ∃ x : Addr, a = some x ∧ len ≤ cap ∧ cap ≤ maxLen ∧ zs.length = cap ∧ (∀ i, i < zs.length → W.cell? (x.add i) = some (.int k (zs.getD i 0))) ∧ ∀ n ∈ zs, (Lit.int k n).wf = true
def BytesIn2 (w : World) (a : Option Addr) (cap : Nat) (bs : List UInt8) : Prop := BytesIn w a cap bs ∧ (a = none → cap = 0)
theorem BytesIn2.below {w w' : World} {a : Option Addr} {cap : Nat} {bs : List UInt8} (h : BytesIn2 w a cap bs) (hb : Below w.heap.size w w') : BytesIn2 w' a cap bs := ⟨h.1.below hb, h.2⟩
theorem in_own {w : World} {B : Nat} {v : Value} {l : List UInt8} (h : w.ownsRow B 5 1 v l.length (bys l)) : ∃ a c, v = .slice a l.length c ∧ BytesIn2 w a c l := by
  rcases h.2 with ⟨rfl, h2⟩ | ⟨g, cap, cur, h1, _, _, h3, h4, _⟩
  · exact ⟨none, 0, by rw [h2], ⟨by omega, Nat.zero_le _, .inl h2⟩, fun _ => rfl⟩
  · subst h1
    refine ⟨_, _, rfl, ⟨h3, h4, .inr ⟨⟨g, 0, none⟩, rfl, fun i hi => ?_⟩⟩, fun h => by cases h⟩
    refine h.cells (g := g) rfl i _ ?_
    unfold bys
    rw [List.getElem?_map, List.getElem?_eq_getElem hi]
    rfl
theorem wp_append_in {op : Oper} {a : Act} {w : World} {K : Act → World → Prop} {Q : Exit → Act → World → Prop} {B c : Nat} {v : Value} {ad : Option Addr} {l m : List UInt8} (hown : Hid (w.ownsRow B 5 1 v l.length (bys l))) (hm : Hid (BytesIn2 w ad c m)) (hn : Hid (l.length + m.length ≤ 1000000000 ∧ B ≤ w.heap.size)) (sl x : Operand)
    (ho : op.op = .call { callee := .builtin .append, args := #[sl, x], argTypes := #[38, 38] }) (hs : a.eval sl = v) (hx : a.eval x = .slice ad m.length c)
    (h : ∀ v' w', Hid (w'.ownsRow B 5 1 v' (l ++ m).length (bys (l ++ m))) → Hid (w.grownBy w' v.ownBlock) → Hid (Foot v.ownBlock.toList v'.ownBlock.toList w w') → K (a.put op.dst v') w') : op.wp Tryz.prog a w K Q := by
  obtain ⟨i0, hi0, hz0, hz1, hz2⟩ := info_parts Tryz.infoByte
  obtain ⟨hn1, hn2⟩ := hn.out
  obtain ⟨⟨hm1, hm2, hm3⟩, hm4⟩ := hm.out
  cases ad with
  | none =>
    have hc0 := hm4 rfl
    subst hc0
    obtain rfl : m = [] := List.eq_nil_of_length_eq_zero (by omega)
    have hr := run_append_owned_none (P := Tryz.prog) (w := w) B 38 op.type 5 i0 1 Tryz.underlying38 hi0 v l.length _ hown.out
    unfold Oper.wp execOp
    simp only [ho, resolve, invoke, builtin, Sem.run_bind, Sem.run_pure, Result.andThen_ok, List.map_toArray, List.map_cons, List.map_nil, hs, hx, List.length_nil, hr]
    refine h v w (Lib.hid (by rw [List.append_nil]; exact hown.out)) (Lib.hid ⟨rfl, rfl, rfl, Nat.le_refl _, fun i _ _ => rfl⟩) (Lib.hid (Foot.ofBelow _ (Below.refl _ _)))
  | some y =>
    obtain ⟨v', w', hr, h2, h3, _, h5⟩ := run_append_own_at (P := Tryz.prog) w B 38 op.type 5 i0 _ 1 1 Tryz.underlying38 hi0 hz0 hz1 hz2 rfl (by decide) v l.length (bys l) hown.out y m.length c (bys m) (by rw [bys_length, Nat.mul_one]) (fun j u hu => by
      have hj : j < m.length := by
        have := (List.getElem?_eq_some_iff.1 hu).1
        rwa [bys_length] at this
      rcases hm3 with h0 | ⟨x2, e, hc⟩
      · omega
      · cases e
        rw [hc j hj]
        unfold bys at hu
        rw [List.getElem?_map, List.getElem?_eq_getElem hj] at hu
        exact hu) (fun u hu => by
      obtain ⟨q, _, rfl⟩ := List.mem_map.1 hu
      rfl) (by unfold maxLen; omega) (by omega) hn2
    unfold Oper.wp execOp
    simp only [ho, resolve, invoke, builtin, Sem.run_bind, Sem.run_pure, Result.andThen_ok, List.map_toArray, List.map_cons, List.map_nil, hs, hx, hr]
    refine h v' w' (Lib.hid ?_) (Lib.hid h3) (Lib.hid (Foot.ofGrown h3 (h5.imp id (fun e g hg => by rw [e] at hg; cases hg; exact Nat.le_refl _))))
    have e1 : bys (l ++ m) = bys l ++ bys m := by simp [bys]
    rw [e1, List.length_append]
    exact h2
end Go.Proofs.YtedmkdjijhflnaaGreat
namespace Go.Proofs.YtedmkdjijhflnaaGreat
open Go.RowKit

theorem add_add (x : Addr) (i j : Nat) : (x.add i).add j = x.add (i + j) := by
  cases x with
  | mk b o p =>
    by_cases hi : i = 0
    · subst hi; simp [Addr.add]
    · by_cases hj : j = 0
      · subst hj; simp [Addr.add]
      · simp [Addr.add, hi, hj, Nat.add_assoc]
theorem own_text_at {w : World} {x : Addr} {bs : List UInt8} {i n : Nat} (c : Nat) (h : ∀ j (h : j < bs.length), w.cell? (x.add j) = some (.int .u8 ((bs[j].toNat : Nat) : Int))) (hn : i + 1 + n ≤ bs.length) :
    (convert 38 9 (.slice (some (x.add (i + 1))) n c)).run Tryz.prog w = .ok (.string (ownAt bs i n)) w := by
  have hl : ((bs.drop (i + 1)).take n).length = n := by simp; omega
  have := run_convert_bytes_back (P := Tryz.prog) w 38 9 5 (x.add (i + 1)) c ((bs.drop (i + 1)).take n) Tryz.underlying38 Tryz.underlying5 Tryz.underlying9 (fun j hj => by
    rw [add_add, h (i + 1 + j) (by omega)]
    simp)
  rw [hl] at this
  exact this
end Go.Proofs.YtedmkdjijhflnaaGreat
namespace Go.Proofs.YtedmkdjijhflnaaGreat
open Go.RowKit

theorem sizeTo_app (l m : List ByteArray) : ∀ k, k ≤ l.length → sizeTo (l ++ m) k = sizeTo l k
  | 0, _ => rfl
  | k + 1, h => by
    unfold sizeTo
    rw [sizeTo_app l m k (by omega)]
    congr 2
    rw [List.getD_eq_getElem?_getD, List.getD_eq_getElem?_getD, List.getElem?_append_left (by omega)]
theorem sizeTo_app2 (l m : List ByteArray) : ∀ k, sizeTo (l ++ m) (l.length + k) + 1 = sizeL l + sizeTo m k
  | 0 => by
    show sizeTo (l ++ m) l.length + 1 = sizeL l + 1
    rw [sizeTo_app l m l.length (Nat.le_refl _)]
    rfl
  | k + 1 => by
    have ih := sizeTo_app2 l m k
    have e1 : sizeTo (l ++ m) (l.length + (k + 1)) = sizeTo (l ++ m) (l.length + k) + 1 + ((l ++ m).getD (l.length + k) ⟨#[]⟩).size := rfl
    have e2 : sizeTo m (k + 1) = sizeTo m k + 1 + (m.getD k ⟨#[]⟩).size := rfl
    have e3 : (l ++ m).getD (l.length + k) ⟨#[]⟩ = m.getD k ⟨#[]⟩ := by
      rw [List.getD_eq_getElem?_getD, List.getD_eq_getElem?_getD, List.getElem?_append_right (by omega)]
      congr 2
      omega
    rw [e1, e2, e3]
    omega
theorem sizeL_app (l m : List ByteArray) : sizeL (l ++ m) + 1 = sizeL l + sizeL m := by
  have := sizeTo_app2 l m m.length
  unfold sizeL at this ⊢
  rw [List.length_append]
  exact this
theorem sizeTo_pos (l : List ByteArray) : ∀ k, 1 + k ≤ sizeTo l k
  | 0 => Nat.le_refl _
  | k + 1 => by have := sizeTo_pos l k; unfold sizeTo; omega
theorem sizeL_pos (l : List ByteArray) : 1 + l.length ≤ sizeL l := sizeTo_pos l l.length
theorem joinTo_size (l : List ByteArray) : ∀ k, (joinTo l ⟨#[46]⟩ k).size + (if k = 0 then 1 else 2) ≤ sizeTo l k
  | 0 => Nat.le_refl _
  | k + 1 => by
    have h := joinTo_size l k
    have e : (joinTo l ⟨#[46]⟩ (k + 1)).size = (if 0 < k then (joinTo l ⟨#[46]⟩ k).size + 1 else (joinTo l ⟨#[46]⟩ k).size) + (l.getD k ⟨#[]⟩).size := by
      rw [joinTo, ByteArray.size_append]
      split
      · rw [ByteArray.size_append]; rfl
      · rfl
    have e2 : sizeTo l (k + 1) = sizeTo l k + 1 + (l.getD k ⟨#[]⟩).size := rfl
    rw [e, e2, if_neg (Nat.succ_ne_zero k)]
    split at h <;> split <;> omega
theorem joinB_size (l : List ByteArray) : (joinB l ⟨#[46]⟩).size ≤ sizeL l := by
  have := joinTo_size l l.length
  unfold joinB sizeL
  split at this <;> omega
theorem runB_ok (bs : List UInt8) (had : Nat) : ∀ f i l l2 e p, runB bs had f i l = (l2, e, p, 0) → had + sizeL l ≤ 255 →
    had + sizeL l2 ≤ 255 ∧ i ≤ e ∧ e < bs.length ∧ (p = true → 192 ≤ (bs.getD e 0).toNat)
  | 0, i, l, l2, e, p, h, _ => by unfold runB at h; cases h
  | f + 1, i, l, l2, e, p, h, hl => by
    unfold runB at h
    by_cases h1 : bs.length ≤ i
    · rw [if_pos h1] at h; cases h
    rw [if_neg h1] at h
    by_cases h2 : (bs.getD i 0).toNat = 0
    · rw [if_pos h2] at h
      obtain ⟨rfl, rfl, rfl⟩ : l = l2 ∧ i = e ∧ false = p := by simpa using h
      exact ⟨hl, Nat.le_refl _, by omega, fun h => by cases h⟩
    rw [if_neg h2] at h
    by_cases h3 : 192 ≤ (bs.getD i 0).toNat
    · rw [if_pos h3] at h
      obtain ⟨rfl, rfl, rfl⟩ : l = l2 ∧ i = e ∧ true = p := by simpa using h
      exact ⟨hl, Nat.le_refl _, by omega, fun _ => h3⟩
    rw [if_neg h3] at h
    by_cases h4 : 63 < (bs.getD i 0).toNat ∨ bs.length < i + 1 + (bs.getD i 0).toNat
    · rw [if_pos h4] at h; cases h
    rw [if_neg h4] at h
    by_cases h5 : has8 (ownAt bs i (bs.getD i 0).toNat) 46 = true
    · rw [if_pos h5] at h; cases h
    rw [if_neg h5] at h
    by_cases h6 : 255 < had + sizeL (l ++ [ownAt bs i (bs.getD i 0).toNat])
    · rw [if_pos h6] at h; cases h
    rw [if_neg h6] at h
    obtain ⟨a1, a2, a3, a4⟩ := runB_ok bs had f _ _ l2 e p h (by omega)
    exact ⟨a1, by omega, a3, a4⟩
def toAt (bs : List UInt8) (e : Nat) : Nat := ((bs.getD e 0).toNat - 192) * 256 + (bs.getD (e + 1) 0).toNat
def readB (bs : List UInt8) : Nat → Nat → List ByteArray → Option Nat → ByteArray × Nat × Int
  | 0, _, _, _ => (⟨#[]⟩, 0, 2)
  | f + 1, i, l, nx =>
    match runB bs (sizeL l - 1) (bs.length + 1 - i) i [] with
    | (l2, e, p, er) =>
      if er ≠ 0 then (⟨#[]⟩, 0, er) else
      if p = false then (joinB (l ++ l2) ⟨#[46]⟩, nx.getD (e + 1), 0) else
      if bs.length ≤ e + 1 then (⟨#[]⟩, 0, 2) else
      if i ≤ toAt bs e then (⟨#[]⟩, 0, 2) else
      readB bs f (toAt bs e) (l ++ l2) (some (nx.getD (e + 2)))
end Go.Proofs.YtedmkdjijhflnaaGreat
namespace Go.Proofs.YtedmkdjijhflnaaGreat
open Go.RowKit

theorem own_below8 {w w' : World} {B : Nat} {t : TypeId} {z : Nat} {v : Value} {n : Nat} {xs : List Value} (h : w.ownsRow B t z v n xs) (hb : Below w.heap.size w w') : w'.ownsRow B t z v n xs := by
  obtain ⟨h1, h2⟩ := h
  refine ⟨h1, ?_⟩
  rcases h2 with h2 | ⟨g, cap, cur, e, hB, hg, rest⟩
  · exact .inl h2
  · refine .inr ⟨g, cap, cur, e, hB, ?_, rest⟩
    rw [hb.block g (by
      rcases Nat.lt_or_ge g w.heap.size with h | h
      · exact h
      · rw [Array.getElem?_eq_none h] at hg; cases hg)]
    exact hg
def nxI : Option Nat → Int
  | none => -1
  | some n => (n : Int)
end Go.Proofs.YtedmkdjijhflnaaGreat
namespace Go.Proofs.YtedmkdjijhflnaaGreat
open Go.RowKit

def intsL (l : List Nat) : List Value := l.map fun n => Value.int .i64 ((n : Nat) : Int)
theorem Tryz.infoInt8 : (Tryz.prog.info? 3).map (fun i => (i.zero, i.size, i.bytes)) = some (some (.int .i64 0), 1, 8) := by kernel_rfl
def find8 : List ByteArray → List Nat → ByteArray → Option Nat
  | n :: ns, a :: ats, x => if n = x then some a else find8 ns ats x
  | _, _, _ => none
theorem find8_at : ∀ (ns : List ByteArray) (ats : List Nat) (x : ByteArray) (k : Nat) (h : k < ns.length) (h2 : k < ats.length), ns[k] = x → (∀ j (hj : j < ns.length), j < k → ns[j] ≠ x) → find8 ns ats x = some ats[k]
  | [], _, _, _, h, _, _, _ => absurd h (by simp)
  | _ :: _, [], _, _, _, h2, _, _ => absurd h2 (by simp)
  | n :: ns, a :: ats, x, 0, _, _, he, _ => by unfold find8; rw [if_pos (show n = x from he)]; rfl
  | n :: ns, a :: ats, x, k + 1, h, h2, he, hn => by
    unfold find8
    rw [if_neg (show ¬ n = x from hn 0 (by simp) (by omega))]
    exact find8_at ns ats x k (by simpa using h) (by simpa using h2) he (fun j hj hk => hn (j + 1) (by simpa using hj) (by omega))
theorem find8_none : ∀ (ns : List ByteArray) (ats : List Nat) (x : ByteArray), (∀ j (hj : j < ns.length), ns[j] ≠ x) → find8 ns ats x = none
  | [], _, _, _ => by unfold find8; rfl
  | _ :: _, [], _, _ => by unfold find8; rfl
  | n :: ns, a :: ats, x, h => by
    unfold find8
    rw [if_neg (show ¬ n = x from h 0 (by simp))]
    exact find8_none ns ats x (fun j hj => h (j + 1) (by simpa using hj))
theorem find8_mem : ∀ (ns : List ByteArray) (ats : List Nat) (x : ByteArray) (n : Nat), find8 ns ats x = some n → n ∈ ats
  | [], _, _, _, h => by unfold find8 at h; cases h
  | _ :: _, [], _, _, h => by unfold find8 at h; cases h
  | m :: ns, a :: ats, x, n, h => by
    unfold find8 at h
    split at h
    · cases h; simp
    · exact List.mem_cons_of_mem _ (find8_mem ns ats x n h)
theorem own_nums {w : World} {B : Nat} {v : Value} {l : List Nat} (h : w.ownsRow B 3 1 v l.length (intsL l)) : ∃ a c, v = .slice a l.length c ∧ (l.length = 0 ∨ ∃ g, a = some ⟨g, 0, none⟩ ∧ g < w.heap.size ∧ ∀ k (hk : k < l.length), w.cell? ⟨g, k, none⟩ = some (.int .i64 ((l[k] : Nat) : Int))) := by
  rcases h.2 with ⟨e1, e2⟩ | ⟨g, cap, cur, e1, e2, e3, e4, e5, e6, e7⟩
  · exact ⟨none, 0, by rw [e1, e2], .inl e2⟩
  · refine ⟨_, cap, e1, .inr ⟨g, rfl, ?_, fun k hk => ?_⟩⟩
    · apply Classical.byContradiction
      intro h
      rw [Array.getElem?_eq_none (by omega)] at e3
      cases e3
    · subst e1
      rw [World.ownsRow.cellAt h k (by omega)]
      unfold intsL
      simp [hk]
set_option maxRecDepth 100000 in
set_option maxHeartbeats 2000000 in
theorem refFind8_any (vB vN vA : Value) (ns : List ByteArray) (ats : List Nat) (x : ByteArray) (B B2 : Nat) (w : World) (hN : w.ownsRow B 9 1 vN ns.length (ns.map Value.string)) (hA : w.ownsRow B2 3 1 vA ats.length (intsL ats)) (hl : ats.length = ns.length) (hn : ns.length ≤ 2000000) (hsm : ∀ p ∈ ns, p.size ≤ 2000000) (hx : x.size ≤ 2000000) :
    Calls Tryz.prog 93 #[.agg #[vB, vN, vA], .string x] w fun e w' => e = .returned (.int .i64 (nxI (find8 ns ats x))) ∧ Below w.heap.size w w' := by
  obtain ⟨W, hW⟩ : ∃ W, w.alloc (.cells #[vB, vN, vA] 133) = W := ⟨_, rfl⟩
  have HB : Hid (Below w.heap.size w W) := Lib.hid (by rw [← hW]; exact (Below.refl _ _).alloc (Nat.le_refl _) _)
  have hc1 : W.cell? ⟨w.heap.size, 1, none⟩ = some vN := by rw [← hW, World.cell?_alloc_new]; rfl
  have hc2 : W.cell? ⟨w.heap.size, 2, none⟩ = some vA := by rw [← hW, World.cell?_alloc_new]; rfl
  obtain ⟨aN, cN, rfl, hrN⟩ := own_RowS (own_below8 hN HB.out)
  obtain ⟨aA, cA, rfl, hrA⟩ := own_nums (own_below8 hA HB.out)
  rw [hl] at hc2 hW ⊢
  have HRN := Lib.hid hrN
  have HRA := Lib.hid hrA
  have HSM := Lib.hid hsm
  have HLN := Lib.hid hl
  have HAT := Lib.hid (find8_at ns ats x)
  have HNO := Lib.hid (find8_none ns ats x)
  generalize find8 ns ats x = R at *
  obtain ⟨N, hNn⟩ : ∃ N, ns.length = N := ⟨_, rfl⟩
  have HNN := Lib.hid hNn
  rw [hNn] at hn hc1 hc2 hW ⊢
  clear hN hA hl hsm hrN hrA hNn
  go_enter Tryz.func93, Tryz.ntmps93
  go_upto_region 1 with fail
  first | rw [hW] | skip
  clear hW
  go_wp2_with fail
  go_loop [5] (fun i => ∃ k : Nat, k ≤ N ∧ i = .int .i64 (k : Int) ∧ Hid (∀ j (hj : j < ns.length), j < k → ns[j] ≠ x)) (fun i => N - (intOf i).toNat)
  case atStart => exact ⟨0, Nat.zero_le _, rfl, Lib.hid (fun j hj h => absurd h (by omega))⟩
  case round =>
    obtain ⟨k, hk, rfl, HO⟩ := hrel
    by_cases hkN : k < N
    · have hd : decide ((k : Int) < (N : Int)) = true := decide_eq_true (by omega)
      have hdn : decide (k < N) = true := decide_eq_true hkN
      have hkl : k < ns.length := by rw [HNN.out]; exact hkN
      have hka : k < ats.length := by rw [HLN.out]; exact hkl
      rcases HRN.out with hrow | h0
      · rcases hrow with ⟨_, _, h0⟩ | ⟨g, rfl, h⟩
        · rw [h0] at hkl; exact absurd hkl (by simp)
        rcases HRA.out with h0 | ⟨g2, rfl, _, h2⟩
        · omega
        have hcN := h.cells k hkl
        rw [List.getD_eq_getElem?_getD, List.getElem?_eq_getElem hkl] at hcN
        have hcA := h2 k hka
        have hz := HSM.out _ (List.getElem_mem hkl)
        have HAK : Hid (ns[k] = x → R = some ats[k]) := Lib.hid (fun e => HAT.out k hkl hka e HO.out)
        have HO2 : Hid (ns[k] ≠ x → ∀ j (hj : j < ns.length), j < k + 1 → ns[j] ≠ x) := Lib.hid (fun e j hj hjk => by
          by_cases h : j < k
          · exact HO.out j hj h
          · obtain rfl : j = k := by omega
            exact e)
        simp only [Option.getD_some] at hcN
        generalize ns[k] = p at *
        generalize ats[k] = q at *
        have hb1 : (0 : Int) ≤ (k : Int) := by omega
        have hb2 : (k : Int) < (N : Int) := by omega
        clear h h2 hkl hka HRN HRA HAT
        by_cases he : p = x
        · have hbe : (p.toList == x.toList) = true := by rw [he]; simp
          have ER := HAK.out he
          subst ER
          subst he
          clear HAK HO2 HO
          go_wp2_with fail
          go_ret
          exact ⟨rfl, HB.out⟩
        · have hbe : (p.toList == x.toList) = false := by
            rw [beq_eq_false_iff_ne]
            intro h
            rw [ByteArray.toList_eq, ByteArray.toList_eq] at h
            exact he (ByteArray.ext (Array.ext' h))
          have HO3 := Lib.hid (HO2.out he)
          clear HAK HO2 HO he
          go_wp2_with fail
          go_round
          case rel => exact ⟨k + 1, by omega, by go_num, HO3⟩
          case measure => simp [intOf]; omega
      · rw [h0] at hkl; exact absurd hkl (by simp)
    · obtain rfl : k = N := by omega
      have hd : decide ((k : Int) < (k : Int)) = false := by simp
      have ER := HNO.out (fun j hj => HO.out j hj (by rw [← HNN.out]; exact hj))
      subst ER
      clear HO HNO HAT HRN HRA
      go_wp2_with fail
      go_ret
      exact ⟨rfl, HB.out⟩
end Go.Proofs.YtedmkdjijhflnaaGreat
namespace Go.Proofs.YtedmkdjijhflnaaGreat
open Go.RowKit

def nm8 (s : ByteArray) (L : List ByteArray) : Nat → Nat → List UInt8 → List ByteArray → List Nat → List UInt8 × List ByteArray × List Nat
  | 0, _, l, ns, ats => (l, ns, ats)
  | f + 1, i, l, ns, ats =>
    if L.length ≤ i then (l ++ [0], ns, ats) else
    match find8 ns ats (restB s i) with
    | some n => (l ++ [UInt8.ofNat (192 + n / 256), UInt8.ofNat (n % 256)], ns, ats)
    | none => nm8 s L f (i + 1) (l ++ labL (L.getD i ⟨#[]⟩)) (if l.length < 16384 then ns ++ [restB s i] else ns) (if l.length < 16384 then ats ++ [l.length] else ats)
theorem own_kept {w w' : World} {B : Nat} {t : TypeId} {z : Nat} {v : Value} {n : Nat} {xs : List Value} (h : w.ownsRow B t z v n xs) (hk : ∀ g, v.ownBlock = some g → w'.heap[g]? = w.heap[g]?) : w'.ownsRow B t z v n xs := by
  obtain ⟨h1, h2⟩ := h
  refine ⟨h1, ?_⟩
  rcases h2 with h2 | ⟨g, cap, cur, e1, e2, e3, e4⟩
  · exact .inl h2
  · exact .inr ⟨g, cap, cur, e1, e2, (hk g (by rw [e1]; rfl)).trans e3, e4⟩
theorem own_types {w : World} {B B2 : Nat} {t t2 : TypeId} {z z2 : Nat} {v v2 : Value} {n n2 : Nat} {xs xs2 : List Value} (h : w.ownsRow B t z v n xs) (h2 : w.ownsRow B2 t2 z2 v2 n2 xs2) (ht : t ≠ t2) (g : Nat) (hg : v.ownBlock = some g) : v2.ownBlock ≠ some g := by
  intro hg2
  rcases h.2 with ⟨rfl, _⟩ | ⟨a, cap, cur, rfl, _, e3, _⟩
  · cases hg
  · rcases h2.2 with ⟨rfl, _⟩ | ⟨a2, cap2, cur2, rfl, _, e32, _⟩
    · cases hg2
    · cases hg
      cases hg2
      rw [e3] at e32
      cases e32
      exact ht rfl
theorem own_grown {w w' : World} {B B2 : Nat} {t t2 : TypeId} {z z2 : Nat} {v v2 : Value} {n n2 : Nat} {xs xs2 : List Value} (h : w.ownsRow B t z v n xs) (h2 : w.ownsRow B2 t2 z2 v2 n2 xs2) (ht : t ≠ t2) (hg : w.grownBy w' v.ownBlock) : w'.ownsRow B2 t2 z2 v2 n2 xs2 :=
  own_kept h2 (fun g hg2 => hg.block g (h2.lt g hg2).2 (fun e => own_types h h2 ht g e.symm hg2))
structure WBox (w : World) (b : Nat) (vB vN vA : Value) : Prop where
  c0 : w.cell? ⟨b, 0, none⟩ = some vB
  c1 : w.cell? ⟨b, 1, none⟩ = some vN
  c2 : w.cell? ⟨b, 2, none⟩ = some vA
  f0 : w.frozen? ⟨b, 0, none⟩ = false
  f1 : w.frozen? ⟨b, 1, none⟩ = false
  f2 : w.frozen? ⟨b, 2, none⟩ = false
theorem WBox.lt {w : World} {b : Nat} {vB vN vA : Value} (h : WBox w b vB vN vA) : b < w.heap.size := World.block_lt_of_cell? w ⟨b, 0, none⟩ h.c0
theorem WBox.kept {w w' : World} {b : Nat} {vB vN vA : Value} (h : WBox w b vB vN vA) (hk : w'.heap[b]? = w.heap[b]?) : WBox w' b vB vN vA :=
  ⟨(World.cell?_of_block (a := ⟨b, 0, none⟩) hk).trans h.c0, (World.cell?_of_block (a := ⟨b, 1, none⟩) hk).trans h.c1, (World.cell?_of_block (a := ⟨b, 2, none⟩) hk).trans h.c2, (World.frozen?_of_block (a := ⟨b, 0, none⟩) hk).trans h.f0, (World.frozen?_of_block (a := ⟨b, 1, none⟩) hk).trans h.f1, (World.frozen?_of_block (a := ⟨b, 2, none⟩) hk).trans h.f2⟩
theorem WBox.new (w : World) (vB vN vA : Value) : WBox (w.alloc (.cells #[vB, vN, vA] 133)) w.heap.size vB vN vA := by
  refine ⟨?_, ?_, ?_, ?_, ?_, ?_⟩
  · rw [World.cell?_alloc_new]; rfl
  · rw [World.cell?_alloc_new]; rfl
  · rw [World.cell?_alloc_new]; rfl
  · exact World.frozen?_alloc_new _ _ _ _
  · exact World.frozen?_alloc_new _ _ _ _
  · exact World.frozen?_alloc_new _ _ _ _
theorem WBox.set0 {w : World} {b : Nat} {vB vN vA : Value} (h : WBox w b vB vN vA) (v : Value) : WBox (w.setCell ⟨b, 0, none⟩ v) b v vN vA :=
  ⟨World.cell?_setCell_same _ _ _ h.c0, (World.cell?_setCell_other _ _ _ _ (by intro h; injection h; omega)).trans h.c1, (World.cell?_setCell_other _ _ _ _ (by intro h; injection h; omega)).trans h.c2, by rw [World.frozen?_setCell]; exact h.f0, by rw [World.frozen?_setCell]; exact h.f1, by rw [World.frozen?_setCell]; exact h.f2⟩
theorem WBox.set1 {w : World} {b : Nat} {vB vN vA : Value} (h : WBox w b vB vN vA) (v : Value) : WBox (w.setCell ⟨b, 1, none⟩ v) b vB v vA :=
  ⟨(World.cell?_setCell_other _ _ _ _ (by intro h; injection h; omega)).trans h.c0, World.cell?_setCell_same _ _ _ h.c1, (World.cell?_setCell_other _ _ _ _ (by intro h; injection h; omega)).trans h.c2, by rw [World.frozen?_setCell]; exact h.f0, by rw [World.frozen?_setCell]; exact h.f1, by rw [World.frozen?_setCell]; exact h.f2⟩
theorem WBox.set2 {w : World} {b : Nat} {vB vN vA : Value} (h : WBox w b vB vN vA) (v : Value) : WBox (w.setCell ⟨b, 2, none⟩ v) b vB vN v :=
  ⟨(World.cell?_setCell_other _ _ _ _ (by intro h; injection h; omega)).trans h.c0, (World.cell?_setCell_other _ _ _ _ (by intro h; injection h; omega)).trans h.c1, World.cell?_setCell_same _ _ _ h.c2, by rw [World.frozen?_setCell]; exact h.f0, by rw [World.frozen?_setCell]; exact h.f1, by rw [World.frozen?_setCell]; exact h.f2⟩
end Go.Proofs.YtedmkdjijhflnaaGreat
