/- Texts that belong together, one behind the other: EqArr, EqAddr, AddrEq, PrefKit, RefCidrWith, RefAddrOf, RefAddrMap, RefAddrGood, Digits, RefCidrMask, RefAddrCompare, AddrCompare, CidrDefs, RefCidrGood, RefAddrMay. -/
import Derived.Test.YtpgjkeakhjnckaaDoorB2
import Derived.Test.YtpgjkeakhjnckaaDoorRows
import Derived.WalkKit
import Derived.ChangeKeysEq
import Derived.Laws.StructEq
import Derived.Deep.Cut
import Derived.OpenShut
import Derived.Lib.BytesEntry
import Derived.Lib.Bytealg
import Derived.Deep.QuietTactic
import Derived.BigQuiet
/- Two arrays of integers, held against each other: they are equal, if all their numbers are. -/
namespace Go.Proofs.YtpgjkeakhjnckaaDoor
open Go.RowKit
set_option linter.unusedVariables false
set_option maxRecDepth 20000

theorem run_eqItems_ints (W : World) (d : Nat) {e : TypeId} {k : IntKind} (he : Tryd.prog.plainKey e = true) (hu : Tryd.prog.underlying e = some (.int k)) (zs ys : List Int) : ∀ (is : List Nat), (∀ i ∈ is, i < zs.length ∧ i < ys.length) →
    (Op.eqItems (d + 1) e 1 (zs.map (Value.int k)).toArray (ys.map (Value.int k)).toArray is).run Tryd.prog W = .ok (is.all fun i => zs.getD i 0 == ys.getD i 0) W
  | [], _ => by simp [Op.eqItems]
  | i :: is, h => by
    have hi := h i (by simp)
    have p1 : (part e (zs.map (Value.int k)).toArray (i * 1)).run Tryd.prog W = .ok (.int k (zs.getD i 0)) W := run_part_plain W he (by simp [hi.1])
    have p2 : (part e (ys.map (Value.int k)).toArray (i * 1)).run Tryd.prog W = .ok (.int k (ys.getD i 0)) W := run_part_plain W he (by simp [hi.2])
    have p3 := run_equalIn_int (P := Tryd.prog) W d e k k (zs.getD i 0) (ys.getD i 0) hu
    have ih := run_eqItems_ints W d he hu zs ys is (fun j hj => h j (by simp [hj]))
    simp only [Op.eqItems, Sem.run_bind, p1, p2, p3, Result.andThen_ok, List.all_cons]
    cases zs.getD i 0 == ys.getD i 0 with
    | false => simp
    | true => simpa using ih
theorem run_eq_ints (W : World) {t e : TypeId} {n : Nat} {k : IntKind} {i : TypeInfo} (ht : Tryd.prog.underlying t = some (.array n e)) (he : Tryd.prog.plainKey e = true) (hu : Tryd.prog.underlying e = some (.int k)) (hi : Tryd.prog.info? e = some i) (hc : Tryd.prog.cellsOf e = 1)
    (zs ys : List Int) (hz : zs.length = n) (hy : ys.length = n) :
    (Op.equalIn 10000 t (.agg (zs.map (Value.int k)).toArray) (.agg (ys.map (Value.int k)).toArray)).run Tryd.prog W = .ok (decide (zs = ys)) W := by
  rw [run_equalIn_array W 9999 _ _ ht hi, hc, run_eqItems_ints W 9998 he hu zs ys _ (fun j hj => by rw [List.mem_range] at hj; omega)]
  congr 1
  rw [Bool.eq_iff_iff]
  simp only [List.all_eq_true, List.mem_range, beq_iff_eq, decide_eq_true_eq]
  constructor
  · intro h
    apply List.ext_getElem (by omega)
    intro j h1 h2
    have := h j (by omega)
    rw [List.getD_eq_getElem?_getD, List.getD_eq_getElem?_getD, List.getElem?_eq_getElem h1, List.getElem?_eq_getElem h2] at this
    exact this
  · intro h j _
    rw [h]
theorem eq4_true (a b c d : Nat) (W : World) : (Op.equalIn 10000 80 (.agg #[.int .u8 (a : Int), .int .u8 (b : Int), .int .u8 (c : Int), .int .u8 (d : Int)]) (.agg #[.int .u8 (a : Int), .int .u8 (b : Int), .int .u8 (c : Int), .int .u8 (d : Int)])).run Tryd.prog W = .ok true W := by
  obtain ⟨i, hi⟩ : ∃ i, Tryd.prog.info? 5 = some i := ⟨_, rfl⟩
  have := run_eq_ints W (k := .u8) Tryd.underlying80 (by kernel_rfl) Tryd.underlying5 hi (by kernel_rfl) [(a : Int), b, c, d] [(a : Int), b, c, d] rfl rfl
  rw [show decide ([(a : Int), b, c, d] = [(a : Int), b, c, d]) = true by simp] at this
  exact this
theorem eq4_false (a b c d a' b' c' d' : Nat) (h : ¬ (a = a' ∧ b = b' ∧ c = c' ∧ d = d')) (W : World) : (Op.equalIn 10000 80 (.agg #[.int .u8 (a : Int), .int .u8 (b : Int), .int .u8 (c : Int), .int .u8 (d : Int)]) (.agg #[.int .u8 (a' : Int), .int .u8 (b' : Int), .int .u8 (c' : Int), .int .u8 (d' : Int)])).run Tryd.prog W = .ok false W := by
  obtain ⟨i, hi⟩ : ∃ i, Tryd.prog.info? 5 = some i := ⟨_, rfl⟩
  have := run_eq_ints W (k := .u8) Tryd.underlying80 (by kernel_rfl) Tryd.underlying5 hi (by kernel_rfl) [(a : Int), b, c, d] [(a' : Int), b', c', d'] rfl rfl
  rw [show decide ([(a : Int), b, c, d] = [(a' : Int), b', c', d']) = false by
    rw [decide_eq_false_iff_not]
    intro e
    simp only [List.cons.injEq, Int.natCast_inj, and_true] at e
    exact h e] at this
  exact this
theorem eq8_true (x0 x1 x2 x3 x4 x5 x6 x7 : Nat) (W : World) : (Op.equalIn 10000 66 (.agg #[.int .u16 (x0 : Int), .int .u16 (x1 : Int), .int .u16 (x2 : Int), .int .u16 (x3 : Int), .int .u16 (x4 : Int), .int .u16 (x5 : Int), .int .u16 (x6 : Int), .int .u16 (x7 : Int)]) (.agg #[.int .u16 (x0 : Int), .int .u16 (x1 : Int), .int .u16 (x2 : Int), .int .u16 (x3 : Int), .int .u16 (x4 : Int), .int .u16 (x5 : Int), .int .u16 (x6 : Int), .int .u16 (x7 : Int)])).run Tryd.prog W = .ok true W := by
  obtain ⟨i, hi⟩ : ∃ i, Tryd.prog.info? 65 = some i := ⟨_, rfl⟩
  have := run_eq_ints W (k := .u16) Tryd.underlying66 (by kernel_rfl) Tryd.underlying65 hi (by kernel_rfl) [(x0 : Int), x1, x2, x3, x4, x5, x6, x7] [(x0 : Int), x1, x2, x3, x4, x5, x6, x7] rfl rfl
  rw [show decide ([(x0 : Int), x1, x2, x3, x4, x5, x6, x7] = [(x0 : Int), x1, x2, x3, x4, x5, x6, x7]) = true by simp] at this
  exact this
end Go.Proofs.YtpgjkeakhjnckaaDoor
/- Two addresses, held against each other: they are equal, if their families are and all their bytes. -/
namespace Go.Proofs.YtpgjkeakhjnckaaDoor
open Go.RowKit
set_option linter.unusedVariables false
set_option maxRecDepth 20000

theorem run_eq_ints_at (d : Nat) (W : World) {t e : TypeId} {n : Nat} {k : IntKind} {i : TypeInfo} (ht : Tryd.prog.underlying t = some (.array n e)) (he : Tryd.prog.plainKey e = true) (hu : Tryd.prog.underlying e = some (.int k)) (hi : Tryd.prog.info? e = some i) (hc : Tryd.prog.cellsOf e = 1)
    (zs ys : List Int) (hz : zs.length = n) (hy : ys.length = n) :
    (Op.equalIn (d + 2) t (.agg (zs.map (Value.int k)).toArray) (.agg (ys.map (Value.int k)).toArray)).run Tryd.prog W = .ok (decide (zs = ys)) W := by
  rw [run_equalIn_array W (d + 1) _ _ ht hi, hc, run_eqItems_ints W d he hu zs ys _ (fun j hj => by rw [List.mem_range] at hj; omega)]
  congr 1
  rw [Bool.eq_iff_iff]
  simp only [List.all_eq_true, List.mem_range, beq_iff_eq, decide_eq_true_eq]
  constructor
  · intro h
    apply List.ext_getElem (by omega)
    intro j h1 h2
    have := h j (by omega)
    rw [List.getD_eq_getElem?_getD, List.getD_eq_getElem?_getD, List.getElem?_eq_getElem h1, List.getElem?_eq_getElem h2] at this
    exact this
  · intro h j _
    rw [h]
theorem bytes_of (xs : List Nat) : (xs.map fun n => Value.int .u8 ((n : Nat) : Int)) = (xs.map fun n : Nat => (n : Int)).map (Value.int .u8) := by simp
theorem casts_inj {xs ys : List Nat} : (xs.map fun n : Nat => (n : Int)) = (ys.map fun n : Nat => (n : Int)) ↔ xs = ys := by
  constructor
  · intro h
    exact List.map_inj_right (fun _ _ e => by exact_mod_cast e) |>.1 h
  · rintro rfl; rfl
theorem part_bytes (W : World) (f : Int) (xs : List Nat) (hx : xs.length = 16) : (part 22 (Value.int .i64 f :: xs.map fun n => Value.int .u8 ((n : Nat) : Int)).toArray 1).run Tryd.prog W = .ok (.agg (xs.map fun n => Value.int .u8 ((n : Nat) : Int)).toArray) W := by
  obtain ⟨i, hi, hs⟩ : ∃ i, Tryd.prog.info? 22 = some i ∧ i.size = 16 := ⟨_, rfl, by kernel_rfl⟩
  have h2 : (isAgg 22).run Tryd.prog W = .ok true W := by
    unfold isAgg
    rw [Sem.run_bind, run_underlying Tryd.underlying22 W]
    simp
  have h3 : (sizeOf 22).run Tryd.prog W = .ok 16 W := by simp [sizeOf, typeInfo, hi, hs]
  simp only [part, Sem.run_bind, h2, Result.andThen_ok, if_true, h3, Sem.run_pure]
  congr 2
  apply Array.ext'
  simp
  exact List.take_of_length_le (by rw [List.length_map, hx]; exact Nat.le_refl _)
theorem plainK_int : Tryd.prog.plainKey 3 = true := by kernel_rfl
theorem plainK_u8 : Tryd.prog.plainKey 5 = true := by kernel_rfl
theorem cells_u8 : Tryd.prog.cellsOf 5 = 1 := by kernel_rfl
theorem addr_fields : Tryd.prog.fieldsOf 24 = #[{ name := "Fam", type := 3, offset := 0, embedded := false, tag := "", pkgPath := "", byteOffset := 0 }, { name := "B", type := 22, offset := 1, embedded := false, tag := "", pkgPath := "", byteOffset := 8 }] := by simp only [Program.fieldsOf, Tryd.underlying24]
theorem nm1 : ("Fam" = "_") = False := by simp
theorem nm2 : ("B" = "_") = False := by simp
theorem st (d : Nat) (xs ys : Array Value) (W : World) : (Op.equalIn (d + 3) 24 (.agg xs) (.agg ys)).run Tryd.prog W = (Op.eqFields (d + 2) xs ys (Tryd.prog.fieldsOf 24).toList).run Tryd.prog W :=
  run_equalIn_struct W (d + 2) _ _ _ (by rw [addr_fields]; exact Tryd.underlying24) Tryd.stoodInHeld24
theorem part_fam (W : World) (f : Int) (xs : List Nat) : (part 3 (Value.int .i64 f :: xs.map fun n => Value.int .u8 ((n : Nat) : Int)).toArray 0).run Tryd.prog W = .ok (.int .i64 f) W := run_part_plain W plainK_int (by simp)
theorem eq_fam (d : Nat) (f g : Int) (W : World) : (Op.equalIn (d + 2) 3 (.int .i64 f) (.int .i64 g)).run Tryd.prog W = .ok (f == g) W := run_equalIn_int (P := Tryd.prog) W (d + 1) 3 .i64 .i64 f g Tryd.underlying3
theorem eq_arr16 (d : Nat) (xs ys : List Nat) (W : World) (hx : xs.length = 16) (hy : ys.length = 16) : (Op.equalIn (d + 2) 22 (.agg (xs.map fun n => Value.int .u8 ((n : Nat) : Int)).toArray) (.agg (ys.map fun n => Value.int .u8 ((n : Nat) : Int)).toArray)).run Tryd.prog W = .ok (decide (xs = ys)) W := by
  obtain ⟨i, hi⟩ : ∃ i, Tryd.prog.info? 5 = some i := ⟨_, rfl⟩
  have p6 := run_eq_ints_at d W (k := .u8) Tryd.underlying22 plainK_u8 Tryd.underlying5 hi cells_u8 (xs.map fun n : Nat => (n : Int)) (ys.map fun n : Nat => (n : Int)) (by simpa using hx) (by simpa using hy)
  rw [← bytes_of, ← bytes_of, show decide ((xs.map fun n : Nat => (n : Int)) = (ys.map fun n : Nat => (n : Int))) = decide (xs = ys) from decide_eq_decide.2 casts_inj] at p6
  exact p6
theorem two_fields (P : Program) (W : World) (D : Nat) (X Y : Array Value) (t1 t2 : TypeId) (a1 b1 a2 b2 : Value) (r1 r2 : Bool)
    (h1 : (part t1 X 0).run P W = .ok a1 W) (h2 : (part t1 Y 0).run P W = .ok b1 W) (h3 : (Op.equalIn D t1 a1 b1).run P W = .ok r1 W)
    (h4 : (part t2 X 1).run P W = .ok a2 W) (h5 : (part t2 Y 1).run P W = .ok b2 W) (h6 : (Op.equalIn D t2 a2 b2).run P W = .ok r2 W) :
    (Op.eqFields D X Y [{ name := "Fam", type := t1, offset := 0, embedded := false, tag := "", pkgPath := "", byteOffset := 0 }, { name := "B", type := t2, offset := 1, embedded := false, tag := "", pkgPath := "", byteOffset := 8 }]).run P W = .ok (r1 && r2) W := by
  simp only [Op.eqFields, ne_eq, nm1, nm2, not_false_eq_true, if_true, Sem.run_bind, h1, h2, h3, Result.andThen_ok, Sem.run_ite, h4, h5, h6, Sem.run_pure]
  cases r1 <;> cases r2 <;> rfl
theorem eq_addr_at (d : Nat) (f g : Int) (xs ys : List Nat) (W : World) (hx : xs.length = 16) (hy : ys.length = 16) : (Op.equalIn (d + 3) 24 (addrV f xs) (addrV g ys)).run Tryd.prog W = .ok (decide (f = g ∧ xs = ys)) W := by
  rw [addrV, addrV, st, addr_fields]
  refine (two_fields Tryd.prog W (d + 2) _ _ 3 22 _ _ _ _ _ _ (part_fam W f xs) (part_fam W g ys) (eq_fam d f g W) (part_bytes W f xs hx) (part_bytes W g ys hy) (eq_arr16 d xs ys W hx hy)).trans ?_
  congr 1
  by_cases h1 : f = g <;> by_cases h2 : xs = ys <;> simp [h1, h2]
theorem eq_addr (f g : Int) (xs ys : List Nat) (W : World) (hx : xs.length = 16) (hy : ys.length = 16) : (Op.equalIn 10000 24 (addrV f xs) (addrV g ys)).run Tryd.prog W = .ok (decide (f = g ∧ xs = ys)) W :=
  eq_addr_at 9997 f g xs ys W hx hy
end Go.Proofs.YtpgjkeakhjnckaaDoor
/- Two addresses held against each other, as a walk meets it. -/
namespace Go.Proofs.YtpgjkeakhjnckaaDoor
open Go.RowKit
set_option linter.unusedVariables false
set_option maxRecDepth 20000

/-- No interface lies inside an address. -/
theorem guard_addr (op : BinOp) (x y : Operand) (f g : Int) (xs ys : List Nat) (W : World) : (eqGuard op 24 x y (addrV f xs) (addrV g ys)).run Tryd.prog W = .ok () W := run_eqGuard_agg _ _ _ _ _ _ _ Tryd.eqGuardType24
theorem guard_zero (op : BinOp) (x y : Operand) (f : Int) (xs : List Nat) (W : World) : (eqGuard op 24 x y (addrV f xs) (.agg zA)).run Tryd.prog W = .ok () W := run_eqGuard_agg _ _ _ _ _ _ _ Tryd.eqGuardType24
theorem guard_arr16 (op : BinOp) (x y : Operand) (xs ys : List Nat) (W : World) : (eqGuard op 22 x y (arr16 xs) (arr16 ys)).run Tryd.prog W = .ok () W := run_eqGuard_agg _ _ _ _ _ _ _ Tryd.eqGuardType22
theorem run_eq_addr (f g : Int) (xs ys : List Nat) (W : World) (hx : xs.length = 16) (hy : ys.length = 16) : (binOp .eql 24 (addrV f xs) (addrV g ys)).run Tryd.prog W = .ok (.bool (decide (f = g ∧ xs = ys))) W := by
  have h := eq_addr f g xs ys W hx hy
  unfold addrV at h ⊢
  rw [run_eql_struct, h]
  rfl
theorem run_neq_addr (f g : Int) (xs ys : List Nat) (W : World) (hx : xs.length = 16) (hy : ys.length = 16) : (binOp .neq 24 (addrV f xs) (addrV g ys)).run Tryd.prog W = .ok (.bool (!decide (f = g ∧ xs = ys))) W := by
  have h := eq_addr f g xs ys W hx hy
  unfold addrV at h ⊢
  rw [run_neq_struct, h]
  rfl
theorem run_same_addr (f : Int) (xs : List Nat) (W : World) (hx : xs.length = 16) : (binOp .eql 24 (addrV f xs) (addrV f xs)).run Tryd.prog W = .ok (.bool true) W := by
  rw [run_eq_addr f f xs xs W hx hx, decide_eq_true ⟨rfl, rfl⟩]
theorem run_nsame_addr (f : Int) (xs : List Nat) (W : World) (hx : xs.length = 16) : (binOp .neq 24 (addrV f xs) (addrV f xs)).run Tryd.prog W = .ok (.bool false) W := by
  rw [run_neq_addr f f xs xs W hx hx, decide_eq_true ⟨rfl, rfl⟩]
  rfl
theorem run_zero_addr (f : Int) (xs : List Nat) (W : World) (hx : xs.length = 16) : (binOp .eql 24 (addrV f xs) (.agg zA)).run Tryd.prog W = .ok (.bool (decide (f = 0 ∧ xs = List.replicate 16 0))) W :=
  run_eq_addr f 0 xs (List.replicate 16 0) W hx rfl
theorem run_eq_arr16 (xs ys : List Nat) (W : World) (hx : xs.length = 16) (hy : ys.length = 16) : (binOp .eql 22 (arr16 xs) (arr16 ys)).run Tryd.prog W = .ok (.bool (decide (xs = ys))) W := by
  have h := eq_arr16 9998 xs ys W hx hy
  unfold arr16
  rw [run_eql_struct, h]
  rfl
theorem run_neq_arr16 (xs ys : List Nat) (W : World) (hx : xs.length = 16) (hy : ys.length = 16) : (binOp .neq 22 (arr16 xs) (arr16 ys)).run Tryd.prog W = .ok (.bool (!decide (xs = ys))) W := by
  have h := eq_arr16 9998 xs ys W hx hy
  unfold arr16
  rw [run_neq_struct, h]
  rfl
end Go.Proofs.YtpgjkeakhjnckaaDoor
/- A prefix (api.Prefix: an address, and its bits: 18 cells) in memory: read and stored whole, given back, held over calls, held against another one. -/
namespace Go.Proofs.YtpgjkeakhjnckaaDoor
open Go.RowKit
set_option linter.unusedVariables false
set_option maxRecDepth 20000

/-- The cells of a prefix. -/
def prefL (f : Int) (bs : List Nat) (n : Int) : List Value := addrL f bs ++ [Value.int .i64 n]
def prefV (f : Int) (bs : List Nat) (n : Int) : Value := .agg (prefL f bs n).toArray
theorem prefL_len (f : Int) (bs : List Nat) (n : Int) (h : bs.length = 16) : (prefL f bs n).length = 18 := by simp [prefL, addrL_len f bs h]
theorem prefL_one (f : Int) (bs : List Nat) (n : Int) : (prefL f bs n).toArray.all (·.oneCell') = true := all_oneCell_toArray fun v hv => by
  rcases List.mem_append.1 hv with hv | hv
  · rcases List.mem_cons.1 hv with rfl | hv
    · rfl
    · obtain ⟨n, _, rfl⟩ := List.mem_map.1 hv
      rfl
  · rw [List.mem_singleton] at hv; rw [hv]; rfl
/-- A prefix lies at G. -/
structure PrefAt (w : World) (G : Nat) (f : Int) (bs : List Nat) (n : Int) : Prop where
  addr : AddrAt w G f bs
  bits : w.cell? ⟨G, 17, none⟩ = some (.int .i64 n)
  live : w.frozen? ⟨G, 17, none⟩ = false
section
variable {w w' : World} {G : Nat} {f : Int} {bs : List Nat} {n : Int}
theorem PrefAt.below (h : PrefAt w G f bs n) (hb : Below w.heap.size w w') : PrefAt w' G f bs n :=
  ⟨h.addr.below hb, by rw [hb.cell (p := ⟨G, 17, none⟩) h.addr.lt]; exact h.bits, by rw [hb.frozen (p := ⟨G, 17, none⟩) h.addr.lt]; exact h.live⟩
theorem PrefAt.alloc (h : PrefAt w G f bs n) (b : Obj) : PrefAt (w.alloc b) G f bs n := h.below ((Below.refl _ _).alloc (Nat.le_refl _) _)
theorem PrefAt.range (h : PrefAt w G f bs n) : w.rangeAt G 0 (prefL f bs n) := by
  intro j v hv
  have hl := addrL_len f bs h.addr.len
  unfold prefL at hv
  by_cases hj : j < 17
  · rw [List.getElem?_append_left (by omega)] at hv
    exact h.addr.range j v hv
  · rw [List.getElem?_append_right (by omega), hl] at hv
    have e : j = 17 := by
      apply Classical.byContradiction
      intro h2
      rw [List.getElem?_eq_none (by simp; omega)] at hv
      cases hv
    subst e
    rw [Nat.zero_add, h.bits, ← hv]
    rfl
theorem PrefAt.there (h : PrefAt w G f bs n) : w.there G 0 18 := by
  intro j hj
  by_cases h1 : j < 17
  · exact h.addr.there j h1
  · obtain rfl : j = 17 := by omega
    rw [Nat.zero_add]
    exact ⟨by rw [h.bits]; rfl, h.live⟩
theorem PrefAt.ofRange (hl : bs.length = 16) (hlt : G < w.heap.size) (h : w.rangeAt G 0 (prefL f bs n)) (ht : w.there G 0 18) : PrefAt w G f bs n := by
  refine ⟨AddrAt.ofRange hl hlt (fun j v hv => ?_) (fun j hj => ht j (by omega)), ?_, ?_⟩
  · have hj : j < (addrL f bs).length := by
      apply Classical.byContradiction
      intro h2
      rw [List.getElem?_eq_none (by omega)] at hv
      cases hv
    exact h j v (by unfold prefL; rw [List.getElem?_append_left hj]; exact hv)
  · have := h 17 (.int .i64 n) (by unfold prefL; rw [List.getElem?_append_right (by rw [addrL_len f bs hl]; exact Nat.le_refl _), addrL_len f bs hl]; rfl)
    rw [Nat.zero_add] at this
    exact this
  · have := (ht 17 (by decide)).2
    rw [Nat.zero_add] at this
    exact this
theorem PrefAt.stored {f0 : Int} {bs0 : List Nat} {n0 : Int} (h : PrefAt w G f0 bs0 n0) (f : Int) (bs : List Nat) (n : Int) (hl : bs.length = 16) : PrefAt (w.setCells G 0 (prefL f bs n)) G f bs n := by
  have ht : w.there G 0 (prefL f bs n).length := by rw [prefL_len f bs n hl]; exact h.there
  exact PrefAt.ofRange hl (by rw [size_setCells]; exact h.addr.lt) (World.rangeAt_setCells_same w G 0 _ ht) (World.there_setCells h.there G 0 _)
theorem PrefAt.apart (h : PrefAt w G f bs n) {G' o : Nat} (hG : G ≠ G') (vs : List Value) : PrefAt (w.setCells G' o vs) G f bs n :=
  PrefAt.ofRange h.addr.len (by rw [size_setCells]; exact h.addr.lt) (World.rangeAt_setCells_apart h.range _ _ _ (.inl hG)) (World.there_setCells h.there _ _ _)
/-- Its address alone is stored anew. -/
theorem PrefAt.storedAddr (h : PrefAt w G f bs n) (g : Int) (cs : List Nat) (hl : cs.length = 16) : PrefAt (w.setCells G 0 (addrL g cs)) G g cs n := by
  refine ⟨h.addr.stored g cs hl, ?_, ?_⟩
  · have hr : w.rangeAt G 17 [Value.int .i64 n] := by
      intro j v hv
      cases j with
      | zero => rw [Nat.add_zero, h.bits, ← hv]; rfl
      | succ j => simp at hv
    have h2 := World.rangeAt_setCells_apart hr G 0 (addrL g cs) (.inr (.inr (by rw [addrL_len g cs hl]; exact Nat.le_refl _)))
    exact h2 0 _ rfl
  · exact (World.there_setCells h.there G 0 (addrL g cs) 17 (by decide)).2
end
theorem PrefAt.of (w : World) (t : TypeId) (cs : Array Value) (f : Int) (bs : List Nat) (n : Int) (h16 : bs.length = 16) (h : cs.toList = prefL f bs n) : PrefAt (w.alloc (.cells cs t)) w.heap.size f bs n := by
  have e : ∀ j, cs[j]? = (prefL f bs n)[j]? := fun j => by rw [← h, Array.getElem?_toList]
  refine PrefAt.ofRange h16 (by simp) (fun j v hv => ?_) (fun j hj => ⟨?_, World.frozen?_alloc_new _ _ _ _⟩)
  · rw [World.cell?_alloc_new, Nat.zero_add, e]; exact hv
  · rw [World.cell?_alloc_new, Nat.zero_add, e, List.getElem?_eq_getElem (by rw [prefL_len f bs n h16]; exact hj)]; rfl
theorem pref_size : (Tryd.prog.info? 26).map (·.size) = some 18 := by kernel_rfl
/-- A prefix that comes in, boxed. -/
theorem pref_boxed (f : Int) (bs : List Nat) (n : Int) (w : World) (h16 : bs.length = 16) :
    ∃ cs : Array Value, prefV f bs n = .agg cs ∧ Hid (PrefAt (w.alloc (.cells cs 26)) w.heap.size f bs n) ∧ Hid (Below w.heap.size w (w.alloc (.cells cs 26))) :=
  ⟨_, rfl, Lib.hid (PrefAt.of w _ _ f bs n h16 rfl), Lib.hid ((Below.refl _ _).alloc (Nat.le_refl _) _)⟩
/-- The cells of a prefix of zeros. -/
abbrev zP : Array Value := #[.int .i64 0, .int .u8 0, .int .u8 0, .int .u8 0, .int .u8 0, .int .u8 0, .int .u8 0, .int .u8 0, .int .u8 0, .int .u8 0, .int .u8 0, .int .u8 0, .int .u8 0, .int .u8 0, .int .u8 0, .int .u8 0, .int .u8 0, .int .i64 0]
theorem pref_zeroed (w : World) : PrefAt (w.alloc (.cells zP 26)) w.heap.size 0 (List.replicate 16 0) 0 := PrefAt.of w _ _ 0 _ 0 rfl rfl
theorem loadVar_pref {w : World} {G : Nat} {f : Int} {bs : List Nat} {n : Int} (h : PrefAt w G f bs n) : (loadVar 26 ⟨G, 0, none⟩).run Tryd.prog w = .ok (prefV f bs n) w :=
  run_loadVar_mid w G 0 26 (prefL f bs n) _ h.range Tryd.underlying26 rfl (by rw [pref_size, prefL_len f bs n h.addr.len])
/-- A prefix, loaded whole, guarded or not. -/
theorem load_pref_g {ops : Array Oper} {rest : List Oper} {op : Oper} {a : Act} {w : World} {Q : Exit → Act → World → Prop} {G : Nat} {f : Int} {bs : List Nat} {n : Int} (hA : Hid (PrefAt w G f bs n)) (x : Operand) (hw : Region.wanted op (yielded ops a.tmps) = true) (ho : op.op = .load 26 x)
    (hx : a.eval x = .pointer (some ⟨G, 0, none⟩)) (h : wpList Tryd.prog ops Q rest (a.put op.dst (prefV f bs n)) w) : wpList Tryd.prog ops Q (op :: rest) a w :=
  wpList_load_row hw 26 x ho G 0 hx (prefL f bs n) _ hA.out.range Tryd.underlying26 rfl (by rw [pref_size, prefL_len f bs n hA.out.addr.len]) h
/-- A prefix, stored whole. -/
theorem store_pref {ops : Array Oper} {rest : List Oper} {op : Oper} {a : Act} {w : World} {Q : Exit → Act → World → Prop} {G : Nat} {g : Int} {bs0 : List Nat} {n0 : Int} (hA : Hid (PrefAt w G g bs0 n0)) (x y : Operand) {f : Int} {bs : List Nat} {n : Int} (hl : Hid (bs.length = 16)) (hgd : op.guard = none) (ho : op.op = .store 26 x y)
    (hx : a.eval x = .pointer (some ⟨G, 0, none⟩)) (hy : a.eval y = prefV f bs n) (h : ∀ W, Hid (W = w.setCells G 0 (prefL f bs n)) → Hid (PrefAt W G f bs n) → wpList Tryd.prog ops Q rest (a.put op.dst undef) W) : wpList Tryd.prog ops Q (op :: rest) a w :=
  wpList_store_mid hgd 26 x y ho G 0 (prefL f bs n).toArray hx hy (by rw [List.size_toArray, prefL_len f bs n hl.out]; exact hA.out.there) (by rw [pref_size, List.size_toArray, prefL_len f bs n hl.out]) (prefL_one f bs n) (h _ (Lib.hid rfl) (Lib.hid (hA.out.stored f bs n hl.out)))
/-- A prefix's address, stored anew. -/
theorem store_pref_addr {ops : Array Oper} {rest : List Oper} {op : Oper} {a : Act} {w : World} {Q : Exit → Act → World → Prop} {G : Nat} {g : Int} {bs0 : List Nat} {n : Int} (hA : Hid (PrefAt w G g bs0 n)) (x y : Operand) {f : Int} {bs : List Nat} (hl : Hid (bs.length = 16)) (hgd : op.guard = none) (ho : op.op = .store 24 x y)
    (hx : a.eval x = .pointer (some ⟨G, 0, none⟩)) (hy : a.eval y = addrV f bs) (h : ∀ W, Hid (W = w.setCells G 0 (addrL f bs)) → Hid (PrefAt W G f bs n) → wpList Tryd.prog ops Q rest (a.put op.dst undef) W) : wpList Tryd.prog ops Q (op :: rest) a w :=
  wpList_store_mid hgd 24 x y ho G 0 (addrL f bs).toArray hx hy (by rw [List.size_toArray, addrL_len f bs hl.out]; exact hA.out.addr.there) (by rw [addr_size, List.size_toArray, addrL_len f bs hl.out]) (addrL_one f bs) (h _ (Lib.hid rfl) (Lib.hid (hA.out.storedAddr f bs hl.out)))
/-- A prefix, given back out of its cells. -/
theorem results_pref {fn : Func} {a : Tmp} {tmps : Array Value} {W : World} {R : Nat} {f : Int} {bs : List Nat} {n : Int} (h : fn.results = #[.cell a 26]) (ha : tmps.getD a undef = .pointer (some ⟨R, 0, none⟩)) (hA : PrefAt W R f bs n) : (results fn tmps).run Tryd.prog W = .ok (prefV f bs n) W := by
  rw [Array.getD_eq_getD_getElem?] at ha
  simp [results, h, ha, asAddr, loadVar_pref hA]
theorem results_pref2 {fn : Func} {a t : Tmp} {tmps : Array Value} {W : World} {R : Nat} {f : Int} {bs : List Nat} {n : Int} (h : fn.results = #[.cell a 26, .tmp t]) (ha : tmps.getD a undef = .pointer (some ⟨R, 0, none⟩)) (hA : PrefAt W R f bs n) : (results fn tmps).run Tryd.prog W = .ok (.tuple #[prefV f bs n, tmps.getD t undef]) W := by
  rw [Array.getD_eq_getD_getElem?] at ha
  simp [results, h, ha, asAddr, loadVar_pref hA]
/-- Held over a region: the prefix, and its address. -/
theorem HeldR.pref {L : List (Nat × Nat × List Value)} {W w : World} {G : Nat} {f : Int} {bs : List Nat} {n : Int} (h : HeldR L W w) (hA : PrefAt w G f bs n) : HeldR ((G, 0, prefL f bs n) :: (G, 0, addrL f bs) :: L) W w := (h.addr hA.addr).cons hA.range hA.addr.lt
def InP (L : List (Nat × Nat × List Value)) (G : Nat) (f : Int) (bs : List Nat) (n : Int) : Prop := (G, 0, prefL f bs n) ∈ L ∧ bs.length = 16
theorem yields_pref {ops : Array Oper} {op : Oper} {a : Act} {L : List (Nat × Nat × List Value)} {W : World} {G : Nat} {f : Int} {bs : List Nat} {n : Int} (hm : Hid (InP L G f bs n)) (hw : Region.wanted op (yielded ops a.tmps) = true) (x : Operand) (ho : op.op = .load 26 x)
    (hx : a.eval x = .pointer (some ⟨G, 0, none⟩)) : YieldsIf Tryd.prog ops (HeldR L W) op (prefV f bs n) a :=
  yieldsIf_load_mid hw 26 x ho G 0 hx (prefL f bs n) _ (fun _ h => h.get hm.out.1) Tryd.underlying26 rfl (by rw [pref_size, prefL_len f bs n hm.out.2])
theorem bitsR {L : List (Nat × Nat × List Value)} {G : Nat} {f : Int} {bs : List Nat} {n : Int} (h : InP L G f bs n) (W : World) : CellR L W G 17 (.int .i64 n) := fun w hw => hw.cell h.1 17 _ (by
  unfold prefL; rw [List.getElem?_append_right (by rw [addrL_len f bs h.2]; exact Nat.le_refl _), addrL_len f bs h.2]; rfl)
theorem famPR {L : List (Nat × Nat × List Value)} {G : Nat} {f : Int} {bs : List Nat} {n : Int} (h : InP L G f bs n) (W : World) : CellR L W G 0 (.int .i64 f) := fun w hw => hw.cell h.1 0 _ rfl
/-- One operation alone may come up, and it is wanted. -/
theorem AllReadyH.one {P : Program} {md : Region.Mode} {ops : Array Oper} {Q : Exit → Act → World → Prop} {S : World → Prop} {fuel : Nat} {listed : Array Bool} {a : Act} {w : World} {i : Nat} {o : Oper} (ho : ops[i]? = some o) (hw : Region.wanted o (yielded ops a.tmps) = true)
    (h : ∀ K' : Act → World → Prop, Shut (∀ a w, S w → (S w → wpAnyH P md ops Q S fuel (listed.setIfInBounds i true) a w) → K' a w) → Oper.wp P o a w K' Q) : AllReadyH P md ops Q S fuel listed a w [i] :=
  AllReadyH.cons ho (fun K hK => by rw [if_pos hw]; exact h K hK) AllReadyH.nil
/-- A store into a block that is none of the list's, and newer than W. -/
theorem HeldR.store {L : List (Nat × Nat × List Value)} {W w : World} (h : HeldR L W w) {R o : Nat} (vs : List Value) (hR : W.heap.size ≤ R) (hn : ∀ x ∈ L, x.1 ≠ R) : HeldR L W (w.setCells R o vs) :=
  ⟨fun x hx => ⟨World.rangeAt_setCells_apart (h.1 x hx).1 _ _ _ (.inl (hn x hx)), by rw [size_setCells]; exact (h.1 x hx).2⟩, below_cells hR _ _ _ h.2⟩
theorem wp_store_pref {op : Oper} {a : Act} {w : World} {K : Act → World → Prop} {Q : Exit → Act → World → Prop} {G : Nat} {g : Int} {bs0 : List Nat} {n0 : Int} (hA : Hid (PrefAt w G g bs0 n0)) (x y : Operand) {f : Int} {bs : List Nat} {n : Int} (hl : Hid (bs.length = 16)) (ho : op.op = .store 26 x y)
    (hx : a.eval x = .pointer (some ⟨G, 0, none⟩)) (hy : a.eval y = prefV f bs n) (h : Hid (PrefAt (w.setCells G 0 (prefL f bs n)) G f bs n) → K (a.put op.dst undef) (w.setCells G 0 (prefL f bs n))) : op.wp Tryd.prog a w K Q :=
  wp_store_mid 26 x y ho G 0 (prefL f bs n).toArray hx hy (by rw [List.size_toArray, prefL_len f bs n hl.out]; exact hA.out.there) (by rw [pref_size, List.size_toArray, prefL_len f bs n hl.out]) (prefL_one f bs n) (h (Lib.hid (hA.out.stored f bs n hl.out)))
/-- Two prefixes, held against each other. -/
theorem pref_fields : Tryd.prog.fieldsOf 26 = #[{ name := "Addr", type := 24, offset := 0, embedded := false, tag := "", pkgPath := "", byteOffset := 0 }, { name := "Bits", type := 3, offset := 17, embedded := false, tag := "", pkgPath := "", byteOffset := 24 }] := by simp only [Program.fieldsOf, Tryd.underlying26]
theorem nm3 : ("Addr" = "_") = False := by simp
theorem nm4 : ("Bits" = "_") = False := by simp
theorem stP (d : Nat) (xs ys : Array Value) (W : World) : (Op.equalIn (d + 4) 26 (.agg xs) (.agg ys)).run Tryd.prog W = (Op.eqFields (d + 3) xs ys (Tryd.prog.fieldsOf 26).toList).run Tryd.prog W :=
  run_equalIn_struct W (d + 3) _ _ _ (by rw [pref_fields]; exact Tryd.underlying26) Tryd.stoodInHeld26
theorem part_addr (W : World) (f : Int) (xs : List Nat) (n : Int) (hx : xs.length = 16) : (part 24 (prefL f xs n).toArray 0).run Tryd.prog W = .ok (addrV f xs) W := by
  obtain ⟨i, hi, hs⟩ : ∃ i, Tryd.prog.info? 24 = some i ∧ i.size = 17 := ⟨_, rfl, by kernel_rfl⟩
  have h2 : (isAgg 24).run Tryd.prog W = .ok true W := by
    unfold isAgg
    rw [Sem.run_bind, run_underlying Tryd.underlying24 W]
    simp
  have h3 : (sizeOf 24).run Tryd.prog W = .ok 17 W := by simp [sizeOf, typeInfo, hi, hs]
  simp only [part, Sem.run_bind, h2, Result.andThen_ok, if_true, h3, Sem.run_pure]
  rw [addrV_L]
  congr 2
  apply Array.ext'
  simp only [Array.toList_extract, List.extract_eq_take_drop]
  show ((addrL f xs ++ [Value.int .i64 n]).drop 0).take 17 = addrL f xs
  rw [List.drop_zero, List.take_append_of_le_length (by rw [addrL_len f xs hx]; exact Nat.le_refl _), List.take_of_length_le (by rw [addrL_len f xs hx]; exact Nat.le_refl _)]
theorem part_bits (W : World) (f : Int) (xs : List Nat) (n : Int) (hx : xs.length = 16) : (part 3 (prefL f xs n).toArray 17).run Tryd.prog W = .ok (.int .i64 n) W := run_part_plain W plainK_int (by
  rw [List.getElem?_toArray]
  unfold prefL; rw [List.getElem?_append_right (by rw [addrL_len f xs hx]; exact Nat.le_refl _), addrL_len f xs hx]; rfl)
theorem eq_bits (d : Nat) (f g : Int) (W : World) : (Op.equalIn (d + 3) 3 (.int .i64 f) (.int .i64 g)).run Tryd.prog W = .ok (f == g) W := run_equalIn_int (P := Tryd.prog) W (d + 2) 3 .i64 .i64 f g Tryd.underlying3
theorem two_fieldsP (P : Program) (W : World) (D : Nat) (X Y : Array Value) (t1 t2 : TypeId) (a1 b1 a2 b2 : Value) (r1 r2 : Bool)
    (h1 : (part t1 X 0).run P W = .ok a1 W) (h2 : (part t1 Y 0).run P W = .ok b1 W) (h3 : (Op.equalIn D t1 a1 b1).run P W = .ok r1 W)
    (h4 : (part t2 X 17).run P W = .ok a2 W) (h5 : (part t2 Y 17).run P W = .ok b2 W) (h6 : (Op.equalIn D t2 a2 b2).run P W = .ok r2 W) :
    (Op.eqFields D X Y [{ name := "Addr", type := t1, offset := 0, embedded := false, tag := "", pkgPath := "", byteOffset := 0 }, { name := "Bits", type := t2, offset := 17, embedded := false, tag := "", pkgPath := "", byteOffset := 24 }]).run P W = .ok (r1 && r2) W := by
  simp only [Op.eqFields, ne_eq, nm3, nm4, not_false_eq_true, if_true, Sem.run_bind, h1, h2, h3, Result.andThen_ok, Sem.run_ite, h4, h5, h6, Sem.run_pure]
  cases r1 <;> cases r2 <;> rfl
theorem eq_pref_at (d : Nat) (f g : Int) (xs ys : List Nat) (n m : Int) (W : World) (hx : xs.length = 16) (hy : ys.length = 16) : (Op.equalIn (d + 4) 26 (prefV f xs n) (prefV g ys m)).run Tryd.prog W = .ok (decide (f = g ∧ xs = ys ∧ n = m)) W := by
  rw [prefV, prefV, stP, pref_fields]
  refine (two_fieldsP Tryd.prog W (d + 3) _ _ 24 3 _ _ _ _ _ _ (part_addr W f xs n hx) (part_addr W g ys m hy) (eq_addr_at d f g xs ys W hx hy) (part_bits W f xs n hx) (part_bits W g ys m hy) (eq_bits d n m W)).trans ?_
  congr 1
  by_cases h1 : f = g <;> by_cases h2 : xs = ys <;> by_cases h3 : n = m <;> simp [h1, h2, h3]
theorem eq_pref (f g : Int) (xs ys : List Nat) (n m : Int) (W : World) (hx : xs.length = 16) (hy : ys.length = 16) : (Op.equalIn 10000 26 (prefV f xs n) (prefV g ys m)).run Tryd.prog W = .ok (decide (f = g ∧ xs = ys ∧ n = m)) W :=
  eq_pref_at 9996 f g xs ys n m W hx hy
theorem guard_pref (op : BinOp) (x y : Operand) (f g : Int) (xs ys : List Nat) (n m : Int) (W : World) : (eqGuard op 26 x y (prefV f xs n) (prefV g ys m)).run Tryd.prog W = .ok () W := run_eqGuard_agg _ _ _ _ _ _ _ Tryd.eqGuardType26
theorem run_eq_pref (f g : Int) (xs ys : List Nat) (n m : Int) (W : World) (hx : xs.length = 16) (hy : ys.length = 16) : (binOp .eql 26 (prefV f xs n) (prefV g ys m)).run Tryd.prog W = .ok (.bool (decide (f = g ∧ xs = ys ∧ n = m))) W := by
  have h := eq_pref f g xs ys n m W hx hy
  unfold prefV at h ⊢
  rw [run_eql_struct, h]
  rfl
theorem run_same_pref (f : Int) (xs : List Nat) (n : Int) (W : World) (hx : xs.length = 16) : (binOp .eql 26 (prefV f xs n) (prefV f xs n)).run Tryd.prog W = .ok (.bool true) W := by
  rw [run_eq_pref f f xs xs n n W hx hx, decide_eq_true ⟨rfl, rfl, rfl⟩]
theorem below_newA {w W : World} {f : Int} {bs : List Nat} (h : Hid (W = (w.alloc (.cells zA 24)).setCells w.heap.size 0 (addrL f bs))) : Below w.heap.size w W := by
  rw [h.out]; exact below_cells (Nat.le_refl _) _ _ _ ((Below.refl _ _).alloc (Nat.le_refl _) _)
theorem below_newP {w W : World} {f : Int} {bs : List Nat} {n : Int} (h : Hid (W = (w.alloc (.cells zP 26)).setCells w.heap.size 0 (prefL f bs n))) : Below w.heap.size w W := by
  rw [h.out]; exact below_cells (Nat.le_refl _) _ _ _ ((Below.refl _ _).alloc (Nat.le_refl _) _)
theorem wf_small {n : Nat} (h : n ≤ 100000) : (Lit.int .i64 (n : Int)).wf = true := WalkArith.wf_i64 ⟨by omega, by omega⟩
/-- A prefix, built of its address and its bits; an address of a family alone. -/
theorem built_pref (f : Int) (bs : List Nat) (n : Int) (h16 : bs.length = 16) : Tryd.prog.built 26 [(0, addrV f bs), (1, .int .i64 n)] = some (prefL f bs n).toArray := by
  obtain ⟨y0, y1, y2, y3, y4, y5, y6, y7, y8, y9, y10, y11, y12, y13, y14, y15, rfl⟩ := list16 bs h16
  kernel_rfl
theorem built_fam (f : Int) : Tryd.prog.built 24 [(0, .int .i64 f)] = some (addrL f (List.replicate 16 0)).toArray := rfl
theorem built_zero : Tryd.prog.built 26 [] = some (prefL 0 (List.replicate 16 0) 0).toArray := rfl
theorem exec_build {P : Program} {o : Oper} {a : Act} {w : World} {t : TypeId} {parts : Array (Nat × Operand)} {cells : Array Value} (ho : o.op = .build t parts) (h : P.built t (parts.map fun (i, x) => (i, a.eval x)).toList = some cells) : (execOp a.eval o).run P w = .ok (.value (.agg cells)) w := by
  unfold execOp
  simp only [ho, Sem.run_bind, run_build w t _ cells h, Result.andThen_ok]
  rfl
theorem yields_build_pref {ops : Array Oper} {S : World → Prop} {op : Oper} {a : Act} {f : Int} {bs : List Nat} {n : Int} (hl : Hid (bs.length = 16)) (hw : Region.wanted op (yielded ops a.tmps) = true) (x y : Operand) (ho : op.op = .build 26 #[(0, x), (1, y)])
    (hx : a.eval x = addrV f bs) (hy : a.eval y = .int .i64 n) : YieldsIf Tryd.prog ops S op (prefV f bs n) a :=
  .inl ⟨hw, fun w _ => exec_build ho (by
    simp only [List.map_toArray, List.map_cons, List.map_nil]
    rw [hx, hy]; exact built_pref f bs n hl.out)⟩
theorem yields_build_fam {ops : Array Oper} {S : World → Prop} {op : Oper} {a : Act} {f : Int} (hw : Region.wanted op (yielded ops a.tmps) = true) (x : Operand) (ho : op.op = .build 24 #[(0, x)])
    (hx : a.eval x = .int .i64 f) : YieldsIf Tryd.prog ops S op (addrV f (List.replicate 16 0)) a :=
  .inl ⟨hw, fun w _ => exec_build ho (by
    simp only [List.map_toArray, List.map_cons, List.map_nil]
    rw [hx]; exact built_fam f)⟩
theorem build_pref {ops : Array Oper} {rest : List Oper} {op : Oper} {a : Act} {w : World} {Q : Exit → Act → World → Prop} {f : Int} {bs : List Nat} {n : Int} (hl : Hid (bs.length = 16)) (hg : op.guard = none) (x y : Operand) (ho : op.op = .build 26 #[(0, x), (1, y)])
    (hx : a.eval x = addrV f bs) (hy : a.eval y = .int .i64 n) (h : wpList Tryd.prog ops Q rest (a.put op.dst (prefV f bs n)) w) : wpList Tryd.prog ops Q (op :: rest) a w := by
  have e : Tryd.prog.built 26 ((#[(0, x), (1, y)] : Array (Nat × Operand)).map fun (i, x) => (i, a.eval x)).toList = some (prefL f bs n).toArray := by
    simp only [List.map_toArray, List.map_cons, List.map_nil]
    rw [hx, hy]; exact built_pref f bs n hl.out
  refine wpList_build hg 26 _ ho (by rw [e]; rfl) ?_
  rw [e]
  exact h
theorem build_fam {ops : Array Oper} {rest : List Oper} {op : Oper} {a : Act} {w : World} {Q : Exit → Act → World → Prop} {f : Int} (hg : op.guard = none) (x : Operand) (ho : op.op = .build 24 #[(0, x)])
    (hx : a.eval x = .int .i64 f) (h : wpList Tryd.prog ops Q rest (a.put op.dst (addrV f (List.replicate 16 0))) w) : wpList Tryd.prog ops Q (op :: rest) a w := by
  have e : Tryd.prog.built 24 ((#[(0, x)] : Array (Nat × Operand)).map fun (i, x) => (i, a.eval x)).toList = some (addrL f (List.replicate 16 0)).toArray := by
    simp only [List.map_toArray, List.map_cons, List.map_nil]
    rw [hx]; exact built_fam f
  refine wpList_build hg 24 _ ho (by rw [e]; rfl) ?_
  rw [e]
  exact h
theorem build_zero {ops : Array Oper} {rest : List Oper} {op : Oper} {a : Act} {w : World} {Q : Exit → Act → World → Prop} (hg : op.guard = none) (ho : op.op = .build 26 #[])
    (h : wpList Tryd.prog ops Q rest (a.put op.dst (prefV 0 (List.replicate 16 0) 0)) w) : wpList Tryd.prog ops Q (op :: rest) a w := by
  have e : Tryd.prog.built 26 ((#[] : Array (Nat × Operand)).map fun (i, x) => (i, a.eval x)).toList = some (prefL 0 (List.replicate 16 0) 0).toArray := by
    simp only [List.map_toArray, List.map_nil]
    exact built_zero
  refine wpList_build hg 26 _ ho (by rw [e]; rfl) ?_
  rw [e]
  exact h
end Go.Proofs.YtpgjkeakhjnckaaDoor
/- Contract of the reference's With of layer 5. -/
namespace Go.Proofs.YtpgjkeakhjnckaaDoor
open Go.RowKit
set_option linter.unusedVariables false
set_option maxRecDepth 20000

set_option maxRecDepth 100000 in
set_option maxHeartbeats 2000000 in
theorem refWith_any (f : Int) (bs : List Nat) (n b : Nat) (w : World) (h16 : bs.length = 16) (hlt : ∀ x ∈ bs, x < 256) (hn : n ≤ 1000) (hb : b ≤ 1) :
    Calls Tryd.prog 26 #[addrV f bs, .int .i64 (n : Int), .int .i64 (b : Int)] w fun e w' => e = .returned (addrV f (withL (bitsN f) bs n b)) ∧ Below w.heap.size w w' := by
  obtain ⟨R, eR⟩ : ∃ R, withL (bitsN f) bs n b = R := ⟨_, rfl⟩
  rw [eR]
  have H16 := Lib.hid h16
  have HLT := Lib.hid hlt
  have HF : Hid (∀ i, withF (bitsN f) bs n b i ≤ 1) := Lib.hid (fun i => withF_le _ _ _ _ _ hb)
  have HN := bitsN_le f
  obtain ⟨cs, ecs, HA, HB⟩ := addr_boxed f bs w h16
  have HR := addr_zeroed (w.alloc (.cells cs 24))
  rw [heap_alloc] at HR
  have HRH := Lib.hid HR
  have HA1 := Lib.hid (HA.out.alloc (.cells zA 24))
  have HB1 := Lib.hid (HB.out.alloc HB.out.size (.cells zA 24))
  rw [ecs]
  clear ecs h16 hlt HA HB HR
  go_enter Tryd.func26, Tryd.ntmps26
  go_upto_region 1 with fail
  generalize ((w.alloc (.cells cs 24)).alloc (.cells zA 24)) = W at *
  have hfam := HA1.out.fam
  have HZ1 := Lib.hid (addr_zeroed W)
  have HLZ : Hid ((List.replicate 16 0).length = 16) := Lib.hid rfl
  have GW := HRH.out.lt
  go_upto_region 2 with (first | refine build_fam rfl _ rfl rfl ?_ | refine store_addr HZ1 _ _ HLZ rfl rfl rfl rfl (fun W1 HW1 HO1 => ?_))
  have HA2 := Lib.hid (HA1.out.below (below_newA HW1))
  have HR2 := Lib.hid (HRH.out.below (below_newA HW1))
  have HB2 := Lib.hid (chain HB1.out (below_newA HW1))
  generalize W.heap.size = G1 at *
  clear HA1 HB1 HRH HZ1 HW1 hfam
  have HP0 : Hid (AddrAt W1 G1 f (partL (withF (bitsN f) bs n b) 0)) := Lib.hid (by rw [partL_zero _ HF.out]; exact HO1.out)
  have HBI := fun W => Lib.hid (refBits_any f bs W H16.out)
  have HBT := fun W (k : Nat) (hk : k ≤ 128) => Lib.hid (refBit_any f bs (k : Int) W H16.out HLT.out (wf_small (by omega)))
  have HBA : Hid (∀ k : Nat, k < bitsN f → bitN f bs (k : Int) = bitA bs k) := Lib.hid (fun k hk => bitN_A f bs k hk)
  have HEN := Lib.hid (partL_end f (withF (bitsN f) bs n b) (fun i hi => if_neg (by omega)))
  have HE0 : Hid (R = ofBits (withF (bitsN f) bs n b)) := Lib.hid (by rw [← eR]; rfl)
  clear eR
  have HFV : Hid (∀ k : Nat, k < bitsN f → withF (bitsN f) bs n b k = if n ≤ k then b else bitA bs k) := Lib.hid (fun k hk => if_pos hk)
  generalize withF (bitsN f) bs n b = β at *
  generalize bitsN f = N at *
  clear HO1
  go_wp2_with fail
  go_loopw [8] (fun i wr => ∃ k : Nat, k ≤ N ∧ i = .int .i64 (k : Int) ∧ Hid (AddrAt wr w.heap.size f bs) ∧ Hid (AddrAt wr (w.heap.size + 1) 0 (List.replicate 16 0)) ∧ Hid (AddrAt wr G1 f (partL β k)) ∧ Hid (Below w.heap.size w wr)) (fun i _ => 128 - (intOf i).toNat)
  case atStart => exact ⟨0, by omega, rfl, HA2, HR2, HP0, HB2⟩
  case round =>
    obtain ⟨k, hk, rfl, HA3, HR3, HP3, HB3⟩ := hrel
    clear HA2 HR2 HP0 HB2
    have hk128 : k ≤ 128 := by omega
    go_wp2_with (refine load_addr_g HA3 _ rfl rfl rfl ?_)
    refine (HBI _).out.mono ?_
    rintro e w1 ⟨rfl, hb1⟩
    have HA4 := Lib.hid (HA3.out.below hb1)
    have HR4 := Lib.hid (HR3.out.below hb1)
    have HP4 := Lib.hid (HP3.out.below hb1)
    have HB4 := Lib.hid (chain HB3.out hb1)
    clear HA3 HR3 HP3 HB3 hb1
    by_cases hkN : k < N
    · have hd : decide ((k : Int) < (N : Int)) = true := by simp; omega
      go_wp2_with (refine load_addr_g HA4 _ rfl rfl rfl ?_)
      refine (HBT _ k hk128).out.mono ?_
      rintro e w2 ⟨rfl, hb2⟩
      have HA5 := Lib.hid (HA4.out.below hb2)
      have HR5 := Lib.hid (HR4.out.below hb2)
      have HP5 := Lib.hid (HP4.out.below hb2)
      have HB5 := Lib.hid (chain HB4.out hb2)
      clear HA4 HR4 HP4 HB4 hb2
      rw [HBA.out k hkN]
      have hv := bitA_le bs k
      have HFK := Lib.hid (HFV.out k hkN)
      have HST := Lib.hid (partL_step β HF.out k (by omega))
      have hx := partL_lt β HF.out k (by omega)
      have hq16 : k / 8 < 16 := by omega
      have hcell := HP5.out.cells (k / 8) hq16
      have hliv := HP5.out.live (1 + k / 8) (by omega)
      have HSV := fun v => Lib.hid (HP5.out.set (i := k / 8) hq16 v)
      generalize (partL β k).getD (k / 8) 0 = x at *
      generalize bitA bs k = v at *
      obtain ⟨q, eq, hq2⟩ : ∃ q : Nat, k / 8 = q ∧ (k : Int) / 8 = (q : Int) := ⟨_, rfl, by omega⟩
      rw [eq] at HST hq16 hcell hliv HSV
      have d1 : (k : Int).tdiv 8 = (q : Int) := by rw [Int.tdiv_eq_ediv_of_nonneg (by omega)]; exact hq2
      have q16 : (q : Int) < 16 := by omega
      have HGG := Lib.hid GW
      clear eq hq2 GW
      by_cases hnk : n ≤ k
      · have hd2 : decide ((n : Int) ≤ (k : Int)) = true := by simp; omega
        have HE : Hid ((partL β k).set q (x * 2 + b) = partL β (k + 1)) := Lib.hid (by rw [← HST.out, HFK.out, if_pos hnk])
        have wb : IntKind.u8.wrap (b : Int) = (b : Int) := by rw [IntKind.wrap_u8]; omega
        go_wp2_with fail
        go_roundw
        case rel => exact ⟨k + 1, by omega, by go_num, Lib.hid (HA5.out.other (by have := HGG.out; omega) _), Lib.hid (HR5.out.other (by have := HGG.out; omega) _), Lib.hid (by rw [← HE.out]; exact (HSV (x * 2 + b)).out), Lib.hid (HB5.out.setCell (p := ⟨G1, 1 + q, none⟩) (by show w.heap.size ≤ G1; have := HGG.out; omega) _)⟩
        case measure => simp [intOf]; omega
      · have hd2 : decide ((n : Int) ≤ (k : Int)) = false := by simp; omega
        have HE : Hid ((partL β k).set q (x * 2 + v) = partL β (k + 1)) := Lib.hid (by rw [← HST.out, HFK.out, if_neg hnk])
        have wv : IntKind.u8.wrap (v : Int) = (v : Int) := by rw [IntKind.wrap_u8]; omega
        go_wp2_with fail
        go_roundw
        case rel => exact ⟨k + 1, by omega, by go_num, Lib.hid (HA5.out.other (by have := HGG.out; omega) _), Lib.hid (HR5.out.other (by have := HGG.out; omega) _), Lib.hid (by rw [← HE.out]; exact (HSV (x * 2 + v)).out), Lib.hid (HB5.out.setCell (p := ⟨G1, 1 + q, none⟩) (by show w.heap.size ≤ G1; have := HGG.out; omega) _)⟩
        case measure => simp [intOf]; omega
    · obtain rfl : k = N := by omega
      have hd : decide ((k : Int) < (k : Int)) = false := by simp
      have HLN : Hid ((ofBits β).length = 16) := Lib.hid (ofBits_len β)
      rw [HEN.out] at HP4
      go_wp2_with (first | refine load_addr_g HP4 _ rfl rfl rfl ?_ | (refine store_addr HR4 _ _ HLN rfl rfl rfl rfl (fun W HW HA => ?_)))
      refine bodyPost_ret (v := addrV f (ofBits β)) (results_addr Tryd.results26 rfl HA.out) rfl ⟨by rw [HE0.out], by rw [HW.out]; exact below_cells (by omega) _ _ _ HB4.out⟩
end Go.Proofs.YtpgjkeakhjnckaaDoor
/- Contracts of the reference's Of4 and Of6 of layer 4. -/
namespace Go.Proofs.YtpgjkeakhjnckaaDoor
open Go.RowKit
set_option linter.unusedVariables false
set_option maxRecDepth 20000

theorem Arr8.of8 (w : World) (t : TypeId) (x0 x1 x2 x3 x4 x5 x6 x7 : Nat) : Arr8 (w.alloc (.cells #[.int .u16 (x0 : Int), .int .u16 (x1 : Int), .int .u16 (x2 : Int), .int .u16 (x3 : Int), .int .u16 (x4 : Int), .int .u16 (x5 : Int), .int .u16 (x6 : Int), .int .u16 (x7 : Int)] t)) w.heap.size [x0, x1, x2, x3, x4, x5, x6, x7] := by
  refine ⟨rfl, by simp, ?_, fun j _ => World.frozen?_alloc_new _ _ _ _⟩
  intro j hj
  have : j = 0 ∨ j = 1 ∨ j = 2 ∨ j = 3 ∨ j = 4 ∨ j = 5 ∨ j = 6 ∨ j = 7 := by omega
  rcases this with rfl | rfl | rfl | rfl | rfl | rfl | rfl | rfl <;> simp [World.cell?_alloc_new]

/-- What Of4 has laid behind k rounds. -/
def lo4 (n : Nat) : Nat → List Nat
  | 0 => List.replicate 16 0
  | k + 1 => (lo4 n k).set (3 - k) (n / 256 ^ k % 256)
def b4 (n : Nat) : List Nat := lo4 n 4
theorem b4_eq (n : Nat) : b4 n = [n / 16777216 % 256, n / 65536 % 256, n / 256 % 256, n % 256, 0, 0, 0, 0, 0, 0, 0, 0, 0, 0, 0, 0] := by
  simp [b4, lo4]
theorem b4_len (n : Nat) : (b4 n).length = 16 := by rw [b4_eq]; rfl
theorem zero_addr (f : Int) : (#[.int .i64 f, .int .u8 0, .int .u8 0, .int .u8 0, .int .u8 0, .int .u8 0, .int .u8 0, .int .u8 0, .int .u8 0, .int .u8 0, .int .u8 0, .int .u8 0, .int .u8 0, .int .u8 0, .int .u8 0, .int .u8 0, .int .u8 0] : Array Value).toList = Value.int .i64 f :: (List.replicate 16 0).map fun n => Value.int .u8 ((n : Nat) : Int) := rfl
set_option maxRecDepth 100000 in
set_option maxHeartbeats 2000000 in
theorem refOf4_any (n : Nat) (w : World) (hn : n ≤ 4294967295) :
    Calls Tryd.prog 32 #[.int .u32 (n : Int)] w fun e w' => e = .returned (addrV 4 (b4 n)) ∧ Below w.heap.size w w' := by
  have hR := AddrAt.of w 24 #[.int .i64 0, .int .u8 0, .int .u8 0, .int .u8 0, .int .u8 0, .int .u8 0, .int .u8 0, .int .u8 0, .int .u8 0, .int .u8 0, .int .u8 0, .int .u8 0, .int .u8 0, .int .u8 0, .int .u8 0, .int .u8 0, .int .u8 0] 0 (List.replicate 16 0) rfl (zero_addr 0)
  have hP := AddrAt.of (w.alloc (.cells #[.int .i64 0, .int .u8 0, .int .u8 0, .int .u8 0, .int .u8 0, .int .u8 0, .int .u8 0, .int .u8 0, .int .u8 0, .int .u8 0, .int .u8 0, .int .u8 0, .int .u8 0, .int .u8 0, .int .u8 0, .int .u8 0, .int .u8 0] 24)) 24 #[.int .i64 4, .int .u8 0, .int .u8 0, .int .u8 0, .int .u8 0, .int .u8 0, .int .u8 0, .int .u8 0, .int .u8 0, .int .u8 0, .int .u8 0, .int .u8 0, .int .u8 0, .int .u8 0, .int .u8 0, .int .u8 0, .int .u8 0] 4 (List.replicate 16 0) rfl (zero_addr 4)
  have b1 : Below w.heap.size w (w.alloc (.cells #[.int .i64 0, .int .u8 0, .int .u8 0, .int .u8 0, .int .u8 0, .int .u8 0, .int .u8 0, .int .u8 0, .int .u8 0, .int .u8 0, .int .u8 0, .int .u8 0, .int .u8 0, .int .u8 0, .int .u8 0, .int .u8 0, .int .u8 0] 24)) := (Below.refl _ _).alloc (Nat.le_refl _) _
  have b2 := b1.alloc b1.size (.cells #[.int .i64 4, .int .u8 0, .int .u8 0, .int .u8 0, .int .u8 0, .int .u8 0, .int .u8 0, .int .u8 0, .int .u8 0, .int .u8 0, .int .u8 0, .int .u8 0, .int .u8 0, .int .u8 0, .int .u8 0, .int .u8 0, .int .u8 0] 24)
  have hR2 := hR.below ((Below.refl _ _).alloc (Nat.le_refl _) (.cells #[.int .i64 4, .int .u8 0, .int .u8 0, .int .u8 0, .int .u8 0, .int .u8 0, .int .u8 0, .int .u8 0, .int .u8 0, .int .u8 0, .int .u8 0, .int .u8 0, .int .u8 0, .int .u8 0, .int .u8 0, .int .u8 0, .int .u8 0] 24))
  have e1 : (w.alloc (.cells #[.int .i64 0, .int .u8 0, .int .u8 0, .int .u8 0, .int .u8 0, .int .u8 0, .int .u8 0, .int .u8 0, .int .u8 0, .int .u8 0, .int .u8 0, .int .u8 0, .int .u8 0, .int .u8 0, .int .u8 0, .int .u8 0, .int .u8 0] 24)).heap.size = w.heap.size + 1 := by simp
  rw [e1] at hP
  clear hR b1
  go_enter Tryd.func32, Tryd.ntmps32
  go_wp2_with fail
  generalize ((w.alloc (.cells #[.int .i64 0, .int .u8 0, .int .u8 0, .int .u8 0, .int .u8 0, .int .u8 0, .int .u8 0, .int .u8 0, .int .u8 0, .int .u8 0, .int .u8 0, .int .u8 0, .int .u8 0, .int .u8 0, .int .u8 0, .int .u8 0, .int .u8 0] 24)).alloc (.cells #[.int .i64 4, .int .u8 0, .int .u8 0, .int .u8 0, .int .u8 0, .int .u8 0, .int .u8 0, .int .u8 0, .int .u8 0, .int .u8 0, .int .u8 0, .int .u8 0, .int .u8 0, .int .u8 0, .int .u8 0, .int .u8 0, .int .u8 0] 24)) = W at *
  clear e1
  have HR := Lib.hid hR2
  have HP := Lib.hid hP
  clear hR2 hP
  go_loopw [0, 4] (fun t i wr => ∃ (k X : Nat) (l : List Nat), k ≤ 4 ∧ i = .int .i64 ((3 : Int) - (k : Int)) ∧ t = .int .u32 (X : Int) ∧ X ≤ 4294967295 ∧ Hid (X = n / 256 ^ k) ∧ Hid (AddrAt wr w.heap.size 0 (List.replicate 16 0)) ∧ Hid (AddrAt wr (w.heap.size + 1) 4 l) ∧ Hid (l = lo4 n k) ∧ Below w.heap.size w wr) (fun _ i _ => ((intOf i) + 1).toNat)
  case atStart => exact ⟨0, n, _, by decide, rfl, rfl, hn, Lib.hid (by simp), HR, HP, Lib.hid rfl, b2⟩
  case round =>
    obtain ⟨k, X, l, hk, rfl, rfl, hX, HX, HR2, HP2, HL, hbel⟩ := hrel
    by_cases hk4 : k < 4
    · obtain ⟨j, hj, ej⟩ : ∃ j : Nat, 3 - k = j ∧ (3 : Int) - (k : Int) = (j : Int) := ⟨_, rfl, by omega⟩
      have hp0 := HP2.out.cells j (by omega)
      have hl0 := HP2.out.live (1 + j) (by omega)
      obtain ⟨m, hm, em⟩ : ∃ m : Nat, X % 256 = m ∧ (X : Int) % 256 = (m : Int) := ⟨_, rfl, by omega⟩
      have wm : IntKind.u8.wrap (m : Int) = (m : Int) := by rw [IntKind.wrap_u8]; omega
      have hj16 : (j : Int) < 16 := by omega
      have HS := Lib.hid (HP2.out.set (i := j) (by omega) m)
      have HE : Hid (l.set j m = lo4 n (k + 1)) := Lib.hid (by rw [HL.out, lo4, hj, ← hm, HX.out])
      have HX2 : Hid (X / 256 = n / 256 ^ (k + 1)) := Lib.hid (by rw [HX.out, Nat.pow_succ, Nat.div_div_eq_div_mul])
      have hjk : j + k = 3 := by omega
      generalize l.getD j 0 = o0 at hp0
      clear hj hm
      go_wp2_with fail
      go_roundw
      case rel => exact ⟨k + 1, X / 256, l.set j m, by omega, by congr 1; omega, by first | rfl | (congr 1; omega), by omega, HX2, Lib.hid (HR2.out.other (by omega) _), HS, HE, hbel.setCell (p := ⟨w.heap.size + 1, 1 + j, none⟩) (by show w.heap.size ≤ w.heap.size + 1; omega) _⟩
      case measure => simp [intOf]; omega
    · obtain rfl : k = 4 := by omega
      have hll : l = b4 n := HL.out
      subst hll
      have HLN : Hid ((b4 n).length = 16) := Lib.hid HP2.out.len
      go_wp2_with (first | refine load_addr HP2 _ rfl rfl rfl ?_ | (refine store_addr HR2 _ _ HLN rfl rfl rfl rfl (fun W HW HA => ?_)))
      refine bodyPost_ret (v := addrV 4 (b4 n)) (results_addr Tryd.results32 rfl HA.out) rfl ⟨rfl, by rw [HW.out]; exact below_cells (by omega) _ _ _ hbel⟩

set_option maxRecDepth 100000 in
set_option maxHeartbeats 2000000 in
theorem refOf6_any (gs : List Nat) (w : World) (h8 : gs.length = 8) (hlt : ∀ x ∈ gs, x < 65536) :
    Calls Tryd.prog 58 #[arr8 gs] w fun e w' => e = .returned (addrV 6 (byL gs)) ∧ Below w.heap.size w w' := by
  obtain ⟨x0, x1, x2, x3, x4, x5, x6, x7, hgs⟩ := list8 gs h8
  have ha : arr8 gs = .agg #[.int .u16 (x0 : Int), .int .u16 (x1 : Int), .int .u16 (x2 : Int), .int .u16 (x3 : Int), .int .u16 (x4 : Int), .int .u16 (x5 : Int), .int .u16 (x6 : Int), .int .u16 (x7 : Int)] := by rw [hgs]; rfl
  have hA := Arr8.of8 w 66 x0 x1 x2 x3 x4 x5 x6 x7
  rw [← hgs] at hA
  have b1 : Below w.heap.size w (w.alloc (.cells #[.int .u16 (x0 : Int), .int .u16 (x1 : Int), .int .u16 (x2 : Int), .int .u16 (x3 : Int), .int .u16 (x4 : Int), .int .u16 (x5 : Int), .int .u16 (x6 : Int), .int .u16 (x7 : Int)] 66)) := (Below.refl _ _).alloc (Nat.le_refl _) _
  have b2 := b1.alloc b1.size (.cells #[.int .i64 0, .int .u8 0, .int .u8 0, .int .u8 0, .int .u8 0, .int .u8 0, .int .u8 0, .int .u8 0, .int .u8 0, .int .u8 0, .int .u8 0, .int .u8 0, .int .u8 0, .int .u8 0, .int .u8 0, .int .u8 0, .int .u8 0] 24)
  have b3 := b2.alloc b2.size (.cells #[.int .i64 6, .int .u8 0, .int .u8 0, .int .u8 0, .int .u8 0, .int .u8 0, .int .u8 0, .int .u8 0, .int .u8 0, .int .u8 0, .int .u8 0, .int .u8 0, .int .u8 0, .int .u8 0, .int .u8 0, .int .u8 0, .int .u8 0] 24)
  have hR := AddrAt.of (w.alloc (.cells #[.int .u16 (x0 : Int), .int .u16 (x1 : Int), .int .u16 (x2 : Int), .int .u16 (x3 : Int), .int .u16 (x4 : Int), .int .u16 (x5 : Int), .int .u16 (x6 : Int), .int .u16 (x7 : Int)] 66)) 24 #[.int .i64 0, .int .u8 0, .int .u8 0, .int .u8 0, .int .u8 0, .int .u8 0, .int .u8 0, .int .u8 0, .int .u8 0, .int .u8 0, .int .u8 0, .int .u8 0, .int .u8 0, .int .u8 0, .int .u8 0, .int .u8 0, .int .u8 0] 0 (List.replicate 16 0) rfl (zero_addr 0)
  have hP := AddrAt.of ((w.alloc (.cells #[.int .u16 (x0 : Int), .int .u16 (x1 : Int), .int .u16 (x2 : Int), .int .u16 (x3 : Int), .int .u16 (x4 : Int), .int .u16 (x5 : Int), .int .u16 (x6 : Int), .int .u16 (x7 : Int)] 66)).alloc (.cells #[.int .i64 0, .int .u8 0, .int .u8 0, .int .u8 0, .int .u8 0, .int .u8 0, .int .u8 0, .int .u8 0, .int .u8 0, .int .u8 0, .int .u8 0, .int .u8 0, .int .u8 0, .int .u8 0, .int .u8 0, .int .u8 0, .int .u8 0] 24)) 24 #[.int .i64 6, .int .u8 0, .int .u8 0, .int .u8 0, .int .u8 0, .int .u8 0, .int .u8 0, .int .u8 0, .int .u8 0, .int .u8 0, .int .u8 0, .int .u8 0, .int .u8 0, .int .u8 0, .int .u8 0, .int .u8 0, .int .u8 0] 6 (List.replicate 16 0) rfl (zero_addr 6)
  have hA2 := (hA.below ((Below.refl _ _).alloc (Nat.le_refl _) (.cells #[.int .i64 0, .int .u8 0, .int .u8 0, .int .u8 0, .int .u8 0, .int .u8 0, .int .u8 0, .int .u8 0, .int .u8 0, .int .u8 0, .int .u8 0, .int .u8 0, .int .u8 0, .int .u8 0, .int .u8 0, .int .u8 0, .int .u8 0] 24))).below ((Below.refl _ _).alloc (Nat.le_refl _) (.cells #[.int .i64 6, .int .u8 0, .int .u8 0, .int .u8 0, .int .u8 0, .int .u8 0, .int .u8 0, .int .u8 0, .int .u8 0, .int .u8 0, .int .u8 0, .int .u8 0, .int .u8 0, .int .u8 0, .int .u8 0, .int .u8 0, .int .u8 0] 24))
  have hR2 := hR.below ((Below.refl _ _).alloc (Nat.le_refl _) (.cells #[.int .i64 6, .int .u8 0, .int .u8 0, .int .u8 0, .int .u8 0, .int .u8 0, .int .u8 0, .int .u8 0, .int .u8 0, .int .u8 0, .int .u8 0, .int .u8 0, .int .u8 0, .int .u8 0, .int .u8 0, .int .u8 0, .int .u8 0] 24))
  have e1 : (w.alloc (.cells #[.int .u16 (x0 : Int), .int .u16 (x1 : Int), .int .u16 (x2 : Int), .int .u16 (x3 : Int), .int .u16 (x4 : Int), .int .u16 (x5 : Int), .int .u16 (x6 : Int), .int .u16 (x7 : Int)] 66)).heap.size = w.heap.size + 1 := by simp
  have e2 : ((w.alloc (.cells #[.int .u16 (x0 : Int), .int .u16 (x1 : Int), .int .u16 (x2 : Int), .int .u16 (x3 : Int), .int .u16 (x4 : Int), .int .u16 (x5 : Int), .int .u16 (x6 : Int), .int .u16 (x7 : Int)] 66)).alloc (.cells #[.int .i64 0, .int .u8 0, .int .u8 0, .int .u8 0, .int .u8 0, .int .u8 0, .int .u8 0, .int .u8 0, .int .u8 0, .int .u8 0, .int .u8 0, .int .u8 0, .int .u8 0, .int .u8 0, .int .u8 0, .int .u8 0, .int .u8 0] 24)).heap.size = w.heap.size + 1 + 1 := by simp
  rw [e1] at hR2
  rw [e2] at hP
  rw [ha]
  have H8 := Lib.hid h8
  have HLT := Lib.hid hlt
  clear ha hgs h8 hlt hA hR b1 b2
  go_enter Tryd.func58, Tryd.ntmps58
  go_wp2_with fail
  generalize (((w.alloc (.cells #[.int .u16 (x0 : Int), .int .u16 (x1 : Int), .int .u16 (x2 : Int), .int .u16 (x3 : Int), .int .u16 (x4 : Int), .int .u16 (x5 : Int), .int .u16 (x6 : Int), .int .u16 (x7 : Int)] 66)).alloc (.cells #[.int .i64 0, .int .u8 0, .int .u8 0, .int .u8 0, .int .u8 0, .int .u8 0, .int .u8 0, .int .u8 0, .int .u8 0, .int .u8 0, .int .u8 0, .int .u8 0, .int .u8 0, .int .u8 0, .int .u8 0, .int .u8 0, .int .u8 0] 24)).alloc (.cells #[.int .i64 6, .int .u8 0, .int .u8 0, .int .u8 0, .int .u8 0, .int .u8 0, .int .u8 0, .int .u8 0, .int .u8 0, .int .u8 0, .int .u8 0, .int .u8 0, .int .u8 0, .int .u8 0, .int .u8 0, .int .u8 0, .int .u8 0] 24)) = W at *
  clear e1 e2
  have HA := Lib.hid hA2
  have HR := Lib.hid hR2
  have HP := Lib.hid hP
  clear hA2 hR2 hP
  go_loopw [4] (fun i wr => ∃ (k : Nat) (l : List Nat), k ≤ 8 ∧ i = .int .i64 k ∧ Hid (Arr8 wr w.heap.size gs) ∧ Hid (AddrAt wr (w.heap.size + 1) 0 (List.replicate 16 0)) ∧ Hid (AddrAt wr (w.heap.size + 1 + 1) 6 l) ∧ Hid (l = byL (gs.take k) ++ List.replicate (16 - 2 * k) 0) ∧ Below w.heap.size w wr) (fun i _ => 8 - (intOf i).toNat)
  case atStart => exact ⟨0, _, by decide, rfl, HA, HR, HP, Lib.hid rfl, b3⟩
  case round =>
    obtain ⟨k, l, hk, rfl, HA2, HR2, HP2, HL, hbel⟩ := hrel
    by_cases hk8 : k < 8
    · have hcell := HA2.out.cells k hk8
      have hx : gs.getD k 0 < 65536 := by
        rw [List.getD_eq_getElem?_getD, List.getElem?_eq_getElem (by rw [H8.out]; exact hk8)]
        exact HLT.out _ (List.getElem_mem _)
      have et : gs.take (k + 1) = gs.take k ++ [gs.getD k 0] := by
        rw [List.take_add_one, List.getD_eq_getElem?_getD, List.getElem?_eq_getElem (by rw [H8.out]; exact hk8)]; rfl
      obtain ⟨x, ex⟩ : ∃ x, gs.getD k 0 = x := ⟨_, rfl⟩
      rw [ex] at hcell hx et
      obtain ⟨c, hc, ec⟩ : ∃ c : Nat, 2 * k = c ∧ (2 : Int) * (k : Int) = (c : Int) := ⟨_, rfl, by omega⟩
      obtain ⟨hi, hhi, ehi⟩ : ∃ hi : Nat, x / 256 = hi ∧ (x : Int) / 256 = (hi : Int) := ⟨_, rfl, by omega⟩
      obtain ⟨lo, hlo, elo⟩ : ∃ lo : Nat, x % 256 = lo ∧ (x : Int) % 256 = (lo : Int) := ⟨_, rfl, by omega⟩
      have whi : IntKind.u8.wrap (hi : Int) = (hi : Int) := by rw [IntKind.wrap_u8]; omega
      have wlo : IntKind.u8.wrap (lo : Int) = (lo : Int) := by rw [IntKind.wrap_u8]; omega
      have hc15 : c + 1 < 16 := by omega
      have c1 : (c : Int) < 16 := by omega
      have c2 : (c : Int) + 1 < 16 := by omega
      have k1 : (k : Int) < 8 := by omega
      have hp0 := HP2.out.cells c (by omega)
      have hl0 := HP2.out.live (1 + c) (by omega)
      have hcell2 := (HA2.out.other (B' := w.heap.size + 1 + 1) (k := 1 + c) (by omega) (.int .u8 (hi : Int))).cells k hk8
      rw [ex] at hcell2
      have HP3 := Lib.hid (HP2.out.set (i := c) (by omega) hi)
      have hp1 := HP3.out.cells (c + 1) (by omega)
      have hl1 := HP3.out.live (1 + (c + 1)) (by omega)
      have HS := Lib.hid (HP3.out.set (i := c + 1) (by omega) lo)
      have HE : Hid (((l.set c hi).set (c + 1) lo) = byL (gs.take (k + 1)) ++ List.replicate (16 - 2 * (k + 1)) 0) := Lib.hid (by
        rw [HL.out, et, byL_snoc, ← hc, ← hhi, ← hlo]
        exact set_two _ k _ _ hk8 (by rw [byL_len, List.length_take, H8.out]; omega))
      generalize l.getD c 0 = o0 at hp0
      generalize (l.set c hi).getD (c + 1) 0 = o1 at hp1
      clear ex et hc hhi hlo
      go_wp2_with fail
      go_roundw
      case rel => exact ⟨k + 1, (l.set c hi).set (c + 1) lo, by omega, by go_num, Lib.hid ((HA2.out.other (by omega) _).other (by omega) _), Lib.hid ((HR2.out.other (by omega) _).other (by omega) _), HS, HE, (hbel.setCell (p := ⟨w.heap.size + 1 + 1, 1 + c, none⟩) (by show w.heap.size ≤ w.heap.size + 1 + 1; omega) _).setCell (p := ⟨w.heap.size + 1 + 1, 1 + (c + 1), none⟩) (by show w.heap.size ≤ w.heap.size + 1 + 1; omega) _⟩
      case measure => simp [intOf]; omega
    · obtain rfl : k = 8 := by omega
      have hll : l = byL gs := by rw [HL.out, List.take_of_length_le (by rw [H8.out]; exact Nat.le_refl _)]; simp
      subst hll
      have HLN : Hid ((byL gs).length = 16) := Lib.hid HP2.out.len
      go_wp2_with (first | refine load_addr HP2 _ rfl rfl rfl ?_ | (refine store_addr HR2 _ _ HLN rfl rfl rfl rfl (fun W HW HA => ?_)))
      refine bodyPost_ret (v := addrV 6 (byL gs)) (results_addr Tryd.results58 rfl HA.out) rfl ⟨rfl, by rw [HW.out]; exact below_cells (by omega) _ _ _ hbel⟩
end Go.Proofs.YtpgjkeakhjnckaaDoor
/- Contracts of the reference's Map, Unmap, Good of layer 4. -/
namespace Go.Proofs.YtpgjkeakhjnckaaDoor
open Go.RowKit
set_option linter.unusedVariables false
set_option maxRecDepth 20000

/-- The groups of a mapped one. -/
def map8 (n : Nat) : List Nat := [0, 0, 0, 0, 0, 65535, n / 65536, n % 65536]
theorem map8_lt (n : Nat) (h : n ≤ 4294967295) : ∀ x ∈ map8 n, x < 65536 := by
  intro x hx
  simp [map8] at hx
  omega
def mapF (f : Int) : Int := if f = 4 then 6 else f
def mapB (f : Int) (bs : List Nat) : List Nat := if f = 4 then byL (map8 (fourB bs)) else bs
theorem fourB_le (bs : List Nat) (h : ∀ x ∈ bs, x < 256) : fourB bs ≤ 4294967295 := Nat.le_of_lt_succ (fourTo_lt bs h 4)
end Go.Proofs.YtpgjkeakhjnckaaDoor
/- Contract of the reference's Good of layer 4. -/
namespace Go.Proofs.YtpgjkeakhjnckaaDoor
open Go.RowKit
set_option linter.unusedVariables false
set_option maxRecDepth 20000

def goodF (f : Int) : Int := if f.tmod 2 = 0 then 4 else 6
def goodB (f : Int) (bs : List Nat) : List Nat := if f.tmod 2 = 0 then b4 (fourB bs) else bs
theorem tmod_two (f : Int) : f.tmod 2 = 0 ∨ f.tmod 2 = 1 ∨ f.tmod 2 = -1 := by have := Int.tmod_two_eq f; omega
set_option maxRecDepth 100000 in
set_option maxHeartbeats 1000000 in
theorem refGood_any (f : Int) (bs : List Nat) (w : World) (h16 : bs.length = 16) (hlt : ∀ x ∈ bs, x < 256) :
    Calls Tryd.prog 9 #[addrV f bs] w fun e w' => e = .returned (addrV (goodF f) (goodB f bs)) ∧ Below w.heap.size w w' := by
  have H16 := Lib.hid h16
  have HF := fun W => Lib.hid (refFour_any f bs W h16 hlt)
  have HO := fun W => Lib.hid (refOf4_any (fourB bs) W (fourB_le bs hlt))
  obtain ⟨y0, y1, y2, y3, y4, y5, y6, y7, y8, y9, y10, y11, y12, y13, y14, y15, hbs⟩ := list16 bs h16
  have ha : addrV f bs = .agg #[.int .i64 f, .int .u8 (y0 : Int), .int .u8 (y1 : Int), .int .u8 (y2 : Int), .int .u8 (y3 : Int), .int .u8 (y4 : Int), .int .u8 (y5 : Int), .int .u8 (y6 : Int), .int .u8 (y7 : Int), .int .u8 (y8 : Int), .int .u8 (y9 : Int), .int .u8 (y10 : Int), .int .u8 (y11 : Int), .int .u8 (y12 : Int), .int .u8 (y13 : Int), .int .u8 (y14 : Int), .int .u8 (y15 : Int)] := by rw [hbs]; rfl
  have hA := AddrAt.new w 24 f y0 y1 y2 y3 y4 y5 y6 y7 y8 y9 y10 y11 y12 y13 y14 y15
  rw [← hbs] at hA
  have hR := AddrAt.of (w.alloc (.cells #[.int .i64 f, .int .u8 (y0 : Int), .int .u8 (y1 : Int), .int .u8 (y2 : Int), .int .u8 (y3 : Int), .int .u8 (y4 : Int), .int .u8 (y5 : Int), .int .u8 (y6 : Int), .int .u8 (y7 : Int), .int .u8 (y8 : Int), .int .u8 (y9 : Int), .int .u8 (y10 : Int), .int .u8 (y11 : Int), .int .u8 (y12 : Int), .int .u8 (y13 : Int), .int .u8 (y14 : Int), .int .u8 (y15 : Int)] 24)) 24 #[.int .i64 0, .int .u8 0, .int .u8 0, .int .u8 0, .int .u8 0, .int .u8 0, .int .u8 0, .int .u8 0, .int .u8 0, .int .u8 0, .int .u8 0, .int .u8 0, .int .u8 0, .int .u8 0, .int .u8 0, .int .u8 0, .int .u8 0] 0 (List.replicate 16 0) rfl (zero_addr 0)
  have b1 : Below w.heap.size w (w.alloc (.cells #[.int .i64 f, .int .u8 (y0 : Int), .int .u8 (y1 : Int), .int .u8 (y2 : Int), .int .u8 (y3 : Int), .int .u8 (y4 : Int), .int .u8 (y5 : Int), .int .u8 (y6 : Int), .int .u8 (y7 : Int), .int .u8 (y8 : Int), .int .u8 (y9 : Int), .int .u8 (y10 : Int), .int .u8 (y11 : Int), .int .u8 (y12 : Int), .int .u8 (y13 : Int), .int .u8 (y14 : Int), .int .u8 (y15 : Int)] 24)) := (Below.refl _ _).alloc (Nat.le_refl _) _
  have HB := Lib.hid (b1.alloc b1.size (.cells #[.int .i64 0, .int .u8 0, .int .u8 0, .int .u8 0, .int .u8 0, .int .u8 0, .int .u8 0, .int .u8 0, .int .u8 0, .int .u8 0, .int .u8 0, .int .u8 0, .int .u8 0, .int .u8 0, .int .u8 0, .int .u8 0, .int .u8 0] 24))
  have e1 : (w.alloc (.cells #[.int .i64 f, .int .u8 (y0 : Int), .int .u8 (y1 : Int), .int .u8 (y2 : Int), .int .u8 (y3 : Int), .int .u8 (y4 : Int), .int .u8 (y5 : Int), .int .u8 (y6 : Int), .int .u8 (y7 : Int), .int .u8 (y8 : Int), .int .u8 (y9 : Int), .int .u8 (y10 : Int), .int .u8 (y11 : Int), .int .u8 (y12 : Int), .int .u8 (y13 : Int), .int .u8 (y14 : Int), .int .u8 (y15 : Int)] 24)).heap.size = w.heap.size + 1 := by simp
  rw [e1] at hR
  have HP2 := Lib.hid (hA.below ((Below.refl _ _).alloc (Nat.le_refl _) (.cells #[.int .i64 0, .int .u8 0, .int .u8 0, .int .u8 0, .int .u8 0, .int .u8 0, .int .u8 0, .int .u8 0, .int .u8 0, .int .u8 0, .int .u8 0, .int .u8 0, .int .u8 0, .int .u8 0, .int .u8 0, .int .u8 0, .int .u8 0] 24)))
  have HR2 := Lib.hid hR
  rw [ha]
  clear hR hA b1 ha hbs h16 hlt e1
  by_cases h2 : f.tmod 2 = 0
  · rw [show goodF f = 4 from if_pos h2, show goodB f bs = b4 (fourB bs) from if_pos h2]
    go_enter Tryd.func9, Tryd.ntmps9
    go_upto_if 6 with fail
    generalize ((w.alloc (.cells #[.int .i64 f, .int .u8 (y0 : Int), .int .u8 (y1 : Int), .int .u8 (y2 : Int), .int .u8 (y3 : Int), .int .u8 (y4 : Int), .int .u8 (y5 : Int), .int .u8 (y6 : Int), .int .u8 (y7 : Int), .int .u8 (y8 : Int), .int .u8 (y9 : Int), .int .u8 (y10 : Int), .int .u8 (y11 : Int), .int .u8 (y12 : Int), .int .u8 (y13 : Int), .int .u8 (y14 : Int), .int .u8 (y15 : Int)] 24)).alloc (.cells #[.int .i64 0, .int .u8 0, .int .u8 0, .int .u8 0, .int .u8 0, .int .u8 0, .int .u8 0, .int .u8 0, .int .u8 0, .int .u8 0, .int .u8 0, .int .u8 0, .int .u8 0, .int .u8 0, .int .u8 0, .int .u8 0, .int .u8 0] 24)) = W at *
    go_wp2_with (refine load_addr HP2 _ rfl rfl rfl ?_)
    refine (HF W).out.mono ?_
    rintro e w1 ⟨rfl, hb1⟩
    go_wp2_with fail
    refine (HO w1).out.mono ?_
    rintro e w2 ⟨rfl, hb2⟩
    have HR3 := Lib.hid ((HR2.out.below hb1).below hb2)
    have hbel := chain (chain HB.out hb1) hb2
    have HLN := Lib.hid (b4_len (fourB bs))
    clear HR2 HB hb1 hb2 HP2
    go_wp2_with (refine store_addr HR3 _ _ HLN rfl rfl rfl rfl (fun W HW HA => ?_))
    refine bodyPost_ret (v := addrV 4 (b4 (fourB bs))) (results_addr Tryd.results9 rfl HA.out) rfl ⟨rfl, by rw [HW.out]; exact below_cells (by omega) _ _ _ hbel⟩
  · rw [show goodF f = 6 from if_neg h2, show goodB f bs = bs from if_neg h2]
    have h3 : f.tmod 2 = 1 ∨ f.tmod 2 = -1 := (tmod_two f).resolve_left h2
    clear h2 HF HO
    rcases h3 with h3 | h3
    · go_enter Tryd.func9, Tryd.ntmps9
      go_upto_if 6 with fail
      generalize ((w.alloc (.cells #[.int .i64 f, .int .u8 (y0 : Int), .int .u8 (y1 : Int), .int .u8 (y2 : Int), .int .u8 (y3 : Int), .int .u8 (y4 : Int), .int .u8 (y5 : Int), .int .u8 (y6 : Int), .int .u8 (y7 : Int), .int .u8 (y8 : Int), .int .u8 (y9 : Int), .int .u8 (y10 : Int), .int .u8 (y11 : Int), .int .u8 (y12 : Int), .int .u8 (y13 : Int), .int .u8 (y14 : Int), .int .u8 (y15 : Int)] 24)).alloc (.cells #[.int .i64 0, .int .u8 0, .int .u8 0, .int .u8 0, .int .u8 0, .int .u8 0, .int .u8 0, .int .u8 0, .int .u8 0, .int .u8 0, .int .u8 0, .int .u8 0, .int .u8 0, .int .u8 0, .int .u8 0, .int .u8 0, .int .u8 0] 24)) = W at *
      have hfam := HP2.out.fam
      have hl0 := HP2.out.live 0 (by decide)
      have HP3 := Lib.hid (HP2.out.setFam 6)
      have HR3 := Lib.hid (HR2.out.other (G' := w.heap.size) (i := 0) (by omega) (.int .i64 6))
      have hbel := HB.out.setCell (p := ⟨w.heap.size, 0, none⟩) (Nat.le_refl _) (.int .i64 6)
      go_wp2_with (first | refine load_addr HP3 _ rfl rfl rfl ?_ | (refine store_addr HR3 _ _ H16 rfl rfl rfl rfl (fun W HW HA => ?_)))
      refine bodyPost_ret (v := addrV 6 bs) (results_addr Tryd.results9 rfl HA.out) rfl ⟨rfl, by rw [HW.out]; exact below_cells (by omega) _ _ _ hbel⟩
    · go_enter Tryd.func9, Tryd.ntmps9
      go_upto_if 6 with fail
      generalize ((w.alloc (.cells #[.int .i64 f, .int .u8 (y0 : Int), .int .u8 (y1 : Int), .int .u8 (y2 : Int), .int .u8 (y3 : Int), .int .u8 (y4 : Int), .int .u8 (y5 : Int), .int .u8 (y6 : Int), .int .u8 (y7 : Int), .int .u8 (y8 : Int), .int .u8 (y9 : Int), .int .u8 (y10 : Int), .int .u8 (y11 : Int), .int .u8 (y12 : Int), .int .u8 (y13 : Int), .int .u8 (y14 : Int), .int .u8 (y15 : Int)] 24)).alloc (.cells #[.int .i64 0, .int .u8 0, .int .u8 0, .int .u8 0, .int .u8 0, .int .u8 0, .int .u8 0, .int .u8 0, .int .u8 0, .int .u8 0, .int .u8 0, .int .u8 0, .int .u8 0, .int .u8 0, .int .u8 0, .int .u8 0, .int .u8 0] 24)) = W at *
      have hfam := HP2.out.fam
      have hl0 := HP2.out.live 0 (by decide)
      have HP3 := Lib.hid (HP2.out.setFam 6)
      have HR3 := Lib.hid (HR2.out.other (G' := w.heap.size) (i := 0) (by omega) (.int .i64 6))
      have hbel := HB.out.setCell (p := ⟨w.heap.size, 0, none⟩) (Nat.le_refl _) (.int .i64 6)
      go_wp2_with (first | refine load_addr HP3 _ rfl rfl rfl ?_ | (refine store_addr HR3 _ _ H16 rfl rfl rfl rfl (fun W HW HA => ?_)))
      refine bodyPost_ret (v := addrV 6 bs) (results_addr Tryd.results9 rfl HA.out) rfl ⟨rfl, by rw [HW.out]; exact below_cells (by omega) _ _ _ hbel⟩
end Go.Proofs.YtpgjkeakhjnckaaDoor
/- The digits of a number in a base, as the statement TextBases lays them, are read as the number; and the contract of the reference's Around. -/
namespace Go.Proofs.YtpgjkeakhjnckaaDoor
open Go.RowKit
set_option linter.unusedVariables false
set_option maxRecDepth 20000

def hexd (d : Nat) : UInt8 := if d < 10 then UInt8.ofNat (48 + d) else UInt8.ofNat (87 + d)
theorem digC_hexd (d : Nat) (h : d < 16) : digC (hexd d).toNat = d := by
  unfold hexd
  by_cases h1 : d < 10
  · rw [if_pos h1, UInt8.toNat_ofNat', Nat.mod_eq_of_lt (by omega)]
    unfold digC
    rw [if_pos (by omega)]
    omega
  · rw [if_neg h1, UInt8.toNat_ofNat', Nat.mod_eq_of_lt (by omega)]
    unfold digC
    rw [if_neg (by omega), if_pos (by omega)]
    omega
/-- The sixteen digits. -/
def hexs : ByteArray := { data := #[48, 49, 50, 51, 52, 53, 54, 55, 56, 57, 97, 98, 99, 100, 101, 102] }
theorem hexs_at (d : Nat) (h : d < 16) : hexs.extract d (d + 1) = { data := #[hexd d] } := by
  have hd : d = 0 ∨ d = 1 ∨ d = 2 ∨ d = 3 ∨ d = 4 ∨ d = 5 ∨ d = 6 ∨ d = 7 ∨ d = 8 ∨ d = 9 ∨ d = 10 ∨ d = 11 ∨ d = 12 ∨ d = 13 ∨ d = 14 ∨ d = 15 := by omega
  rcases hd with rfl | rfl | rfl | rfl | rfl | rfl | rfl | rfl | rfl | rfl | rfl | rfl | rfl | rfl | rfl | rfl <;> decide
/-- The lowest i digits of n. -/
def dstr (n b : Nat) : Nat → ByteArray
  | 0 => { data := #[] }
  | i + 1 => hexs.extract (n / b ^ i % b) (n / b ^ i % b + 1) ++ dstr n b i
theorem dstr_list (n b : Nat) (hb0 : 0 < b) (hb : b ≤ 16) (i : Nat) : (dstr n b (i + 1)).data.toList = hexd (n / b ^ i % b) :: (dstr n b i).data.toList := by
  have := Nat.mod_lt (n / b ^ i) hb0
  rw [dstr, hexs_at _ (by omega), data_append]
  rfl
theorem dstr_size (n b : Nat) (hb0 : 0 < b) (hb : b ≤ 16) : ∀ i, (dstr n b i).size = i
  | 0 => rfl
  | i + 1 => by
    have h := congrArg List.length (dstr_list n b hb0 hb i)
    have ih := dstr_size n b hb0 hb i
    simp at h
    omega
theorem dstr_byte (n b : Nat) (hb0 : 0 < b) (hb : b ≤ 16) : ∀ i k, k < i → byteOf (dstr n b i) k = (hexd (n / b ^ (i - 1 - k) % b)).toNat
  | 0, k, h => by omega
  | i + 1, 0, h => by
    unfold byteOf
    rw [dstr_list n b hb0 hb i]
    simp
  | i + 1, k + 1, h => by
    have ih := dstr_byte n b hb0 hb i k (by omega)
    unfold byteOf at ih ⊢
    rw [dstr_list n b hb0 hb i, show i + 1 - 1 - (k + 1) = i - 1 - k by omega, ← ih]
    rfl
theorem dstr_numTo (n b : Nat) (hb0 : 2 ≤ b) (hb : b ≤ 16) (hn : n ≤ most) (hlt : n < b ^ 14) : ∀ k, k ≤ 14 → numTo (dstr n b 14) b k = some (n / b ^ (14 - k))
  | 0, _ => by rw [numTo, Nat.sub_zero, Nat.div_eq_of_lt hlt]
  | k + 1, h => by
    rw [numTo, dstr_numTo n b hb0 hb hn hlt k (by omega), dstr_byte n b (by omega) hb 14 k (by omega), show 14 - 1 - k = 13 - k by omega, show 14 - (k + 1) = 13 - k by omega]
    have hm : n / b ^ (13 - k) % b < b := Nat.mod_lt _ (by omega)
    rw [digC_hexd _ (by omega)]
    have e : n / b ^ (14 - k) * b + n / b ^ (13 - k) % b = n / b ^ (13 - k) := by
      rw [show 14 - k = (13 - k) + 1 by omega, Nat.pow_succ, ← Nat.div_div_eq_div_mul, Nat.mul_comm]
      exact Nat.div_add_mod _ _
    have hle : n / b ^ (13 - k) ≤ n := Nat.div_le_self _ _
    simp only [e]
    rw [if_neg (by omega), if_neg (by omega)]
theorem dstr_num (n b : Nat) (hb0 : 2 ≤ b) (hb : b ≤ 16) (hn : n ≤ most) (hlt : n < b ^ 14) : numB (dstr n b 14) b = some n := by
  unfold numB
  rw [dstr_size n b (by omega) hb, if_neg (by omega), dstr_numTo n b hb0 hb hn hlt 14 (Nat.le_refl _)]
  simp
theorem num_bad (s : ByteArray) (b j : Nat) (hj : j < s.size) (h : b ≤ digC (byteOf s j)) : numB s b = none := by
  apply numB_dead hj
  rw [numTo]
  cases numTo s b j with
  | none => rfl
  | some n => simp only [if_pos h]
theorem num_behind (s X : ByteArray) (b : Nat) (hb : b ≤ 16) (hX : X.data.toList = [103]) : numB (s ++ X) b = none := by
  apply num_bad _ _ s.size
  · rw [ByteArray.size_append]
    have : X.data.toList.length = 1 := by rw [hX]; rfl
    simp at this
    omega
  · have e : byteOf (s ++ X) s.size = 103 := by
      unfold byteOf
      rw [data_append, hX, List.getD_eq_getElem?_getD, List.getElem?_append_right (by simp)]
      simp
    rw [e]
    have : digC 103 = 16 := by decide
    omega
theorem num_ahead (s X : ByteArray) (b : Nat) (hb : b ≤ 16) (hX : X.data.toList = [45]) : numB (X ++ s) b = none := by
  apply num_bad _ _ 0
  · rw [ByteArray.size_append]
    have : X.data.toList.length = 1 := by rw [hX]; rfl
    simp at this
    omega
  · have e : byteOf (X ++ s) 0 = 45 := by
      unfold byteOf
      rw [data_append, hX]
      rfl
    rw [e]
    have : digC 45 = 16 := by decide
    omega

theorem numRet_some (n : Nat) : numRet (some n) = .tuple #[.int .i64 (n : Int), .bool true] := rfl
theorem numRet_none : numRet none = .tuple #[.int .i64 0, .bool false] := rfl

/-- A number, from 0 on, modulo q. -/
def aroundN (n : Int) (q : Nat) : Nat := (if n < 0 then -(n + 1) else n).toNat % q
theorem aroundN_lt (n : Int) (q : Nat) (h : 0 < q) : aroundN n q < q := Nat.mod_lt _ h

set_option maxHeartbeats 400000 in
theorem around_any (n : Int) (q : Nat) (w : World) (hn : (Lit.int .i64 n).wf = true) (hq : 0 < q) (hq2 : q ≤ 4611686018427387904) :
    Calls Tryd.prog 31 #[.int .i64 n, .int .i64 (q : Int)] w fun e w' => e = .returned (.int .i64 ((aroundN n q : Nat) : Int)) ∧ w = w' := by
  have hb := bounds_i64 hn
  by_cases h : n < 0
  · obtain ⟨m, hm⟩ : ∃ m : Nat, -(n + 1) = (m : Int) := ⟨(-(n + 1)).toNat, by omega⟩
    have e : aroundN n q = m % q := by unfold aroundN; rw [if_pos h, hm]; rfl
    rw [e]
    go_enter Tryd.func31, Tryd.ntmps31
    go_wp2
    go_ret
    exact ⟨by first | rfl | simp, rfl⟩
  · obtain ⟨m, rfl⟩ : ∃ m : Nat, n = (m : Int) := ⟨n.toNat, by omega⟩
    have e : aroundN m q = m % q := by unfold aroundN; rw [if_neg h]; rfl
    rw [e]
    go_enter Tryd.func31, Tryd.ntmps31
    go_wp2
    go_ret
    exact ⟨by first | rfl | simp, rfl⟩
end Go.Proofs.YtpgjkeakhjnckaaDoor
/- Contracts of the reference's Mask and Good of layer 5. -/
namespace Go.Proofs.YtpgjkeakhjnckaaDoor
open Go.RowKit
set_option linter.unusedVariables false
set_option maxRecDepth 20000

/-- How many bits a mask keeps. -/
def maskN (f : Int) (n : Int) : Nat := min n.toNat (bitsN f)
theorem maskN_le (f n : Int) : maskN f n ≤ bitsN f := Nat.min_le_right _ _
theorem maskN_max (f n : Int) : min (max n 0) (bitsN f : Int) = (maskN f n : Int) := by unfold maskN; omega
set_option maxRecDepth 100000 in
set_option maxHeartbeats 2000000 in
theorem refMask_any (f : Int) (bs : List Nat) (n : Int) (w : World) (h16 : bs.length = 16) (hlt : ∀ x ∈ bs, x < 256) (hn : (Lit.int .i64 n).wf = true) :
    Calls Tryd.prog 13 #[addrV f bs, .int .i64 n] w fun e w' => e = .returned (prefV f (withL (bitsN f) bs (maskN f n) 0) (maskN f n)) ∧ Below w.heap.size w w' := by
  have H16 := Lib.hid h16
  have HN := bitsN_le f
  have hmN := maskN_le f n
  have HM := Lib.hid (maskN_max f n)
  have HBI := fun W => Lib.hid (refBits_any f bs W h16)
  have HWI := fun W => Lib.hid (refWith_any f bs (maskN f n) 0 W h16 hlt (by omega) (by decide))
  have HLN : Hid ((withL (bitsN f) bs (maskN f n) 0).length = 16) := Lib.hid (withL_len _ _ _ _)
  obtain ⟨cs, ecs, HA, HB⟩ := addr_boxed f bs w h16
  have HR := pref_zeroed (w.alloc (.cells cs 24))
  rw [heap_alloc] at HR
  have HRH := Lib.hid HR
  have HA1 := Lib.hid (HA.out.alloc (.cells zP 26))
  have HB1 := Lib.hid (HB.out.alloc HB.out.size (.cells zP 26))
  rw [ecs]
  generalize withL (bitsN f) bs (maskN f n) 0 = R at *
  generalize maskN f n = m at *
  generalize bitsN f = N at *
  clear ecs h16 hlt HA HB HR
  go_enter Tryd.func13, Tryd.ntmps13
  go_upto_region 1 with fail
  generalize ((w.alloc (.cells cs 24)).alloc (.cells zP 26)) = W at *
  go_cut [5] from 6 (fun s5 wx => s5 = .int .i64 (m : Int) ∧ Hid (AddrAt wx w.heap.size f bs) ∧ Hid (PrefAt wx (w.heap.size + 1) 0 (List.replicate 16 0) 0) ∧ Hid (Below w.heap.size w wx))
  case first =>
    have hm := HM.out
    have hb := bounds_i64 hn
    obtain ⟨h, e⟩ | ⟨h, h', e⟩ | ⟨h, h', e⟩ : (n < 0 ∧ (m : Int) = 0) ∨ (¬ n < 0 ∧ n ≤ (N : Int) ∧ (m : Int) = n) ∨ (¬ n < 0 ∧ (N : Int) < n ∧ (m : Int) = (N : Int)) := by omega
    all_goals
      clear hm
      have HE := Lib.hid e
      clear e
      go_wp2_with (refine load_addr_g HA1 _ rfl rfl rfl ?_)
      refine (HBI _).out.mono ?_
      rintro e w1 ⟨rfl, hb1⟩
      have HA2 := Lib.hid (HA1.out.below hb1)
      have HR2 := Lib.hid (HRH.out.below hb1)
      have HB2 := Lib.hid (chain HB1.out hb1)
      clear HA1 HRH HB1 hb1
      go_wp2_with fail
      all_goals
        go_meet
        case rel => exact ⟨by have := HE.out; congr 1; omega, HA2, HR2, HB2⟩
  case rest =>
    obtain ⟨rfl, HA2, HR2, HB2⟩ := hcut
    clear HA1 HRH HB1 HBI
    go_wp2_with (refine load_addr_g HA2 _ rfl rfl rfl ?_)
    refine (HWI _).out.mono ?_
    rintro e w1 ⟨rfl, hb1⟩
    have HR3 := Lib.hid (HR2.out.below hb1)
    have HB3 := Lib.hid (chain HB2.out hb1)
    clear HA2 HR2 HB2 hb1 HWI
    go_wp2_with (first | refine build_pref HLN rfl _ _ rfl rfl rfl ?_ | refine store_pref HR3 _ _ HLN rfl rfl rfl rfl (fun W HW HP => ?_))
    refine bodyPost_ret (v := prefV f R m) (results_pref Tryd.results13 rfl HP.out) rfl ⟨rfl, by rw [HW.out]; exact below_cells (by omega) _ _ _ HB3.out⟩
end Go.Proofs.YtpgjkeakhjnckaaDoor
/- Contract of the reference's Compare of layer 4. -/
namespace Go.Proofs.YtpgjkeakhjnckaaDoor
open Go.RowKit
set_option linter.unusedVariables false
set_option maxRecDepth 20000

/-- Which of two rows of bytes comes first. -/
def cmpL : List Nat → List Nat → Int
  | x :: xs, y :: ys => if x < y then -1 else if y < x then 1 else cmpL xs ys
  | _, _ => 0
/-- The row of addresses. -/
def cmpA (f : Int) (xs : List Nat) (g : Int) (ys : List Nat) : Int := if f = g then cmpL xs ys else if f < g then -1 else 1
theorem cmpL_at (xs ys : List Nat) (k : Nat) (hx : xs.length = 16) (hy : ys.length = 16) (hk : k < 16) :
    cmpL (xs.drop k) (ys.drop k) = if xs.getD k 0 < ys.getD k 0 then -1 else if ys.getD k 0 < xs.getD k 0 then 1 else cmpL (xs.drop (k + 1)) (ys.drop (k + 1)) := by
  rw [List.drop_eq_getElem_cons (show k < xs.length by omega), List.drop_eq_getElem_cons (show k < ys.length by omega), cmpL, List.getD_eq_getElem?_getD, List.getD_eq_getElem?_getD, List.getElem?_eq_getElem (by omega), List.getElem?_eq_getElem (by omega)]
  rfl
theorem cmpL_end (xs ys : List Nat) (hx : xs.length = 16) : cmpL (xs.drop 16) (ys.drop 16) = 0 := by
  rw [List.drop_eq_nil_of_le (by omega)]
  rfl
set_option maxRecDepth 100000 in
set_option maxHeartbeats 2000000 in
theorem refCompare_any (f : Int) (xs : List Nat) (g : Int) (ys : List Nat) (w : World) (h16x : xs.length = 16) (h16 : ys.length = 16) :
    Calls Tryd.prog 24 #[addrV f xs, addrV g ys] w fun e w' => e = .returned (.int .i64 (cmpA f xs g ys)) ∧ Below w.heap.size w w' := by
  have HX := Lib.hid h16x
  have HY := Lib.hid h16
  obtain ⟨x0, x1, x2, x3, x4, x5, x6, x7, x8, x9, x10, x11, x12, x13, x14, x15, hxs⟩ := list16 xs h16x
  have ha : addrV f xs = .agg #[.int .i64 f, .int .u8 (x0 : Int), .int .u8 (x1 : Int), .int .u8 (x2 : Int), .int .u8 (x3 : Int), .int .u8 (x4 : Int), .int .u8 (x5 : Int), .int .u8 (x6 : Int), .int .u8 (x7 : Int), .int .u8 (x8 : Int), .int .u8 (x9 : Int), .int .u8 (x10 : Int), .int .u8 (x11 : Int), .int .u8 (x12 : Int), .int .u8 (x13 : Int), .int .u8 (x14 : Int), .int .u8 (x15 : Int)] := by rw [hxs]; rfl
  obtain ⟨y0, y1, y2, y3, y4, y5, y6, y7, y8, y9, y10, y11, y12, y13, y14, y15, hys⟩ := list16 ys h16
  have hb : addrV g ys = .agg #[.int .i64 g, .int .u8 (y0 : Int), .int .u8 (y1 : Int), .int .u8 (y2 : Int), .int .u8 (y3 : Int), .int .u8 (y4 : Int), .int .u8 (y5 : Int), .int .u8 (y6 : Int), .int .u8 (y7 : Int), .int .u8 (y8 : Int), .int .u8 (y9 : Int), .int .u8 (y10 : Int), .int .u8 (y11 : Int), .int .u8 (y12 : Int), .int .u8 (y13 : Int), .int .u8 (y14 : Int), .int .u8 (y15 : Int)] := by rw [hys]; rfl
  rw [ha, hb]
  have hA := AddrAt.new w 24 f x0 x1 x2 x3 x4 x5 x6 x7 x8 x9 x10 x11 x12 x13 x14 x15
  rw [← hxs] at hA
  have hB := AddrAt.new (w.alloc (.cells #[.int .i64 f, .int .u8 (x0 : Int), .int .u8 (x1 : Int), .int .u8 (x2 : Int), .int .u8 (x3 : Int), .int .u8 (x4 : Int), .int .u8 (x5 : Int), .int .u8 (x6 : Int), .int .u8 (x7 : Int), .int .u8 (x8 : Int), .int .u8 (x9 : Int), .int .u8 (x10 : Int), .int .u8 (x11 : Int), .int .u8 (x12 : Int), .int .u8 (x13 : Int), .int .u8 (x14 : Int), .int .u8 (x15 : Int)] 24)) 24 g y0 y1 y2 y3 y4 y5 y6 y7 y8 y9 y10 y11 y12 y13 y14 y15
  rw [← hys] at hB
  have e1 : (w.alloc (.cells #[.int .i64 f, .int .u8 (x0 : Int), .int .u8 (x1 : Int), .int .u8 (x2 : Int), .int .u8 (x3 : Int), .int .u8 (x4 : Int), .int .u8 (x5 : Int), .int .u8 (x6 : Int), .int .u8 (x7 : Int), .int .u8 (x8 : Int), .int .u8 (x9 : Int), .int .u8 (x10 : Int), .int .u8 (x11 : Int), .int .u8 (x12 : Int), .int .u8 (x13 : Int), .int .u8 (x14 : Int), .int .u8 (x15 : Int)] 24)).heap.size = w.heap.size + 1 := by simp
  rw [e1] at hB
  have b1 : Below w.heap.size w (w.alloc (.cells #[.int .i64 f, .int .u8 (x0 : Int), .int .u8 (x1 : Int), .int .u8 (x2 : Int), .int .u8 (x3 : Int), .int .u8 (x4 : Int), .int .u8 (x5 : Int), .int .u8 (x6 : Int), .int .u8 (x7 : Int), .int .u8 (x8 : Int), .int .u8 (x9 : Int), .int .u8 (x10 : Int), .int .u8 (x11 : Int), .int .u8 (x12 : Int), .int .u8 (x13 : Int), .int .u8 (x14 : Int), .int .u8 (x15 : Int)] 24)) := (Below.refl _ _).alloc (Nat.le_refl _) _
  have B0 := Lib.hid (b1.alloc b1.size (.cells #[.int .i64 g, .int .u8 (y0 : Int), .int .u8 (y1 : Int), .int .u8 (y2 : Int), .int .u8 (y3 : Int), .int .u8 (y4 : Int), .int .u8 (y5 : Int), .int .u8 (y6 : Int), .int .u8 (y7 : Int), .int .u8 (y8 : Int), .int .u8 (y9 : Int), .int .u8 (y10 : Int), .int .u8 (y11 : Int), .int .u8 (y12 : Int), .int .u8 (y13 : Int), .int .u8 (y14 : Int), .int .u8 (y15 : Int)] 24))
  have HA := Lib.hid (hA.below ((Below.refl _ _).alloc (Nat.le_refl _) (.cells #[.int .i64 g, .int .u8 (y0 : Int), .int .u8 (y1 : Int), .int .u8 (y2 : Int), .int .u8 (y3 : Int), .int .u8 (y4 : Int), .int .u8 (y5 : Int), .int .u8 (y6 : Int), .int .u8 (y7 : Int), .int .u8 (y8 : Int), .int .u8 (y9 : Int), .int .u8 (y10 : Int), .int .u8 (y11 : Int), .int .u8 (y12 : Int), .int .u8 (y13 : Int), .int .u8 (y14 : Int), .int .u8 (y15 : Int)] 24)))
  have HB := Lib.hid hB
  clear ha hb hxs hys h16 h16x hA hB b1 e1
  by_cases hfg : f = g
  · subst hfg
    have HC : Hid (cmpA f xs f ys = cmpL xs ys) := Lib.hid (if_pos rfl)
    go_enter Tryd.func24, Tryd.ntmps24
    go_wp2_with fail
    generalize ((w.alloc (.cells #[.int .i64 f, .int .u8 (x0 : Int), .int .u8 (x1 : Int), .int .u8 (x2 : Int), .int .u8 (x3 : Int), .int .u8 (x4 : Int), .int .u8 (x5 : Int), .int .u8 (x6 : Int), .int .u8 (x7 : Int), .int .u8 (x8 : Int), .int .u8 (x9 : Int), .int .u8 (x10 : Int), .int .u8 (x11 : Int), .int .u8 (x12 : Int), .int .u8 (x13 : Int), .int .u8 (x14 : Int), .int .u8 (x15 : Int)] 24)).alloc (.cells #[.int .i64 f, .int .u8 (y0 : Int), .int .u8 (y1 : Int), .int .u8 (y2 : Int), .int .u8 (y3 : Int), .int .u8 (y4 : Int), .int .u8 (y5 : Int), .int .u8 (y6 : Int), .int .u8 (y7 : Int), .int .u8 (y8 : Int), .int .u8 (y9 : Int), .int .u8 (y10 : Int), .int .u8 (y11 : Int), .int .u8 (y12 : Int), .int .u8 (y13 : Int), .int .u8 (y14 : Int), .int .u8 (y15 : Int)] 24)) = W at *
    have hbel0 := B0.out
    go_loopw [5] (fun i wr => ∃ k : Nat, k ≤ 16 ∧ i = .int .i64 (k : Int) ∧ Hid (cmpL xs ys = cmpL (xs.drop k) (ys.drop k)) ∧ Hid (AddrAt wr w.heap.size f xs) ∧ Hid (AddrAt wr (w.heap.size + 1) f ys) ∧ Below w.heap.size w wr) (fun i _ => 16 - (intOf i).toNat)
    case atStart => exact ⟨0, by decide, rfl, Lib.hid rfl, HA, HB, hbel0⟩
    case round =>
      obtain ⟨k, hk, rfl, HK, HA, HB, hbel⟩ := hrel
      by_cases hk16 : k < 16
      · have hca := HA.out.cells k hk16
        have hcb := HB.out.cells k hk16
        have k1 : (k : Int) < 16 := by omega
        have hz := cmpL_at xs ys k HX.out HY.out hk16
        rw [← HK.out] at hz
        generalize xs.getD k 0 = x at *
        generalize ys.getD k 0 = y at *
        by_cases hxy : x < y
        · rw [if_pos hxy] at hz
          have HZ := Lib.hid hz
          clear hz
          have o1 : (x : Int) < (y : Int) := by omega
          go_wp2_with fail
          go_region
          go_wp2_with fail
          go_ret
          exact ⟨by rw [HC.out, HZ.out]; rfl, hbel.drew⟩
        · by_cases hyx : y < x
          · rw [if_neg hxy, if_pos hyx] at hz
            have HZ := Lib.hid hz
            clear hz
            have o1 : ¬ ((x : Int) < (y : Int)) := by omega
            have o2 : (y : Int) < (x : Int) := by omega
            go_wp2_with fail
            go_region
            go_wp2_with fail
            go_region
            go_wp2_with fail
            go_ret
            exact ⟨by rw [HC.out, HZ.out]; rfl, hbel.drew.drew⟩
          · rw [if_neg hxy, if_neg hyx] at hz
            have HZ := Lib.hid hz
            clear hz
            obtain rfl : x = y := by omega
            have o1 : ¬ ((x : Int) < (x : Int)) := by omega
            go_wp2_with fail
            go_region
            go_wp2_with fail
            go_region
            go_wp2_with fail
            go_roundw
            case rel => exact ⟨k + 1, by omega, by go_num, HZ, Lib.hid ((HA.out.below (Below.refl _ _).drew).below (Below.refl _ _).drew), Lib.hid ((HB.out.below (Below.refl _ _).drew).below (Below.refl _ _).drew), hbel.drew.drew⟩
            case measure => simp [intOf]; omega
      · obtain rfl : k = 16 := by omega
        have HZ := Lib.hid (HK.out.trans (cmpL_end xs ys HX.out))
        go_wp2_with fail
        go_ret
        exact ⟨by rw [HC.out, HZ.out]; rfl, hbel⟩
  · have n1 : (f != g) = true := by simp [hfg]
    by_cases hl : f < g
    · have HC : Hid (cmpA f xs g ys = -1) := Lib.hid (by unfold cmpA; rw [if_neg hfg, if_pos hl])
      go_enter Tryd.func24, Tryd.ntmps24
      go_wp2_with fail
      go_ret
      exact ⟨by rw [HC.out]; rfl, B0.out⟩
    · have HC : Hid (cmpA f xs g ys = 1) := Lib.hid (by unfold cmpA; rw [if_neg hfg, if_neg hl])
      go_enter Tryd.func24, Tryd.ntmps24
      go_wp2_with fail
      go_ret
      exact ⟨by rw [HC.out]; rfl, B0.out⟩
end Go.Proofs.YtpgjkeakhjnckaaDoor
/- Contracts of cmp.Compare at ints, bytes.Compare at two rows of sixteen bytes, addr.Compare. -/
namespace Go.Proofs.YtpgjkeakhjnckaaDoor
open Go.RowKit
set_option linter.unusedVariables false
set_option maxRecDepth 20000

theorem isNaN_int (x : Int) (w : World) : Calls Tryd.prog 69 #[.int .i64 x] w fun e w' => e = .returned (.bool false) ∧ w = w' := by
  have h : (x != x) = false := by simp
  go_enter Tryd.func69, Tryd.ntmps69
  go_wp2
  go_ret
  exact ⟨rfl, rfl⟩
/-- Which of two numbers comes first. -/
def sgn3 (x y : Int) : Int := if x < y then -1 else if y < x then 1 else 0
theorem cmpInt_any (x y : Int) (w : World) : Calls Tryd.prog 49 #[.int .i64 x, .int .i64 y] w fun e w' => e = .returned (.int .i64 (sgn3 x y)) ∧ w = w' := by
  by_cases h1 : x < y
  · have HE : Hid (sgn3 x y = -1) := Lib.hid (if_pos h1)
    go_enter Tryd.func49, Tryd.ntmps49
    go_wp2_with (go_at_call 69; refine (isNaN_int _ _).mono ?_; rintro e w' ⟨rfl, rfl⟩)
    go_ret
    exact ⟨by rw [HE.out]; rfl, rfl⟩
  · by_cases h2 : y < x
    · have HE : Hid (sgn3 x y = 1) := Lib.hid (by unfold sgn3; rw [if_neg h1, if_pos h2])
      go_enter Tryd.func49, Tryd.ntmps49
      go_wp2_with (go_at_call 69; refine (isNaN_int _ _).mono ?_; rintro e w' ⟨rfl, rfl⟩)
      go_ret
      exact ⟨by rw [HE.out]; rfl, rfl⟩
    · have HE : Hid (sgn3 x y = 0) := Lib.hid (by unfold sgn3; rw [if_neg h1, if_neg h2])
      go_enter Tryd.func49, Tryd.ntmps49
      go_wp2_with (go_at_call 69; refine (isNaN_int _ _).mono ?_; rintro e w' ⟨rfl, rfl⟩)
      go_ret
      exact ⟨by rw [HE.out]; rfl, rfl⟩
theorem compare_nats : ∀ (xs ys : List Nat), xs.length = ys.length → (∀ x ∈ xs, x < 256) → (∀ x ∈ ys, x < 256) →
    Lib.compareBytes (Lib.bytesOf (xs.map fun n : Nat => (n : Int))) (Lib.bytesOf (ys.map fun n : Nat => (n : Int))) = cmpL xs ys
  | [], [], _, _, _ => rfl
  | [], _ :: _, h, _, _ => by cases h
  | _ :: _, [], h, _, _ => by cases h
  | x :: xs, y :: ys, h, hx, hy => by
    have ih := compare_nats xs ys (by simpa using h) (fun z hz => hx z (List.mem_cons_of_mem _ hz)) (fun z hz => hy z (List.mem_cons_of_mem _ hz))
    have hx0 := hx x (by simp)
    have hy0 := hy y (by simp)
    have o1 : (UInt8.ofNat x < UInt8.ofNat y) ↔ x < y := by rw [UInt8.lt_iff_toNat_lt]; simp; omega
    have o2 : (UInt8.ofNat y < UInt8.ofNat x) ↔ y < x := by rw [UInt8.lt_iff_toNat_lt]; simp; omega
    show Lib.compareBytes (UInt8.ofNat ((x : Int).toNat) :: Lib.bytesOf (xs.map fun n : Nat => (n : Int))) (UInt8.ofNat ((y : Int).toNat) :: Lib.bytesOf (ys.map fun n : Nat => (n : Int))) = _
    rw [Int.toNat_natCast, Int.toNat_natCast, Lib.compareBytes, cmpL, ih]
    simp only [o1, o2]
theorem run_loadB16 {P : Program} {w : World} {G o : Nat} {xs : List Nat} (hl : xs.length = 16) (h : w.rangeAt G o (xs.map fun n => Value.int .u8 ((n : Nat) : Int))) : (Extern.Bytes.loadBytes ⟨G, o, none⟩ 16 .empty).run P w = .ok ⟨(Lib.bytesOf (xs.map fun n : Nat => (n : Int))).toArray⟩ w := by
  have hr := Lib.run_loadBytesX (P := P) w (xs.map fun n : Nat => (n : Int)) ⟨G, o, none⟩ .empty (fun j x hj => by
    rw [Addr.add_mid]
    refine h j _ ?_
    rw [List.getElem?_map] at hj ⊢
    cases hx : xs[j]? with
    | none => rw [hx] at hj; cases hj
    | some y => rw [hx] at hj; cases hj; rfl)
  rw [List.length_map, hl] at hr
  rw [hr]
  congr 1
  apply ByteArray.ext
  show (#[] : Array UInt8) ++ _ = _
  simp
theorem run_compare16 {P : Program} {w : World} {G o G' o' : Nat} {xs ys : List Nat} (lx : xs.length = 16) (ly : ys.length = 16) (h : w.rangeAt G o (xs.map fun n => Value.int .u8 ((n : Nat) : Int))) (h' : w.rangeAt G' o' (ys.map fun n => Value.int .u8 ((n : Nat) : Int))) (hx : ∀ x ∈ xs, x < 256) (hy : ∀ x ∈ ys, x < 256) (c c' : Nat) :
    (Extern.BytealgCompare.compare #[.slice (some ⟨G, o, none⟩) 16 c, .slice (some ⟨G', o', none⟩) 16 c']).run P w = .ok (.int .i64 (cmpL xs ys)) w := by
  change Sem.run P (do
    let a ← Extern.Bytes.bytesOf (.slice (some ⟨G, o, none⟩) 16 c)
    let b ← Extern.Bytes.bytesOf (.slice (some ⟨G', o', none⟩) 16 c')
    pure (goInt (Extern.BytealgCompare.cmp a b))) w = _
  simp only [Extern.Bytes.bytesOf, Sem.run_bind, Sem.run_pure, run_loadB16 lx h, run_loadB16 ly h', Result.andThen, Lib.cmp_eq]
  rw [compare_nats xs ys (by rw [lx, ly]) hx hy]
  rfl
set_option maxRecDepth 100000 in
theorem bytesCompare_any (G G' : Nat) (xs ys : List Nat) (w : World) (lx : xs.length = 16) (ly : ys.length = 16) (h : w.rangeAt G 1 (xs.map fun n => Value.int .u8 ((n : Nat) : Int))) (h' : w.rangeAt G' 1 (ys.map fun n => Value.int .u8 ((n : Nat) : Int))) (hx : ∀ x ∈ xs, x < 256) (hy : ∀ x ∈ ys, x < 256) :
    Calls Tryd.prog 68 #[.slice (some ⟨G, 1, none⟩) 16 16, .slice (some ⟨G', 1, none⟩) 16 16] w fun e w' => e = .returned (.int .i64 (cmpL xs ys)) ∧ Below w.heap.size w w' := by
  have HR := Lib.hid (run_compare16 (P := Tryd.prog) lx ly h h' hx hy 16 16)
  clear h h' hx hy lx ly
  generalize cmpL xs ys = r at *
  go_enter Tryd.func68, Tryd.ntmps68
  go_wp2
  rw [run_callFunc_extern Tryd.func88 (by kernel_rfl) (by kernel_rfl) (by kernel_rfl) (e := Extern.BytealgCompare.compare) (by kernel_rfl), HR.out]
  simp only [Result.andThen]
  rw [Oper.upon_value]
  go_wp2
  go_ret
  exact ⟨rfl, Below.refl _ _⟩
theorem cmpA_ne {f g : Int} (xs ys : List Nat) (h : f ≠ g) : cmpA f xs g ys = sgn3 f g := by
  unfold cmpA sgn3
  rw [if_neg h]
  by_cases h1 : f < g
  · rw [if_pos h1, if_pos h1]
  · rw [if_neg h1, if_neg h1, if_pos (by omega)]
set_option maxRecDepth 100000 in
set_option maxHeartbeats 1000000 in
theorem addrCompare_any (f : Int) (xs : List Nat) (g : Int) (ys : List Nat) (w : World) (h16x : xs.length = 16) (h16 : ys.length = 16) (hx : ∀ x ∈ xs, x < 256) (hy : ∀ x ∈ ys, x < 256) :
    Calls Tryd.prog 48 #[addrV f xs, addrV g ys] w fun e w' => e = .returned (.int .i64 (cmpA f xs g ys)) ∧ Below w.heap.size w w' := by
  obtain ⟨cs, ecs, HA, HB⟩ := addr_boxed f xs w h16x
  obtain ⟨ds, eds, HA', HB'⟩ := addr_boxed g ys (w.alloc (.cells cs 24)) h16
  rw [ecs, eds]
  have HA1 := Lib.hid (HA.out.alloc (.cells ds 24))
  have HB1 := Lib.hid (chain HB.out HB'.out)
  rw [heap_alloc] at HA'
  have HX := Lib.hid hx
  have HY := Lib.hid hy
  clear ecs eds h16 h16x HA HB HB' hx hy
  go_enter Tryd.func48, Tryd.ntmps48
  go_upto_region 1 with fail
  generalize ((w.alloc (.cells cs 24)).alloc (.cells ds 24)) = W at *
  have f1 := HA1.out.fam
  have f2 := HA'.out.fam
  by_cases hfg : f = g
  · subst hfg
    have HE : Hid (cmpA f xs f ys = cmpL xs ys) := Lib.hid (if_pos rfl)
    obtain ⟨L, hL⟩ : ∃ L, [(w.heap.size, 1, xs.map fun n => Value.int .u8 ((n : Nat) : Int)), (w.heap.size + 1, 1, ys.map fun n => Value.int .u8 ((n : Nat) : Int))] = L := ⟨_, rfl⟩
    have HK : HeldR L w W := by rw [← hL]; exact ((HeldR.nil HB1.out).cons HA'.out.b16.range HA'.out.lt).cons HA1.out.b16.range HA1.out.lt
    have HC : ∀ w', HeldR L w w' → Hid (Calls Tryd.prog 68 #[.slice (some ⟨w.heap.size, 1, none⟩) 16 16, .slice (some ⟨w.heap.size + 1, 1, none⟩) 16 16] w' fun e w'' => e = .returned (.int .i64 (cmpL xs ys)) ∧ Below w'.heap.size w' w'') := fun w' h =>
      Lib.hid (bytesCompare_any w.heap.size (w.heap.size + 1) xs ys w' HA1.out.len HA'.out.len (h.get (by rw [← hL]; simp)) (h.get (by rw [← hL]; simp)) HX.out HY.out)
    have HKK := Lib.hid HK
    clear hL HK
    generalize cmpL xs ys = r at *
    go_wp2_with fail
    refine wp_region_noPanic ?_
    refine wp_region_held_drew (S := HeldR L w) (by kernel_rfl) HKK.out.drew (fun hHeld => ?_)
    refine wpAnyH_take (i := 0) (v := ?_) rfl (by kernel_rfl) (by kernel_rfl) (by kernel_rfl) (fun _ _ _ h => h) (Or.inl ⟨by rfl, ?_⟩) (by assumption) ?_
    rotate_left
    · (intro w hSw; go_simp; try (with_reducible rfl))
    try simp only [Act.put, List.getElem_toArray, List.getElem_cons_zero, List.setIfInBounds_toArray, List.set_cons_zero, List.set_cons_succ]
    refine wpAnyH_take (i := 1) (v := ?_) rfl (by kernel_rfl) (by kernel_rfl) (by kernel_rfl) (fun _ _ _ h => h) (Or.inl ⟨by rfl, ?_⟩) (by assumption) ?_
    rotate_left
    · (intro w hSw; go_simp; try (with_reducible rfl))
    try simp only [Act.put, List.getElem_toArray, List.getElem_cons_zero, List.getElem_cons_succ, List.setIfInBounds_toArray, List.set_cons_zero, List.set_cons_succ]
    refine wpAnyH_take (i := 2) (v := ?_) rfl (by kernel_rfl) (by kernel_rfl) (by kernel_rfl) (fun _ _ _ h => h) (Or.inl ⟨by rfl, ?_⟩) (by assumption) ?_
    rotate_left
    · (intro w hSw; go_simp; try (with_reducible rfl))
    try simp only [Act.put, List.getElem_toArray, List.getElem_cons_zero, List.getElem_cons_succ, List.setIfInBounds_toArray, List.set_cons_zero, List.set_cons_succ]
    refine wpAnyH_take (i := 3) (v := ?_) rfl (by kernel_rfl) (by kernel_rfl) (by kernel_rfl) (fun _ _ _ h => h) (Or.inl ⟨by rfl, ?_⟩) (by assumption) ?_
    rotate_left
    · (intro w hSw; go_simp; try (with_reducible rfl))
    try simp only [Act.put, List.getElem_toArray, List.getElem_cons_zero, List.getElem_cons_succ, List.setIfInBounds_toArray, List.set_cons_zero, List.set_cons_succ]
    refine wpAnyH_ready (rs := [4]) (by kernel_rfl) (by simp) ?_
    refine AllReadyH.cons rfl (fun K hK => ?_) AllReadyH.nil
    go_simp
    refine (Calls.heldR (HC _ (by assumption)).out (by assumption)).mono ?_
    rintro e wr4 ⟨rfl, hS4⟩
    go_wp2_with fail
    refine hK.out _ _ hS4 (fun hHeld => ?_)
    clear hK K
    try simp only [Act.put, List.getElem_toArray, List.getElem_cons_zero, List.getElem_cons_succ, List.setIfInBounds_toArray, List.set_cons_zero, List.set_cons_succ]
    refine wpAnyH_take (i := 5) (v := ?_) rfl (by kernel_rfl) (by kernel_rfl) (by kernel_rfl) (fun _ _ _ h => h) (Or.inl ⟨by rfl, ?_⟩) (by assumption) ?_
    rotate_left
    · (intro w hSw; go_simp; try (with_reducible rfl))
    try simp only [Act.put, List.getElem_toArray, List.getElem_cons_zero, List.getElem_cons_succ, List.setIfInBounds_toArray, List.set_cons_zero, List.set_cons_succ]
    refine wpAnyH_done (by kernel_rfl) ?_ _
    refine NoPanic.normal ?_
    go_wp2_with fail
    go_ret
    exact ⟨by rw [HE.out]; rfl, hHeld.bel⟩
  · have HE := Lib.hid (cmpA_ne xs ys hfg)
    have n1 : (f != g) = true := by simp [hfg]
    go_wp2_with (go_at_call 49; refine (cmpInt_any _ _ _).mono ?_; rintro e w' ⟨rfl, rfl⟩)
    go_ret
    exact ⟨by rw [HE.out]; rfl, HB1.out⟩
end Go.Proofs.YtpgjkeakhjnckaaDoor
/- What cidr's functions answer, in plain words. -/
namespace Go.Proofs.YtpgjkeakhjnckaaDoor
open Go.RowKit
set_option linter.unusedVariables false
set_option maxRecDepth 20000

/-- Which prefix may be. -/
def mayP (f : Int) (bs : List Nat) (n : Int) : Bool := decide (0 < bitsN f ∧ bs = withL (bitsN f) bs (maskN f n) 0 ∧ n = (maskN f n : Int))
/-- Whether a prefix is an address's own. -/
def hasR (f : Int) (ps : List Nat) (n : Int) (g : Int) (us : List Nat) : Bool := decide (f = g ∧ ps = withL (bitsN g) us (maskN g n) 0 ∧ n = (maskN g n : Int))
/-- Whether the first bits are the same. -/
def hasB (f : Int) (ps : List Nat) (n : Nat) (g : Int) (us : List Nat) : Bool := decide (f = g ∧ ∀ i : Nat, i < n → bitN f ps (i : Int) = bitN g us (i : Int))
def withinR (f : Int) (ps : List Nat) (n : Int) (g : Int) (qs : List Nat) (m : Int) : Bool := decide (m ≤ n) && hasR g qs m f ps
def cmpP (f : Int) (xs : List Nat) (n : Int) (g : Int) (ys : List Nat) (m : Int) : Int := if cmpA f xs g ys = 0 then sgn3 n m else cmpA f xs g ys
/-- Two prefixes that come in, boxed. -/
theorem prefs_boxed (f : Int) (ps : List Nat) (n : Int) (g : Int) (qs : List Nat) (m : Int) (w : World) (hp : ps.length = 16) (hq : qs.length = 16) :
    ∃ cs ds : Array Value, prefV f ps n = .agg cs ∧ prefV g qs m = .agg ds ∧ Hid (PrefAt ((w.alloc (.cells cs 26)).alloc (.cells ds 26)) w.heap.size f ps n) ∧ Hid (PrefAt ((w.alloc (.cells cs 26)).alloc (.cells ds 26)) (w.heap.size + 1) g qs m) ∧
      Hid (Below w.heap.size w ((w.alloc (.cells cs 26)).alloc (.cells ds 26))) := by
  obtain ⟨cs, ecs, HA, HB⟩ := pref_boxed f ps n w hp
  obtain ⟨ds, eds, HA', HB'⟩ := pref_boxed g qs m (w.alloc (.cells cs 26)) hq
  rw [heap_alloc] at HA'
  exact ⟨cs, ds, ecs, eds, Lib.hid (HA.out.alloc _), HA', Lib.hid (chain HB.out HB'.out)⟩
/-- A prefix and an address that come in, boxed. -/
theorem pref_addr_boxed (f : Int) (ps : List Nat) (n : Int) (g : Int) (qs : List Nat) (w : World) (hp : ps.length = 16) (hq : qs.length = 16) :
    ∃ cs ds : Array Value, prefV f ps n = .agg cs ∧ addrV g qs = .agg ds ∧ Hid (PrefAt ((w.alloc (.cells cs 26)).alloc (.cells ds 24)) w.heap.size f ps n) ∧ Hid (AddrAt ((w.alloc (.cells cs 26)).alloc (.cells ds 24)) (w.heap.size + 1) g qs) ∧
      Hid (Below w.heap.size w ((w.alloc (.cells cs 26)).alloc (.cells ds 24))) := by
  obtain ⟨cs, ecs, HA, HB⟩ := pref_boxed f ps n w hp
  obtain ⟨ds, eds, HA', HB'⟩ := addr_boxed g qs (w.alloc (.cells cs 26)) hq
  rw [heap_alloc] at HA'
  exact ⟨cs, ds, ecs, eds, Lib.hid (HA.out.alloc _), HA', Lib.hid (chain HB.out HB'.out)⟩
end Go.Proofs.YtpgjkeakhjnckaaDoor
/- Contract of the reference's Good of layer 5. -/
namespace Go.Proofs.YtpgjkeakhjnckaaDoor
open Go.RowKit
set_option linter.unusedVariables false
set_option maxRecDepth 20000

/-- How many bits the reference's Good keeps. -/
def goodN (f n : Int) : Nat := aroundN n (bitsN (goodF f) + 1)
theorem goodN_le (f n : Int) : goodN f n ≤ bitsN (goodF f) := Nat.le_of_lt_succ (aroundN_lt _ _ (Nat.succ_pos _))
theorem maskN_nat (f : Int) (m : Nat) (h : m ≤ bitsN f) : maskN f (m : Int) = m := by unfold maskN; omega
/-- The bytes of a prefix made good. -/
def goodP (f : Int) (bs : List Nat) (n : Int) : List Nat := withL (bitsN (goodF f)) (goodB f bs) (goodN f n) 0
theorem goodB_len (f : Int) (bs : List Nat) (h16 : bs.length = 16) : (goodB f bs).length = 16 := by
  unfold goodB
  split
  · exact b4_len _
  · exact h16
theorem goodB_lt (f : Int) (bs : List Nat) (hlt : ∀ x ∈ bs, x < 256) : ∀ x ∈ goodB f bs, x < 256 := by
  unfold goodB
  split
  · rw [b4_eq]
    simp
    omega
  · exact hlt
set_option maxRecDepth 100000 in
set_option maxHeartbeats 1000000 in
theorem refGoodP_any (f : Int) (bs : List Nat) (n : Int) (w : World) (h16 : bs.length = 16) (hlt : ∀ x ∈ bs, x < 256) (hn : (Lit.int .i64 n).wf = true) :
    Calls Tryd.prog 14 #[prefV f bs n] w fun e w' => e = .returned (prefV (goodF f) (goodP f bs n) (goodN f n)) ∧ Below w.heap.size w w' := by
  have H16 := Lib.hid h16
  have HG := fun W => Lib.hid (refGood_any f bs W h16 hlt)
  have HL2 := Lib.hid (goodB_len f bs h16)
  have HN := bitsN_le (goodF f)
  have HBI := fun W => Lib.hid (refBits_any (goodF f) (goodB f bs) W HL2.out)
  have HAR : ∀ W, Hid (Calls Tryd.prog 31 #[.int .i64 n, .int .i64 ((bitsN (goodF f) + 1 : Nat) : Int)] W fun e w' => e = .returned (.int .i64 ((goodN f n : Nat) : Int)) ∧ W = w') := fun W => Lib.hid (around_any n (bitsN (goodF f) + 1) W hn (by omega) (by omega))
  have HMK : ∀ W, Hid (Calls Tryd.prog 13 #[addrV (goodF f) (goodB f bs), .int .i64 ((goodN f n : Nat) : Int)] W fun e w' => e = .returned (prefV (goodF f) (goodP f bs n) (goodN f n)) ∧ Below W.heap.size W w') := fun W => Lib.hid (by
    have h := refMask_any (goodF f) (goodB f bs) (goodN f n : Int) W HL2.out (goodB_lt f bs hlt) (wf_small (Nat.le_trans (goodN_le f n) (by omega)))
    rw [maskN_nat _ _ (goodN_le f n)] at h
    exact h)
  have HLP : Hid ((goodP f bs n).length = 16) := Lib.hid (withL_len _ _ _ _)
  obtain ⟨cs, ecs, HA, HB⟩ := pref_boxed f bs n w h16
  have HR := pref_zeroed (w.alloc (.cells cs 26))
  rw [heap_alloc] at HR
  have HRH := Lib.hid HR
  have HA1 := Lib.hid (HA.out.alloc (.cells zP 26))
  have HB1 := Lib.hid (HB.out.alloc HB.out.size (.cells zP 26))
  rw [ecs]
  generalize goodP f bs n = R at *
  generalize goodN f n = m at *
  generalize bitsN (goodF f) = N at *
  generalize goodF f = F at *
  generalize goodB f bs = B at *
  clear ecs h16 hlt HA HB HR
  go_enter Tryd.func14, Tryd.ntmps14
  go_upto_region 1 with fail
  generalize ((w.alloc (.cells cs 26)).alloc (.cells zP 26)) = W at *
  have HA1a := Lib.hid HA1.out.addr
  go_wp2_with (refine load_addr_g HA1a _ rfl rfl rfl ?_)
  refine (HG _).out.mono ?_
  rintro e w1 ⟨rfl, hb1⟩
  have HA2 := Lib.hid (HA1.out.below hb1)
  have HR2 := Lib.hid (HRH.out.below hb1)
  have HB2 := Lib.hid (chain HB1.out hb1)
  have HZ1 := Lib.hid (addr_zeroed w1)
  clear HA1 HRH HB1 hb1 HA1a HG
  go_upto_region 2 with (refine store_addr HZ1 _ _ HL2 rfl rfl rfl rfl (fun W1 HW1 HO1 => ?_))
  have HA3 := Lib.hid (HA2.out.below (below_newA HW1))
  have HR3 := Lib.hid (HR2.out.below (below_newA HW1))
  have HB3 := Lib.hid (chain HB2.out (below_newA HW1))
  have HGR : Hid (w.heap.size + 1 < w1.heap.size) := Lib.hid HR2.out.addr.lt
  generalize w1.heap.size = G1 at *
  clear HA2 HR2 HB2 HZ1 HW1
  obtain ⟨L, hL⟩ : ∃ L, [(w.heap.size, 0, prefL f bs n), (w.heap.size, 0, addrL f bs), (G1, 0, addrL F B)] = L := ⟨_, rfl⟩
  have HK := Lib.hid (show HeldR L w W1 by rw [← hL]; exact ((HeldR.nil HB3.out).addr HO1.out).pref HA3.out)
  have Mt3 := Lib.hid (show InA L G1 F B from ⟨by rw [← hL]; simp, HL2.out⟩)
  have HNE : Hid (∀ x ∈ L, x.1 ≠ w.heap.size + 1) := Lib.hid (by rw [← hL]; intro x hx; simp at hx; have := HGR.out; rcases hx with rfl | rfl | rfl <;> simp <;> omega)
  have Cn := Lib.hid (bitsR (show InP L w.heap.size f bs n from ⟨by rw [← hL]; simp, H16.out⟩) w)
  clear hL HA3 HO1 HB3
  have C1 : ∀ w', HeldR L w w' → Hid (Calls Tryd.prog 30 #[addrV F B] w' fun e w'' => e = .returned (.int .i64 ((N : Nat) : Int)) ∧ Below w'.heap.size w' w'') := fun w' h => HBI w'
  have C2 : ∀ w', HeldR L w w' → Hid (Calls Tryd.prog 31 #[.int .i64 n, .int .i64 (IntKind.i64.wrap ((N : Int) + 1))] w' fun e w'' => e = .returned (.int .i64 (m : Int)) ∧ Below w'.heap.size w' w'') := fun w' h => Lib.hid (by
    rw [show IntKind.i64.wrap ((N : Int) + 1) = ((N + 1 : Nat) : Int) by rw [IntKind.wrap_i64]; omega]
    exact (HAR w').out.mono fun e w'' ⟨h1, h2⟩ => ⟨h1, by rw [← h2]; exact Below.refl _ _⟩)
  have C3 : ∀ w', HeldR L w w' → Hid (Calls Tryd.prog 13 #[addrV F B, .int .i64 (m : Int)] w' fun e w'' => e = .returned (prefV F R m) ∧ Below w'.heap.size w' w'') := fun w' h => HMK w'
  clear HBI HAR HMK
  replace HR3 := Lib.hid (HR3.out.below (Below.refl _ _).drew)
  refine wp_region_noPanic ?_
  refine wp_region_held_drew (S := HeldR L w) (by kernel_rfl) HK.out.drew (fun hHeld => ?_)
  refine wpAnyH_take (i := 0) rfl (by kernel_rfl) (by kernel_rfl) (by kernel_rfl) (fun _ _ _ h => h) (yields_addr Mt3 (by rfl) _ rfl rfl) (by assumption) ?_
  try simp only [Act.put, List.getElem_toArray, List.getElem_cons_zero, List.setIfInBounds_toArray, List.set_cons_zero, List.set_cons_succ]
  refine wpAnyH_take (i := 1) (v := ?_) rfl (by kernel_rfl) (by kernel_rfl) (by kernel_rfl) (fun _ _ _ h => h) (Or.inl ⟨by rfl, ?_⟩) (by assumption) ?_
  rotate_left
  · (intro w hSw; go_simp; try (with_reducible rfl))
  try simp only [Act.put, List.getElem_toArray, List.getElem_cons_zero, List.getElem_cons_succ, List.setIfInBounds_toArray, List.set_cons_zero, List.set_cons_succ]
  refine wpAnyH_take (i := 2) (v := ?_) rfl (by kernel_rfl) (by kernel_rfl) (by kernel_rfl) (fun _ _ _ h => h) (Or.inl ⟨by rfl, ?_⟩) (by assumption) ?_
  rotate_left
  · (intro w hSw; have hc0 := Cn.out w hSw; go_simp; try (with_reducible rfl))
  try simp only [Act.put, List.getElem_toArray, List.getElem_cons_zero, List.getElem_cons_succ, List.setIfInBounds_toArray, List.set_cons_zero, List.set_cons_succ]
  refine wpAnyH_take (i := 3) rfl (by kernel_rfl) (by kernel_rfl) (by kernel_rfl) (fun _ _ _ h => h) (yields_addr Mt3 (by rfl) _ rfl rfl) (by assumption) ?_
  try simp only [Act.put, List.getElem_toArray, List.getElem_cons_zero, List.getElem_cons_succ, List.setIfInBounds_toArray, List.set_cons_zero, List.set_cons_succ]
  refine wpAnyH_ready (rs := [4]) (by kernel_rfl) (by simp) ?_
  refine AllReadyH.cons rfl (fun K hK => ?_) AllReadyH.nil
  go_simp
  refine (C1 _ (by assumption)).out.mono ?_
  rintro e wr4 ⟨rfl, hb4⟩
  replace HR3 := Lib.hid (HR3.out.below hb4)
  have hS4 := HeldR.next (by assumption) hb4
  clear hb4
  go_wp2_with fail
  refine hK.out _ _ hS4 (fun hHeld => ?_)
  clear hK K
  try simp only [Act.put, List.getElem_toArray, List.getElem_cons_zero, List.getElem_cons_succ, List.setIfInBounds_toArray, List.set_cons_zero, List.set_cons_succ]
  refine wpAnyH_take (i := 5) (v := ?_) rfl (by kernel_rfl) (by kernel_rfl) (by kernel_rfl) (fun _ _ _ h => h) (Or.inl ⟨by rfl, ?_⟩) (by assumption) ?_
  rotate_left
  · (intro w hSw; go_simp; try (with_reducible rfl))
  try simp only [Act.put, List.getElem_toArray, List.getElem_cons_zero, List.getElem_cons_succ, List.setIfInBounds_toArray, List.set_cons_zero, List.set_cons_succ]
  refine wpAnyH_ready (rs := [6]) (by kernel_rfl) (by simp) ?_
  refine AllReadyH.cons rfl (fun K hK => ?_) AllReadyH.nil
  go_simp
  refine (C2 _ (by assumption)).out.mono ?_
  rintro e wr6 ⟨rfl, hb6⟩
  replace HR3 := Lib.hid (HR3.out.below hb6)
  have hS6 := HeldR.next (by assumption) hb6
  clear hb6
  go_wp2_with fail
  refine hK.out _ _ hS6 (fun hHeld => ?_)
  clear hK K
  try simp only [Act.put, List.getElem_toArray, List.getElem_cons_zero, List.getElem_cons_succ, List.setIfInBounds_toArray, List.set_cons_zero, List.set_cons_succ]
  refine wpAnyH_ready (rs := [7]) (by kernel_rfl) (by simp) ?_
  refine AllReadyH.cons rfl (fun K hK => ?_) AllReadyH.nil
  go_simp
  refine (C3 _ (by assumption)).out.mono ?_
  rintro e wr7 ⟨rfl, hb7⟩
  replace HR3 := Lib.hid (HR3.out.below hb7)
  have hS7 := HeldR.next (by assumption) hb7
  clear hb7
  go_wp2_with fail
  refine hK.out _ _ hS7 (fun hHeld => ?_)
  clear hK K
  try simp only [Act.put, List.getElem_toArray, List.getElem_cons_zero, List.getElem_cons_succ, List.setIfInBounds_toArray, List.set_cons_zero, List.set_cons_succ]
  refine wpAnyH_ready (rs := [8]) (by kernel_rfl) (by simp) ?_
  refine AllReadyH.one rfl rfl (fun K hK => ?_)
  refine wp_store_pref HR3 _ _ HLP rfl rfl rfl (fun HQ => ?_)
  refine hK.out _ _ ((HeldR.store (by assumption) _ (by omega) HNE.out)) (fun hHeld2 => ?_)
  refine wpAnyH_done (by kernel_rfl) ?_ _
  refine NoPanic.normal ?_
  go_wp2_with fail
  refine bodyPost_ret (v := prefV F R m) (results_pref Tryd.results14 rfl HQ.out) rfl ⟨rfl, hHeld2.bel⟩
end Go.Proofs.YtpgjkeakhjnckaaDoor
/- Contract of the reference's May of layer 4. -/
namespace Go.Proofs.YtpgjkeakhjnckaaDoor
open Go.RowKit
set_option linter.unusedVariables false
set_option maxRecDepth 20000

/-- All zero from a place on. -/
def zeroTo (bs : List Nat) (k : Nat) : Bool := (bs.drop k).all (· == 0)
theorem zeroTo_at (bs : List Nat) (k : Nat) (h : bs.length = 16) (hk : k < 16) : zeroTo bs k = (bs.getD k 0 == 0 && zeroTo bs (k + 1)) := by
  unfold zeroTo
  rw [List.drop_eq_getElem_cons (by omega), List.all_cons, List.getD_eq_getElem?_getD, List.getElem?_eq_getElem (by omega)]
  rfl
theorem zeroTo_end (bs : List Nat) (h : bs.length = 16) : zeroTo bs 16 = true := by
  unfold zeroTo
  rw [List.drop_eq_nil_of_le (by omega)]
  rfl
def fromN (f : Int) : Nat := if f = 0 then 0 else if f = 4 then 4 else 16
/-- Which address may be. -/
def mayB (f : Int) (bs : List Nat) : Bool := zeroTo bs (fromN f) && (f == 0 || f == 4 || f == 6)
set_option maxRecDepth 100000 in
set_option maxHeartbeats 1000000 in
theorem refMay_any (f : Int) (bs : List Nat) (w : World) (h16 : bs.length = 16) :
    Calls Tryd.prog 37 #[addrV f bs] w fun e w' => e = .returned (.bool (mayB f bs)) ∧ Below w.heap.size w w' := by
  have HL := Lib.hid h16
  obtain ⟨y0, y1, y2, y3, y4, y5, y6, y7, y8, y9, y10, y11, y12, y13, y14, y15, hbs⟩ := list16 bs h16
  have ha : addrV f bs = .agg #[.int .i64 f, .int .u8 (y0 : Int), .int .u8 (y1 : Int), .int .u8 (y2 : Int), .int .u8 (y3 : Int), .int .u8 (y4 : Int), .int .u8 (y5 : Int), .int .u8 (y6 : Int), .int .u8 (y7 : Int), .int .u8 (y8 : Int), .int .u8 (y9 : Int), .int .u8 (y10 : Int), .int .u8 (y11 : Int), .int .u8 (y12 : Int), .int .u8 (y13 : Int), .int .u8 (y14 : Int), .int .u8 (y15 : Int)] := by rw [hbs]; rfl
  rw [ha]
  have hA := AddrAt.new w 24 f y0 y1 y2 y3 y4 y5 y6 y7 y8 y9 y10 y11 y12 y13 y14 y15
  rw [← hbs] at hA
  have B0 : Hid (Below w.heap.size w (w.alloc (.cells #[.int .i64 f, .int .u8 (y0 : Int), .int .u8 (y1 : Int), .int .u8 (y2 : Int), .int .u8 (y3 : Int), .int .u8 (y4 : Int), .int .u8 (y5 : Int), .int .u8 (y6 : Int), .int .u8 (y7 : Int), .int .u8 (y8 : Int), .int .u8 (y9 : Int), .int .u8 (y10 : Int), .int .u8 (y11 : Int), .int .u8 (y12 : Int), .int .u8 (y13 : Int), .int .u8 (y14 : Int), .int .u8 (y15 : Int)] 24))) := Lib.hid ((Below.refl _ _).alloc (Nat.le_refl _) _)
  have HA := Lib.hid hA
  clear ha hbs h16 hA
  by_cases h0 : f = 0
  · subst h0
    have FR : Hid (fromN 0 = 0) := Lib.hid rfl
    go_enter Tryd.func37, Tryd.ntmps37
    have hfam := HA.out.fam
    go_wp2_with fail
    generalize (w.alloc (.cells #[.int .i64 0, .int .u8 (y0 : Int), .int .u8 (y1 : Int), .int .u8 (y2 : Int), .int .u8 (y3 : Int), .int .u8 (y4 : Int), .int .u8 (y5 : Int), .int .u8 (y6 : Int), .int .u8 (y7 : Int), .int .u8 (y8 : Int), .int .u8 (y9 : Int), .int .u8 (y10 : Int), .int .u8 (y11 : Int), .int .u8 (y12 : Int), .int .u8 (y13 : Int), .int .u8 (y14 : Int), .int .u8 (y15 : Int)] 24)) = W at *
    go_loop [4] (fun i => ∃ k : Nat, 0 ≤ k ∧ k ≤ 16 ∧ i = .int .i64 (k : Int) ∧ Hid (zeroTo bs 0 = zeroTo bs k)) (fun i => 16 - (intOf i).toNat)
    case atStart => exact ⟨0, Nat.le_refl _, by decide, rfl, Lib.hid rfl⟩
    case round =>
      obtain ⟨k, hk0, hk, rfl, HK⟩ := hrel
      by_cases hk16 : k < 16
      · have hcell := HA.out.cells k hk16
        have k1 : (k : Int) < 16 := by omega
        have hz := zeroTo_at bs k HL.out hk16
        obtain ⟨y, ey⟩ : ∃ y, bs.getD k 0 = y := ⟨_, rfl⟩
        rw [ey] at hcell hz
        clear ey
        by_cases hy : y = 0
        · subst hy
          have HK2 : Hid (zeroTo bs 0 = zeroTo bs (k + 1)) := Lib.hid (by rw [HK.out, hz]; rfl)
          clear hz
          go_wp2_with fail
          go_round
          case rel => exact ⟨k + 1, by omega, by omega, by go_num, HK2⟩
          case measure => simp [intOf]; omega
        · have HK2 : Hid (zeroTo bs 0 = false) := Lib.hid (by rw [HK.out, hz]; simp [hy])
          clear hz
          have hy2 : ((y : Int) != 0) = true := by simp; omega
          go_wp2_with fail
          go_ret
          exact ⟨by rw [mayB, show fromN 0 = 0 from FR.out, HK2.out]; rfl, B0.out⟩
      · obtain rfl : k = 16 := by omega
        have HK2 : Hid (zeroTo bs 0 = true) := Lib.hid (by rw [HK.out]; exact zeroTo_end bs HL.out)
        go_wp2_with fail
        go_ret
        exact ⟨by rw [mayB, show fromN 0 = 0 from FR.out, HK2.out]; rfl, B0.out⟩
  by_cases h4 : f = 4
  · subst h4
    have FR : Hid (fromN 4 = 4) := Lib.hid rfl
    go_enter Tryd.func37, Tryd.ntmps37
    have hfam := HA.out.fam
    go_wp2_with fail
    generalize (w.alloc (.cells #[.int .i64 4, .int .u8 (y0 : Int), .int .u8 (y1 : Int), .int .u8 (y2 : Int), .int .u8 (y3 : Int), .int .u8 (y4 : Int), .int .u8 (y5 : Int), .int .u8 (y6 : Int), .int .u8 (y7 : Int), .int .u8 (y8 : Int), .int .u8 (y9 : Int), .int .u8 (y10 : Int), .int .u8 (y11 : Int), .int .u8 (y12 : Int), .int .u8 (y13 : Int), .int .u8 (y14 : Int), .int .u8 (y15 : Int)] 24)) = W at *
    go_loop [4] (fun i => ∃ k : Nat, 4 ≤ k ∧ k ≤ 16 ∧ i = .int .i64 (k : Int) ∧ Hid (zeroTo bs 4 = zeroTo bs k)) (fun i => 16 - (intOf i).toNat)
    case atStart => exact ⟨4, Nat.le_refl _, by decide, rfl, Lib.hid rfl⟩
    case round =>
      obtain ⟨k, hk0, hk, rfl, HK⟩ := hrel
      by_cases hk16 : k < 16
      · have hcell := HA.out.cells k hk16
        have k1 : (k : Int) < 16 := by omega
        have hz := zeroTo_at bs k HL.out hk16
        obtain ⟨y, ey⟩ : ∃ y, bs.getD k 0 = y := ⟨_, rfl⟩
        rw [ey] at hcell hz
        clear ey
        by_cases hy : y = 0
        · subst hy
          have HK2 : Hid (zeroTo bs 4 = zeroTo bs (k + 1)) := Lib.hid (by rw [HK.out, hz]; rfl)
          clear hz
          go_wp2_with fail
          go_round
          case rel => exact ⟨k + 1, by omega, by omega, by go_num, HK2⟩
          case measure => simp [intOf]; omega
        · have HK2 : Hid (zeroTo bs 4 = false) := Lib.hid (by rw [HK.out, hz]; simp [hy])
          clear hz
          have hy2 : ((y : Int) != 0) = true := by simp; omega
          go_wp2_with fail
          go_ret
          exact ⟨by rw [mayB, show fromN 4 = 4 from FR.out, HK2.out]; rfl, B0.out⟩
      · obtain rfl : k = 16 := by omega
        have HK2 : Hid (zeroTo bs 4 = true) := Lib.hid (by rw [HK.out]; exact zeroTo_end bs HL.out)
        go_wp2_with fail
        go_ret
        exact ⟨by rw [mayB, show fromN 4 = 4 from FR.out, HK2.out]; rfl, B0.out⟩
  · have FR : Hid (fromN f = 16) := Lib.hid (by unfold fromN; rw [if_neg h0, if_neg h4])
    have g0 : (f == 0) = false := by simp [h0]
    have g4 : (f == 4) = false := by simp [h4]
    go_enter Tryd.func37, Tryd.ntmps37
    have hfam := HA.out.fam
    go_wp2_with fail
    generalize (w.alloc (.cells #[.int .i64 f, .int .u8 (y0 : Int), .int .u8 (y1 : Int), .int .u8 (y2 : Int), .int .u8 (y3 : Int), .int .u8 (y4 : Int), .int .u8 (y5 : Int), .int .u8 (y6 : Int), .int .u8 (y7 : Int), .int .u8 (y8 : Int), .int .u8 (y9 : Int), .int .u8 (y10 : Int), .int .u8 (y11 : Int), .int .u8 (y12 : Int), .int .u8 (y13 : Int), .int .u8 (y14 : Int), .int .u8 (y15 : Int)] 24)) = W at *
    go_loop [4] (fun i => ∃ k : Nat, 16 ≤ k ∧ k ≤ 16 ∧ i = .int .i64 (k : Int) ∧ Hid (zeroTo bs 16 = zeroTo bs k)) (fun i => 16 - (intOf i).toNat)
    case atStart => exact ⟨16, Nat.le_refl _, by decide, rfl, Lib.hid rfl⟩
    case round =>
      obtain ⟨k, hk0, hk, rfl, HK⟩ := hrel
      by_cases hk16 : k < 16
      · exact absurd hk16 (by omega)
      · obtain rfl : k = 16 := by omega
        have HK2 : Hid (zeroTo bs 16 = true) := Lib.hid (by rw [HK.out]; exact zeroTo_end bs HL.out)
        go_wp2_with fail
        go_ret
        exact ⟨by rw [mayB, show fromN f = 16 from FR.out, HK2.out]; simp [g0, g4], B0.out⟩
end Go.Proofs.YtpgjkeakhjnckaaDoor
