/- Two arrays of integers, held against each other: they are equal, if all their numbers are. -/
import Derived.Test.YtkdinhgflkfbkaaDoorRows
import Derived.WalkKit
import Derived.ChangeKeysEq
namespace Go.Proofs.YtkdinhgflkfbkaaDoor
open Go.RowKit
set_option linter.unusedVariables false

theorem run_eqItems_ints (W : World) (d : Nat) {e : TypeId} {k : IntKind} (he : Tryd.prog.plainKey e = true) (hu : Tryd.prog.underlying e = some (.int k)) (zs ys : List Int) : ∀ (is : List Nat), (∀ i ∈ is, i < zs.length ∧ i < ys.length) →
    (Op.eqItems (d + 1) e 1 (zs.map (Value.int k)).toArray (ys.map (Value.int k)).toArray is).run Tryd.prog W = .ok (is.all fun i => zs.getD i 0 == ys.getD i 0) W
  | [], _ => by simp [Op.eqItems]
  | i :: is, h => by
    have hi := h i (by simp)
    have p1 : (part e (zs.map (Value.int k)).toArray (i * 1)).run Tryd.prog W = .ok (.int k (zs.getD i 0)) W := run_part_plain W he (by simp [hi.1])
    have p2 : (part e (ys.map (Value.int k)).toArray (i * 1)).run Tryd.prog W = .ok (.int k (ys.getD i 0)) W := run_part_plain W he (by simp [hi.2])
    have p3 := run_equalIn_int (P := Tryd.prog) W d e k k (zs.getD i 0) (ys.getD i 0) hu
    have ih := run_eqItems_ints W d he hu zs ys is (fun j hj => h j (by simp [hj]))
    simp only [Op.eqItems, Sem.run_bind, p1, p2, p3, Result.andThen_ok, List.all_cons]
    cases zs.getD i 0 == ys.getD i 0 with
    | false => simp
    | true => simpa using ih
theorem run_eq_ints (W : World) {t e : TypeId} {n : Nat} {k : IntKind} {i : TypeInfo} (ht : Tryd.prog.underlying t = some (.array n e)) (he : Tryd.prog.plainKey e = true) (hu : Tryd.prog.underlying e = some (.int k)) (hi : Tryd.prog.info? e = some i) (hc : Tryd.prog.cellsOf e = 1)
    (zs ys : List Int) (hz : zs.length = n) (hy : ys.length = n) :
    (Op.equalIn 10000 t (.agg (zs.map (Value.int k)).toArray) (.agg (ys.map (Value.int k)).toArray)).run Tryd.prog W = .ok (decide (zs = ys)) W := by
  rw [run_equalIn_array W 9999 _ _ ht hi, hc, run_eqItems_ints W 9998 he hu zs ys _ (fun j hj => by rw [List.mem_range] at hj; omega)]
  congr 1
  rw [Bool.eq_iff_iff]
  simp only [List.all_eq_true, List.mem_range, beq_iff_eq, decide_eq_true_eq]
  constructor
  · intro h
    apply List.ext_getElem (by omega)
    intro j h1 h2
    have := h j (by omega)
    rw [List.getD_eq_getElem?_getD, List.getD_eq_getElem?_getD, List.getElem?_eq_getElem h1, List.getElem?_eq_getElem h2] at this
    exact this
  · intro h j _
    rw [h]
theorem eq4_true (a b c d : Nat) (W : World) : (Op.equalIn 10000 70 (.agg #[.int .u8 (a : Int), .int .u8 (b : Int), .int .u8 (c : Int), .int .u8 (d : Int)]) (.agg #[.int .u8 (a : Int), .int .u8 (b : Int), .int .u8 (c : Int), .int .u8 (d : Int)])).run Tryd.prog W = .ok true W := by
  obtain ⟨i, hi⟩ : ∃ i, Tryd.prog.info? 5 = some i := ⟨_, rfl⟩
  have := run_eq_ints W (k := .u8) Tryd.underlying70 (by kernel_rfl) Tryd.underlying5 hi (by kernel_rfl) [(a : Int), b, c, d] [(a : Int), b, c, d] rfl rfl
  rw [show decide ([(a : Int), b, c, d] = [(a : Int), b, c, d]) = true by simp] at this
  exact this
theorem eq4_false (a b c d a' b' c' d' : Nat) (h : ¬ (a = a' ∧ b = b' ∧ c = c' ∧ d = d')) (W : World) : (Op.equalIn 10000 70 (.agg #[.int .u8 (a : Int), .int .u8 (b : Int), .int .u8 (c : Int), .int .u8 (d : Int)]) (.agg #[.int .u8 (a' : Int), .int .u8 (b' : Int), .int .u8 (c' : Int), .int .u8 (d' : Int)])).run Tryd.prog W = .ok false W := by
  obtain ⟨i, hi⟩ : ∃ i, Tryd.prog.info? 5 = some i := ⟨_, rfl⟩
  have := run_eq_ints W (k := .u8) Tryd.underlying70 (by kernel_rfl) Tryd.underlying5 hi (by kernel_rfl) [(a : Int), b, c, d] [(a' : Int), b', c', d'] rfl rfl
  rw [show decide ([(a : Int), b, c, d] = [(a' : Int), b', c', d']) = false by
    rw [decide_eq_false_iff_not]
    intro e
    simp only [List.cons.injEq, Int.natCast_inj, and_true] at e
    exact h e] at this
  exact this
theorem eq8_true (x0 x1 x2 x3 x4 x5 x6 x7 : Nat) (W : World) : (Op.equalIn 10000 24 (.agg #[.int .u16 (x0 : Int), .int .u16 (x1 : Int), .int .u16 (x2 : Int), .int .u16 (x3 : Int), .int .u16 (x4 : Int), .int .u16 (x5 : Int), .int .u16 (x6 : Int), .int .u16 (x7 : Int)]) (.agg #[.int .u16 (x0 : Int), .int .u16 (x1 : Int), .int .u16 (x2 : Int), .int .u16 (x3 : Int), .int .u16 (x4 : Int), .int .u16 (x5 : Int), .int .u16 (x6 : Int), .int .u16 (x7 : Int)])).run Tryd.prog W = .ok true W := by
  obtain ⟨i, hi⟩ : ∃ i, Tryd.prog.info? 23 = some i := ⟨_, rfl⟩
  have := run_eq_ints W (k := .u16) Tryd.underlying24 (by kernel_rfl) Tryd.underlying23 hi (by kernel_rfl) [(x0 : Int), x1, x2, x3, x4, x5, x6, x7] [(x0 : Int), x1, x2, x3, x4, x5, x6, x7] rfl rfl
  rw [show decide ([(x0 : Int), x1, x2, x3, x4, x5, x6, x7] = [(x0 : Int), x1, x2, x3, x4, x5, x6, x7]) = true by simp] at this
  exact this
end Go.Proofs.YtkdinhgflkfbkaaDoor
