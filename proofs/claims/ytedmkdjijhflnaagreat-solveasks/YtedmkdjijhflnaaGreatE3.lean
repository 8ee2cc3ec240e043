/- Texts that belong together, one behind the other: QuRow, CellsAt, MsgKit, MatMath, SolMath, PtRow, PrefKit, HeldLoad, EvRow, AdOne, GenOps, SolOps, SolEnd, SolAt, SolAgain, SolTry. -/
import Derived.Test.YtedmkdjijhflnaaGreatE2
import Derived.Laws.OwnMore
import Derived.Maps.AppendAt
import Derived.Deep.AppendLies
import Derived.Deep.RegionHeld3
import Derived.Deep.Cut
import Derived.Laws.Tables
import Derived.Test.YtedmkdjijhflnaaGreatShelf
import Derived.Shelf.SlicesE.DeleteFunc
import Derived.LaidEqlPtr
set_option linter.unusedVariables false
set_option linter.unusedSimpArgs false
set_option maxRecDepth 20000
namespace Go.Proofs.YtedmkdjijhflnaaGreat
open Go.RowKit

def flatQ (D : List Qu) : List Value := D.flatMap quL
theorem flatQ_len : ∀ (D : List Qu), (flatQ D).length = D.length * 3
  | [] => rfl
  | e :: es => by
    have h2 := flatQ_len es
    show (quL e ++ flatQ es).length = _
    rw [List.length_append, h2, List.length_cons]
    show 3 + es.length * 3 = _
    omega
theorem flatQ_append (xs ys : List Qu) : flatQ (xs ++ ys) = flatQ xs ++ flatQ ys := by simp [flatQ]
theorem flatQ_one (D : List Qu) : ∀ u ∈ flatQ D, u.oneCell' = true := by
  intro u hu
  obtain ⟨e, he, h2⟩ := List.mem_flatMap.1 hu
  unfold quL at h2
  simp at h2
  rcases h2 with rfl | rfl | rfl <;> rfl
abbrev zQ : Array Value := #[.string ⟨#[]⟩, .int .i64 0, .int .i64 0]
theorem infoQ : (Tryz.prog.info? 139).map (fun i => (i.zero, i.size, i.bytes)) = some (some (.agg zQ), 3, 32) := by kernel_rfl
def RowQ (w : World) (base : Nat) (v : Value) (D : List Qu) : Prop := w.ownsRow base 139 3 v D.length (flatQ D)
theorem RowQ.nil (w : World) (base : Nat) : RowQ w base (.slice none 0 0) [] := World.ownsRow_nil _ _ _ _
theorem RowQ.below {w w' : World} {base : Nat} {v : Value} {D : List Qu} (h : RowQ w base v D) (hb : Below w.heap.size w w') : RowQ w' base v D := own_below8 h hb
theorem append_qus {ops : Array Oper} {rest : List Oper} {op : Oper} {a : Act} {w : World} {Q : Exit → Act → World → Prop} {base : Nat} {v : Value} {D : List Qu} (hE : Hid (RowQ w base v D)) (s x : Operand) (hgd : op.guard = none) (ho : op.op = .call { callee := .builtin .append, args := #[s, x], argTypes := #[81, 81] })
    (hs : a.eval s = v) {G o m c : Nat} (ys : List Qu) (hx : a.eval x = .slice (some ⟨G, o, none⟩) m c) (hm : Hid (m = ys.length)) (hr : Hid (w.rangeAt G o (flatQ ys))) (hle : Hid (D.length + ys.length ≤ 100000)) (hbase : Hid (base ≤ w.heap.size))
    (h : ∀ v' w', Hid (RowQ w' base v' (D ++ ys)) → Hid (w.grownBy w' v.ownBlock) → Hid (v'.ownBlock = v.ownBlock ∨ v'.ownBlock = some w.heap.size) → wpList Tryz.prog ops Q rest (a.put op.dst v') w') : wpList Tryz.prog ops Q (op :: rest) a w := by
  obtain ⟨i0, hi0, hz0, hz1, hz2⟩ := info_parts infoQ
  have hml := hm.out
  have hll := hle.out
  refine wpList_append_own_at w hgd s x 81 ho base 139 i0 _ 3 32 Tryz.underlying81 hi0 hz0 hz1 hz2 rfl (by decide) v D.length (flatQ D) hs hE.out ⟨G, o, none⟩ m c (flatQ ys) hx (by rw [flatQ_len ys, hml]) (fun j u hu => ?_) (flatQ_one ys) (by unfold maxLen; omega) (by omega) hbase.out (fun v' w' h1 h2 _ h4 => ?_)
  · have := hr.out j u hu
    have hadd : (⟨G, o, none⟩ : Addr).add j = ⟨G, o + j, none⟩ := by unfold Addr.add; split <;> simp_all
    rw [hadd]
    exact this
  · refine h v' w' (Lib.hid ?_) (Lib.hid h2) (Lib.hid h4)
    unfold RowQ
    rw [List.length_append, flatQ_append, ← hml]; exact h1
theorem fillQ (q : Qu) : Instr.fill (fun i => some (i * 3, 3)) ((Array.range (1 * 3)).map fun j => zQ[j % zQ.size]!) [(0, quV q)] = some (quL q).toArray := by
  obtain ⟨nm, ty, cl⟩ := q
  kernel_rfl
theorem run_buildQ (q : Qu) (w : World) : (Instr.buildSlice 81 1 #[(0, quV q)]).run Tryz.prog w = .ok (.slice (some ⟨w.heap.size, 0, none⟩) 1 1) (w.alloc (.cells (quL q).toArray 139)) := by
  obtain ⟨i0, hi0, hz0, hz1, hz2⟩ := info_parts infoQ
  have hf := fillQ q
  obtain ⟨Z, hZ⟩ : ∃ Z : Array Value, zQ = Z := ⟨_, rfl⟩
  rw [hZ] at hf hz0
  have hsz : (sizeOf 139).run Tryz.prog w = .ok 3 w := by simp [sizeOf, typeInfo, hi0, hz1]
  have hzv : (zeroValue 139).run Tryz.prog w = .ok (.agg Z) w := by simp [zeroValue, typeInfo, hi0, hz0]
  have hnr : ∀ cs : Array Value, (newRow 139 cs).run Tryz.prog w = .ok ⟨w.heap.size, 0, none⟩ (w.alloc (.cells cs 139)) := fun cs => by simp [newRow]
  have hu : (underlying 81).run Tryz.prog w = .ok _ w := run_underlying Tryz.underlying81 w
  have hfc : Instr.fill (fun i => some (i * 3, 3)) ((Array.range (1 * 3)).map fun j => (Value.agg Z).cells[j % (Value.agg Z).cells.size]!) (#[(0, quV q)] : Array (Nat × Value)).toList = some (quL q).toArray := hf
  unfold Instr.buildSlice
  simp only [Sem.run_bind, hu, Result.andThen_ok, hsz, if_neg (show ¬ (1 * 3 > 2 ^ 24) by decide), Sem.run_pure, if_neg (show ¬ (1 * 3 = 0) by decide), hzv, hfc, hnr]
theorem build_quS {ops : Array Oper} {rest : List Oper} {op : Oper} {a : Act} {w : World} {Q : Exit → Act → World → Prop} {q : Qu} (hg : op.guard = none) (x : Operand) (ho : op.op = .buildSlice 81 1 #[(0, x)])
    (hx : a.eval x = quV q) (h : ∀ W, Hid (W = w.alloc (.cells (quL q).toArray 139)) → wpList Tryz.prog ops Q rest (a.put op.dst (.slice (some ⟨w.heap.size, 0, none⟩) 1 1)) W) : wpList Tryz.prog ops Q (op :: rest) a w := by
  refine wpList_plain hg fun K hK => ?_
  unfold Oper.wp execOp
  simp only [ho, List.map_toArray, List.map_cons, List.map_nil, hx, Sem.run_bind, run_buildQ q w, Result.andThen_ok]
  exact hK _ _ (h _ (Lib.hid rfl))
theorem build_qu3 {ops : Array Oper} {rest : List Oper} {op : Oper} {a : Act} {w : World} {Q : Exit → Act → World → Prop} {nm : ByteArray} {ty cl : Int} (hg : op.guard = none) (x0 x1 x2 : Operand) (ho : op.op = .build 139 #[(0, x0), (1, x1), (2, x2)])
    (h0 : a.eval x0 = .string nm) (h1 : a.eval x1 = .int .i64 ty) (h2 : a.eval x2 = .int .i64 cl) (h : wpList Tryz.prog ops Q rest (a.put op.dst (quV ⟨nm, ty, cl⟩)) w) : wpList Tryz.prog ops Q (op :: rest) a w := by
  have e0 : Tryz.prog.built 139 [(0, .string nm), (1, .int .i64 ty), (2, .int .i64 cl)] = some (quL ⟨nm, ty, cl⟩).toArray := rfl
  have e : Tryz.prog.built 139 ((#[(0, x0), (1, x1), (2, x2)] : Array (Nat × Operand)).map fun (i, x) => (i, a.eval x)).toList = some (quL ⟨nm, ty, cl⟩).toArray := by
    simp only [List.map_toArray, List.map_cons, List.map_nil]
    rw [h0, h1, h2]; exact e0
  refine wpList_build hg 139 _ ho (by rw [e]; rfl) ?_
  rw [e]
  exact h
end Go.Proofs.YtedmkdjijhflnaaGreat
namespace Go.Proofs.YtedmkdjijhflnaaGreat
open Go.RowKit

structure CellsAt (w : World) (G : Nat) (vs : List Value) : Prop where
  lt : G < w.heap.size
  range : w.rangeAt G 0 vs
  there : w.there G 0 vs.length
section
variable {w w' : World} {G : Nat} {vs : List Value}
theorem CellsAt.below (h : CellsAt w G vs) (hb : Below w.heap.size w w') : CellsAt w' G vs :=
  ⟨Nat.lt_of_lt_of_le h.lt hb.size, fun j u hu => by rw [hb.cell (p := ⟨G, 0 + j, none⟩) h.lt]; exact h.range j u hu, fun j hj => by
    rw [hb.cell (p := ⟨G, 0 + j, none⟩) h.lt, hb.frozen (p := ⟨G, 0 + j, none⟩) h.lt]
    exact h.there j hj⟩
theorem CellsAt.cell (h : CellsAt w G vs) (k : Nat) (v : Value) (hv : vs[k]? = some v) : w.cell? ⟨G, k, none⟩ = some v := by
  have := h.range k v hv
  rwa [Nat.zero_add] at this
theorem CellsAt.live (h : CellsAt w G vs) (k : Nat) (hk : k < vs.length) : w.frozen? ⟨G, k, none⟩ = false := by
  have := (h.there k hk).2
  rwa [Nat.zero_add] at this
theorem CellsAt.stored (h : CellsAt w G vs) (us : List Value) (hl : us.length = vs.length) : CellsAt (w.setCells G 0 us) G us := by
  have ht : w.there G 0 us.length := by rw [hl]; exact h.there
  exact ⟨by rw [size_setCells]; exact h.lt, World.rangeAt_setCells_same w G 0 _ ht, World.there_setCells (by rw [hl]; exact h.there) G 0 _⟩
theorem CellsAt.new (w : World) (t : TypeId) (vs : List Value) : CellsAt (w.alloc (.cells vs.toArray t)) w.heap.size vs := by
  have e : ∀ j, vs.toArray[j]? = vs[j]? := fun j => by rw [List.getElem?_toArray]
  refine ⟨by simp, fun j u hu => ?_, fun j hj => ⟨?_, World.frozen?_alloc_new _ _ _ _⟩⟩
  · rw [World.cell?_alloc_new, Nat.zero_add, e]; exact hu
  · rw [World.cell?_alloc_new, Nat.zero_add, e, List.getElem?_eq_getElem hj]; rfl
theorem CellsAt.set (h : CellsAt w G vs) (k : Nat) (v : Value) (hk : k < vs.length) : CellsAt (w.setCell ⟨G, k, none⟩ v) G (vs.set k v) := by
  obtain ⟨u0, hu0⟩ : ∃ u, vs[k]? = some u := ⟨_, List.getElem?_eq_getElem hk⟩
  refine ⟨by simpa using h.lt, fun j u hu => ?_, fun j hj => ⟨?_, ?_⟩⟩
  · rw [Nat.zero_add]
    by_cases e : j = k
    · subst e
      rw [List.getElem?_set_self hk] at hu
      cases hu
      exact World.cell?_setCell_same _ _ _ (h.cell j u0 hu0)
    · rw [List.getElem?_set_ne (fun e2 => e e2.symm)] at hu
      rw [World.cell?_setCell_other _ _ _ _ (by intro h2; injection h2 with _ h3 _; omega)]
      exact h.cell j u hu
  · rw [Nat.zero_add]
    rw [List.length_set] at hj
    by_cases e : j = k
    · subst e
      rw [World.cell?_setCell_same _ _ _ (h.cell j u0 hu0)]
      rfl
    · rw [World.cell?_setCell_other _ _ _ _ (by intro h2; injection h2 with _ h3 _; omega)]
      have := (h.there j hj).1
      rwa [Nat.zero_add] at this
  · rw [World.frozen?_setCell]
    rw [List.length_set] at hj
    exact (h.there j hj).2
theorem CellsAt.other (h : CellsAt w G vs) {G' : Nat} (hG : G' ≠ G) (k : Nat) (v : Value) : CellsAt (w.setCell ⟨G', k, none⟩ v) G vs := by
  have hn : ∀ j, (⟨G', k, none⟩ : Addr) ≠ ⟨G, j, none⟩ := fun j h2 => by injection h2 with h3 _ _; exact hG h3
  refine ⟨by simpa using h.lt, fun j u hu => ?_, fun j hj => ⟨?_, ?_⟩⟩
  · rw [World.cell?_setCell_other _ _ _ _ (hn _)]; exact h.range j u hu
  · rw [World.cell?_setCell_other _ _ _ _ (hn _)]; exact (h.there j hj).1
  · rw [World.frozen?_setCell]; exact (h.there j hj).2
theorem CellsAt.apart (h : CellsAt w G vs) {G' o : Nat} (hG : G ≠ G') (us : List Value) : CellsAt (w.setCells G' o us) G vs :=
  ⟨by rw [size_setCells]; exact h.lt, World.rangeAt_setCells_apart h.range G' o us (.inl hG), World.there_setCells h.there G' o us⟩
end
theorem CellsAt.held {w : World} {G : Nat} {vs : List Value} {L : List (Nat × Nat × List Value)} {W : World} (h : CellsAt w G vs) (hL : HeldR L W w) : HeldR ((G, 0, vs) :: L) W w := hL.cons h.range h.lt
end Go.Proofs.YtedmkdjijhflnaaGreat
namespace Go.Proofs.YtedmkdjijhflnaaGreat
open Go.RowKit

section
variable {w w' : World} {G : Nat} {vs : List Value}
end
theorem msg_size : (Tryz.prog.info? 83).map (·.size) = some 6 := by kernel_rfl
abbrev zM : List Value := [.int .i64 0, .int .i64 0, .slice none 0 0, .slice none 0 0, .slice none 0 0, .slice none 0 0]
theorem loadVar_msg {w : World} {G : Nat} {vs : List Value} (h : CellsAt w G vs) (hl : vs.length = 6) : (loadVar 83 ⟨G, 0, none⟩).run Tryz.prog w = .ok (.agg vs.toArray) w :=
  run_loadVar_mid w G 0 83 vs _ h.range Tryz.underlying83 rfl (by rw [msg_size, hl])
theorem results_msg {fn : Func} {a : Tmp} {tmps : Array Value} {W : World} {R : Nat} {vs : List Value} (h : fn.results = #[.cell a 83]) (ha : tmps.getD a undef = .pointer (some ⟨R, 0, none⟩)) (hA : CellsAt W R vs) (hl : vs.length = 6) : (results fn tmps).run Tryz.prog W = .ok (.agg vs.toArray) W := by
  rw [Array.getD_eq_getD_getElem?] at ha
  simp [results, h, ha, asAddr, loadVar_msg hA hl]
theorem results_msg2 {fn : Func} {a t : Tmp} {tmps : Array Value} {W : World} {R : Nat} {vs : List Value} (h : fn.results = #[.cell a 83, .tmp t]) (ha : tmps.getD a undef = .pointer (some ⟨R, 0, none⟩)) (hA : CellsAt W R vs) (hl : vs.length = 6) : (results fn tmps).run Tryz.prog W = .ok (.tuple #[.agg vs.toArray, tmps.getD t undef]) W := by
  rw [Array.getD_eq_getD_getElem?] at ha
  simp [results, h, ha, asAddr, loadVar_msg hA hl]
theorem store_msg {ops : Array Oper} {rest : List Oper} {op : Oper} {a : Act} {w : World} {Q : Exit → Act → World → Prop} {G : Nat} {us vs : List Value} (hA : Hid (CellsAt w G us)) (hu : us.length = 6) (x y : Operand) (hgd : op.guard = none) (ho : op.op = .store 83 x y)
    (hx : a.eval x = .pointer (some ⟨G, 0, none⟩)) (hy : a.eval y = .agg vs.toArray) (hl : vs.length = 6) (h1 : vs.all (fun u => u.oneCell') = true) (h : ∀ W, Hid (W = w.setCells G 0 vs) → Hid (CellsAt W G vs) → wpList Tryz.prog ops Q rest (a.put op.dst undef) W) : wpList Tryz.prog ops Q (op :: rest) a w :=
  wpList_store_mid hgd 83 x y ho G 0 vs.toArray hx hy (by rw [List.size_toArray, hl, ← hu]; exact hA.out.there) (by rw [msg_size, List.size_toArray, hl]) (all_oneCell_toArray (List.all_eq_true.1 h1)) (h _ (Lib.hid rfl) (Lib.hid (hA.out.stored vs (hl.trans hu.symm))))
theorem load_msg {ops : Array Oper} {rest : List Oper} {op : Oper} {a : Act} {w : World} {Q : Exit → Act → World → Prop} {G : Nat} {vs : List Value} (hA : Hid (CellsAt w G vs)) (hl : vs.length = 6) (x : Operand) (hw : Region.wanted op (yielded ops a.tmps) = true) (ho : op.op = .load 83 x)
    (hx : a.eval x = .pointer (some ⟨G, 0, none⟩)) (h : wpList Tryz.prog ops Q rest (a.put op.dst (.agg vs.toArray)) w) : wpList Tryz.prog ops Q (op :: rest) a w :=
  wpList_load_row hw 83 x ho G 0 hx vs _ hA.out.range Tryz.underlying83 rfl (by rw [msg_size, hl]) h
theorem own_range {w : World} {base : Nat} {t : TypeId} {z : Nat} {v : Value} {n : Nat} {xs : List Value} (h : w.ownsRow base t z v n xs) : ∃ ad c, v = .slice ad n c ∧ n ≤ c ∧ c ≤ maxLen ∧ (n = 0 ∨ ∃ g, ad = some ⟨g, 0, none⟩ ∧ g < w.heap.size ∧ w.rangeAt g 0 xs) := by
  rcases h.2 with ⟨rfl, e⟩ | ⟨g, cap, cur, rfl, hg, hc, h1, h2, _⟩
  · exact ⟨none, 0, by rw [e], by omega, Nat.zero_le _, .inl e⟩
  · refine ⟨_, _, rfl, h1, h2, .inr ⟨g, rfl, (Array.getElem?_eq_some_iff.1 hc).1, fun j u hu => ?_⟩⟩
    have := h.cells (g := g) rfl j u hu
    have hadd : (⟨g, 0, none⟩ : Addr).add j = ⟨g, 0 + j, none⟩ := by unfold Addr.add; split <;> simp_all
    rw [hadd] at this
    exact this
theorem RowR.recs {w : World} {base : Nat} {v : Value} {D : List Rec} (h : RowR w base v D) (hf : ∀ r ∈ D, Fit r) : ∃ ad c, v = .slice ad D.length c ∧ RecsAt w ad c D := by
  obtain ⟨ad, c, e, h1, h2, h3⟩ := own_range h.1
  refine ⟨ad, c, e, h1, h2, hf, ?_⟩
  rcases h3 with h3 | ⟨g, e, hg, hr⟩
  · exact .inl h3
  · exact .inr ⟨g, 0, e, hg, hr⟩
theorem RowQ.qus {w : World} {base : Nat} {v : Value} {D : List Qu} (h : RowQ w base v D) (hf : ∀ r ∈ D, FitQ r) : ∃ ad c, v = .slice ad D.length c ∧ QusAt w ad c D := by
  obtain ⟨ad, c, e, h1, h2, h3⟩ := own_range h
  refine ⟨ad, c, e, h1, h2, hf, ?_⟩
  rcases h3 with h3 | ⟨g, e, hg, hr⟩
  · exact .inl h3
  · exact .inr ⟨g, 0, e, hg, hr⟩
theorem QusAt.apart {w : World} {a : Option Addr} {cap : Nat} {D : List Qu} (h : QusAt w a cap D) {G : Nat} (hG : ∀ x, a = some x → x.block ≠ G) (o : Nat) (us : List Value) : QusAt (w.setCells G o us) a cap D := by
  obtain ⟨h1, h2, h3, h4⟩ := h
  refine ⟨h1, h2, h3, ?_⟩
  rcases h4 with h4 | ⟨g, o2, e, hg, hr⟩
  · exact .inl h4
  · exact .inr ⟨g, o2, e, by rw [size_setCells]; exact hg, World.rangeAt_setCells_apart hr G o us (.inl (hG _ e))⟩
theorem RecsAt.apart {w : World} {a : Option Addr} {cap : Nat} {D : List Rec} (h : RecsAt w a cap D) {G : Nat} (hG : ∀ x, a = some x → x.block ≠ G) (o : Nat) (us : List Value) : RecsAt (w.setCells G o us) a cap D := by
  obtain ⟨h1, h2, h3, h4⟩ := h
  refine ⟨h1, h2, h3, ?_⟩
  rcases h4 with h4 | ⟨g, o2, e, hg, hr⟩
  · exact .inl h4
  · exact .inr ⟨g, o2, e, by rw [size_setCells]; exact hg, World.rangeAt_setCells_apart hr G o us (.inl (hG _ e))⟩
theorem setCells_block (b : Nat) : ∀ (vs : List Value) (o : Nat) (w : World) (k : Nat), k ≠ b → (w.setCells b o vs).heap[k]? = w.heap[k]?
  | [], _, _, _, _ => rfl
  | v :: r, o, w, k, h => by rw [World.setCells, setCells_block b r _ _ k h, heap_setCell_other _ _ _ _ h]
theorem wp_store_msg {op : Oper} {a : Act} {w : World} {K : Act → World → Prop} {Q : Exit → Act → World → Prop} {G : Nat} {us vs : List Value} (hA : Hid (CellsAt w G us)) (hu : us.length = 6) (x y : Operand) (ho : op.op = .store 83 x y)
    (hx : a.eval x = .pointer (some ⟨G, 0, none⟩)) (hy : a.eval y = .agg vs.toArray) (hl : vs.length = 6) (h1 : vs.all (fun u => u.oneCell') = true) (h : ∀ W, Hid (W = w.setCells G 0 vs) → Hid (CellsAt W G vs) → K (a.put op.dst undef) W) : op.wp Tryz.prog a w K Q :=
  wp_store_mid 83 x y ho G 0 vs.toArray hx hy (by rw [List.size_toArray, hl, ← hu]; exact hA.out.there) (by rw [msg_size, List.size_toArray, hl]) (all_oneCell_toArray (List.all_eq_true.1 h1)) (h _ (Lib.hid rfl) (Lib.hid (hA.out.stored vs (hl.trans hu.symm))))
theorem own_oneCell {w : World} {b : Nat} {t : TypeId} {z n : Nat} {v : Value} {xs : List Value} (h : w.ownsRow b t z v n xs) : v.oneCell' = true := by
  rcases h.2 with ⟨rfl, _⟩ | ⟨g, cap, cur, rfl, _⟩ <;> rfl
theorem msg_row (m : Msg) (aq a1 a2 a3 : Option Addr) (cq c1 c2 c3 : Nat) : ∃ vs : List Value, msgV m aq a1 a2 a3 cq c1 c2 c3 = .agg vs.toArray ∧ vs.length = 6 ∧ vs.all (fun u => u.oneCell') = true := ⟨_, rfl, rfl, rfl⟩
end Go.Proofs.YtedmkdjijhflnaaGreat
namespace Go.Proofs.YtedmkdjijhflnaaGreat
open Go.RowKit

def All2 (D : List Rec) : Prop := ∀ r ∈ D, r.name.size ≤ 2000000 ∧ r.tg.size ≤ 2000000
def nextR (D : List Rec) (nm : ByteArray) : Option Rec := D.find? (isRec nm 5)
def chainP (D : List Rec) : Nat → ByteArray → Int → List ByteArray × Int × Bool
  | 0, nm, t => ([nm], t, (nextR D nm).isNone)
  | n + 1, nm, t => match nextR D nm with
    | none => ([nm], t, true)
    | some r => (nm :: (chainP D n r.tg (min t r.ttl)).1, (chainP D n r.tg (min t r.ttl)).2)
theorem chain_none {D : List Rec} {nm : ByteArray} (h : nextR D nm = none) (n : Nat) (t : Int) : chainP D n nm t = ([nm], t, true) := by
  cases n with
  | zero => simp [chainP, h]
  | succ n => simp [chainP, h]
theorem chain_zero {D : List Rec} {nm : ByteArray} {r : Rec} (h : nextR D nm = some r) (t : Int) : chainP D 0 nm t = ([nm], t, false) := by simp [chainP, h]
theorem chain_succ {D : List Rec} {nm : ByteArray} {r : Rec} (h : nextR D nm = some r) (n : Nat) (t : Int) : chainP D (n + 1) nm t = (nm :: (chainP D n r.tg (min t r.ttl)).1, (chainP D n r.tg (min t r.ttl)).2) := by simp [chainP, h]
theorem chain_pos (D : List Rec) (n : Nat) (nm : ByteArray) (t : Int) : ∃ l, (chainP D n nm t).1 = nm :: l ∧ l.length ≤ n := by
  induction n generalizing nm t with
  | zero => exact ⟨[], rfl, Nat.le_refl _⟩
  | succ n ih =>
    cases h : nextR D nm with
    | none => exact ⟨[], by rw [chain_none h], Nat.zero_le _⟩
    | some r =>
      obtain ⟨l, e, hl⟩ := ih r.tg (min t r.ttl)
      exact ⟨_, by rw [chain_succ h], by rw [e]; simp; omega⟩
theorem chain_ttl (D : List Rec) (n : Nat) (nm : ByteArray) (t : Int) : (chainP D n nm t).2.1 ≤ t := by
  induction n generalizing nm t with
  | zero => exact Int.le_refl _
  | succ n ih =>
    cases h : nextR D nm with
    | none => rw [chain_none h]; exact Int.le_refl _
    | some r =>
      rw [chain_succ h]
      exact Int.le_trans (ih _ _) (Int.min_le_left _ _)
theorem next_mem {D : List Rec} {nm : ByteArray} {r : Rec} (h : nextR D nm = some r) : r ∈ D ∧ isRec nm 5 r = true := ⟨List.mem_of_find?_eq_some h, List.find?_some h⟩
theorem chain_small {D : List Rec} (hD : All2 D) (n : Nat) {nm : ByteArray} (hnm : nm.size ≤ 2000000) (t : Int) : ∀ p ∈ (chainP D n nm t).1, p.size ≤ 2000000 := by
  induction n generalizing nm t with
  | zero => intro p hp; simp [chainP] at hp; rw [hp]; exact hnm
  | succ n ih =>
    cases h : nextR D nm with
    | none => rw [chain_none h]; intro p hp; simp at hp; rw [hp]; exact hnm
    | some r =>
      rw [chain_succ h]
      intro p hp
      rcases List.mem_cons.1 hp with rfl | hp
      · exact hnm
      · exact ih (hD r (next_mem h).1).2 _ p hp
def lastB (l : List ByteArray) : ByteArray := l.getLastD ⟨#[]⟩
theorem lastB_app (l : List ByteArray) (x : ByteArray) : lastB (l ++ [x]) = x := by simp [lastB]
theorem find_filter (D : List Rec) (p : Rec → Bool) : D.find? p = (D.filter p).head? := by rw [List.head?_filter]
def tellStep (x : Int × List Ad) (r : Rec) : Int × List Ad := (min x.1 r.ttl, if (r.f, r.b) ∈ x.2 then x.2 else x.2 ++ [(r.f, r.b)])
def tellAll (x : Int × List Ad) (D : List Rec) : Int × List Ad := D.foldl tellStep x
theorem tell_cons (x : Int × List Ad) (r : Rec) (D : List Rec) : tellAll x (r :: D) = tellAll (tellStep x r) D := rfl
theorem tell_len (D : List Rec) : ∀ x : Int × List Ad, (tellAll x D).2.length ≤ x.2.length + D.length := by
  induction D with
  | nil => intro x; exact Nat.le_refl _
  | cons r D ih =>
    intro x
    rw [tell_cons]
    have := ih (tellStep x r)
    have h2 : (tellStep x r).2.length ≤ x.2.length + 1 := by
      unfold tellStep
      by_cases h : (r.f, r.b) ∈ x.2
      · simp [h]
      · simp [h]
    rw [List.length_cons]
    omega
theorem tell_min (D : List Rec) : ∀ (s t : Int) (l : List Ad), tellAll (min s t, l) D = (min s (tellAll (t, l) D).1, (tellAll (t, l) D).2) := by
  induction D with
  | nil => intro s t l; rfl
  | cons r D ih =>
    intro s t l
    rw [tell_cons, tell_cons]
    show tellAll (min (min s t) r.ttl, _) D = _
    rw [show min (min s t) r.ttl = min s (min t r.ttl) by omega, ih]
    rfl
structure Tld where
  e : Int
  ad : List Ad
  ttl : Int
  nx : ByteArray
  st : Nat
def errT (e : Int) : Tld := ⟨e, [], 0, ⟨#[]⟩, 0⟩
def endT (names : List ByteArray) (x : Int × List Ad) : Tld :=
  if x.2 = [] then (if names.length = 1 then errT 8 else ⟨0, [], x.1, lastB names, names.length - 1⟩) else ⟨0, x.2, x.1, ⟨#[]⟩, names.length - 1⟩
def tellP (fl : Int) (nm : ByteArray) (kd : Int) (D : List Rec) : Tld :=
  if bitS fl 0 4 = 3 then errT 8 else if bitS fl 0 4 ≠ 0 then errT 7 else
    let c := chainP D 8 nm 604800
    if c.2.2 = true then endT c.1 (tellAll (c.2.1, []) (D.filter (isRec (lastB c.1) kd))) else errT 3
structure Qry where
  id : Int
  nm : ByteArray
  ty : Int
  sv : Int
def qryL (q : Qry) : List Value := [.int .i64 q.id, .string q.nm, .int .i64 q.ty, .int .i64 q.sv]
def qryV (q : Qry) : Value := .agg #[.int .i64 q.id, .string q.nm, .int .i64 q.ty, .int .i64 q.sv]
def flagOk (fl : Int) : Bool := decide (bitS fl 15 1 = 1) && (decide (bitS fl 11 4 = 0) && decide (bitS fl 9 1 = 0))
def ansQ (q : Qry) (a : Qu) : Bool := likeB a.name q.nm && (decide (a.ty = q.ty) && decide (a.cl = 1))
def ansP (q : Qry) (sv : Int) (m : Msg) : Bool := decide (q.sv = sv) && (decide (q.id = m.id) && (flagOk m.fl && (match m.qs with
  | [a] => ansQ q a
  | _ => false)))
theorem ansP_1 {q : Qry} {sv : Int} {m : Msg} (h : q.sv ≠ sv) : ansP q sv m = false := by simp [ansP, h]
theorem ansP_2 {q : Qry} {sv : Int} {m : Msg} (h : q.id ≠ m.id) : ansP q sv m = false := by simp [ansP, h]
theorem ansP_3 {q : Qry} {sv : Int} {m : Msg} (h : m.qs.length ≠ 1) : ansP q sv m = false := by
  unfold ansP
  split
  · rename_i a e; rw [e] at h; exact absurd rfl h
  · simp
theorem ansP_4 {q : Qry} {sv : Int} {m : Msg} (h : flagOk m.fl = false) : ansP q sv m = false := by simp [ansP, h]
theorem ansP_5 {q : Qry} {sv : Int} {m : Msg} {a : Qu} (h1 : q.sv = sv) (h2 : q.id = m.id) (h3 : m.qs = [a]) (h4 : flagOk m.fl = true) : ansP q sv m = ansQ q a := by simp [ansP, h1, h2, h3, h4]
end Go.Proofs.YtedmkdjijhflnaaGreat
namespace Go.Proofs.YtedmkdjijhflnaaGreat
open Go.RowKit

structure Lk where
  n : Int
  nm : ByteArray
  q : Qry
  se : Int
  un : Int
  st : Int
  tt : Int
def lkL (e : Lk) : List Value := [Value.int .i64 e.n, .string e.nm, .int .i64 e.q.id, .string e.q.nm, .int .i64 e.q.ty, .int .i64 e.q.sv, .int .i64 e.se, .int .i64 e.un, .int .i64 e.st, .int .i64 e.tt]
structure Ev where
  k : Int
  n : Int
  q : Qry
  a : Option Addr
  m : Nat
  c : Nat
  e : Int
def evL (e : Ev) : List Value := [Value.int .i64 e.k, .int .i64 e.n, .int .i64 e.q.id, .string e.q.nm, .int .i64 e.q.ty, .int .i64 e.q.sv, .slice e.a e.m e.c, .int .i64 e.e]
def evV (e : Ev) : Value := .agg (evL e).toArray
structure Cfg where
  sv : Int
  tr : Int
  wt : Int
  rm : Int
structure Cfg.Ok (c : Cfg) : Prop where
  s1 : 1 ≤ c.sv
  s2 : c.sv ≤ 4
  t1 : 1 ≤ c.tr
  t2 : c.tr ≤ 5
  w1 : 1 ≤ c.wt
  w2 : c.wt ≤ 1000
def noQ : Qry := ⟨0, ⟨#[]⟩, 0, 0⟩
def idP (d : Int) : Int := if d < 0 then (-1 - d) % 65536 else d % 65536
theorem idP_lt (d : Int) : 0 ≤ idP d ∧ idP d < 65536 := by unfold idP; split <;> omega
def evS (l : Lk) : Ev := ⟨0, l.n, l.q, none, 0, 0, 0⟩
def evF (n e : Int) : Ev := ⟨2, n, noQ, none, 0, 0, e⟩
def evD (n : Int) (a : Option Addr) (m c : Nat) : Ev := ⟨1, n, noQ, a, m, c, 0⟩
def sendL (c : Cfg) (l : Lk) (draw now : Int) : Lk := { l with q := { l.q with id := idP draw }, un := now + c.wt }
def againL (c : Cfg) (l : Lk) (draw now : Int) : Lk := sendL c { l with se := l.se + 1, q := { l.q with sv := (l.q.sv + 1) % c.sv } } draw now
def overL (c : Cfg) (l : Lk) : Bool := decide (l.se + 1 = c.tr)
def againE (c : Cfg) (l : Lk) (draw now : Int) : Ev := if overL c l = true then evF l.n 9 else evS (againL c l draw now)
structure Lk.Ok (c : Cfg) (l : Lk) : Prop where
  se0 : 0 ≤ l.se
  se1 : l.se ≤ c.tr
  sv0 : 0 ≤ l.q.sv
  sv1 : l.q.sv < c.sv
  n0 : 0 ≤ l.n
  n1 : l.n ≤ 1000000
  un0 : 0 ≤ l.un
  un1 : l.un ≤ 2199023256552
  st0 : 0 ≤ l.st
  st1 : l.st ≤ 1000
  tt : (Lit.int .i64 l.tt).wf = true
  tt1 : l.tt ≤ 604800
  ty : l.q.ty = 1 ∨ l.q.ty = 28
  id0 : 0 ≤ l.q.id
  id1 : l.q.id < 65536
  nm : l.nm.size ≤ 2000000
  qn : l.q.nm.size ≤ 2000000
theorem sendL_ok {c : Cfg} {l : Lk} (hc : c.Ok) (h : l.Ok c) (draw now : Int) (h0 : 0 ≤ now) (h1 : now ≤ 2199023255552) : (sendL c l draw now).Ok c :=
  ⟨h.se0, h.se1, h.sv0, h.sv1, h.n0, h.n1, by have := hc.w1; show 0 ≤ now + c.wt; omega, by have := hc.w2; show now + c.wt ≤ _; omega, h.st0, h.st1, h.tt, h.tt1, h.ty, (idP_lt draw).1, (idP_lt draw).2, h.nm, h.qn⟩
abbrev PL := Nat × Lk
def tickA (c : Cfg) (now draw : Int) : Int → List PL → List PL
  | _, [] => []
  | k, (g, l) :: r => if l.un ≤ now then (if overL c l = true then tickA c now draw (k + 1) r else (g, againL c l (IntKind.i64.wrap (draw + k)) now) :: tickA c now draw (k + 1) r) else (g, l) :: tickA c now draw k r
def tickE (c : Cfg) (now draw : Int) : Int → List PL → List Ev
  | _, [] => []
  | k, (g, l) :: r => if l.un ≤ now then againE c l (IntKind.i64.wrap (draw + k)) now :: tickE c now draw (k + 1) r else tickE c now draw k r
end Go.Proofs.YtedmkdjijhflnaaGreat
namespace Go.Proofs.YtedmkdjijhflnaaGreat
open Go.RowKit

def ptV (g : Nat) : Value := .pointer (some ⟨g, 0, none⟩)
def ptsV (D : List Nat) : List Value := D.map ptV
theorem infoPt : (Tryz.prog.info? 110).map (fun i => (i.zero, i.size, i.bytes)) = some (some (.pointer none), 1, 8) := by kernel_rfl
def RowP (w : World) (base : Nat) (v : Value) (D : List Nat) : Prop := w.ownsRow base 110 1 v D.length (ptsV D) ∧ D.length ≤ 1000
theorem RowP.nil (w : World) (base : Nat) : RowP w base (.slice none 0 0) [] := ⟨World.ownsRow_nil _ _ _ _, by decide⟩
theorem RowP.kept2 {w w' : World} {B : Nat} {v : Value} {D : List Nat} (h : RowP w B v D) (hk : ∀ g, v.ownBlock = some g → w'.heap[g]? = w.heap[g]?) : RowP w' B v D := by
  obtain ⟨⟨h1, h2⟩, h3⟩ := h
  refine ⟨⟨h1, ?_⟩, h3⟩
  rcases h2 with h2 | ⟨g, cap, cur, e1, e2, e3, e4⟩
  · exact .inl h2
  · exact .inr ⟨g, cap, cur, e1, e2, (hk g (by rw [e1]; rfl)).trans e3, e4⟩
theorem RowP.lt {w : World} {B : Nat} {v : Value} {D : List Nat} (h : RowP w B v D) : ∀ g, v.ownBlock = some g → B ≤ g ∧ g < w.heap.size := fun g hg => h.1.lt g hg
theorem RowP.below {w w' : World} {base : Nat} {v : Value} {D : List Nat} (h : RowP w base v D) (hb : Below w.heap.size w w') : RowP w' base v D := h.kept2 (fun g hg => hb.block g (h.lt g hg).2)
theorem RowP.foot {F F' : List Nat} {w w' : World} {base : Nat} {v : Value} {D : List Nat} (hr : RowP w base v D) (h : Foot F F' w w') (hn : NotIn v F) : RowP w' base v D := hr.kept2 (fun g hg => h.keep g (hr.lt g hg).2 (hn g hg))
theorem RowP.form {w : World} {base : Nat} {v : Value} {D : List Nat} (h : RowP w base v D) : (v = .slice none 0 0 ∧ D = []) ∨ ∃ g cap, v = .slice (some ⟨g, 0, none⟩) D.length cap ∧ base ≤ g ∧ g < w.heap.size ∧ D.length ≤ cap ∧ cap ≤ maxLen ∧ w.rangeAt g 0 (ptsV D) := by
  obtain ⟨hr, hle⟩ := h
  obtain ⟨h1, h2⟩ := hr
  rcases h2 with ⟨e1, e2⟩ | ⟨g, cap, cur, e1, e2, e3, e4, e5, e6, e7⟩
  · exact .inl ⟨e1, List.eq_nil_of_length_eq_zero e2⟩
  · refine .inr ⟨g, cap, e1, e2, ?_, e4, e5, fun j u hu => ?_⟩
    · apply Classical.byContradiction
      intro h
      rw [Array.getElem?_eq_none (by omega)] at e3
      cases e3
    · rw [Nat.zero_add, cell_of_row w g j cur _ _ e3, ← Array.getElem?_toList]
      rw [← e7, List.getElem?_take] at hu
      split at hu
      · exact hu
      · cases hu
theorem RowP.slice {w : World} {base : Nat} {v : Value} {D : List Nat} (h : RowP w base v D) : ∃ a c, v = .slice a D.length c := by
  rcases h.form with ⟨e, rfl⟩ | ⟨g, cap, e, _⟩
  · exact ⟨none, 0, e⟩
  · exact ⟨_, cap, e⟩
theorem ptsV_at {D : List Nat} {k : Nat} (hk : k < D.length) : (ptsV D)[k]? = some (ptV D[k]) := by unfold ptsV; rw [List.getElem?_map, List.getElem?_eq_getElem hk]; rfl
theorem wp_append_pt {op : Oper} {a : Act} {w : World} {K : Act → World → Prop} {Q : Exit → Act → World → Prop} {B G c : Nat} {v : Value} {l : List Nat} {p : Nat} (hown : Hid (RowP w B v l)) (hm : Hid (w.cell? ⟨G, 0, none⟩ = some (ptV p))) (hn : Hid (l.length ≤ 900 ∧ B ≤ w.heap.size)) (sl x : Operand)
    (ho : op.op = .call { callee := .builtin .append, args := #[sl, x], argTypes := #[91, 91] }) (hs : a.eval sl = v) (hx : a.eval x = .slice (some ⟨G, 0, none⟩) 1 c)
    (h : ∀ v' w', Hid (RowP w' B v' (l ++ [p])) → Hid (w.grownBy w' v.ownBlock) → Hid (Foot v.ownBlock.toList v'.ownBlock.toList w w') → K (a.put op.dst v') w') : op.wp Tryz.prog a w K Q := by
  obtain ⟨i0, hi0, hz0, hz1, hz2⟩ := info_parts infoPt
  obtain ⟨hn1, hn2⟩ := hn.out
  obtain ⟨v', w', hr, h2, h3, _, h5⟩ := run_append_own_at (P := Tryz.prog) w B 91 op.type 110 i0 _ 1 8 Tryz.underlying91 hi0 hz0 hz1 hz2 rfl (by decide) v l.length (ptsV l) hown.out.1 ⟨G, 0, none⟩ 1 c [ptV p] rfl (fun j u hu => by
      match j, hu with
      | 0, hu => rw [add_none, hm.out]; exact hu
      | j + 1, hu => simp at hu) (fun u hu => by rw [List.mem_singleton.1 hu]; rfl) (by unfold maxLen; omega) (by omega) hn2
  unfold Oper.wp execOp
  simp only [ho, resolve, invoke, builtin, Sem.run_bind, Sem.run_pure, Result.andThen_ok, List.map_toArray, List.map_cons, List.map_nil, hs, hx, hr]
  refine h v' w' (Lib.hid ⟨?_, ?_⟩) (Lib.hid h3) (Lib.hid (Foot.ofGrown h3 (h5.imp id (fun e g hg => by rw [e] at hg; cases hg; exact Nat.le_refl _))))
  · simpa [ptsV] using h2
  · rw [List.length_append]; show l.length + 1 ≤ _; omega
theorem wp_append_pts {op : Oper} {a : Act} {w : World} {K : Act → World → Prop} {Q : Exit → Act → World → Prop} {B G c : Nat} {v : Value} {l m : List Nat} (hown : Hid (RowP w B v l)) (hm : Hid (w.rangeAt G 0 (ptsV m))) (hn : Hid (l.length + m.length ≤ 1000 ∧ B ≤ w.heap.size)) (sl x : Operand)
    (ho : op.op = .call { callee := .builtin .append, args := #[sl, x], argTypes := #[91, 91] }) (hs : a.eval sl = v) (hx : a.eval x = .slice (some ⟨G, 0, none⟩) m.length c)
    (h : ∀ v' w', Hid (RowP w' B v' (l ++ m)) → Hid (w.grownBy w' v.ownBlock) → K (a.put op.dst v') w') : op.wp Tryz.prog a w K Q := by
  obtain ⟨i0, hi0, hz0, hz1, hz2⟩ := info_parts infoPt
  obtain ⟨hn1, hn2⟩ := hn.out
  obtain ⟨v', w', hr, h2, h3, _, h5⟩ := run_append_own_at (P := Tryz.prog) w B 91 op.type 110 i0 _ 1 8 Tryz.underlying91 hi0 hz0 hz1 hz2 rfl (by decide) v l.length (ptsV l) hown.out.1 ⟨G, 0, none⟩ m.length c (ptsV m) (by simp [ptsV]) (fun j u hu => by rw [add_none]; have := hm.out j u hu; rwa [Nat.zero_add] at this) (fun u hu => by
    obtain ⟨q, _, rfl⟩ := List.mem_map.1 hu
    rfl) (by unfold maxLen; omega) (by omega) hn2
  unfold Oper.wp execOp
  simp only [ho, resolve, invoke, builtin, Sem.run_bind, Sem.run_pure, Result.andThen_ok, List.map_toArray, List.map_cons, List.map_nil, hs, hx, hr]
  refine h v' w' (Lib.hid ⟨?_, ?_⟩) (Lib.hid h3)
  · simpa [ptsV] using h2
  · rw [List.length_append]; omega
theorem run_buildPt0 (w : World) : (Instr.buildSlice 91 0 #[]).run Tryz.prog w = .ok (.slice (some ⟨w.heap.size, 0, none⟩) 0 0) (w.alloc (.cells #[] 110)) := by
  have hu : (underlying 91).run Tryz.prog w = .ok _ w := run_underlying Tryz.underlying91 w
  have hnr : ∀ cs : Array Value, (newRow 110 cs).run Tryz.prog w = .ok ⟨w.heap.size, 0, none⟩ (w.alloc (.cells cs 110)) := fun cs => by simp [newRow]
  unfold Instr.buildSlice
  simp [Sem.run_bind, hu, hnr, Instr.fill]
  rw [show Array.map (fun _ => (default : Value)) (Array.range 0) = #[] from Array.eq_empty_of_size_eq_zero (by simp)]
theorem build_stepPt0 {ops : Array Oper} {rest : List Oper} {op : Oper} {a : Act} {w : World} {Q : Exit → Act → World → Prop} (hg : op.guard = none) (ho : op.op = .buildSlice 91 0 #[])
    (h : ∀ W, Hid (W = w.alloc (.cells #[] 110)) → wpList Tryz.prog ops Q rest (a.put op.dst (.slice (some ⟨w.heap.size, 0, none⟩) 0 0)) W) : wpList Tryz.prog ops Q (op :: rest) a w := by
  refine wpList_plain hg fun K hK => ?_
  unfold Oper.wp execOp
  simp only [ho, List.map_toArray, List.map_nil, Sem.run_bind, run_buildPt0 w, Result.andThen_ok]
  exact hK _ _ (h _ (Lib.hid rfl))
theorem fillPt (g : Nat) : Instr.fill (fun i => some (i * 1, 1)) ((Array.range (1 * 1)).map fun j => (#[Value.pointer none] : Array Value)[j % (#[Value.pointer none] : Array Value).size]!) [(0, ptV g)] = some #[ptV g] := by kernel_rfl
theorem run_buildPt1 (g : Nat) (w : World) : (Instr.buildSlice 91 1 #[(0, ptV g)]).run Tryz.prog w = .ok (.slice (some ⟨w.heap.size, 0, none⟩) 1 1) (w.alloc (.cells #[ptV g] 110)) := by
  obtain ⟨i0, hi0, hz0, hz1, hz2⟩ := info_parts infoPt
  have hf := fillPt g
  have hsz : (sizeOf 110).run Tryz.prog w = .ok 1 w := by simp [sizeOf, typeInfo, hi0, hz1]
  have hzv : (zeroValue 110).run Tryz.prog w = .ok (.pointer none) w := by simp [zeroValue, typeInfo, hi0, hz0]
  have hnr : ∀ cs : Array Value, (newRow 110 cs).run Tryz.prog w = .ok ⟨w.heap.size, 0, none⟩ (w.alloc (.cells cs 110)) := fun cs => by simp [newRow]
  have hu : (underlying 91).run Tryz.prog w = .ok _ w := run_underlying Tryz.underlying91 w
  have hfc : Instr.fill (fun i => some (i * 1, 1)) ((Array.range (1 * 1)).map fun j => (Value.pointer none).cells[j % (Value.pointer none).cells.size]!) (#[(0, ptV g)] : Array (Nat × Value)).toList = some #[ptV g] := hf
  unfold Instr.buildSlice
  simp only [Sem.run_bind, hu, Result.andThen_ok, hsz, if_neg (show ¬ (1 * 1 > 2 ^ 24) by decide), Sem.run_pure, if_neg (show ¬ (1 * 1 = 0) by decide), hzv, hfc, hnr]
theorem build_stepPt1 {ops : Array Oper} {rest : List Oper} {op : Oper} {a : Act} {w : World} {Q : Exit → Act → World → Prop} {g : Nat} (hg : op.guard = none) (x : Operand) (ho : op.op = .buildSlice 91 1 #[(0, x)]) (hx : a.eval x = ptV g)
    (h : ∀ W, Hid (W = w.alloc (.cells #[ptV g] 110)) → wpList Tryz.prog ops Q rest (a.put op.dst (.slice (some ⟨w.heap.size, 0, none⟩) 1 1)) W) : wpList Tryz.prog ops Q (op :: rest) a w := by
  refine wpList_plain hg fun K hK => ?_
  unfold Oper.wp execOp
  simp only [ho, List.map_toArray, List.map_cons, List.map_nil, hx, Sem.run_bind, run_buildPt1 g w, Result.andThen_ok]
  exact hK _ _ (h _ (Lib.hid rfl))
theorem rowP_empty (w : World) : RowP (w.alloc (.cells #[] 110)) w.heap.size (.slice (some ⟨w.heap.size, 0, none⟩) 0 0) [] :=
  ⟨⟨rfl, .inr ⟨w.heap.size, 0, #[], rfl, Nat.le_refl _, by show (w.heap.push _)[w.heap.size]? = _; simp, Nat.le_refl _, Nat.zero_le _, rfl, rfl⟩⟩, by decide⟩
set_option maxRecDepth 100000 in
theorem clonePt_any (B : Nat) (v : Value) (D : List Nat) (w : World) (hr : RowP w B v D) :
    Calls Tryz.prog 63 #[v] w fun e w' => ∃ v', e = .returned v' ∧ RowP w' w.heap.size v' D ∧ Below w.heap.size w w' := by
  have q : ∀ (w : World) (a : Option Addr) (n c n' c' : Nat), (binOp .eql 91 (.slice a n c) (.slice none n' c')).run Tryz.prog w = .ok (.bool a.isNone) w := fun w a n c n' c' => Lib.run_eql_slice_nil w _ _ a n c n' c' Tryz.underlying91
  have hl := hr.2
  rcases hr.form with ⟨rfl, rfl⟩ | ⟨g, cap, rfl, h1, h2, h3, h4, h5⟩
  · clear hr
    go_enter Tryz.func63, Tryz.ntmps63
    go_wp2_with fail
    go_ret
    exact ⟨_, rfl, RowP.nil _ _, Below.refl _ _⟩
  · have HRG : Hid (∀ W, Below w.heap.size w W → W.rangeAt g 0 (ptsV D)) := Lib.hid (fun W hb => range_belowC h5 hb h2)
    have HLE : Hid (([] : List Nat).length + D.length ≤ 1000) := Lib.hid (by simpa using hl)
    clear hr hl h1 h2 h3 h4 h5
    obtain ⟨N, hN⟩ : ∃ N, D.length = N := ⟨_, rfl⟩
    have HM : Hid (N = D.length) := Lib.hid hN.symm
    rw [hN]
    clear hN
    go_enter Tryz.func63, Tryz.ntmps63
    go_wp2_with (first
      | (refine build_stepPt0 rfl rfl (fun W HW => ?_); have HE : Hid (RowP W w.heap.size (.slice (some ⟨w.heap.size, 0, none⟩) 0 0) []) := Lib.hid (by rw [HW.out]; exact rowP_empty w); have HB : Hid (Below w.heap.size w W) := Lib.hid (by rw [HW.out]; exact (Below.refl _ _).alloc (Nat.le_refl _) _); have HS : Hid (w.heap.size ≤ W.heap.size) := Lib.hid HB.out.size; have HX := Lib.hid (HRG.out W HB.out))
      | (at_builtin; refine wpList_plain rfl (fun K hK => wp_append_pts (l := []) (m := D) HE HX (Lib.hid ⟨HLE.out, HS.out⟩) _ _ rfl rfl (by rw [← HM.out]; rfl) (fun v2 w4 HO HG => hK _ _ ?_))))
    go_ret
    refine ⟨v2, rfl, ?_, HB.out.grown HG.out HB.out.size (fun k hk => by cases hk; exact Nat.le_refl _)⟩
    have := HO.out
    rwa [List.nil_append] at this
end Go.Proofs.YtedmkdjijhflnaaGreat
namespace Go.Proofs.YtedmkdjijhflnaaGreat
open Go.RowKit

def prefL (f : Int) (bs : List Nat) (n : Int) : List Value := addrL f bs ++ [Value.int .i64 n]
def prefV (f : Int) (bs : List Nat) (n : Int) : Value := .agg (prefL f bs n).toArray
structure PrefAt (w : World) (G : Nat) (f : Int) (bs : List Nat) (n : Int) : Prop where
  addr : AddrAt w G f bs
  bits : w.cell? ⟨G, 17, none⟩ = some (.int .i64 n)
  live : w.frozen? ⟨G, 17, none⟩ = false
section
variable {w w' : World} {G : Nat} {f : Int} {bs : List Nat} {n : Int}
end
abbrev zP : Array Value := #[.int .i64 0, .int .u8 0, .int .u8 0, .int .u8 0, .int .u8 0, .int .u8 0, .int .u8 0, .int .u8 0, .int .u8 0, .int .u8 0, .int .u8 0, .int .u8 0, .int .u8 0, .int .u8 0, .int .u8 0, .int .u8 0, .int .u8 0, .int .i64 0]
def InP (L : List (Nat × Nat × List Value)) (G : Nat) (f : Int) (bs : List Nat) (n : Int) : Prop := (G, 0, prefL f bs n) ∈ L ∧ bs.length = 16
theorem AllReadyH.one {P : Program} {md : Region.Mode} {ops : Array Oper} {Q : Exit → Act → World → Prop} {S : World → Prop} {fuel : Nat} {listed : Array Bool} {a : Act} {w : World} {i : Nat} {o : Oper} (ho : ops[i]? = some o) (hw : Region.wanted o (yielded ops a.tmps) = true)
    (h : ∀ K' : Act → World → Prop, Shut (∀ a w, S w → (S w → wpAnyH P md ops Q S fuel (listed.setIfInBounds i true) a w) → K' a w) → Oper.wp P o a w K' Q) : AllReadyH P md ops Q S fuel listed a w [i] :=
  AllReadyH.cons ho (fun K hK => by rw [if_pos hw]; exact h K hK) AllReadyH.nil
end Go.Proofs.YtedmkdjijhflnaaGreat
namespace Go.Proofs.YtedmkdjijhflnaaGreat
open Go.RowKit

end Go.Proofs.YtedmkdjijhflnaaGreat
namespace Go.Proofs.YtedmkdjijhflnaaGreat
open Go.RowKit

def flatEv (D : List Ev) : List Value := D.flatMap evL
theorem flatEv_len : ∀ (D : List Ev), (flatEv D).length = D.length * 8
  | [] => rfl
  | e :: es => by
    have h2 := flatEv_len es
    show (evL e ++ flatEv es).length = _
    rw [List.length_append, h2, List.length_cons]
    show 8 + es.length * 8 = _
    omega
theorem flatEv_append (xs ys : List Ev) : flatEv (xs ++ ys) = flatEv xs ++ flatEv ys := by simp [flatEv]
theorem flatEv_one (D : List Ev) : ∀ u ∈ flatEv D, u.oneCell' = true := by
  intro u hu
  obtain ⟨e, he, h2⟩ := List.mem_flatMap.1 hu
  unfold evL at h2
  simp at h2
  rcases h2 with rfl | rfl | rfl | rfl | rfl | rfl | rfl | rfl <;> rfl
abbrev zEv : Array Value := #[.int .i64 0, .int .i64 0, .int .i64 0, .string ⟨#[]⟩, .int .i64 0, .int .i64 0, .slice none 0 0, .int .i64 0]
theorem infoEv : (Tryz.prog.info? 77).map (fun i => (i.zero, i.size, i.bytes)) = some (some (.agg zEv), 8, 88) := by kernel_rfl
def RowEv (w : World) (base : Nat) (v : Value) (D : List Ev) : Prop := w.ownsRow base 77 8 v D.length (flatEv D) ∧ D.length ≤ 1000
theorem RowEv.nil (w : World) (base : Nat) : RowEv w base (.slice none 0 0) [] := ⟨World.ownsRow_nil _ _ _ _, by decide⟩
theorem RowEv.below {w w' : World} {base : Nat} {v : Value} {es : List Ev} (h : RowEv w base v es) (hb : Below w.heap.size w w') : RowEv w' base v es := by
  obtain ⟨⟨h1, h2⟩, h3⟩ := h
  refine ⟨⟨h1, ?_⟩, h3⟩
  rcases h2 with h2 | ⟨g, cap, cur, e1, e2, e3, e4⟩
  · exact .inl h2
  · refine .inr ⟨g, cap, cur, e1, e2, ?_, e4⟩
    have hlt : g < w.heap.size := by
      apply Classical.byContradiction
      intro h
      rw [Array.getElem?_eq_none (by omega)] at e3
      cases e3
    rw [hb.block g hlt]
    exact e3
theorem RowEv.mono {w : World} {base base' : Nat} {v : Value} {es : List Ev} (h : RowEv w base v es) (hb : base' ≤ base) : RowEv w base' v es := by
  obtain ⟨⟨h1, h2⟩, h3⟩ := h
  refine ⟨⟨h1, ?_⟩, h3⟩
  rcases h2 with h2 | ⟨g, cap, cur, e1, e2, e3⟩
  · exact .inl h2
  · exact .inr ⟨g, cap, cur, e1, by omega, e3⟩
theorem RowEv.form {w : World} {base : Nat} {v : Value} {es : List Ev} (h : RowEv w base v es) : (v = .slice none 0 0 ∧ es = []) ∨ ∃ g cap, v = .slice (some ⟨g, 0, none⟩) es.length cap ∧ base ≤ g ∧ g < w.heap.size ∧ es.length ≤ cap ∧ cap ≤ maxLen ∧ w.rangeAt g 0 (flatEv es) := by
  obtain ⟨hr, hle⟩ := h
  obtain ⟨h1, h2⟩ := hr
  rcases h2 with ⟨e1, e2⟩ | ⟨g, cap, cur, e1, e2, e3, e4, e5, e6, e7⟩
  · exact .inl ⟨e1, List.eq_nil_of_length_eq_zero e2⟩
  · refine .inr ⟨g, cap, e1, e2, ?_, e4, e5, fun j u hu => ?_⟩
    · apply Classical.byContradiction
      intro h
      rw [Array.getElem?_eq_none (by omega)] at e3
      cases e3
    · rw [Nat.zero_add, cell_of_row w g j cur _ _ e3, ← Array.getElem?_toList]
      rw [← e7, List.getElem?_take] at hu
      split at hu
      · exact hu
      · cases hu
theorem append_evs {ops : Array Oper} {rest : List Oper} {op : Oper} {a : Act} {w : World} {Q : Exit → Act → World → Prop} {base : Nat} {v : Value} {es : List Ev} (hE : Hid (RowEv w base v es)) (s x : Operand) (hgd : op.guard = none) (ho : op.op = .call { callee := .builtin .append, args := #[s, x], argTypes := #[61, 61] })
    (hs : a.eval s = v) {G o m c : Nat} (ys : List Ev) (hx : a.eval x = .slice (some ⟨G, o, none⟩) m c) (hm : Hid (m = ys.length)) (hr : Hid (w.rangeAt G o (flatEv ys))) (hle : Hid (es.length + ys.length ≤ 1000)) (hbase : Hid (base ≤ w.heap.size))
    (h : ∀ v' w', Hid (RowEv w' base v' (es ++ ys)) → Hid (w.grownBy w' v.ownBlock) → Hid (v'.ownBlock = v.ownBlock ∨ v'.ownBlock = some w.heap.size) → wpList Tryz.prog ops Q rest (a.put op.dst v') w') : wpList Tryz.prog ops Q (op :: rest) a w := by
  obtain ⟨i0, hi0, hz0, hz1, hz2⟩ := info_parts infoEv
  have hml := hm.out
  have hll := hle.out
  refine wpList_append_own_at w hgd s x 61 ho base 77 i0 _ 8 88 Tryz.underlying61 hi0 hz0 hz1 hz2 rfl (by decide) v es.length (flatEv es) hs hE.out.1 ⟨G, o, none⟩ m c (flatEv ys) hx (by rw [flatEv_len ys, hml]) (fun j u hu => ?_) (flatEv_one ys) (by unfold maxLen; omega) (by omega) hbase.out (fun v' w' h1 h2 _ h4 => ?_)
  · have := hr.out j u hu
    have hadd : (⟨G, o, none⟩ : Addr).add j = ⟨G, o + j, none⟩ := by unfold Addr.add; split <;> simp_all
    rw [hadd]
    exact this
  · refine h v' w' (Lib.hid ⟨?_, ?_⟩) (Lib.hid h2) (Lib.hid h4)
    · rw [List.length_append, flatEv_append, ← hml]; exact h1
    · rw [List.length_append]; exact hll
theorem fillEv (q : Ev) : Instr.fill (fun i => some (i * 8, 8)) ((Array.range (1 * 8)).map fun j => zEv[j % zEv.size]!) [(0, evV q)] = some (evL q).toArray := by
  kernel_rfl
theorem run_buildEv (q : Ev) (w : World) : (Instr.buildSlice 61 1 #[(0, evV q)]).run Tryz.prog w = .ok (.slice (some ⟨w.heap.size, 0, none⟩) 1 1) (w.alloc (.cells (evL q).toArray 77)) := by
  obtain ⟨i0, hi0, hz0, hz1, hz2⟩ := info_parts infoEv
  have hf := fillEv q
  obtain ⟨Z, hZ⟩ : ∃ Z : Array Value, zEv = Z := ⟨_, rfl⟩
  rw [hZ] at hf hz0
  have hsz : (sizeOf 77).run Tryz.prog w = .ok 8 w := by simp [sizeOf, typeInfo, hi0, hz1]
  have hzv : (zeroValue 77).run Tryz.prog w = .ok (.agg Z) w := by simp [zeroValue, typeInfo, hi0, hz0]
  have hnr : ∀ cs : Array Value, (newRow 77 cs).run Tryz.prog w = .ok ⟨w.heap.size, 0, none⟩ (w.alloc (.cells cs 77)) := fun cs => by simp [newRow]
  have hu : (underlying 61).run Tryz.prog w = .ok _ w := run_underlying Tryz.underlying61 w
  have hfc : Instr.fill (fun i => some (i * 8, 8)) ((Array.range (1 * 8)).map fun j => (Value.agg Z).cells[j % (Value.agg Z).cells.size]!) (#[(0, evV q)] : Array (Nat × Value)).toList = some (evL q).toArray := hf
  unfold Instr.buildSlice
  simp only [Sem.run_bind, hu, Result.andThen_ok, hsz, if_neg (show ¬ (1 * 8 > 2 ^ 24) by decide), Sem.run_pure, if_neg (show ¬ (1 * 8 = 0) by decide), hzv, hfc, hnr]
theorem build_evS {ops : Array Oper} {rest : List Oper} {op : Oper} {a : Act} {w : World} {Q : Exit → Act → World → Prop} {q : Ev} (hg : op.guard = none) (x : Operand) (ho : op.op = .buildSlice 61 1 #[(0, x)])
    (hx : a.eval x = evV q) (h : ∀ W, Hid (W = w.alloc (.cells (evL q).toArray 77)) → wpList Tryz.prog ops Q rest (a.put op.dst (.slice (some ⟨w.heap.size, 0, none⟩) 1 1)) W) : wpList Tryz.prog ops Q (op :: rest) a w := by
  refine wpList_plain hg fun K hK => ?_
  unfold Oper.wp execOp
  simp only [ho, List.map_toArray, List.map_cons, List.map_nil, hx, Sem.run_bind, run_buildEv q w, Result.andThen_ok]
  exact hK _ _ (h _ (Lib.hid rfl))
end Go.Proofs.YtedmkdjijhflnaaGreat
namespace Go.Proofs.YtedmkdjijhflnaaGreat
open Go.RowKit

theorem fillA16 (f : Int) (b0 b1 b2 b3 b4 b5 b6 b7 b8 b9 b10 b11 b12 b13 b14 b15 : Nat) : Instr.fill (fun i => some (i * 17, 17)) ((Array.range (1 * 17)).map fun j => zAd[j % zAd.size]!) [(0, addrV f [b0, b1, b2, b3, b4, b5, b6, b7, b8, b9, b10, b11, b12, b13, b14, b15])] = some (adL (f, [b0, b1, b2, b3, b4, b5, b6, b7, b8, b9, b10, b11, b12, b13, b14, b15])).toArray := by kernel_rfl
theorem fillA1 (r : Ad) (h : r.2.length = 16) : Instr.fill (fun i => some (i * 17, 17)) ((Array.range (1 * 17)).map fun j => zAd[j % zAd.size]!) [(0, addrV r.1 r.2)] = some (adL r).toArray := by
  obtain ⟨f, bs⟩ := r
  match bs, h with
  | [b0, b1, b2, b3, b4, b5, b6, b7, b8, b9, b10, b11, b12, b13, b14, b15], _ => exact fillA16 f b0 b1 b2 b3 b4 b5 b6 b7 b8 b9 b10 b11 b12 b13 b14 b15
theorem run_buildA1 (r : Ad) (h16 : r.2.length = 16) (w : World) : (Instr.buildSlice 45 1 #[(0, addrV r.1 r.2)]).run Tryz.prog w = .ok (.slice (some ⟨w.heap.size, 0, none⟩) 1 1) (w.alloc (.cells (adL r).toArray 69)) := by
  obtain ⟨i0, hi0, hz0, hz1, hz2⟩ := info_parts infoA
  have hf := fillA1 r h16
  obtain ⟨Z, hZ⟩ : ∃ Z : Array Value, zAd = Z := ⟨_, rfl⟩
  rw [hZ] at hf hz0
  have hsz : (sizeOf 69).run Tryz.prog w = .ok 17 w := by simp [sizeOf, typeInfo, hi0, hz1]
  have hzv : (zeroValue 69).run Tryz.prog w = .ok (.agg Z) w := by simp [zeroValue, typeInfo, hi0, hz0]
  have hnr : ∀ cs : Array Value, (newRow 69 cs).run Tryz.prog w = .ok ⟨w.heap.size, 0, none⟩ (w.alloc (.cells cs 69)) := fun cs => by simp [newRow]
  have hu : (underlying 45).run Tryz.prog w = .ok _ w := run_underlying Tryz.underlying45 w
  have hfc : Instr.fill (fun i => some (i * 17, 17)) ((Array.range (1 * 17)).map fun j => (Value.agg Z).cells[j % (Value.agg Z).cells.size]!) (#[(0, addrV r.1 r.2)] : Array (Nat × Value)).toList = some (adL r).toArray := hf
  unfold Instr.buildSlice
  simp only [Sem.run_bind, hu, Result.andThen_ok, hsz, if_neg (show ¬ (1 * 17 > 2 ^ 24) by decide), Sem.run_pure, if_neg (show ¬ (1 * 17 = 0) by decide), hzv, hfc, hnr]
theorem load_ad {ops : Array Oper} {rest : List Oper} {op : Oper} {a : Act} {w : World} {Q : Exit → Act → World → Prop} {G o : Nat} {r : Ad} (h16 : Hid (r.2.length = 16)) (hA : Hid (w.rangeAt G o (adL r))) (x : Operand) (hw : Region.wanted op (yielded ops a.tmps) = true) (ho : op.op = .load 69 x)
    (hx : a.eval x = .pointer (some ⟨G, o, none⟩)) (h : wpList Tryz.prog ops Q rest (a.put op.dst (addrV r.1 r.2)) w) : wpList Tryz.prog ops Q (op :: rest) a w :=
  wpList_load_row hw 69 x ho G o hx (addrL r.1 r.2) _ hA.out Tryz.underlying69 rfl (by rw [addr_size, addrL_len r.1 r.2 h16.out]) h
theorem build_adM {ops : Array Oper} {rest : List Oper} {op : Oper} {a : Act} {w : World} {Q : Exit → Act → World → Prop} {r : Ad} (h16 : Hid (r.2.length = 16)) (hg : op.guard = none) (x : Operand) (ho : op.op = .buildSlice 45 1 #[(0, x)])
    (hx : a.eval x = addrV r.1 r.2) (h : ∀ W, Hid (W = w.alloc (.cells (adL r).toArray 69)) → wpList Tryz.prog ops Q rest (a.put op.dst (.slice (some ⟨w.heap.size, 0, none⟩) 1 1)) W) : wpList Tryz.prog ops Q (op :: rest) a w := by
  refine wpList_plain hg fun K hK => ?_
  unfold Oper.wp execOp
  simp only [ho, List.map_toArray, List.map_cons, List.map_nil, hx, Sem.run_bind, run_buildA1 r h16.out w, Result.andThen_ok]
  exact hK _ _ (h _ (Lib.hid rfl))
theorem ad_range (w : World) (r : Ad) : (w.alloc (.cells (adL r).toArray 69)).rangeAt w.heap.size 0 (flatA [r]) := by
  have := (CellsAt.new w 69 (adL r)).range
  rw [show flatA [r] = adL r from List.append_nil _]
  exact this
theorem results_of {w : World} {fn : Func} {a : Tmp} {tmps : Array Value} {R : Nat} {t : TypeId} {d : TypeDesc} {vs : List Value} (h : fn.results = #[.cell a t]) (ha : tmps.getD a undef = .pointer (some ⟨R, 0, none⟩)) (hA : CellsAt w R vs) (hu : Tryz.prog.underlying t = some d) (hd : d.isRow = true) (hl : (Tryz.prog.info? t).map (·.size) = some vs.length) : (results fn tmps).run Tryz.prog w = .ok (.agg vs.toArray) w := by
  rw [Array.getD_eq_getD_getElem?] at ha
  have := run_loadVar_mid w R 0 t vs _ hA.range hu hd hl
  simp [results, h, ha, asAddr, this]
theorem store_of {ops : Array Oper} {rest : List Oper} {op : Oper} {a : Act} {w : World} {Q : Exit → Act → World → Prop} {G : Nat} {us vs : List Value} {t : TypeId} {n : Nat} (hA : Hid (CellsAt w G us)) (hu : us.length = n) (hi : (Tryz.prog.info? t).map (·.size) = some n) (x y : Operand) (hgd : op.guard = none) (ho : op.op = .store t x y)
    (hx : a.eval x = .pointer (some ⟨G, 0, none⟩)) (hy : a.eval y = .agg vs.toArray) (hl : vs.length = n) (h1 : vs.all (fun u => u.oneCell') = true) (h : ∀ W, Hid (W = w.setCells G 0 vs) → Hid (CellsAt W G vs) → wpList Tryz.prog ops Q rest (a.put op.dst undef) W) : wpList Tryz.prog ops Q (op :: rest) a w :=
  wpList_store_mid hgd t x y ho G 0 vs.toArray hx hy (by rw [List.size_toArray, hl, ← hu]; exact hA.out.there) (by rw [hi, List.size_toArray, hl]) (all_oneCell_toArray (List.all_eq_true.1 h1)) (h _ (Lib.hid rfl) (Lib.hid (hA.out.stored vs (hl.trans hu.symm))))
theorem heap_setCell_otherM (w : World) (G o : Nat) (v : Value) (k : Nat) (h : k ≠ G) : (w.setCell ⟨G, o, none⟩ v).heap[k]? = w.heap[k]? := by
  simp [World.setCell, Array.getElem?_modify, Ne.symm h]
theorem heap_setCells_other (G : Nat) : ∀ (vs : List Value) (o : Nat) (w : World) (k : Nat), k ≠ G → (w.setCells G o vs).heap[k]? = w.heap[k]?
  | [], _, _, _, _ => rfl
  | v :: r, o, w, k, h => by rw [World.setCells, heap_setCells_other G r _ _ k h, heap_setCell_otherM _ _ _ _ _ h]
end Go.Proofs.YtedmkdjijhflnaaGreat
namespace Go.Proofs.YtedmkdjijhflnaaGreat
open Go.RowKit

theorem yields_build {ops : Array Oper} {S : World → Prop} {op : Oper} {a : Act} {t : TypeId} {parts : Array (Nat × Operand)} {vals : List (Nat × Value)} {cs : Array Value} (hw : Region.wanted op (yielded ops a.tmps) = true) (ho : op.op = .build t parts) (hb : Tryz.prog.built t vals = some cs) (hv : (parts.map fun (i, x) => (i, a.eval x)).toList = vals) : YieldsIf Tryz.prog ops S op (.agg cs) a := by
  refine .inl ⟨hw, fun w _ => ?_⟩
  unfold execOp
  rw [← hv] at hb
  simp only [ho, Sem.run_bind, run_build w t _ cs hb, Result.andThen_ok]
  rfl
theorem yields_row {ops : Array Oper} {S : World → Prop} {op : Oper} {a : Act} {G o : Nat} {t : TypeId} {d : TypeDesc} {vs : List Value} (hS : Hid (∀ w, S w → w.rangeAt G o vs)) (hu : Tryz.prog.underlying t = some d) (hd : d.isRow = true) (hi : (Tryz.prog.info? t).map (·.size) = some vs.length) (hw : Region.wanted op (yielded ops a.tmps) = true) (x : Operand) (ho : op.op = .load t x) (hx : a.eval x = .pointer (some ⟨G, o, none⟩)) : YieldsIf Tryz.prog ops S op (.agg vs.toArray) a :=
  yieldsIf_load_mid hw t x ho G o hx vs _ (fun w h => hS.out w h) hu hd hi
theorem wp_store_of {op : Oper} {a : Act} {w : World} {K : Act → World → Prop} {Q : Exit → Act → World → Prop} {G : Nat} {us vs : List Value} {t : TypeId} {n : Nat} (hA : Hid (CellsAt w G us)) (hu : us.length = n) (hi : (Tryz.prog.info? t).map (·.size) = some n) (x y : Operand) (ho : op.op = .store t x y)
    (hx : a.eval x = .pointer (some ⟨G, 0, none⟩)) (hy : a.eval y = .agg vs.toArray) (hl : vs.length = n) (h1 : vs.all (fun u => u.oneCell') = true) (hg : op.guard = none) (h : ∀ W, Hid (W = w.setCells G 0 vs) → Hid (CellsAt W G vs) → K (a.put op.dst undef) W) : op.wp Tryz.prog a w K Q :=
  wp_store_mid t x y ho G 0 vs.toArray hx hy (by rw [List.size_toArray, hl, ← hu]; exact hA.out.there) (by rw [hi, List.size_toArray, hl]) (all_oneCell_toArray (List.all_eq_true.1 h1)) (h _ (Lib.hid rfl) (Lib.hid (hA.out.stored vs (hl.trans hu.symm))))
end Go.Proofs.YtedmkdjijhflnaaGreat
namespace Go.Proofs.YtedmkdjijhflnaaGreat
open Go.RowKit

theorem ev_size : (Tryz.prog.info? 77).map (·.size) = some 8 := by kernel_rfl
theorem lk_size : (Tryz.prog.info? 112).map (·.size) = some 10 := by kernel_rfl
theorem qy_size : (Tryz.prog.info? 74).map (·.size) = some 4 := by kernel_rfl
def evZ : List Value := [Value.int .i64 0, .int .i64 0, .int .i64 0, .string ⟨#[]⟩, .int .i64 0, .int .i64 0, .slice none 0 0, .int .i64 0]
theorem idOf_any (d : Int) (w : World) (hd : (Lit.int .i64 d).wf = true) : Calls Tryz.prog 90 #[.int .i64 d] w fun e w' => e = .returned (.int .i64 (idP d)) ∧ w' = w := by
  have hb := bounds_i64 hd
  by_cases h : d < 0
  · have e : idP d = (-1 - d) % 65536 := by unfold idP; rw [if_pos h]
    rw [e]
    have hx : IntKind.i64.wrap (-1 - d) = -1 - d := by rw [IntKind.wrap_i64]; omega
    have hr : IntKind.i64.wrap ((-1 - d).tmod 65536) = (-1 - d) % 65536 := by
      rw [Int.tmod_eq_emod_of_nonneg (by omega), IntKind.wrap_i64]
      omega
    go_enter Tryz.func90, Tryz.ntmps90
    go_wp2_with fail
    go_ret
    exact ⟨rfl, rfl⟩
  · have e : idP d = d % 65536 := by unfold idP; rw [if_neg h]
    rw [e]
    go_enter Tryz.func90, Tryz.ntmps90
    go_wp2_with fail
    go_ret
    exact ⟨rfl, rfl⟩
def Blk (w : World) (g : Nat) : Prop := ∃ cur t, w.heap[g]? = some (.cells cur t (0, 0))
theorem Blk.lt {w : World} {g : Nat} (h : Blk w g) : g < w.heap.size := by
  obtain ⟨cur, t, e⟩ := h
  exact (Array.getElem?_eq_some_iff.1 e).1
theorem Blk.kept {w w' : World} {g : Nat} (h : Blk w g) (hk : w'.heap[g]? = w.heap[g]?) : Blk w' g := by
  obtain ⟨cur, t, e⟩ := h
  exact ⟨cur, t, hk.trans e⟩
theorem Blk.below {w w' : World} {g : Nat} (h : Blk w g) (hb : Below w.heap.size w w') : Blk w' g := h.kept (hb.block g h.lt)
theorem Blk.new (w : World) (cs : Array Value) (t : TypeId) : Blk (w.alloc (.cells cs t)) w.heap.size := ⟨cs, t, by show (w.heap.push _)[w.heap.size]? = _; simp⟩
theorem Blk.set {w : World} {g : Nat} (h : Blk w g) (k : Nat) (v : Value) : Blk (w.setCell ⟨g, k, none⟩ v) g := by
  obtain ⟨cur, t, e⟩ := h
  exact ⟨_, t, heap_setCell_same w g k cur t v e⟩
theorem zeroEv (w : World) (t : TypeId) : CellsAt (w.alloc (.cells #[.int .i64 0, .int .i64 0, .int .i64 0, .string ⟨#[]⟩, .int .i64 0, .int .i64 0, .slice none 0 0, .int .i64 0] t)) w.heap.size evZ := CellsAt.new w t evZ
theorem failed_any (n x : Int) (w : World) : Calls Tryz.prog 51 #[.int .i64 n, .int .i64 x] w fun e w' => e = .returned (evV (evF n x)) ∧ Below w.heap.size w w' := by
  have HZ := Lib.hid (zeroEv w 77)
  obtain ⟨W, hW⟩ : ∃ W, w.alloc (.cells #[.int .i64 0, .int .i64 0, .int .i64 0, .string ⟨#[]⟩, .int .i64 0, .int .i64 0, .slice none 0 0, .int .i64 0] 77) = W := ⟨_, rfl⟩
  have HB : Hid (Below w.heap.size w W) := Lib.hid (by rw [← hW]; exact (Below.refl _ _).alloc (Nat.le_refl _) _)
  rw [hW] at HZ
  go_enter Tryz.func51, Tryz.ntmps51
  go_upto_region 1 with fail
  try rw [hW]
  clear hW
  go_wp2_with (refine store_of HZ rfl ev_size _ _ rfl rfl rfl (vs := evL (evF n x)) rfl rfl rfl (fun U HU HUC => ?_))
  refine bodyPost_ret (results_of Tryz.results51 rfl HUC.out Tryz.underlying77 rfl ev_size) rfl ⟨rfl, ?_⟩
  rw [HU.out]
  exact below_cells (Nat.le_refl _) _ _ _ HB.out
theorem done_any (n : Int) (a : Option Addr) (m c : Nat) (w : World) : Calls Tryz.prog 52 #[.int .i64 n, .slice a m c] w fun e w' => e = .returned (evV (evD n a m c)) ∧ Below w.heap.size w w' := by
  have HZ := Lib.hid (zeroEv w 77)
  obtain ⟨W, hW⟩ : ∃ W, w.alloc (.cells #[.int .i64 0, .int .i64 0, .int .i64 0, .string ⟨#[]⟩, .int .i64 0, .int .i64 0, .slice none 0 0, .int .i64 0] 77) = W := ⟨_, rfl⟩
  have HB : Hid (Below w.heap.size w W) := Lib.hid (by rw [← hW]; exact (Below.refl _ _).alloc (Nat.le_refl _) _)
  rw [hW] at HZ
  go_enter Tryz.func52, Tryz.ntmps52
  go_upto_region 1 with fail
  try rw [hW]
  clear hW
  go_wp2_with (refine store_of HZ rfl ev_size _ _ rfl rfl rfl (vs := evL (evD n a m c)) rfl rfl rfl (fun U HU HUC => ?_))
  refine bodyPost_ret (results_of Tryz.results52 rfl HUC.out Tryz.underlying77 rfl ev_size) rfl ⟨rfl, ?_⟩
  rw [HU.out]
  exact below_cells (Nat.le_refl _) _ _ _ HB.out
theorem foot_set {w W : World} {g : Nat} (h : Foot [g] [g] w W) (k : Nat) (v : Value) : Foot [g] [g] w (W.setCell ⟨g, k, none⟩ v) := by
  have h2 := foot_cells (w := W) g k [v]
  exact h.trans h2
theorem foot_new {F F' : List Nat} {w W : World} (h : Foot F F' w W) {o : Nat} {vs : List Value} (ho : w.heap.size ≤ o) : Foot F F' w (W.setCells o 0 vs) := by
  have h2 := foot_cells (w := W) o 0 vs
  exact ⟨h2.os.trans h.os, h2.tape.trans h.tape, h2.output.trans h.output, Nat.le_trans h.size h2.size, fun k hk hn => (h2.keep k (Nat.lt_of_lt_of_le hk h.size) (by simp; omega)).trans (h.keep k hk hn), h.new⟩
set_option maxRecDepth 100000 in
set_option maxHeartbeats 1000000 in
theorem send_any (G g : Nat) (c : Cfg) (l : Lk) (draw now : Int) (w : World) (hw : w.cell? ⟨G, 3, none⟩ = some (.int .i64 c.wt)) (hG : G < w.heap.size) (hg : CellsAt w g (lkL l)) (hbk : Blk w g) (hne : G ≠ g) (hd : (Lit.int .i64 draw).wf = true) (h0 : 0 ≤ now) (h1 : now ≤ 2199023255552) (hc : c.Ok) :
    Calls Tryz.prog 53 #[.pointer (some ⟨G, 0, none⟩), .pointer (some ⟨g, 0, none⟩), .int .i64 draw, .int .i64 now] w fun e w' => e = .returned (evV (evS (sendL c l draw now))) ∧ CellsAt w' g (lkL (sendL c l draw now)) ∧ Blk w' g ∧ Foot [g] [g] w w' := by
  have HID := fun W => Lib.hid (idOf_any draw W hd)
  obtain ⟨i, hi⟩ : ∃ i, idP draw = i := ⟨_, rfl⟩
  obtain ⟨wt, hwt⟩ : ∃ wt, c.wt = wt := ⟨_, rfl⟩
  obtain ⟨u, hu⟩ : ∃ u, now + wt = u := ⟨_, rfl⟩
  have hwr : IntKind.i64.wrap (now + wt) = u := by have := hc.w1; have := hc.w2; rw [IntKind.wrap_i64]; omega
  have e1 : sendL c l draw now = { l with q := { l.q with id := i }, un := u } := by unfold sendL; rw [hi, hwt, hu]
  rw [e1]
  rw [hi] at HID
  rw [hwt] at hw
  clear e1 hi hd h0 h1 hc hwt hu
  obtain ⟨n, nm, ⟨qi, qn, qt, qs⟩, se, un, st, tt⟩ := l
  simp only [lkL] at hg
  have HZ := Lib.hid (zeroEv w 77)
  obtain ⟨W, hW⟩ : ∃ W, w.alloc (.cells #[.int .i64 0, .int .i64 0, .int .i64 0, .string ⟨#[]⟩, .int .i64 0, .int .i64 0, .slice none 0 0, .int .i64 0] 77) = W := ⟨_, rfl⟩
  have hb : Below w.heap.size w W := by rw [← hW]; exact (Below.refl _ _).alloc (Nat.le_refl _) _
  rw [hW] at HZ
  obtain ⟨R, hR⟩ : ∃ R, w.heap.size = R := ⟨_, rfl⟩
  have HRR := Lib.hid hR
  have hgl : g < R := by rw [← hR]; exact hg.lt
  have HK : Hid (Blk W g) := Lib.hid (hbk.below hb)
  have HF : Hid (Foot [g] [g] w W) := Lib.hid (Foot.ofBelow [g] hb)
  have HC : Hid (CellsAt W g [.int .i64 n, .string nm, .int .i64 qi, .string qn, .int .i64 qt, .int .i64 qs, .int .i64 se, .int .i64 un, .int .i64 st, .int .i64 tt]) := Lib.hid (hg.below hb)
  have HW3 : Hid (W.cell? ⟨G, 3, none⟩ = some (.int .i64 wt)) := Lib.hid ((hb.cell (p := ⟨G, 3, none⟩) hG).trans hw)
  rw [hR] at HZ
  have HGL := Lib.hid hgl
  have HNE := Lib.hid hne
  clear hw hG hg hb hgl hne hbk
  go_enter Tryz.func53, Tryz.ntmps53
  go_upto_region 1 with fail
  try rw [hW]
  try rw [hR]
  clear hW hR
  have hc2 := HC.out.cell 2 _ rfl
  have hf2 := HC.out.live 2 (show 2 < 10 by decide)
  go_wp2_with fail
  refine (HID _).out.mono ?_
  rintro e wq ⟨rfl, hwq⟩
  obtain rfl : W = wq := hwq.symm
  clear hwq
  go_upto_region 2 with fail
  have HC2 := Lib.hid (HC.out.set 2 (.int .i64 i) (show 2 < 10 by decide))
  have HF2 := Lib.hid (foot_set HF.out 2 (.int .i64 i))
  have HK2 := Lib.hid (HK.out.set 2 (.int .i64 i))
  have HZ2 := Lib.hid (HZ.out.other (G' := g) (by have := HGL.out; omega) 2 (.int .i64 i))
  have HW4 : Hid ((W.setCell ⟨g, 2, none⟩ (.int .i64 i)).cell? ⟨G, 3, none⟩ = some (.int .i64 wt)) := Lib.hid (by rw [World.cell?_setCell_other _ _ _ _ (by intro h2; injection h2 with h3 _ _; exact HNE.out h3.symm)]; exact HW3.out)
  simp only [List.set_cons_succ, List.set_cons_zero] at HC2
  clear hc2 hf2 HC HF HZ HW3 HK
  generalize W.setCell ⟨g, 2, none⟩ (.int .i64 i) = W2 at *
  have hw3 := HW4.out
  have hc7 := HC2.out.cell 7 _ rfl
  have hf7 := HC2.out.live 7 (show 7 < 10 by decide)
  go_upto_region 3 with fail
  have HC3 := Lib.hid (HC2.out.set 7 (.int .i64 u) (show 7 < 10 by decide))
  have HF3 := Lib.hid (foot_set HF2.out 7 (.int .i64 u))
  have HK3 := Lib.hid (HK2.out.set 7 (.int .i64 u))
  have HZ3 := Lib.hid (HZ2.out.other (G' := g) (by have := HGL.out; omega) 7 (.int .i64 u))
  simp only [List.set_cons_succ, List.set_cons_zero] at HC3
  clear hw3 hc7 hf7 HC2 HF2 HZ2 HW4 HK2
  generalize W2.setCell ⟨g, 7, none⟩ (.int .i64 u) = W3 at *
  obtain ⟨S, hS⟩ : ∃ S : World → Prop, (fun V => V.cell? ⟨g, 0, none⟩ = some (.int .i64 n) ∧ V.rangeAt g 2 [.int .i64 i, .string qn, .int .i64 qt, .int .i64 qs]) = S := ⟨_, rfl⟩
  have C1 : Hid (∀ w', S w' → w'.cell? ⟨g, 0, none⟩ = some (.int .i64 n)) := Lib.hid (fun w' h => by rw [← hS] at h; exact h.1)
  have C2 : Hid (∀ w', S w' → w'.rangeAt g 2 [.int .i64 i, .string qn, .int .i64 qt, .int .i64 qs]) := Lib.hid (fun w' h => by rw [← hS] at h; exact h.2)
  have HS0 : Hid (S W3.drew) := Lib.hid (by
    rw [← hS]
    refine ⟨HC3.out.cell 0 _ rfl, fun j v hv => ?_⟩
    have hj : j < 4 := by
      apply Classical.byContradiction
      intro h2
      rw [List.getElem?_eq_none (by show 4 ≤ j; omega)] at hv
      cases hv
    refine HC3.out.cell (2 + j) v ?_
    have : j = 0 ∨ j = 1 ∨ j = 2 ∨ j = 3 := by omega
    rcases this with rfl | rfl | rfl | rfl <;> exact hv)
  have HS1 : Hid (∀ U, U = W3.drew.setCells R 0 (evL ⟨0, n, ⟨i, qn, qt, qs⟩, none, 0, 0, 0⟩) → S U) := Lib.hid (fun U hU => by
    have h := HS0.out
    rw [← hS] at h ⊢
    have hgl := HGL.out
    rw [hU]
    refine ⟨?_, World.rangeAt_setCells_apart h.2 _ _ _ (.inl (by omega))⟩
    have h4 : W3.drew.rangeAt g 0 [.int .i64 n] := fun j v hv => by
      match j, hv with
      | 0, hv => rw [Nat.add_zero, h.1]; exact hv
      | j + 1, hv => simp at hv
    have := World.rangeAt_setCells_apart h4 R 0 (evL ⟨0, n, ⟨i, qn, qt, qs⟩, none, 0, 0, 0⟩) (.inl (by omega))
    exact this 0 _ rfl)
  clear hS
  have HBV : Tryz.prog.built 77 [(0, .int .i64 0), (1, .int .i64 n), (2, .agg #[.int .i64 i, .string qn, .int .i64 qt, .int .i64 qs])] = some (evL ⟨0, n, ⟨i, qn, qt, qs⟩, none, 0, 0, 0⟩).toArray := rfl
  refine wp_region_noPanic ?_
  refine wp_region_held_drew (S := S) (by kernel_rfl) HS0.out (fun hHeld => ?_)
  refine tkT 0 ?_ rfl (Or.inl ⟨by rfl, ?_⟩) ?_
  rotate_left
  · (intro w hSw; go_simp; try (with_reducible rfl))
  try simp only [Act.put, pZ]
  refine tkT 1 ?_ rfl (Or.inl ⟨by rfl, ?_⟩) ?_
  rotate_left
  · (intro w hSw; go_simp; try (with_reducible rfl))
  try simp only [Act.put, pZ]
  refine tkT 2 ?_ rfl (Or.inl ⟨by rfl, ?_⟩) ?_
  rotate_left
  · (intro w hSw; go_simp; try (with_reducible rfl))
  try simp only [Act.put, pZ]
  refine tkT 3 ?_ rfl (Or.inl ⟨by rfl, ?_⟩) ?_
  rotate_left
  · (intro w hSw; have hc0 := C1.out w hSw; go_simp; try (with_reducible rfl))
  try simp only [Act.put, pZ]
  refine tkT 4 ?_ rfl (Or.inl ⟨by rfl, ?_⟩) ?_
  rotate_left
  · (intro w hSw; go_simp; try (with_reducible rfl))
  try simp only [Act.put, pZ]
  refine tkT 5 ?_ rfl (Or.inl ⟨by rfl, ?_⟩) ?_
  rotate_left
  · (intro w hSw; go_simp; try (with_reducible rfl))
  try simp only [Act.put, pZ]
  refine tkT 6 ?_ rfl (Or.inl ⟨by rfl, ?_⟩) ?_
  rotate_left
  · (intro w hSw; go_simp; try (with_reducible rfl))
  try simp only [Act.put, pZ]
  refine wpAnyH_take (i := 7) rfl (by kernel_rfl) (by kernel_rfl) (by kernel_rfl) (fun _ _ _ h => h) (yields_row C2 Tryz.underlying74 rfl qy_size rfl _ rfl rfl) (by assumption) ?_
  try simp only [Act.put, pZ]
  refine wpAnyH_take (i := 8) rfl (by kernel_rfl) (by kernel_rfl) (by kernel_rfl) (fun _ _ _ h => h) (yields_build (by rfl) rfl HBV (by simp only [List.map_toArray, List.map_cons, List.map_nil]; rfl)) (by assumption) ?_
  try simp only [Act.put, pZ]
  have HZD : Hid (CellsAt W3.drew R evZ) := Lib.hid (HZ3.out.below (Below.refl _ _).drew)
  refine wpAnyH_ready (rs := [9]) (by kernel_rfl) (by simp) ?_
  refine AllReadyH.one rfl rfl (fun K hK => ?_)
  refine wp_store_of HZD rfl ev_size _ _ rfl rfl rfl (vs := evL ⟨0, n, ⟨i, qn, qt, qs⟩, none, 0, 0, 0⟩) rfl rfl rfl (fun U HU HUC => ?_)
  refine hK.out _ _ (HS1.out U HU.out) (fun hHeld2 => ?_)
  clear hK K
  try simp only [Act.put, pZ]
  refine wpAnyH_done (by kernel_rfl) ?_ _
  refine NoPanic.normal ?_
  clear hHeld hHeld2 C1 C2
  go_wp2_with fail
  refine bodyPost_ret (results_of Tryz.results53 rfl HUC.out Tryz.underlying77 rfl ev_size) rfl ⟨rfl, ?_, ?_, ?_⟩
  · rw [HU.out]
    have hgl := HGL.out
    exact (HC3.out.below (Below.refl _ _).drew).apart (by omega) _
  · rw [HU.out]
    have hgl := HGL.out
    exact (HK3.out.below (Below.refl _ _).drew).kept (blk_cells _ _ _ _ _ (by omega))
  · rw [HU.out]
    have h3 := HF3.out
    exact foot_new (W := W3.drew) ⟨h3.os, h3.tape, h3.output, h3.size, h3.keep, h3.new⟩ (by have := HRR.out; omega)
end Go.Proofs.YtedmkdjijhflnaaGreat
namespace Go.Proofs.YtedmkdjijhflnaaGreat
open Go.RowKit Go.Sort Go.Shelf

def OkP (w : World) (b : Nat) (x : Option Nat) : Prop := ∀ g, x = some g → g ≠ b ∧ Blk w g
def PtIn (w : World) (b : Nat) : Type := { x : Option Nat // OkP w b x }
instance (w : World) (b : Nat) : Inhabited (PtIn w b) := ⟨⟨none, fun g h => by cases h⟩⟩
def encO : Option Nat → Value
  | none => .pointer none
  | some g => ptV g
def encP {w : World} {b : Nat} (x : PtIn w b) : Value := encO x.1
theorem encP_one {w : World} {b : Nat} : OneCell (encP (w := w) (b := b)) := fun x => by
  obtain ⟨x, hx⟩ := x
  cases x <;> rfl
def isP {w : World} {b : Nat} (g : Nat) (x : PtIn w b) : Bool := decide (x.1 = some g)
theorem lk_there : ∃ j, Tryz.prog.info? 112 = some j ∧ j.size ≠ 0 := by
  have h := lk_size
  cases hj : Tryz.prog.info? 112 with
  | none => rw [hj] at h; cases h
  | some j => rw [hj] at h; exact ⟨j, rfl, by simp at h; omega⟩
theorem run_eql_nil_ptr {P : Program} (w : World) {t te : TypeId} (a : Addr) (hp : P.underlying t = some (.pointer te)) : (binOp .eql t (.pointer none) (.pointer (some a))).run P w = .ok (.bool false) w := by
  have h : ∀ d : Nat, (Op.equalIn (d + 1) t (.pointer none) (.pointer (some a))).run P w = .ok false w := fun d => by
    simp [Op.equalIn, run_underlying hp]
  simp only [binOp]
  simp [Op.equal, Op.maxDepth, h 9999]
set_option maxRecDepth 100000 in
theorem givesO (g : Nat) (x : Option Nat) (B : Nat) (W : World) (hc : W.cell? ⟨B, 0, none⟩ = some (ptV g)) (hg : Blk W g) (hx : ∀ y, x = some y → Blk W y) :
    FnGives Tryz.prog 114 #[.pointer (some ⟨B, 0, none⟩)] #[encO x] (.bool (decide (x = some g))) W := by
  show Calls Tryz.prog 114 #[encO x, .pointer (some ⟨B, 0, none⟩)] W _
  obtain ⟨j, hj, hj0⟩ := lk_there
  cases x with
  | none =>
    have e : decide ((none : Option Nat) = some g) = false := rfl
    have q : (binOp .eql 110 (.pointer none) (.pointer (some ⟨g, 0, none⟩))).run Tryz.prog W = .ok (.bool false) W := run_eql_nil_ptr W _ Tryz.underlying110
    rw [e]
    unfold encO ptV at *
    clear hj hx hg
    go_enter Tryz.func114, Tryz.ntmps114
    go_wp2
    go_ret
    exact ⟨rfl, 0, rfl⟩
  | some y =>
    have q1 : y = g → (binOp .eql 110 (.pointer (some ⟨y, 0, none⟩)) (.pointer (some ⟨g, 0, none⟩))).run Tryz.prog W = .ok (.bool true) W := fun e => by
      rw [e]; exact run_eql_ptr_same W _ Tryz.underlying110 hj
    have q2 : y ≠ g → (binOp .eql 110 (.pointer (some ⟨y, 0, none⟩)) (.pointer (some ⟨g, 0, none⟩))).run Tryz.prog W = .ok (.bool false) W := fun e => by
      obtain ⟨ca, ta, ha⟩ := hx y rfl
      obtain ⟨cb, tb, hb⟩ := hg
      exact run_eql_ptr_other W Tryz.underlying110 hj hj0 (by intro h; injection h with h _ _; exact e h) ha hb
    obtain ⟨c, hcc, q⟩ : ∃ c, decide (some y = some g) = c ∧ (binOp .eql 110 (.pointer (some ⟨y, 0, none⟩)) (.pointer (some ⟨g, 0, none⟩))).run Tryz.prog W = .ok (.bool c) W := by
      by_cases h : y = g
      · exact ⟨true, decide_eq_true (by rw [h]), q1 h⟩
      · exact ⟨false, decide_eq_false (by intro e; injection e with e; exact h e), q2 h⟩
    rw [hcc]
    unfold encO ptV at *
    clear q1 q2 hj hx hg hcc
    go_enter Tryz.func114, Tryz.ntmps114
    go_wp2
    go_ret
    exact ⟨rfl, 0, rfl⟩
theorem predP (g B b : Nat) (w : World) (hB : B < w.heap.size) (hcell : w.cell? ⟨B, 0, none⟩ = some (ptV g)) (hg : Blk w g) : PredAt Tryz.prog 114 #[.pointer (some ⟨B, 0, none⟩)] (encP (w := w) (b := b)) (isP g) w :=
  fun W x hb => givesO g x.1 B W ((hb.cell (p := ⟨B, 0, none⟩) hB).trans hcell) (hg.below hb) (fun y hy => (x.2 y hy).2.below hb)
theorem blk_sort {w : World} {b n : Nat} {dk : Array (PtIn w b)} {os : Array Obj} {g : Nat} (hg : Blk w g) (hne : g ≠ b) : Blk (sortWorld encP w b 0 n dk os) g := by
  obtain ⟨cur, t, e⟩ := hg
  have hl := (Array.getElem?_eq_some_iff.1 e).1
  refine ⟨cur, t, ?_⟩
  show ((Sort.ahead w n).heap.modify b _ ++ os)[g]? = _
  rw [Array.getElem?_append_left (by rw [Array.size_modify]; exact hl), Array.getElem?_modify, if_neg (Ne.symm hne)]
  exact e
theorem overP (g B b size : Nat) (w : World) (hB : B < w.heap.size) (hne : B ≠ b) (hcell : w.cell? ⟨B, 0, none⟩ = some (ptV g)) (hg : Blk w g) (hgb : g ≠ b) :
    PredOver Tryz.prog 114 #[.pointer (some ⟨B, 0, none⟩)] (encP (w := w) (b := b)) (isP g) b 0 size w :=
  fun n os dk x _ => givesO g x.1 B _ (by
    unfold sortWorld
    rw [cell?_grow _ _ _ (by show B < (putRow _ _ _ _ _).heap.size; rw [size_putRow]; exact hB), cell?_putRow_other _ _ b 0 _ _ (Or.inl hne)]
    exact hcell) (blk_sort hg hgb) (fun y hy => blk_sort (x.2 y hy).2 (x.2 y hy).1)
def cutPt (P : List Nat) (g : Nat) : List Nat := P.filter fun x => decide (x ≠ g)
theorem cutP_le (P : List Nat) (g : Nat) : (cutPt P g).length ≤ P.length := List.length_filter_le _ _
def mkPt {w : World} {b : Nat} (g : Nat) (h : g ≠ b ∧ Blk w g) : PtIn w b := ⟨some g, fun y hy => by cases hy; exact h⟩
theorem encP_mk {w : World} {b : Nat} (g : Nat) (h : g ≠ b ∧ Blk w g) : encP (mkPt g h) = ptV g := rfl
theorem isP_mk {w : World} {b : Nat} (g y : Nat) (h : y ≠ b ∧ Blk w y) : isP g (mkPt y h) = decide (y = g) := by unfold isP mkPt; simp
def ptsIn (w : World) (b : Nat) : (P : List Nat) → (∀ g ∈ P, g ≠ b ∧ Blk w g) → List (PtIn w b)
  | [], _ => []
  | g :: r, h => mkPt g (h g (by simp)) :: ptsIn w b r (fun y hy => h y (by simp [hy]))
theorem ptsIn_vals (w : World) (b : Nat) : ∀ (P : List Nat) (h : ∀ g ∈ P, g ≠ b ∧ Blk w g), (ptsIn w b P h).map encP = ptsV P
  | [], _ => rfl
  | g :: r, h => by
    show encP _ :: (ptsIn w b r _).map encP = ptV g :: ptsV r
    rw [ptsIn_vals w b r]
    rfl
theorem ptsIn_len (w : World) (b : Nat) (P : List Nat) (h : ∀ g ∈ P, g ≠ b ∧ Blk w g) : (ptsIn w b P h).length = P.length := by
  have := congrArg List.length (ptsIn_vals w b P h)
  simpa [ptsV] using this
theorem ptsIn_cut (w : World) (b g : Nat) : ∀ (P : List Nat) (h : ∀ x ∈ P, x ≠ b ∧ Blk w x), ((ptsIn w b P h).filter fun x => !isP g x).map encP = ptsV (cutPt P g)
  | [], _ => rfl
  | y :: r, h => by
    have ih := ptsIn_cut w b g r (fun x hx => h x (by simp [hx]))
    have hi := isP_mk g y (h y (by simp))
    show ((mkPt y (h y (by simp)) :: ptsIn w b r (fun x hx => h x (by simp [hx]))).filter fun x => !isP g x).map encP = ptsV ((y :: r).filter fun x => decide (x ≠ g))
    have hX : (encP (mkPt y (h y (by simp))) : Value) = ptV y := encP_mk y _
    generalize mkPt y (h y (by simp)) = X at *
    by_cases hy : y = g
    · rw [decide_eq_true hy] at hi
      rw [List.filter_cons_of_neg (by simp [hi]), List.filter_cons_of_neg (by simp [hy])]
      exact ih
    · rw [decide_eq_false hy] at hi
      rw [List.filter_cons_of_pos (by simp [hi]), List.filter_cons_of_pos (by simp [hy]), List.map_cons, hX, ih]
      rfl
theorem rowP_put {w w0 : World} {B b cap q : Nat} {P P' : List Nat} {D : List (PtIn w0 b)} {Z : List (PtIn w0 b)} (h : RowP w B (.slice (some ⟨b, 0, none⟩) P.length cap) P) (hD : D.map encP = ptsV P') (hl : P'.length ≤ P.length) :
    RowP (putRow encP (Sort.ahead w q) b 0 (D ++ Z).toArray) B (.slice (some ⟨b, 0, none⟩) P'.length cap) P' := by
  obtain ⟨⟨h1, h2⟩, h3⟩ := h
  have hDl : D.length = P'.length := by have := congrArg List.length hD; simpa [ptsV] using this
  refine ⟨⟨by simp [ptsV], ?_⟩, by omega⟩
  rcases h2 with ⟨e, _⟩ | ⟨g, c, cur, e1, e2, e3, e4, e5, e6, e7⟩
  · cases e
  · injection e1 with e1 _ e1'
    injection e1 with e1
    injection e1 with e1 _ _
    subst e1 e1'
    refine .inr ⟨b, cap, putCells encP 0 (D ++ Z).toArray cur, rfl, e2, ?_, by omega, e5, by simpa [putCells] using e6, ?_⟩
    · show ((Sort.ahead w q).heap.modify b _)[b]? = _
      have : (Sort.ahead w q).heap[b]? = some (.cells cur 110 (0, 0)) := e3
      rw [Array.getElem?_modify, if_pos rfl, this]
      rfl
    · apply List.ext_getElem?
      intro k
      rw [List.getElem?_take]
      by_cases hk : k < P'.length
      · rw [if_pos (by omega)]
        have hc : k < cur.size := by omega
        have hs : k < (D ++ Z).length := by rw [List.length_append]; omega
        rw [Array.getElem?_toList]
        unfold putCells
        rw [Array.getElem?_mapIdx, Array.getElem?_eq_getElem hc, Option.map_some, if_pos ⟨Nat.zero_le _, by simpa using hs⟩, Nat.sub_zero]
        rw [getElem!_pos _ k (by simpa using hs), ← hD, List.getElem?_map, List.getElem?_eq_getElem (by omega), Option.map_some]
        congr 2
        rw [List.getElem_toArray, List.getElem_append_left (by omega)]
      · rw [if_neg (by omega)]
        unfold ptsV
        rw [List.getElem?_eq_none (by simp; omega)]
theorem footP {w0 : World} (w : World) (b q : Nat) (d : Array (PtIn w0 b)) : Foot [b] [b] w (putRow encP (Sort.ahead w q) b 0 d) :=
  ⟨rfl, rfl, rfl, by rw [size_putRow]; exact Nat.le_refl _, fun k hk hn => by
    show ((Sort.ahead w q).heap.modify b _)[k]? = _
    rw [Array.getElem?_modify, if_neg (by intro e; exact hn (by simp [e]))]
    rfl, fun k hk => .inl hk⟩
theorem holdsP {w : World} {B b cap : Nat} {P : List Nat} (h : RowP w B (.slice (some ⟨b, 0, none⟩) P.length cap) P) (hP : ∀ g ∈ P, g ≠ b ∧ Blk w g) : Holds encP w b 0 (ptsIn w b P hP).toArray := by
  intro j hj
  have hl := ptsIn_len w b P hP
  have hj2 : j < P.length := by simpa [hl] using hj
  have hv := ptsIn_vals w b P hP
  obtain ⟨⟨h1, h2⟩, h3⟩ := h
  rcases h2 with ⟨e, _⟩ | ⟨g, c, cur, e1, e2, e3, e4, e5, e6, e7⟩
  · cases e
  · injection e1 with e1 _ e1'
    injection e1 with e1
    injection e1 with e1 _ _
    subst e1 e1'
    refine ⟨?_, by simp [World.frozen?, e3]⟩
    rw [Nat.zero_add, cell_of_row w b j cur _ _ e3, ← Array.getElem?_toList]
    have e8 : cur.toList[j]? = (ptsV P)[j]? := by rw [← e7, List.getElem?_take, if_pos (by omega)]
    rw [e8, ← hv, List.getElem?_map, getElem!_pos _ j hj, List.getElem_toArray, List.getElem?_eq_getElem (by omega)]
    rfl
theorem delP_any {w : World} {B b cap g Q : Nat} {P : List Nat} (h : RowP w B (.slice (some ⟨b, 0, none⟩) P.length cap) P) (hP : ∀ x ∈ P, x ≠ b ∧ Blk w x) (hg : Blk w g) (hgb : g ≠ b) (hQ : Q < w.heap.size) (hQb : Q ≠ b) (hc : w.cell? ⟨Q, 0, none⟩ = some (ptV g)) :
    Calls Tryz.prog 113 #[.slice (some ⟨b, 0, none⟩) P.length cap, .func (.func 114) #[] #[.pointer (some ⟨Q, 0, none⟩)]] w fun e w' => e = .returned (.slice (some ⟨b, 0, none⟩) (cutPt P g).length cap) ∧ RowP w' B (.slice (some ⟨b, 0, none⟩) (cutPt P g).length cap) (cutPt P g) ∧ Foot [b] [b] w w' := by
  have hl := ptsIn_len w b P hP
  have h3 := h.2
  have hcap : P.length ≤ cap := by
    rcases h.1.2 with ⟨e, _⟩ | ⟨g2, c2, cur, e1, _, _, e4, _⟩
    · cases e
    · injection e1 with _ _ e1; omega
  have eg : ∀ args w, (callFunc 114 args).run Tryz.prog w = .ok (.enter 114 args) w := enters_of Tryz.func114 (by kernel_rfl) rfl
  have hcon := AnyE.slices_DeleteFunc Tryz.delP (encP (w := w) (b := b)) encP_one (isP g) 114 #[.pointer (some ⟨Q, 0, none⟩)] eg default Tryz.zeroValue110 b 0 cap (ptsIn w b P hP).toArray w
    (predP g Q b w hQ hc hg) (overP g Q b _ w hQ hQb hc hg hgb) (holdsP h hP) (by simp [hl]; omega) (by simpa [hl] using hcap)
  have hcut := ptsIn_cut w b g P hP
  have hcl : ((ptsIn w b P hP).filter fun x => !isP g x).length = (cutPt P g).length := by have := congrArg List.length hcut; simpa [ptsV] using this
  have e1 : (ptsIn w b P hP).toArray.size = P.length := by simpa using hl
  simp only [e1, hcl] at hcon
  refine hcon.mono ?_
  rintro e w' ⟨rfl, q, rfl⟩
  exact ⟨rfl, rowP_put h hcut (cutP_le P g), footP _ _ _ _⟩
end Go.Proofs.YtedmkdjijhflnaaGreat
namespace Go.Proofs.YtedmkdjijhflnaaGreat
open Go.RowKit Go.Sort Go.Shelf

def solL (cp : Nat) (c : Cfg) (n : Int) (v : Value) : List Value := [ptV cp, .int .i64 c.sv, .int .i64 c.tr, .int .i64 c.wt, .int .i64 c.rm, .int .i64 n, v]
structure SolO (w : World) (G cp : Nat) (c : Cfg) (n : Int) (v : Value) (A : List PL) : Prop where
  cs : CellsAt w G (solL cp c n v)
  row : RowP w 0 v (A.map Prod.fst)
  lk : ∀ p ∈ A, CellsAt w p.1 (lkL p.2) ∧ Blk w p.1
  nd : (A.map Prod.fst).Nodup
  gp : ∀ p ∈ A, p.1 ≠ G
  vb : ∀ g, v.ownBlock = some g → g ≠ G ∧ ∀ p ∈ A, p.1 ≠ g
  ok : ∀ p ∈ A, p.2.Ok c
  cf : c.Ok
def fpO (G : Nat) (v : Value) (A : List PL) : List Nat := G :: (v.ownBlock.toList ++ A.map Prod.fst)
section
variable {w w' : World} {G cp : Nat} {c : Cfg} {n : Int} {v : Value} {A : List PL}
theorem CellsAt.keptB {w w' : World} {G : Nat} {vs : List Value} (h : CellsAt w G vs) (hs : w.heap.size ≤ w'.heap.size) (hk : w'.heap[G]? = w.heap[G]?) : CellsAt w' G vs :=
  ⟨Nat.lt_of_lt_of_le h.lt hs, fun j u hu => by rw [World.cell?_of_block (w := w) (a := ⟨G, 0 + j, none⟩) hk]; exact h.range j u hu, fun j hj => by
    rw [World.cell?_of_block (w := w) (a := ⟨G, 0 + j, none⟩) hk, World.frozen?_of_block (w := w) (a := ⟨G, 0 + j, none⟩) hk]
    exact h.there j hj⟩
theorem CellsAt.foot {F F' : List Nat} {w w' : World} {G : Nat} {vs : List Value} (h : CellsAt w G vs) (hf : Foot F F' w w') (hn : G ∉ F) : CellsAt w' G vs := h.keptB hf.size (hf.keep G h.lt hn)
theorem Blk.foot {F F' : List Nat} {w w' : World} {g : Nat} (h : Blk w g) (hf : Foot F F' w w') (hn : g ∉ F) : Blk w' g := h.kept (hf.keep g h.lt hn)
theorem SolO.below (h : SolO w G cp c n v A) (hb : Below w.heap.size w w') : SolO w' G cp c n v A :=
  ⟨h.cs.below hb, h.row.below hb, fun p hp => ⟨(h.lk p hp).1.below hb, (h.lk p hp).2.below hb⟩, h.nd, h.gp, h.vb, h.ok, h.cf⟩
theorem SolO.foot {F F' : List Nat} (h : SolO w G cp c n v A) (hf : Foot F F' w w') (hn : ∀ k ∈ fpO G v A, k ∉ F) : SolO w' G cp c n v A :=
  ⟨h.cs.foot hf (hn G (by simp [fpO])), h.row.foot hf (fun g hg => hn g (by simp [fpO, hg])), fun p hp => ⟨(h.lk p hp).1.foot hf (hn p.1 (by simp [fpO]; exact .inr (.inr ⟨p.2, hp⟩))), (h.lk p hp).2.foot hf (hn p.1 (by simp [fpO]; exact .inr (.inr ⟨p.2, hp⟩)))⟩, h.nd, h.gp, h.vb, h.ok, h.cf⟩
end
def cutA (A : List PL) (g : Nat) : List PL := A.filter fun p => decide (p.1 ≠ g)
theorem cutA_fst (A : List PL) (g : Nat) : (cutA A g).map Prod.fst = cutPt (A.map Prod.fst) g := by
  unfold cutA cutPt
  rw [List.filter_map]
  rfl
set_option maxRecDepth 100000 in
set_option maxHeartbeats 1000000 in
theorem end_any (G cp g : Nat) (c : Cfg) (n : Int) (v : Value) (A : List PL) (w : World) (h : SolO w G cp c n v A) (hg : g ∈ A.map Prod.fst) :
    Calls Tryz.prog 85 #[.pointer (some ⟨G, 0, none⟩), .pointer (some ⟨g, 0, none⟩)] w fun e w' => e = .returned (.tuple #[]) ∧ ∃ v', v'.ownBlock = v.ownBlock ∧ SolO w' G cp c n v' (cutA A g) ∧ Foot (G :: v.ownBlock.toList) (G :: v.ownBlock.toList) w w' := by
  obtain ⟨p, hp, rfl⟩ := List.mem_map.1 hg
  obtain ⟨W, hW⟩ : ∃ W, w.alloc (.cells #[ptV p.1] 110) = W := ⟨_, rfl⟩
  have hb : Below w.heap.size w W := by rw [← hW]; exact (Below.refl _ _).alloc (Nat.le_refl _) _
  have hQ : CellsAt W w.heap.size [ptV p.1] := by rw [← hW]; exact CellsAt.new w _ [ptV p.1]
  have H := h.below hb
  rcases H.row.form with ⟨hv, e⟩ | ⟨b, cap, hv, h1, h2, h3, h4, h5⟩
  · rw [e] at hg; cases hg
  have hvb := H.vb b (by rw [hv]; rfl)
  have hrow := H.row
  rw [hv] at hrow
  have hlt := h.row.lt b (by rw [hv]; rfl)
  have HD := Lib.hid (delP_any hrow (g := p.1) (Q := w.heap.size) (fun x hx => by
    obtain ⟨y, hy, rfl⟩ := List.mem_map.1 hx
    exact ⟨hvb.2 y hy, (H.lk y hy).2⟩) (H.lk p hp).2 (hvb.2 p hp) (by rw [← hW]; simp) (by omega) (hQ.cell 0 _ rfl))
  rw [← cutA_fst] at HD
  have HC := Lib.hid H.cs
  have HFI : Hid (∀ v' W2 W3, v'.ownBlock = some b → RowP W2 0 v' ((cutA A p.1).map Prod.fst) → Foot [b] [b] W W2 → W3 = W2.setCell ⟨G, 6, none⟩ v' → CellsAt W3 G (solL cp c n v') → SolO W3 G cp c n v' (cutA A p.1) ∧ Foot [G, b] [G, b] w W3) := Lib.hid (fun v' W2 W3 hvo hr hf e3 hc => by
    have hf3 : Foot [G] [G] W2 W3 := by rw [e3]; exact foot_cells G 6 [v']
    have hsub : ∀ q ∈ cutA A p.1, q ∈ A := fun q hq => (List.mem_filter.1 hq).1
    refine ⟨⟨hc, hr.foot hf3 (fun g hg => by rw [hvo] at hg; injection hg with hg; rw [← hg]; simp; exact hvb.1), fun q hq => ?_, ?_, fun q hq => H.gp q (hsub q hq), fun g hg => by rw [hvo] at hg; injection hg with hg; rw [← hg]; exact ⟨hvb.1, fun q hq => hvb.2 q (hsub q hq)⟩, fun q hq => H.ok q (hsub q hq), H.cf⟩, ?_⟩
    · have h6 := H.lk q (hsub q hq)
      have n1 : q.1 ∉ [b] := by simp; exact hvb.2 q (hsub q hq)
      have n2 : q.1 ∉ [G] := by simp; exact H.gp q (hsub q hq)
      exact ⟨(h6.1.foot hf n1).foot hf3 n2, (h6.2.foot hf n1).foot hf3 n2⟩
    · rw [cutA_fst]
      exact List.Pairwise.filter _ H.nd
    · have hf0 : Foot [G, b] [G, b] w W := Foot.ofBelow _ hb
      have hf1 : Foot [G, b] [G, b] W W2 := ⟨hf.os, hf.tape, hf.output, hf.size, fun k hk hn => hf.keep k hk (fun e => hn (by simp at e; simp [e])), fun k hk => .inl hk⟩
      have hf2 : Foot [G, b] [G, b] W2 W3 := ⟨hf3.os, hf3.tape, hf3.output, hf3.size, fun k hk hn => hf3.keep k hk (fun e => hn (by simp at e; simp [e])), fun k hk => .inl hk⟩
      exact (hf0.trans hf1).trans hf2)
  have hob : v.ownBlock = some b := by rw [hv]; rfl
  rw [hob]
  have hco : G ≠ b := fun e => hvb.1 e.symm
  have HNE := Lib.hid hco
  clear h hg hb hQ H hrow hvb hlt h1 h2 h3 h4 h5 hob hco hp
  generalize (A.map Prod.fst).length = L at *
  rw [hv] at HC
  clear hv v
  obtain ⟨q, l⟩ := p
  simp only at *
  go_enter Tryz.func85, Tryz.ntmps85
  unfold ptV at hW
  go_upto_region 1 with fail
  try rw [hW]
  have hc6 := HC.out.cell 6 _ rfl
  have hf6 := HC.out.live 6 (show 6 < 7 by decide)
  go_wp2_with fail
  refine HD.out.mono ?_
  rintro e w2 ⟨rfl, hr, hf⟩
  have HC2 := Lib.hid (HC.out.foot hf (by have := HNE.out; simp; exact this))
  have HR2 := Lib.hid hr
  have HF2 := Lib.hid hf
  clear HD hr hf hc6 hf6
  obtain ⟨m, hm⟩ : ∃ m, (List.map Prod.fst (cutA A q)).length = m := ⟨_, rfl⟩
  rw [hm] at HR2
  rw [hm]
  clear hm
  have hc6 := HC2.out.cell 6 _ rfl
  have hf6 := HC2.out.live 6 (show 6 < 7 by decide)
  go_wp2_with fail
  have HC3 := Lib.hid (HC2.out.set 6 (.slice (some ⟨b, 0, none⟩) m cap) (show 6 < 7 by decide))
  go_end0
  exact ⟨rfl, _, rfl, HFI.out (.slice (some ⟨b, 0, none⟩) m cap) w2 _ rfl HR2.out HF2.out rfl HC3.out⟩
end Go.Proofs.YtedmkdjijhflnaaGreat
namespace Go.Proofs.YtedmkdjijhflnaaGreat
open Go.RowKit Go.Sort Go.Shelf

theorem mem_fst {A : List PL} {p : PL} (h : p ∈ A) : p.1 ∈ A.map Prod.fst := List.mem_map.2 ⟨p, h, rfl⟩
theorem mem_fpO {G : Nat} {v : Value} {A : List PL} {p : PL} (h : p ∈ A) : p.1 ∈ fpO G v A := by
  unfold fpO
  exact List.mem_cons_of_mem _ (List.mem_append_right _ (mem_fst h))
theorem foot_sub {F K : List Nat} {w w' : World} (h : Foot F F w w') (hk : ∀ k ∈ F, k ∈ K) : Foot K K w w' :=
  ⟨h.os, h.tape, h.output, h.size, fun k hk2 hn => h.keep k hk2 (fun e => hn (hk k e)), fun k hk2 => .inl hk2⟩
set_option maxRecDepth 100000 in
set_option maxHeartbeats 1000000 in
theorem solFail_any (G cp : Nat) (p : PL) (x : Int) (c : Cfg) (n : Int) (v : Value) (A : List PL) (w : World) (h : SolO w G cp c n v A) (hp : p ∈ A) :
    Calls Tryz.prog 83 #[.pointer (some ⟨G, 0, none⟩), .pointer (some ⟨p.1, 0, none⟩), .int .i64 x] w fun e w' => e = .returned (evV (evF p.2.n x)) ∧ ∃ v', v'.ownBlock = v.ownBlock ∧ SolO w' G cp c n v' (cutA A p.1) ∧ Foot (fpO G v A) (fpO G v A) w w' := by
  obtain ⟨g, l⟩ := p
  have hcl := (h.lk _ hp).1
  have hgG := h.gp _ hp
  have hgb : g ∉ G :: v.ownBlock.toList := by
    intro e
    rcases List.mem_cons.1 e with e | e
    · exact hgG e
    · have e2 : v.ownBlock = some g := by simpa using e
      exact (h.vb g e2).2 _ hp rfl
  have hGR : G < w.heap.size := h.cs.lt
  have hgR : g < w.heap.size := hcl.lt
  have HZ := Lib.hid (zeroEv w 77)
  obtain ⟨W, hW⟩ : ∃ W, w.alloc (.cells #[.int .i64 0, .int .i64 0, .int .i64 0, .string ⟨#[]⟩, .int .i64 0, .int .i64 0, .slice none 0 0, .int .i64 0] 77) = W := ⟨_, rfl⟩
  have hb : Below w.heap.size w W := by rw [← hW]; exact (Below.refl _ _).alloc (Nat.le_refl _) _
  have hRW : w.heap.size < W.heap.size := by rw [← hW]; simp
  rw [hW] at HZ
  obtain ⟨R, hR⟩ : ∃ R, w.heap.size = R := ⟨_, rfl⟩
  rw [hR] at HZ hRW hGR hgR
  have H := h.below hb
  have HEND := Lib.hid (end_any G cp g c n v A W H (mem_fst hp))
  have HLN : Hid (∀ W2, Foot (G :: v.ownBlock.toList) (G :: v.ownBlock.toList) W W2 → W2.cell? ⟨g, 0, none⟩ = some (.int .i64 l.n) ∧ CellsAt W2 R evZ) := Lib.hid (fun W2 hf => ⟨((hcl.below hb).foot hf hgb).cell 0 _ rfl, HZ.out.foot hf (fun e => by
    rcases List.mem_cons.1 e with e | e
    · omega
    · have e2 : v.ownBlock = some R := by simpa using e
      have := h.row.lt R e2
      omega)⟩)
  have HFL := fun W => Lib.hid (failed_any l.n x W)
  have HFI : Hid (∀ v' W2 W3 W4, SolO W2 G cp c n v' (cutA A g) → v'.ownBlock = v.ownBlock → Foot (G :: v.ownBlock.toList) (G :: v.ownBlock.toList) W W2 → Below W2.heap.size W2 W3 → W4 = W3.setCells R 0 (evL (evF l.n x)) → SolO W4 G cp c n v' (cutA A g) ∧ Foot (fpO G v A) (fpO G v A) w W4) := Lib.hid (fun v' W2 W3 W4 hs hv hf h3 h4 => by
    have hf4 : Foot [R] [R] W3 W4 := by rw [h4]; exact foot_cells _ _ _
    have hl2 : R < W2.heap.size := Nat.lt_of_lt_of_le hRW hf.size
    refine ⟨(hs.below h3).foot hf4 (fun k hk => ?_), ?_⟩
    · simp
      intro e
      subst e
      rcases List.mem_cons.1 hk with e | hk
      · omega
      rcases List.mem_append.1 hk with hk | hk
      · have e2 : v.ownBlock = some k := by rw [← hv]; simpa using hk
        have := h.row.lt k e2
        omega
      · obtain ⟨q, hq, rfl⟩ := List.mem_map.1 hk
        have := (h.lk q (List.mem_filter.1 hq).1).1.lt
        omega
    · have h1 : Foot (fpO G v A) (fpO G v A) w W := Foot.ofBelow _ hb
      have h2 : Foot (fpO G v A) (fpO G v A) W W2 := foot_sub hf (fun k hk => by
        rcases List.mem_cons.1 hk with rfl | hk
        · simp [fpO]
        · exact List.mem_cons_of_mem _ (List.mem_append_left _ hk))
      have h5 : Foot (fpO G v A) (fpO G v A) W2 W3 := Foot.ofBelow _ h3
      have h6 : Foot (fpO G v A) (fpO G v A) w W3 := (h1.trans h2).trans h5
      rw [h4]
      exact foot_new h6 (by omega))
  clear h hp hcl hgG hgb hGR hgR hb hRW H
  go_enter Tryz.func83, Tryz.ntmps83
  go_upto_region 1 with fail
  try rw [hW]
  try rw [hR]
  clear hW hR
  go_wp2_with fail
  refine HEND.out.mono ?_
  rintro e w2 ⟨rfl, v', hv, hs, hf⟩
  have HLN2 := HLN.out w2 hf
  have hn := HLN2.1
  have HZ2 := Lib.hid HLN2.2
  have HFI2 := Lib.hid (fun W3 W4 => HFI.out v' w2 W3 W4 hs hv hf)
  have HV := Lib.hid hv
  clear HEND HLN HLN2 HFI hs hf hv HZ
  go_wp2_with fail
  refine (HFL _).out.mono ?_
  rintro e w3 ⟨rfl, hb3⟩
  have HZ3 := Lib.hid (HZ2.out.below hb3)
  have HFI3 := Lib.hid (fun W4 => HFI2.out w3 W4 hb3)
  clear hb3 HZ2 hn HFI2 HFL
  unfold evV
  go_wp2_with (refine store_of HZ3 rfl ev_size _ _ rfl rfl rfl (vs := evL (evF l.n x)) rfl rfl rfl (fun U HU HUC => ?_))
  exact bodyPost_ret (results_of Tryz.results83 rfl HUC.out Tryz.underlying77 rfl ev_size) rfl ⟨rfl, v', HV.out, HFI3.out U HU.out⟩
end Go.Proofs.YtedmkdjijhflnaaGreat
namespace Go.Proofs.YtedmkdjijhflnaaGreat
open Go.RowKit Go.Sort Go.Shelf

def setA (A : List PL) (g : Nat) (l : Lk) : List PL := A.map fun x => if x.1 = g then (g, l) else x
theorem setA_fst (A : List PL) (g : Nat) (l : Lk) : (setA A g l).map Prod.fst = A.map Prod.fst := by
  unfold setA
  rw [List.map_map]
  apply List.map_congr_left
  intro x _
  show (if x.1 = g then (g, l) else x).1 = x.1
  split
  · rename_i h; exact h.symm
  · rfl
theorem setA_mem {A : List PL} {g : Nat} {l : Lk} {q : PL} (h : q ∈ setA A g l) : q = (g, l) ∨ (q ∈ A ∧ q.1 ≠ g) := by
  obtain ⟨x, hx, e⟩ := List.mem_map.1 h
  by_cases hg : x.1 = g
  · rw [if_pos hg] at e; exact .inl e.symm
  · rw [if_neg hg] at e; subst e; exact .inr ⟨hx, hg⟩
theorem SolO.put {w w' : World} {G cp g : Nat} {c : Cfg} {n : Int} {v : Value} {A : List PL} {l l' : Lk} (h : SolO w G cp c n v A) (hp : (g, l) ∈ A) (hc : CellsAt w' g (lkL l')) (hb : Blk w' g) (ho : l'.Ok c) (hf : Foot [g] [g] w w') : SolO w' G cp c n v (setA A g l') := by
  have hgG := h.gp _ hp
  have hd : ∀ q ∈ A, q.1 ≠ g → CellsAt w' q.1 (lkL q.2) ∧ Blk w' q.1 := fun q hq hn => ⟨(h.lk q hq).1.foot hf (by simpa using hn), (h.lk q hq).2.foot hf (by simpa using hn)⟩
  refine ⟨h.cs.foot hf (by simpa using fun e => hgG e.symm), ?_, fun q hq => ?_, by rw [setA_fst]; exact h.nd, fun q hq => ?_, fun b hvb => ⟨(h.vb b hvb).1, fun q hq => ?_⟩, fun q hq => ?_, h.cf⟩
  · rw [setA_fst]
    exact h.row.foot hf (fun b hvb => by simpa using fun e => (h.vb b hvb).2 _ hp e.symm)
  · rcases setA_mem hq with rfl | ⟨hq, hn⟩
    · exact ⟨hc, hb⟩
    · exact hd q hq hn
  · rcases setA_mem hq with rfl | ⟨hq, hn⟩
    · exact hgG
    · exact h.gp q hq
  · rcases setA_mem hq with rfl | ⟨hq, hn⟩
    · exact (h.vb b hvb).2 (g, l) hp
    · exact (h.vb b hvb).2 q hq
  · rcases setA_mem hq with rfl | ⟨hq, hn⟩
    · exact ho
    · exact h.ok q hq
def againA (c : Cfg) (A : List PL) (p : PL) (draw now : Int) : List PL := if overL c p.2 = true then cutA A p.1 else setA A p.1 (againL c p.2 draw now)
theorem cutA_set (A : List PL) (g : Nat) (l : Lk) : cutA (setA A g l) g = cutA A g := by
  induction A with
  | nil => rfl
  | cons x r ih =>
    unfold setA cutA at ih ⊢
    rw [List.map_cons]
    by_cases hx : x.1 = g
    · rw [if_pos hx, List.filter_cons_of_neg (by simp), List.filter_cons_of_neg (by simp [hx])]
      exact ih
    · rw [if_neg hx, List.filter_cons_of_pos (by simp [hx]), List.filter_cons_of_pos (by simp [hx]), ih]
theorem setA_set (A : List PL) (g : Nat) (l l' : Lk) : setA (setA A g l) g l' = setA A g l' := by
  unfold setA
  rw [List.map_map]
  apply List.map_congr_left
  intro x _
  show (if (if x.1 = g then (g, l) else x).1 = g then (g, l') else (if x.1 = g then (g, l) else x)) = _
  by_cases hx : x.1 = g
  · rw [if_pos hx, if_pos rfl]; rw [if_pos hx]
  · rw [if_neg hx, if_neg hx]
theorem setA_own {A : List PL} {g : Nat} {l : Lk} (h : (A.map Prod.fst).Nodup) (hp : ∃ l0, (g, l0) ∈ A) : (g, l) ∈ setA A g l := by
  obtain ⟨l0, h0⟩ := hp
  exact List.mem_map.2 ⟨(g, l0), h0, if_pos rfl⟩
set_option maxRecDepth 100000 in
set_option maxHeartbeats 2000000 in
theorem again_any (G cp : Nat) (p : PL) (draw now : Int) (c : Cfg) (n : Int) (v : Value) (A : List PL) (w : World) (h : SolO w G cp c n v A) (hp : p ∈ A) (hse : p.2.se < c.tr) (hd : (Lit.int .i64 draw).wf = true) (h0 : 0 ≤ now) (h1 : now ≤ 2199023255552) :
    Calls Tryz.prog 64 #[.pointer (some ⟨G, 0, none⟩), .pointer (some ⟨p.1, 0, none⟩), .int .i64 draw, .int .i64 now] w fun e w' => e = .returned (evV (againE c p.2 draw now)) ∧ ∃ v', v'.ownBlock = v.ownBlock ∧ SolO w' G cp c n v' (againA c A p draw now) ∧ Foot (fpO G v A) (fpO G v A) w w' := by
  obtain ⟨g, l⟩ := p
  have hse : l.se < c.tr := hse
  have hcf := h.cf
  have hok : l.Ok c := h.ok _ hp
  have hcl : CellsAt w g (lkL l) := (h.lk _ hp).1
  have hbl : Blk w g := (h.lk _ hp).2
  have hgG := h.gp _ hp
  have hgb := mem_fpO (G := G) (v := v) hp
  have hin := fun k (hk : k ∈ fpO G v A) => show k < w.heap.size from by
    rcases List.mem_cons.1 hk with rfl | hk
    · exact h.cs.lt
    rcases List.mem_append.1 hk with hk | hk
    · exact (h.row.lt k (by simpa using hk)).2
    · obtain ⟨q, hq, rfl⟩ := List.mem_map.1 hk
      exact (h.lk q hq).1.lt
  have HZ := Lib.hid (zeroEv w 77)
  obtain ⟨W, hW⟩ : ∃ W, w.alloc (.cells #[.int .i64 0, .int .i64 0, .int .i64 0, .string ⟨#[]⟩, .int .i64 0, .int .i64 0, .slice none 0 0, .int .i64 0] 77) = W := ⟨_, rfl⟩
  have hb : Below w.heap.size w W := by rw [← hW]; exact (Below.refl _ _).alloc (Nat.le_refl _) _
  rw [hW] at HZ
  obtain ⟨R, hR⟩ : ∃ R, w.heap.size = R := ⟨_, rfl⟩
  rw [hR] at HZ
  simp only [hR] at hin
  have HRR : Hid (w.heap.size = R) := Lib.hid hR
  have HIN := Lib.hid hin
  have HGB := Lib.hid hgb
  have HGR : Hid (g < R) := Lib.hid (hin g hgb)
  have HFW : Hid (Foot (fpO G v A) (fpO G v A) w W) := Lib.hid (Foot.ofBelow _ hb)
  have HS := Lib.hid (h.below hb)
  have HC := Lib.hid (hcl.below hb)
  have HP := Lib.hid hp
  have HND := Lib.hid h.nd
  have HBK := Lib.hid (hbl.below hb)
  have HOK := Lib.hid hok
  have HCF := Lib.hid hcf
  have HNG : Hid (G ≠ g) := Lib.hid (fun e => hgG e.symm)
  have HN0 := Lib.hid h0
  have HN1 := Lib.hid h1
  have HDW := Lib.hid hd
  obtain ⟨sn, hsn⟩ : ∃ sn, l.se + 1 = sn := ⟨_, rfl⟩
  have hws : IntKind.i64.wrap (l.se + 1) = sn := by have := hok.se0; have := hok.se1; have := hcf.t2; rw [IntKind.wrap_i64]; omega
  obtain ⟨sv, hsv⟩ : ∃ sv, (l.q.sv + 1) % c.sv = sv := ⟨_, rfl⟩
  have hs1 : IntKind.i64.wrap (l.q.sv + 1) = l.q.sv + 1 := by have := hok.sv0; have := hok.sv1; have := hcf.s2; rw [IntKind.wrap_i64]; omega
  have hs2 : (l.q.sv + 1).tmod c.sv = sv := by rw [Int.tmod_eq_emod_of_nonneg (by have := hok.sv0; omega), hsv]
  have hs0 : c.sv ≠ 0 := by have := hcf.s1; omega
  have HOV : Hid (overL c l = decide (sn = c.tr)) := Lib.hid (by unfold overL; rw [hsn])
  have HAG : Hid (againL c l draw now = sendL c { l with se := sn, q := { l.q with sv := sv } } draw now) := Lib.hid (by unfold againL; rw [hsn, hsv])
  have HSE : Hid (sn ≤ c.tr) := Lib.hid (by omega)
  clear h hp hd h0 h1 hse hcf hok hcl hbl hgG hgb hb hin hsn hsv
  obtain ⟨ln, lnm, ⟨qi, qn, qt, qs⟩, se, un, st, tt⟩ := l
  obtain ⟨csv, ctr, cwt, crm⟩ := c
  simp only at *
  go_enter Tryz.func64, Tryz.ntmps64
  go_upto_region 1 with fail
  try rw [hW]
  try rw [hR]
  clear hW hR
  have hc6 := HC.out.cell 6 _ rfl
  have hf6 := HC.out.live 6 (show 6 < 10 by decide)
  go_upto_region 2 with fail
  have HC2 := Lib.hid (HC.out.set 6 (.int .i64 sn) (show 6 < 10 by decide))
  simp only [lkL, List.set_cons_succ, List.set_cons_zero] at HC2
  have HF2 : Hid (Foot [g] [g] W (W.setCell ⟨g, 6, none⟩ (.int .i64 sn))) := Lib.hid (foot_cells g 6 [.int .i64 sn])
  have HK2 := Lib.hid (HBK.out.set 6 (.int .i64 sn))
  clear hc6 hf6
  generalize W.setCell ⟨g, 6, none⟩ (.int .i64 sn) = W2 at *
  have HG2 : Hid (W2.cell? ⟨G, 2, none⟩ = some (.int .i64 ctr)) := Lib.hid ((HS.out.cs.foot HF2.out (by have := HNG.out; simpa using this)).cell 2 _ rfl)
  obtain ⟨S, hS⟩ : ∃ S : World → Prop, (fun V => V.cell? ⟨g, 6, none⟩ = some (.int .i64 sn) ∧ V.cell? ⟨G, 2, none⟩ = some (.int .i64 ctr)) = S := ⟨_, rfl⟩
  have C1 : Hid (∀ w', S w' → w'.cell? ⟨g, 6, none⟩ = some (.int .i64 sn)) := Lib.hid (fun w' h => by rw [← hS] at h; exact h.1)
  have C2 : Hid (∀ w', S w' → w'.cell? ⟨G, 2, none⟩ = some (.int .i64 ctr)) := Lib.hid (fun w' h => by rw [← hS] at h; exact h.2)
  have HS0 : Hid (S W2.drew) := Lib.hid (by rw [← hS]; exact ⟨HC2.out.cell 6 _ rfl, HG2.out⟩)
  clear hS
  refine wp_region_noPanic ?_
  refine wp_region_held_drew (S := S) (by kernel_rfl) HS0.out (fun hHeld => ?_)
  refine tkT 0 ?_ rfl (Or.inl ⟨by rfl, ?_⟩) ?_
  rotate_left
  · (intro w hSw; go_simp; try (with_reducible rfl))
  try simp only [Act.put, pZ]
  refine tkT 1 ?_ rfl (Or.inl ⟨by rfl, ?_⟩) ?_
  rotate_left
  · (intro w hSw; go_simp; try (with_reducible rfl))
  try simp only [Act.put, pZ]
  refine tkT 2 ?_ rfl (Or.inl ⟨by rfl, ?_⟩) ?_
  rotate_left
  · (intro w hSw; go_simp; try (with_reducible rfl))
  try simp only [Act.put, pZ]
  refine tkT 3 ?_ rfl (Or.inl ⟨by rfl, ?_⟩) ?_
  rotate_left
  · (intro w hSw; have hc0 := C1.out w hSw; go_simp; try (with_reducible rfl))
  try simp only [Act.put, pZ]
  refine tkT 4 ?_ rfl (Or.inl ⟨by rfl, ?_⟩) ?_
  rotate_left
  · (intro w hSw; go_simp; try (with_reducible rfl))
  try simp only [Act.put, pZ]
  refine tkT 5 ?_ rfl (Or.inl ⟨by rfl, ?_⟩) ?_
  rotate_left
  · (intro w hSw; go_simp; try (with_reducible rfl))
  try simp only [Act.put, pZ]
  refine tkT 6 ?_ rfl (Or.inl ⟨by rfl, ?_⟩) ?_
  rotate_left
  · (intro w hSw; go_simp; try (with_reducible rfl))
  try simp only [Act.put, pZ]
  refine tkT 7 ?_ rfl (Or.inl ⟨by rfl, ?_⟩) ?_
  rotate_left
  · (intro w hSw; go_simp; try (with_reducible rfl))
  try simp only [Act.put, pZ]
  refine tkT 8 ?_ rfl (Or.inl ⟨by rfl, ?_⟩) ?_
  rotate_left
  · (intro w hSw; have hc0 := C2.out w hSw; go_simp; try (with_reducible rfl))
  try simp only [Act.put, pZ]
  refine tkT 9 ?_ rfl (Or.inl ⟨by rfl, ?_⟩) ?_
  rotate_left
  · (intro w hSw; go_simp; try (with_reducible rfl))
  try simp only [Act.put, pZ]
  refine wpAnyH_done (by kernel_rfl) ?_ _
  refine NoPanic.normal ?_
  clear hHeld C1 C2 HS0 HG2
  have HS2 : Hid (SolO W2 G cp ⟨csv, ctr, cwt, crm⟩ n v (setA A g ⟨ln, lnm, ⟨qi, qn, qt, qs⟩, sn, un, st, tt⟩)) := Lib.hid (HS.out.put HP.out HC2.out HK2.out (by
    have o := HOK.out
    have o0 := o.se0
    exact ⟨by show 0 ≤ sn; have := HSE.out; have := hws; rw [IntKind.wrap_i64] at this; have o1 := o.se1; have := HCF.out.t2; simp only at *; omega, HSE.out, o.sv0, o.sv1, o.n0, o.n1, o.un0, o.un1, o.st0, o.st1, o.tt, o.tt1, o.ty, o.id0, o.id1, o.nm, o.qn⟩) HF2.out)
  have HPG2 : Hid ((g, (⟨ln, lnm, ⟨qi, qn, qt, qs⟩, sn, un, st, tt⟩ : Lk)) ∈ setA A g ⟨ln, lnm, ⟨qi, qn, qt, qs⟩, sn, un, st, tt⟩) := Lib.hid (setA_own HND.out ⟨_, HP.out⟩)
  have HFP : Hid (fpO G v (setA A g ⟨ln, lnm, ⟨qi, qn, qt, qs⟩, sn, un, st, tt⟩) = fpO G v A) := Lib.hid (by unfold fpO; rw [setA_fst])
  have HZ2 : Hid (CellsAt W2.drew R evZ) := Lib.hid ((HZ.out.foot HF2.out (by have := HGR.out; simp; omega)).below (Below.refl _ _).drew)
  have HFW2 : Hid (Foot (fpO G v A) (fpO G v A) w W2.drew) := Lib.hid ((HFW.out.trans (foot_sub HF2.out (fun k hk => by rw [List.mem_singleton.1 hk]; exact HGB.out))).trans (Foot.ofBelow _ (Below.refl _ _).drew))
  have HFI : Hid (∀ v' A' W3 U vs, v'.ownBlock = v.ownBlock → (∀ k ∈ A'.map Prod.fst, k ∈ A.map Prod.fst) → SolO W3 G cp ⟨csv, ctr, cwt, crm⟩ n v' A' → Foot (fpO G v A) (fpO G v A) w W3 → U = W3.setCells R 0 vs → SolO U G cp ⟨csv, ctr, cwt, crm⟩ n v' A' ∧ Foot (fpO G v A) (fpO G v A) w U) := Lib.hid (fun v' A' W3 U vs hv hA hs hf hU => by
    refine ⟨hs.foot (by rw [hU]; exact foot_cells R 0 vs) (fun k hk => ?_), by rw [hU]; exact foot_new hf (by have := HRR.out; omega)⟩
    have hk2 : k ∈ fpO G v A := by
      rcases List.mem_cons.1 hk with rfl | hk
      · simp [fpO]
      rcases List.mem_append.1 hk with hk | hk
      · rw [hv] at hk; exact List.mem_cons_of_mem _ (List.mem_append_left _ hk)
      · exact List.mem_cons_of_mem _ (List.mem_append_right _ (hA k hk))
    have := HIN.out k hk2
    simp
    omega)
  clear HZ HFW HC HC2 HF2 HBK HK2 HS
  by_cases ho : sn = ctr
  · have hbe : ((sn : Int) == ctr) = true := by simp [ho]
    have HFA := Lib.hid (solFail_any G cp (g, ⟨ln, lnm, ⟨qi, qn, qt, qs⟩, sn, un, st, tt⟩) 9 ⟨csv, ctr, cwt, crm⟩ n v (setA A g ⟨ln, lnm, ⟨qi, qn, qt, qs⟩, sn, un, st, tt⟩) W2.drew (HS2.out.below (Below.refl _ _).drew) HPG2.out)
    have HEQ : Hid (againE ⟨csv, ctr, cwt, crm⟩ ⟨ln, lnm, ⟨qi, qn, qt, qs⟩, se, un, st, tt⟩ draw now = evF ln 9) := Lib.hid (by unfold againE; rw [HOV.out, decide_eq_true ho, if_pos rfl])
    have HEA : Hid (againA ⟨csv, ctr, cwt, crm⟩ A (g, ⟨ln, lnm, ⟨qi, qn, qt, qs⟩, se, un, st, tt⟩) draw now = cutA (setA A g ⟨ln, lnm, ⟨qi, qn, qt, qs⟩, sn, un, st, tt⟩) g) := Lib.hid (by unfold againA; rw [HOV.out, decide_eq_true ho, if_pos rfl, cutA_set])
    rw [HFP.out] at HFA
    have HSUB : Hid (∀ k ∈ (cutA (setA A g ⟨ln, lnm, ⟨qi, qn, qt, qs⟩, sn, un, st, tt⟩) g).map Prod.fst, k ∈ A.map Prod.fst) := Lib.hid (fun k hk => by
      rw [← setA_fst A g ⟨ln, lnm, ⟨qi, qn, qt, qs⟩, sn, un, st, tt⟩]
      obtain ⟨q, hq, rfl⟩ := List.mem_map.1 hk
      exact mem_fst (List.mem_filter.1 hq).1)
    clear HOV HAG hws hs0 hs1 hs2 HS2 HPG2 HFP HND HP HOK HCF ho
    go_wp2_with fail
    refine HFA.out.mono ?_
    rintro e w3 ⟨rfl, v', hv, hs, hf⟩
    have HZ3 : Hid (CellsAt w3 R evZ) := Lib.hid (HZ2.out.foot hf (fun e => by have := HIN.out R e; omega))
    have HFI3 := Lib.hid (fun U vs => HFI.out v' _ w3 U vs hv HSUB.out hs (HFW2.out.trans hf))
    have HV := Lib.hid hv
    clear HFA hv hs hf HFI HZ2 HFW2
    unfold evV
    go_wp2_with (refine store_of HZ3 rfl ev_size _ _ rfl rfl rfl (vs := evL (evF ln 9)) rfl rfl rfl (fun U HU HUC => ?_))
    exact bodyPost_ret (results_of Tryz.results64 rfl HUC.out Tryz.underlying77 rfl ev_size) rfl ⟨by rw [HEQ.out]; rfl, v', HV.out, by rw [HEA.out]; exact HFI3.out U _ HU.out⟩
  · have hbe : ((sn : Int) == ctr) = false := by simp [ho]
    have HEQ : Hid (againE ⟨csv, ctr, cwt, crm⟩ ⟨ln, lnm, ⟨qi, qn, qt, qs⟩, se, un, st, tt⟩ draw now = evS (sendL ⟨csv, ctr, cwt, crm⟩ ⟨ln, lnm, ⟨qi, qn, qt, sv⟩, sn, un, st, tt⟩ draw now)) := Lib.hid (by unfold againE; rw [HOV.out, decide_eq_false ho, if_neg (by decide), HAG.out])
    have HEA : Hid (againA ⟨csv, ctr, cwt, crm⟩ A (g, ⟨ln, lnm, ⟨qi, qn, qt, qs⟩, se, un, st, tt⟩) draw now = setA (setA A g ⟨ln, lnm, ⟨qi, qn, qt, qs⟩, sn, un, st, tt⟩) g (sendL ⟨csv, ctr, cwt, crm⟩ ⟨ln, lnm, ⟨qi, qn, qt, sv⟩, sn, un, st, tt⟩ draw now)) := Lib.hid (by unfold againA; rw [HOV.out, decide_eq_false ho, if_neg (by decide), HAG.out, setA_set])
    have HS2D := Lib.hid (HS2.out.below (w' := W2.drew) (Below.refl _ _).drew)
    have HC2 : Hid (CellsAt W2.drew g [.int .i64 ln, .string lnm, .int .i64 qi, .string qn, .int .i64 qt, .int .i64 qs, .int .i64 sn, .int .i64 un, .int .i64 st, .int .i64 tt]) := Lib.hid (HS2D.out.lk _ HPG2.out).1
    have HK2 := Lib.hid (HS2D.out.lk _ HPG2.out).2
    have HG1 : Hid (W2.drew.cell? ⟨G, 1, none⟩ = some (.int .i64 csv)) := Lib.hid (HS2D.out.cs.cell 1 _ rfl)
    clear HOV HAG hws HS2
    generalize W2.drew = W3 at *
    go_upto_region 4 with fail
    obtain ⟨S1, hS⟩ : ∃ S : World → Prop, (fun V => V.cell? ⟨G, 1, none⟩ = some (.int .i64 csv)) = S := ⟨_, rfl⟩
    have D1 : Hid (∀ w', S1 w' → w'.cell? ⟨G, 1, none⟩ = some (.int .i64 csv)) := Lib.hid (fun w' h => by rw [← hS] at h; exact h)
    have HD0 : Hid (S1 W3.drew) := Lib.hid (by rw [← hS]; exact HG1.out)
    have HC4 : Hid (CellsAt W3.drew g [.int .i64 ln, .string lnm, .int .i64 qi, .string qn, .int .i64 qt, .int .i64 qs, .int .i64 sn, .int .i64 un, .int .i64 st, .int .i64 tt]) := Lib.hid (HC2.out.below (Below.refl _ _).drew)
    have HK4 := Lib.hid (HK2.out.below (Below.refl W3.heap.size W3).drew)
    have HS4 := Lib.hid (HS2D.out.below (Below.refl W3.heap.size W3).drew)
    have HZ4 := Lib.hid (HZ2.out.below (Below.refl W3.heap.size W3).drew)
    have HF4 : Hid (Foot (fpO G v A) (fpO G v A) w W3.drew) := Lib.hid (HFW2.out.trans (Foot.ofBelow _ (Below.refl _ _).drew))
    clear HG1 HC2 HK2 HS2D HZ2 HFW2
    refine wp_region_noPanic ?_
    refine wp_region_held_drew (S := S1) (by kernel_rfl) HD0.out (fun hHeld => ?_)
    generalize W3.drew = W4 at *
    have HD1 : Hid (S1 (W4.setCell ⟨g, 5, none⟩ (.int .i64 sv))) := Lib.hid (by
      rw [← hS]
      show (W4.setCell ⟨g, 5, none⟩ (.int .i64 sv)).cell? ⟨G, 1, none⟩ = _
      rw [World.cell?_setCell_other _ _ _ _ (by intro h2; injection h2 with h3 _ _; exact HNG.out h3.symm)]
      exact D1.out _ HD0.out)
    clear hS
    refine tkT 0 ?_ rfl (Or.inl ⟨by rfl, ?_⟩) ?_
    rotate_left
    · (intro w hSw; go_simp; try (with_reducible rfl))
    try simp only [Act.put, pZ]
    refine tkT 1 ?_ rfl (Or.inl ⟨by rfl, ?_⟩) ?_
    rotate_left
    · (intro w hSw; go_simp; try (with_reducible rfl))
    try simp only [Act.put, pZ]
    refine tkT 2 ?_ rfl (Or.inl ⟨by rfl, ?_⟩) ?_
    rotate_left
    · (intro w hSw; go_simp; try (with_reducible rfl))
    try simp only [Act.put, pZ]
    refine tkT 3 ?_ rfl (Or.inl ⟨by rfl, ?_⟩) ?_
    rotate_left
    · (intro w hSw; go_simp; try (with_reducible rfl))
    try simp only [Act.put, pZ]
    refine tkT 4 ?_ rfl (Or.inl ⟨by rfl, ?_⟩) ?_
    rotate_left
    · (intro w hSw; go_simp; try (with_reducible rfl))
    try simp only [Act.put, pZ]
    refine tkT 7 ?_ rfl (Or.inl ⟨by rfl, ?_⟩) ?_
    rotate_left
    · (intro w hSw; go_simp; try (with_reducible rfl))
    try simp only [Act.put, pZ]
    refine tkT 8 ?_ rfl (Or.inl ⟨by rfl, ?_⟩) ?_
    rotate_left
    · (intro w hSw; go_simp; try (with_reducible rfl))
    try simp only [Act.put, pZ]
    refine tkT 9 ?_ rfl (Or.inl ⟨by rfl, ?_⟩) ?_
    rotate_left
    · (intro w hSw; go_simp; try (with_reducible rfl))
    try simp only [Act.put, pZ]
    refine tkT 10 ?_ rfl (Or.inl ⟨by rfl, ?_⟩) ?_
    rotate_left
    · (intro w hSw; go_simp; try (with_reducible rfl))
    try simp only [Act.put, pZ]
    refine tkT 11 ?_ rfl (Or.inl ⟨by rfl, ?_⟩) ?_
    rotate_left
    · (intro w hSw; have hc0 := D1.out w hSw; go_simp; try (with_reducible rfl))
    try simp only [Act.put, pZ]
    have hc5 := HC4.out.cell 5 _ rfl
    have hf5 := HC4.out.live 5 (show 5 < 10 by decide)
    refine wpAnyH_ready (rs := [5]) (by kernel_rfl) (by simp) ?_
    refine AllReadyH.one rfl rfl (fun K hK => ?_)
    go_wp2_with fail
    refine hK.out _ _ hHeld (fun hHeld2 => ?_)
    clear hK K
    try simp only [Act.put, pZ]
    refine tkT 6 ?_ rfl (Or.inl ⟨by rfl, ?_⟩) ?_
    rotate_left
    · (intro w hSw; go_simp; try (with_reducible rfl))
    try simp only [Act.put, pZ]
    refine tkT 12 ?_ rfl (Or.inl ⟨by rfl, ?_⟩) ?_
    rotate_left
    · (intro w hSw; go_simp; try (with_reducible rfl))
    try simp only [Act.put, pZ]
    refine tkT 13 ?_ rfl (Or.inl ⟨by rfl, ?_⟩) ?_
    rotate_left
    · (intro w hSw; go_simp; try (with_reducible rfl))
    try simp only [Act.put, pZ]
    refine tkT 14 ?_ rfl (Or.inl ⟨by rfl, ?_⟩) ?_
    rotate_left
    · (intro w hSw; go_simp; try (with_reducible rfl))
    try simp only [Act.put, pZ]
    refine tkT 15 ?_ rfl (Or.inl ⟨by rfl, ?_⟩) ?_
    rotate_left
    · (intro w hSw; go_simp; try (with_reducible rfl))
    try simp only [Act.put, pZ]
    refine wpAnyH_ready (rs := [16]) (by kernel_rfl) (by simp) ?_
    refine AllReadyH.one rfl rfl (fun K hK => ?_)
    go_wp2_with fail
    try rw [hs2]
    refine hK.out _ _ HD1.out (fun hHeld3 => ?_)
    clear hK K
    try simp only [Act.put, pZ]
    refine wpAnyH_done (by kernel_rfl) ?_ _
    refine NoPanic.normal ?_
    have HC5 := Lib.hid (HC4.out.set 5 (.int .i64 sv) (show 5 < 10 by decide))
    simp only [List.set_cons_succ, List.set_cons_zero] at HC5
    have HFG : Hid (Foot [g] [g] W4 (W4.setCell ⟨g, 5, none⟩ (.int .i64 sv))) := Lib.hid (foot_cells g 5 [.int .i64 sv])
    have HK5 := Lib.hid (HK4.out.set 5 (.int .i64 sv))
    have HZ5 := Lib.hid (HZ4.out.foot HFG.out (by have := HGR.out; simp; omega))
    have HF5 := Lib.hid (HF4.out.trans (foot_sub HFG.out (fun k hk => by rw [List.mem_singleton.1 hk]; exact HGB.out)))
    have HOK5 : Hid (Lk.Ok ⟨csv, ctr, cwt, crm⟩ ⟨ln, lnm, ⟨qi, qn, qt, sv⟩, sn, un, st, tt⟩) := Lib.hid (by
      have o := HOK.out
      have c1 := HCF.out.s1
      have hv0 : 0 ≤ sv ∧ sv < csv := by
        rw [← hs2, Int.tmod_eq_emod_of_nonneg (by have := o.sv0; simp only at this; omega)]
        simp only at c1
        exact ⟨Int.emod_nonneg _ (by omega), Int.emod_lt_of_pos _ (by omega)⟩
      exact ⟨(HS4.out.ok _ HPG2.out).se0, HSE.out, hv0.1, hv0.2, o.n0, o.n1, o.un0, o.un1, o.st0, o.st1, o.tt, o.tt1, o.ty, o.id0, o.id1, o.nm, o.qn⟩)
    have HS5 := Lib.hid (HS4.out.put HPG2.out HC5.out HK5.out HOK5.out HFG.out)
    rw [setA_set] at HS5
    clear hHeld hHeld2 hHeld3 D1 HD0 HD1 hc5 hf5 HC4 HK4 HS4 HZ4 HF4 HFG
    generalize W4.setCell ⟨g, 5, none⟩ (.int .i64 sv) = W5 at *
    have HSEND := Lib.hid (send_any G g ⟨csv, ctr, cwt, crm⟩ ⟨ln, lnm, ⟨qi, qn, qt, sv⟩, sn, un, st, tt⟩ draw now W5 (HS5.out.cs.cell 3 _ rfl) HS5.out.cs.lt HC5.out HK5.out HNG.out HDW.out HN0.out HN1.out HCF.out)
    have HOK6 := Lib.hid (sendL_ok HCF.out HOK5.out draw now HN0.out HN1.out)
    have HPG5 : Hid ((g, (⟨ln, lnm, ⟨qi, qn, qt, sv⟩, sn, un, st, tt⟩ : Lk)) ∈ setA A g ⟨ln, lnm, ⟨qi, qn, qt, sv⟩, sn, un, st, tt⟩) := Lib.hid (setA_own HND.out ⟨_, HP.out⟩)
    rw [setA_set] at HEA
    clear HK5 HC5
    generalize sendL ⟨csv, ctr, cwt, crm⟩ ⟨ln, lnm, ⟨qi, qn, qt, sv⟩, sn, un, st, tt⟩ draw now = L6 at *
    go_wp2_with fail
    refine HSEND.out.mono ?_
    rintro e w6 ⟨rfl, hc6, hk6, hf6⟩
    have HZ6 := Lib.hid (HZ5.out.foot hf6 (by have := HGR.out; simp; omega))
    have HS6 := Lib.hid (HS5.out.put HPG5.out hc6 hk6 HOK6.out hf6)
    rw [setA_set] at HS6
    have HF6 := Lib.hid (HF5.out.trans (foot_sub hf6 (fun k hk => by rw [List.mem_singleton.1 hk]; exact HGB.out)))
    clear hc6 hk6 hf6 HSEND HZ5 HS5 HF5
    have HFI6 := Lib.hid (fun U vs => HFI.out v _ w6 U vs rfl (fun k hk => by rw [setA_fst] at hk; exact hk) HS6.out HF6.out)
    unfold evV
    go_wp2_with (refine store_of HZ6 rfl ev_size _ _ rfl rfl rfl (vs := evL (evS L6)) rfl rfl rfl (fun U HU HUC => ?_))
    exact bodyPost_ret (results_of Tryz.results64 rfl HUC.out Tryz.underlying77 rfl ev_size) rfl ⟨by rw [HEQ.out]; rfl, v, rfl, by rw [HEA.out]; exact HFI6.out U _ HU.out⟩
end Go.Proofs.YtedmkdjijhflnaaGreat
