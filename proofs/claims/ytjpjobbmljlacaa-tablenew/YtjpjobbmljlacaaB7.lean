/- Texts that belong together, one behind the other: TabSeq, TabLike, TabFind, TabFindOwn, TabLives, TabDoes, TabPlay, TabLaw, TabEq. -/
import Derived.Test.YtjpjobbmljlacaaB6
import Derived.Lib.SliceRun
/- Contracts of slices.Clone and Table.All. -/
namespace Go.Proofs.Ytjpjobbmljlacaa
open Go.RowKit
set_option linter.unusedVariables false
set_option maxRecDepth 20000

set_option maxRecDepth 100000 in
theorem values1_nil (B : Nat) (M : List Nat) (w : World) (hB : w.cell? ⟨B, 0, none⟩ = some (.slice none 0 0)) :
    Tells Try.prog 49 #[.pointer (some ⟨B, 0, none⟩)] [] encE M w := by
  intro l J W hb hJ hY h0
  have hBl : B < w.heap.size := World.block_lt_of_cell? w ⟨B, 0, none⟩ hB
  have hcell : W.cell? ⟨B, 0, none⟩ = some (.slice none 0 0) := (hb.cell (p := ⟨B, 0, none⟩) hBl).trans hB
  have H0 := Lib.hid h0
  clear hJ hY h0 hb hB hBl
  refine callsIn_of_wp Try.func49 rfl trivial (wpIn_wide.2 ?_)
  simp only [Try.ntmps49, List.size_toArray, List.length_cons, List.length_nil, Nat.reduceAdd, Nat.reduceSub, Array.replicate_succ, Array.replicate_zero, List.push_toArray, List.append_toArray, List.nil_append, List.cons_append]
  go_wp2_with fail
  clear hcell
  go_loop [7] (fun i => i = .int .i64 0) (fun _ => 0)
  case atStart => rfl
  case round =>
    obtain rfl := hrel
    go_wp2_with fail
    go_end0
    exact ⟨⟨_, rfl⟩, H0.out⟩
theorem tells_of {w : World} {base B : Nat} {v : Value} {es : List Ent} (hR : RowT w base v es) (hB : w.cell? ⟨B, 0, none⟩ = some v) (M : List Nat) (hM : ∀ g, v.ownBlock = some g → g ∉ M) :
    Tells Try.prog 49 #[.pointer (some ⟨B, 0, none⟩)] es encE M w := by
  rcases hR.form with ⟨rfl, rfl⟩ | ⟨g, cap, rfl, _, hg, hc, _, hrg⟩
  · exact values1_nil B M w hB
  · exact values1_some B g cap es M w hB hrg hg (hM g rfl) hR.2.1 hR.2.2
theorem run_build0 (w : World) : (Instr.buildSlice 57 0 #[]).run Try.prog w = .ok (.slice (some ⟨w.heap.size, 0, none⟩) 0 0) (w.alloc (.cells #[] 42)) := by
  have hu : (underlying 57).run Try.prog w = .ok _ w := run_underlying Try.underlying57 w
  have hnr : ∀ cs : Array Value, (newRow 42 cs).run Try.prog w = .ok ⟨w.heap.size, 0, none⟩ (w.alloc (.cells cs 42)) := fun cs => by simp [newRow]
  unfold Instr.buildSlice
  simp [Sem.run_bind, hu, hnr, Instr.fill]
  rw [show Array.map (fun _ => (default : Value)) (Array.range 0) = #[] from Array.eq_empty_of_size_eq_zero (by simp)]
theorem build_step0 {ops : Array Oper} {rest : List Oper} {op : Oper} {a : Act} {w : World} {Q : Exit → Act → World → Prop} (hg : op.guard = none) (ho : op.op = .buildSlice 57 0 #[])
    (h : ∀ W, Hid (W = w.alloc (.cells #[] 42)) → wpList Try.prog ops Q rest (a.put op.dst (.slice (some ⟨w.heap.size, 0, none⟩) 0 0)) W) : wpList Try.prog ops Q (op :: rest) a w := by
  refine wpList_plain hg fun K hK => ?_
  unfold Oper.wp execOp
  simp only [ho, List.map_toArray, List.map_nil, Sem.run_bind, run_build0 w, Result.andThen_ok]
  exact hK _ _ (h _ (Lib.hid rfl))
theorem rowT_empty (w : World) : RowT (w.alloc (.cells #[] 42)) w.heap.size (.slice (some ⟨w.heap.size, 0, none⟩) 0 0) [] :=
  ⟨⟨rfl, .inr ⟨w.heap.size, 0, #[], rfl, Nat.le_refl _, by show (w.heap.push _)[w.heap.size]? = _; simp, Nat.le_refl _, Nat.zero_le _, rfl, rfl⟩⟩, (fun e he => by cases he), by decide⟩
set_option maxRecDepth 100000 in
theorem clone_any (v : Value) (es : List Ent) (w : World) (hR : RowT w 0 v es) :
    Calls Try.prog 34 #[v] w fun e w' => ∃ v', e = .returned v' ∧ RowT w' w.heap.size v' es ∧ Below w.heap.size w w' := by
  have q : ∀ (w : World) (a : Option Addr) (n c n' c' : Nat), (binOp .eql 57 (.slice a n c) (.slice none n' c')).run Try.prog w = .ok (.bool a.isNone) w := fun w a n c n' c' => Lib.run_eql_slice_nil w _ _ a n c n' c' Try.underlying57
  rcases hR.form with ⟨rfl, rfl⟩ | ⟨g, cap, rfl, _, hg, hc, hmx, hrg⟩
  · go_enter Try.func34, Try.ntmps34
    go_wp2_with fail
    go_ret
    exact ⟨_, rfl, RowT.nil _ _, Below.refl _ _⟩
  · have HM : Hid (es.length = es.length) := Lib.hid rfl
    have HY := Lib.hid hR.2.1
    have HLE : Hid (([] : List Ent).length + es.length ≤ 1000) := Lib.hid (by rw [List.length_nil]; have := hR.2.2; omega)
    have HRG := Lib.hid hrg
    have HGL := Lib.hid hg
    clear hR hrg hg hmx hc
    obtain ⟨N, hN⟩ : ∃ N, es.length = N := ⟨_, rfl⟩
    have HM : Hid (N = es.length) := Lib.hid hN.symm
    rw [hN]
    clear hN
    go_enter Try.func34, Try.ntmps34
    go_wp2_with (first
      | (refine build_step0 rfl rfl (fun W HW => ?_); have HE : Hid (RowT W w.heap.size (.slice (some ⟨w.heap.size, 0, none⟩) 0 0) []) := Lib.hid (by rw [HW.out]; exact rowT_empty w); have HB : Hid (Below w.heap.size w W) := Lib.hid (by rw [HW.out]; exact (Below.refl _ _).alloc (Nat.le_refl _) _); have HR1 := Lib.hid (range_belowB HRG.out HB.out HGL.out); have HS : Hid (w.heap.size ≤ W.heap.size) := Lib.hid HB.out.size)
      | (refine append_entsT HE _ _ rfl rfl rfl es rfl HM HR1 HY HLE HS (fun v' w' H1 H2 H3 => ?_)))
    go_ret
    refine ⟨v', rfl, H1.out, ?_⟩
    exact HB.out.grown H2.out HS.out (fun k hk => by cases hk; exact Nat.le_refl _)
set_option maxRecDepth 100000 in
theorem all_any (G : Nat) (v : Value) (st : Int) (es : List Ent) (w : World) (hT : Tab w G v st) (hR : RowT w 0 v es) :
    Calls Try.prog 18 #[.pointer (some ⟨G, 0, none⟩)] w fun e w' => ∃ B v', e = .returned (.func (.func 49) #[] #[.pointer (some ⟨B, 0, none⟩)]) ∧ w'.cell? ⟨B, 0, none⟩ = some v' ∧ RowT w' w.heap.size v' es ∧ Below w.heap.size w w' := by
  have hc := hT.row
  have HC := Lib.hid (clone_any v es w hR)
  have HV : ∀ a n c W, Hid (Calls Try.prog 33 #[.slice a n c] W fun e w' => e = .returned (.func (.func 49) #[] #[.pointer (some ⟨W.heap.size, 0, none⟩)]) ∧ w' = W.alloc (.cells #[.slice a n c] 57)) := fun a n c W => Lib.hid (by
    go_enter Try.func33, Try.ntmps33
    go_wp2_with fail
    go_ret
    exact ⟨rfl, rfl⟩)
  clear hT hR
  go_enter Try.func18, Try.ntmps18
  go_wp2_with fail
  refine HC.out.mono ?_
  rintro e w1 ⟨v', rfl, hr1, hb1⟩
  have HR1 := Lib.hid hr1
  have HB1 := Lib.hid hb1
  clear hr1 hb1 hc HC
  obtain ⟨a, n, c, rfl⟩ : ∃ a n c, v' = .slice a n c := by
    rcases HR1.out.form with ⟨e, _⟩ | ⟨g, cap, e, _⟩
    · exact ⟨_, _, _, e⟩
    · exact ⟨_, _, _, e⟩
  go_wp2_with fail
  refine (HV _ _ _ _).out.mono ?_
  rintro e w2 ⟨rfl, hw2⟩
  have HW2 := Lib.hid hw2
  clear hw2 HV
  go_wp2_with fail
  go_ret
  refine ⟨w1.heap.size, .slice a n c, rfl, ?_, ?_, ?_⟩
  · rw [HW2.out, World.cell?_alloc_new]; rfl
  · rw [HW2.out]; exact HR1.out.below ((Below.refl _ _).alloc (Nat.le_refl _) _)
  · rw [HW2.out]; exact chain HB1.out ((Below.refl _ _).alloc (Nat.le_refl _) _)
end Go.Proofs.Ytjpjobbmljlacaa
/- Contract of abatislaw06.like, over the landed table. -/
namespace Go.Proofs.Ytjpjobbmljlacaa
open Go.RowKit
set_option linter.unusedVariables false
set_option maxRecDepth 20000

theorem func_equal (w : World) (d k : Nat) (c : Array Value) : (Op.equalIn (d + 1) 53 (.func (.func k) #[] c) .nilFunc).run Try.prog w = .ok false w := by
  simp [Op.equalIn, run_underlying Try.underlying53]
theorem func_not_nil (w : World) (k : Nat) (c : Array Value) : (binOp .eql 53 (.func (.func k) #[] c) .nilFunc).run Try.prog w = .ok (.bool false) w := by
  have := func_equal w 9999 k c
  simp only [binOp, Op.equal, Sem.run_bind]
  rw [show Op.maxDepth = 9999 + 1 from rfl, this]
  rfl
theorem cell1_set {w : World} {b : Nat} {u : Value} {t : TypeId} (h : w.heap[b]? = some (.cells #[u] t)) (x : Value) : (w.setCell ⟨b, 0, none⟩ x).heap[b]? = some (.cells #[x] t) := by
  obtain ⟨hlt, hk⟩ := Array.getElem?_eq_some_iff.1 h
  show (w.heap.modify b _)[b]? = _
  rw [Array.getElem?_eq_getElem (by rw [Array.size_modify]; exact hlt), Array.getElem_modify_self, hk]
  rfl
/-- A result that lies in a cell of bool. -/
theorem results_bool {fn : Func} {t : Tmp} {tmps : Array Value} {W : World} {R : Nat} {b : Bool} (h : fn.results = #[.cell t 4]) (ht : tmps.getD t undef = .pointer (some ⟨R, 0, none⟩)) (hc : W.cell? ⟨R, 0, none⟩ = some (.bool b)) : (results fn tmps).run Try.prog W = .ok (.bool b) W := by
  have hl : (loadVar 4 ⟨R, 0, none⟩).run Try.prog W = .ok (.bool b) W := by
    simp [go_sem, hc]
  rw [Array.getD_eq_getD_getElem?] at ht
  simp [results, h, ht, asAddr, hl]
set_option maxRecDepth 100000 in
set_option maxHeartbeats 1000000 in
theorem like_any (G : Nat) (a : Option Addr) (rcap : Nat) (es : List Ent) (st : Int) (F : List Nat) (w : World) (hA : TabAt w G es st F) (hR : RowE w 0 (.slice a es.length rcap) es) :
    Calls Try.prog 11 #[.pointer (some ⟨G, 0, none⟩), .slice a es.length rcap] w fun e w' => e = .returned (.bool true) ∧ Below w.heap.size w w' := by
  have HA := Lib.hid hA
  have HRR := Lib.hid hR
  have HG := Lib.hid hR.2.1
  have hle := hR.2.2
  obtain ⟨N, hNn⟩ : ∃ N, es.length = N := ⟨_, rfl⟩
  rw [hNn] at hle HRR ⊢
  have HN := Lib.hid hNn
  clear hA hR hNn
  refine (callsIn_wide (n := 0)).1 (callsIn_of_wp_marks Try.func11 rfl trivial (wpIn_wide.2 ?_) rfl)
  simp only [Try.ntmps11, List.size_toArray, List.length_cons, List.length_nil, Nat.reduceAdd, Nat.reduceSub, Array.replicate_succ, Array.replicate_zero, List.push_toArray, List.append_toArray, List.nil_append, List.cons_append]
  go_upto_region 1 with fail
  obtain ⟨W0, hW0⟩ : ∃ W0, (w.alloc (.cells #[Value.slice a N rcap] 25)).alloc (.cells #[Value.bool false] 4) = W0 := ⟨_, rfl⟩
  have HB0 : Hid (Below w.heap.size w W0) := Lib.hid (by rw [← hW0]; exact ((Below.refl _ _).alloc (Nat.le_refl _) _).alloc (by simp) _)
  have HZ0 : Hid (W0.heap.size = w.heap.size + 2) := Lib.hid (by rw [← hW0]; simp)
  have HC0 : Hid (W0.heap[w.heap.size]? = some (.cells #[Value.slice a N rcap] 25)) := Lib.hid (by rw [← hW0]; exact (Below.heap_alloc _ _ _ (by simp)).trans (World.alloc_heap_new w _))
  have HC1 : Hid (W0.heap[w.heap.size + 1]? = some (.cells #[Value.bool false] 4)) := Lib.hid (by rw [← hW0]; have := World.alloc_heap_new (w.alloc (.cells #[Value.slice a N rcap] 25)) (.cells #[Value.bool false] 4); rwa [World.size_alloc] at this)
  rw [hW0]
  clear hW0
  have HALL : Hid (Calls Try.prog 18 #[.pointer (some ⟨G, 0, none⟩)] W0 fun e w' => ∃ B v', e = .returned (.func (.func 49) #[] #[.pointer (some ⟨B, 0, none⟩)]) ∧ w'.cell? ⟨B, 0, none⟩ = some v' ∧ RowT w' W0.heap.size v' es ∧ Below W0.heap.size W0 w') := Lib.hid (by
    obtain ⟨v, rfl, hT, hR, hs, hn⟩ := HA.out
    exact all_any G v st es W0 (hT.below HB0.out) (hR.below HB0.out))
  go_wp2_with fail
  refine HALL.out.mono ?_
  rintro e w1 ⟨B, v', rfl, hB, hr1, hb1⟩
  have HCB := Lib.hid hB
  have HR1 := Lib.hid hr1
  have HB1 := Lib.hid hb1
  clear hB hr1 hb1 HALL
  have qf := func_not_nil
  go_upto_region 5 with fail
  obtain ⟨W2, hW2⟩ : ∃ W2, w1.alloc (.cells #[Value.int .i64 0] 3) = W2 := ⟨_, rfl⟩
  rw [hW2]
  go_wp2_with fail
  have HZ2 : Hid (W2.heap.size = w1.heap.size + 1) := Lib.hid (by rw [← hW2]; simp)
  have HB2 : Hid (Below w1.heap.size w1 W2) := Lib.hid (by rw [← hW2]; exact (Below.refl _ _).alloc (Nat.le_refl _) _)
  have HN2 : Hid (W2.heap[w1.heap.size]? = some (.cells #[Value.int .i64 ((0 : Nat) : Int)] 3)) := Lib.hid (by rw [← hW2]; exact World.alloc_heap_new w1 _)
  clear hW2
  have HTE := Lib.hid (tells_of HR1.out HCB.out [w1.heap.size] (fun g hg e => by have := (HR1.out.blockLt g hg).2; rw [List.mem_singleton.1 e] at this; omega))
  have HSZ : Hid (w.heap.size + 2 ≤ w1.heap.size) := Lib.hid (by have := HB1.out.size; rw [HZ0.out] at this; exact this)
  have HQ0 : Hid (∀ W, Below w1.heap.size w1 W → W.cell? ⟨w.heap.size, 0, none⟩ = some (Value.slice a N rcap)) := Lib.hid (fun W h => by
    rw [h.cell (p := ⟨w.heap.size, 0, none⟩) (by have := HSZ.out; show w.heap.size < _; omega), HB1.out.cell (p := ⟨w.heap.size, 0, none⟩) (by rw [HZ0.out]; show w.heap.size < _; omega), cell_of_row _ _ 0 _ _ _ HC0.out]; rfl)
  have HQ1 : Hid (∀ W, Below w1.heap.size w1 W → W.cell? ⟨w.heap.size + 1, 0, none⟩ = some (Value.bool false) ∧ W.frozen? ⟨w.heap.size + 1, 0, none⟩ = false) := Lib.hid (fun W h => by
    rw [h.cell (p := ⟨w.heap.size + 1, 0, none⟩) (by have := HSZ.out; show w.heap.size + 1 < _; omega), HB1.out.cell (p := ⟨w.heap.size + 1, 0, none⟩) (by rw [HZ0.out]; show w.heap.size + 1 < _; omega), cell_of_row _ _ 0 _ _ _ HC1.out,
      h.frozen (p := ⟨w.heap.size + 1, 0, none⟩) (by have := HSZ.out; show w.heap.size + 1 < _; omega), HB1.out.frozen (p := ⟨w.heap.size + 1, 0, none⟩) (by rw [HZ0.out]; show w.heap.size + 1 < _; omega)]
    refine ⟨rfl, ?_⟩
    unfold World.frozen?; rw [HC1.out]; rfl)
  have HQR : Hid (0 < N → ∃ rg, a = some ⟨rg, 0, none⟩ ∧ ∀ W, Below w1.heap.size w1 W → W.rangeAt rg 0 (flatE es)) := Lib.hid (fun hN0 => by
    rcases HRR.out.form with ⟨_, e⟩ | ⟨g, cap, e, _, hg, _, _, hrg⟩
    · have := HN.out; rw [e, List.length_nil] at this; omega
    · cases e
      have h1 := HSZ.out
      have h2 := HZ0.out
      exact ⟨g, rfl, fun W h => range_belowB (range_belowB (range_belowB hrg HB0.out hg) HB1.out (by omega)) h (by omega)⟩)
  have HGB := Lib.hid (chain HB0.out HB1.out)
  refine range_each (gf := 49) (lb := #[.pointer (some ⟨B, 0, none⟩)]) rfl (enters_of Try.func49 (by kernel_rfl) rfl) es encE [w1.heap.size] (fun k hk => by rw [List.mem_singleton.1 hk, HZ2.out]; exact Nat.lt_succ_self _) w1 HTE.out HB2.out
    (fun k W => W.heap[w1.heap.size]? = some (.cells #[Value.int .i64 (k : Int)] 3) ∧ Below w1.heap.size w1 W)
    (fun k A B h hb => ⟨(hb.block _ (by rw [HZ2.out]; omega)).trans h.1, h.2.trans (hb.mono (by rw [HZ2.out]; omega))⟩)
    ⟨HN2.out, HB2.out⟩ ?round ?done
  case round =>
    intro l k hk W hl hlW hIk
    obtain ⟨y, hy⟩ : ∃ y, es[k] = y := ⟨_, rfl⟩
    have HGY : Hid y.Good := Lib.hid (by rw [← hy]; exact HG.out _ (List.getElem_mem hk))
    have H16 := Lib.hid HGY.out.1.len
    have hkN : k < N := by have := HN.out; omega
    obtain ⟨rg, rfl, hQR⟩ := HQR.out (by omega)
    rw [hy, show encE y = entV y.f y.b (y.n : Int) y.v from rfl]
    have HRK : Hid (∀ W, Below w1.heap.size w1 W → W.rangeAt rg (k * 19) (entL y.f y.b (y.n : Int) y.v)) := Lib.hid (fun W h => by have := range_ent (hQR W h) HG.out k hk; rw [hy] at this; exact this)
    have HIK := Lib.hid hIk
    have HLL := Lib.hid hl
    have HLW := Lib.hid hlW
    have HZ := Lib.hid (entT_zeroed W)
    clear hy hk hIk hl hlW hQR HQR
    refine round_region rfl (fun ⟨_, _, h⟩ => h) ?_
    simp only [List.setIfInBounds_toArray, List.set_cons_succ, List.set_cons_zero]
    go_wp2_with (refine store_entT HZ _ _ H16 rfl rfl rfl rfl (fun W3 HW3 HE3 => ?_))
    refine ⟨below_newT HW3, fun w₂ hf2 => ?_⟩
    have HB3 := Lib.hid (below_newT HW3)
    have HX2 : Hid (w₂.rangeAt W.heap.size 0 (entL y.f y.b (y.n : Int) y.v)) := Lib.hid (range_foot hf2 HE3.out.range HE3.out.lt (by have := HLW.out; simp; omega))
    have HI2 : Hid (w₂.heap[w1.heap.size]? = some (.cells #[Value.int .i64 (k : Int)] 3) ∧ Below w1.heap.size w1 w₂) := Lib.hid (by
      have hlt := HLL.out
      have hz := HZ2.out
      have hlw := HLW.out
      refine ⟨(hf2.keep _ (by have := HB3.out.size; omega) (by simp; omega)).trans ((HB3.out.block _ (by omega)).trans HIK.out.1), ?_⟩
      exact (HIK.out.2.trans (HB3.out.mono (by omega))).trans (hf2.below (by simp; omega) (by have := HB3.out.size; omega)))
    have HWW : Hid (W.heap.size < w₂.heap.size) := Lib.hid (Nat.lt_of_lt_of_le HE3.out.lt hf2.size)
    clear HZ HW3 HE3 hf2 HB3 HIK
    have hs0 := HQ0.out w₂ HI2.out.2
    have hn0 : w₂.cell? ⟨w1.heap.size, 0, none⟩ = some (.int .i64 (k : Int)) := by rw [cell_of_row _ _ 0 _ _ _ HI2.out.1]; rfl
    refine wpIn_block (wpIn_seq (wpIn_seq ?_))
    refine round_region rfl (fun ⟨_, _, h⟩ => by cases h.1) ?_
    have hdk : decide ((N : Int) ≤ (k : Int)) = false := by simp; omega
    have hdk2 : decide (N ≤ k) = false := by simp; omega
    go_wp2_with fail
    refine wpIn_cond_false rfl (wpIn_skip ?_)
    refine wpIn_seq (wpIn_seq ?_)
    obtain ⟨L, hL⟩ : ∃ L, [(W.heap.size, 0, entL y.f y.b (y.n : Int) y.v), (w.heap.size, 0, [Value.slice (some ⟨rg, 0, none⟩) N rcap]), (w1.heap.size, 0, [Value.int .i64 (k : Int)]), (rg, k * 19, entL y.f y.b (y.n : Int) y.v)] = L := ⟨_, rfl⟩
    have one : ∀ {w : World} {b : Nat} {u : Value}, w.cell? ⟨b, 0, none⟩ = some u → w.rangeAt b 0 [u] := fun {w b u} h j x hx => by
      cases j with
      | zero => rw [Nat.add_zero, h]; exact hx
      | succ j => simp at hx
    have HK : Hid (HeldL L w₂.drew) := Lib.hid (by
      rw [← hL]; intro x hx
      simp only [List.mem_cons, List.not_mem_nil, or_false] at hx
      rcases hx with rfl | rfl | rfl | rfl
      · exact HX2.out
      · exact one hs0
      · exact one hn0
      · exact HRK.out w₂ HI2.out.2)
    have M1 : Hid (InL L W.heap.size 0 (prefL y.f y.b (y.n : Int))) := Lib.hid (fun W' h j u hu => by
      have := h.get (b := W.heap.size) (o := 0) (cs := entL y.f y.b (y.n : Int) y.v) (by rw [← hL]; simp) j u (by
        unfold entL; rw [List.getElem?_append_left (List.getElem?_eq_some_iff.1 hu).1]; exact hu)
      exact this)
    have M2 : Hid (InL L rg (k * 19) (prefL y.f y.b (y.n : Int))) := Lib.hid (fun W' h j u hu => by
      have := h.get (b := rg) (o := k * 19) (cs := entL y.f y.b (y.n : Int) y.v) (by rw [← hL]; simp) j u (by
        unfold entL; rw [List.getElem?_append_left (List.getElem?_eq_some_iff.1 hu).1]; exact hu)
      exact this)
    have hv18 : (entL y.f y.b (y.n : Int) y.v)[18]? = some (.int .i64 y.v) := by unfold entL; rw [List.getElem?_append_right (by rw [prefL_len _ _ _ H16.out]; exact Nat.le_refl _), prefL_len _ _ _ H16.out]; rfl
    have C1 : Hid (∀ w', HeldL L w' → w'.cell? ⟨W.heap.size, 18, none⟩ = some (.int .i64 y.v)) := Lib.hid (fun w' h => by
      have := h.get (b := W.heap.size) (o := 0) (cs := entL y.f y.b (y.n : Int) y.v) (by rw [← hL]; simp) 18 _ hv18
      rw [Nat.zero_add] at this; exact this)
    have C2 : Hid (∀ w', HeldL L w' → w'.cell? ⟨rg, k * 19 + 18, none⟩ = some (.int .i64 y.v)) := Lib.hid (fun w' h => h.get (b := rg) (o := k * 19) (cs := entL y.f y.b (y.n : Int) y.v) (by rw [← hL]; simp) 18 _ hv18)
    have C3 : Hid (∀ w', HeldL L w' → w'.cell? ⟨w.heap.size, 0, none⟩ = some (Value.slice (some ⟨rg, 0, none⟩) N rcap)) := Lib.hid (fun w' h => h.get (b := w.heap.size) (o := 0) (cs := [Value.slice (some ⟨rg, 0, none⟩) N rcap]) (by rw [← hL]; simp) 0 _ rfl)
    have C4 : Hid (∀ w', HeldL L w' → w'.cell? ⟨w1.heap.size, 0, none⟩ = some (Value.int .i64 (k : Int))) := Lib.hid (fun w' h => h.get (b := w1.heap.size) (o := 0) (cs := [Value.int .i64 (k : Int)]) (by rw [← hL]; simp) 0 _ rfl)
    clear hL hv18 one
    have hb1 : (0 : Int) ≤ (k : Int) := by omega
    have hb2 : (k : Int) < (N : Int) := by omega
    have qn := fun W => run_neq_pref y.f y.f y.b y.b (y.n : Int) (y.n : Int) W H16.out H16.out
    have gd := guard_pref
    simp only [and_self, decide_true, Bool.not_true] at qn
    have hvv : (y.v != y.v) = false := by simp
    refine round_drawn (S := HeldL L) (by kernel_rfl) rfl (fun ⟨_, _, h⟩ => by cases h.1) HK.out (fun hHeld => ?_)
    refine wpAnyH_take (i := 0) (v := ?_) rfl (by kernel_rfl) (by kernel_rfl) (by kernel_rfl) (fun _ _ _ h => h) (Or.inl ⟨by rfl, ?_⟩) (by assumption) ?_
    rotate_left
    · (intro w hSw; go_simp; try (with_reducible rfl))
    try simp only [Act.put, List.getElem_toArray, List.getElem_cons_zero, List.setIfInBounds_toArray, List.set_cons_zero, List.set_cons_succ]
    refine wpAnyH_take (i := 1) rfl (by kernel_rfl) (by kernel_rfl) (by kernel_rfl) (fun _ _ _ h => h) (yields_pref_l H16 M1 (by rfl) _ rfl rfl) (by assumption) ?_
    try simp only [Act.put, List.getElem_toArray, List.getElem_cons_zero, List.getElem_cons_succ, List.setIfInBounds_toArray, List.set_cons_zero, List.set_cons_succ]
    refine wpAnyH_take (i := 2) (v := ?_) rfl (by kernel_rfl) (by kernel_rfl) (by kernel_rfl) (fun _ _ _ h => h) (Or.inl ⟨by rfl, ?_⟩) (by assumption) ?_
    rotate_left
    · (intro w hSw; have hc0 := C3.out w hSw; go_simp; try (with_reducible rfl))
    try simp only [Act.put, List.getElem_toArray, List.getElem_cons_zero, List.getElem_cons_succ, List.setIfInBounds_toArray, List.set_cons_zero, List.set_cons_succ]
    refine wpAnyH_take (i := 3) (v := ?_) rfl (by kernel_rfl) (by kernel_rfl) (by kernel_rfl) (fun _ _ _ h => h) (Or.inl ⟨by rfl, ?_⟩) (by assumption) ?_
    rotate_left
    · (intro w hSw; have hc0 := C4.out w hSw; go_simp; try (with_reducible rfl))
    try simp only [Act.put, List.getElem_toArray, List.getElem_cons_zero, List.getElem_cons_succ, List.setIfInBounds_toArray, List.set_cons_zero, List.set_cons_succ]
    refine wpAnyH_take (i := 4) (v := ?_) rfl (by kernel_rfl) (by kernel_rfl) (by kernel_rfl) (fun _ _ _ h => h) (Or.inl ⟨by rfl, ?_⟩) (by assumption) ?_
    rotate_left
    · (intro w hSw; go_simp; try (with_reducible rfl))
    try simp only [Act.put, List.getElem_toArray, List.getElem_cons_zero, List.getElem_cons_succ, List.setIfInBounds_toArray, List.set_cons_zero, List.set_cons_succ]
    refine wpAnyH_take (i := 5) (v := ?_) rfl (by kernel_rfl) (by kernel_rfl) (by kernel_rfl) (fun _ _ _ h => h) (Or.inl ⟨by rfl, ?_⟩) (by assumption) ?_
    rotate_left
    · (intro w hSw; go_simp; try (with_reducible rfl))
    try simp only [Act.put, List.getElem_toArray, List.getElem_cons_zero, List.getElem_cons_succ, List.setIfInBounds_toArray, List.set_cons_zero, List.set_cons_succ]
    refine wpAnyH_take (i := 6) rfl (by kernel_rfl) (by kernel_rfl) (by kernel_rfl) (fun _ _ _ h => h) (yields_pref_l H16 M2 (by rfl) _ rfl rfl) (by assumption) ?_
    try simp only [Act.put, List.getElem_toArray, List.getElem_cons_zero, List.getElem_cons_succ, List.setIfInBounds_toArray, List.set_cons_zero, List.set_cons_succ]
    refine wpAnyH_take (i := 7) (v := ?_) rfl (by kernel_rfl) (by kernel_rfl) (by kernel_rfl) (fun _ _ _ h => h) (Or.inl ⟨by rfl, ?_⟩) (by assumption) ?_
    rotate_left
    · (intro w hSw; go_simp; try (with_reducible rfl))
    try simp only [Act.put, List.getElem_toArray, List.getElem_cons_zero, List.getElem_cons_succ, List.setIfInBounds_toArray, List.set_cons_zero, List.set_cons_succ]
    refine wpAnyH_take (i := 8) (v := ?_) rfl (by kernel_rfl) (by kernel_rfl) (by kernel_rfl) (fun _ _ _ h => h) (Or.inl ⟨by rfl, ?_⟩) (by assumption) ?_
    rotate_left
    · (intro w hSw; go_simp; try (with_reducible rfl))
    try simp only [Act.put, List.getElem_toArray, List.getElem_cons_zero, List.getElem_cons_succ, List.setIfInBounds_toArray, List.set_cons_zero, List.set_cons_succ]
    refine wpAnyH_take (i := 9) (v := ?_) rfl (by kernel_rfl) (by kernel_rfl) (by kernel_rfl) (fun _ _ _ h => h) (Or.inl ⟨by rfl, ?_⟩) (by assumption) ?_
    rotate_left
    · (intro w hSw; go_simp; try (with_reducible rfl))
    try simp only [Act.put, List.getElem_toArray, List.getElem_cons_zero, List.getElem_cons_succ, List.setIfInBounds_toArray, List.set_cons_zero, List.set_cons_succ]
    refine wpAnyH_take (i := 10) (v := ?_) rfl (by kernel_rfl) (by kernel_rfl) (by kernel_rfl) (fun _ _ _ h => h) (Or.inl ⟨by rfl, ?_⟩) (by assumption) ?_
    rotate_left
    · (intro w hSw; have hc0 := C1.out w hSw; go_simp; try (with_reducible rfl))
    try simp only [Act.put, List.getElem_toArray, List.getElem_cons_zero, List.getElem_cons_succ, List.setIfInBounds_toArray, List.set_cons_zero, List.set_cons_succ]
    refine wpAnyH_take (i := 11) (v := ?_) rfl (by kernel_rfl) (by kernel_rfl) (by kernel_rfl) (fun _ _ _ h => h) (Or.inl ⟨by rfl, ?_⟩) (by assumption) ?_
    rotate_left
    · (intro w hSw; have hc0 := C3.out w hSw; go_simp; try (with_reducible rfl))
    try simp only [Act.put, List.getElem_toArray, List.getElem_cons_zero, List.getElem_cons_succ, List.setIfInBounds_toArray, List.set_cons_zero, List.set_cons_succ]
    refine wpAnyH_take (i := 12) (v := ?_) rfl (by kernel_rfl) (by kernel_rfl) (by kernel_rfl) (fun _ _ _ h => h) (Or.inl ⟨by rfl, ?_⟩) (by assumption) ?_
    rotate_left
    · (intro w hSw; have hc0 := C4.out w hSw; go_simp; try (with_reducible rfl))
    try simp only [Act.put, List.getElem_toArray, List.getElem_cons_zero, List.getElem_cons_succ, List.setIfInBounds_toArray, List.set_cons_zero, List.set_cons_succ]
    refine wpAnyH_take (i := 13) (v := ?_) rfl (by kernel_rfl) (by kernel_rfl) (by kernel_rfl) (fun _ _ _ h => h) (Or.inl ⟨by rfl, ?_⟩) (by assumption) ?_
    rotate_left
    · (intro w hSw; go_simp; try (with_reducible rfl))
    try simp only [Act.put, List.getElem_toArray, List.getElem_cons_zero, List.getElem_cons_succ, List.setIfInBounds_toArray, List.set_cons_zero, List.set_cons_succ]
    refine wpAnyH_take (i := 14) (v := ?_) rfl (by kernel_rfl) (by kernel_rfl) (by kernel_rfl) (fun _ _ _ h => h) (Or.inl ⟨by rfl, ?_⟩) (by assumption) ?_
    rotate_left
    · (intro w hSw; go_simp; try (with_reducible rfl))
    try simp only [Act.put, List.getElem_toArray, List.getElem_cons_zero, List.getElem_cons_succ, List.setIfInBounds_toArray, List.set_cons_zero, List.set_cons_succ]
    refine wpAnyH_take (i := 15) (v := ?_) rfl (by kernel_rfl) (by kernel_rfl) (by kernel_rfl) (fun _ _ _ h => h) (Or.inl ⟨by rfl, ?_⟩) (by assumption) ?_
    rotate_left
    · (intro w hSw; have hc0 := C2.out w hSw; go_simp; try (with_reducible rfl))
    try simp only [Act.put, List.getElem_toArray, List.getElem_cons_zero, List.getElem_cons_succ, List.setIfInBounds_toArray, List.set_cons_zero, List.set_cons_succ]
    refine wpAnyH_take (i := 16) (v := ?_) rfl (by kernel_rfl) (by kernel_rfl) (by kernel_rfl) (fun _ _ _ h => h) (Or.inl ⟨by rfl, ?_⟩) (by assumption) ?_
    rotate_left
    · (intro w hSw; go_simp; try (with_reducible rfl))
    try simp only [Act.put, List.getElem_toArray, List.getElem_cons_zero, List.getElem_cons_succ, List.setIfInBounds_toArray, List.set_cons_zero, List.set_cons_succ]
    refine wpAnyH_take (i := 17) (v := ?_) rfl (by kernel_rfl) (by kernel_rfl) (by kernel_rfl) (fun _ _ _ h => h) (Or.inl ⟨by rfl, ?_⟩) (by assumption) ?_
    rotate_left
    · (intro w hSw; go_simp; try (with_reducible rfl))
    try simp only [Act.put, List.getElem_toArray, List.getElem_cons_zero, List.getElem_cons_succ, List.setIfInBounds_toArray, List.set_cons_zero, List.set_cons_succ]
    refine wpAnyH_done (by kernel_rfl) ?_ _
    refine wpIn_cond_false rfl (wpIn_skip ?_)
    have hn1 : w₂.drew.cell? ⟨w1.heap.size, 0, none⟩ = some (.int .i64 (k : Int)) := hn0
    have hf1 : w₂.drew.frozen? ⟨w1.heap.size, 0, none⟩ = false := by show w₂.frozen? _ = false; unfold World.frozen?; rw [HI2.out.1]; rfl
    have hw1 : IntKind.i64.wrap ((k : Int) + 1) = (k : Int) + 1 := by rw [IntKind.wrap_i64]; omega
    refine round_region rfl (fun ⟨_, _, h⟩ => by cases h.1) ?_
    clear qn gd hvv
    go_wp2_with fail
    have hfc := foot_cell w₂ w1.heap.size 0 (.int .i64 ((k : Int) + 1))
    refine ⟨trivial, hfc.trans (Foot.ofBelow _ (Below.refl _ _).drew), ?_, (HI2.out.2.trans (hfc.below (by simp) HI2.out.2.size)).drew⟩
    show (w₂.setCell _ _).heap[w1.heap.size]? = _
    rw [cell1_set HI2.out.1]
    rfl
  case done =>
    rintro W ⟨hn, hb⟩ hD
    have HNC := Lib.hid hn
    have HBW := Lib.hid hb
    have HDF := Lib.hid hD
    clear hn hb hD
    rw [HN.out] at HNC
    go_wp2_with fail
    have HTA : Hid (∃ v, Tab W.drew G v st ∧ RowT W.drew 0 v es) := Lib.hid (by
      obtain ⟨v, rfl, hT, hR, _, _⟩ := HA.out
      have hb2 : Below w.heap.size w W.drew := (HGB.out.trans (HBW.out.mono HGB.out.size)).drew
      exact ⟨v, hT.below hb2, hR.below hb2⟩)
    obtain ⟨v, hT, hR⟩ := HTA.out
    have HLEN := Lib.hid (tabLen_any G v st es W.drew hT hR)
    rw [HN.out] at HLEN
    clear hT hR HTA
    have hs0 := HQ0.out W HBW.out
    have hn0 : W.cell? ⟨w1.heap.size, 0, none⟩ = some (.int .i64 (N : Int)) := by rw [cell_of_row _ _ 0 _ _ _ HNC.out]; rfl
    have hr0 : W.drew.cell? ⟨w.heap.size + 1, 0, none⟩ = some (Value.bool false) := (HQ1.out W HBW.out).1
    have hr1 : W.drew.frozen? ⟨w.heap.size + 1, 0, none⟩ = false := (HQ1.out W HBW.out).2
    obtain ⟨L, hL⟩ : ∃ L, [(w.heap.size, 0, [Value.slice a N rcap]), (w1.heap.size, 0, [Value.int .i64 (N : Int)])] = L := ⟨_, rfl⟩
    have one : ∀ {w : World} {b : Nat} {u : Value}, w.cell? ⟨b, 0, none⟩ = some u → w.rangeAt b 0 [u] := fun {w b u} h j x hx => by
      cases j with
      | zero => rw [Nat.add_zero, h]; exact hx
      | succ j => simp at hx
    have HK : Hid (HeldL L W.drew) := Lib.hid (by
      rw [← hL]; intro x hx
      simp only [List.mem_cons, List.not_mem_nil, or_false] at hx
      rcases hx with rfl | rfl
      · exact one hs0
      · exact one hn0)
    have HK2 : Hid (HeldL L (W.drew.setCell ⟨w.heap.size + 1, 0, none⟩ (.bool true))) := Lib.hid (by
      rw [← hL]; intro x hx
      have h1 := HSZ.out
      simp only [List.mem_cons, List.not_mem_nil, or_false] at hx
      rcases hx with rfl | rfl
      · exact World.rangeAt_setCells_apart (w := W.drew) (one hs0) _ 0 [Value.bool true] (.inl (by show w.heap.size ≠ _; omega))
      · exact World.rangeAt_setCells_apart (w := W.drew) (one hn0) _ 0 [Value.bool true] (.inl (by show w1.heap.size ≠ _; omega)))
    have C3 : Hid (∀ w', HeldL L w' → w'.cell? ⟨w.heap.size, 0, none⟩ = some (Value.slice a N rcap)) := Lib.hid (fun w' h => h.get (b := w.heap.size) (o := 0) (cs := [Value.slice a N rcap]) (by rw [← hL]; simp) 0 _ rfl)
    have C4 : Hid (∀ w', HeldL L w' → w'.cell? ⟨w1.heap.size, 0, none⟩ = some (Value.int .i64 (N : Int))) := Lib.hid (fun w' h => h.get (b := w1.heap.size) (o := 0) (cs := [Value.int .i64 (N : Int)]) (by rw [← hL]; simp) 0 _ rfl)
    clear hL one hs0 hn0
    refine wp_region_noPanic ?_
    refine wp_region_held_drew (S := HeldL L) (by kernel_rfl) HK.out (fun hHeld => ?_)
    refine wpAnyH_take (i := 0) (v := ?_) rfl (by kernel_rfl) (by kernel_rfl) (by kernel_rfl) (fun _ _ _ h => h) (Or.inl ⟨by rfl, ?_⟩) (by assumption) ?_
    rotate_left
    · (intro w hSw; have hc0 := C4.out w hSw; go_simp; try (with_reducible rfl))
    try simp only [Act.put, List.getElem_toArray, List.getElem_cons_zero, List.setIfInBounds_toArray, List.set_cons_zero, List.set_cons_succ]
    refine wpAnyH_take (i := 1) (v := ?_) rfl (by kernel_rfl) (by kernel_rfl) (by kernel_rfl) (fun _ _ _ h => h) (Or.inl ⟨by rfl, ?_⟩) (by assumption) ?_
    rotate_left
    · (intro w hSw; have hc0 := C3.out w hSw; go_simp; try (with_reducible rfl))
    try simp only [Act.put, List.getElem_toArray, List.getElem_cons_zero, List.getElem_cons_succ, List.setIfInBounds_toArray, List.set_cons_zero, List.set_cons_succ]
    refine wpAnyH_take (i := 2) (v := ?_) rfl (by kernel_rfl) (by kernel_rfl) (by kernel_rfl) (fun _ _ _ h => h) (Or.inl ⟨by rfl, ?_⟩) (by assumption) ?_
    rotate_left
    · (intro w hSw; go_simp; try (with_reducible rfl))
    try simp only [Act.put, List.getElem_toArray, List.getElem_cons_zero, List.getElem_cons_succ, List.setIfInBounds_toArray, List.set_cons_zero, List.set_cons_succ]
    refine wpAnyH_take (i := 3) (v := ?_) rfl (by kernel_rfl) (by kernel_rfl) (by kernel_rfl) (fun _ _ _ h => h) (Or.inl ⟨by rfl, ?_⟩) (by assumption) ?_
    rotate_left
    · (intro w hSw; go_simp; try (with_reducible rfl))
    try simp only [Act.put, List.getElem_toArray, List.getElem_cons_zero, List.getElem_cons_succ, List.setIfInBounds_toArray, List.set_cons_zero, List.set_cons_succ]
    refine wpAnyH_take (i := 4) (v := ?_) rfl (by kernel_rfl) (by kernel_rfl) (by kernel_rfl) (fun _ _ _ h => h) (Or.inl ⟨by rfl, ?_⟩) (by assumption) ?_
    rotate_left
    · (intro w hSw; go_simp; try (with_reducible rfl))
    try simp only [Act.put, List.getElem_toArray, List.getElem_cons_zero, List.getElem_cons_succ, List.setIfInBounds_toArray, List.set_cons_zero, List.set_cons_succ]
    refine wpAnyH_take (i := 5) (v := ?_) rfl (by kernel_rfl) (by kernel_rfl) (by kernel_rfl) (fun _ _ _ h => h) (Or.inl ⟨by rfl, ?_⟩) (by assumption) ?_
    rotate_left
    · (intro w hSw; go_simp; try (with_reducible rfl))
    try simp only [Act.put, List.getElem_toArray, List.getElem_cons_zero, List.getElem_cons_succ, List.setIfInBounds_toArray, List.set_cons_zero, List.set_cons_succ]
    refine wpAnyH_take (i := 7) (v := ?_) rfl (by kernel_rfl) (by kernel_rfl) (by kernel_rfl) (fun _ _ _ h => h) (Or.inl ⟨by rfl, ?_⟩) (by assumption) ?_
    rotate_left
    · (intro w hSw; have hc0 := C4.out w hSw; go_simp; try (with_reducible rfl))
    try simp only [Act.put, List.getElem_toArray, List.getElem_cons_zero, List.getElem_cons_succ, List.setIfInBounds_toArray, List.set_cons_zero, List.set_cons_succ]
    refine wpAnyH_ready (rs := [6]) (by kernel_rfl) (by simp) ?_
    refine AllReadyH.cons rfl (fun K hK => ?_) AllReadyH.nil
    go_simp
    refine HLEN.out.mono ?_
    rintro e w6 ⟨rfl, rfl⟩
    clear HLEN
    go_wp2_with fail
    refine hK.out _ _ HK.out (fun hHeld6 => ?_)
    clear hK K
    try simp only [Act.put, List.getElem_toArray, List.getElem_cons_zero, List.getElem_cons_succ, List.setIfInBounds_toArray, List.set_cons_zero, List.set_cons_succ]
    refine wpAnyH_take (i := 8) (v := ?_) rfl (by kernel_rfl) (by kernel_rfl) (by kernel_rfl) (fun _ _ _ h => h) (Or.inl ⟨by rfl, ?_⟩) (by assumption) ?_
    rotate_left
    · (intro w hSw; go_simp; try (with_reducible rfl))
    try simp only [Act.put, List.getElem_toArray, List.getElem_cons_zero, List.getElem_cons_succ, List.setIfInBounds_toArray, List.set_cons_zero, List.set_cons_succ]
    refine wpAnyH_take (i := 9) (v := ?_) rfl (by kernel_rfl) (by kernel_rfl) (by kernel_rfl) (fun _ _ _ h => h) (Or.inl ⟨by rfl, ?_⟩) (by assumption) ?_
    rotate_left
    · (intro w hSw; go_simp; try (with_reducible rfl))
    try simp only [Act.put, List.getElem_toArray, List.getElem_cons_zero, List.getElem_cons_succ, List.setIfInBounds_toArray, List.set_cons_zero, List.set_cons_succ]
    refine wpAnyH_ready (rs := [10]) (by kernel_rfl) (by simp) ?_
    refine AllReadyH.one rfl rfl (fun K hK => ?_)
    go_wp2_with fail
    refine hK.out _ _ HK2.out (fun hHeld7 => ?_)
    clear hK K
    refine wpAnyH_done (by kernel_rfl) ?_ _
    refine NoPanic.normal ?_
    go_wp2_with fail
    have hD2 : (W.setCell ⟨w.heap.size + 1, 0, none⟩ (.bool true)).drew.heap[W2.heap.size]? = some (.deferred (some [])) := by
      show (W.setCell _ _).heap[W2.heap.size]? = _
      rw [Below.heap_setCell W ⟨w.heap.size + 1, 0, none⟩ _ _ (by have h1 := HSZ.out; have h2 := HZ2.out; show W2.heap.size ≠ w.heap.size + 1; omega)]
      exact HDF.out
    refine ⟨by simp, .inl ⟨_, _, rfl, run_takeDeferred hD2, ?_⟩⟩
    have hBB := HGB.out.trans (HBW.out.mono HGB.out.size)
    refine ⟨_, results_bool (R := w.heap.size + 1) (b := true) rfl rfl ?_, rfl, ?_⟩
    · have hne : w.heap.size + 1 ≠ W2.heap.size := by have h1 := HSZ.out; have h2 := HZ2.out; omega
      rw [World.cell?_of_block (w := (W.setCell ⟨w.heap.size + 1, 0, none⟩ (.bool true)).drew) (a := ⟨w.heap.size + 1, 0, none⟩) (World.putObj_heap_other hne)]
      exact World.cell?_setCell_same' _ _ _ (by rw [(HQ1.out W HBW.out).1]; rfl)
    · have h3 := (foot_cell W (w.heap.size + 1) 0 (.bool true)).below (B := w.heap.size) (by simp) hBB.size
      exact (hBB.trans h3).drew.trans (below_put _ (by have h1 := HSZ.out; have h2 := HZ2.out; omega))
end Go.Proofs.Ytjpjobbmljlacaa
/- Contract of Table.Find. -/
namespace Go.Proofs.Ytjpjobbmljlacaa
open Go.RowKit
set_option linter.unusedVariables false
set_option maxRecDepth 20000

set_option maxRecDepth 100000 in
set_option maxHeartbeats 2000000 in
theorem having1_nil (G Bt Ba : Nat) (st : Int) (f : Int) (us : List Nat) (w : World) (hT : Tab w G (.slice none 0 0) st)
    (hBt : w.cell? ⟨Bt, 0, none⟩ = some (.pointer (some ⟨G, 0, none⟩))) (hBa : AddrAt w Ba f us) (hlt : ∀ y ∈ us, y < 256) :
    TellsOne Try.prog 44 #[.pointer (some ⟨Bt, 0, none⟩), .pointer (some ⟨Ba, 0, none⟩)] (findE [] f us) encE G (FindInv G [] st [G]) w := by
  intro l Jx W hb hY
  have hBtl : Bt < w.heap.size := World.block_lt_of_cell? w ⟨Bt, 0, none⟩ hBt
  have H16 := Lib.hid hBa.len
  have HLT := Lib.hid hlt
  have HT0 := Lib.hid (hT.below hb)
  have HA0 := Lib.hid (hBa.below hb)
  have hbt : W.cell? ⟨Bt, 0, none⟩ = some (.pointer (some ⟨G, 0, none⟩)) := (hb.cell (p := ⟨Bt, 0, none⟩) hBtl).trans hBt
  have HBT := Lib.hid hbt
  have HBTL : Hid (Bt < W.heap.size) := Lib.hid (Nat.lt_of_lt_of_le hBtl hb.size)
  have hrow := HT0.out.row
  have HBI := fun W => Lib.hid (addrBits_any f us W hBa.len)
  have HNB := bitsN_le f
  clear hT hBt hBa hlt hb hY hBtl
  refine callsIn_of_wp Try.func44 rfl trivial (wpIn_wide.2 ?_)
  simp only [Try.ntmps44, List.size_toArray, List.length_cons, List.length_nil, Nat.reduceAdd, Nat.reduceSub, Array.replicate_succ, Array.replicate_zero, List.push_toArray, List.append_toArray, List.nil_append, List.cons_append]
  go_wp2_with (refine load_addr_g HA0 _ rfl rfl rfl ?_)
  refine (HBI _).out.mono ?_
  rintro e w1 ⟨rfl, hb1⟩
  have HB1 := Lib.hid hb1
  clear hb1 hrow hbt HBI
  go_wp2_with fail
  go_loopw [4, 5] (fun s4 s5 wr => ∃ (b : Nat), s4 = .slice none 0 0 ∧ s5 = .int .i64 ((b : Int) - 1) ∧ b ≤ bitsN f + 1 ∧ Hid (Below W.heap.size W wr)) (fun _ s5 _ => (intOf s5 + 1).toNat)
  case atStart => exact ⟨bitsN f + 1, rfl, by rw [show ((bitsN f + 1 : Nat) : Int) - 1 = ((bitsN f : Nat) : Int) by omega], Nat.le_refl _, HB1⟩
  case round =>
    clear HB1
    obtain ⟨b, rfl, rfl, hbn, HBr⟩ := hrel
    by_cases hb0 : b = 0
    · subst hb0
      have hd : decide ((0 : Int) ≤ ((0 : Nat) : Int) - 1) = false := by decide
      go_wp2_with fail
      go_end0
      exact ⟨⟨_, rfl⟩, .inl ⟨rfl, ⟨st, ⟨_, rfl, HT0.out.below HBr.out, RowT.nil _ _, sorted_nil, (fun g hg => by cases hg)⟩, by omega, by omega⟩, Foot.ofBelow _ HBr.out⟩⟩
    · obtain ⟨c, rfl⟩ : ∃ c, b = c + 1 := ⟨b - 1, by omega⟩
      rw [show ((c + 1 : Nat) : Int) - 1 = ((c : Nat) : Int) by omega]
      have hd : decide ((0 : Int) ≤ (c : Int)) = true := by simp
      have hmask : maskN f (c : Int) = c := by unfold maskN; simp; omega
      have HMK : Hid (Calls Try.prog 47 #[addrV f us, .int .i64 (c : Int)] wr.drew fun e w' => e = .returned (prefV f (withL (bitsN f) us c 0) (c : Int)) ∧ Below wr.drew.heap.size wr.drew w') := Lib.hid (by
        have := cidrMask_any f us (c : Int) wr.drew H16.out HLT.out (wf_small (by omega))
        rw [hmask] at this
        exact this)
      have HSE := fun V => Lib.hid (search_nil (.func (.func 48) #[.pointer (some ⟨G, 0, none⟩)] #[]) f (withL (bitsN f) us c 0) (c : Int) V (withL_len _ _ _ _))
      go_upto_region 4 with fail
      obtain ⟨L, hL⟩ : ∃ L, [(Bt, 0, [Value.pointer (some ⟨G, 0, none⟩)]), (Ba, 0, addrL f us)] = L := ⟨_, rfl⟩
      have HKW : Hid (∀ V, Below W.heap.size W V → HeldL L V) := Lib.hid (fun V hf => by
        rw [← hL]; intro x hx
        simp only [List.mem_cons, List.not_mem_nil, or_false] at hx
        rcases hx with rfl | rfl
        · refine range_belowB (fun j u hu => ?_) hf HBTL.out
          cases j with
          | zero => rw [Nat.add_zero, HBT.out]; exact hu
          | succ j => simp at hu
        · exact range_belowB HA0.out.range hf HA0.out.lt)
      have HKD := Lib.hid (HKW.out wr.drew HBr.out.drew)
      have MA : Hid (InL L Ba 0 (addrL f us)) := Lib.hid (fun W h => h.get (by rw [← hL]; simp))
      have CP : Hid (∀ w', HeldL L w' → w'.cell? ⟨Bt, 0, none⟩ = some (.pointer (some ⟨G, 0, none⟩))) := Lib.hid (fun w' h => h.get (b := Bt) (o := 0) (cs := [Value.pointer (some ⟨G, 0, none⟩)]) (by rw [← hL]; simp) 0 _ rfl)
      clear hL hmask
      refine wp_region_noPanic ?_
      refine wp_region_held_drew (S := HeldL L) (by kernel_rfl) HKD.out (fun hHeld => ?_)
      refine wpAnyH_take (i := 0) (v := ?_) rfl (by kernel_rfl) (by kernel_rfl) (by kernel_rfl) (fun _ _ _ h => h) (Or.inl ⟨by rfl, ?_⟩) (by assumption) ?_
      rotate_left
      · (intro w hSw; go_simp; try (with_reducible rfl))
      try simp only [Act.put, List.getElem_toArray, List.getElem_cons_zero, List.setIfInBounds_toArray, List.set_cons_zero, List.set_cons_succ]
      refine wpAnyH_take (i := 1) rfl (by kernel_rfl) (by kernel_rfl) (by kernel_rfl) (fun _ _ _ h => h) (yields_addr_l H16 MA (by rfl) _ rfl rfl) (by assumption) ?_
      try simp only [Act.put, List.getElem_toArray, List.getElem_cons_zero, List.getElem_cons_succ, List.setIfInBounds_toArray, List.set_cons_zero, List.set_cons_succ]
      refine wpAnyH_take (i := 2) (v := ?_) rfl (by kernel_rfl) (by kernel_rfl) (by kernel_rfl) (fun _ _ _ h => h) (Or.inl ⟨by rfl, ?_⟩) (by assumption) ?_
      rotate_left
      · (intro w hSw; go_simp; try (with_reducible rfl))
      try simp only [Act.put, List.getElem_toArray, List.getElem_cons_zero, List.getElem_cons_succ, List.setIfInBounds_toArray, List.set_cons_zero, List.set_cons_succ]
      refine wpAnyH_take (i := 4) (v := ?_) rfl (by kernel_rfl) (by kernel_rfl) (by kernel_rfl) (fun _ _ _ h => h) (Or.inl ⟨by rfl, ?_⟩) (by assumption) ?_
      rotate_left
      · (intro w hSw; have hc0 := CP.out w hSw; go_simp; try (with_reducible rfl))
      try simp only [Act.put, List.getElem_toArray, List.getElem_cons_zero, List.getElem_cons_succ, List.setIfInBounds_toArray, List.set_cons_zero, List.set_cons_succ]
      refine wpAnyH_take (i := 5) (v := ?_) rfl (by kernel_rfl) (by kernel_rfl) (by kernel_rfl) (fun _ _ _ h => h) (Or.inl ⟨by rfl, ?_⟩) (by assumption) ?_
      rotate_left
      · (intro w hSw; go_simp; try (with_reducible rfl))
      try simp only [Act.put, List.getElem_toArray, List.getElem_cons_zero, List.getElem_cons_succ, List.setIfInBounds_toArray, List.set_cons_zero, List.set_cons_succ]
      refine wpAnyH_ready (rs := [3]) (by kernel_rfl) (by simp) ?_
      refine AllReadyH.cons rfl (fun K hK => ?_) AllReadyH.nil
      go_simp
      refine HMK.out.mono ?_
      rintro e V ⟨rfl, hbV⟩
      have HBV := Lib.hid (HBr.out.drew.trans (hbV.mono HBr.out.size))
      have hSV := HKW.out V HBV.out
      clear hbV HMK
      go_wp2_with fail
      refine hK.out _ _ hSV (fun hHeldV => ?_)
      clear hK K
      try simp only [Act.put, List.getElem_toArray, List.getElem_cons_zero, List.getElem_cons_succ, List.setIfInBounds_toArray, List.set_cons_zero, List.set_cons_succ]
      refine wpAnyH_ready (rs := [6]) (by kernel_rfl) (by simp) ?_
      refine AllReadyH.cons rfl (fun K hK => ?_) AllReadyH.nil
      go_simp
      refine (HSE V).out.mono ?_
      rintro e w6 ⟨rfl, hb6⟩
      have HB6 := Lib.hid (HBV.out.trans (hb6.mono HBV.out.size))
      have hS6 := HKW.out w6 HB6.out
      clear hb6 HSE
      go_wp2_with fail
      refine hK.out _ _ hS6 (fun hHeld6 => ?_)
      clear hK K
      try simp only [Act.put, List.getElem_toArray, List.getElem_cons_zero, List.getElem_cons_succ, List.setIfInBounds_toArray, List.set_cons_zero, List.set_cons_succ]
      refine wpAnyH_take (i := 7) (v := ?_) rfl (by kernel_rfl) (by kernel_rfl) (by kernel_rfl) (fun _ _ _ h => h) (Or.inl ⟨by rfl, ?_⟩) (by assumption) ?_
      rotate_left
      · (intro w hSw; go_simp; try (with_reducible rfl))
      try simp only [Act.put, List.getElem_toArray, List.getElem_cons_zero, List.getElem_cons_succ, List.setIfInBounds_toArray, List.set_cons_zero, List.set_cons_succ]
      refine wpAnyH_take (i := 8) (v := ?_) rfl (by kernel_rfl) (by kernel_rfl) (by kernel_rfl) (fun _ _ _ h => h) (Or.inl ⟨by rfl, ?_⟩) (by assumption) ?_
      rotate_left
      · (intro w hSw; go_simp; try (with_reducible rfl))
      try simp only [Act.put, List.getElem_toArray, List.getElem_cons_zero, List.getElem_cons_succ, List.setIfInBounds_toArray, List.set_cons_zero, List.set_cons_succ]
      refine wpAnyH_take (i := 9) (v := ?_) rfl (by kernel_rfl) (by kernel_rfl) (by kernel_rfl) (fun _ _ _ h => h) (Or.inl ⟨by rfl, ?_⟩) (by assumption) ?_
      rotate_left
      · (intro w hSw; go_simp; try (with_reducible rfl))
      try simp only [Act.put, List.getElem_toArray, List.getElem_cons_zero, List.getElem_cons_succ, List.setIfInBounds_toArray, List.set_cons_zero, List.set_cons_succ]
      refine wpAnyH_take (i := 10) (v := ?_) rfl (by kernel_rfl) (by kernel_rfl) (by kernel_rfl) (fun _ _ _ h => h) (Or.inl ⟨by rfl, ?_⟩) (by assumption) ?_
      rotate_left
      · (intro w hSw; go_simp; try (with_reducible rfl))
      try simp only [Act.put, List.getElem_toArray, List.getElem_cons_zero, List.getElem_cons_succ, List.setIfInBounds_toArray, List.set_cons_zero, List.set_cons_succ]
      refine wpAnyH_take (i := 11) (v := ?_) rfl (by kernel_rfl) (by kernel_rfl) (by kernel_rfl) (fun _ _ _ h => h) (Or.inl ⟨by rfl, ?_⟩) (by assumption) ?_
      rotate_left
      · (intro w hSw; go_simp; try (with_reducible rfl))
      try simp only [Act.put, List.getElem_toArray, List.getElem_cons_zero, List.getElem_cons_succ, List.setIfInBounds_toArray, List.set_cons_zero, List.set_cons_succ]
      refine wpAnyH_done (by kernel_rfl) ?_ _
      refine NoPanic.normal ?_
      have hw1 : IntKind.i64.wrap ((c : Int) - 1) = (c : Int) - 1 := by rw [IntKind.wrap_i64]; omega
      go_wp2_with fail
      go_roundw
      case rel => exact ⟨c, rfl, rfl, by omega, HB6⟩
      case measure => simp [intOf]
set_option maxRecDepth 100000 in
theorem having_any (G : Nat) (f : Int) (us : List Nat) (w : World) (h16 : us.length = 16) :
    Calls Try.prog 30 #[.pointer (some ⟨G, 0, none⟩), addrV f us] w fun e w' => e = .returned (.func (.func 44) #[] #[.pointer (some ⟨w.heap.size, 0, none⟩), .pointer (some ⟨w.heap.size + 1, 0, none⟩)]) ∧ w'.cell? ⟨w.heap.size, 0, none⟩ = some (.pointer (some ⟨G, 0, none⟩)) ∧ AddrAt w' (w.heap.size + 1) f us ∧ Below w.heap.size w w' := by
  obtain ⟨W0, hW0⟩ : ∃ W0, w.alloc (.cells #[Value.pointer (some ⟨G, 0, none⟩)] 23) = W0 := ⟨_, rfl⟩
  have hs : W0.heap.size = w.heap.size + 1 := by rw [← hW0]; simp
  obtain ⟨cs, ecs, HA, HB⟩ := addr_boxed f us W0 h16
  have HC : Hid (W0.cell? ⟨w.heap.size, 0, none⟩ = some (.pointer (some ⟨G, 0, none⟩))) := Lib.hid (by rw [← hW0, World.cell?_alloc_new]; rfl)
  have HB0 : Hid (Below w.heap.size w W0) := Lib.hid (by rw [← hW0]; exact (Below.refl _ _).alloc (Nat.le_refl _) _)
  have HC1 : Hid ((W0.alloc (.cells cs 30)).cell? ⟨w.heap.size, 0, none⟩ = some (.pointer (some ⟨G, 0, none⟩))) := Lib.hid ((HB.out.cell (p := ⟨w.heap.size, 0, none⟩) (by rw [hs]; exact Nat.lt_succ_self _)).trans HC.out)
  rw [hs] at HA
  have HB1 := Lib.hid (chain HB0.out HB.out)
  rw [← hW0] at HA HC1 HB1
  rw [ecs]
  clear hW0 hs HB HC HB0 ecs
  go_enter Try.func30, Try.ntmps30
  go_wp2_with fail
  go_ret
  exact ⟨rfl, HC1.out, HA.out, HB1.out⟩
theorem having_tells {w : World} {G Bt Ba : Nat} {es : List Ent} {st : Int} {F : List Nat} {f : Int} {us : List Nat} (hA : TabAt w G es st F) (hBt : w.cell? ⟨Bt, 0, none⟩ = some (.pointer (some ⟨G, 0, none⟩))) (hBa : AddrAt w Ba f us) (hlt : ∀ y ∈ us, y < 256) (htG : Bt ≠ G) (haG : Ba ≠ G) (h0 : 0 ≤ st) (h1 : st ≤ 800000) :
    TellsOne Try.prog 44 #[.pointer (some ⟨Bt, 0, none⟩), .pointer (some ⟨Ba, 0, none⟩)] (findE es f us) encE G (FindInv G es st F) w := by
  obtain ⟨v, rfl, hT, hR, hs, hN⟩ := hA
  rcases hR.form with ⟨rfl, rfl⟩ | ⟨g, cap, rfl, _⟩
  · exact having1_nil G Bt Ba st f us w hT hBt hBa hlt
  · exact having1_some G Bt Ba g cap es st f us w hT hR hs (hN g rfl) hBt hBa hlt htG haG h0 h1
end Go.Proofs.Ytjpjobbmljlacaa
/- Contract of Table.Find. -/
namespace Go.Proofs.Ytjpjobbmljlacaa
open Go.RowKit
set_option linter.unusedVariables false
set_option maxRecDepth 20000

theorem results_entB {fn : Func} {a b : Tmp} {tmps : Array Value} {W : World} {R Rb : Nat} {f : Int} {bs : List Nat} {n v : Int} {t : Bool} (h : fn.results = #[.cell a 42, .cell b 4]) (ha : tmps.getD a undef = .pointer (some ⟨R, 0, none⟩)) (hb : tmps.getD b undef = .pointer (some ⟨Rb, 0, none⟩)) (hA : EntAt W R f bs n v) (hc : W.cell? ⟨Rb, 0, none⟩ = some (.bool t)) : (results fn tmps).run Try.prog W = .ok (.tuple #[entV f bs n v, .bool t]) W := by
  have hl : (loadVar 4 ⟨Rb, 0, none⟩).run Try.prog W = .ok (.bool t) W := by
    simp [go_sem, hc]
  rw [Array.getD_eq_getD_getElem?] at ha hb
  simp [results, h, ha, hb, asAddr, loadVar_entT hA, hl]
theorem EntAt.same {w w' : World} {G : Nat} {f : Int} {bs : List Nat} {n v : Int} (h : EntAt w G f bs n v) (hs : w.heap.size ≤ w'.heap.size) (hk : w'.heap[G]? = w.heap[G]?) : EntAt w' G f bs n v :=
  ⟨h.len, Nat.lt_of_lt_of_le h.lt hs, fun j u hu => by rw [World.cell?_of_block (w := w) (a := ⟨G, 0 + j, none⟩) hk]; exact h.range j u hu, fun j hj => by
    rw [World.cell?_of_block (w := w) (a := ⟨G, 0 + j, none⟩) hk, World.frozen?_of_block (w := w) (a := ⟨G, 0 + j, none⟩) hk]; exact h.there j hj⟩
/-- What a Find leaves. -/
def Found (G : Nat) (es : List Ent) (st : Int) (F : List Nat) (o : Option Ent) (w : World) (e : Ending) (w' : World) : Prop :=
  e = .returned (entRet o) ∧ FindInv G es st F w' ∧ Foot [G] [G] w w'
set_option maxRecDepth 100000 in
set_option maxHeartbeats 2000000 in
theorem find_any (G : Nat) (es : List Ent) (st : Int) (F : List Nat) (f : Int) (us : List Nat) (w : World) (hA : TabAt w G es st F) (h16 : us.length = 16) (hlt : ∀ y ∈ us, y < 256) (h0 : 0 ≤ st) (h1 : st ≤ 800000) :
    Calls Try.prog 14 #[.pointer (some ⟨G, 0, none⟩), addrV f us] w (Found G es st F (findE es f us) w) := by
  have HA := Lib.hid hA
  have hGl := (hA.lt).2 G hA.lt.1
  have HFL := Lib.hid hA.lt.2
  have H16 := Lib.hid h16
  have HLT := Lib.hid hlt
  obtain ⟨cs, ecs, HB, HBB⟩ := addr_boxed f us w h16
  rw [ecs]
  clear ecs hA h16 hlt
  refine (callsIn_wide (n := 0)).1 (callsIn_of_wp_marks Try.func14 rfl trivial (wpIn_wide.2 ?_) rfl)
  simp only [Try.ntmps14, List.size_toArray, List.length_cons, List.length_nil, Nat.reduceAdd, Nat.reduceSub, Array.replicate_succ, Array.replicate_zero, List.push_toArray, List.append_toArray, List.nil_append, List.cons_append]
  go_upto_region 1 with fail
  obtain ⟨W0, hW0⟩ : ∃ W0, ((w.alloc (.cells cs 30)).alloc (.cells zE 42)).alloc (.cells #[Value.bool false] 4) = W0 := ⟨_, rfl⟩
  have HZ0 : Hid (W0.heap.size = w.heap.size + 3) := Lib.hid (by rw [← hW0]; simp)
  have HC0 : Hid (W0.heap[w.heap.size + 2]? = some (.cells #[Value.bool false] 4)) := Lib.hid (by rw [← hW0]; have := World.alloc_heap_new ((w.alloc (.cells cs 30)).alloc (.cells zE 42)) (.cells #[Value.bool false] 4); rwa [World.size_alloc, World.size_alloc] at this)
  have HE0 : Hid (EntAt W0 (w.heap.size + 1) 0 (List.replicate 16 0) 0 0) := Lib.hid (by
    have := (entT_zeroed (w.alloc (.cells cs 30))).alloc (.cells #[Value.bool false] 4)
    rw [World.size_alloc, hW0] at this
    exact this)
  have HA0 : Hid (AddrAt W0 w.heap.size f us) := Lib.hid (by rw [← hW0]; exact (HB.out.alloc _).alloc _)
  have HB0 : Hid (Below w.heap.size w W0) := Lib.hid (by rw [← hW0]; exact (HBB.out.alloc HBB.out.size _).alloc (by rw [World.size_alloc, World.size_alloc]; omega) _)
  rw [hW0]
  clear hW0 HB HBB
  have HHV := Lib.hid (having_any G f us W0 H16.out)
  go_wp2_with (refine load_addr_g HA0 _ rfl rfl rfl ?_)
  refine HHV.out.mono ?_
  rintro e w1 ⟨rfl, hbt, hba, hb1⟩
  have HB1 := Lib.hid (chain HB0.out hb1)
  have HS1 : Hid (w.heap.size + 3 ≤ w1.heap.size) := Lib.hid (by have := hb1.size; rw [HZ0.out] at this; exact this)
  have HT1 := Lib.hid (having_tells (HA.out.below HB1.out) hbt hba HLT.out (by rw [HZ0.out]; omega) (by rw [HZ0.out]; omega) h0 h1)
  have HE1 := Lib.hid (HE0.out.below hb1)
  have HC1 : Hid (w1.heap[w.heap.size + 2]? = some (.cells #[Value.bool false] 4)) := Lib.hid ((hb1.block _ (by rw [HZ0.out]; omega)).trans HC0.out)
  clear hbt hba hb1 HHV HE0 HC0 HA0 HB0
  have HIB : Hid (∀ A B, FindInv G es st F A → Below w1.heap.size A B → FindInv G es st F B) := Lib.hid (fun A B ⟨st', h1, h2, h3⟩ hb => ⟨st', h1.keep hb.size (fun k hk => hb.block k (by have := HFL.out k hk; have := HS1.out; omega)), h2, h3⟩)
  have HFB : Hid (∀ A B, Foot [G] [G] w A → Below w1.heap.size A B → Foot [G] [G] w B) := Lib.hid (fun A B h hb => ⟨hb.os.trans h.os, hb.tape.trans h.tape, hb.output.trans h.output, Nat.le_trans h.size hb.size, fun k hk hn => (hb.block k (by have := HS1.out; omega)).trans (h.keep k hk hn), h.new⟩)
  have FIN : ∀ (W' : World) (tm : Array Value) (f' : Int) (bs' : List Nat) (n' v' : Int) (t : Bool), Hid (tm.getD 4 undef = .pointer (some ⟨w.heap.size + 1, 0, none⟩) ∧ tm.getD 5 undef = .pointer (some ⟨w.heap.size + 1 + 1, 0, none⟩) → EntAt W' (w.heap.size + 1) f' bs' n' v' → W'.heap[w.heap.size + 2]? = some (.cells #[Value.bool t] 4) → W'.heap[w1.heap.size]? = some (.deferred (some [])) → FindInv G es st F W' → Foot [G] [G] w W' → Value.tuple #[entV f' bs' n' v', .bool t] = entRet (findE es f us) →
      bodyPostM Fence.wide 0 Try.prog Try.f14 (Found G es st F (findE es f us) w) .ret { tmps := tm, defers := [{ target := .collected w1.heap.size, args := #[] }] } W') := fun W' tm f' bs' n' v' t => Lib.hid (fun htm hE hC hD hI hF hr => by
    have hS := HS1.out
    refine ⟨by simp, .inl ⟨_, _, rfl, run_takeDeferred hD, ?_⟩⟩
    have hb : Below w1.heap.size W' (W'.putObj w1.heap.size (.deferred none)) := below_put _ (Nat.le_refl _)
    refine ⟨_, results_entB (R := w.heap.size + 1) (Rb := w.heap.size + 2) rfl htm.1 htm.2 (hE.same hb.size (hb.block _ (by omega))) ?_, by rw [hr], HIB.out _ _ hI hb, HFB.out _ _ hF hb⟩
    rw [hb.cell (p := ⟨w.heap.size + 2, 0, none⟩) (by show w.heap.size + 2 < _; omega), cell_of_row _ _ 0 _ _ _ hC]; rfl)
  go_wp2_with fail
  refine range_one (gf := 44) (lb := #[.pointer (some ⟨W0.heap.size, 0, none⟩), .pointer (some ⟨W0.heap.size + 1, 0, none⟩)]) rfl (enters_of Try.func44 (by kernel_rfl) rfl) (findE es f us) encE G (by have := HS1.out; omega) (FindInv G es st F) w1 HT1.out (Below.refl _ _) [w.heap.size + 1, w.heap.size + 2] (by have := HS1.out; simp; omega)
    (fun W => ∃ x, findE es f us = some x ∧ EntAt W (w.heap.size + 1) x.f x.b (x.n : Int) x.v ∧ W.heap[w.heap.size + 2]? = some (.cells #[Value.bool true] 4) ∧ FindInv G es st F W ∧ Foot [G] [G] w W)
    (fun A B ⟨x, h1, h2, h3, h4, h5⟩ hb => ⟨x, h1, h2.same hb.size (hb.block _ (by have := HS1.out; omega)), (hb.block _ (by have := HS1.out; omega)).trans h3, HIB.out A B h4 hb, HFB.out A B h5 hb⟩)
    HIB.out ?round ?done ?stop
  case round =>
    intro l x W hx hl hlW hinv hsame hos htp hout
    have HX := Lib.hid hx
    have HGX : Hid x.Good := Lib.hid (by
      obtain ⟨v, rfl, _, hR, _, _⟩ := HA.out
      exact hR.2.1 x ((findE_best es f us).2 x hx).1)
    have H16x := Lib.hid HGX.out.1.len
    rw [show encE x = entV x.f x.b (x.n : Int) x.v from rfl]
    have HZ := Lib.hid (entT_zeroed W)
    have HIV := Lib.hid hinv
    have HSM := Lib.hid hsame
    have HO := Lib.hid (And.intro hos (And.intro htp hout))
    have HLL := Lib.hid hl
    have HLW := Lib.hid hlW
    clear hx hinv hsame hos htp hout hl hlW
    refine round_region rfl (fun ⟨_, _, h⟩ => h) ?_
    simp only [List.setIfInBounds_toArray, List.set_cons_succ, List.set_cons_zero]
    go_wp2_with (refine store_entT HZ _ _ H16x rfl rfl rfl rfl (fun W3 HW3 HE3 => ?_))
    refine ⟨below_newT HW3, fun w₂ hf2 => ?_⟩
    have HB3 := Lib.hid (below_newT HW3)
    have HX2 : Hid (w₂.rangeAt W.heap.size 0 (entL x.f x.b (x.n : Int) x.v)) := Lib.hid (range_foot hf2 HE3.out.range HE3.out.lt (by have := HLW.out; simp; omega))
    have HWW : Hid (W.heap.size < w₂.heap.size) := Lib.hid (Nat.lt_of_lt_of_le HE3.out.lt hf2.size)
    have HWS : Hid (w1.heap.size < W.heap.size) := Lib.hid (by have := HLL.out; have := HLW.out; omega)
    have HK2 : Hid (∀ j, j < w1.heap.size → j ≠ G → w₂.heap[j]? = w1.heap[j]?) := Lib.hid (fun j hj hn => by
      have h1 := HLL.out
      have h2 := HWS.out
      exact ((hf2.keep j (by have := HB3.out.size; omega) (by simp; omega)).trans (HB3.out.block j (by omega))).trans (HSM.out j hj hn))
    have HBL : Hid (Below w1.heap.size W w₂) := Lib.hid ((HB3.out.mono (by have := HWS.out; omega)).trans (hf2.below (by have := HLL.out; simp; omega) (by have := HWS.out; have := HB3.out.size; omega)))
    have HI2 := Lib.hid (HIB.out W w₂ HIV.out HBL.out)
    have HO2 : Hid (w₂.os = w.os ∧ w₂.tape = w.tape ∧ w₂.output = w.output) := Lib.hid ⟨HBL.out.os.trans (HO.out.1.trans HB1.out.os), HBL.out.tape.trans (HO.out.2.1.trans HB1.out.tape), HBL.out.output.trans (HO.out.2.2.trans HB1.out.output)⟩
    have HE2 := Lib.hid (HE1.out.same (w' := w₂) (by have := HWS.out; have := HWW.out; omega) (HK2.out _ (by have := HS1.out; omega) (by omega)))
    have HC2 : Hid (w₂.heap[w.heap.size + 2]? = some (.cells #[Value.bool false] 4)) := Lib.hid ((HK2.out _ (by have := HS1.out; omega) (by omega)).trans HC1.out)
    have HFW : Hid (Foot [G] [G] w w₂) := Lib.hid ⟨HO2.out.1, HO2.out.2.1, HO2.out.2.2, by have := HB1.out.size; have := HWS.out; have := HWW.out; omega, fun k hk hn => (HK2.out k (by have := HB1.out.size; omega) (by simpa using hn)).trans (HB1.out.block k hk), fun k hk => .inl hk⟩
    clear HZ HW3 HE3 hf2 HB3 HIV HSM HO HBL
    have L16 : Hid ((List.replicate 16 0 : List Nat).length = 16) := Lib.hid rfl
    have HFIN : Hid (∀ V, V = w₂.setCells (w.heap.size + 1) 0 (entL x.f x.b (x.n : Int) x.v) → EntAt V (w.heap.size + 1) x.f x.b (x.n : Int) x.v → 
        (Foot [w.heap.size + 1, w.heap.size + 2] [w.heap.size + 1, w.heap.size + 2] w₂ (V.setCell ⟨w.heap.size + 1 + 1, 0, none⟩ (.bool true)) ∧ ∃ x, findE es f us = some x ∧ EntAt (V.setCell ⟨w.heap.size + 1 + 1, 0, none⟩ (.bool true)) (w.heap.size + 1) x.f x.b (x.n : Int) x.v ∧ (V.setCell ⟨w.heap.size + 1 + 1, 0, none⟩ (.bool true)).heap[w.heap.size + 2]? = some (.cells #[Value.bool true] 4) ∧ FindInv G es st F (V.setCell ⟨w.heap.size + 1 + 1, 0, none⟩ (.bool true)) ∧ Foot [G] [G] w (V.setCell ⟨w.heap.size + 1 + 1, 0, none⟩ (.bool true)))) := Lib.hid (fun V hV hE => by
      have f1 : Foot [w.heap.size + 1] [w.heap.size + 1] w₂ V := by rw [hV]; exact foot_cells _ _ _
      have f2 := foot_cell V (w.heap.size + 2) 0 (.bool true)
      have b1 : Below (w.heap.size + 1) w₂ (V.setCell ⟨w.heap.size + 2, 0, none⟩ (.bool true)) := (f1.below (by simp) (by have := HWW.out; have := HWS.out; have := HS1.out; omega)).trans (f2.below (by simp) (by have := f1.size; have := HWW.out; have := HWS.out; have := HS1.out; omega))
      refine ⟨⟨b1.os, b1.tape, b1.output, b1.size, fun k hk hn => ?_, fun k hk => .inl hk⟩, x, HX.out, ?_, ?_, ?_, ?_⟩
      · simp at hn
        exact (f2.keep k (by have := f1.size; omega) (by simp; omega)).trans (f1.keep k hk (by simp; omega))
      · exact hE.same f2.size (f2.keep _ hE.lt (by simp))
      · refine cell1_set (u := .bool false) ?_ _
        exact (f1.keep _ (by have := HWW.out; have := HWS.out; have := HS1.out; omega) (by simp)).trans HC2.out
      · obtain ⟨st', h1, h2, h3⟩ := HI2.out
        exact ⟨st', h1.keep b1.size (fun k hk => b1.block k (by have := HFL.out k hk; omega)), h2, h3⟩
      · exact ⟨b1.os.trans HFW.out.os, b1.tape.trans HFW.out.tape, b1.output.trans HFW.out.output, Nat.le_trans HFW.out.size b1.size, fun k hk hn => (b1.block k (by omega)).trans (HFW.out.keep k hk hn), fun k hk => .inl hk⟩)
    have hcb : w₂.cell? ⟨w.heap.size + 1 + 1, 0, none⟩ = some (.bool false) := by rw [cell_of_row _ _ 0 _ _ _ HC2.out]; rfl
    have hfb : w₂.frozen? ⟨w.heap.size + 1 + 1, 0, none⟩ = false := by unfold World.frozen?; rw [HC2.out]; rfl
    refine wpIn_block (wpIn_seq ?_)
    refine round_region rfl (fun ⟨_, _, h⟩ => by cases h.1) ?_
    go_wp2_with (first | refine load_entT_o H16x HX2 _ rfl rfl rfl ?_ | (refine store_entT HE2 _ _ H16x rfl rfl rfl rfl (fun V HV HEV => ?_); have hcb2 : V.cell? ⟨w.heap.size + 1 + 1, 0, none⟩ = some (.bool false) := (by rw [HV.out, World.cell?_setCells_out _ _ _ _ _ (fun h _ => absurd h (by simp))]; exact hcb); have hfb2 : V.frozen? ⟨w.heap.size + 1 + 1, 0, none⟩ = false := (by rw [HV.out, World.frozen?_setCells]; exact hfb)))
    refine wpIn_ret ?_
    exact ⟨rfl, HFIN.out V HV.out HEV.out⟩
  case done =>
    intro W hn hinv hsame hsz hos htp hout hD
    have HNN := Lib.hid hn
    have HIV := Lib.hid hinv
    have HK2 : Hid (∀ j, j < w1.heap.size → j ≠ G → W.heap[j]? = w1.heap[j]?) := Lib.hid hsame
    have HSZ := Lib.hid hsz
    have HO2 : Hid (W.os = w.os ∧ W.tape = w.tape ∧ W.output = w.output) := Lib.hid ⟨hos.trans HB1.out.os, htp.trans HB1.out.tape, hout.trans HB1.out.output⟩
    have HDF := Lib.hid hD
    have HE2 := Lib.hid (HE1.out.same (w' := W) hsz (HK2.out _ (by have := HS1.out; omega) (by omega)))
    have HC2 : Hid (W.heap[w.heap.size + 2]? = some (.cells #[Value.bool false] 4)) := Lib.hid ((HK2.out _ (by have := HS1.out; omega) (by omega)).trans HC1.out)
    have HFW : Hid (Foot [G] [G] w W) := Lib.hid ⟨HO2.out.1, HO2.out.2.1, HO2.out.2.2, by have := HB1.out.size; omega, fun k hk hn => (HK2.out k (by have := HB1.out.size; omega) (by simpa using hn)).trans (HB1.out.block k hk), fun k hk => .inl hk⟩
    have L16 : Hid ((List.replicate 16 0 : List Nat).length = 16) := Lib.hid rfl
    have hcb : W.cell? ⟨w.heap.size + 1 + 1, 0, none⟩ = some (.bool false) := by rw [cell_of_row _ _ 0 _ _ _ HC2.out]; rfl
    have hfb : W.frozen? ⟨w.heap.size + 1 + 1, 0, none⟩ = false := by unfold World.frozen?; rw [HC2.out]; rfl
    clear hn hinv hsame hsz hos htp hout hD
    go_wp2_with (first | refine build_entT0 rfl rfl ?_ | (refine store_entT HE2 _ _ L16 rfl rfl rfl rfl (fun V HV HEV => ?_); have hcb2 : V.cell? ⟨w.heap.size + 1 + 1, 0, none⟩ = some (.bool false) := (by rw [HV.out, World.cell?_setCells_out _ _ _ _ _ (fun h _ => absurd h (by simp))]; exact hcb); have hfb2 : V.frozen? ⟨w.heap.size + 1 + 1, 0, none⟩ = false := (by rw [HV.out, World.frozen?_setCells]; exact hfb)))
    have f1 : Foot [w.heap.size + 1] [w.heap.size + 1] W V := by rw [HV.out]; exact foot_cells _ _ _
    have f2 := foot_cell V (w.heap.size + 2) 0 (.bool false)
    have hS := HS1.out
    have hsz := HSZ.out
    have b1 : Below (w.heap.size + 1) W (V.setCell ⟨w.heap.size + 2, 0, none⟩ (.bool false)) := (f1.below (by simp) (by omega)).trans (f2.below (by simp) (by have := f1.size; omega))
    refine (FIN _ _ 0 (List.replicate 16 0) 0 0 false).out ⟨rfl, rfl⟩ (HEV.out.same f2.size (f2.keep _ HEV.out.lt (by simp))) ?_ ?_ ?_ ?_ ?_
    · refine cell1_set (u := .bool false) ?_ _
      exact (f1.keep _ (by omega) (by simp)).trans HC2.out
    · have hlt := (Array.getElem?_eq_some_iff.1 HDF.out).1
      exact ((f2.keep _ (by have := f1.size; omega) (by simp; omega)).trans (f1.keep _ hlt (by simp; omega))).trans HDF.out
    · obtain ⟨st', h1, h2, h3⟩ := HIV.out
      exact ⟨st', h1.keep b1.size (fun k hk => b1.block k (by have := HFL.out k hk; omega)), h2, h3⟩
    · exact ⟨b1.os.trans HFW.out.os, b1.tape.trans HFW.out.tape, b1.output.trans HFW.out.output, Nat.le_trans HFW.out.size b1.size, fun k hk hn => (b1.block k (by omega)).trans (HFW.out.keep k hk hn), fun k hk => .inl hk⟩
    · rw [HNN.out]; rfl
  case stop =>
    rintro x W hx ⟨y, hy, hE, hC, hI, hF⟩ hD
    exact (FIN W _ y.f y.b (y.n : Int) y.v true).out ⟨rfl, rfl⟩ hE hC hD hI hF (by rw [hy]; rfl)
end Go.Proofs.Ytjpjobbmljlacaa
/- Contract of abatislaw06.lives. -/
namespace Go.Proofs.Ytjpjobbmljlacaa
open Go.RowKit
set_option linter.unusedVariables false
set_option maxRecDepth 20000

theorem fillE2 (f : Int) (bs : List Nat) (n v : Int) (g : Int) (cs : List Nat) (m u : Int) (h16 : bs.length = 16) (k16 : cs.length = 16) : Instr.fill (fun i => some (i * 19, 19)) ((Array.range (2 * 19)).map fun j => zE[j % zE.size]!) [(0, entV f bs n v), (1, entV g cs m u)] = some (entL f bs n v ++ entL g cs m u).toArray := by
  obtain ⟨y0, y1, y2, y3, y4, y5, y6, y7, y8, y9, y10, y11, y12, y13, y14, y15, rfl⟩ := list16 bs h16
  obtain ⟨x0, x1, x2, x3, x4, x5, x6, x7, x8, x9, x10, x11, x12, x13, x14, x15, rfl⟩ := list16 cs k16
  kernel_rfl
theorem run_buildT2 (f : Int) (bs : List Nat) (n v : Int) (g : Int) (ds : List Nat) (m u : Int) (w : World) (h16 : bs.length = 16) (k16 : ds.length = 16) : (Instr.buildSlice 57 2 #[(0, entV f bs n v), (1, entV g ds m u)]).run Try.prog w = .ok (.slice (some ⟨w.heap.size, 0, none⟩) 2 2) (w.alloc (.cells (entL f bs n v ++ entL g ds m u).toArray 42)) := by
  obtain ⟨i0, hi0, hz0, hz1, hz2⟩ := info_parts infoT
  have hf := fillE2 f bs n v g ds m u h16 k16
  obtain ⟨Z, hZ⟩ : ∃ Z : Array Value, zE = Z := ⟨_, rfl⟩
  rw [hZ] at hf hz0
  have hsz : (sizeOf 42).run Try.prog w = .ok 19 w := by simp [sizeOf, typeInfo, hi0, hz1]
  have hzv : (zeroValue 42).run Try.prog w = .ok (.agg Z) w := by simp [zeroValue, typeInfo, hi0, hz0]
  have hnr : ∀ cs : Array Value, (newRow 42 cs).run Try.prog w = .ok ⟨w.heap.size, 0, none⟩ (w.alloc (.cells cs 42)) := fun cs => by simp [newRow]
  have hu : (underlying 57).run Try.prog w = .ok _ w := run_underlying Try.underlying57 w
  have hfc : Instr.fill (fun i => some (i * 19, 19)) ((Array.range (2 * 19)).map fun j => (Value.agg Z).cells[j % (Value.agg Z).cells.size]!) (#[(0, entV f bs n v), (1, entV g ds m u)] : Array (Nat × Value)).toList = some (entL f bs n v ++ entL g ds m u).toArray := hf
  unfold Instr.buildSlice
  simp only [Sem.run_bind, hu, Result.andThen_ok, hsz, if_neg (show ¬ (2 * 19 > 2 ^ 24) by decide), Sem.run_pure, if_neg (show ¬ (2 * 19 = 0) by decide), hzv, hfc, hnr]
theorem build_ent2T {ops : Array Oper} {rest : List Oper} {op : Oper} {a : Act} {w : World} {Q : Exit → Act → World → Prop} {f : Int} {bs : List Nat} {n v : Int} {g : Int} {ds : List Nat} {m u : Int} (hl : Hid (bs.length = 16)) (hk : Hid (ds.length = 16)) (hg : op.guard = none) (x y : Operand) (ho : op.op = .buildSlice 57 2 #[(0, x), (1, y)])
    (hx : a.eval x = entV f bs n v) (hy : a.eval y = entV g ds m u) (h : ∀ W, Hid (W = w.alloc (.cells (entL f bs n v ++ entL g ds m u).toArray 42)) → wpList Try.prog ops Q rest (a.put op.dst (.slice (some ⟨w.heap.size, 0, none⟩) 2 2)) W) : wpList Try.prog ops Q (op :: rest) a w := by
  refine wpList_plain hg fun K hK => ?_
  unfold Oper.wp execOp
  simp only [ho, List.map_toArray, List.map_cons, List.map_nil, hx, hy, Sem.run_bind, run_buildT2 f bs n v g ds m u w hl.out hk.out, Result.andThen_ok]
  exact hK _ _ (h _ (Lib.hid rfl))
/-- The document's example. -/
def live1 : Raw := ⟨4, withL (bitsN 4) (b4 167772160) (maskN 4 8) 0, (maskN 4 8 : Int), 1⟩
def live2 : Raw := ⟨4, withL (bitsN 4) (b4 167837696) (maskN 4 16) 0, (maskN 4 16 : Int), 2⟩
set_option maxRecDepth 100000 in
theorem live_value : (findE (newE [live1, live2] 2) 4 (b4 167838211)).map Ent.v = some 2 := by decide +kernel
set_option maxRecDepth 100000 in
theorem live_len : (findE (newE [live1, live2] 2) 4 (b4 167838211)).map (fun e => e.b.length) = some 16 := by decide +kernel
theorem live_ok : AllOk [live1, live2] := by
  intro r hr
  simp only [List.mem_cons, List.not_mem_nil, or_false] at hr
  rcases hr with rfl | rfl
  · exact ⟨withL_len _ _ _ _, withL_lt _ _ _ _ (by decide), by decide, by decide⟩
  · exact ⟨withL_len _ _ _ _, withL_lt _ _ _ _ (by decide), by decide, by decide⟩
set_option maxRecDepth 100000 in
set_option maxHeartbeats 1000000 in
theorem lives_any (w : World) : Calls Try.prog 12 #[] w fun e w' => e = .returned (.bool true) ∧ Below w.heap.size w w' := by
  have H1 := fun W => Lib.hid (refOf4_any 167772160 W (by decide))
  have H2 := fun W => Lib.hid (refOf4_any 167837696 W (by decide))
  have H3 := fun W => Lib.hid (refOf4_any 167838211 W (by decide))
  have M1 : ∀ W, Hid (Calls Try.prog 22 #[addrV 4 (b4 167772160), .int .i64 8] W fun e w' => e = .returned (prefV 4 live1.b live1.n) ∧ Below W.heap.size W w') := fun W => Lib.hid (refMask_any 4 (b4 167772160) 8 W (b4_len _) (b4_lt _) (by decide))
  have M2 : ∀ W, Hid (Calls Try.prog 22 #[addrV 4 (b4 167837696), .int .i64 16] W fun e w' => e = .returned (prefV 4 live2.b live2.n) ∧ Below W.heap.size W w') := fun W => Lib.hid (refMask_any 4 (b4 167837696) 16 W (b4_len _) (b4_lt _) (by decide))
  have HNW : ∀ W g, Hid (W.rangeAt g 0 (entL 4 live1.b live1.n 1 ++ entL 4 live2.b live2.n 2) → g < W.heap.size → Calls Try.prog 9 #[.slice (some ⟨g, 0, none⟩) 2 2] W fun e w' => ∃ G F, e = .returned (.pointer (some ⟨G, 0, none⟩)) ∧ TabAt w' G (newE [live1, live2] 2) 0 F ∧ (∀ k ∈ F, W.heap.size ≤ k) ∧ Below W.heap.size W w') := fun W g => Lib.hid (fun h1 h2 => new_some g 2 [live1, live2] W (by show W.rangeAt g 0 (entL 4 live1.b live1.n 1 ++ (entL 4 live2.b live2.n 2 ++ [])); rw [List.append_nil]; exact h1) h2 live_ok (by decide))
  obtain ⟨x, hx, hxv⟩ : ∃ x, findE (newE [live1, live2] 2) 4 (b4 167838211) = some x ∧ x.v = 2 := by
    have := live_value
    cases h : findE (newE [live1, live2] 2) 4 (b4 167838211) with
    | none => rw [h] at this; cases this
    | some x => rw [h] at this; exact ⟨x, rfl, Option.some.inj this⟩
  have HFD := fun W G F (h : TabAt W G (newE [live1, live2] 2) 0 F) => Lib.hid (find_any G (newE [live1, live2] 2) 0 F 4 (b4 167838211) W h (b4_len _) (b4_lt _) (by decide) (by decide))
  have HFD2 : ∀ W G F, Hid (TabAt W G (newE [live1, live2] 2) 0 F → Calls Try.prog 14 #[.pointer (some ⟨G, 0, none⟩), addrV 4 (b4 167838211)] W fun e w' => e = .returned (.tuple #[entV x.f x.b (x.n : Int) 2, .bool true]) ∧ Foot [G] [G] W w') := fun W G F => Lib.hid (fun h => (HFD W G F h).out.mono fun e w' ⟨h1, _, h3⟩ => ⟨by rw [h1, hx]; show Ending.returned (.tuple #[entV x.f x.b (x.n : Int) x.v, .bool true]) = _; rw [hxv], h3⟩)
  have HX16 : Hid (x.b.length = 16) := Lib.hid (by
    have := live_len
    rw [hx] at this
    exact Option.some.inj this)
  have L1 : Hid (live1.b.length = 16) := Lib.hid (withL_len _ _ _ _)
  have L2 : Hid (live2.b.length = 16) := Lib.hid (withL_len _ _ _ _)
  clear HFD hx hxv
  generalize newE [live1, live2] 2 = R at *
  generalize live1.b = B1 at *
  generalize live1.n = N1 at *
  generalize live2.b = B2 at *
  generalize live2.n = N2 at *
  go_enter Try.func12, Try.ntmps12
  go_wp2_with fail
  refine (H1 _).out.mono ?_
  rintro e w1 ⟨rfl, hb1⟩
  have HB1 := Lib.hid hb1
  clear hb1 H1
  go_wp2_with fail
  refine (M1 _).out.mono ?_
  rintro e w2 ⟨rfl, hb2⟩
  have HB2 := Lib.hid (chain HB1.out hb2)
  clear hb2 M1
  go_wp2_with (refine build_entT L1 rfl _ _ rfl rfl rfl ?_)
  refine (H2 _).out.mono ?_
  rintro e w3 ⟨rfl, hb3⟩
  have HB3 := Lib.hid (chain HB2.out hb3)
  clear hb3 H2 HB1 HB2
  go_wp2_with fail
  refine (M2 _).out.mono ?_
  rintro e w4 ⟨rfl, hb4⟩
  have HB4 := Lib.hid (chain HB3.out hb4)
  clear hb4 M2 HB3
  go_wp2_with (first | refine build_entT L2 rfl _ _ rfl rfl rfl ?_ | refine build_ent2T L1 L2 rfl _ _ rfl rfl rfl (fun W5 HW5 => ?_))
  refine ((HNW W5 w4.heap.size).out (by rw [HW5.out]; exact buildS_new _) (by rw [HW5.out]; simp)).mono ?_
  rintro e w6 ⟨G, F, rfl, hT6, hF6, hb6⟩
  have HB6 : Hid (Below w.heap.size w w6) := Lib.hid (chain (chain HB4.out (by rw [HW5.out]; exact (Below.refl _ _).alloc (Nat.le_refl _) _)) hb6)
  have HT6 := Lib.hid hT6
  have HG6 : Hid (w.heap.size ≤ G) := Lib.hid (by
    have h1 := hF6 G hT6.lt.1
    have h2 : Below w.heap.size w W5 := chain HB4.out (by rw [HW5.out]; exact (Below.refl _ _).alloc (Nat.le_refl _) _)
    have := h2.size
    omega)
  clear hT6 hF6 hb6 HNW HB4 HW5
  go_wp2_with fail
  refine (H3 _).out.mono ?_
  rintro e w7 ⟨rfl, hb7⟩
  have HB7 := Lib.hid (chain HB6.out hb7)
  have HT7 := Lib.hid (HT6.out.below hb7)
  clear hb7 H3 HB6 HT6
  go_wp2_with fail
  refine ((HFD2 _ _ _).out HT7.out).mono ?_
  rintro e w8 ⟨rfl, hf8⟩
  have HB8 := Lib.hid (HB7.out.trans (hf8.below (B := w.heap.size) (by simp; exact HG6.out) HB7.out.size))
  have HZ := Lib.hid (entT_zeroed w8)
  clear hf8 HFD2 HB7 HT7
  go_wp2_with (refine store_entT HZ _ _ HX16 rfl rfl rfl rfl (fun W9 HW9 HE9 => ?_); have hv9 := HE9.out.val)
  go_ret
  exact ⟨rfl, chain HB8.out (below_newT HW9)⟩
theorem like_v (G : Nat) (v : Value) (es : List Ent) (st : Int) (F : List Nat) (w : World) (hA : TabAt w G es st F) (hR : RowE w 0 v es) :
    Calls Try.prog 11 #[.pointer (some ⟨G, 0, none⟩), v] w fun e w' => e = .returned (.bool true) ∧ Below w.heap.size w w' := by
  obtain ⟨a, c, rfl⟩ : ∃ a c, v = .slice a es.length c := by
    rcases hR.form with ⟨e, e2⟩ | ⟨g, cap, e, _⟩
    · exact ⟨none, 0, by rw [e, e2]; rfl⟩
    · exact ⟨_, _, e⟩
  exact like_any G a c es st F w hA hR
end Go.Proofs.Ytjpjobbmljlacaa
/- Contract of abatislaw06.does, over whatever table. -/
namespace Go.Proofs.Ytjpjobbmljlacaa
open Go.RowKit
set_option linter.unusedVariables false
set_option maxRecDepth 20000

/-- What a deed leaves. -/
def DoneE (K : TabKit) (G : Nat) (es : List Ent) (F : List Nat) (w : World) (e : Ending) (w' : World) : Prop :=
  ∃ v' st' F', e = .returned (.tuple #[v', .bool true]) ∧ K.At w' G es st' F' ∧ RowE w' 0 v' es ∧ NotIn v' F' ∧ Foot F F' w w'
set_option maxRecDepth 100000 in
set_option maxHeartbeats 2000000 in
theorem does_raw (K : TabKit) (G : Nat) (v : Value) (es : List Ent) (st : Int) (F : List Nat) (d : DeedD) (w : World) (hT : K.At w G es st F) (hR : RowE w 0 v es) (hN : NotIn v F) (hd : d.Ok) (hle : es.length ≤ 900) (hraw : d.raw = true) :
    Calls Try.prog 10 #[.pointer (some ⟨G, 0, none⟩), v, deedV d] w (DoneE K G (doE es d) F w) := by
  obtain ⟨hk, h16, hlt, hn, hv⟩ := hd
  have H16 := Lib.hid h16
  have HLT := Lib.hid hlt
  have HWN := Lib.hid hn
  have HWV := Lib.hid hv
  have HDO : Hid (doE es d = if d.kind = 0 then setE es d.f d.b d.n d.v else if d.kind = 1 then dropE es d.f d.b d.n else es) := Lib.hid (by unfold doE deedF deedB deedN; rw [hraw]; rfl)
  obtain ⟨S, eS⟩ : ∃ S, doE es d = S := ⟨_, rfl⟩
  rw [eS] at HDO ⊢
  obtain ⟨cs, ecs, HD, HB⟩ := deed_boxed d w h16
  rw [ecs]
  clear ecs eS
  have HTT := Lib.hid (K.keepB hT HB.out)
  have HRR := Lib.hid (hR.below HB.out)
  have HFL := Lib.hid (K.lt hT).2
  have HNN := Lib.hid hN
  have HVL : Hid (∀ g, v.ownBlock = some g → g < w.heap.size) := Lib.hid (fun g hg => (hR.blockLt g hg).2)
  clear hT hR hN hk h16 hlt hn hv
  go_enter Try.func10, Try.ntmps10
  go_upto_region 1 with fail
  generalize (w.alloc (.cells cs 34)) = W at *
  have HPD := Lib.hid (deed_pref HD.out H16.out)
  have HZ := Lib.hid (pref_zeroed W)
  have HDL : Hid (w.heap.size < W.heap.size) := Lib.hid (by
    have := HD.out 0 _ rfl
    apply Classical.byContradiction
    intro h2
    unfold World.cell? at this
    rw [Array.getElem?_eq_none (by simpa using h2)] at this
    cases this)
  go_upto_region 2 with (first | refine load_pref_o H16 HPD _ rfl rfl rfl ?_ | refine store_pref HZ _ _ H16 rfl rfl rfl rfl (fun W1 HW1 HP1 => ?_))
  have HBL := Lib.hid (chain HB.out (below_newP HW1))
  have HT := Lib.hid (K.keepB HTT.out (below_newP HW1))
  have HR := Lib.hid (HRR.out.below (below_newP HW1))
  have HD1 := Lib.hid (range_belowB HD.out (below_newP HW1) HDL.out)
  have HDL2 : Hid (w.heap.size < W1.heap.size) := Lib.hid (Nat.lt_of_lt_of_le HDL.out (below_newP HW1).size)
  have HG8 : Hid (w.heap.size < W.heap.size) := HDL
  have hrc : W1.cell? ⟨w.heap.size, 20, none⟩ = some (.bool d.raw) := by have := deed_raw HD1.out H16.out; rw [Nat.zero_add] at this; exact this
  rw [hraw] at hrc
  generalize W.heap.size = g8 at *
  clear HB HTT HRR HD HPD HZ HW1 HDL
  have HP := HP1
  have HD := HD1
  clear HP1 HD1
  go_upto_region 4 with fail
  clear hrc
  generalize W1 = V at *
  have hkc := deed_kind HD.out
  have hvc : V.cell? ⟨w.heap.size, 19, none⟩ = some (.int .i64 d.v) := by have := deed_val HD.out H16.out; rw [Nat.zero_add] at this; exact this
  by_cases h0 : d.kind = 0
  · rw [if_pos h0] at HDO
    rw [h0] at hkc
    have HRS := fun W (h : RowE W 0 v es) => Lib.hid (refSet_any v es d.f d.b d.n d.v W 0 h H16.out HLT.out HWV.out hle)
    have HTS := fun W st F (h : K.At W G es st F) => Lib.hid (K.set d.f d.b d.n d.v h H16.out HLT.out HWN.out HWV.out hle)
    obtain ⟨c, hc⟩ : ∃ c : Int, (if mayP d.f d.b d.n = true then (0 : Int) else 1) = c := ⟨_, rfl⟩
    rw [hc] at HRS HTS
    obtain ⟨S2, eS2⟩ : ∃ S2, setE es d.f d.b d.n d.v = S2 := ⟨_, rfl⟩
    rw [eS2] at HRS HTS HDO
    have hcc : (c == c) = true := by simp
    clear hc eS2 h0
    go_wp2_with (refine load_pref_g HP _ rfl rfl rfl ?_)
    refine (HRS _ HR.out).out.mono ?_
    rintro e w2 ⟨v2, rfl, hrow, hfr, hb2⟩
    have HP2 := Lib.hid (HP.out.below hb2)
    have HT2 := Lib.hid (K.keepB HT.out hb2)
    have HFL2 := Lib.hid (K.lt HT.out).2
    have HR2 := Lib.hid hrow
    have HN2 : Hid (NotIn v2 F) := Lib.hid (by
      rcases hfr with e | hr2
      · rw [e]; exact HNN.out
      · exact NotIn.fresh hr2 HFL2.out)
    have hvc2 : w2.cell? ⟨w.heap.size, 19, none⟩ = some (.int .i64 d.v) := by rw [hb2.cell (p := ⟨w.heap.size, 19, none⟩) HDL2.out]; exact hvc
    have HBL2 := Lib.hid (chain HBL.out hb2)
    clear HP HT HR HBL hrow hfr hb2 hvc hkc HRS HD
    go_wp2_with (refine load_pref_g HP2 _ rfl rfl rfl ?_)
    refine (HTS _ _ _ HT2.out).out.mono ?_
    rintro e w3 ⟨rfl, st3, F3, hT3, hf3⟩
    go_wp2_with fail
    go_ret2
    have hff := (Foot.ofBelow F HBL2.out).trans hf3
    exact ⟨v2, st3, F3, rfl, by rw [HDO.out]; exact hT3, by rw [HDO.out]; exact HR2.out.foot hf3 HN2.out, HN2.out.foot HR2.out hf3, hff⟩
  · rw [if_neg h0] at HDO
    have hd0 : (d.kind == 0) = false := by simp [h0]
    by_cases h1 : d.kind = 1
    · rw [if_pos h1] at HDO
      have hd1 : (d.kind == 1) = true := by simp [h1]
      have HRS := fun W (h : RowE W 0 v es) => Lib.hid (refDrop_any v es d.f d.b d.n W 0 h H16.out)
      have HTS := fun W st F (h : K.At W G es st F) => Lib.hid (K.drop d.f d.b d.n h H16.out HLT.out HWN.out hle)
      obtain ⟨S2, eS2⟩ : ∃ S2, dropE es d.f d.b d.n = S2 := ⟨_, rfl⟩
      rw [eS2] at HRS HTS HDO
      clear eS2 h0 h1
      go_wp2_with (refine load_pref_g HP _ rfl rfl rfl ?_)
      refine (HRS _ HR.out).out.mono ?_
      rintro e w2 ⟨v2, rfl, hrow, hb2⟩
      have HP2 := Lib.hid (HP.out.below hb2)
      have HT2 := Lib.hid (K.keepB HT.out hb2)
      have HFL2 := Lib.hid (K.lt HT.out).2
      have HR2 := Lib.hid (hrow.mono (Nat.zero_le _))
      have HN2 : Hid (NotIn v2 F) := Lib.hid (NotIn.fresh hrow HFL2.out)
      have HBL2 := Lib.hid (chain HBL.out hb2)
      clear HP HT HR HBL hrow hb2 hvc hkc HRS HD
      by_cases hw : S2.length < es.length
      · have hdw : decide (S2.length < es.length) = true := by simp [hw]
        rw [hdw]
        rw [if_pos hw] at HTS
        go_wp2_with (refine load_pref_g HP2 _ rfl rfl rfl ?_)
        refine (HTS _ _ _ HT2.out).out.mono ?_
        rintro e w3 ⟨rfl, st3, F3, hT3, hf3⟩
        go_wp2_with fail
        go_ret2
        have hff := (Foot.ofBelow F HBL2.out).trans hf3
        exact ⟨v2, st3, F3, rfl, by rw [HDO.out]; exact hT3, by rw [HDO.out]; exact HR2.out.foot hf3 HN2.out, HN2.out.foot HR2.out hf3, hff⟩
      · have hdw : decide (S2.length < es.length) = false := by simp; omega
        rw [hdw]
        rw [if_neg hw] at HTS
        go_wp2_with (refine load_pref_g HP2 _ rfl rfl rfl ?_)
        refine (HTS _ _ _ HT2.out).out.mono ?_
        rintro e w3 ⟨rfl, st3, F3, hT3, hf3⟩
        go_wp2_with fail
        go_ret2
        have hff := (Foot.ofBelow F HBL2.out).trans hf3
        exact ⟨v2, st3, F3, rfl, by rw [HDO.out]; exact hT3, by rw [HDO.out]; exact HR2.out.foot hf3 HN2.out, HN2.out.foot HR2.out hf3, hff⟩
    · rw [if_neg h1] at HDO
      have hd1 : (d.kind == 1) = false := by simp [h1]
      have HTS := fun W st F (h : K.At W G es st F) => Lib.hid (K.get d.f d.b d.n h H16.out HLT.out HWN.out hle)
      have HRS := fun W (h : RowE W 0 v es) => Lib.hid (refGet_any v es d.f d.b d.n W 0 h H16.out)
      obtain ⟨q, eq⟩ : ∃ q, getE es d.f d.b d.n = q := ⟨_, rfl⟩
      rw [eq] at HRS HTS
      clear eq h0 h1
      go_wp2_with (refine load_pref_g HP _ rfl rfl rfl ?_)
      refine (HTS _ _ _ HT.out).out.mono ?_
      rintro e w2 ⟨rfl, st2, F2, hT2, hf2⟩
      have HP2 := Lib.hid (HP.out.foot hf2 (fun e => by have := HFL.out _ e; have := HG8.out; omega))
      have HR2 := Lib.hid (HR.out.foot hf2 HNN.out)
      have HN2 := Lib.hid (HNN.out.foot HR.out hf2)
      have HF2 := Lib.hid ((Foot.ofBelow F HBL.out).trans hf2)
      have HT2 := Lib.hid hT2
      clear HP HT HR HBL hT2 hf2 hvc hkc HTS HD
      unfold getRet
      go_wp2_with (refine load_pref_g HP2 _ rfl rfl rfl ?_)
      refine (HRS _ HR2.out).out.mono ?_
      rintro e w3 ⟨rfl, hb3⟩
      unfold getRet
      obtain ⟨z, hz⟩ : ∃ z : Int, q.getD 0 = z := ⟨_, rfl⟩
      obtain ⟨b, hb⟩ : ∃ b : Bool, q.isSome = b := ⟨_, rfl⟩
      rw [hz, hb]
      have hzz : (z == z) = true := by simp
      have hbb : (b == b) = true := by simp
      clear hz hb
      go_wp2_with fail
      go_ret2
      exact ⟨v, st2, F2, rfl, by rw [HDO.out]; exact K.keepB HT2.out hb3, by rw [HDO.out]; exact HR2.out.below hb3, HN2.out, HF2.out.trans (Foot.ofBelow F2 hb3)⟩
set_option maxRecDepth 100000 in
set_option maxHeartbeats 2000000 in
theorem does_made (K : TabKit) (G : Nat) (v : Value) (es : List Ent) (st : Int) (F : List Nat) (d : DeedD) (w : World) (hT : K.At w G es st F) (hR : RowE w 0 v es) (hN : NotIn v F) (hd : d.Ok) (hle : es.length ≤ 900) (hraw : d.raw = false) :
    Calls Try.prog 10 #[.pointer (some ⟨G, 0, none⟩), v, deedV d] w (DoneE K G (doE es d) F w) := by
  obtain ⟨hk, h16, hlt, hn, hv⟩ := hd
  have H16 := Lib.hid h16
  have HLT := Lib.hid hlt
  have HWN := Lib.hid hn
  have HWV := Lib.hid hv
  have HDO : Hid (doE es d = if d.kind = 0 then setE es (goodF d.f) (goodP d.f d.b d.n) (goodN d.f d.n : Int) d.v else if d.kind = 1 then dropE es (goodF d.f) (goodP d.f d.b d.n) (goodN d.f d.n : Int) else es) := Lib.hid (by unfold doE deedF deedB deedN; rw [hraw]; rfl)
  obtain ⟨S, eS⟩ : ∃ S, doE es d = S := ⟨_, rfl⟩
  rw [eS] at HDO ⊢
  obtain ⟨cs, ecs, HD, HB⟩ := deed_boxed d w h16
  rw [ecs]
  clear ecs eS
  have HTT := Lib.hid (K.keepB hT HB.out)
  have HRR := Lib.hid (hR.below HB.out)
  have HFL := Lib.hid (K.lt hT).2
  have HNN := Lib.hid hN
  have HVL : Hid (∀ g, v.ownBlock = some g → g < w.heap.size) := Lib.hid (fun g hg => (hR.blockLt g hg).2)
  clear hT hR hN hk h16 hlt hn hv
  go_enter Try.func10, Try.ntmps10
  go_upto_region 1 with fail
  generalize (w.alloc (.cells cs 34)) = W at *
  have HPD := Lib.hid (deed_pref HD.out H16.out)
  have HZ := Lib.hid (pref_zeroed W)
  have HDL : Hid (w.heap.size < W.heap.size) := Lib.hid (by
    have := HD.out 0 _ rfl
    apply Classical.byContradiction
    intro h2
    unfold World.cell? at this
    rw [Array.getElem?_eq_none (by simpa using h2)] at this
    cases this)
  go_upto_region 2 with (first | refine load_pref_o H16 HPD _ rfl rfl rfl ?_ | refine store_pref HZ _ _ H16 rfl rfl rfl rfl (fun W1 HW1 HP1 => ?_))
  have HBL := Lib.hid (chain HB.out (below_newP HW1))
  have HT := Lib.hid (K.keepB HTT.out (below_newP HW1))
  have HR := Lib.hid (HRR.out.below (below_newP HW1))
  have HD1 := Lib.hid (range_belowB HD.out (below_newP HW1) HDL.out)
  have HDL2 : Hid (w.heap.size < W1.heap.size) := Lib.hid (Nat.lt_of_lt_of_le HDL.out (below_newP HW1).size)
  have HG8 : Hid (w.heap.size < W.heap.size) := HDL
  have hrc : W1.cell? ⟨w.heap.size, 20, none⟩ = some (.bool d.raw) := by have := deed_raw HD1.out H16.out; rw [Nat.zero_add] at this; exact this
  rw [hraw] at hrc
  generalize W.heap.size = g8 at *
  clear HB HTT HRR HD HPD HZ HW1 HDL
  have HP := HP1
  have HD := HD1
  clear HP1 HD1
  have HGC := fun W => Lib.hid (refGoodP_any d.f d.b d.n W H16.out HLT.out HWN.out)
  have hgp := goodP_is d.f d.b d.n
  have HNB := bitsN_le (goodF d.f)
  generalize goodF d.f = gf at *
  generalize goodP d.f d.b d.n = gb at *
  generalize goodN d.f d.n = gn at *
  have G16 := Lib.hid hgp.len
  have GLT := Lib.hid hgp.lt
  have GWN : Hid ((Lit.int .i64 (gn : Int)).wf = true) := Lib.hid (wf_small (by have := hgp.le; omega))
  clear hgp HNB
  go_wp2_with (refine load_pref_g HP _ rfl rfl rfl ?_)
  refine (HGC _).out.mono ?_
  rintro e w1 ⟨rfl, hb1⟩
  replace HP := Lib.hid (HP.out.below hb1)
  replace HT := Lib.hid (K.keepB HT.out hb1)
  replace HR := Lib.hid (HR.out.below hb1)
  replace HD := Lib.hid (range_belowB HD.out hb1 HDL2.out)
  replace HBL := Lib.hid (chain HBL.out hb1)
  replace HDL2 : Hid (w.heap.size < w1.heap.size) := Lib.hid (Nat.lt_of_lt_of_le HDL2.out hb1.size)
  clear hb1 HGC hrc
  go_upto_region 4 with (refine store_pref HP _ _ G16 rfl rfl rfl rfl (fun V HV HPV => ?_))
  have hfv : Foot [g8] [g8] w1 V := by rw [HV.out]; exact foot_cells g8 0 _
  have HT3 := Lib.hid (K.keep HT.out hfv.size (fun k hk => hfv.keep k ((K.lt HT.out).2 k hk) (fun e => by have := HFL.out k hk; have := HG8.out; simp at e; omega)))
  have HR3 := Lib.hid (HR.out.foot hfv (fun g hg e => by have := HVL.out g hg; have := HG8.out; simp at e; omega))
  have HD3 := Lib.hid (range_foot hfv HD.out HDL2.out (fun e => by have := HG8.out; simp at e; omega))
  have HBL3 : Hid (Below w.heap.size w V) := Lib.hid (by rw [HV.out]; exact below_cells (Nat.le_of_lt HG8.out) _ _ _ HBL.out)
  have HDL3 : Hid (w.heap.size < V.heap.size) := Lib.hid (Nat.lt_of_lt_of_le HDL2.out hfv.size)
  clear HP HT HR HD HBL HDL2 hfv HV
  have HP := HPV
  have HT := HT3
  have HR := HR3
  have HD := HD3
  have HBL := HBL3
  have HDL2 := HDL3
  clear HPV HT3 HR3 HD3 HBL3 HDL3
  try simp only [Act.put]
  have hkc := deed_kind HD.out
  have hvc : V.cell? ⟨w.heap.size, 19, none⟩ = some (.int .i64 d.v) := by have := deed_val HD.out H16.out; rw [Nat.zero_add] at this; exact this
  by_cases h0 : d.kind = 0
  · rw [if_pos h0] at HDO
    rw [h0] at hkc
    have HRS := fun W (h : RowE W 0 v es) => Lib.hid (refSet_any v es gf gb (gn : Int) d.v W 0 h G16.out GLT.out HWV.out hle)
    have HTS := fun W st F (h : K.At W G es st F) => Lib.hid (K.set gf gb (gn : Int) d.v h G16.out GLT.out GWN.out HWV.out hle)
    obtain ⟨c, hc⟩ : ∃ c : Int, (if mayP gf gb (gn : Int) = true then (0 : Int) else 1) = c := ⟨_, rfl⟩
    rw [hc] at HRS HTS
    obtain ⟨S2, eS2⟩ : ∃ S2, setE es gf gb (gn : Int) d.v = S2 := ⟨_, rfl⟩
    rw [eS2] at HRS HTS HDO
    have hcc : (c == c) = true := by simp
    clear hc eS2 h0
    go_wp2_with (refine load_pref_g HP _ rfl rfl rfl ?_)
    refine (HRS _ HR.out).out.mono ?_
    rintro e w2 ⟨v2, rfl, hrow, hfr, hb2⟩
    have HP2 := Lib.hid (HP.out.below hb2)
    have HT2 := Lib.hid (K.keepB HT.out hb2)
    have HFL2 := Lib.hid (K.lt HT.out).2
    have HR2 := Lib.hid hrow
    have HN2 : Hid (NotIn v2 F) := Lib.hid (by
      rcases hfr with e | hr2
      · rw [e]; exact HNN.out
      · exact NotIn.fresh hr2 HFL2.out)
    have hvc2 : w2.cell? ⟨w.heap.size, 19, none⟩ = some (.int .i64 d.v) := by rw [hb2.cell (p := ⟨w.heap.size, 19, none⟩) HDL2.out]; exact hvc
    have HBL2 := Lib.hid (chain HBL.out hb2)
    clear HP HT HR HBL hrow hfr hb2 hvc hkc HRS HD
    go_wp2_with (refine load_pref_g HP2 _ rfl rfl rfl ?_)
    refine (HTS _ _ _ HT2.out).out.mono ?_
    rintro e w3 ⟨rfl, st3, F3, hT3, hf3⟩
    go_wp2_with fail
    go_ret2
    have hff := (Foot.ofBelow F HBL2.out).trans hf3
    exact ⟨v2, st3, F3, rfl, by rw [HDO.out]; exact hT3, by rw [HDO.out]; exact HR2.out.foot hf3 HN2.out, HN2.out.foot HR2.out hf3, hff⟩
  · rw [if_neg h0] at HDO
    have hd0 : (d.kind == 0) = false := by simp [h0]
    by_cases h1 : d.kind = 1
    · rw [if_pos h1] at HDO
      have hd1 : (d.kind == 1) = true := by simp [h1]
      have HRS := fun W (h : RowE W 0 v es) => Lib.hid (refDrop_any v es gf gb (gn : Int) W 0 h G16.out)
      have HTS := fun W st F (h : K.At W G es st F) => Lib.hid (K.drop gf gb (gn : Int) h G16.out GLT.out GWN.out hle)
      obtain ⟨S2, eS2⟩ : ∃ S2, dropE es gf gb (gn : Int) = S2 := ⟨_, rfl⟩
      rw [eS2] at HRS HTS HDO
      clear eS2 h0 h1
      go_wp2_with (refine load_pref_g HP _ rfl rfl rfl ?_)
      refine (HRS _ HR.out).out.mono ?_
      rintro e w2 ⟨v2, rfl, hrow, hb2⟩
      have HP2 := Lib.hid (HP.out.below hb2)
      have HT2 := Lib.hid (K.keepB HT.out hb2)
      have HFL2 := Lib.hid (K.lt HT.out).2
      have HR2 := Lib.hid (hrow.mono (Nat.zero_le _))
      have HN2 : Hid (NotIn v2 F) := Lib.hid (NotIn.fresh hrow HFL2.out)
      have HBL2 := Lib.hid (chain HBL.out hb2)
      clear HP HT HR HBL hrow hb2 hvc hkc HRS HD
      by_cases hw : S2.length < es.length
      · have hdw : decide (S2.length < es.length) = true := by simp [hw]
        rw [hdw]
        rw [if_pos hw] at HTS
        go_wp2_with (refine load_pref_g HP2 _ rfl rfl rfl ?_)
        refine (HTS _ _ _ HT2.out).out.mono ?_
        rintro e w3 ⟨rfl, st3, F3, hT3, hf3⟩
        go_wp2_with fail
        go_ret2
        have hff := (Foot.ofBelow F HBL2.out).trans hf3
        exact ⟨v2, st3, F3, rfl, by rw [HDO.out]; exact hT3, by rw [HDO.out]; exact HR2.out.foot hf3 HN2.out, HN2.out.foot HR2.out hf3, hff⟩
      · have hdw : decide (S2.length < es.length) = false := by simp; omega
        rw [hdw]
        rw [if_neg hw] at HTS
        go_wp2_with (refine load_pref_g HP2 _ rfl rfl rfl ?_)
        refine (HTS _ _ _ HT2.out).out.mono ?_
        rintro e w3 ⟨rfl, st3, F3, hT3, hf3⟩
        go_wp2_with fail
        go_ret2
        have hff := (Foot.ofBelow F HBL2.out).trans hf3
        exact ⟨v2, st3, F3, rfl, by rw [HDO.out]; exact hT3, by rw [HDO.out]; exact HR2.out.foot hf3 HN2.out, HN2.out.foot HR2.out hf3, hff⟩
    · rw [if_neg h1] at HDO
      have hd1 : (d.kind == 1) = false := by simp [h1]
      have HTS := fun W st F (h : K.At W G es st F) => Lib.hid (K.get gf gb (gn : Int) h G16.out GLT.out GWN.out hle)
      have HRS := fun W (h : RowE W 0 v es) => Lib.hid (refGet_any v es gf gb (gn : Int) W 0 h G16.out)
      obtain ⟨q, eq⟩ : ∃ q, getE es gf gb (gn : Int) = q := ⟨_, rfl⟩
      rw [eq] at HRS HTS
      clear eq h0 h1
      go_wp2_with (refine load_pref_g HP _ rfl rfl rfl ?_)
      refine (HTS _ _ _ HT.out).out.mono ?_
      rintro e w2 ⟨rfl, st2, F2, hT2, hf2⟩
      have HP2 := Lib.hid (HP.out.foot hf2 (fun e => by have := HFL.out _ e; have := HG8.out; omega))
      have HR2 := Lib.hid (HR.out.foot hf2 HNN.out)
      have HN2 := Lib.hid (HNN.out.foot HR.out hf2)
      have HF2 := Lib.hid ((Foot.ofBelow F HBL.out).trans hf2)
      have HT2 := Lib.hid hT2
      clear HP HT HR HBL hT2 hf2 hvc hkc HTS HD
      unfold getRet
      go_wp2_with (refine load_pref_g HP2 _ rfl rfl rfl ?_)
      refine (HRS _ HR2.out).out.mono ?_
      rintro e w3 ⟨rfl, hb3⟩
      unfold getRet
      obtain ⟨z, hz⟩ : ∃ z : Int, q.getD 0 = z := ⟨_, rfl⟩
      obtain ⟨b, hb⟩ : ∃ b : Bool, q.isSome = b := ⟨_, rfl⟩
      rw [hz, hb]
      have hzz : (z == z) = true := by simp
      have hbb : (b == b) = true := by simp
      clear hz hb
      go_wp2_with fail
      go_ret2
      exact ⟨v, st2, F2, rfl, by rw [HDO.out]; exact K.keepB HT2.out hb3, by rw [HDO.out]; exact HR2.out.below hb3, HN2.out, HF2.out.trans (Foot.ofBelow F2 hb3)⟩
theorem does_any (K : TabKit) (G : Nat) (v : Value) (es : List Ent) (st : Int) (F : List Nat) (d : DeedD) (w : World) (hT : K.At w G es st F) (hR : RowE w 0 v es) (hN : NotIn v F) (hd : d.Ok) (hle : es.length ≤ 900) :
    Calls Try.prog 10 #[.pointer (some ⟨G, 0, none⟩), v, deedV d] w (DoneE K G (doE es d) F w) := by
  cases h : d.raw with
  | true => exact does_raw K G v es st F d w hT hR hN hd hle h
  | false => exact does_made K G v es st F d w hT hR hN hd hle h
end Go.Proofs.Ytjpjobbmljlacaa
/- Contract of abatislaw06.play, over whatever table. -/
namespace Go.Proofs.Ytjpjobbmljlacaa
open Go.RowKit
set_option linter.unusedVariables false
set_option maxRecDepth 20000

/-- What there is behind the first deeds. -/
def playE (D : List DeedD) (k : Nat) : List Ent := (D.take k).foldl doE []
theorem playE_succ (D : List DeedD) (k : Nat) (hk : k < D.length) : playE D (k + 1) = doE (playE D k) D[k] := foldl_take doE [] D k hk
theorem playE_len (D : List DeedD) : ∀ k, (playE D k).length ≤ k
  | 0 => by simp [playE]
  | k + 1 => by
    by_cases hk : k < D.length
    · rw [playE_succ D k hk]
      have h1 := doE_len (playE D k) D[k]
      have h2 := playE_len D k
      omega
    · have : D.take (k + 1) = D.take k := by rw [List.take_of_length_le (by omega), List.take_of_length_le (by omega)]
      unfold playE
      rw [this]
      exact Nat.le_trans (playE_len D k) (Nat.le_succ _)
def PlayedE (K : TabKit) (es : List Ent) (w : World) (e : Ending) (w' : World) : Prop :=
  ∃ G v st F, e = .returned (.tuple #[.pointer (some ⟨G, 0, none⟩), v, .bool true]) ∧ K.At w' G es st F ∧ RowE w' 0 v es ∧ NotIn v F ∧ (∀ k ∈ F, w.heap.size ≤ k) ∧ Below w.heap.size w w'
set_option maxRecDepth 100000 in
set_option maxHeartbeats 2000000 in
theorem play_any (K : TabKit) (a : Option Addr) (len cap : Nat) (D : List DeedD) (w : World) (hD : DeedsAt w a len cap D) :
    Calls Try.prog 13 #[.slice a len cap] w (PlayedE K (playE D 40) w) := by
  obtain ⟨hc1, hc2, hl, hok, hrow⟩ := hD
  have hm : maxLen ≤ 9223372036854775807 := by unfold maxLen; omega
  have hlen : len ≤ 9223372036854775807 := by omega
  have HOK := Lib.hid hok
  have HK0 := fun W => Lib.hid (K.new0 W)
  rcases hrow with rfl | ⟨g, o, rfl, hr, hg⟩
  · obtain rfl : D = [] := List.eq_nil_of_length_eq_zero hl
    have HP0 : Hid (playE [] 40 = []) := Lib.hid rfl
    go_enter Try.func13, Try.ntmps13
    go_wp2_with fail
    refine (HK0 _).out.mono ?_
    rintro e w1 ⟨G, st, F, rfl, hT, hF, hb⟩
    go_wp2_with fail
    go_loop [6, 7] (fun r i => i = .int .i64 0 ∧ r = .slice none 0 0) (fun _ _ => 0)
    case atStart => exact ⟨rfl, rfl⟩
    case round =>
      obtain ⟨rfl, rfl⟩ := hrel
      go_wp2_with fail
      go_ret3
      exact ⟨G, .slice none 0 0, st, F, rfl, by rw [HP0.out]; exact hT, by rw [HP0.out]; exact RowE.nil _ _, (fun g hg => by cases hg), hF, hb⟩
  · have HRW := Lib.hid hr
    have HGL := Lib.hid hg
    have HLN := Lib.hid hl
    have HOL : Hid (∀ d ∈ D, d.L.length = 21) := Lib.hid (fun d hd => DeedD.L_len d (hok d hd).2.1)
    clear hok hr
    go_enter Try.func13, Try.ntmps13
    go_wp2_with fail
    refine (HK0 _).out.mono ?_
    rintro e w1 ⟨G, st, F, rfl, hT, hF, hb⟩
    have HT0 := Lib.hid hT
    have HF0 := Lib.hid hF
    have HB0 := Lib.hid hb
    clear hT hF hb HK0
    go_wp2_with fail
    go_loopw [6, 7] (fun r i wr => ∃ (k : Nat) (st : Int) (F : List Nat), k ≤ len ∧ k ≤ 40 ∧ i = .int .i64 (k : Int) ∧ Hid (K.At wr G (playE D k) st F) ∧ Hid (RowE wr 0 r (playE D k)) ∧ Hid (NotIn r F) ∧ Hid (∀ k ∈ F, w.heap.size ≤ k) ∧ Hid (Below w.heap.size w wr)) (fun _ i _ => 40 - (intOf i).toNat)
    case atStart => exact ⟨0, st, F, Nat.zero_le _, Nat.zero_le _, rfl, HT0, Lib.hid (RowE.nil _ _), Lib.hid (fun g hg => by cases hg), HF0, HB0⟩
    case round =>
      obtain ⟨k, st1, F1, hk, hk40, rfl, HT, HR, HN, HF, HB⟩ := hrel
      clear HT0 HF0 HB0
      by_cases hkl : k < len
      · have hd : decide ((k : Int) < (len : Int)) = true := by simp; omega
        have hdn : decide (k < len) = true := by simp; omega
        by_cases hk4 : k < 40
        · have hd2 : decide ((k : Int) < 40) = true := by simp; omega
          have hd2n : decide (k < 40) = true := by simp; omega
          have hkD : k < D.length := by rw [HLN.out]; exact hkl
          obtain ⟨dk, hdk⟩ : ∃ dk, D[k] = dk := ⟨_, rfl⟩
          have HDK : Hid dk.Ok := Lib.hid (by rw [← hdk]; exact HOK.out _ (List.getElem_mem hkD))
          have H16 := Lib.hid HDK.out.2.1
          have HRD : Hid (wr.rangeAt g (o + k * 21) dk.L) := Lib.hid (by have := range_at (range_belowB HRW.out HB.out HGL.out) HOL.out k hkD; rw [hdk] at this; exact this)
          have HSU : Hid (playE D (k + 1) = doE (playE D k) dk) := Lib.hid (by rw [playE_succ D k hkD, hdk])
          have hki : (k : Int) < (len : Int) := by omega
          clear hdk hkD
          have HDO := Lib.hid (does_any K G _ (playE D k) st1 F1 dk wr HT.out HR.out HN.out HDK.out (Nat.le_trans (playE_len D k) (by omega)))
          go_wp2_with (refine load_deed_o H16 HRD _ rfl rfl rfl ?_)
          refine HDO.out.mono ?_
          rintro e w2 ⟨v2, st2, F2, rfl, hT2, hR2, hN2, hf2⟩
          have HB2 := Lib.hid (HB.out.trans (hf2.below HF.out HB.out.size))
          have HF2 : Hid (∀ k ∈ F2, w.heap.size ≤ k) := Lib.hid (fun j hj => by
            rcases hf2.new j hj with e | e
            · exact HF.out j e
            · exact Nat.le_trans HB.out.size e)
          have HT2 := Lib.hid hT2
          have HR2 := Lib.hid hR2
          have HN2 := Lib.hid hN2
          clear HT HR HN HF HB hT2 hR2 hN2 hf2 HDO
          go_wp2_with fail
          go_roundw
          case rel => exact ⟨k + 1, st2, F2, by omega, by omega, by go_num, Lib.hid (by rw [HSU.out]; exact HT2.out), Lib.hid (by rw [HSU.out]; exact HR2.out), HN2, HF2, HB2⟩
          case measure => simp [intOf]; omega
        · obtain rfl : k = 40 := by omega
          go_wp2_with fail
          go_ret3
          exact ⟨G, _, st1, F1, rfl, HT.out, HR.out, HN.out, HF.out, HB.out⟩
      · obtain rfl : k = len := by omega
        have hd : decide ((k : Int) < (k : Int)) = false := by simp
        have HPK : Hid (playE D 40 = playE D k) := Lib.hid (by unfold playE; rw [List.take_of_length_le (by have := HLN.out; omega), List.take_of_length_le (by have := HLN.out; omega)])
        go_wp2_with fail
        go_ret3
        exact ⟨G, _, st1, F1, rfl, by rw [HPK.out]; exact HT.out, by rw [HPK.out]; exact HR.out, HN.out, HF.out, HB.out⟩
end Go.Proofs.Ytjpjobbmljlacaa
/- Small things that the laws of layer 6 share. -/
namespace Go.Proofs.Ytjpjobbmljlacaa
open Go.RowKit
set_option linter.unusedVariables false
set_option maxRecDepth 20000

theorem DeedsAt.below {w w' : World} {a : Option Addr} {len cap : Nat} {D : List DeedD} (h : DeedsAt w a len cap D) (hb : Below w.heap.size w w') : DeedsAt w' a len cap D := by
  obtain ⟨h1, h2, h3, h4, h5⟩ := h
  refine ⟨h1, h2, h3, h4, ?_⟩
  rcases h5 with h5 | ⟨g, o, e, hr, hg⟩
  · exact .inl h5
  · exact .inr ⟨g, o, e, range_belowB hr hb hg, Nat.lt_of_lt_of_le hg hb.size⟩
theorem RowE.slice {w : World} {base : Nat} {v : Value} {es : List Ent} (h : RowE w base v es) : ∃ a c, v = .slice a es.length c := by
  rcases h.form with ⟨e, e2⟩ | ⟨g, cap, e, _⟩
  · exact ⟨none, 0, by rw [e, e2]; rfl⟩
  · exact ⟨_, _, e⟩
theorem AddrAt.sameB {w w' : World} {G : Nat} {f : Int} {bs : List Nat} (h : AddrAt w G f bs) {n : Nat} (hb : Below n w w') (hG : G < n) : AddrAt w' G f bs :=
  AddrAt.ofRange h.len (Nat.lt_of_lt_of_le h.lt hb.size) (range_belowB h.range hb hG) (fun j hj => by
    rw [hb.cell (p := ⟨G, 0 + j, none⟩) hG, hb.frozen (p := ⟨G, 0 + j, none⟩) hG]; exact h.there j hj)
theorem AddrAt.foot {F F' : List Nat} {w w' : World} {G : Nat} {f : Int} {bs : List Nat} (h : AddrAt w G f bs) (hf : Foot F F' w w') (hn : G ∉ F) : AddrAt w' G f bs :=
  AddrAt.ofRange h.len (Nat.lt_of_lt_of_le h.lt hf.size) (range_foot hf h.range h.lt hn) (fun j hj => by
    rw [World.cell?_of_block (w := w) (a := ⟨G, 0 + j, none⟩) (hf.keep G h.lt hn), World.frozen?_of_block (w := w) (a := ⟨G, 0 + j, none⟩) (hf.keep G h.lt hn)]; exact h.there j hj)
/-- What a play leaves, of the landed table. -/
def PlayedT (es : List Ent) (w : World) (e : Ending) (w' : World) : Prop :=
  ∃ G a c F, e = .returned (.tuple #[.pointer (some ⟨G, 0, none⟩), .slice a es.length c, .bool true]) ∧ TabAt w' G es 0 F ∧ RowE w' 0 (.slice a es.length c) es ∧ (∀ k ∈ F, w.heap.size ≤ k) ∧ Below w.heap.size w w' ∧ NotIn (.slice a es.length c) F
theorem played (a : Option Addr) (len cap : Nat) (D : List DeedD) (w : World) (hD : DeedsAt w a len cap D) : Calls Try.prog 13 #[.slice a len cap] w (PlayedT (playE D 40) w) :=
  (play_any ownKit a len cap D w hD).mono fun e w' ⟨G, v, st, F, h1, h2, h3, h4, h5, h6⟩ => by
    obtain ⟨a, c, rfl⟩ := h3.slice
    exact ⟨G, a, c, F, h1, h2.2, h3, h5, h6, h4⟩
theorem playE_le (D : List DeedD) : (playE D 40).length ≤ 40 := playE_len D 40
end Go.Proofs.Ytjpjobbmljlacaa
/- Two entries held against one another; an address of zeros, built. -/
namespace Go.Proofs.Ytjpjobbmljlacaa
open Go.RowKit
set_option linter.unusedVariables false
set_option maxRecDepth 20000

theorem ent_fields : Try.prog.fieldsOf 42 = #[{ name := "Prefix", type := 32, offset := 0, embedded := false, tag := "", pkgPath := "", byteOffset := 0 }, { name := "Value", type := 3, offset := 18, embedded := false, tag := "", pkgPath := "", byteOffset := 32 }] := by simp only [Program.fieldsOf, Try.underlying42]
theorem nm5 : ("Prefix" = "_") = False := by simp
theorem nm6 : ("Value" = "_") = False := by simp
theorem stE (d : Nat) (xs ys : Array Value) (W : World) : (Op.equalIn (d + 5) 42 (.agg xs) (.agg ys)).run Try.prog W = (Op.eqFields (d + 4) xs ys (Try.prog.fieldsOf 42).toList).run Try.prog W :=
  run_equalIn_struct W (d + 4) _ _ _ (by rw [ent_fields]; exact Try.underlying42) Try.stoodInHeld42
theorem part_pref (W : World) (f : Int) (xs : List Nat) (n v : Int) (hx : xs.length = 16) : (part 32 (entL f xs n v).toArray 0).run Try.prog W = .ok (prefV f xs n) W := by
  obtain ⟨i, hi, hs⟩ : ∃ i, Try.prog.info? 32 = some i ∧ i.size = 18 := ⟨_, rfl, by kernel_rfl⟩
  have h2 : (isAgg 32).run Try.prog W = .ok true W := by
    unfold isAgg
    rw [Sem.run_bind, run_underlying Try.underlying32 W]
    simp
  have h3 : (sizeOf 32).run Try.prog W = .ok 18 W := by simp [sizeOf, typeInfo, hi, hs]
  simp only [part, Sem.run_bind, h2, Result.andThen_ok, if_true, h3, Sem.run_pure]
  unfold prefV
  congr 2
  apply Array.ext'
  simp only [Array.toList_extract, List.extract_eq_take_drop]
  show ((prefL f xs n ++ [Value.int .i64 v]).drop 0).take 18 = prefL f xs n
  rw [List.drop_zero, List.take_append_of_le_length (by rw [prefL_len f xs n hx]; exact Nat.le_refl _), List.take_of_length_le (by rw [prefL_len f xs n hx]; exact Nat.le_refl _)]
theorem part_val (W : World) (f : Int) (xs : List Nat) (n v : Int) (hx : xs.length = 16) : (part 3 (entL f xs n v).toArray 18).run Try.prog W = .ok (.int .i64 v) W := run_part_plain W plainK_int (by
  rw [List.getElem?_toArray]
  unfold entL; rw [List.getElem?_append_right (by rw [prefL_len f xs n hx]; exact Nat.le_refl _), prefL_len f xs n hx]; rfl)
theorem eq_valE (d : Nat) (f g : Int) (W : World) : (Op.equalIn (d + 4) 3 (.int .i64 f) (.int .i64 g)).run Try.prog W = .ok (f == g) W := run_equalIn_int (P := Try.prog) W (d + 3) 3 .i64 .i64 f g Try.underlying3
theorem two_fieldsE (P : Program) (W : World) (D : Nat) (X Y : Array Value) (t1 t2 : TypeId) (a1 b1 a2 b2 : Value) (r1 r2 : Bool)
    (h1 : (part t1 X 0).run P W = .ok a1 W) (h2 : (part t1 Y 0).run P W = .ok b1 W) (h3 : (Op.equalIn D t1 a1 b1).run P W = .ok r1 W)
    (h4 : (part t2 X 18).run P W = .ok a2 W) (h5 : (part t2 Y 18).run P W = .ok b2 W) (h6 : (Op.equalIn D t2 a2 b2).run P W = .ok r2 W) :
    (Op.eqFields D X Y [{ name := "Prefix", type := t1, offset := 0, embedded := false, tag := "", pkgPath := "", byteOffset := 0 }, { name := "Value", type := t2, offset := 18, embedded := false, tag := "", pkgPath := "", byteOffset := 32 }]).run P W = .ok (r1 && r2) W := by
  simp only [Op.eqFields, ne_eq, nm5, nm6, not_false_eq_true, if_true, Sem.run_bind, h1, h2, h3, Result.andThen_ok, Sem.run_ite, h4, h5, h6, Sem.run_pure]
  cases r1 <;> cases r2 <;> rfl
theorem eq_same_ent (f : Int) (xs : List Nat) (n v : Int) (W : World) (hx : xs.length = 16) : (Op.equalIn 10000 42 (entV f xs n v) (entV f xs n v)).run Try.prog W = .ok true W := by
  rw [entV, show (10000 : Nat) = 9995 + 5 from rfl, stE, ent_fields]
  refine (two_fieldsE Try.prog W (9995 + 4) _ _ 32 3 _ _ _ _ _ _ (part_pref W f xs n v hx) (part_pref W f xs n v hx) (eq_pref_at 9995 f f xs xs n n W hx hx) (part_val W f xs n v hx) (part_val W f xs n v hx) (eq_valE 9995 v v W)).trans ?_
  congr 1
  simp
theorem neq_same_ent (f : Int) (xs : List Nat) (n v : Int) (W : World) (hx : xs.length = 16) : (binOp .neq 42 (entV f xs n v) (entV f xs n v)).run Try.prog W = .ok (.bool false) W := by
  have h := eq_same_ent f xs n v W hx
  unfold entV at h ⊢
  rw [run_neq_struct, h]
  rfl
theorem guard_ent (op : BinOp) (x y : Operand) (f g : Int) (xs ys : List Nat) (n m v u : Int) (W : World) : (eqGuard op 42 x y (entV f xs n v) (entV g ys m u)).run Try.prog W = .ok () W := run_eqGuard_agg _ _ _ _ _ _ _ Try.eqGuardType42
theorem build_addr0 {ops : Array Oper} {rest : List Oper} {op : Oper} {a : Act} {w : World} {Q : Exit → Act → World → Prop} (hg : op.guard = none) (ho : op.op = .build 30 #[])
    (h : wpList Try.prog ops Q rest (a.put op.dst (addrV 0 (List.replicate 16 0))) w) : wpList Try.prog ops Q (op :: rest) a w := by
  have e : Try.prog.built 30 ((#[] : Array (Nat × Operand)).map fun (i, x) => (i, a.eval x)).toList = some (addrL 0 (List.replicate 16 0)).toArray := by
    simp only [List.map_toArray, List.map_nil]
    rfl
  refine wpList_build hg 30 _ ho (by rw [e]; rfl) ?_
  rw [e]
  exact h
/-- A guarded build of an entry of zeros. -/
theorem build_entT0_g {ops : Array Oper} {rest : List Oper} {op : Oper} {a : Act} {w : World} {Q : Exit → Act → World → Prop} (hw : Region.wanted op (yielded ops a.tmps) = true) (ho : op.op = .build 42 #[])
    (h : wpList Try.prog ops Q rest (a.put op.dst (entV 0 (List.replicate 16 0) 0 0)) w) : wpList Try.prog ops Q (op :: rest) a w := by
  simp only [wpList, hw, if_true]
  refine .inl ?_
  unfold Oper.wp
  rw [exec_build ho (cells := (entL 0 (List.replicate 16 0) 0 0).toArray) (by simp only [List.map_toArray, List.map_nil]; exact built_entT0)]
  exact h
/-- An address, loaded whole from wherever it lies. -/
theorem load_addr_o {ops : Array Oper} {rest : List Oper} {op : Oper} {a : Act} {w : World} {Q : Exit → Act → World → Prop} {G o : Nat} {f : Int} {bs : List Nat} (hl : Hid (bs.length = 16)) (hA : Hid (w.rangeAt G o (addrL f bs))) (x : Operand) (hw : Region.wanted op (yielded ops a.tmps) = true) (ho : op.op = .load 30 x)
    (hx : a.eval x = .pointer (some ⟨G, o, none⟩)) (h : wpList Try.prog ops Q rest (a.put op.dst (addrV f bs)) w) : wpList Try.prog ops Q (op :: rest) a w :=
  wpList_load_row hw 30 x ho G o hx (addrL f bs) _ hA.out Try.underlying30 rfl (by rw [addr_size, addrL_len f bs hl.out]) h
theorem find_zero (es : List Ent) (hg : AllGood es) : findE es 0 (List.replicate 16 0) = none := by
  cases h : findE es 0 (List.replicate 16 0) with
  | none => rfl
  | some e =>
    obtain ⟨h1, h2, _⟩ := (findE_best es 0 (List.replicate 16 0)).2 e h
    have hf := (hg e h1).1.fam
    unfold hasB at h2
    have := (of_decide_eq_true h2).1
    omega
end Go.Proofs.Ytjpjobbmljlacaa
