/- Texts that belong together, one behind the other: TabRow, RefCidrHas, RefFind, FindMath, TabKit, CidrOrder, TabCmp. -/
import Derived.Test.YtjpjobbmljlacaaB3
/- A row of table.Entry (a prefix and a value: 19 cells each), as a walk reads it: the reference's row (ERow, EntKit, AppE, TabFoot) at the table's own type. -/
namespace Go.Proofs.Ytjpjobbmljlacaa
open Go.RowKit
set_option linter.unusedVariables false
set_option maxRecDepth 20000

/-- A row of entries. -/
def RowT (w : World) (base : Nat) (v : Value) (es : List Ent) : Prop := w.ownsRow base 42 19 v es.length (flatE es) ∧ AllGood es ∧ es.length ≤ 1000
theorem RowT.below {w w' : World} {base : Nat} {v : Value} {es : List Ent} (h : RowT w base v es) (hb : Below w.heap.size w w') : RowT w' base v es := by
  obtain ⟨⟨h1, h2⟩, h3⟩ := h
  refine ⟨⟨h1, ?_⟩, h3⟩
  rcases h2 with h2 | ⟨g, cap, cur, e1, e2, e3, e4⟩
  · exact .inl h2
  · refine .inr ⟨g, cap, cur, e1, e2, ?_, e4⟩
    have hlt : g < w.heap.size := by
      apply Classical.byContradiction
      intro h
      rw [Array.getElem?_eq_none (by omega)] at e3
      cases e3
    rw [hb.block g hlt]
    exact e3
theorem RowT.nil (w : World) (base : Nat) : RowT w base (.slice none 0 0) [] := ⟨World.ownsRow_nil _ _ _ _, (fun e h => absurd h (by simp)), by decide⟩
theorem RowT.mono {w : World} {base base' : Nat} {v : Value} {es : List Ent} (h : RowT w base v es) (hb : base' ≤ base) : RowT w base' v es := by
  obtain ⟨⟨h1, h2⟩, h3⟩ := h
  refine ⟨⟨h1, ?_⟩, h3⟩
  rcases h2 with h2 | ⟨g, cap, cur, e1, e2, e3⟩
  · exact .inl h2
  · exact .inr ⟨g, cap, cur, e1, by omega, e3⟩
/-- How it reads: nil and empty, or cells of a block. -/
theorem RowT.form {w : World} {base : Nat} {v : Value} {es : List Ent} (h : RowT w base v es) : (v = .slice none 0 0 ∧ es = []) ∨ ∃ g cap, v = .slice (some ⟨g, 0, none⟩) es.length cap ∧ base ≤ g ∧ g < w.heap.size ∧ es.length ≤ cap ∧ cap ≤ maxLen ∧ w.rangeAt g 0 (flatE es) := by
  obtain ⟨hr, hg, hle⟩ := h
  obtain ⟨h1, h2⟩ := hr
  rcases h2 with ⟨e1, e2⟩ | ⟨g, cap, cur, e1, e2, e3, e4, e5, e6, e7⟩
  · exact .inl ⟨e1, List.eq_nil_of_length_eq_zero e2⟩
  · refine .inr ⟨g, cap, e1, e2, ?_, e4, e5, fun j u hu => ?_⟩
    · apply Classical.byContradiction
      intro h
      rw [Array.getElem?_eq_none (by omega)] at e3
      cases e3
    · rw [Nat.zero_add, cell_of_row w g j cur _ _ e3, ← Array.getElem?_toList]
      rw [← e7, List.getElem?_take] at hu
      split at hu
      · exact hu
      · cases hu
theorem entT_size : (Try.prog.info? 42).map (·.size) = some 19 := by kernel_rfl
theorem entT_zeroed (w : World) : EntAt (w.alloc (.cells zE 42)) w.heap.size 0 (List.replicate 16 0) 0 0 := EntAt.of w _ _ 0 _ 0 0 rfl rfl
/-- An entry, loaded whole from wherever it lies. -/
theorem load_entT_o {ops : Array Oper} {rest : List Oper} {op : Oper} {a : Act} {w : World} {Q : Exit → Act → World → Prop} {G o : Nat} {f : Int} {bs : List Nat} {n v : Int} (hl : Hid (bs.length = 16)) (hA : Hid (w.rangeAt G o (entL f bs n v))) (x : Operand) (hw : Region.wanted op (yielded ops a.tmps) = true) (ho : op.op = .load 42 x)
    (hx : a.eval x = .pointer (some ⟨G, o, none⟩)) (h : wpList Try.prog ops Q rest (a.put op.dst (entV f bs n v)) w) : wpList Try.prog ops Q (op :: rest) a w :=
  wpList_load_row hw 42 x ho G o hx (entL f bs n v) _ hA.out Try.underlying42 rfl (by rw [entT_size, entL_len f bs n v hl.out]) h
/-- An entry, stored whole. -/
theorem store_entT {ops : Array Oper} {rest : List Oper} {op : Oper} {a : Act} {w : World} {Q : Exit → Act → World → Prop} {G : Nat} {g : Int} {bs0 : List Nat} {n0 v0 : Int} (hA : Hid (EntAt w G g bs0 n0 v0)) (x y : Operand) {f : Int} {bs : List Nat} {n v : Int} (hl : Hid (bs.length = 16)) (hgd : op.guard = none) (ho : op.op = .store 42 x y)
    (hx : a.eval x = .pointer (some ⟨G, 0, none⟩)) (hy : a.eval y = entV f bs n v) (h : ∀ W, Hid (W = w.setCells G 0 (entL f bs n v)) → Hid (EntAt W G f bs n v) → wpList Try.prog ops Q rest (a.put op.dst undef) W) : wpList Try.prog ops Q (op :: rest) a w :=
  wpList_store_mid hgd 42 x y ho G 0 (entL f bs n v).toArray hx hy (by rw [List.size_toArray, entL_len f bs n v hl.out]; exact hA.out.there) (by rw [entT_size, List.size_toArray, entL_len f bs n v hl.out]) (entL_one f bs n v) (h _ (Lib.hid rfl) (Lib.hid (hA.out.stored f bs n v hl.out)))
theorem loadVar_entT {w : World} {G : Nat} {f : Int} {bs : List Nat} {n v : Int} (h : EntAt w G f bs n v) : (loadVar 42 ⟨G, 0, none⟩).run Try.prog w = .ok (entV f bs n v) w :=
  run_loadVar_mid w G 0 42 (entL f bs n v) _ h.range Try.underlying42 rfl (by rw [entT_size, entL_len f bs n v h.len])
theorem results_entT2 {fn : Func} {a t : Tmp} {tmps : Array Value} {W : World} {R : Nat} {f : Int} {bs : List Nat} {n v : Int} (h : fn.results = #[.cell a 42, .tmp t]) (ha : tmps.getD a undef = .pointer (some ⟨R, 0, none⟩)) (hA : EntAt W R f bs n v) : (results fn tmps).run Try.prog W = .ok (.tuple #[entV f bs n v, tmps.getD t undef]) W := by
  rw [Array.getD_eq_getD_getElem?] at ha
  simp [results, h, ha, asAddr, loadVar_entT hA]
/-- An entry, built of a prefix and a value; one of zeros. -/
theorem built_entT (f : Int) (bs : List Nat) (n v : Int) (h16 : bs.length = 16) : Try.prog.built 42 [(0, prefV f bs n), (1, .int .i64 v)] = some (entL f bs n v).toArray := by
  obtain ⟨y0, y1, y2, y3, y4, y5, y6, y7, y8, y9, y10, y11, y12, y13, y14, y15, rfl⟩ := list16 bs h16
  kernel_rfl
theorem built_entT0 : Try.prog.built 42 [] = some (entL 0 (List.replicate 16 0) 0 0).toArray := rfl
theorem build_entT {ops : Array Oper} {rest : List Oper} {op : Oper} {a : Act} {w : World} {Q : Exit → Act → World → Prop} {f : Int} {bs : List Nat} {n v : Int} (hl : Hid (bs.length = 16)) (hg : op.guard = none) (x y : Operand) (ho : op.op = .build 42 #[(0, x), (1, y)])
    (hx : a.eval x = prefV f bs n) (hy : a.eval y = .int .i64 v) (h : wpList Try.prog ops Q rest (a.put op.dst (entV f bs n v)) w) : wpList Try.prog ops Q (op :: rest) a w := by
  have e : Try.prog.built 42 ((#[(0, x), (1, y)] : Array (Nat × Operand)).map fun (i, x) => (i, a.eval x)).toList = some (entL f bs n v).toArray := by
    simp only [List.map_toArray, List.map_cons, List.map_nil]
    rw [hx, hy]; exact built_entT f bs n v hl.out
  refine wpList_build hg 42 _ ho (by rw [e]; rfl) ?_
  rw [e]
  exact h
theorem build_entT0 {ops : Array Oper} {rest : List Oper} {op : Oper} {a : Act} {w : World} {Q : Exit → Act → World → Prop} (hg : op.guard = none) (ho : op.op = .build 42 #[])
    (h : wpList Try.prog ops Q rest (a.put op.dst (entV 0 (List.replicate 16 0) 0 0)) w) : wpList Try.prog ops Q (op :: rest) a w := by
  have e : Try.prog.built 42 ((#[] : Array (Nat × Operand)).map fun (i, x) => (i, a.eval x)).toList = some (entL 0 (List.replicate 16 0) 0 0).toArray := by
    simp only [List.map_toArray, List.map_nil]
    exact built_entT0
  refine wpList_build hg 42 _ ho (by rw [e]; rfl) ?_
  rw [e]
  exact h
theorem infoT : (Try.prog.info? 42).map (fun i => (i.zero, i.size, i.bytes)) = some (some (.agg zE), 19, 40) := by kernel_rfl
theorem RowT.kept {w w' : World} {base : Nat} {v : Value} {es : List Ent} {row : Option Nat} (h : RowT w base v es) (hg : w.grownBy w' row) (hne : v.ownBlock = none ∨ v.ownBlock ≠ row) : RowT w' base v es := ⟨h.1.kept hg hne, h.2⟩
theorem below_grownT {w0 w w' : World} {v : Value} {es : List Ent} (hb : Below w0.heap.size w0 w) (hE : RowT w w0.heap.size v es) (hg : w.grownBy w' v.ownBlock) : Below w0.heap.size w0 w' :=
  hb.grown hg hb.size (fun k hk => (hE.1.lt k hk).1)
/-- Entries that lie somewhere are appended. -/
theorem append_entsT {ops : Array Oper} {rest : List Oper} {op : Oper} {a : Act} {w : World} {Q : Exit → Act → World → Prop} {base : Nat} {v : Value} {es : List Ent} (hE : Hid (RowT w base v es)) (s x : Operand) (hgd : op.guard = none) (ho : op.op = .call { callee := .builtin .append, args := #[s, x], argTypes := #[57, 57] })
    (hs : a.eval s = v) {G o m c : Nat} (ys : List Ent) (hx : a.eval x = .slice (some ⟨G, o, none⟩) m c) (hm : Hid (m = ys.length)) (hr : Hid (w.rangeAt G o (flatE ys))) (hy : Hid (AllGood ys)) (hle : Hid (es.length + ys.length ≤ 1000)) (hbase : Hid (base ≤ w.heap.size))
    (h : ∀ v' w', Hid (RowT w' base v' (es ++ ys)) → Hid (w.grownBy w' v.ownBlock) → Hid (v'.ownBlock = v.ownBlock ∨ v'.ownBlock = some w.heap.size) → wpList Try.prog ops Q rest (a.put op.dst v') w') : wpList Try.prog ops Q (op :: rest) a w := by
  obtain ⟨i0, hi0, hz0, hz1, hz2⟩ := info_parts infoT
  have hml := hm.out
  have hll := hle.out
  refine wpList_append_own_at w hgd s x 57 ho base 42 i0 _ 19 40 Try.underlying57 hi0 hz0 hz1 hz2 rfl (by decide) v es.length (flatE es) hs hE.out.1 ⟨G, o, none⟩ m c (flatE ys) hx (by rw [flatE_len ys hy.out, hml]) (fun j u hu => ?_) (flatE_one ys hy.out) (by unfold maxLen; omega) (by omega) hbase.out (fun v' w' h1 h2 _ h4 => ?_)
  · have := hr.out j u hu
    have hadd : (⟨G, o, none⟩ : Addr).add j = ⟨G, o + j, none⟩ := by unfold Addr.add; split <;> simp_all
    rw [hadd]
    exact this
  · refine h v' w' (Lib.hid ⟨?_, ?_, ?_⟩) (Lib.hid h2) (Lib.hid h4)
    · rw [List.length_append, flatE_append, ← hml]; exact h1
    · intro e he
      rcases List.mem_append.1 he with he | he
      · exact hE.out.2.1 e he
      · exact hy.out e he
    · rw [List.length_append]; exact hll
theorem append_noneT {ops : Array Oper} {rest : List Oper} {op : Oper} {a : Act} {w : World} {Q : Exit → Act → World → Prop} {base : Nat} {v : Value} {es : List Ent} (hE : Hid (RowT w base v es)) (s x : Operand) (hgd : op.guard = none) (ho : op.op = .call { callee := .builtin .append, args := #[s, x], argTypes := #[57, 57] })
    (hs : a.eval s = v) (hx : a.eval x = .slice none 0 0) (h : wpList Try.prog ops Q rest (a.put op.dst v) w) : wpList Try.prog ops Q (op :: rest) a w := by
  obtain ⟨i0, hi0, _⟩ := info_parts infoT
  refine wpList_plain hgd fun K hK => ?_
  have hr := run_append_owned_none (P := Try.prog) w base 57 op.type 42 i0 19 Try.underlying57 hi0 v es.length (flatE es) hE.out.1
  unfold Oper.wp execOp
  simp only [ho, resolve, invoke, builtin, Sem.run_bind, Sem.run_pure, Result.andThen_ok, List.map_toArray, List.map_cons, List.map_nil, hs, hx, hr]
  exact hK _ _ h
theorem run_buildT (f : Int) (bs : List Nat) (n v : Int) (w : World) (h16 : bs.length = 16) : (Instr.buildSlice 57 1 #[(0, entV f bs n v)]).run Try.prog w = .ok (.slice (some ⟨w.heap.size, 0, none⟩) 1 1) (w.alloc (.cells (entL f bs n v).toArray 42)) := by
  obtain ⟨i0, hi0, hz0, hz1, hz2⟩ := info_parts infoT
  have hf := fillE f bs n v h16
  obtain ⟨Z, hZ⟩ : ∃ Z : Array Value, zE = Z := ⟨_, rfl⟩
  rw [hZ] at hf hz0
  have hsz : (sizeOf 42).run Try.prog w = .ok 19 w := by simp [sizeOf, typeInfo, hi0, hz1]
  have hzv : (zeroValue 42).run Try.prog w = .ok (.agg Z) w := by simp [zeroValue, typeInfo, hi0, hz0]
  have hnr : ∀ cs : Array Value, (newRow 42 cs).run Try.prog w = .ok ⟨w.heap.size, 0, none⟩ (w.alloc (.cells cs 42)) := fun cs => by simp [newRow]
  have hu : (underlying 57).run Try.prog w = .ok _ w := run_underlying Try.underlying57 w
  have hfc : Instr.fill (fun i => some (i * 19, 19)) ((Array.range (1 * 19)).map fun j => (Value.agg Z).cells[j % (Value.agg Z).cells.size]!) (#[(0, entV f bs n v)] : Array (Nat × Value)).toList = some (entL f bs n v).toArray := hf
  unfold Instr.buildSlice
  simp only [Sem.run_bind, hu, Result.andThen_ok, hsz, if_neg (show ¬ (1 * 19 > 2 ^ 24) by decide), Sem.run_pure, if_neg (show ¬ (1 * 19 = 0) by decide), hzv, hfc, hnr]
theorem build_entST {ops : Array Oper} {rest : List Oper} {op : Oper} {a : Act} {w : World} {Q : Exit → Act → World → Prop} {f : Int} {bs : List Nat} {n v : Int} (hl : Hid (bs.length = 16)) (hg : op.guard = none) (x : Operand) (ho : op.op = .buildSlice 57 1 #[(0, x)])
    (hx : a.eval x = entV f bs n v) (h : ∀ W, Hid (W = w.alloc (.cells (entL f bs n v).toArray 42)) → wpList Try.prog ops Q rest (a.put op.dst (.slice (some ⟨w.heap.size, 0, none⟩) 1 1)) W) : wpList Try.prog ops Q (op :: rest) a w := by
  refine wpList_plain hg fun K hK => ?_
  unfold Oper.wp execOp
  simp only [ho, List.map_toArray, List.map_cons, List.map_nil, hx, Sem.run_bind, run_buildT f bs n v w hl.out, Result.andThen_ok]
  exact hK _ _ (h _ (Lib.hid rfl))
theorem RowT.foot {F F' : List Nat} {w w' : World} {base : Nat} {v : Value} {es : List Ent} (hr : RowT w base v es) (h : Foot F F' w w') (hn : NotIn v F) : RowT w' base v es := by
  obtain ⟨⟨h1, h2⟩, h3⟩ := hr
  refine ⟨⟨h1, ?_⟩, h3⟩
  rcases h2 with h2 | ⟨g, cap, cur, e1, e2, e3, e4⟩
  · exact .inl h2
  · refine .inr ⟨g, cap, cur, e1, e2, ?_, e4⟩
    have hlt : g < w.heap.size := by
      apply Classical.byContradiction
      intro h
      rw [Array.getElem?_eq_none (by omega)] at e3
      cases e3
    rw [h.keep g hlt (hn g (by rw [e1]; rfl))]
    exact e3
theorem RowT.blockLt {w : World} {base : Nat} {v : Value} {es : List Ent} (hr : RowT w base v es) : ∀ g, v.ownBlock = some g → base ≤ g ∧ g < w.heap.size := fun g hg => hr.1.lt g hg
theorem NotIn.footT {F F' : List Nat} {w w' : World} {base : Nat} {v : Value} {es : List Ent} (hn : NotIn v F) (hr : RowT w base v es) (h : Foot F F' w w') : NotIn v F' := fun g hg => h.out (hr.blockLt g hg).2 (hn g hg)
/-- A fresh row is not in an older footprint. -/
theorem NotIn.freshT {F : List Nat} {w w' : World} {v : Value} {es : List Ent} (hr : RowT w' w.heap.size v es) (hF : ∀ k ∈ F, k < w.heap.size) : NotIn v F := fun g hg e => by
  have h1 := (hr.blockLt g hg).1
  have h2 := hF g e
  omega
end Go.Proofs.Ytjpjobbmljlacaa
/- Contract of the reference's Has of layer 5. -/
namespace Go.Proofs.Ytjpjobbmljlacaa
open Go.RowKit
set_option linter.unusedVariables false
set_option maxRecDepth 20000

set_option maxRecDepth 100000 in
set_option maxHeartbeats 1000000 in
theorem refHas_any (f : Int) (ps : List Nat) (n : Nat) (g : Int) (us : List Nat) (w : World) (hp : ps.length = 16) (hu : us.length = 16) (lp : ∀ x ∈ ps, x < 256) (lu : ∀ x ∈ us, x < 256) (hn : n ≤ 1000) :
    Calls Try.prog 17 #[prefV f ps (n : Int), addrV g us] w fun e w' => e = .returned (.bool (hasB f ps n g us)) ∧ Below w.heap.size w w' := by
  have HP := Lib.hid hp
  have HU := Lib.hid hu
  obtain ⟨R, eR⟩ : ∃ R, hasB f ps n g us = R := ⟨_, rfl⟩
  rw [eR]
  have HE : Hid (decide (f = g ∧ ∀ i : Nat, i < n → bitN f ps (i : Int) = bitN g us (i : Int)) = R) := Lib.hid (by rw [← eR]; rfl)
  have HC1 := fun W (k : Nat) (hk : k ≤ 1000) => Lib.hid (refBit_any f ps (k : Int) W hp lp (wf_small (by omega)))
  have HC2 := fun W (k : Nat) (hk : k ≤ 1000) => Lib.hid (refBit_any g us (k : Int) W hu lu (wf_small (by omega)))
  obtain ⟨cs, ds, ecs, eds, H1, H2, HB⟩ := pref_addr_boxed f ps (n : Int) g us w hp hu
  rw [ecs, eds]
  clear ecs eds hp hu eR lp lu
  go_enter Try.func17, Try.ntmps17
  go_upto_region 1 with fail
  generalize ((w.alloc (.cells cs 32)).alloc (.cells ds 30)) = W at *
  have f1 := H1.out.addr.fam
  have f2 := H2.out.fam
  by_cases hfg : f = g
  · subst hfg
    have hd : (f != f) = false := by simp
    obtain ⟨L, hL⟩ : ∃ L, [(w.heap.size, 0, prefL f ps (n : Int)), (w.heap.size, 0, addrL f ps), (w.heap.size + 1, 0, addrL f us)] = L := ⟨_, rfl⟩
    have HK := Lib.hid (show HeldR L w W by rw [← hL]; exact ((HeldR.nil HB.out).addr H2.out).pref H1.out)
    have Mp := Lib.hid (show InP L w.heap.size f ps (n : Int) from ⟨by rw [← hL]; simp, HP.out⟩)
    have Ma := Lib.hid (show InA L w.heap.size f ps from ⟨by rw [← hL]; simp, HP.out⟩)
    have Mt3 := Lib.hid (show InA L (w.heap.size + 1) f us from ⟨by rw [← hL]; simp, HU.out⟩)
    have Cn := Lib.hid (bitsR Mp.out w)
    clear hL H1 H2 HB
    go_wp2_with fail
    go_loopw [5] (fun i wr => ∃ k : Nat, k ≤ n ∧ i = .int .i64 (k : Int) ∧ Hid (HeldR L w wr) ∧ Hid (∀ i : Nat, i < k → bitN f ps (i : Int) = bitN f us (i : Int))) (fun i _ => n - (intOf i).toNat)
    case atStart => exact ⟨0, by omega, rfl, HK, Lib.hid (fun i hi => absurd hi (by omega))⟩
    case round =>
      obtain ⟨k, hk, rfl, HS, HT⟩ := hrel
      clear HK f1 f2
      have hb17 := Cn.out wr HS.out
      by_cases hkn : k < n
      · have hd2 : decide ((k : Int) < (n : Int)) = true := by simp; omega
        have C1 : ∀ w', HeldR L w w' → Hid (Calls Try.prog 32 #[addrV f ps, .int .i64 (k : Int)] w' fun e w'' => e = .returned (.int .i64 ((bitN f ps (k : Int) : Nat) : Int)) ∧ Below w'.heap.size w' w'') := fun w' h => HC1 w' k (by omega)
        have C2 : ∀ w', HeldR L w w' → Hid (Calls Try.prog 32 #[addrV f us, .int .i64 (k : Int)] w' fun e w'' => e = .returned (.int .i64 ((bitN f us (k : Int) : Nat) : Int)) ∧ Below w'.heap.size w' w'') := fun w' h => HC2 w' k (by omega)
        have HXY : Hid (bitN f ps (k : Int) = bitN f ps (k : Int) ∧ bitN f us (k : Int) = bitN f us (k : Int)) := Lib.hid ⟨rfl, rfl⟩
        obtain ⟨x, hx⟩ : ∃ x, bitN f ps (k : Int) = x := ⟨_, rfl⟩
        obtain ⟨y, hy⟩ : ∃ y, bitN f us (k : Int) = y := ⟨_, rfl⟩
        rw [hx] at C1
        rw [hy] at C2
        have HX := Lib.hid hx
        have HY := Lib.hid hy
        clear hx hy HXY
        go_upto_region 6 with fail
        by_cases hxy : x = y
        · subst hxy
          have hd3 : ((x : Int) != (x : Int)) = false := by simp
          refine wp_region_noPanic ?_
          refine wp_region_held_drew (S := HeldR L w) (by kernel_rfl) HS.out.drew (fun hHeld => ?_)
          refine wpAnyH_take (i := 0) (v := ?_) rfl (by kernel_rfl) (by kernel_rfl) (by kernel_rfl) (fun _ _ _ h => h) (Or.inl ⟨by rfl, ?_⟩) (by assumption) ?_
          rotate_left
          · (intro w hSw; go_simp; try (with_reducible rfl))
          try simp only [Act.put, List.getElem_toArray, List.getElem_cons_zero, List.setIfInBounds_toArray, List.set_cons_zero, List.set_cons_succ]
          refine wpAnyH_take (i := 1) rfl (by kernel_rfl) (by kernel_rfl) (by kernel_rfl) (fun _ _ _ h => h) (yields_addr Ma (by rfl) _ rfl rfl) (by assumption) ?_
          try simp only [Act.put, List.getElem_toArray, List.getElem_cons_zero, List.getElem_cons_succ, List.setIfInBounds_toArray, List.set_cons_zero, List.set_cons_succ]
          refine wpAnyH_take (i := 2) (v := ?_) rfl (by kernel_rfl) (by kernel_rfl) (by kernel_rfl) (fun _ _ _ h => h) (Or.inl ⟨by rfl, ?_⟩) (by assumption) ?_
          rotate_left
          · (intro w hSw; go_simp; try (with_reducible rfl))
          try simp only [Act.put, List.getElem_toArray, List.getElem_cons_zero, List.getElem_cons_succ, List.setIfInBounds_toArray, List.set_cons_zero, List.set_cons_succ]
          refine wpAnyH_take (i := 4) rfl (by kernel_rfl) (by kernel_rfl) (by kernel_rfl) (fun _ _ _ h => h) (yields_addr Mt3 (by rfl) _ rfl rfl) (by assumption) ?_
          try simp only [Act.put, List.getElem_toArray, List.getElem_cons_zero, List.getElem_cons_succ, List.setIfInBounds_toArray, List.set_cons_zero, List.set_cons_succ]
          refine wpAnyH_take (i := 5) (v := ?_) rfl (by kernel_rfl) (by kernel_rfl) (by kernel_rfl) (fun _ _ _ h => h) (Or.inl ⟨by rfl, ?_⟩) (by assumption) ?_
          rotate_left
          · (intro w hSw; go_simp; try (with_reducible rfl))
          try simp only [Act.put, List.getElem_toArray, List.getElem_cons_zero, List.getElem_cons_succ, List.setIfInBounds_toArray, List.set_cons_zero, List.set_cons_succ]
          refine wpAnyH_ready (rs := [3]) (by kernel_rfl) (by simp) ?_
          refine AllReadyH.cons rfl (fun K hK => ?_) AllReadyH.nil
          go_simp
          refine (Calls.heldR (C1 _ (by assumption)).out (by assumption)).mono ?_
          rintro e wr3 ⟨rfl, hS3⟩
          go_wp2_with fail
          refine hK.out _ _ hS3 (fun hHeld => ?_)
          clear hK K
          try simp only [Act.put, List.getElem_toArray, List.getElem_cons_zero, List.getElem_cons_succ, List.setIfInBounds_toArray, List.set_cons_zero, List.set_cons_succ]
          refine wpAnyH_ready (rs := [6]) (by kernel_rfl) (by simp) ?_
          refine AllReadyH.cons rfl (fun K hK => ?_) AllReadyH.nil
          go_simp
          refine (Calls.heldR (C2 _ (by assumption)).out (by assumption)).mono ?_
          rintro e wr6 ⟨rfl, hS6⟩
          go_wp2_with fail
          refine hK.out _ _ hS6 (fun hHeld => ?_)
          clear hK K
          try simp only [Act.put, List.getElem_toArray, List.getElem_cons_zero, List.getElem_cons_succ, List.setIfInBounds_toArray, List.set_cons_zero, List.set_cons_succ]
          refine wpAnyH_take (i := 7) (v := ?_) rfl (by kernel_rfl) (by kernel_rfl) (by kernel_rfl) (fun _ _ _ h => h) (Or.inl ⟨by rfl, ?_⟩) (by assumption) ?_
          rotate_left
          · (intro w hSw; go_simp; try (with_reducible rfl))
          try simp only [Act.put, List.getElem_toArray, List.getElem_cons_zero, List.getElem_cons_succ, List.setIfInBounds_toArray, List.set_cons_zero, List.set_cons_succ]
          refine wpAnyH_done (by kernel_rfl) ?_ _
          refine NoPanic.normal ?_
          go_wp2_with fail
          go_roundw
          case rel => exact ⟨k + 1, by omega, by go_num, Lib.hid hHeld, Lib.hid (fun i hi => by
            by_cases e : i = k
            · subst e; rw [HX.out, HY.out]
            · exact HT.out i (by omega))⟩
          case measure => simp [intOf]; omega
        · have hd3 : ((x : Int) != (y : Int)) = true := by simp; omega
          have HE2 : Hid (false = R) := Lib.hid (by rw [← HE.out]; exact (decide_eq_false (fun h => hxy (by rw [← HX.out, ← HY.out]; exact h.2 k hkn))).symm)
          refine wp_region_noPanic ?_
          refine wp_region_held_drew (S := HeldR L w) (by kernel_rfl) HS.out.drew (fun hHeld => ?_)
          refine wpAnyH_take (i := 0) (v := ?_) rfl (by kernel_rfl) (by kernel_rfl) (by kernel_rfl) (fun _ _ _ h => h) (Or.inl ⟨by rfl, ?_⟩) (by assumption) ?_
          rotate_left
          · (intro w hSw; go_simp; try (with_reducible rfl))
          try simp only [Act.put, List.getElem_toArray, List.getElem_cons_zero, List.setIfInBounds_toArray, List.set_cons_zero, List.set_cons_succ]
          refine wpAnyH_take (i := 1) rfl (by kernel_rfl) (by kernel_rfl) (by kernel_rfl) (fun _ _ _ h => h) (yields_addr Ma (by rfl) _ rfl rfl) (by assumption) ?_
          try simp only [Act.put, List.getElem_toArray, List.getElem_cons_zero, List.getElem_cons_succ, List.setIfInBounds_toArray, List.set_cons_zero, List.set_cons_succ]
          refine wpAnyH_take (i := 2) (v := ?_) rfl (by kernel_rfl) (by kernel_rfl) (by kernel_rfl) (fun _ _ _ h => h) (Or.inl ⟨by rfl, ?_⟩) (by assumption) ?_
          rotate_left
          · (intro w hSw; go_simp; try (with_reducible rfl))
          try simp only [Act.put, List.getElem_toArray, List.getElem_cons_zero, List.getElem_cons_succ, List.setIfInBounds_toArray, List.set_cons_zero, List.set_cons_succ]
          refine wpAnyH_take (i := 4) rfl (by kernel_rfl) (by kernel_rfl) (by kernel_rfl) (fun _ _ _ h => h) (yields_addr Mt3 (by rfl) _ rfl rfl) (by assumption) ?_
          try simp only [Act.put, List.getElem_toArray, List.getElem_cons_zero, List.getElem_cons_succ, List.setIfInBounds_toArray, List.set_cons_zero, List.set_cons_succ]
          refine wpAnyH_take (i := 5) (v := ?_) rfl (by kernel_rfl) (by kernel_rfl) (by kernel_rfl) (fun _ _ _ h => h) (Or.inl ⟨by rfl, ?_⟩) (by assumption) ?_
          rotate_left
          · (intro w hSw; go_simp; try (with_reducible rfl))
          try simp only [Act.put, List.getElem_toArray, List.getElem_cons_zero, List.getElem_cons_succ, List.setIfInBounds_toArray, List.set_cons_zero, List.set_cons_succ]
          refine wpAnyH_ready (rs := [3]) (by kernel_rfl) (by simp) ?_
          refine AllReadyH.cons rfl (fun K hK => ?_) AllReadyH.nil
          go_simp
          refine (Calls.heldR (C1 _ (by assumption)).out (by assumption)).mono ?_
          rintro e wr3 ⟨rfl, hS3⟩
          go_wp2_with fail
          refine hK.out _ _ hS3 (fun hHeld => ?_)
          clear hK K
          try simp only [Act.put, List.getElem_toArray, List.getElem_cons_zero, List.getElem_cons_succ, List.setIfInBounds_toArray, List.set_cons_zero, List.set_cons_succ]
          refine wpAnyH_ready (rs := [6]) (by kernel_rfl) (by simp) ?_
          refine AllReadyH.cons rfl (fun K hK => ?_) AllReadyH.nil
          go_simp
          refine (Calls.heldR (C2 _ (by assumption)).out (by assumption)).mono ?_
          rintro e wr6 ⟨rfl, hS6⟩
          go_wp2_with fail
          refine hK.out _ _ hS6 (fun hHeld => ?_)
          clear hK K
          try simp only [Act.put, List.getElem_toArray, List.getElem_cons_zero, List.getElem_cons_succ, List.setIfInBounds_toArray, List.set_cons_zero, List.set_cons_succ]
          refine wpAnyH_take (i := 7) (v := ?_) rfl (by kernel_rfl) (by kernel_rfl) (by kernel_rfl) (fun _ _ _ h => h) (Or.inl ⟨by rfl, ?_⟩) (by assumption) ?_
          rotate_left
          · (intro w hSw; go_simp; try (with_reducible rfl))
          try simp only [Act.put, List.getElem_toArray, List.getElem_cons_zero, List.getElem_cons_succ, List.setIfInBounds_toArray, List.set_cons_zero, List.set_cons_succ]
          refine wpAnyH_done (by kernel_rfl) ?_ _
          refine NoPanic.normal ?_
          go_wp2_with fail
          go_ret
          exact ⟨by rw [← HE2.out]; rfl, hHeld.bel⟩
      · obtain rfl : k = n := by omega
        have hd2 : decide ((k : Int) < (k : Int)) = false := by simp
        have HE2 : Hid (true = R) := Lib.hid (by rw [← HE.out]; exact (decide_eq_true ⟨by trivial, HT.out⟩).symm)
        go_wp2_with fail
        go_ret
        exact ⟨by rw [← HE2.out]; rfl, HS.out.bel⟩
  · have hd : (f != g) = true := by simp [hfg]
    have HE2 : Hid (false = R) := Lib.hid (by rw [← HE.out]; exact (decide_eq_false (fun h => hfg h.1)).symm)
    go_wp2_with fail
    go_ret
    exact ⟨by rw [← HE2.out]; rfl, HB.out⟩
end Go.Proofs.Ytjpjobbmljlacaa
/- Contract of the reference's Find of layer 6. -/
namespace Go.Proofs.Ytjpjobbmljlacaa
open Go.RowKit
set_option linter.unusedVariables false
set_option maxRecDepth 20000

/-- The better one of two entries, where the second one has the address. -/
def betterE (g : Int) (us : List Nat) (o : Option Ent) (e : Ent) : Option Ent := if hasB e.f e.b e.n g us = true then (match o with | none => some e | some b => if b.n < e.n then some e else some b) else o
/-- An address's entry. -/
def findE (es : List Ent) (g : Int) (us : List Nat) : Option Ent := es.foldl (betterE g us) none
def entRet (o : Option Ent) : Value := match o with
  | some e => .tuple #[entV e.f e.b (e.n : Int) e.v, .bool true]
  | none => .tuple #[entV 0 (List.replicate 16 0) 0 0, .bool false]
theorem foldl_take {α β : Type} (f : β → α → β) (z : β) (l : List α) (k : Nat) (hk : k < l.length) : (l.take (k + 1)).foldl f z = f ((l.take k).foldl f z) l[k] := by
  rw [List.take_succ_eq_append_getElem hk, List.foldl_append]
  rfl
/-- Which index is the best one so far. -/
def BestI (es : List Ent) (o : Option Ent) (i : Int) (k : Nat) : Prop := (i = -1 ∧ o = none) ∨ ∃ (j : Nat) (h : j < es.length), i = (j : Int) ∧ j < k ∧ o = some es[j]
set_option maxRecDepth 100000 in
set_option maxHeartbeats 2000000 in
theorem refFind_any (v : Value) (es : List Ent) (f : Int) (us : List Nat) (w : World) (base : Nat) (hE : RowE w base v es) (h16 : us.length = 16) (hlt : ∀ x ∈ us, x < 256) :
    Calls Try.prog 16 #[v, addrV f us] w fun e w' => e = .returned (entRet (findE es f us)) ∧ Below w.heap.size w w' := by
  obtain ⟨R, eR⟩ : ∃ R, findE es f us = R := ⟨_, rfl⟩
  rw [eR]
  have HR := Lib.hid eR
  have H16 := Lib.hid h16
  have HLT := Lib.hid hlt
  have HLZ : Hid ((List.replicate 16 0).length = 16) := Lib.hid rfl
  have hlen := hE.2.2
  obtain ⟨cs, ecs, H1, HB⟩ := addr_boxed f us w h16
  have HZ := ent_zeroed (w.alloc (.cells cs 30))
  rw [heap_alloc] at HZ
  have HZH := Lib.hid HZ
  have H1a := Lib.hid (H1.out.alloc (.cells zE 47))
  have HBa := Lib.hid (HB.out.alloc HB.out.size (.cells zE 47))
  rw [ecs]
  clear ecs h16 eR HZ H1 HB hlt
  rcases hE.form with ⟨rfl, rfl⟩ | ⟨g, cap, rfl, hg1, hg2, hcap, hcap2, hrg⟩
  · have HN : Hid (R = none) := Lib.hid HR.out.symm
    clear hE
    go_enter Try.func16, Try.ntmps16
    go_upto_region 1 with fail
    generalize ((w.alloc (.cells cs 30)).alloc (.cells zE 47)) = W at *
    go_wp2_with fail
    go_loop [6, 7] (fun b i => i = .int .i64 0 ∧ b = .int .i64 (-1)) (fun _ _ => 0)
    case atStart => exact ⟨rfl, rfl⟩
    case round =>
      obtain ⟨rfl, rfl⟩ := hrel
      go_wp2_with (first | refine build_ent0 rfl rfl ?_ | refine store_ent HZH _ _ HLZ rfl rfl rfl rfl (fun W HW HP => ?_))
      refine bodyPost_ret (results_ent2 Try.results16 rfl HP.out) rfl ⟨by rw [HN.out]; rfl, by rw [HW.out]; exact below_cells (by omega) _ _ _ HBa.out⟩
  · go_enter Try.func16, Try.ntmps16
    go_upto_region 1 with fail
    generalize ((w.alloc (.cells cs 30)).alloc (.cells zE 47)) = W at *
    obtain ⟨L, hL⟩ : ∃ L, [(w.heap.size, 0, addrL f us), (g, 0, flatE es)] = L := ⟨_, rfl⟩
    have hrg2 : W.rangeAt g 0 (flatE es) := fun j u hu => by rw [HBa.out.cell (p := ⟨g, 0 + j, none⟩) hg2]; exact hrg j u hu
    have HK := Lib.hid (show HeldR L w W by rw [← hL]; exact ((HeldR.nil HBa.out).cons hrg2 (Nat.lt_of_lt_of_le hg2 HBa.out.size)).addr H1a.out)
    have Mt3 := Lib.hid (show InA L w.heap.size f us from ⟨by rw [← hL]; simp, H16.out⟩)
    have HME : Hid (∀ w', HeldR L w w' → w'.rangeAt g 0 (flatE es)) := Lib.hid (fun w' h => h.get (by rw [← hL]; simp))
    have HAG := Lib.hid hE.2.1
    have HRE : Hid ((es.take es.length).foldl (betterE f us) none = R) := Lib.hid (by rw [List.take_length]; exact HR.out)
    have HI0 : Hid (BestI es ((es.take 0).foldl (betterE f us) none) (-1) 0) := Lib.hid (.inl ⟨rfl, rfl⟩)
    clear hL H1a hrg hrg2 hE HR
    go_wp2_with fail
    go_loopw [6, 7] (fun b i wr => ∃ (k : Nat) (z : Int), k ≤ es.length ∧ i = .int .i64 (k : Int) ∧ b = .int .i64 z ∧ Hid (HeldR L w wr) ∧ Hid (EntAt wr (w.heap.size + 1) 0 (List.replicate 16 0) 0 0) ∧ Hid (BestI es ((es.take k).foldl (betterE f us) none) z k)) (fun _ i _ => es.length - (intOf i).toNat)
    case atStart => exact ⟨0, -1, Nat.zero_le _, rfl, rfl, HK, HZH, HI0⟩
    case round =>
      obtain ⟨k, z, hk, rfl, rfl, HS, HZ2, HI⟩ := hrel
      clear HK HI0 HZH
      by_cases hkl : k < es.length
      · have hd : decide ((k : Int) < (es.length : Int)) = true := by simp; omega
        have hdn : decide (k < es.length) = true := by simp; omega
        have hki : (k : Int) < (es.length : Int) := by omega
        obtain ⟨en, hen⟩ : ∃ en, es[k] = en := ⟨_, rfl⟩
        have hgd : en.Good := by rw [← hen]; exact HAG.out _ (List.getElem_mem hkl)
        have Mk := Lib.hid (show InPo L w g (k * 19) en.f en.b (en.n : Int) from ⟨fun w' h => range_pref (by rw [← hen]; exact range_ent (HME.out w' h) HAG.out k hkl), hgd.1.len⟩)
        have Ck := Lib.hid (show CellR L w g (k * 19 + 17) (.int .i64 (en.n : Int)) from fun w' h => by have := cell_bits (range_ent (HME.out w' h) HAG.out k hkl) (by rw [hen]; exact hgd.1.len); rw [hen] at this; exact this)
        have HST : Hid ((es.take (k + 1)).foldl (betterE f us) none = betterE f us ((es.take k).foldl (betterE f us) none) en) := Lib.hid (by rw [foldl_take _ _ _ _ hkl, hen])
        have HNN := bitsN_le en.f
        have hnle := hgd.1.le
        have HHC := fun W => Lib.hid (refHas_any en.f en.b en.n f us W hgd.1.len H16.out hgd.1.lt HLT.out (by omega))
        have HBE : Hid (∀ o, betterE f us o en = if hasB en.f en.b en.n f us = true then (match o with | none => some en | some b => if b.n < en.n then some en else some b) else o) := Lib.hid (fun _ => rfl)
        generalize hasB en.f en.b en.n f us = hb at *
        have C6 : ∀ w', HeldR L w w' → Hid (Calls Try.prog 17 #[prefV en.f en.b (en.n : Int), addrV f us] w' fun e w'' => e = .returned (.bool hb) ∧ Below w'.heap.size w' w'') := fun w' h => HHC w'
        have HEK : Hid (es[k] = en) := Lib.hid hen
        clear hen HHC hgd
        generalize (es.take k).foldl (betterE f us) none = o at *
        obtain ⟨o2, ho2⟩ : ∃ o2, (es.take (k + 1)).foldl (betterE f us) none = o2 := ⟨_, rfl⟩
        rw [ho2] at HST
        have HO2 := Lib.hid ho2
        clear ho2
        go_upto_region 5 with fail
        replace HZ2 := Lib.hid (HZ2.out.below (Below.refl _ _).drew)
        refine wp_region_noPanic ?_
        refine wp_region_held_drew (S := HeldR L w) (by kernel_rfl) HS.out.drew (fun hHeld => ?_)
        refine wpAnyH_take (i := 0) (v := ?_) rfl (by kernel_rfl) (by kernel_rfl) (by kernel_rfl) (fun _ _ _ h => h) (Or.inl ⟨by rfl, ?_⟩) (by assumption) ?_
        rotate_left
        · (intro w hSw; go_simp; try (with_reducible rfl))
        try simp only [Act.put, List.getElem_toArray, List.getElem_cons_zero, List.setIfInBounds_toArray, List.set_cons_zero, List.set_cons_succ]
        refine wpAnyH_take (i := 1) (v := ?_) rfl (by kernel_rfl) (by kernel_rfl) (by kernel_rfl) (fun _ _ _ h => h) (Or.inl ⟨by rfl, ?_⟩) (by assumption) ?_
        rotate_left
        · (intro w hSw; go_simp; try (with_reducible rfl))
        try simp only [Act.put, List.getElem_toArray, List.getElem_cons_zero, List.getElem_cons_succ, List.setIfInBounds_toArray, List.set_cons_zero, List.set_cons_succ]
        refine wpAnyH_take (i := 2) (v := ?_) rfl (by kernel_rfl) (by kernel_rfl) (by kernel_rfl) (fun _ _ _ h => h) (Or.inl ⟨by rfl, ?_⟩) (by assumption) ?_
        rotate_left
        · (intro w hSw; go_simp; try (with_reducible rfl))
        try simp only [Act.put, List.getElem_toArray, List.getElem_cons_zero, List.getElem_cons_succ, List.setIfInBounds_toArray, List.set_cons_zero, List.set_cons_succ]
        refine wpAnyH_take (i := 3) (v := ?_) rfl (by kernel_rfl) (by kernel_rfl) (by kernel_rfl) (fun _ _ _ h => h) (Or.inl ⟨by rfl, ?_⟩) (by assumption) ?_
        rotate_left
        · (intro w hSw; go_simp; try (with_reducible rfl))
        try simp only [Act.put, List.getElem_toArray, List.getElem_cons_zero, List.getElem_cons_succ, List.setIfInBounds_toArray, List.set_cons_zero, List.set_cons_succ]
        refine wpAnyH_take (i := 4) rfl (by kernel_rfl) (by kernel_rfl) (by kernel_rfl) (fun _ _ _ h => h) (yields_pref_o Mk (by rfl) _ rfl rfl) (by assumption) ?_
        try simp only [Act.put, List.getElem_toArray, List.getElem_cons_zero, List.getElem_cons_succ, List.setIfInBounds_toArray, List.set_cons_zero, List.set_cons_succ]
        refine wpAnyH_take (i := 5) rfl (by kernel_rfl) (by kernel_rfl) (by kernel_rfl) (fun _ _ _ h => h) (yields_addr Mt3 (by rfl) _ rfl rfl) (by assumption) ?_
        try simp only [Act.put, List.getElem_toArray, List.getElem_cons_zero, List.getElem_cons_succ, List.setIfInBounds_toArray, List.set_cons_zero, List.set_cons_succ]
        refine wpAnyH_ready (rs := [6]) (by kernel_rfl) (by simp) ?_
        refine AllReadyH.cons rfl (fun K hK => ?_) AllReadyH.nil
        go_simp
        refine (C6 _ (by assumption)).out.mono ?_
        rintro e wr6 ⟨rfl, hb6⟩
        replace HZ2 := Lib.hid (HZ2.out.below hb6)
        have hS6 := HeldR.next (by assumption) hb6
        clear hb6
        go_wp2_with fail
        refine hK.out _ _ hS6 (fun hHeld => ?_)
        clear hK K
        try simp only [Act.put, List.getElem_toArray, List.getElem_cons_zero, List.getElem_cons_succ, List.setIfInBounds_toArray, List.set_cons_zero, List.set_cons_succ]
        refine wpAnyH_take (i := 7) (v := ?_) rfl (by kernel_rfl) (by kernel_rfl) (by kernel_rfl) (fun _ _ _ h => h) (Or.inl ⟨by rfl, ?_⟩) (by assumption) ?_
        rotate_left
        · (intro w hSw; go_simp; try (with_reducible rfl))
        try simp only [Act.put, List.getElem_toArray, List.getElem_cons_zero, List.getElem_cons_succ, List.setIfInBounds_toArray, List.set_cons_zero, List.set_cons_succ]
        refine wpAnyH_done (by kernel_rfl) ?_ _
        refine NoPanic.normal ?_
        clear C6
        go_upto_region 6 with fail
        replace HZ2 := Lib.hid (HZ2.out.below (Below.refl _ _).drew)
        cases hb with
        | false =>
          have HO : Hid (o2 = o) := Lib.hid (by rw [HST.out, HBE.out]; rfl)
          refine wp_region_noPanic ?_
          refine wp_region_held_drew (S := HeldR L w) (by kernel_rfl) hHeld.drew (fun hHeld2 => ?_)
          refine wpAnyH_take (i := 0) (v := ?_) rfl (by kernel_rfl) (by kernel_rfl) (by kernel_rfl) (fun _ _ _ h => h) (Or.inl ⟨by rfl, ?_⟩) (by assumption) ?_
          rotate_left
          · (intro w hSw; go_simp; try (with_reducible rfl))
          try simp only [Act.put, List.getElem_toArray, List.getElem_cons_zero, List.setIfInBounds_toArray, List.set_cons_zero, List.set_cons_succ]
          refine wpAnyH_take (i := 1) (v := ?_) rfl (by kernel_rfl) (by kernel_rfl) (by kernel_rfl) (fun _ _ _ h => h) (Or.inl ⟨by rfl, ?_⟩) (by assumption) ?_
          rotate_left
          · (intro w hSw; go_simp; try (with_reducible rfl))
          try simp only [Act.put, List.getElem_toArray, List.getElem_cons_zero, List.getElem_cons_succ, List.setIfInBounds_toArray, List.set_cons_zero, List.set_cons_succ]
          refine wpAnyH_take (i := 2) (v := undef) rfl (by kernel_rfl) (by kernel_rfl) (by kernel_rfl) (fun _ _ _ h => h) (Or.inr ⟨by rfl, rfl⟩) (by assumption) ?_
          try simp only [Act.put, List.getElem_toArray, List.getElem_cons_zero, List.getElem_cons_succ, List.setIfInBounds_toArray, List.set_cons_zero, List.set_cons_succ]
          refine wpAnyH_take (i := 3) (v := undef) rfl (by kernel_rfl) (by kernel_rfl) (by kernel_rfl) (fun _ _ _ h => h) (Or.inr ⟨by rfl, rfl⟩) (by assumption) ?_
          try simp only [Act.put, List.getElem_toArray, List.getElem_cons_zero, List.getElem_cons_succ, List.setIfInBounds_toArray, List.set_cons_zero, List.set_cons_succ]
          refine wpAnyH_take (i := 4) (v := undef) rfl (by kernel_rfl) (by kernel_rfl) (by kernel_rfl) (fun _ _ _ h => h) (Or.inr ⟨by rfl, rfl⟩) (by assumption) ?_
          try simp only [Act.put, List.getElem_toArray, List.getElem_cons_zero, List.getElem_cons_succ, List.setIfInBounds_toArray, List.set_cons_zero, List.set_cons_succ]
          refine wpAnyH_take (i := 5) (v := undef) rfl (by kernel_rfl) (by kernel_rfl) (by kernel_rfl) (fun _ _ _ h => h) (Or.inr ⟨by rfl, rfl⟩) (by assumption) ?_
          try simp only [Act.put, List.getElem_toArray, List.getElem_cons_zero, List.getElem_cons_succ, List.setIfInBounds_toArray, List.set_cons_zero, List.set_cons_succ]
          refine wpAnyH_take (i := 6) (v := undef) rfl (by kernel_rfl) (by kernel_rfl) (by kernel_rfl) (fun _ _ _ h => h) (Or.inr ⟨by rfl, rfl⟩) (by assumption) ?_
          try simp only [Act.put, List.getElem_toArray, List.getElem_cons_zero, List.getElem_cons_succ, List.setIfInBounds_toArray, List.set_cons_zero, List.set_cons_succ]
          refine wpAnyH_take (i := 7) (v := undef) rfl (by kernel_rfl) (by kernel_rfl) (by kernel_rfl) (fun _ _ _ h => h) (Or.inr ⟨by rfl, rfl⟩) (by assumption) ?_
          try simp only [Act.put, List.getElem_toArray, List.getElem_cons_zero, List.getElem_cons_succ, List.setIfInBounds_toArray, List.set_cons_zero, List.set_cons_succ]
          refine wpAnyH_take (i := 8) (v := undef) rfl (by kernel_rfl) (by kernel_rfl) (by kernel_rfl) (fun _ _ _ h => h) (Or.inr ⟨by rfl, rfl⟩) (by assumption) ?_
          try simp only [Act.put, List.getElem_toArray, List.getElem_cons_zero, List.getElem_cons_succ, List.setIfInBounds_toArray, List.set_cons_zero, List.set_cons_succ]
          refine wpAnyH_take (i := 9) (v := undef) rfl (by kernel_rfl) (by kernel_rfl) (by kernel_rfl) (fun _ _ _ h => h) (Or.inr ⟨by rfl, rfl⟩) (by assumption) ?_
          try simp only [Act.put, List.getElem_toArray, List.getElem_cons_zero, List.getElem_cons_succ, List.setIfInBounds_toArray, List.set_cons_zero, List.set_cons_succ]
          refine wpAnyH_take (i := 10) (v := undef) rfl (by kernel_rfl) (by kernel_rfl) (by kernel_rfl) (fun _ _ _ h => h) (Or.inr ⟨by rfl, rfl⟩) (by assumption) ?_
          try simp only [Act.put, List.getElem_toArray, List.getElem_cons_zero, List.getElem_cons_succ, List.setIfInBounds_toArray, List.set_cons_zero, List.set_cons_succ]
          refine wpAnyH_take (i := 11) (v := undef) rfl (by kernel_rfl) (by kernel_rfl) (by kernel_rfl) (fun _ _ _ h => h) (Or.inr ⟨by rfl, rfl⟩) (by assumption) ?_
          try simp only [Act.put, List.getElem_toArray, List.getElem_cons_zero, List.getElem_cons_succ, List.setIfInBounds_toArray, List.set_cons_zero, List.set_cons_succ]
          refine wpAnyH_take (i := 12) (v := undef) rfl (by kernel_rfl) (by kernel_rfl) (by kernel_rfl) (fun _ _ _ h => h) (Or.inr ⟨by rfl, rfl⟩) (by assumption) ?_
          try simp only [Act.put, List.getElem_toArray, List.getElem_cons_zero, List.getElem_cons_succ, List.setIfInBounds_toArray, List.set_cons_zero, List.set_cons_succ]
          refine wpAnyH_take (i := 13) (v := undef) rfl (by kernel_rfl) (by kernel_rfl) (by kernel_rfl) (fun _ _ _ h => h) (Or.inr ⟨by rfl, rfl⟩) (by assumption) ?_
          try simp only [Act.put, List.getElem_toArray, List.getElem_cons_zero, List.getElem_cons_succ, List.setIfInBounds_toArray, List.set_cons_zero, List.set_cons_succ]
          refine wpAnyH_take (i := 14) (v := undef) rfl (by kernel_rfl) (by kernel_rfl) (by kernel_rfl) (fun _ _ _ h => h) (Or.inr ⟨by rfl, rfl⟩) (by assumption) ?_
          try simp only [Act.put, List.getElem_toArray, List.getElem_cons_zero, List.getElem_cons_succ, List.setIfInBounds_toArray, List.set_cons_zero, List.set_cons_succ]
          refine wpAnyH_take (i := 15) (v := undef) rfl (by kernel_rfl) (by kernel_rfl) (by kernel_rfl) (fun _ _ _ h => h) (Or.inr ⟨by rfl, rfl⟩) (by assumption) ?_
          try simp only [Act.put, List.getElem_toArray, List.getElem_cons_zero, List.getElem_cons_succ, List.setIfInBounds_toArray, List.set_cons_zero, List.set_cons_succ]
          refine wpAnyH_take (i := 16) (v := undef) rfl (by kernel_rfl) (by kernel_rfl) (by kernel_rfl) (fun _ _ _ h => h) (Or.inr ⟨by rfl, rfl⟩) (by assumption) ?_
          try simp only [Act.put, List.getElem_toArray, List.getElem_cons_zero, List.getElem_cons_succ, List.setIfInBounds_toArray, List.set_cons_zero, List.set_cons_succ]
          refine wpAnyH_take (i := 17) (v := undef) rfl (by kernel_rfl) (by kernel_rfl) (by kernel_rfl) (fun _ _ _ h => h) (Or.inr ⟨by rfl, rfl⟩) (by assumption) ?_
          try simp only [Act.put, List.getElem_toArray, List.getElem_cons_zero, List.getElem_cons_succ, List.setIfInBounds_toArray, List.set_cons_zero, List.set_cons_succ]
          refine wpAnyH_take (i := 18) (v := undef) rfl (by kernel_rfl) (by kernel_rfl) (by kernel_rfl) (fun _ _ _ h => h) (Or.inr ⟨by rfl, rfl⟩) (by assumption) ?_
          try simp only [Act.put, List.getElem_toArray, List.getElem_cons_zero, List.getElem_cons_succ, List.setIfInBounds_toArray, List.set_cons_zero, List.set_cons_succ]
          refine wpAnyH_take (i := 19) (v := ?_) rfl (by kernel_rfl) (by kernel_rfl) (by kernel_rfl) (fun _ _ _ h => h) (Or.inl ⟨by rfl, ?_⟩) (by assumption) ?_
          rotate_left
          · (intro w hSw; go_simp; try (with_reducible rfl))
          try simp only [Act.put, List.getElem_toArray, List.getElem_cons_zero, List.getElem_cons_succ, List.setIfInBounds_toArray, List.set_cons_zero, List.set_cons_succ]
          refine wpAnyH_done (by kernel_rfl) ?_ _
          refine NoPanic.normal ?_
          go_wp2_with fail
          go_roundw
          case rel => exact ⟨k + 1, z, by omega, by go_num, rfl, Lib.hid hHeld2, HZ2, Lib.hid (by
            rw [HO2.out, HO.out]
            rcases HI.out with h | ⟨j, hj, h1, h2, h3⟩
            · exact .inl h
            · exact .inr ⟨j, hj, h1, by omega, h3⟩)⟩
          case measure => simp [intOf]; omega
        | true =>
          rcases HI.out with ⟨hz, ho⟩ | ⟨j, hj, hz, hjk, ho⟩
          · subst hz
            have HO : Hid (o2 = some en) := Lib.hid (by rw [HST.out, HBE.out, ho]; rfl)
            clear ho HI
            refine wp_region_noPanic ?_
            refine wp_region_held_drew (S := HeldR L w) (by kernel_rfl) hHeld.drew (fun hHeld2 => ?_)
            refine wpAnyH_take (i := 0) (v := ?_) rfl (by kernel_rfl) (by kernel_rfl) (by kernel_rfl) (fun _ _ _ h => h) (Or.inl ⟨by rfl, ?_⟩) (by assumption) ?_
            rotate_left
            · (intro w hSw; go_simp; try (with_reducible rfl))
            try simp only [Act.put, List.getElem_toArray, List.getElem_cons_zero, List.setIfInBounds_toArray, List.set_cons_zero, List.set_cons_succ]
            refine wpAnyH_take (i := 1) (v := ?_) rfl (by kernel_rfl) (by kernel_rfl) (by kernel_rfl) (fun _ _ _ h => h) (Or.inl ⟨by rfl, ?_⟩) (by assumption) ?_
            rotate_left
            · (intro w hSw; go_simp; try (with_reducible rfl))
            try simp only [Act.put, List.getElem_toArray, List.getElem_cons_zero, List.getElem_cons_succ, List.setIfInBounds_toArray, List.set_cons_zero, List.set_cons_succ]
            refine wpAnyH_take (i := 2) (v := ?_) rfl (by kernel_rfl) (by kernel_rfl) (by kernel_rfl) (fun _ _ _ h => h) (Or.inl ⟨by rfl, ?_⟩) (by assumption) ?_
            rotate_left
            · (intro w hSw; go_simp; try (with_reducible rfl))
            try simp only [Act.put, List.getElem_toArray, List.getElem_cons_zero, List.getElem_cons_succ, List.setIfInBounds_toArray, List.set_cons_zero, List.set_cons_succ]
            refine wpAnyH_take (i := 3) (v := ?_) rfl (by kernel_rfl) (by kernel_rfl) (by kernel_rfl) (fun _ _ _ h => h) (Or.inl ⟨by rfl, ?_⟩) (by assumption) ?_
            rotate_left
            · (intro w hSw; go_simp; try (with_reducible rfl))
            try simp only [Act.put, List.getElem_toArray, List.getElem_cons_zero, List.getElem_cons_succ, List.setIfInBounds_toArray, List.set_cons_zero, List.set_cons_succ]
            refine wpAnyH_take (i := 4) (v := ?_) rfl (by kernel_rfl) (by kernel_rfl) (by kernel_rfl) (fun _ _ _ h => h) (Or.inl ⟨by rfl, ?_⟩) (by assumption) ?_
            rotate_left
            · (intro w hSw; go_simp; try (with_reducible rfl))
            try simp only [Act.put, List.getElem_toArray, List.getElem_cons_zero, List.getElem_cons_succ, List.setIfInBounds_toArray, List.set_cons_zero, List.set_cons_succ]
            refine wpAnyH_take (i := 5) (v := undef) rfl (by kernel_rfl) (by kernel_rfl) (by kernel_rfl) (fun _ _ _ h => h) (Or.inr ⟨by rfl, rfl⟩) (by assumption) ?_
            try simp only [Act.put, List.getElem_toArray, List.getElem_cons_zero, List.getElem_cons_succ, List.setIfInBounds_toArray, List.set_cons_zero, List.set_cons_succ]
            refine wpAnyH_take (i := 6) (v := undef) rfl (by kernel_rfl) (by kernel_rfl) (by kernel_rfl) (fun _ _ _ h => h) (Or.inr ⟨by rfl, rfl⟩) (by assumption) ?_
            try simp only [Act.put, List.getElem_toArray, List.getElem_cons_zero, List.getElem_cons_succ, List.setIfInBounds_toArray, List.set_cons_zero, List.set_cons_succ]
            refine wpAnyH_take (i := 7) (v := undef) rfl (by kernel_rfl) (by kernel_rfl) (by kernel_rfl) (fun _ _ _ h => h) (Or.inr ⟨by rfl, rfl⟩) (by assumption) ?_
            try simp only [Act.put, List.getElem_toArray, List.getElem_cons_zero, List.getElem_cons_succ, List.setIfInBounds_toArray, List.set_cons_zero, List.set_cons_succ]
            refine wpAnyH_take (i := 8) (v := undef) rfl (by kernel_rfl) (by kernel_rfl) (by kernel_rfl) (fun _ _ _ h => h) (Or.inr ⟨by rfl, rfl⟩) (by assumption) ?_
            try simp only [Act.put, List.getElem_toArray, List.getElem_cons_zero, List.getElem_cons_succ, List.setIfInBounds_toArray, List.set_cons_zero, List.set_cons_succ]
            refine wpAnyH_take (i := 9) (v := undef) rfl (by kernel_rfl) (by kernel_rfl) (by kernel_rfl) (fun _ _ _ h => h) (Or.inr ⟨by rfl, rfl⟩) (by assumption) ?_
            try simp only [Act.put, List.getElem_toArray, List.getElem_cons_zero, List.getElem_cons_succ, List.setIfInBounds_toArray, List.set_cons_zero, List.set_cons_succ]
            refine wpAnyH_take (i := 10) (v := undef) rfl (by kernel_rfl) (by kernel_rfl) (by kernel_rfl) (fun _ _ _ h => h) (Or.inr ⟨by rfl, rfl⟩) (by assumption) ?_
            try simp only [Act.put, List.getElem_toArray, List.getElem_cons_zero, List.getElem_cons_succ, List.setIfInBounds_toArray, List.set_cons_zero, List.set_cons_succ]
            refine wpAnyH_take (i := 11) (v := undef) rfl (by kernel_rfl) (by kernel_rfl) (by kernel_rfl) (fun _ _ _ h => h) (Or.inr ⟨by rfl, rfl⟩) (by assumption) ?_
            try simp only [Act.put, List.getElem_toArray, List.getElem_cons_zero, List.getElem_cons_succ, List.setIfInBounds_toArray, List.set_cons_zero, List.set_cons_succ]
            refine wpAnyH_take (i := 12) (v := undef) rfl (by kernel_rfl) (by kernel_rfl) (by kernel_rfl) (fun _ _ _ h => h) (Or.inr ⟨by rfl, rfl⟩) (by assumption) ?_
            try simp only [Act.put, List.getElem_toArray, List.getElem_cons_zero, List.getElem_cons_succ, List.setIfInBounds_toArray, List.set_cons_zero, List.set_cons_succ]
            refine wpAnyH_take (i := 13) (v := undef) rfl (by kernel_rfl) (by kernel_rfl) (by kernel_rfl) (fun _ _ _ h => h) (Or.inr ⟨by rfl, rfl⟩) (by assumption) ?_
            try simp only [Act.put, List.getElem_toArray, List.getElem_cons_zero, List.getElem_cons_succ, List.setIfInBounds_toArray, List.set_cons_zero, List.set_cons_succ]
            refine wpAnyH_take (i := 14) (v := undef) rfl (by kernel_rfl) (by kernel_rfl) (by kernel_rfl) (fun _ _ _ h => h) (Or.inr ⟨by rfl, rfl⟩) (by assumption) ?_
            try simp only [Act.put, List.getElem_toArray, List.getElem_cons_zero, List.getElem_cons_succ, List.setIfInBounds_toArray, List.set_cons_zero, List.set_cons_succ]
            refine wpAnyH_take (i := 15) (v := undef) rfl (by kernel_rfl) (by kernel_rfl) (by kernel_rfl) (fun _ _ _ h => h) (Or.inr ⟨by rfl, rfl⟩) (by assumption) ?_
            try simp only [Act.put, List.getElem_toArray, List.getElem_cons_zero, List.getElem_cons_succ, List.setIfInBounds_toArray, List.set_cons_zero, List.set_cons_succ]
            refine wpAnyH_take (i := 16) (v := undef) rfl (by kernel_rfl) (by kernel_rfl) (by kernel_rfl) (fun _ _ _ h => h) (Or.inr ⟨by rfl, rfl⟩) (by assumption) ?_
            try simp only [Act.put, List.getElem_toArray, List.getElem_cons_zero, List.getElem_cons_succ, List.setIfInBounds_toArray, List.set_cons_zero, List.set_cons_succ]
            refine wpAnyH_take (i := 17) (v := undef) rfl (by kernel_rfl) (by kernel_rfl) (by kernel_rfl) (fun _ _ _ h => h) (Or.inr ⟨by rfl, rfl⟩) (by assumption) ?_
            try simp only [Act.put, List.getElem_toArray, List.getElem_cons_zero, List.getElem_cons_succ, List.setIfInBounds_toArray, List.set_cons_zero, List.set_cons_succ]
            refine wpAnyH_take (i := 18) (v := ?_) rfl (by kernel_rfl) (by kernel_rfl) (by kernel_rfl) (fun _ _ _ h => h) (Or.inl ⟨by rfl, ?_⟩) (by assumption) ?_
            rotate_left
            · (intro w hSw; go_simp; try (with_reducible rfl))
            try simp only [Act.put, List.getElem_toArray, List.getElem_cons_zero, List.getElem_cons_succ, List.setIfInBounds_toArray, List.set_cons_zero, List.set_cons_succ]
            refine wpAnyH_take (i := 19) (v := ?_) rfl (by kernel_rfl) (by kernel_rfl) (by kernel_rfl) (fun _ _ _ h => h) (Or.inl ⟨by rfl, ?_⟩) (by assumption) ?_
            rotate_left
            · (intro w hSw; go_simp; try (with_reducible rfl))
            try simp only [Act.put, List.getElem_toArray, List.getElem_cons_zero, List.getElem_cons_succ, List.setIfInBounds_toArray, List.set_cons_zero, List.set_cons_succ]
            refine wpAnyH_done (by kernel_rfl) ?_ _
            refine NoPanic.normal ?_
            go_wp2_with fail
            go_roundw
            case rel => exact ⟨k + 1, (k : Int), by omega, by go_num, rfl, Lib.hid hHeld2, HZ2, Lib.hid (by rw [HO2.out, HO.out]; exact .inr ⟨k, hkl, rfl, by omega, by rw [HEK.out]⟩)⟩
            case measure => simp [intOf]; omega
          · subst hz
            obtain ⟨ej, hej⟩ : ∃ ej, es[j] = ej := ⟨_, rfl⟩
            have hgj : ej.b.length = 16 := by rw [← hej]; exact (HAG.out _ (List.getElem_mem hj)).1.len
            have Cj := Lib.hid (show CellR L w g (j * 19 + 17) (.int .i64 (ej.n : Int)) from fun w' h => by have := cell_bits (range_ent (HME.out w' h) HAG.out j hj) (by rw [hej]; exact hgj); rw [hej] at this; exact this)
            have hji : (j : Int) < (es.length : Int) := by omega
            have hj0 : decide ((j : Int) < 0) = false := by simp
            have HEJ := Lib.hid hej
            have HOJ : Hid (o = some ej) := Lib.hid (by rw [ho, hej])
            clear ho HI hej hgj
            by_cases hlt : ej.n < en.n
            · have hd3 : decide ((ej.n : Int) < (en.n : Int)) = true := by simp; omega
              have hd3n : decide (ej.n < en.n) = true := by simp; omega
              have HO : Hid (o2 = some en) := Lib.hid (by rw [HST.out, HBE.out, HOJ.out]; simp [hlt])
              refine wp_region_noPanic ?_
              refine wp_region_held_drew (S := HeldR L w) (by kernel_rfl) hHeld.drew (fun hHeld2 => ?_)
              refine wpAnyH_take (i := 0) (v := ?_) rfl (by kernel_rfl) (by kernel_rfl) (by kernel_rfl) (fun _ _ _ h => h) (Or.inl ⟨by rfl, ?_⟩) (by assumption) ?_
              rotate_left
              · (intro w hSw; go_simp; try (with_reducible rfl))
              try simp only [Act.put, List.getElem_toArray, List.getElem_cons_zero, List.setIfInBounds_toArray, List.set_cons_zero, List.set_cons_succ]
              refine wpAnyH_take (i := 1) (v := ?_) rfl (by kernel_rfl) (by kernel_rfl) (by kernel_rfl) (fun _ _ _ h => h) (Or.inl ⟨by rfl, ?_⟩) (by assumption) ?_
              rotate_left
              · (intro w hSw; go_simp; try (with_reducible rfl))
              try simp only [Act.put, List.getElem_toArray, List.getElem_cons_zero, List.getElem_cons_succ, List.setIfInBounds_toArray, List.set_cons_zero, List.set_cons_succ]
              refine wpAnyH_take (i := 2) (v := ?_) rfl (by kernel_rfl) (by kernel_rfl) (by kernel_rfl) (fun _ _ _ h => h) (Or.inl ⟨by rfl, ?_⟩) (by assumption) ?_
              rotate_left
              · (intro w hSw; go_simp; try (with_reducible rfl))
              try simp only [Act.put, List.getElem_toArray, List.getElem_cons_zero, List.getElem_cons_succ, List.setIfInBounds_toArray, List.set_cons_zero, List.set_cons_succ]
              refine wpAnyH_take (i := 3) (v := ?_) rfl (by kernel_rfl) (by kernel_rfl) (by kernel_rfl) (fun _ _ _ h => h) (Or.inl ⟨by rfl, ?_⟩) (by assumption) ?_
              rotate_left
              · (intro w hSw; go_simp; try (with_reducible rfl))
              try simp only [Act.put, List.getElem_toArray, List.getElem_cons_zero, List.getElem_cons_succ, List.setIfInBounds_toArray, List.set_cons_zero, List.set_cons_succ]
              refine wpAnyH_take (i := 4) (v := ?_) rfl (by kernel_rfl) (by kernel_rfl) (by kernel_rfl) (fun _ _ _ h => h) (Or.inl ⟨by rfl, ?_⟩) (by assumption) ?_
              rotate_left
              · (intro w hSw; go_simp; try (with_reducible rfl))
              try simp only [Act.put, List.getElem_toArray, List.getElem_cons_zero, List.getElem_cons_succ, List.setIfInBounds_toArray, List.set_cons_zero, List.set_cons_succ]
              refine wpAnyH_take (i := 5) (v := ?_) rfl (by kernel_rfl) (by kernel_rfl) (by kernel_rfl) (fun _ _ _ h => h) (Or.inl ⟨by rfl, ?_⟩) (by assumption) ?_
              rotate_left
              · (intro w hSw; go_simp; try (with_reducible rfl))
              try simp only [Act.put, List.getElem_toArray, List.getElem_cons_zero, List.getElem_cons_succ, List.setIfInBounds_toArray, List.set_cons_zero, List.set_cons_succ]
              refine wpAnyH_take (i := 6) (v := ?_) rfl (by kernel_rfl) (by kernel_rfl) (by kernel_rfl) (fun _ _ _ h => h) (Or.inl ⟨by rfl, ?_⟩) (by assumption) ?_
              rotate_left
              · (intro w hSw; go_simp; try (with_reducible rfl))
              try simp only [Act.put, List.getElem_toArray, List.getElem_cons_zero, List.getElem_cons_succ, List.setIfInBounds_toArray, List.set_cons_zero, List.set_cons_succ]
              refine wpAnyH_take (i := 7) (v := ?_) rfl (by kernel_rfl) (by kernel_rfl) (by kernel_rfl) (fun _ _ _ h => h) (Or.inl ⟨by rfl, ?_⟩) (by assumption) ?_
              rotate_left
              · (intro w hSw; go_simp; try (with_reducible rfl))
              try simp only [Act.put, List.getElem_toArray, List.getElem_cons_zero, List.getElem_cons_succ, List.setIfInBounds_toArray, List.set_cons_zero, List.set_cons_succ]
              refine wpAnyH_take (i := 8) (v := ?_) rfl (by kernel_rfl) (by kernel_rfl) (by kernel_rfl) (fun _ _ _ h => h) (Or.inl ⟨by rfl, ?_⟩) (by assumption) ?_
              rotate_left
              · (intro w hSw; go_simp; try (with_reducible rfl))
              try simp only [Act.put, List.getElem_toArray, List.getElem_cons_zero, List.getElem_cons_succ, List.setIfInBounds_toArray, List.set_cons_zero, List.set_cons_succ]
              refine wpAnyH_take (i := 9) (v := ?_) rfl (by kernel_rfl) (by kernel_rfl) (by kernel_rfl) (fun _ _ _ h => h) (Or.inl ⟨by rfl, ?_⟩) (by assumption) ?_
              rotate_left
              · (intro w hSw; go_simp; try (with_reducible rfl))
              try simp only [Act.put, List.getElem_toArray, List.getElem_cons_zero, List.getElem_cons_succ, List.setIfInBounds_toArray, List.set_cons_zero, List.set_cons_succ]
              refine wpAnyH_take (i := 10) (v := ?_) rfl (by kernel_rfl) (by kernel_rfl) (by kernel_rfl) (fun _ _ _ h => h) (Or.inl ⟨by rfl, ?_⟩) (by assumption) ?_
              rotate_left
              · (intro w hSw; have hc0 := Ck.out w hSw; go_simp; try (with_reducible rfl))
              try simp only [Act.put, List.getElem_toArray, List.getElem_cons_zero, List.getElem_cons_succ, List.setIfInBounds_toArray, List.set_cons_zero, List.set_cons_succ]
              refine wpAnyH_take (i := 11) (v := ?_) rfl (by kernel_rfl) (by kernel_rfl) (by kernel_rfl) (fun _ _ _ h => h) (Or.inl ⟨by rfl, ?_⟩) (by assumption) ?_
              rotate_left
              · (intro w hSw; go_simp; try (with_reducible rfl))
              try simp only [Act.put, List.getElem_toArray, List.getElem_cons_zero, List.getElem_cons_succ, List.setIfInBounds_toArray, List.set_cons_zero, List.set_cons_succ]
              refine wpAnyH_take (i := 12) (v := ?_) rfl (by kernel_rfl) (by kernel_rfl) (by kernel_rfl) (fun _ _ _ h => h) (Or.inl ⟨by rfl, ?_⟩) (by assumption) ?_
              rotate_left
              · (intro w hSw; go_simp; try (with_reducible rfl))
              try simp only [Act.put, List.getElem_toArray, List.getElem_cons_zero, List.getElem_cons_succ, List.setIfInBounds_toArray, List.set_cons_zero, List.set_cons_succ]
              refine wpAnyH_take (i := 13) (v := ?_) rfl (by kernel_rfl) (by kernel_rfl) (by kernel_rfl) (fun _ _ _ h => h) (Or.inl ⟨by rfl, ?_⟩) (by assumption) ?_
              rotate_left
              · (intro w hSw; go_simp; try (with_reducible rfl))
              try simp only [Act.put, List.getElem_toArray, List.getElem_cons_zero, List.getElem_cons_succ, List.setIfInBounds_toArray, List.set_cons_zero, List.set_cons_succ]
              refine wpAnyH_take (i := 14) (v := ?_) rfl (by kernel_rfl) (by kernel_rfl) (by kernel_rfl) (fun _ _ _ h => h) (Or.inl ⟨by rfl, ?_⟩) (by assumption) ?_
              rotate_left
              · (intro w hSw; go_simp; try (with_reducible rfl))
              try simp only [Act.put, List.getElem_toArray, List.getElem_cons_zero, List.getElem_cons_succ, List.setIfInBounds_toArray, List.set_cons_zero, List.set_cons_succ]
              refine wpAnyH_take (i := 15) (v := ?_) rfl (by kernel_rfl) (by kernel_rfl) (by kernel_rfl) (fun _ _ _ h => h) (Or.inl ⟨by rfl, ?_⟩) (by assumption) ?_
              rotate_left
              · (intro w hSw; go_simp; try (with_reducible rfl))
              try simp only [Act.put, List.getElem_toArray, List.getElem_cons_zero, List.getElem_cons_succ, List.setIfInBounds_toArray, List.set_cons_zero, List.set_cons_succ]
              refine wpAnyH_take (i := 16) (v := ?_) rfl (by kernel_rfl) (by kernel_rfl) (by kernel_rfl) (fun _ _ _ h => h) (Or.inl ⟨by rfl, ?_⟩) (by assumption) ?_
              rotate_left
              · (intro w hSw; have hc0 := Cj.out w hSw; go_simp; try (with_reducible rfl))
              try simp only [Act.put, List.getElem_toArray, List.getElem_cons_zero, List.getElem_cons_succ, List.setIfInBounds_toArray, List.set_cons_zero, List.set_cons_succ]
              refine wpAnyH_take (i := 17) (v := ?_) rfl (by kernel_rfl) (by kernel_rfl) (by kernel_rfl) (fun _ _ _ h => h) (Or.inl ⟨by rfl, ?_⟩) (by assumption) ?_
              rotate_left
              · (intro w hSw; go_simp; try (with_reducible rfl))
              try simp only [Act.put, List.getElem_toArray, List.getElem_cons_zero, List.getElem_cons_succ, List.setIfInBounds_toArray, List.set_cons_zero, List.set_cons_succ]
              refine wpAnyH_take (i := 18) (v := ?_) rfl (by kernel_rfl) (by kernel_rfl) (by kernel_rfl) (fun _ _ _ h => h) (Or.inl ⟨by rfl, ?_⟩) (by assumption) ?_
              rotate_left
              · (intro w hSw; go_simp; try (with_reducible rfl))
              try simp only [Act.put, List.getElem_toArray, List.getElem_cons_zero, List.getElem_cons_succ, List.setIfInBounds_toArray, List.set_cons_zero, List.set_cons_succ]
              refine wpAnyH_take (i := 19) (v := ?_) rfl (by kernel_rfl) (by kernel_rfl) (by kernel_rfl) (fun _ _ _ h => h) (Or.inl ⟨by rfl, ?_⟩) (by assumption) ?_
              rotate_left
              · (intro w hSw; go_simp; try (with_reducible rfl))
              try simp only [Act.put, List.getElem_toArray, List.getElem_cons_zero, List.getElem_cons_succ, List.setIfInBounds_toArray, List.set_cons_zero, List.set_cons_succ]
              refine wpAnyH_done (by kernel_rfl) ?_ _
              refine NoPanic.normal ?_
              go_wp2_with fail
              go_roundw
              case rel => exact ⟨k + 1, (k : Int), by omega, by go_num, rfl, Lib.hid hHeld2, HZ2, Lib.hid (by rw [HO2.out, HO.out]; exact .inr ⟨k, hkl, rfl, by omega, by rw [HEK.out]⟩)⟩
              case measure => simp [intOf]; omega
            · have hd3 : decide ((ej.n : Int) < (en.n : Int)) = false := by simp; omega
              have hd3n : decide (ej.n < en.n) = false := by simp; omega
              have HO : Hid (o2 = some ej) := Lib.hid (by rw [HST.out, HBE.out, HOJ.out]; simp [hlt])
              refine wp_region_noPanic ?_
              refine wp_region_held_drew (S := HeldR L w) (by kernel_rfl) hHeld.drew (fun hHeld2 => ?_)
              refine wpAnyH_take (i := 0) (v := ?_) rfl (by kernel_rfl) (by kernel_rfl) (by kernel_rfl) (fun _ _ _ h => h) (Or.inl ⟨by rfl, ?_⟩) (by assumption) ?_
              rotate_left
              · (intro w hSw; go_simp; try (with_reducible rfl))
              try simp only [Act.put, List.getElem_toArray, List.getElem_cons_zero, List.setIfInBounds_toArray, List.set_cons_zero, List.set_cons_succ]
              refine wpAnyH_take (i := 1) (v := ?_) rfl (by kernel_rfl) (by kernel_rfl) (by kernel_rfl) (fun _ _ _ h => h) (Or.inl ⟨by rfl, ?_⟩) (by assumption) ?_
              rotate_left
              · (intro w hSw; go_simp; try (with_reducible rfl))
              try simp only [Act.put, List.getElem_toArray, List.getElem_cons_zero, List.getElem_cons_succ, List.setIfInBounds_toArray, List.set_cons_zero, List.set_cons_succ]
              refine wpAnyH_take (i := 2) (v := ?_) rfl (by kernel_rfl) (by kernel_rfl) (by kernel_rfl) (fun _ _ _ h => h) (Or.inl ⟨by rfl, ?_⟩) (by assumption) ?_
              rotate_left
              · (intro w hSw; go_simp; try (with_reducible rfl))
              try simp only [Act.put, List.getElem_toArray, List.getElem_cons_zero, List.getElem_cons_succ, List.setIfInBounds_toArray, List.set_cons_zero, List.set_cons_succ]
              refine wpAnyH_take (i := 3) (v := ?_) rfl (by kernel_rfl) (by kernel_rfl) (by kernel_rfl) (fun _ _ _ h => h) (Or.inl ⟨by rfl, ?_⟩) (by assumption) ?_
              rotate_left
              · (intro w hSw; go_simp; try (with_reducible rfl))
              try simp only [Act.put, List.getElem_toArray, List.getElem_cons_zero, List.getElem_cons_succ, List.setIfInBounds_toArray, List.set_cons_zero, List.set_cons_succ]
              refine wpAnyH_take (i := 4) (v := ?_) rfl (by kernel_rfl) (by kernel_rfl) (by kernel_rfl) (fun _ _ _ h => h) (Or.inl ⟨by rfl, ?_⟩) (by assumption) ?_
              rotate_left
              · (intro w hSw; go_simp; try (with_reducible rfl))
              try simp only [Act.put, List.getElem_toArray, List.getElem_cons_zero, List.getElem_cons_succ, List.setIfInBounds_toArray, List.set_cons_zero, List.set_cons_succ]
              refine wpAnyH_take (i := 5) (v := ?_) rfl (by kernel_rfl) (by kernel_rfl) (by kernel_rfl) (fun _ _ _ h => h) (Or.inl ⟨by rfl, ?_⟩) (by assumption) ?_
              rotate_left
              · (intro w hSw; go_simp; try (with_reducible rfl))
              try simp only [Act.put, List.getElem_toArray, List.getElem_cons_zero, List.getElem_cons_succ, List.setIfInBounds_toArray, List.set_cons_zero, List.set_cons_succ]
              refine wpAnyH_take (i := 6) (v := ?_) rfl (by kernel_rfl) (by kernel_rfl) (by kernel_rfl) (fun _ _ _ h => h) (Or.inl ⟨by rfl, ?_⟩) (by assumption) ?_
              rotate_left
              · (intro w hSw; go_simp; try (with_reducible rfl))
              try simp only [Act.put, List.getElem_toArray, List.getElem_cons_zero, List.getElem_cons_succ, List.setIfInBounds_toArray, List.set_cons_zero, List.set_cons_succ]
              refine wpAnyH_take (i := 7) (v := ?_) rfl (by kernel_rfl) (by kernel_rfl) (by kernel_rfl) (fun _ _ _ h => h) (Or.inl ⟨by rfl, ?_⟩) (by assumption) ?_
              rotate_left
              · (intro w hSw; go_simp; try (with_reducible rfl))
              try simp only [Act.put, List.getElem_toArray, List.getElem_cons_zero, List.getElem_cons_succ, List.setIfInBounds_toArray, List.set_cons_zero, List.set_cons_succ]
              refine wpAnyH_take (i := 8) (v := ?_) rfl (by kernel_rfl) (by kernel_rfl) (by kernel_rfl) (fun _ _ _ h => h) (Or.inl ⟨by rfl, ?_⟩) (by assumption) ?_
              rotate_left
              · (intro w hSw; go_simp; try (with_reducible rfl))
              try simp only [Act.put, List.getElem_toArray, List.getElem_cons_zero, List.getElem_cons_succ, List.setIfInBounds_toArray, List.set_cons_zero, List.set_cons_succ]
              refine wpAnyH_take (i := 9) (v := ?_) rfl (by kernel_rfl) (by kernel_rfl) (by kernel_rfl) (fun _ _ _ h => h) (Or.inl ⟨by rfl, ?_⟩) (by assumption) ?_
              rotate_left
              · (intro w hSw; go_simp; try (with_reducible rfl))
              try simp only [Act.put, List.getElem_toArray, List.getElem_cons_zero, List.getElem_cons_succ, List.setIfInBounds_toArray, List.set_cons_zero, List.set_cons_succ]
              refine wpAnyH_take (i := 10) (v := ?_) rfl (by kernel_rfl) (by kernel_rfl) (by kernel_rfl) (fun _ _ _ h => h) (Or.inl ⟨by rfl, ?_⟩) (by assumption) ?_
              rotate_left
              · (intro w hSw; have hc0 := Ck.out w hSw; go_simp; try (with_reducible rfl))
              try simp only [Act.put, List.getElem_toArray, List.getElem_cons_zero, List.getElem_cons_succ, List.setIfInBounds_toArray, List.set_cons_zero, List.set_cons_succ]
              refine wpAnyH_take (i := 11) (v := ?_) rfl (by kernel_rfl) (by kernel_rfl) (by kernel_rfl) (fun _ _ _ h => h) (Or.inl ⟨by rfl, ?_⟩) (by assumption) ?_
              rotate_left
              · (intro w hSw; go_simp; try (with_reducible rfl))
              try simp only [Act.put, List.getElem_toArray, List.getElem_cons_zero, List.getElem_cons_succ, List.setIfInBounds_toArray, List.set_cons_zero, List.set_cons_succ]
              refine wpAnyH_take (i := 12) (v := ?_) rfl (by kernel_rfl) (by kernel_rfl) (by kernel_rfl) (fun _ _ _ h => h) (Or.inl ⟨by rfl, ?_⟩) (by assumption) ?_
              rotate_left
              · (intro w hSw; go_simp; try (with_reducible rfl))
              try simp only [Act.put, List.getElem_toArray, List.getElem_cons_zero, List.getElem_cons_succ, List.setIfInBounds_toArray, List.set_cons_zero, List.set_cons_succ]
              refine wpAnyH_take (i := 13) (v := ?_) rfl (by kernel_rfl) (by kernel_rfl) (by kernel_rfl) (fun _ _ _ h => h) (Or.inl ⟨by rfl, ?_⟩) (by assumption) ?_
              rotate_left
              · (intro w hSw; go_simp; try (with_reducible rfl))
              try simp only [Act.put, List.getElem_toArray, List.getElem_cons_zero, List.getElem_cons_succ, List.setIfInBounds_toArray, List.set_cons_zero, List.set_cons_succ]
              refine wpAnyH_take (i := 14) (v := ?_) rfl (by kernel_rfl) (by kernel_rfl) (by kernel_rfl) (fun _ _ _ h => h) (Or.inl ⟨by rfl, ?_⟩) (by assumption) ?_
              rotate_left
              · (intro w hSw; go_simp; try (with_reducible rfl))
              try simp only [Act.put, List.getElem_toArray, List.getElem_cons_zero, List.getElem_cons_succ, List.setIfInBounds_toArray, List.set_cons_zero, List.set_cons_succ]
              refine wpAnyH_take (i := 15) (v := ?_) rfl (by kernel_rfl) (by kernel_rfl) (by kernel_rfl) (fun _ _ _ h => h) (Or.inl ⟨by rfl, ?_⟩) (by assumption) ?_
              rotate_left
              · (intro w hSw; go_simp; try (with_reducible rfl))
              try simp only [Act.put, List.getElem_toArray, List.getElem_cons_zero, List.getElem_cons_succ, List.setIfInBounds_toArray, List.set_cons_zero, List.set_cons_succ]
              refine wpAnyH_take (i := 16) (v := ?_) rfl (by kernel_rfl) (by kernel_rfl) (by kernel_rfl) (fun _ _ _ h => h) (Or.inl ⟨by rfl, ?_⟩) (by assumption) ?_
              rotate_left
              · (intro w hSw; have hc0 := Cj.out w hSw; go_simp; try (with_reducible rfl))
              try simp only [Act.put, List.getElem_toArray, List.getElem_cons_zero, List.getElem_cons_succ, List.setIfInBounds_toArray, List.set_cons_zero, List.set_cons_succ]
              refine wpAnyH_take (i := 17) (v := ?_) rfl (by kernel_rfl) (by kernel_rfl) (by kernel_rfl) (fun _ _ _ h => h) (Or.inl ⟨by rfl, ?_⟩) (by assumption) ?_
              rotate_left
              · (intro w hSw; go_simp; try (with_reducible rfl))
              try simp only [Act.put, List.getElem_toArray, List.getElem_cons_zero, List.getElem_cons_succ, List.setIfInBounds_toArray, List.set_cons_zero, List.set_cons_succ]
              refine wpAnyH_take (i := 18) (v := ?_) rfl (by kernel_rfl) (by kernel_rfl) (by kernel_rfl) (fun _ _ _ h => h) (Or.inl ⟨by rfl, ?_⟩) (by assumption) ?_
              rotate_left
              · (intro w hSw; go_simp; try (with_reducible rfl))
              try simp only [Act.put, List.getElem_toArray, List.getElem_cons_zero, List.getElem_cons_succ, List.setIfInBounds_toArray, List.set_cons_zero, List.set_cons_succ]
              refine wpAnyH_take (i := 19) (v := ?_) rfl (by kernel_rfl) (by kernel_rfl) (by kernel_rfl) (fun _ _ _ h => h) (Or.inl ⟨by rfl, ?_⟩) (by assumption) ?_
              rotate_left
              · (intro w hSw; go_simp; try (with_reducible rfl))
              try simp only [Act.put, List.getElem_toArray, List.getElem_cons_zero, List.getElem_cons_succ, List.setIfInBounds_toArray, List.set_cons_zero, List.set_cons_succ]
              refine wpAnyH_done (by kernel_rfl) ?_ _
              refine NoPanic.normal ?_
              go_wp2_with fail
              go_roundw
              case rel => exact ⟨k + 1, (j : Int), by omega, by go_num, rfl, Lib.hid hHeld2, HZ2, Lib.hid (by rw [HO2.out, HO.out]; exact .inr ⟨j, hj, rfl, by omega, by rw [HEJ.out]⟩)⟩
              case measure => simp [intOf]; omega
      · obtain rfl : k = es.length := by omega
        have hd : decide ((es.length : Int) < (es.length : Int)) = false := by simp
        rw [HRE.out] at HI
        rcases HI.out with ⟨hz, ho⟩ | ⟨j, hj, hz, hjk, ho⟩
        · subst hz
          have HN := Lib.hid ho
          clear ho HI
          go_wp2_with (first | refine build_ent0 rfl rfl ?_ | refine store_ent HZ2 _ _ HLZ rfl rfl rfl rfl (fun W HW HP => ?_))
          refine bodyPost_ret (results_ent2 Try.results16 rfl HP.out) rfl ⟨by rw [HN.out]; rfl, by rw [HW.out]; exact below_cells (by omega) _ _ _ HS.out.bel⟩
        · subst hz
          obtain ⟨ej, hej⟩ : ∃ ej, es[j] = ej := ⟨_, rfl⟩
          have HLJ : Hid (ej.b.length = 16) := Lib.hid (by rw [← hej]; exact (HAG.out _ (List.getElem_mem hj)).1.len)
          have HRJ : Hid (wr.rangeAt g (j * 19) (entL ej.f ej.b (ej.n : Int) ej.v)) := Lib.hid (by have := range_ent (HME.out _ HS.out) HAG.out j hj; rw [hej] at this; exact this)
          have HN : Hid (R = some ej) := Lib.hid (by rw [ho, hej])
          have hji : (j : Int) < (es.length : Int) := by omega
          have hj0 : decide ((j : Int) < 0) = false := by simp
          clear ho HI hej
          go_wp2_with (first | refine load_ent_o HLJ HRJ _ rfl rfl rfl ?_ | refine store_ent HZ2 _ _ HLJ rfl rfl rfl rfl (fun W HW HP => ?_))
          refine bodyPost_ret (results_ent2 Try.results16 rfl HP.out) rfl ⟨by rw [HN.out]; rfl, by rw [HW.out]; exact below_cells (by omega) _ _ _ HS.out.bel⟩
end Go.Proofs.Ytjpjobbmljlacaa
/- Plain facts on what is found in a row of entries, and on rows that are set. -/
namespace Go.Proofs.Ytjpjobbmljlacaa
open Go.RowKit
set_option linter.unusedVariables false
set_option maxRecDepth 20000

/-- The best one of those that have come. -/
def Best (g : Int) (us : List Nat) (o : Option Ent) (l : List Ent) : Prop :=
  (o = none → ∀ e ∈ l, hasB e.f e.b e.n g us = false) ∧ (∀ b, o = some b → b ∈ l ∧ hasB b.f b.b b.n g us = true ∧ ∀ e ∈ l, hasB e.f e.b e.n g us = true → e.n ≤ b.n)
theorem best_step {g : Int} {us : List Nat} {o : Option Ent} {l : List Ent} (h : Best g us o l) (e : Ent) : Best g us (betterE g us o e) (l ++ [e]) := by
  unfold betterE
  cases hb : hasB e.f e.b e.n g us with
  | false =>
    rw [if_neg (by decide)]
    refine ⟨fun ho x hx => ?_, fun b hbo => ?_⟩
    · rcases List.mem_append.1 hx with hx | hx
      · exact h.1 ho x hx
      · rw [List.mem_singleton.1 hx]; exact hb
    · obtain ⟨h1, h2, h3⟩ := h.2 b hbo
      refine ⟨List.mem_append_left _ h1, h2, fun x hx hh => ?_⟩
      rcases List.mem_append.1 hx with hx | hx
      · exact h3 x hx hh
      · rw [List.mem_singleton.1 hx, hb] at hh; cases hh
  | true =>
    rw [if_pos rfl]
    cases o with
    | none =>
      refine ⟨fun ho => (by cases ho), fun b hbo => ?_⟩
      obtain rfl : e = b := Option.some.inj hbo
      refine ⟨by simp, hb, fun x hx hh => ?_⟩
      rcases List.mem_append.1 hx with hx | hx
      · rw [h.1 rfl x hx] at hh; cases hh
      · rw [List.mem_singleton.1 hx]; exact Nat.le_refl _
    | some c =>
      obtain ⟨h1, h2, h3⟩ := h.2 c rfl
      show Best g us (if c.n < e.n then some e else some c) (l ++ [e])
      by_cases hc : c.n < e.n
      · rw [if_pos hc]
        refine ⟨fun ho => (by cases ho), fun b hbo => ?_⟩
        obtain rfl : e = b := Option.some.inj hbo
        refine ⟨by simp, hb, fun x hx hh => ?_⟩
        rcases List.mem_append.1 hx with hx | hx
        · have := h3 x hx hh; omega
        · rw [List.mem_singleton.1 hx]; exact Nat.le_refl _
      · rw [if_neg hc]
        refine ⟨fun ho => (by cases ho), fun b hbo => ?_⟩
        obtain rfl : c = b := Option.some.inj hbo
        refine ⟨List.mem_append_left _ h1, h2, fun x hx hh => ?_⟩
        rcases List.mem_append.1 hx with hx | hx
        · exact h3 x hx hh
        · rw [List.mem_singleton.1 hx]; omega
theorem best_fold {g : Int} {us : List Nat} : ∀ (l pre : List Ent) (o : Option Ent), Best g us o pre → Best g us (l.foldl (betterE g us) o) (pre ++ l)
  | [], pre, o, h => by rw [List.append_nil]; exact h
  | e :: l, pre, o, h => by
    have := best_fold l (pre ++ [e]) (betterE g us o e) (best_step h e)
    rw [List.append_assoc] at this
    exact this
/-- What is found has the address, and no longer one has it. -/
theorem findE_best (es : List Ent) (g : Int) (us : List Nat) : Best g us (findE es g us) es := by
  have := best_fold es [] none (g := g) (us := us) ⟨fun _ e h => (by cases h), fun b h => (by cases h)⟩
  rw [List.nil_append] at this
  exact this
theorem insE_len (rest : List Ent) (e : Ent) : (insE rest e).length = rest.length + 1 := by
  unfold insE
  have := posE_le rest e.f e.b (e.n : Int) rest.length
  rw [List.length_append, List.length_append, List.length_take, List.length_drop, List.length_singleton]
  omega
theorem setE_len (es : List Ent) (f : Int) (bs : List Nat) (n v : Int) : (setE es f bs n v).length ≤ es.length + 1 := by
  unfold setE
  split
  · rw [insE_len]
    have := dropE_len es f bs n
    omega
  · omega
end Go.Proofs.Ytjpjobbmljlacaa
/- What the laws of layer 6 ask of a table: its contracts, whatever it is made of. -/
namespace Go.Proofs.Ytjpjobbmljlacaa
open Go.RowKit
set_option linter.unusedVariables false
set_option maxRecDepth 20000

/-- A table (at G, of entries es, with st steps, over the blocks F), and what its functions do to it. -/
structure TabKit where
  At : World → Nat → List Ent → Int → List Nat → Prop
  lt : ∀ {w G es st F}, At w G es st F → G ∈ F ∧ ∀ k ∈ F, k < w.heap.size
  keep : ∀ {w w' G es st F}, At w G es st F → w.heap.size ≤ w'.heap.size → (∀ k ∈ F, w'.heap[k]? = w.heap[k]?) → At w' G es st F
  set : ∀ {w G es st F} (f : Int) (bs : List Nat) (n x : Int), At w G es st F → bs.length = 16 → (∀ y ∈ bs, y < 256) → (Lit.int .i64 n).wf = true → (Lit.int .i64 x).wf = true → es.length ≤ 900 →
    Calls Try.prog 23 #[.pointer (some ⟨G, 0, none⟩), prefV f bs n, .int .i64 x] w fun e w' => e = .returned (.int .i64 (if mayP f bs n = true then 0 else 1)) ∧ ∃ st' F', At w' G (setE es f bs n x) st' F' ∧ Foot F F' w w'
  drop : ∀ {w G es st F} (f : Int) (bs : List Nat) (n : Int), At w G es st F → bs.length = 16 → (∀ y ∈ bs, y < 256) → (Lit.int .i64 n).wf = true → es.length ≤ 900 →
    Calls Try.prog 26 #[.pointer (some ⟨G, 0, none⟩), prefV f bs n] w fun e w' => e = .returned (.int .i64 (if (dropE es f bs n).length < es.length then 0 else 4)) ∧ ∃ st' F', At w' G (dropE es f bs n) st' F' ∧ Foot F F' w w'
  new0 : ∀ w, Calls Try.prog 9 #[.slice none 0 0] w fun e w' => ∃ G st F, e = .returned (.pointer (some ⟨G, 0, none⟩)) ∧ At w' G [] st F ∧ (∀ k ∈ F, w.heap.size ≤ k) ∧ Below w.heap.size w w'
  get : ∀ {w G es st F} (f : Int) (bs : List Nat) (n : Int), At w G es st F → bs.length = 16 → (∀ y ∈ bs, y < 256) → (Lit.int .i64 n).wf = true → es.length ≤ 900 →
    Calls Try.prog 27 #[.pointer (some ⟨G, 0, none⟩), prefV f bs n] w fun e w' => e = .returned (getRet (getE es f bs n)) ∧ ∃ st' F', At w' G es st' F' ∧ Foot F F' w w'
theorem deed_size : (Try.prog.info? 34).map (·.size) = some 21 := by kernel_rfl
/-- A deed, loaded whole from wherever it lies. -/
theorem load_deed_o {ops : Array Oper} {rest : List Oper} {op : Oper} {a : Act} {w : World} {Q : Exit → Act → World → Prop} {G o : Nat} {d : DeedD} (hl : Hid (d.b.length = 16)) (hA : Hid (w.rangeAt G o d.L)) (x : Operand) (hw : Region.wanted op (yielded ops a.tmps) = true) (ho : op.op = .load 34 x)
    (hx : a.eval x = .pointer (some ⟨G, o, none⟩)) (h : wpList Try.prog ops Q rest (a.put op.dst (deedV d)) w) : wpList Try.prog ops Q (op :: rest) a w :=
  wpList_load_row hw 34 x ho G o hx d.L _ hA.out Try.underlying34 rfl (by rw [deed_size, DeedD.L_len d hl.out]) h
theorem TabKit.keepB (K : TabKit) {w w' : World} {G : Nat} {es : List Ent} {st : Int} {F : List Nat} (h : K.At w G es st F) (hb : Below w.heap.size w w') : K.At w' G es st F := K.keep h hb.size (fun k hk => hb.block k ((K.lt h).2 k hk))
/-- A prefix, loaded whole from wherever it lies. -/
theorem load_pref_o {ops : Array Oper} {rest : List Oper} {op : Oper} {a : Act} {w : World} {Q : Exit → Act → World → Prop} {G o : Nat} {f : Int} {bs : List Nat} {n : Int} (hl : Hid (bs.length = 16)) (hA : Hid (w.rangeAt G o (prefL f bs n))) (x : Operand) (hw : Region.wanted op (yielded ops a.tmps) = true) (ho : op.op = .load 32 x)
    (hx : a.eval x = .pointer (some ⟨G, o, none⟩)) (h : wpList Try.prog ops Q rest (a.put op.dst (prefV f bs n)) w) : wpList Try.prog ops Q (op :: rest) a w :=
  wpList_load_row hw 32 x ho G o hx (prefL f bs n) _ hA.out Try.underlying32 rfl (by rw [pref_size, prefL_len f bs n hl.out]) h
end Go.Proofs.Ytjpjobbmljlacaa
/- Plain facts on the row of prefixes, and on what lies between their first and last addresses. -/
namespace Go.Proofs.Ytjpjobbmljlacaa
open Go.RowKit
set_option linter.unusedVariables false
set_option maxRecDepth 20000

theorem cmpL_point : ∀ xs ys : List Nat, xs.length = ys.length → (∀ q, q < xs.length → xs.getD q 0 ≤ ys.getD q 0) → cmpL xs ys ≤ 0
  | [], ys, _, _ => by cases ys <;> simp [cmpL]
  | _ :: _, [], h, _ => by cases h
  | x :: xs, y :: ys, h, hq => by
    have h0 : x ≤ y := hq 0 (by simp)
    have ih := cmpL_point xs ys (by simpa using h) (fun q hql => hq (q + 1) (by simpa using hql))
    rw [cmpL]
    by_cases h1 : x < y
    · rw [if_pos h1]; decide
    · rw [if_neg h1, if_neg (by omega)]; exact ih
theorem byte_le (x y : Nat) (hx : x < 256) (hy : y < 256) (h : ∀ r, r < 8 → x / 2 ^ (7 - r) % 2 ≤ y / 2 ^ (7 - r) % 2) : x ≤ y := by
  have h0 : x / 128 % 2 ≤ y / 128 % 2 := h 0 (by decide)
  have h1 : x / 64 % 2 ≤ y / 64 % 2 := h 1 (by decide)
  have h2 : x / 32 % 2 ≤ y / 32 % 2 := h 2 (by decide)
  have h3 : x / 16 % 2 ≤ y / 16 % 2 := h 3 (by decide)
  have h4 : x / 8 % 2 ≤ y / 8 % 2 := h 4 (by decide)
  have h5 : x / 4 % 2 ≤ y / 4 % 2 := h 5 (by decide)
  have h6 : x / 2 % 2 ≤ y / 2 % 2 := h 6 (by decide)
  have h7 : x / 1 % 2 ≤ y / 1 % 2 := h 7 (by decide)
  simp only [Nat.div_one] at h7
  have ex := byte_bits x hx
  have ey := byte_bits y hy
  generalize x / 128 % 2 = a0 at *
  generalize x / 64 % 2 = a1 at *
  generalize x / 32 % 2 = a2 at *
  generalize x / 16 % 2 = a3 at *
  generalize x / 8 % 2 = a4 at *
  generalize x / 4 % 2 = a5 at *
  generalize x / 2 % 2 = a6 at *
  generalize x % 2 = a7 at *
  generalize y / 128 % 2 = b0 at *
  generalize y / 64 % 2 = b1 at *
  generalize y / 32 % 2 = b2 at *
  generalize y / 16 % 2 = b3 at *
  generalize y / 8 % 2 = b4 at *
  generalize y / 4 % 2 = b5 at *
  generalize y / 2 % 2 = b6 at *
  generalize y % 2 = b7 at *
  omega
theorem bit_at (l : List Nat) (q r : Nat) (hr : r < 8) : bitA l (8 * q + r) = l.getD q 0 / 2 ^ (7 - r) % 2 := by
  unfold bitA
  rw [show (8 * q + r) / 8 = q by omega, show (8 * q + r) % 8 = r by omega]
theorem cmpL_bits {xs ys : List Nat} (hx : xs.length = 16) (hy : ys.length = 16) (lx : ∀ x ∈ xs, x < 256) (ly : ∀ x ∈ ys, x < 256) (h : ∀ i, i < 128 → bitA xs i ≤ bitA ys i) : cmpL xs ys ≤ 0 := by
  refine cmpL_point xs ys (by rw [hx, hy]) (fun q hq => byte_le _ _ (getD_lt lx q) (getD_lt ly q) (fun r hr => ?_))
  have := h (8 * q + r) (by omega)
  rw [bit_at _ _ _ hr, bit_at _ _ _ hr] at this
  exact this
/-- What stands between two rows that begin alike begins so too. -/
theorem squeeze : ∀ (k : Nat) (xs ys zs : List Nat), xs.length = ys.length → ys.length = zs.length → (∀ q, q < k → xs.getD q 0 = zs.getD q 0) → cmpL xs ys ≤ 0 → cmpL ys zs ≤ 0 → k ≤ xs.length →
    (∀ q, q < k → xs.getD q 0 = ys.getD q 0) ∧ (k < xs.length → xs.getD k 0 ≤ ys.getD k 0 ∧ ys.getD k 0 ≤ zs.getD k 0)
  | 0, [], _, _, _, _, _, _, _, _ => ⟨fun q h => absurd h (by omega), fun h => absurd h (by simp)⟩
  | 0, x :: xs, [], _, h, _, _, _, _, _ => by cases h
  | 0, x :: xs, y :: ys, [], _, h, _, _, _, _ => by cases h
  | 0, x :: xs, y :: ys, z :: zs, _, _, _, a, b, _ => by
    refine ⟨fun q h => absurd h (by omega), fun _ => ?_⟩
    rw [cmpL] at a b
    refine ⟨?_, ?_⟩
    · show x ≤ y
      apply Classical.byContradiction
      intro h
      rw [if_neg (by omega), if_pos (by omega)] at a
      omega
    · show y ≤ z
      apply Classical.byContradiction
      intro h
      rw [if_neg (by omega), if_pos (by omega)] at b
      omega
  | k + 1, [], _, _, _, _, _, _, _, h => absurd h (by simp)
  | k + 1, x :: xs, [], _, h, _, _, _, _, _ => by cases h
  | k + 1, x :: xs, y :: ys, [], _, h, _, _, _, _ => by cases h
  | k + 1, x :: xs, y :: ys, z :: zs, h1, h2, hq, a, b, hk => by
    have hxz : x = z := hq 0 (by omega)
    subst hxz
    rw [cmpL] at a b
    have hxy : x = y := by
      apply Classical.byContradiction
      intro h
      by_cases h3 : x < y
      · rw [if_neg (by omega), if_pos h3] at b; omega
      · rw [if_neg h3, if_pos (by omega)] at a; omega
    subst hxy
    rw [if_neg (by omega), if_neg (by omega)] at a b
    obtain ⟨i1, i2⟩ := squeeze k xs ys zs (by simpa using h1) (by simpa using h2) (fun q hql => hq (q + 1) (by omega)) a b (by simpa using hk)
    refine ⟨fun q hql => ?_, fun hkl => i2 (by simpa using hkl)⟩
    cases q with
    | zero => rfl
    | succ q => exact i1 q (by omega)
theorem top_bits (x z : Nat) (hx : x < 256) (hz : z < 256) : ∀ r, r ≤ 8 → (∀ j, j < r → z / 2 ^ (7 - j) % 2 = x / 2 ^ (7 - j) % 2) → x / 2 ^ (8 - r) = z / 2 ^ (8 - r)
  | 0, _, _ => by
    show x / 256 = z / 256
    omega
  | r + 1, hr, h => by
    rw [half_step x r (by omega), half_step z r (by omega), top_bits x z hx hz r (by omega) (fun j hj => h j (by omega)), h r (by omega)]
theorem byte_squeeze (x y z r : Nat) (hr : r < 8) (hx : x < 256) (hz : z < 256) (h1 : ∀ j, j < r → z / 2 ^ (7 - j) % 2 = x / 2 ^ (7 - j) % 2) (ha : x ≤ y) (hb : y ≤ z) :
    ∀ j, j < r → y / 2 ^ (7 - j) % 2 = x / 2 ^ (7 - j) % 2 := by
  have key : x / 2 ^ (8 - r) = y / 2 ^ (8 - r) := by
    have k1 := top_bits x z hx hz r (by omega) h1
    have k2 : x / 2 ^ (8 - r) ≤ y / 2 ^ (8 - r) := Nat.div_le_div_right ha
    have k3 : y / 2 ^ (8 - r) ≤ z / 2 ^ (8 - r) := Nat.div_le_div_right hb
    omega
  intro j hj
  have e : 2 ^ (7 - j) = 2 ^ (8 - r) * 2 ^ (r - 1 - j) := by rw [← Nat.pow_add]; congr 1; omega
  rw [e, ← Nat.div_div_eq_div_mul, ← Nat.div_div_eq_div_mul, key]
section
variable {f g k : Int} {ps qs rs us : List Nat} {n m l : Nat}
theorem GoodP.between (h : GoodP f ps n) (hu : GoodA f us) : (cmpL ps us ≤ 0 ∧ cmpL us (withL (bitsN f) ps n 1) ≤ 0) ↔ Begins ps us n := by
  have hN := bitsN_le f
  have hle := h.le
  constructor
  · rintro ⟨a, b⟩
    have hlz := withL_len (bitsN f) ps n 1
    have hzz := withL_lt (bitsN f) ps n 1 (by decide)
    have hbz : ∀ i, i < n → bitA (withL (bitsN f) ps n 1) i = bitA ps i := fun i hi => (begins_with h.le 1 (by decide) i hi).symm
    obtain ⟨s1, s2⟩ := squeeze (n / 8) ps us (withL (bitsN f) ps n 1) (by rw [h.len, hu.len]) (by rw [hu.len, hlz]) (fun q hq => byte_ext _ _ (getD_lt h.lt q) (getD_lt hzz q) (fun r hr => by
      rw [← bit_at _ _ _ hr, ← bit_at _ _ _ hr]; exact (hbz _ (by omega)).symm)) a b (by rw [h.len]; omega)
    intro i hi
    by_cases hq : i / 8 < n / 8
    · unfold bitA
      rw [s1 _ hq]
    · have e : i = 8 * (n / 8) + i % 8 := by omega
      obtain ⟨t1, t2⟩ := s2 (by rw [h.len]; omega)
      have := byte_squeeze _ _ _ (n % 8) (by omega) (getD_lt h.lt _) (getD_lt hzz _) (fun j hj => by
        rw [← bit_at _ _ _ (by omega), ← bit_at _ _ _ (by omega)]; exact hbz _ (by omega)) t1 t2 (i % 8) (by omega)
      rw [e, bit_at _ _ _ (by omega), bit_at _ _ _ (by omega), this]
  · intro hb
    refine ⟨cmpL_bits h.len hu.len h.lt hu.lt (fun i hi => ?_), cmpL_bits hu.len (withL_len _ _ _ _) hu.lt (withL_lt _ _ _ _ (by decide)) (fun i hi => ?_)⟩
    · by_cases h1 : i < n
      · rw [hb i h1]; exact Nat.le_refl _
      · rw [h.zero i hi (by omega)]; exact Nat.zero_le _
    · rw [bitA_with _ _ _ _ _ (by decide) hi]
      unfold withF
      by_cases h1 : i < bitsN f
      · rw [if_pos h1]
        by_cases h2 : n ≤ i
        · rw [if_pos h2]; exact bitA_le us i
        · rw [if_neg h2, hb i (by omega)]; exact Nat.le_refl _
      · rw [if_neg h1, hu.zero i hi (by omega)]; exact Nat.le_refl _
theorem sgn3_neg (x y : Int) : sgn3 y x = - sgn3 x y := by
  unfold sgn3
  by_cases h1 : x < y
  · rw [if_pos h1, if_neg (by omega), if_pos h1]; rfl
  · by_cases h2 : y < x
    · rw [if_pos h2, if_neg h1, if_pos h2]
    · rw [if_neg h1, if_neg h2, if_neg h2, if_neg h1]; rfl
theorem sgn3_zero (x y : Int) : sgn3 x y = 0 ↔ x = y := by
  unfold sgn3
  split
  · constructor <;> intro h <;> omega
  · split
    · constructor <;> intro h <;> omega
    · constructor <;> intro h <;> omega
theorem sgn3_range (x y : Int) : (sgn3 x y = -1 ∧ x < y) ∨ (sgn3 x y = 0 ∧ x = y) ∨ (sgn3 x y = 1 ∧ y < x) := by
  unfold sgn3
  split
  · exact .inl ⟨rfl, by omega⟩
  · split
    · exact .inr (.inr ⟨rfl, by omega⟩)
    · exact .inr (.inl ⟨rfl, by omega⟩)
theorem cmpP_range (f : Int) (ps : List Nat) (n : Int) (g : Int) (qs : List Nat) (m : Int) : cmpP f ps n g qs m = -1 ∨ cmpP f ps n g qs m = 0 ∨ cmpP f ps n g qs m = 1 := by
  unfold cmpP
  have h1 := cmpA_range f ps g qs
  have h2 := sgn3_range n m
  split <;> omega
theorem cmpP_neg (f : Int) (ps : List Nat) (n : Int) (g : Int) (qs : List Nat) (m : Int) : cmpP g qs m f ps n = - cmpP f ps n g qs m := by
  unfold cmpP
  rw [cmpA_neg f ps g qs]
  by_cases h : cmpA f ps g qs = 0
  · rw [if_pos (by omega), if_pos h]; exact sgn3_neg n m
  · rw [if_neg (by omega), if_neg h]
theorem cmpP_zero (f : Int) (ps : List Nat) (n : Int) (g : Int) (qs : List Nat) (m : Int) (hp : ps.length = 16) (hq : qs.length = 16) : cmpP f ps n g qs m = 0 ↔ (f = g ∧ ps = qs ∧ n = m) := by
  unfold cmpP
  have h1 := cmpA_zero f ps g qs hp hq
  by_cases h : cmpA f ps g qs = 0
  · rw [if_pos h, sgn3_zero]
    have := h1.1 h
    exact ⟨fun e => ⟨this.1, this.2, e⟩, fun e => e.2.2⟩
  · rw [if_neg h]
    exact ⟨fun e => absurd e h, fun e => absurd (h1.2 ⟨e.1, e.2.1⟩) h⟩
theorem cmpP_trans (f : Int) (ps : List Nat) (n : Int) (g : Int) (qs : List Nat) (m : Int) (k : Int) (rs : List Nat) (l : Int) (hp : ps.length = 16) (hq : qs.length = 16) (hr : rs.length = 16) (a : cmpP f ps n g qs m ≤ 0) (b : cmpP g qs m k rs l ≤ 0) : cmpP f ps n k rs l ≤ 0 := by
  unfold cmpP at *
  have t := cmpA_trans f ps g qs k rs hp hq hr
  have t2 := cmpA_trans k rs f ps g qs hr hp hq
  have t3 := cmpA_trans g qs k rs f ps hq hr hp
  rw [cmpA_neg f ps k rs] at t2 t3
  rw [cmpA_neg g qs k rs] at t2
  rw [cmpA_neg f ps g qs] at t3
  have s1 := sgn3_range n m
  have s2 := sgn3_range m l
  have s3 := sgn3_range n l
  split at a <;> split at b <;> split <;> omega
theorem within_row (hp : GoodP f ps n) (hq : GoodP g qs m) (h : withinR f ps (n : Int) g qs (m : Int) = true) : 0 ≤ cmpP f ps (n : Int) g qs (m : Int) := by
  obtain ⟨a, rfl, b⟩ := (withinR_iff hp hq).1 h
  have hl : cmpL qs ps ≤ 0 := cmpL_bits hq.len hp.len hq.lt hp.lt (fun i hi => by
    by_cases h1 : i < m
    · rw [b i h1]; exact Nat.le_refl _
    · rw [hq.zero i hi (by omega)]; exact Nat.zero_le _)
  have ha : 0 ≤ cmpA g ps g qs := by
    unfold cmpA
    rw [if_pos rfl]
    have := cmpL_neg qs ps
    omega
  unfold cmpP
  split
  · have := sgn3_range (n : Int) (m : Int)
    omega
  · exact ha
end
end Go.Proofs.Ytjpjobbmljlacaa
/- Contracts of table.compare and of Table.hold. -/
namespace Go.Proofs.Ytjpjobbmljlacaa
open Go.RowKit
set_option linter.unusedVariables false
set_option maxRecDepth 20000

/-- How an entry stands to a prefix. -/
def cmpE (e : Ent) (f : Int) (bs : List Nat) (n : Int) : Int := cmpP e.f e.b (e.n : Int) f bs n
theorem Ent.L_ent (e : Ent) : Value.agg e.L.toArray = entV e.f e.b (e.n : Int) e.v := rfl
theorem ent_boxed (f : Int) (bs : List Nat) (n v : Int) (w : World) (h16 : bs.length = 16) :
    ∃ cs : Array Value, entV f bs n v = .agg cs ∧ Hid (EntAt (w.alloc (.cells cs 42)) w.heap.size f bs n v) ∧ Hid (Below w.heap.size w (w.alloc (.cells cs 42))) :=
  ⟨_, rfl, Lib.hid (EntAt.of w _ _ f bs n v h16 rfl), Lib.hid ((Below.refl _ _).alloc (Nat.le_refl _) _)⟩
theorem EntAt.pref {w : World} {G : Nat} {f : Int} {bs : List Nat} {n v : Int} (h : EntAt w G f bs n v) : w.rangeAt G 0 (prefL f bs n) := fun j u hu => h.range j u (by
  have hj : j < (prefL f bs n).length := by
    apply Classical.byContradiction
    intro h2
    rw [List.getElem?_eq_none (by omega)] at hu
    cases hu
  unfold entL
  rw [List.getElem?_append_left hj]
  exact hu)
/-- An entry and a prefix that come in, boxed. -/
theorem ent_pref_boxed (f : Int) (ps : List Nat) (n v : Int) (g : Int) (qs : List Nat) (m : Int) (w : World) (hp : ps.length = 16) (hq : qs.length = 16) :
    ∃ cs ds : Array Value, entV f ps n v = .agg cs ∧ prefV g qs m = .agg ds ∧ Hid (EntAt ((w.alloc (.cells cs 42)).alloc (.cells ds 32)) w.heap.size f ps n v) ∧ Hid (PrefAt ((w.alloc (.cells cs 42)).alloc (.cells ds 32)) (w.heap.size + 1) g qs m) ∧
      Hid (Below w.heap.size w ((w.alloc (.cells cs 42)).alloc (.cells ds 32))) := by
  obtain ⟨cs, ecs, HA, HB⟩ := ent_boxed f ps n v w hp
  obtain ⟨ds, eds, HA', HB'⟩ := pref_boxed g qs m (w.alloc (.cells cs 42)) hq
  rw [heap_alloc] at HA'
  exact ⟨cs, ds, ecs, eds, Lib.hid (HA.out.alloc _), HA', Lib.hid (chain HB.out HB'.out)⟩
set_option maxRecDepth 100000 in
set_option maxHeartbeats 1000000 in
theorem tabCompare_any (f : Int) (ps : List Nat) (n v : Int) (g : Int) (qs : List Nat) (m : Int) (w : World) (hp : ps.length = 16) (hq : qs.length = 16) (lp : ∀ x ∈ ps, x < 256) (lq : ∀ x ∈ qs, x < 256) :
    Calls Try.prog 52 #[entV f ps n v, prefV g qs m] w fun e w' => e = .returned (.int .i64 (cmpP f ps n g qs m)) ∧ Below w.heap.size w w' := by
  have HC := fun W => Lib.hid (cidrCompare_any f ps n g qs m W hp hq lp lq)
  have H16 := Lib.hid hp
  generalize cmpP f ps n g qs m = R at *
  obtain ⟨cs, ds, ecs, eds, H1, H2, HB⟩ := ent_pref_boxed f ps n v g qs m w hp hq
  rw [ecs, eds]
  clear ecs eds hp hq lp lq
  go_enter Try.func52, Try.ntmps52
  go_upto_region 1 with fail
  generalize ((w.alloc (.cells cs 42)).alloc (.cells ds 32)) = W at *
  have H1p := Lib.hid H1.out.pref
  go_wp2_with (first | refine load_pref_o H16 H1p _ rfl rfl rfl ?_ | refine load_pref_g H2 _ rfl rfl rfl ?_)
  refine (HC _).out.mono ?_
  rintro e w1 ⟨rfl, hb1⟩
  have HB1 := Lib.hid (chain HB.out hb1)
  clear H1 H2 HB hb1 H1p
  go_wp2_with fail
  go_ret
  exact ⟨rfl, HB1.out⟩
/-- A table's own two cells. -/
structure Tab (w : World) (G : Nat) (v : Value) (st : Int) : Prop where
  lt : G < w.heap.size
  row : w.cell? ⟨G, 0, none⟩ = some v
  steps : w.cell? ⟨G, 1, none⟩ = some (.int .i64 st)
  frow : w.frozen? ⟨G, 0, none⟩ = false
  fsteps : w.frozen? ⟨G, 1, none⟩ = false
section
variable {w w' : World} {G : Nat} {v : Value} {st : Int}
theorem Tab.same (h : Tab w G v st) (hs : w.heap.size ≤ w'.heap.size) (hk : w'.heap[G]? = w.heap[G]?) : Tab w' G v st :=
  ⟨Nat.lt_of_lt_of_le h.lt hs, (World.cell?_of_block (w := w) (a := ⟨G, 0, none⟩) hk).trans h.row, (World.cell?_of_block (w := w) (a := ⟨G, 1, none⟩) hk).trans h.steps,
    (World.frozen?_of_block (w := w) (a := ⟨G, 0, none⟩) hk).trans h.frow, (World.frozen?_of_block (w := w) (a := ⟨G, 1, none⟩) hk).trans h.fsteps⟩
theorem Tab.below (h : Tab w G v st) (hb : Below w.heap.size w w') : Tab w' G v st := h.same hb.size (hb.block G h.lt)
theorem Tab.foot {F F' : List Nat} (h : Tab w G v st) (hf : Foot F F' w w') (hn : G ∉ F) : Tab w' G v st := h.same hf.size (hf.keep G h.lt hn)
theorem size_set (w : World) (p : Addr) (u : Value) : (w.setCell p u).heap.size = w.heap.size := by show (w.heap.modify _ _).size = _; rw [Array.size_modify]
theorem Tab.setRow (h : Tab w G v st) (u : Value) : Tab (w.setCell ⟨G, 0, none⟩ u) G u st :=
  ⟨by rw [size_set]; exact h.lt, World.cell?_setCell_same' _ _ _ (by rw [h.row]; rfl), by rw [World.cell?_setCell_other _ _ _ _ (by simp)]; exact h.steps, by rw [World.frozen?_setCell]; exact h.frow, by rw [World.frozen?_setCell]; exact h.fsteps⟩
theorem Tab.setSteps (h : Tab w G v st) (x : Int) : Tab (w.setCell ⟨G, 1, none⟩ (.int .i64 x)) G v x :=
  ⟨by rw [size_set]; exact h.lt, by rw [World.cell?_setCell_other _ _ _ _ (by simp)]; exact h.row, World.cell?_setCell_same' _ _ _ (by rw [h.steps]; rfl), by rw [World.frozen?_setCell]; exact h.frow, by rw [World.frozen?_setCell]; exact h.fsteps⟩
theorem foot_cell (w : World) (b o : Nat) (u : Value) : Foot [b] [b] w (w.setCell ⟨b, o, none⟩ u) := foot_cells b o [u]
theorem Foot.below' {F F' : List Nat} (h : Foot F F' w w') (hF : ∀ k ∈ F, k < w.heap.size) (x : World) (hb : Below w'.heap.size w' x) : Foot F F' w x :=
  h.trans (Foot.ofBelow F' hb)
end
set_option maxRecDepth 100000 in
set_option maxHeartbeats 1000000 in
theorem tabHold_any (G : Nat) (r : Value) (st : Int) (f : Int) (ps : List Nat) (n v : Int) (g : Int) (qs : List Nat) (m : Int) (w : World) (hT : Tab w G r st) (h0 : 0 ≤ st) (h1 : st ≤ 1000000) (hp : ps.length = 16) (hq : qs.length = 16) (lp : ∀ x ∈ ps, x < 256) (lq : ∀ x ∈ qs, x < 256) :
    Calls Try.prog 48 #[.pointer (some ⟨G, 0, none⟩), entV f ps n v, prefV g qs m] w fun e w' => e = .returned (.int .i64 (cmpP f ps n g qs m)) ∧ Tab w' G r (st + 1) ∧ Foot [G] [G] w w' := by
  have HC := fun W => Lib.hid (tabCompare_any f ps n v g qs m W hp hq lp lq)
  have H16 := Lib.hid hp
  generalize cmpP f ps n g qs m = R at *
  obtain ⟨cs, ds, ecs, eds, H1, H2, HB⟩ := ent_pref_boxed f ps n v g qs m w hp hq
  rw [ecs, eds]
  have HT := Lib.hid (hT.below HB.out)
  have hGL := hT.lt
  have HGL := Lib.hid hT.lt
  clear ecs eds hp hq lp lq hT
  go_enter Try.func48, Try.ntmps48
  go_upto_region 1 with fail
  generalize ((w.alloc (.cells cs 42)).alloc (.cells ds 32)) = W at *
  have hs := HT.out.steps
  have hf := HT.out.fsteps
  have hw1 : IntKind.i64.wrap (st + 1) = st + 1 := by rw [IntKind.wrap_i64]; omega
  go_upto_region 2 with fail
  have HT2 := Lib.hid (HT.out.setSteps (st + 1))
  have HF2 := Lib.hid ((Foot.ofBelow [G] HB.out).trans (foot_cell W G 1 (.int .i64 (st + 1))))
  have H12 : Hid (EntAt (W.setCell ⟨G, 1, none⟩ (.int .i64 (st + 1))) w.heap.size f ps n v) := Lib.hid ⟨H1.out.len, by rw [size_set]; exact H1.out.lt, range_foot (foot_cell W G 1 _) H1.out.range H1.out.lt (by simp; omega), World.there_setCells H1.out.there G 1 [_]⟩
  have H22 : Hid (PrefAt (W.setCell ⟨G, 1, none⟩ (.int .i64 (st + 1))) (w.heap.size + 1) g qs m) := Lib.hid (H2.out.foot (foot_cell W G 1 _) (by simp; omega))
  clear hs hf H1 H2 HT HB
  generalize W.setCell ⟨G, 1, none⟩ (.int .i64 (st + 1)) = V at *
  have H1p := Lib.hid H12.out.range
  go_wp2_with (first | refine load_entT_o H16 H1p _ rfl rfl rfl ?_ | refine load_pref_g H22 _ rfl rfl rfl ?_)
  refine (HC _).out.mono ?_
  rintro e w1 ⟨rfl, hb1⟩
  have HT3 := Lib.hid (HT2.out.below hb1)
  have HF3 := Lib.hid (HF2.out.trans (Foot.ofBelow [G] hb1))
  clear H12 H22 hb1 H1p HT2 HF2
  go_wp2_with fail
  go_ret
  exact ⟨rfl, HT3.out, HF3.out⟩
end Go.Proofs.Ytjpjobbmljlacaa
