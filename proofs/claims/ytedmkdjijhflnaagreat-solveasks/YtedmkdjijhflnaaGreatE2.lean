/- Texts that belong together, one behind the other: RefNameSt, RefNameFin, RefNameAny, RefWire1, RefWireRec, RefWireMay, RecRow, MaskN, RefMat1, AddrHeld, CeSame, RangeFar, AdrRow, RefWireMay2. -/
import Derived.Test.YtedmkdjijhflnaaGreatE1
import Derived.Maps.AppendAt
import Derived.Laws.OwnMore
import Derived.Deep.RegionHeld3
import Derived.Lib.SliceRun
set_option linter.unusedVariables false
set_option linter.unusedSimpArgs false
set_option maxRecDepth 20000
namespace Go.Proofs.YtedmkdjijhflnaaGreat
open Go.RowKit

theorem wp_append_num {op : Oper} {a : Act} {w : World} {K : Act → World → Prop} {Q : Exit → Act → World → Prop} {B G c : Nat} {v : Value} {l : List Nat} {p : Nat} (hown : Hid (w.ownsRow B 3 1 v l.length (intsL l))) (hm : Hid (w.cell? ⟨G, 0, none⟩ = some (.int .i64 (p : Int)))) (hn : Hid (l.length ≤ 2000000 ∧ B ≤ w.heap.size)) (sl x : Operand)
    (ho : op.op = .call { callee := .builtin .append, args := #[sl, x], argTypes := #[53, 53] }) (hs : a.eval sl = v) (hx : a.eval x = .slice (some ⟨G, 0, none⟩) 1 c)
    (h : ∀ v' w', Hid (w'.ownsRow B 3 1 v' (l ++ [p]).length (intsL (l ++ [p]))) → Hid (w.grownBy w' v.ownBlock) → Hid (Foot v.ownBlock.toList v'.ownBlock.toList w w') → K (a.put op.dst v') w') : op.wp Tryz.prog a w K Q := by
  obtain ⟨i0, hi0, hz0, hz1, hz2⟩ := info_parts Tryz.infoInt8
  obtain ⟨hn1, hn2⟩ := hn.out
  obtain ⟨v', w', hr, h2, h3, _, h5⟩ := run_append_own_at (P := Tryz.prog) w B 53 op.type 3 i0 _ 1 8 Tryz.underlying53 hi0 hz0 hz1 hz2 rfl (by decide) v l.length (intsL l) hown.out ⟨G, 0, none⟩ 1 c [.int .i64 (p : Int)] rfl (fun j u hu => by
      match j, hu with
      | 0, hu => rw [add_none, hm.out]; exact hu
      | j + 1, hu => simp at hu) (fun u hu => by rw [List.mem_singleton.1 hu]; rfl) (by unfold maxLen; omega) (by omega) hn2
  unfold Oper.wp execOp
  simp only [ho, resolve, invoke, builtin, Sem.run_bind, Sem.run_pure, Result.andThen_ok, List.map_toArray, List.map_cons, List.map_nil, hs, hx, hr]
  refine h v' w' (Lib.hid ?_) (Lib.hid h3) (Lib.hid (Foot.ofGrown h3 (h5.imp id (fun e g hg => by rw [e] at hg; cases hg; exact Nat.le_refl _))))
  simpa [intsL] using h2
abbrev nilS : Value := .slice none 0 0
def blk3 (vB vN vA : Value) : List Nat := vB.ownBlock.toList ++ vN.ownBlock.toList ++ vA.ownBlock.toList
theorem mem_blk3 {vB vN vA : Value} {k : Nat} : k ∈ blk3 vB vN vA ↔ vB.ownBlock = some k ∨ vN.ownBlock = some k ∨ vA.ownBlock = some k := by simp [blk3]
structure NSt (w : World) (B S0 : Nat) (F0 : List Nat) (aL : Option Addr) (cL : Nat) (L : List ByteArray) (wr : World) (vB vN vA : Value) (l : List UInt8) (ns : List ByteArray) (ats : List Nat) : Prop where
  box : WBox wr w.heap.size vB vN vA
  res : WBox wr (w.heap.size + 1) nilS nilS nilS
  rb : wr.ownsRow B 5 1 vB l.length (bys l)
  rn : wr.ownsRow B 9 1 vN ns.length (ns.map Value.string)
  ra : wr.ownsRow B 3 1 vA ats.length (intsL ats)
  lab : RowS wr aL cL L
  foot : Foot F0 (blk3 vB vN vA) w wr
  away : ∀ k ∈ blk3 vB vN vA, k < w.heap.size ∨ S0 ≤ k
  sz : S0 ≤ wr.heap.size
  base : B ≤ w.heap.size
  two : w.heap.size + 1 < S0
  fresh : ∀ g, aL = some ⟨g, 0, none⟩ → w.heap.size + 1 < g ∧ g < S0
theorem RowS.kept {w w' : World} {a : Option Addr} {c : Nat} {l : List ByteArray} (h : RowS w a c l) (hs : w.heap.size ≤ w'.heap.size) (hk : ∀ g, a = some ⟨g, 0, none⟩ → w'.heap[g]? = w.heap[g]?) : RowS w' a c l := by
  rcases h with h | ⟨g, e, h⟩
  · exact .inl h
  · exact .inr ⟨g, e, h.len, h.cap, h.capm, Nat.lt_of_lt_of_le h.lt hs, fun i hi => (World.cell?_of_block (a := ⟨g, i, none⟩) (hk g e)).trans (h.cells i hi)⟩
section
variable {w : World} {B S0 : Nat} {F0 : List Nat} {aL : Option Addr} {cL : Nat} {L : List ByteArray} {wr wr' : World} {vB vN vA : Value} {l : List UInt8} {ns : List ByteArray} {ats : List Nat}
theorem NSt.below (h : NSt w B S0 F0 aL cL L wr vB vN vA l ns ats) (hb : Below wr.heap.size wr wr') : NSt w B S0 F0 aL cL L wr' vB vN vA l ns ats :=
  ⟨h.box.kept (hb.block _ h.box.lt), h.res.kept (hb.block _ h.res.lt), own_below8 h.rb hb, own_below8 h.rn hb, own_below8 h.ra hb, h.lab.below hb, h.foot.trans (Foot.ofBelow _ hb), h.away, Nat.le_trans h.sz hb.size, h.base, h.two, h.fresh⟩
theorem NSt.put0 (h : NSt w B S0 F0 aL cL L wr vB vN vA l ns ats) {v' : Value} {l' : List UInt8} (hown : wr'.ownsRow B 5 1 v' l'.length (bys l')) (hg : wr.grownBy wr' vB.ownBlock) (hf : Foot vB.ownBlock.toList v'.ownBlock.toList wr wr') :
    NSt w B S0 F0 aL cL L (wr'.setCell ⟨w.heap.size, 0, none⟩ v') v' vN vA l' ns ats := by
  have hme : ∀ k, vB.ownBlock = some k → k < w.heap.size ∨ S0 ≤ k := fun k hk => h.away k (mem_blk3.2 (.inl hk))
  have hnew : ∀ k, v'.ownBlock = some k → vB.ownBlock = some k ∨ wr.heap.size ≤ k := fun k hk => (hf.new k (by rw [hk]; simp)).imp (fun e => by simpa using e) id
  have h2 := h.two
  have hsz := h.sz
  have hset : ∀ k, k ≠ w.heap.size → (wr'.setCell ⟨w.heap.size, 0, none⟩ v').heap[k]? = wr'.heap[k]? := fun k hk => Below.heap_setCell wr' ⟨w.heap.size, 0, none⟩ v' k hk
  have hold : ∀ k, k < wr.heap.size → vB.ownBlock ≠ some k → k ≠ w.heap.size → (wr'.setCell ⟨w.heap.size, 0, none⟩ v').heap[k]? = wr.heap[k]? := fun k h1 h3 h4 => (hset k h4).trans (hg.block k h1 (fun e => h3 e.symm))
  have hssz : (wr'.setCell ⟨w.heap.size, 0, none⟩ v').heap.size = wr'.heap.size := by simp [World.setCell]
  refine ⟨?_, ?_, ?_, ?_, ?_, ?_, ?_, ?_, ?_, h.base, h.two, h.fresh⟩
  · exact (h.box.kept (hg.block _ h.box.lt (fun e => by rcases hme _ e.symm with e | e <;> omega))).set0 v'
  · exact h.res.kept (hold _ h.res.lt (fun e => by rcases hme _ e with e | e <;> omega) (by omega))
  · exact own_kept hown (fun k hk => hset k (fun e => by
      subst e
      rcases hnew _ hk with e | e
      · rcases hme _ e with e | e <;> omega
      · omega))
  · exact own_kept (own_grown h.rb h.rn (by decide) hg) (fun k hk => hset k (fun e => by
      subst e
      rcases h.away _ (mem_blk3.2 (.inr (.inl hk))) with e | e <;> omega))
  · exact own_kept (own_grown h.rb h.ra (by decide) hg) (fun k hk => hset k (fun e => by
      subst e
      rcases h.away _ (mem_blk3.2 (.inr (.inr hk))) with e | e <;> omega))
  · refine h.lab.kept (by rw [hssz]; exact hg.size) (fun g hgL => ?_)
    have h3 := h.fresh g hgL
    exact hold g (by omega) (fun e => by rcases hme _ e with e | e <;> omega) (by omega)
  · refine ⟨hg.os.trans h.foot.os, hg.tape.trans h.foot.tape, hg.output.trans h.foot.output, by rw [hssz]; exact Nat.le_trans h.foot.size hg.size, fun k hk hn => ?_, fun k hk => ?_⟩
    · refine (hold k (Nat.lt_of_lt_of_le hk h.foot.size) (fun e => ?_) (by omega)).trans (h.foot.keep k hk hn)
      rcases h.foot.new k (mem_blk3.2 (.inl e)) with e | e
      · exact hn e
      · omega
    · rcases mem_blk3.1 hk with e | e | e
      · rcases hnew k e with e | e
        · exact h.foot.new k (mem_blk3.2 (.inl e))
        · exact .inr (Nat.le_trans h.foot.size e)
      · exact h.foot.new k (mem_blk3.2 (.inr (.inl e)))
      · exact h.foot.new k (mem_blk3.2 (.inr (.inr e)))
  · intro k hk
    rcases mem_blk3.1 hk with e | e | e
    · rcases hnew k e with e | e
      · exact hme k e
      · exact .inr (by omega)
    · exact h.away k (mem_blk3.2 (.inr (.inl e)))
    · exact h.away k (mem_blk3.2 (.inr (.inr e)))
  · rw [hssz]; exact Nat.le_trans h.sz hg.size
theorem NSt.put1 (h : NSt w B S0 F0 aL cL L wr vB vN vA l ns ats) {v' : Value} {ns' : List ByteArray} (hown : wr'.ownsRow B 9 1 v' ns'.length (ns'.map Value.string)) (hg : wr.grownBy wr' vN.ownBlock) (hf : Foot vN.ownBlock.toList v'.ownBlock.toList wr wr') :
    NSt w B S0 F0 aL cL L (wr'.setCell ⟨w.heap.size, 1, none⟩ v') vB v' vA l ns' ats := by
  have hme : ∀ k, vN.ownBlock = some k → k < w.heap.size ∨ S0 ≤ k := fun k hk => h.away k (mem_blk3.2 (.inr (.inl hk)))
  have hnew : ∀ k, v'.ownBlock = some k → vN.ownBlock = some k ∨ wr.heap.size ≤ k := fun k hk => (hf.new k (by rw [hk]; simp)).imp (fun e => by simpa using e) id
  have h2 := h.two
  have hsz := h.sz
  have hset : ∀ k, k ≠ w.heap.size → (wr'.setCell ⟨w.heap.size, 1, none⟩ v').heap[k]? = wr'.heap[k]? := fun k hk => Below.heap_setCell wr' ⟨w.heap.size, 1, none⟩ v' k hk
  have hold : ∀ k, k < wr.heap.size → vN.ownBlock ≠ some k → k ≠ w.heap.size → (wr'.setCell ⟨w.heap.size, 1, none⟩ v').heap[k]? = wr.heap[k]? := fun k h1 h3 h4 => (hset k h4).trans (hg.block k h1 (fun e => h3 e.symm))
  have hssz : (wr'.setCell ⟨w.heap.size, 1, none⟩ v').heap.size = wr'.heap.size := by simp [World.setCell]
  refine ⟨?_, ?_, ?_, ?_, ?_, ?_, ?_, ?_, ?_, h.base, h.two, h.fresh⟩
  · exact (h.box.kept (hg.block _ h.box.lt (fun e => by rcases hme _ e.symm with e | e <;> omega))).set1 v'
  · exact h.res.kept (hold _ h.res.lt (fun e => by rcases hme _ e with e | e <;> omega) (by omega))
  · exact own_kept (own_grown h.rn h.rb (by decide) hg) (fun k hk => hset k (fun e => by
      subst e
      rcases h.away _ (mem_blk3.2 (.inl hk)) with e | e <;> omega))
  · exact own_kept hown (fun k hk => hset k (fun e => by
      subst e
      rcases hnew _ hk with e | e
      · rcases hme _ e with e | e <;> omega
      · omega))
  · exact own_kept (own_grown h.rn h.ra (by decide) hg) (fun k hk => hset k (fun e => by
      subst e
      rcases h.away _ (mem_blk3.2 (.inr (.inr hk))) with e | e <;> omega))
  · refine h.lab.kept (by rw [hssz]; exact hg.size) (fun g hgL => ?_)
    have h3 := h.fresh g hgL
    exact hold g (by omega) (fun e => by rcases hme _ e with e | e <;> omega) (by omega)
  · refine ⟨hg.os.trans h.foot.os, hg.tape.trans h.foot.tape, hg.output.trans h.foot.output, by rw [hssz]; exact Nat.le_trans h.foot.size hg.size, fun k hk hn => ?_, fun k hk => ?_⟩
    · refine (hold k (Nat.lt_of_lt_of_le hk h.foot.size) (fun e => ?_) (by omega)).trans (h.foot.keep k hk hn)
      rcases h.foot.new k (mem_blk3.2 (.inr (.inl e))) with e | e
      · exact hn e
      · omega
    · rcases mem_blk3.1 hk with e | e | e
      · exact h.foot.new k (mem_blk3.2 (.inl e))
      · rcases hnew k e with e | e
        · exact h.foot.new k (mem_blk3.2 (.inr (.inl e)))
        · exact .inr (Nat.le_trans h.foot.size e)
      · exact h.foot.new k (mem_blk3.2 (.inr (.inr e)))
  · intro k hk
    rcases mem_blk3.1 hk with e | e | e
    · exact h.away k (mem_blk3.2 (.inl e))
    · rcases hnew k e with e | e
      · exact hme k e
      · exact .inr (by omega)
    · exact h.away k (mem_blk3.2 (.inr (.inr e)))
  · rw [hssz]; exact Nat.le_trans h.sz hg.size
theorem NSt.put2 (h : NSt w B S0 F0 aL cL L wr vB vN vA l ns ats) {v' : Value} {ats' : List Nat} (hown : wr'.ownsRow B 3 1 v' ats'.length (intsL ats')) (hg : wr.grownBy wr' vA.ownBlock) (hf : Foot vA.ownBlock.toList v'.ownBlock.toList wr wr') :
    NSt w B S0 F0 aL cL L (wr'.setCell ⟨w.heap.size, 2, none⟩ v') vB vN v' l ns ats' := by
  have hme : ∀ k, vA.ownBlock = some k → k < w.heap.size ∨ S0 ≤ k := fun k hk => h.away k (mem_blk3.2 (.inr (.inr hk)))
  have hnew : ∀ k, v'.ownBlock = some k → vA.ownBlock = some k ∨ wr.heap.size ≤ k := fun k hk => (hf.new k (by rw [hk]; simp)).imp (fun e => by simpa using e) id
  have h2 := h.two
  have hsz := h.sz
  have hset : ∀ k, k ≠ w.heap.size → (wr'.setCell ⟨w.heap.size, 2, none⟩ v').heap[k]? = wr'.heap[k]? := fun k hk => Below.heap_setCell wr' ⟨w.heap.size, 2, none⟩ v' k hk
  have hold : ∀ k, k < wr.heap.size → vA.ownBlock ≠ some k → k ≠ w.heap.size → (wr'.setCell ⟨w.heap.size, 2, none⟩ v').heap[k]? = wr.heap[k]? := fun k h1 h3 h4 => (hset k h4).trans (hg.block k h1 (fun e => h3 e.symm))
  have hssz : (wr'.setCell ⟨w.heap.size, 2, none⟩ v').heap.size = wr'.heap.size := by simp [World.setCell]
  refine ⟨?_, ?_, ?_, ?_, ?_, ?_, ?_, ?_, ?_, h.base, h.two, h.fresh⟩
  · exact (h.box.kept (hg.block _ h.box.lt (fun e => by rcases hme _ e.symm with e | e <;> omega))).set2 v'
  · exact h.res.kept (hold _ h.res.lt (fun e => by rcases hme _ e with e | e <;> omega) (by omega))
  · exact own_kept (own_grown h.ra h.rb (by decide) hg) (fun k hk => hset k (fun e => by
      subst e
      rcases h.away _ (mem_blk3.2 (.inl hk)) with e | e <;> omega))
  · exact own_kept (own_grown h.ra h.rn (by decide) hg) (fun k hk => hset k (fun e => by
      subst e
      rcases h.away _ (mem_blk3.2 (.inr (.inl hk))) with e | e <;> omega))
  · exact own_kept hown (fun k hk => hset k (fun e => by
      subst e
      rcases hnew _ hk with e | e
      · rcases hme _ e with e | e <;> omega
      · omega))
  · refine h.lab.kept (by rw [hssz]; exact hg.size) (fun g hgL => ?_)
    have h3 := h.fresh g hgL
    exact hold g (by omega) (fun e => by rcases hme _ e with e | e <;> omega) (by omega)
  · refine ⟨hg.os.trans h.foot.os, hg.tape.trans h.foot.tape, hg.output.trans h.foot.output, by rw [hssz]; exact Nat.le_trans h.foot.size hg.size, fun k hk hn => ?_, fun k hk => ?_⟩
    · refine (hold k (Nat.lt_of_lt_of_le hk h.foot.size) (fun e => ?_) (by omega)).trans (h.foot.keep k hk hn)
      rcases h.foot.new k (mem_blk3.2 (.inr (.inr e))) with e | e
      · exact hn e
      · omega
    · rcases mem_blk3.1 hk with e | e | e
      · exact h.foot.new k (mem_blk3.2 (.inl e))
      · exact h.foot.new k (mem_blk3.2 (.inr (.inl e)))
      · rcases hnew k e with e | e
        · exact h.foot.new k (mem_blk3.2 (.inr (.inr e)))
        · exact .inr (Nat.le_trans h.foot.size e)
  · intro k hk
    rcases mem_blk3.1 hk with e | e | e
    · exact h.away k (mem_blk3.2 (.inl e))
    · exact h.away k (mem_blk3.2 (.inr (.inl e)))
    · rcases hnew k e with e | e
      · exact hme k e
      · exact .inr (by omega)
  · rw [hssz]; exact Nat.le_trans h.sz hg.size
end
theorem refLabels_new (s : ByteArray) (w : World) (hs : s.size ≤ 2000000) :
    Calls Tryz.prog 91 #[.string s] w fun e w' => ∃ a c, e = .returned (.slice a (labelsB s).length c) ∧ RowS w' a c (labelsB s) ∧ (∀ g, a = some ⟨g, 0, none⟩ → w.heap.size ≤ g ∧ g < w'.heap.size) ∧ Below w.heap.size w w' := by
  by_cases h0 : s.size = 0
  · have he := isEmpty_true s h0
    have HE : Hid (labelsB s = []) := Lib.hid (by unfold labelsB; rw [if_pos h0])
    rw [HE.out]
    clear hs h0
    go_enter Tryz.func91, Tryz.ntmps91
    go_wp2_with fail
    go_ret
    exact ⟨none, 0, rfl, .inl ⟨rfl, rfl, rfl⟩, (fun g hg => by cases hg), Below.refl _ _⟩
  · have he := isEmpty_false s (by omega)
    have HE : Hid (labelsB s = pieces s 46) := Lib.hid (by unfold labelsB; rw [if_neg h0])
    have HSP := Lib.hid (refSplit_row s 46 w hs)
    rw [HE.out]
    generalize pieces s 46 = l at *
    clear hs h0 HE
    go_enter Tryz.func91, Tryz.ntmps91
    go_wp2_with fail
    refine HSP.out.mono ?_
    rintro e w1 ⟨g, c, rfl, hg, hr, hb⟩
    have HR := Lib.hid hr
    have HB := Lib.hid hb
    have HG := Lib.hid hg
    clear hr hb hg HSP
    go_wp2_with fail
    go_ret
    exact ⟨_, _, rfl, .inr ⟨g, rfl, HR.out⟩, (fun g2 hg2 => by cases hg2; exact ⟨HG.out, HR.out.lt⟩), HB.out⟩
end Go.Proofs.YtedmkdjijhflnaaGreat
namespace Go.Proofs.YtedmkdjijhflnaaGreat
open Go.RowKit

def NameRet (w : World) (B : Nat) (F0 : List Nat) (m : Bool) (R : List UInt8 × List ByteArray × List Nat) (e : Ending) (w' : World) : Prop :=
  ∃ vB vN vA, e = .returned (.tuple #[.agg #[vB, vN, vA], .bool m]) ∧ w'.ownsRow B 5 1 vB R.1.length (bys R.1) ∧ w'.ownsRow B 9 1 vN R.2.1.length (R.2.1.map Value.string) ∧ w'.ownsRow B 3 1 vA R.2.2.length (intsL R.2.2) ∧ Foot F0 (blk3 vB vN vA) w w'
theorem own_slice {w : World} {B : Nat} {t : TypeId} {z : Nat} {v : Value} {n : Nat} {xs : List Value} (h : w.ownsRow B t z v n xs) : ∃ a c, v = .slice a n c := by
  rcases h.2 with ⟨h1, h2⟩ | ⟨g, cap, cur, h1, _⟩
  · exact ⟨none, 0, by rw [h1, h2]⟩
  · exact ⟨_, _, h1⟩
theorem cells_new8 (w : World) (l : List Value) (t : TypeId) : ∀ j u, l[j]? = some u → (w.alloc (.cells l.toArray t)).cell? ⟨w.heap.size, j, none⟩ = some u := by
  intro j u h
  simp [World.cell?_alloc_new, h]
theorem WBox.range {w : World} {b : Nat} {vB vN vA : Value} (h : WBox w b vB vN vA) : w.rangeAt b 0 [vB, vN, vA] := by
  intro j u hu
  match j, hu with
  | 0, hu => cases hu; exact h.c0
  | 1, hu => cases hu; exact h.c1
  | 2, hu => cases hu; exact h.c2
  | j + 3, hu => simp at hu
theorem loadVar_W {w : World} {b : Nat} {vB vN vA : Value} (h : WBox w b vB vN vA) : (loadVar 133 ⟨b, 0, none⟩).run Tryz.prog w = .ok (.agg #[vB, vN, vA]) w :=
  run_loadVar_mid w b 0 133 [vB, vN, vA] _ h.range Tryz.underlying133 rfl (by kernel_rfl)
theorem results_W {fn : Func} {a t : Tmp} {tmps : Array Value} {W : World} {b : Nat} {vB vN vA : Value} (h : fn.results = #[.cell a 133, .tmp t]) (ha : tmps.getD a undef = .pointer (some ⟨b, 0, none⟩)) (hA : WBox W b vB vN vA) : (results fn tmps).run Tryz.prog W = .ok (.tuple #[.agg #[vB, vN, vA], tmps.getD t undef]) W := by
  rw [Array.getD_eq_getD_getElem?] at ha
  simp [results, h, ha, asAddr, loadVar_W hA]
theorem name_laid {w wr : World} {B : Nat} {F0 : List Nat} {m : Bool} {vB vN vA : Value} {l : List UInt8} {ns : List ByteArray} {ats : List Nat} (rb : wr.ownsRow B 5 1 vB l.length (bys l)) (rn : wr.ownsRow B 9 1 vN ns.length (ns.map Value.string)) (ra : wr.ownsRow B 3 1 vA ats.length (intsL ats)) (foot : Foot F0 (blk3 vB vN vA) w wr) (away : ∀ k ∈ blk3 vB vN vA, k ≠ w.heap.size + 1) :
    NameRet w B F0 m (l, ns, ats) (.returned (.tuple #[.agg #[vB, vN, vA], .bool m])) (((wr.setCell ⟨w.heap.size + 1, 0, none⟩ vB).setCell ⟨w.heap.size + 1, 1, none⟩ vN).setCell ⟨w.heap.size + 1, 2, none⟩ vA) := by
  have hset : ∀ k, k ≠ w.heap.size + 1 → (((wr.setCell ⟨w.heap.size + 1, 0, none⟩ vB).setCell ⟨w.heap.size + 1, 1, none⟩ vN).setCell ⟨w.heap.size + 1, 2, none⟩ vA).heap[k]? = wr.heap[k]? := fun k hk => by
    rw [Below.heap_setCell _ ⟨w.heap.size + 1, 2, none⟩ vA k hk, Below.heap_setCell _ ⟨w.heap.size + 1, 1, none⟩ vN k hk, Below.heap_setCell _ ⟨w.heap.size + 1, 0, none⟩ vB k hk]
  refine ⟨vB, vN, vA, rfl, own_kept rb (fun k hk => hset k (away k (mem_blk3.2 (.inl hk)))), own_kept rn (fun k hk => hset k (away k (mem_blk3.2 (.inr (.inl hk))))), own_kept ra (fun k hk => hset k (away k (mem_blk3.2 (.inr (.inr hk))))), foot.os, foot.tape, foot.output, ?_, fun k hk hn => (hset k (by omega)).trans (foot.keep k hk hn), foot.new⟩
  simp only [World.setCell, Array.size_modify]
  exact foot.size
theorem WBox.laid {w : World} {b : Nat} {v0 v1 v2 : Value} (h : WBox w b v0 v1 v2) (vB vN vA : Value) : WBox (((w.setCell ⟨b, 0, none⟩ vB).setCell ⟨b, 1, none⟩ vN).setCell ⟨b, 2, none⟩ vA) b vB vN vA := ((h.set0 vB).set1 vN).set2 vA
end Go.Proofs.YtedmkdjijhflnaaGreat
namespace Go.Proofs.YtedmkdjijhflnaaGreat
open Go.RowKit

theorem bys_two {A C : Nat} (hA : A ≤ 63) (hC : C < 256) : bys [UInt8.ofNat (192 + A), UInt8.ofNat C] = [.int .u8 (192 + (A : Int)), .int .u8 (C : Int)] := by
  unfold bys
  simp only [List.map_cons, List.map_nil, UInt8.toNat_ofNat']
  rw [Nat.mod_eq_of_lt (by omega), Nat.mod_eq_of_lt (by omega)]
  simp
theorem ready_one {P : Program} {md : Region.Mode} {ops : Array Oper} {Q : Exit → Act → World → Prop} {S : World → Prop} {fuel : Nat} {listed : Array Bool} {a : Act} {w : World} {i : Nat} {o : Oper} (ho : ops[i]? = some o) (hw : Region.wanted o (yielded ops a.tmps) = true)
    (h : ∀ K' : Act → World → Prop, Shut (∀ a w, S w → (S w → wpAnyH P md ops Q S fuel (listed.setIfInBounds i true) a w) → K' a w) → Oper.wp P o a w K' Q) : AllReadyH P md ops Q S fuel listed a w [i] :=
  AllReadyH.cons ho (fun K hK => by rw [if_pos hw]; exact h K hK) AllReadyH.nil
theorem bys_one (p : ByteArray) : bys [UInt8.ofNat p.size] = [.int .u8 ((p.size : Int) % 256)] := by
  unfold bys
  simp only [List.map_cons, List.map_nil, UInt8.toNat_ofNat']
  simp
theorem ptr_two (n : Nat) (h : n < 16384) : ∃ mm : List UInt8, mm.length = 2 ∧ [UInt8.ofNat (192 + n / 256), UInt8.ofNat (n % 256)] = mm ∧ bys mm = [.int .u8 (192 + (n : Int) / 256), .int .u8 ((n : Int) % 256)] := by
  refine ⟨_, rfl, rfl, ?_⟩
  rw [bys_two (by omega) (by omega)]
  rfl
set_option maxRecDepth 100000 in
set_option maxHeartbeats 4000000 in
theorem refName8_any (vB vN vA : Value) (l : List UInt8) (ns : List ByteArray) (ats : List Nat) (s : ByteArray) (w : World) (B : Nat) (hb : w.ownsRow B 5 1 vB l.length (bys l)) (hn : w.ownsRow B 9 1 vN ns.length (ns.map Value.string)) (ha : w.ownsRow B 3 1 vA ats.length (intsL ats)) (hB : B ≤ w.heap.size) (hlen : ats.length = ns.length) (hl : l.length ≤ 1000000) (hns : ns.length ≤ 1000000) (hsm : ∀ p ∈ ns, p.size ≤ 2000000) (hat : ∀ a ∈ ats, a < 16384) (hs : s.size ≤ 900) :
    Calls Tryz.prog 56 #[.agg #[vB, vN, vA], .string s] w (NameRet w B (blk3 vB vN vA) (mayN s) (if mayN s = true then nm8 s (labelsB s) ((labelsB s).length + 1) 0 l ns ats else (l, ns, ats))) := by
  obtain ⟨aB, cB, rfl⟩ := own_slice hb
  obtain ⟨aN, cN, rfl⟩ := own_slice hn
  obtain ⟨aA, cA, rfl⟩ := own_slice ha
  have HLEN := Lib.hid hlen
  have HMA := fun W => Lib.hid (refMay8_any s W (by omega))
  have HLA := fun W => Lib.hid (refLabels_new s W (by omega))
  have hln := labels_len s
  have hlb := labels_small s
  obtain ⟨W, hW⟩ : ∃ W, (w.alloc (.cells #[.slice aB l.length cB, .slice aN ns.length cN, .slice aA ats.length cA] 133)).alloc (.cells #[.slice none 0 0, .slice none 0 0, .slice none 0 0] 133) = W := ⟨_, rfl⟩
  have hb0 : Below w.heap.size w W := by rw [← hW]; exact ((Below.refl _ _).alloc (Nat.le_refl _) _).alloc (by simp) _
  have HB0 := Lib.hid hb0
  have hsz0 : W.heap.size = w.heap.size + 2 := by rw [← hW]; simp
  have HBX : Hid (WBox W w.heap.size (.slice aB l.length cB) (.slice aN ns.length cN) (.slice aA ats.length cA)) := Lib.hid (by rw [← hW]; exact (WBox.new w _ _ _).kept (((Below.refl _ _).alloc (Nat.le_refl _) _).block _ (WBox.new w _ _ _).lt))
  have HRX : Hid (WBox W (w.heap.size + 1) nilS nilS nilS) := Lib.hid (by
    have := WBox.new (w.alloc (.cells #[.slice aB l.length cB, .slice aN ns.length cN, .slice aA ats.length cA] 133)) nilS nilS nilS
    rw [World.size_alloc] at this
    rw [← hW]; exact this)
  have HRB := Lib.hid (own_below8 hb hb0)
  have HRN := Lib.hid (own_below8 hn hb0)
  have HRA := Lib.hid (own_below8 ha hb0)
  have HFB : Hid (∀ k ∈ blk3 (.slice aB l.length cB) (.slice aN ns.length cN) (.slice aA ats.length cA), k < w.heap.size) := Lib.hid (fun k hk => by
    rcases mem_blk3.1 hk with e | e | e
    · exact (hb.lt k e).2
    · exact (hn.lt k e).2
    · exact (ha.lt k e).2)
  obtain ⟨F0, hF0⟩ : ∃ F0, blk3 (.slice aB l.length cB) (.slice aN ns.length cN) (.slice aA ats.length cA) = F0 := ⟨_, rfl⟩
  have HF0 := Lib.hid hF0
  rw [hF0]
  obtain ⟨m, hm⟩ : ∃ m, mayN s = m := ⟨_, rfl⟩
  rw [hm] at HMA ⊢
  obtain ⟨R, hR⟩ : ∃ R, (if m = true then nm8 s (labelsB s) ((labelsB s).length + 1) 0 l ns ats else (l, ns, ats)) = R := ⟨_, rfl⟩
  have HR := Lib.hid hR
  rw [hR]
  clear hlen hF0 hR hm hb hn ha
  have HWW := Lib.hid hW
  clear hW
  go_enter Tryz.func56, Tryz.ntmps56
  go_upto_region 1 with fail
  rw [HWW.out]
  clear HWW
  go_wp2_with fail
  refine (HMA _).out.mono ?_
  rintro e w0 ⟨rfl, hbm⟩
  have hb1 := chain hb0 hbm
  have HB1 := Lib.hid hb1
  have HBX1 := Lib.hid (HBX.out.kept (hbm.block _ HBX.out.lt))
  have HRX1 := Lib.hid (HRX.out.kept (hbm.block _ HRX.out.lt))
  have HNB := Lib.hid (own_below8 HRB.out hbm)
  have HNN := Lib.hid (own_below8 HRN.out hbm)
  have HNA := Lib.hid (own_below8 HRA.out hbm)
  have hs1 := hbm.size
  clear hbm HBX HRX HMA HRB HRN HRA HB0 hb0
  cases m with
  | false =>
    rw [if_neg (by decide)] at HR
    have ER := HR.out
    subst ER
    have hc0 := HBX1.out.c0
    have hc1 := HBX1.out.c1
    have hc2 := HBX1.out.c2
    have hd0 := HRX1.out.c0
    have hd1 := HRX1.out.c1
    have hd2 := HRX1.out.c2
    have he0 := HRX1.out.f0
    have he1 := HRX1.out.f1
    have he2 := HRX1.out.f2
    have HE := Lib.hid (name_laid (m := false) HNB.out HNN.out HNA.out (show Foot F0 (blk3 (.slice aB l.length cB) (.slice aN ns.length cN) (.slice aA ats.length cA)) w w0 by rw [HF0.out]; exact Foot.ofBelow F0 hb1) (fun k hk => by have := HFB.out k hk; omega))
    have HX := Lib.hid (HRX1.out.laid (.slice aB l.length cB) (.slice aN ns.length cN) (.slice aA ats.length cA))
    clear HLA
    go_wp2_with fail
    refine bodyPost_ret (results_W Tryz.results56 rfl HX.out) rfl ?_
    exact HE.out
  | true =>
    rw [if_pos rfl] at HR
    clear hs1
    go_wp2_with fail
    refine (HLA _).out.mono ?_
    rintro e w1 ⟨aL, cL, rfl, hrL, hfr, hbl⟩
    have HST : Hid (NSt w B w1.heap.size F0 aL cL (labelsB s) w1 (.slice aB l.length cB) (.slice aN ns.length cN) (.slice aA ats.length cA) l ns ats) := Lib.hid ⟨HBX1.out.kept (hbl.block _ HBX1.out.lt), HRX1.out.kept (hbl.block _ HRX1.out.lt), own_below8 HNB.out hbl, own_below8 HNN.out hbl, own_below8 HNA.out hbl, hrL, by rw [HF0.out]; exact Foot.ofBelow F0 (chain hb1 hbl), (fun k hk => .inl (HFB.out k hk)), Nat.le_refl _, hB, by have := HRX1.out.lt; have := hbl.size; omega, fun g hg => by have := hfr g hg; have := HRX1.out.lt; omega⟩
    have HLS : Hid (∀ p ∈ labelsB s, p.size ≤ 900) := Lib.hid (fun p hp => Nat.le_trans (hlb p hp) hs)
    have HRE := fun k W hk => Lib.hid (refRest_any s k W hs hk)
    have HRZ := Lib.hid (fun k => rest_small s k hs)
    obtain ⟨N, hN⟩ : ∃ N, (labelsB s).length = N := ⟨_, rfl⟩
    have HN := Lib.hid hN
    rw [hN] at hln HR ⊢
    have HSM := Lib.hid hsm
    have HAT := Lib.hid hat
    obtain ⟨S0, hS0⟩ : ∃ S0, w1.heap.size = S0 := ⟨_, rfl⟩
    rw [hS0] at HST
    clear hrL hfr hbl HLA HBX1 HRX1 HNB HNN HNA HB1 hb1 hN hsm hat hlb hS0 HF0 HFB
    generalize labelsB s = L at *
    go_wp2_with fail
    go_loopw [8] (fun s8 wr => ∃ (i f : Nat) (l : List UInt8) (ns : List ByteArray) (ats : List Nat) (vB vN vA : Value), i ≤ N ∧ N + 1 ≤ i + f ∧ s8 = .int .i64 (i : Int) ∧ l.length ≤ 1000000 + i * 1000 ∧ ns.length ≤ 1000000 + i ∧ Hid (ats.length = ns.length) ∧ Hid (∀ p ∈ ns, p.size ≤ 2000000) ∧ Hid (∀ a ∈ ats, a < 16384) ∧ Hid (NSt w B S0 F0 aL cL L wr vB vN vA l ns ats) ∧ Hid (nm8 s L f i l ns ats = R)) (fun s8 _ => N - (intOf s8).toNat)
    case atStart => exact ⟨0, N + 1, l, ns, ats, _, _, _, Nat.zero_le _, by omega, rfl, by omega, by omega, HLEN, HSM, HAT, HST, HR⟩
    case round =>
      clear HST HR HSM HAT HLEN
      obtain ⟨i, f0, l, ns, ats, vB, vN, vA, hi, hif, rfl, hl, hns, HLEN, HSM, HAT, HST, HR⟩ := hrel
      obtain ⟨aB, cB, rfl⟩ := own_slice HST.out.rb
      obtain ⟨aN, cN, rfl⟩ := own_slice HST.out.rn
      obtain ⟨aA, cA, rfl⟩ := own_slice HST.out.ra
      obtain ⟨f, rfl⟩ : ∃ f, f0 = f + 1 := ⟨f0 - 1, by omega⟩
      unfold nm8 at HR
      rw [HN.out] at HR
      by_cases hiN : i < N
      · have hd : decide ((i : Int) < (N : Int)) = true := decide_eq_true (by omega)
        have hdn : decide (i < N) = true := decide_eq_true hiN
        rw [if_neg (by omega)] at HR
        go_wp2_with fail
        refine (HRE i _ (by omega)).out.mono ?_
        rintro e w2 ⟨rfl, hb2⟩
        have HS2 := Lib.hid (HST.out.below hb2)
        have hrz := HRZ.out i
        have HFI := Lib.hid (refFind8_any (.slice aB l.length cB) (.slice aN ns.length cN) (.slice aA ats.length cA) ns ats (restB s i) B B w2 HS2.out.rn HS2.out.ra HLEN.out (by omega) HSM.out hrz)
        have HMEM := Lib.hid (fun n (h : find8 ns ats (restB s i) = some n) => HAT.out n (find8_mem ns ats (restB s i) n h))
        generalize find8 ns ats (restB s i) = fr at *
        generalize restB s i = rest at *
        have hc0 := HS2.out.box.c0
        have hc1 := HS2.out.box.c1
        have hc2 := HS2.out.box.c2
        clear hb2 HST HRE HRZ
        rcases fr with _ | n
        · rw [show nxI none = -1 from rfl] at HFI
          go_wp2_with fail
          refine HFI.out.mono ?_
          rintro e w3 ⟨rfl, hb3⟩
          have HS3 := Lib.hid (HS2.out.below hb3)
          clear hb3 HFI HS2 hc0 hc1 hc2 HMEM
          try simp only at HR
          by_cases h16 : l.length < 16384
          · rw [if_pos h16, if_pos h16] at HR
            have hd13 : decide ((l.length : Int) < 16384) = true := decide_eq_true (by omega)
            have hd13n : decide (l.length < 16384) = true := decide_eq_true h16
            have HSx := Lib.hid (HS3.out.below (wr' := w3.alloc (.cells #[.string rest] 9)) ((Below.refl _ _).alloc (Nat.le_refl _) _))
            have HO1 := Lib.hid HSx.out.rn
            have HC1 : Hid ((w3.alloc (.cells #[.string rest] 9)).cell? ⟨w3.heap.size, 0, none⟩ = some (.string rest)) := Lib.hid (by rw [World.cell?_alloc_new]; rfl)
            have HN1 : Hid (ns.length ≤ 2000000 ∧ B ≤ (w3.alloc (.cells #[.string rest] 9)).heap.size) := Lib.hid ⟨by omega, by have := HSx.out.base; have := HSx.out.sz; have := HSx.out.two; omega⟩
            have hc0 := HS3.out.box.c0
            have hc1 := HS3.out.box.c1
            go_upto_region 15 with (at_builtin; refine wpList_plain rfl (fun K hK => wp_append_str (p := rest) HO1 HC1 HN1 _ _ rfl rfl rfl (fun v2 w4 HOw HGw HFw => hK _ _ ?_)); obtain ⟨nz, hnz⟩ : ∃ nz, ns ++ [rest] = nz := ⟨_, rfl⟩; rw [hnz] at HOw; have HNZ := Lib.hid hnz; clear hnz; obtain ⟨a2, c2, hv2⟩ := own_slice HOw.out; subst hv2; have hb4 := HSx.out.box.kept (w' := w4) (HGw.out.block _ HSx.out.box.lt (fun e => by have := HSx.out.two; rcases HSx.out.away _ (mem_blk3.2 (.inr (.inl e.symm))) with e | e <;> omega)); have hcc := hb4.c1; have hcf := hb4.f1)
            have HS4 := Lib.hid (HSx.out.put1 HOw.out HGw.out HFw.out)
            clear HSx HO1 HC1 HN1 HOw HGw HFw hb4 hcc hcf hc0 hc1 HS3
            generalize (w4.setCell ⟨w.heap.size, 1, none⟩ (.slice a2 nz.length c2)) = V4 at *
            have HSx := Lib.hid (HS4.out.below (wr' := V4.alloc (.cells #[.int .i64 (l.length : Int)] 3)) ((Below.refl _ _).alloc (Nat.le_refl _) _))
            have HO1 := Lib.hid HSx.out.ra
            have HC1 : Hid ((V4.alloc (.cells #[.int .i64 (l.length : Int)] 3)).cell? ⟨V4.heap.size, 0, none⟩ = some (.int .i64 ((l.length : Nat) : Int))) := Lib.hid (by rw [World.cell?_alloc_new]; rfl)
            have HN1 : Hid (ats.length ≤ 2000000 ∧ B ≤ (V4.alloc (.cells #[.int .i64 (l.length : Int)] 3)).heap.size) := Lib.hid ⟨by have := HLEN.out; omega, by have := HSx.out.base; have := HSx.out.sz; have := HSx.out.two; omega⟩
            have hc0 := HS4.out.box.c0
            have hc2 := HS4.out.box.c2
            go_upto_region 16 with (at_builtin; refine wpList_plain rfl (fun K hK => wp_append_num (p := l.length) HO1 HC1 HN1 _ _ rfl rfl rfl (fun v3 w5 HOw HGw HFw => hK _ _ ?_)); obtain ⟨az, haz⟩ : ∃ az, ats ++ [l.length] = az := ⟨_, rfl⟩; rw [haz] at HOw; have HAZ := Lib.hid haz; clear haz; obtain ⟨a3, c3, hv3⟩ := own_slice HOw.out; subst hv3; have hb4 := HSx.out.box.kept (w' := w5) (HGw.out.block _ HSx.out.box.lt (fun e => by have := HSx.out.two; rcases HSx.out.away _ (mem_blk3.2 (.inr (.inr e.symm))) with e | e <;> omega)); have hcc := hb4.c2; have hcf := hb4.f2)
            have HS5 := Lib.hid (HSx.out.put2 HOw.out HGw.out HFw.out)
            clear HSx HO1 HC1 HN1 HOw HGw HFw hb4 hcc hcf hc0 hc2 HS4
            generalize (w5.setCell ⟨w.heap.size, 2, none⟩ (.slice a3 az.length c3)) = V5 at *
            rw [HNZ.out, HAZ.out] at HR
            have HL2 : Hid (az.length = nz.length) := Lib.hid (by rw [← HAZ.out, ← HNZ.out]; simp [HLEN.out])
            have HSM2 : Hid (∀ p ∈ nz, p.size ≤ 2000000) := Lib.hid (fun p hp => by
              rw [← HNZ.out] at hp
              rcases List.mem_append.1 hp with hp | hp
              · exact HSM.out p hp
              · rw [List.mem_singleton.1 hp]; exact hrz)
            have HAT2 : Hid (∀ a ∈ az, a < 16384) := Lib.hid (fun a ha => by
              rw [← HAZ.out] at ha
              rcases List.mem_append.1 ha with ha | ha
              · exact HAT.out a ha
              · rw [List.mem_singleton.1 ha]; exact h16)
            have hns2 : nz.length ≤ 1000000 + (i + 1) := by rw [← HNZ.out]; simp; omega
            clear HNZ HAZ HLEN HSM HAT
            obtain ⟨gL, hgL, hcL⟩ : ∃ gL, aL = some ⟨gL, 0, none⟩ ∧ V5.cell? ⟨gL, i, none⟩ = some (.string (L.getD i ⟨#[]⟩)) := by
              rcases HS5.out.lab with ⟨_, _, h0⟩ | ⟨g, rfl, h⟩
              · rw [h0] at HN; have := HN.out; simp at this; omega
              · exact ⟨g, rfl, h.cells i (by rw [HN.out]; exact hiN)⟩
            subst hgL
            have hfr := HS5.out.fresh gL rfl
            have hzp : (L.getD i ⟨#[]⟩).size ≤ 900 := getD_small HLS.out i
            generalize L.getD i ⟨#[]⟩ = p at *
            obtain ⟨S, hS⟩ : ∃ S : World → Prop, (fun W => W.cell? ⟨gL, i, none⟩ = some (.string p)) = S := ⟨_, rfl⟩
            have CL : Hid (∀ w', S w' → w'.cell? ⟨gL, i, none⟩ = some (.string p)) := Lib.hid (fun w' h => by rw [← hS] at h; exact h)
            have HSk : Hid (∀ A A', S A → A'.heap[gL]? = A.heap[gL]? → S A') := Lib.hid (fun A A' h hk => by rw [← hS] at h ⊢; exact (World.cell?_of_block (a := ⟨gL, i, none⟩) hk).trans h)
            have HSD : Hid (S V5.drew) := Lib.hid (by rw [← hS]; exact hcL)
            have HS5d := Lib.hid (HS5.out.below (Below.refl _ _).drew)
            have hb1 : (0 : Int) ≤ (i : Int) := by omega
            have hb2 : (i : Int) < (N : Int) := by omega
            clear hS hcL HS5
            refine wp_region_noPanic ?_
            refine wp_region_held_drew (S := S) (by kernel_rfl) HSD.out (fun hHeld => ?_)
            generalize V5.drew = V at *
            have HSx := Lib.hid (HS5d.out.below (wr' := V.alloc (.cells #[.int .u8 ((p.size : Int) % 256)] 5)) ((Below.refl _ _).alloc (Nat.le_refl _) _))
            have HO1 := Lib.hid HSx.out.rb
            have HC1 : Hid (∀ j u, (bys [UInt8.ofNat p.size])[j]? = some u → (V.alloc (.cells #[.int .u8 ((p.size : Int) % 256)] 5)).cell? ⟨V.heap.size, j, none⟩ = some u) := Lib.hid (fun j u hu => cells_new8 V [.int .u8 ((p.size : Int) % 256)] 5 j u (by rw [← bys_one]; exact hu))
            have HN1 : Hid (l.length + ([UInt8.ofNat p.size] : List UInt8).length ≤ 1000000000 ∧ B ≤ (V.alloc (.cells #[.int .u8 ((p.size : Int) % 256)] 5)).heap.size) := Lib.hid ⟨by simp; omega, by have := HSx.out.base; have := HSx.out.sz; have := HSx.out.two; omega⟩
            have hSx := HSk.out V (V.alloc (.cells #[.int .u8 ((p.size : Int) % 256)] 5)) HSD.out (((Below.refl _ _).alloc (Nat.le_refl _) _).block gL (by have := HS5d.out.sz; omega))
            have hc0 := HS5d.out.box.c0
            have hx0 := HSx.out.box.c0
            clear HS5d
            refine tkT 0 ?_ rfl (Or.inl ⟨by rfl, ?_⟩) ?_
            rotate_left
            · (intro w hSw; go_simp; try (with_reducible rfl))
            try simp only [Act.put, pZ]
            refine tkT 2 ?_ rfl (Or.inl ⟨by rfl, ?_⟩) ?_
            rotate_left
            · (intro w hSw; go_simp; try (with_reducible rfl))
            try simp only [Act.put, pZ]
            refine tkT 3 ?_ rfl (Or.inl ⟨by rfl, ?_⟩) ?_
            rotate_left
            · (intro w hSw; go_simp; try (with_reducible rfl))
            try simp only [Act.put, pZ]
            refine tkT 4 ?_ rfl (Or.inl ⟨by rfl, ?_⟩) ?_
            rotate_left
            · (intro w hSw; go_simp; try (with_reducible rfl))
            try simp only [Act.put, pZ]
            refine tkT 5 ?_ rfl (Or.inl ⟨by rfl, ?_⟩) ?_
            rotate_left
            · (intro w hSw; have hc0 := CL.out w hSw; go_simp; try (with_reducible rfl))
            try simp only [Act.put, pZ]
            refine tkT 6 ?_ rfl (Or.inl ⟨by rfl, ?_⟩) ?_
            rotate_left
            · (intro w hSw; go_simp; try (with_reducible rfl))
            try simp only [Act.put, pZ]
            refine tkT 7 ?_ rfl (Or.inl ⟨by rfl, ?_⟩) ?_
            rotate_left
            · (intro w hSw; go_simp; try (with_reducible rfl))
            try simp only [Act.put, pZ]
            refine wpAnyH_ready (rs := [1, 8]) (by kernel_rfl) (by simp) ?_
            refine AllReadyH.cons rfl (fun K hK => ?_) (ready_one rfl rfl (fun K hK => ?_))
            · rw [if_pos (by rfl)]
              go_wp2_with fail
              refine hK.out _ _ hHeld (fun hHeld1 => ?_)
              clear hK K
              try simp only [Act.put, pZ]
              refine wpAnyH_ready (rs := [8]) (by kernel_rfl) (by simp) ?_
              refine ready_one rfl rfl (fun K hK => ?_)
              go_wp2_with fail
              refine hK.out _ _ hSx (fun hHeld2 => ?_)
              clear hK K
              try simp only [Act.put, pZ]
              refine wpAnyH_ready (rs := [9]) (by kernel_rfl) (by simp) ?_
              refine ready_one rfl rfl (fun K hK => ?_)
              refine wp_append_bytes (m := [UInt8.ofNat p.size]) HO1 HC1 HN1 _ _ rfl rfl rfl (fun v6 w6 HOw HGw HFw => ?_)
              obtain ⟨lz, hlz⟩ : ∃ lz, l ++ [UInt8.ofNat p.size] = lz := ⟨_, rfl⟩
              rw [hlz] at HOw
              have HLZ := Lib.hid hlz
              clear hlz
              obtain ⟨a6, c6, hv6⟩ := own_slice HOw.out
              subst hv6
              have hb6 := HSx.out.box.kept (w' := w6) (HGw.out.block _ HSx.out.box.lt (fun e => by have := HSx.out.two; rcases HSx.out.away _ (mem_blk3.2 (.inl e.symm)) with e | e <;> omega))
              have hcc := hb6.c0
              have hcf := hb6.f0
              have hS6 := HSk.out _ w6 hSx (HGw.out.block gL (Nat.lt_of_lt_of_le hfr.2 HSx.out.sz) (fun e => by rcases HSx.out.away _ (mem_blk3.2 (.inl e.symm)) with e | e <;> omega))
              refine hK.out _ _ hS6 (fun hHeld6 => ?_)
              clear hK K
              try simp only [Act.put, pZ]
              have HS6 := Lib.hid (HSx.out.put0 HOw.out HGw.out HFw.out)
              refine tkT 10 ?_ rfl (Or.inl ⟨by rfl, ?_⟩) ?_
              rotate_left
              · (intro w hSw; go_simp; try (with_reducible rfl))
              try simp only [Act.put, pZ]
              have hS7 := HSk.out _ (w6.setCell ⟨w.heap.size, 0, none⟩ (.slice a6 lz.length c6)) hS6 (Below.heap_setCell w6 ⟨w.heap.size, 0, none⟩ _ gL (show gL ≠ w.heap.size by omega))
              refine wpAnyH_ready (rs := [11]) (by kernel_rfl) (by simp) ?_
              refine ready_one rfl rfl (fun K hK => ?_)
              go_wp2_with fail
              refine hK.out _ _ hS7 (fun hHeld7 => ?_)
              clear hK K HO1 HC1 HN1 HOw HGw HFw hb6 hcc hcf HSx
              try simp only [Act.put, List.getElem_toArray, List.getElem_cons_zero, List.getElem_cons_succ]
              refine wpAnyH_done (by kernel_rfl) ?_ _
              refine NoPanic.normal ?_
              generalize (w6.setCell ⟨w.heap.size, 0, none⟩ (.slice a6 lz.length c6)) = V6 at *
              have HLZ2 : Hid (lz.length = l.length + 1) := Lib.hid (by rw [← HLZ.out]; simp)
              have HS6d := Lib.hid (HS6.out.below (Below.refl _ _).drew)
              have HSD7 : Hid (S V6.drew) := Lib.hid (HSk.out V6 V6.drew hS7 rfl)
              clear HS6 hS7
              go_wp2_with fail
              refine wp_region_noPanic ?_
              refine wp_region_held_drew (S := S) (by kernel_rfl) HSD7.out (fun hHeld8 => ?_)
              generalize V6.drew = V7 at *
              have hc7 := HS6d.out.box.c0
              have HO7 := Lib.hid HS6d.out.rb
              have HN7 : Hid (lz.length + p.size ≤ 1000000000 ∧ B ≤ V7.heap.size) := Lib.hid ⟨by have := HLZ2.out; omega, by have := HS6d.out.base; have := HS6d.out.sz; have := HS6d.out.two; omega⟩
              refine tkT 0 ?_ rfl (Or.inl ⟨by rfl, ?_⟩) ?_
              rotate_left
              · (intro w hSw; go_simp; try (with_reducible rfl))
              try simp only [Act.put, pZ]
              refine tkT 2 ?_ rfl (Or.inl ⟨by rfl, ?_⟩) ?_
              rotate_left
              · (intro w hSw; go_simp; try (with_reducible rfl))
              try simp only [Act.put, pZ]
              refine tkT 3 ?_ rfl (Or.inl ⟨by rfl, ?_⟩) ?_
              rotate_left
              · (intro w hSw; go_simp; try (with_reducible rfl))
              try simp only [Act.put, pZ]
              refine tkT 4 ?_ rfl (Or.inl ⟨by rfl, ?_⟩) ?_
              rotate_left
              · (intro w hSw; go_simp; try (with_reducible rfl))
              try simp only [Act.put, pZ]
              refine tkT 5 ?_ rfl (Or.inl ⟨by rfl, ?_⟩) ?_
              rotate_left
              · (intro w hSw; have hc0 := CL.out w hSw; go_simp; try (with_reducible rfl))
              try simp only [Act.put, pZ]
              refine wpAnyH_ready (rs := [1]) (by kernel_rfl) (by simp) ?_
              refine AllReadyH.cons rfl (fun K hK => ?_) AllReadyH.nil
              rw [if_pos (by rfl)]
              go_wp2_with fail
              refine hK.out _ _ HSD7.out (fun hHeld9 => ?_)
              clear hK K
              try simp only [Act.put, pZ]
              refine wpAnyH_ready (rs := [6]) (by kernel_rfl) (by simp) ?_
              refine ready_one rfl rfl (fun K hK => ?_)
              refine wp_append_text (s := p) HO7 HN7 _ _ rfl rfl rfl (fun v8 w8 HOw HGw HFw => ?_)
              obtain ⟨ly, hly⟩ : ∃ ly, lz ++ p.data.toList = ly := ⟨_, rfl⟩
              rw [hly] at HOw
              have HLY := Lib.hid hly
              clear hly
              obtain ⟨a8, c8, hv8⟩ := own_slice HOw.out
              subst hv8
              have hb8 := HS6d.out.box.kept (w' := w8) (HGw.out.block _ HS6d.out.box.lt (fun e => by have := HS6d.out.two; rcases HS6d.out.away _ (mem_blk3.2 (.inl e.symm)) with e | e <;> omega))
              have hcc := hb8.c0
              have hcf := hb8.f0
              have hS8 := HSk.out _ w8 HSD7.out (HGw.out.block gL (Nat.lt_of_lt_of_le hfr.2 HS6d.out.sz) (fun e => by rcases HS6d.out.away _ (mem_blk3.2 (.inl e.symm)) with e | e <;> omega))
              refine hK.out _ _ hS8 (fun hHelda => ?_)
              clear hK K
              try simp only [Act.put, pZ]
              have HS8 := Lib.hid (HS6d.out.put0 HOw.out HGw.out HFw.out)
              have hS9 := HSk.out _ (w8.setCell ⟨w.heap.size, 0, none⟩ (.slice a8 ly.length c8)) hS8 (Below.heap_setCell w8 ⟨w.heap.size, 0, none⟩ _ gL (show gL ≠ w.heap.size by omega))
              refine tkT 7 ?_ rfl (Or.inl ⟨by rfl, ?_⟩) ?_
              rotate_left
              · (intro w hSw; go_simp; try (with_reducible rfl))
              try simp only [Act.put, pZ]
              refine wpAnyH_ready (rs := [8]) (by kernel_rfl) (by simp) ?_
              refine ready_one rfl rfl (fun K hK => ?_)
              go_wp2_with fail
              refine hK.out _ _ hS9 (fun hHeldb => ?_)
              clear hK K HO7 HN7 HOw HGw HFw hb8 hcc hcf HS6d hc7
              try simp only [Act.put, List.getElem_toArray, List.getElem_cons_zero, List.getElem_cons_succ]
              refine wpAnyH_done (by kernel_rfl) ?_ _
              refine NoPanic.normal ?_
              generalize (w8.setCell ⟨w.heap.size, 0, none⟩ (.slice a8 ly.length c8)) = V8 at *
              have HRf : Hid (nm8 s L f (i + 1) ly nz az = R) := Lib.hid (by rw [← HLY.out, ← HLZ.out, List.append_assoc]; exact HR.out)
              have hlyl : ly.length ≤ 1000000 + (i + 1) * 1000 := by
                have e : p.data.toList.length = p.size := Array.length_toList
                rw [← HLY.out, List.length_append, e, HLZ2.out]
                omega
              clear HR HLY HLZ HLZ2 HSD7 HSk CL
              go_wp2_with fail
              go_roundw
              case rel => exact ⟨i + 1, f, ly, nz, az, _, _, _, by omega, by omega, by go_num, hlyl, hns2, HL2, HSM2, HAT2, HS8, HRf⟩
              case measure => simp [intOf]; omega
            · go_wp2_with fail
              refine hK.out _ _ hSx (fun hHeld1 => ?_)
              clear hK K
              try simp only [Act.put, pZ]
              generalize (V.alloc (.cells #[.int .u8 ((p.size : Int) % 256)] 5)) = X at *
              generalize V.heap.size = GX at *
              refine wpAnyH_ready (rs := [1]) (by kernel_rfl) (by simp) ?_
              refine AllReadyH.cons rfl (fun K hK => ?_) AllReadyH.nil
              rw [if_pos (by rfl)]
              go_wp2_with fail
              refine hK.out _ _ hSx (fun hHeld2 => ?_)
              clear hK K
              try simp only [Act.put, pZ]
              refine wpAnyH_ready (rs := [9]) (by kernel_rfl) (by simp) ?_
              refine ready_one rfl rfl (fun K hK => ?_)
              refine wp_append_bytes (m := [UInt8.ofNat p.size]) HO1 HC1 HN1 _ _ rfl rfl rfl (fun v6 w6 HOw HGw HFw => ?_)
              obtain ⟨lz, hlz⟩ : ∃ lz, l ++ [UInt8.ofNat p.size] = lz := ⟨_, rfl⟩
              rw [hlz] at HOw
              have HLZ := Lib.hid hlz
              clear hlz
              obtain ⟨a6, c6, hv6⟩ := own_slice HOw.out
              subst hv6
              have hb6 := HSx.out.box.kept (w' := w6) (HGw.out.block _ HSx.out.box.lt (fun e => by have := HSx.out.two; rcases HSx.out.away _ (mem_blk3.2 (.inl e.symm)) with e | e <;> omega))
              have hcc := hb6.c0
              have hcf := hb6.f0
              have hS6 := HSk.out _ w6 hSx (HGw.out.block gL (Nat.lt_of_lt_of_le hfr.2 HSx.out.sz) (fun e => by rcases HSx.out.away _ (mem_blk3.2 (.inl e.symm)) with e | e <;> omega))
              refine hK.out _ _ hS6 (fun hHeld6 => ?_)
              clear hK K
              try simp only [Act.put, pZ]
              have HS6 := Lib.hid (HSx.out.put0 HOw.out HGw.out HFw.out)
              refine tkT 10 ?_ rfl (Or.inl ⟨by rfl, ?_⟩) ?_
              rotate_left
              · (intro w hSw; go_simp; try (with_reducible rfl))
              try simp only [Act.put, pZ]
              have hS7 := HSk.out _ (w6.setCell ⟨w.heap.size, 0, none⟩ (.slice a6 lz.length c6)) hS6 (Below.heap_setCell w6 ⟨w.heap.size, 0, none⟩ _ gL (show gL ≠ w.heap.size by omega))
              refine wpAnyH_ready (rs := [11]) (by kernel_rfl) (by simp) ?_
              refine ready_one rfl rfl (fun K hK => ?_)
              go_wp2_with fail
              refine hK.out _ _ hS7 (fun hHeld7 => ?_)
              clear hK K HO1 HC1 HN1 HOw HGw HFw hb6 hcc hcf HSx
              try simp only [Act.put, List.getElem_toArray, List.getElem_cons_zero, List.getElem_cons_succ]
              refine wpAnyH_done (by kernel_rfl) ?_ _
              refine NoPanic.normal ?_
              generalize (w6.setCell ⟨w.heap.size, 0, none⟩ (.slice a6 lz.length c6)) = V6 at *
              have HLZ2 : Hid (lz.length = l.length + 1) := Lib.hid (by rw [← HLZ.out]; simp)
              have HS6d := Lib.hid (HS6.out.below (Below.refl _ _).drew)
              have HSD7 : Hid (S V6.drew) := Lib.hid (HSk.out V6 V6.drew hS7 rfl)
              clear HS6 hS7
              go_wp2_with fail
              refine wp_region_noPanic ?_
              refine wp_region_held_drew (S := S) (by kernel_rfl) HSD7.out (fun hHeld8 => ?_)
              generalize V6.drew = V7 at *
              have hc7 := HS6d.out.box.c0
              have HO7 := Lib.hid HS6d.out.rb
              have HN7 : Hid (lz.length + p.size ≤ 1000000000 ∧ B ≤ V7.heap.size) := Lib.hid ⟨by have := HLZ2.out; omega, by have := HS6d.out.base; have := HS6d.out.sz; have := HS6d.out.two; omega⟩
              refine tkT 0 ?_ rfl (Or.inl ⟨by rfl, ?_⟩) ?_
              rotate_left
              · (intro w hSw; go_simp; try (with_reducible rfl))
              try simp only [Act.put, pZ]
              refine tkT 2 ?_ rfl (Or.inl ⟨by rfl, ?_⟩) ?_
              rotate_left
              · (intro w hSw; go_simp; try (with_reducible rfl))
              try simp only [Act.put, pZ]
              refine tkT 3 ?_ rfl (Or.inl ⟨by rfl, ?_⟩) ?_
              rotate_left
              · (intro w hSw; go_simp; try (with_reducible rfl))
              try simp only [Act.put, pZ]
              refine tkT 4 ?_ rfl (Or.inl ⟨by rfl, ?_⟩) ?_
              rotate_left
              · (intro w hSw; go_simp; try (with_reducible rfl))
              try simp only [Act.put, pZ]
              refine tkT 5 ?_ rfl (Or.inl ⟨by rfl, ?_⟩) ?_
              rotate_left
              · (intro w hSw; have hc0 := CL.out w hSw; go_simp; try (with_reducible rfl))
              try simp only [Act.put, pZ]
              refine wpAnyH_ready (rs := [1]) (by kernel_rfl) (by simp) ?_
              refine AllReadyH.cons rfl (fun K hK => ?_) AllReadyH.nil
              rw [if_pos (by rfl)]
              go_wp2_with fail
              refine hK.out _ _ HSD7.out (fun hHeld9 => ?_)
              clear hK K
              try simp only [Act.put, pZ]
              refine wpAnyH_ready (rs := [6]) (by kernel_rfl) (by simp) ?_
              refine ready_one rfl rfl (fun K hK => ?_)
              refine wp_append_text (s := p) HO7 HN7 _ _ rfl rfl rfl (fun v8 w8 HOw HGw HFw => ?_)
              obtain ⟨ly, hly⟩ : ∃ ly, lz ++ p.data.toList = ly := ⟨_, rfl⟩
              rw [hly] at HOw
              have HLY := Lib.hid hly
              clear hly
              obtain ⟨a8, c8, hv8⟩ := own_slice HOw.out
              subst hv8
              have hb8 := HS6d.out.box.kept (w' := w8) (HGw.out.block _ HS6d.out.box.lt (fun e => by have := HS6d.out.two; rcases HS6d.out.away _ (mem_blk3.2 (.inl e.symm)) with e | e <;> omega))
              have hcc := hb8.c0
              have hcf := hb8.f0
              have hS8 := HSk.out _ w8 HSD7.out (HGw.out.block gL (Nat.lt_of_lt_of_le hfr.2 HS6d.out.sz) (fun e => by rcases HS6d.out.away _ (mem_blk3.2 (.inl e.symm)) with e | e <;> omega))
              refine hK.out _ _ hS8 (fun hHelda => ?_)
              clear hK K
              try simp only [Act.put, pZ]
              have HS8 := Lib.hid (HS6d.out.put0 HOw.out HGw.out HFw.out)
              have hS9 := HSk.out _ (w8.setCell ⟨w.heap.size, 0, none⟩ (.slice a8 ly.length c8)) hS8 (Below.heap_setCell w8 ⟨w.heap.size, 0, none⟩ _ gL (show gL ≠ w.heap.size by omega))
              refine tkT 7 ?_ rfl (Or.inl ⟨by rfl, ?_⟩) ?_
              rotate_left
              · (intro w hSw; go_simp; try (with_reducible rfl))
              try simp only [Act.put, pZ]
              refine wpAnyH_ready (rs := [8]) (by kernel_rfl) (by simp) ?_
              refine ready_one rfl rfl (fun K hK => ?_)
              go_wp2_with fail
              refine hK.out _ _ hS9 (fun hHeldb => ?_)
              clear hK K HO7 HN7 HOw HGw HFw hb8 hcc hcf HS6d hc7
              try simp only [Act.put, List.getElem_toArray, List.getElem_cons_zero, List.getElem_cons_succ]
              refine wpAnyH_done (by kernel_rfl) ?_ _
              refine NoPanic.normal ?_
              generalize (w8.setCell ⟨w.heap.size, 0, none⟩ (.slice a8 ly.length c8)) = V8 at *
              have HRf : Hid (nm8 s L f (i + 1) ly nz az = R) := Lib.hid (by rw [← HLY.out, ← HLZ.out, List.append_assoc]; exact HR.out)
              have hlyl : ly.length ≤ 1000000 + (i + 1) * 1000 := by
                have e : p.data.toList.length = p.size := Array.length_toList
                rw [← HLY.out, List.length_append, e, HLZ2.out]
                omega
              clear HR HLY HLZ HLZ2 HSD7 HSk CL
              go_wp2_with fail
              go_roundw
              case rel => exact ⟨i + 1, f, ly, nz, az, _, _, _, by omega, by omega, by go_num, hlyl, hns2, HL2, HSM2, HAT2, HS8, HRf⟩
              case measure => simp [intOf]; omega
          · rw [if_neg h16, if_neg h16] at HR
            have hd13 : decide ((l.length : Int) < 16384) = false := decide_eq_false (by omega)
            have hd13n : decide (l.length < 16384) = false := decide_eq_false h16
            have hq0 := HS3.out.box.c0
            go_upto_region 16 with fail
            clear hq0
            obtain ⟨gL, hgL, hcL⟩ : ∃ gL, aL = some ⟨gL, 0, none⟩ ∧ w3.cell? ⟨gL, i, none⟩ = some (.string (L.getD i ⟨#[]⟩)) := by
              rcases HS3.out.lab with ⟨_, _, h0⟩ | ⟨g, rfl, h⟩
              · rw [h0] at HN; have := HN.out; simp at this; omega
              · exact ⟨g, rfl, h.cells i (by rw [HN.out]; exact hiN)⟩
            subst hgL
            have hfr := HS3.out.fresh gL rfl
            have hzp : (L.getD i ⟨#[]⟩).size ≤ 900 := getD_small HLS.out i
            generalize L.getD i ⟨#[]⟩ = p at *
            obtain ⟨S, hS⟩ : ∃ S : World → Prop, (fun W => W.cell? ⟨gL, i, none⟩ = some (.string p)) = S := ⟨_, rfl⟩
            have CL : Hid (∀ w', S w' → w'.cell? ⟨gL, i, none⟩ = some (.string p)) := Lib.hid (fun w' h => by rw [← hS] at h; exact h)
            have HSk : Hid (∀ A A', S A → A'.heap[gL]? = A.heap[gL]? → S A') := Lib.hid (fun A A' h hk => by rw [← hS] at h ⊢; exact (World.cell?_of_block (a := ⟨gL, i, none⟩) hk).trans h)
            have HSD : Hid (S w3.drew) := Lib.hid (by rw [← hS]; exact hcL)
            have HS5d := Lib.hid (HS3.out.below (Below.refl _ _).drew)
            have hb1 : (0 : Int) ≤ (i : Int) := by omega
            have hb2 : (i : Int) < (N : Int) := by omega
            clear hS hcL HS3
            refine wp_region_noPanic ?_
            refine wp_region_held_drew (S := S) (by kernel_rfl) HSD.out (fun hHeld => ?_)
            generalize w3.drew = V at *
            have HSx := Lib.hid (HS5d.out.below (wr' := V.alloc (.cells #[.int .u8 ((p.size : Int) % 256)] 5)) ((Below.refl _ _).alloc (Nat.le_refl _) _))
            have HO1 := Lib.hid HSx.out.rb
            have HC1 : Hid (∀ j u, (bys [UInt8.ofNat p.size])[j]? = some u → (V.alloc (.cells #[.int .u8 ((p.size : Int) % 256)] 5)).cell? ⟨V.heap.size, j, none⟩ = some u) := Lib.hid (fun j u hu => cells_new8 V [.int .u8 ((p.size : Int) % 256)] 5 j u (by rw [← bys_one]; exact hu))
            have HN1 : Hid (l.length + ([UInt8.ofNat p.size] : List UInt8).length ≤ 1000000000 ∧ B ≤ (V.alloc (.cells #[.int .u8 ((p.size : Int) % 256)] 5)).heap.size) := Lib.hid ⟨by simp; omega, by have := HSx.out.base; have := HSx.out.sz; have := HSx.out.two; omega⟩
            have hSx := HSk.out V (V.alloc (.cells #[.int .u8 ((p.size : Int) % 256)] 5)) HSD.out (((Below.refl _ _).alloc (Nat.le_refl _) _).block gL (by have := HS5d.out.sz; omega))
            have hc0 := HS5d.out.box.c0
            have hx0 := HSx.out.box.c0
            clear HS5d
            refine tkT 0 ?_ rfl (Or.inl ⟨by rfl, ?_⟩) ?_
            rotate_left
            · (intro w hSw; go_simp; try (with_reducible rfl))
            try simp only [Act.put, pZ]
            refine tkT 2 ?_ rfl (Or.inl ⟨by rfl, ?_⟩) ?_
            rotate_left
            · (intro w hSw; go_simp; try (with_reducible rfl))
            try simp only [Act.put, pZ]
            refine tkT 3 ?_ rfl (Or.inl ⟨by rfl, ?_⟩) ?_
            rotate_left
            · (intro w hSw; go_simp; try (with_reducible rfl))
            try simp only [Act.put, pZ]
            refine tkT 4 ?_ rfl (Or.inl ⟨by rfl, ?_⟩) ?_
            rotate_left
            · (intro w hSw; go_simp; try (with_reducible rfl))
            try simp only [Act.put, pZ]
            refine tkT 5 ?_ rfl (Or.inl ⟨by rfl, ?_⟩) ?_
            rotate_left
            · (intro w hSw; have hc0 := CL.out w hSw; go_simp; try (with_reducible rfl))
            try simp only [Act.put, pZ]
            refine tkT 6 ?_ rfl (Or.inl ⟨by rfl, ?_⟩) ?_
            rotate_left
            · (intro w hSw; go_simp; try (with_reducible rfl))
            try simp only [Act.put, pZ]
            refine tkT 7 ?_ rfl (Or.inl ⟨by rfl, ?_⟩) ?_
            rotate_left
            · (intro w hSw; go_simp; try (with_reducible rfl))
            try simp only [Act.put, pZ]
            refine wpAnyH_ready (rs := [1, 8]) (by kernel_rfl) (by simp) ?_
            refine AllReadyH.cons rfl (fun K hK => ?_) (ready_one rfl rfl (fun K hK => ?_))
            · rw [if_pos (by rfl)]
              go_wp2_with fail
              refine hK.out _ _ hHeld (fun hHeld1 => ?_)
              clear hK K
              try simp only [Act.put, pZ]
              refine wpAnyH_ready (rs := [8]) (by kernel_rfl) (by simp) ?_
              refine ready_one rfl rfl (fun K hK => ?_)
              go_wp2_with fail
              refine hK.out _ _ hSx (fun hHeld2 => ?_)
              clear hK K
              try simp only [Act.put, pZ]
              refine wpAnyH_ready (rs := [9]) (by kernel_rfl) (by simp) ?_
              refine ready_one rfl rfl (fun K hK => ?_)
              refine wp_append_bytes (m := [UInt8.ofNat p.size]) HO1 HC1 HN1 _ _ rfl rfl rfl (fun v6 w6 HOw HGw HFw => ?_)
              obtain ⟨lz, hlz⟩ : ∃ lz, l ++ [UInt8.ofNat p.size] = lz := ⟨_, rfl⟩
              rw [hlz] at HOw
              have HLZ := Lib.hid hlz
              clear hlz
              obtain ⟨a6, c6, hv6⟩ := own_slice HOw.out
              subst hv6
              have hb6 := HSx.out.box.kept (w' := w6) (HGw.out.block _ HSx.out.box.lt (fun e => by have := HSx.out.two; rcases HSx.out.away _ (mem_blk3.2 (.inl e.symm)) with e | e <;> omega))
              have hcc := hb6.c0
              have hcf := hb6.f0
              have hS6 := HSk.out _ w6 hSx (HGw.out.block gL (Nat.lt_of_lt_of_le hfr.2 HSx.out.sz) (fun e => by rcases HSx.out.away _ (mem_blk3.2 (.inl e.symm)) with e | e <;> omega))
              refine hK.out _ _ hS6 (fun hHeld6 => ?_)
              clear hK K
              try simp only [Act.put, pZ]
              have HS6 := Lib.hid (HSx.out.put0 HOw.out HGw.out HFw.out)
              refine tkT 10 ?_ rfl (Or.inl ⟨by rfl, ?_⟩) ?_
              rotate_left
              · (intro w hSw; go_simp; try (with_reducible rfl))
              try simp only [Act.put, pZ]
              have hS7 := HSk.out _ (w6.setCell ⟨w.heap.size, 0, none⟩ (.slice a6 lz.length c6)) hS6 (Below.heap_setCell w6 ⟨w.heap.size, 0, none⟩ _ gL (show gL ≠ w.heap.size by omega))
              refine wpAnyH_ready (rs := [11]) (by kernel_rfl) (by simp) ?_
              refine ready_one rfl rfl (fun K hK => ?_)
              go_wp2_with fail
              refine hK.out _ _ hS7 (fun hHeld7 => ?_)
              clear hK K HO1 HC1 HN1 HOw HGw HFw hb6 hcc hcf HSx
              try simp only [Act.put, List.getElem_toArray, List.getElem_cons_zero, List.getElem_cons_succ]
              refine wpAnyH_done (by kernel_rfl) ?_ _
              refine NoPanic.normal ?_
              generalize (w6.setCell ⟨w.heap.size, 0, none⟩ (.slice a6 lz.length c6)) = V6 at *
              have HLZ2 : Hid (lz.length = l.length + 1) := Lib.hid (by rw [← HLZ.out]; simp)
              have HS6d := Lib.hid (HS6.out.below (Below.refl _ _).drew)
              have HSD7 : Hid (S V6.drew) := Lib.hid (HSk.out V6 V6.drew hS7 rfl)
              clear HS6 hS7
              go_wp2_with fail
              refine wp_region_noPanic ?_
              refine wp_region_held_drew (S := S) (by kernel_rfl) HSD7.out (fun hHeld8 => ?_)
              generalize V6.drew = V7 at *
              have hc7 := HS6d.out.box.c0
              have HO7 := Lib.hid HS6d.out.rb
              have HN7 : Hid (lz.length + p.size ≤ 1000000000 ∧ B ≤ V7.heap.size) := Lib.hid ⟨by have := HLZ2.out; omega, by have := HS6d.out.base; have := HS6d.out.sz; have := HS6d.out.two; omega⟩
              refine tkT 0 ?_ rfl (Or.inl ⟨by rfl, ?_⟩) ?_
              rotate_left
              · (intro w hSw; go_simp; try (with_reducible rfl))
              try simp only [Act.put, pZ]
              refine tkT 2 ?_ rfl (Or.inl ⟨by rfl, ?_⟩) ?_
              rotate_left
              · (intro w hSw; go_simp; try (with_reducible rfl))
              try simp only [Act.put, pZ]
              refine tkT 3 ?_ rfl (Or.inl ⟨by rfl, ?_⟩) ?_
              rotate_left
              · (intro w hSw; go_simp; try (with_reducible rfl))
              try simp only [Act.put, pZ]
              refine tkT 4 ?_ rfl (Or.inl ⟨by rfl, ?_⟩) ?_
              rotate_left
              · (intro w hSw; go_simp; try (with_reducible rfl))
              try simp only [Act.put, pZ]
              refine tkT 5 ?_ rfl (Or.inl ⟨by rfl, ?_⟩) ?_
              rotate_left
              · (intro w hSw; have hc0 := CL.out w hSw; go_simp; try (with_reducible rfl))
              try simp only [Act.put, pZ]
              refine wpAnyH_ready (rs := [1]) (by kernel_rfl) (by simp) ?_
              refine AllReadyH.cons rfl (fun K hK => ?_) AllReadyH.nil
              rw [if_pos (by rfl)]
              go_wp2_with fail
              refine hK.out _ _ HSD7.out (fun hHeld9 => ?_)
              clear hK K
              try simp only [Act.put, pZ]
              refine wpAnyH_ready (rs := [6]) (by kernel_rfl) (by simp) ?_
              refine ready_one rfl rfl (fun K hK => ?_)
              refine wp_append_text (s := p) HO7 HN7 _ _ rfl rfl rfl (fun v8 w8 HOw HGw HFw => ?_)
              obtain ⟨ly, hly⟩ : ∃ ly, lz ++ p.data.toList = ly := ⟨_, rfl⟩
              rw [hly] at HOw
              have HLY := Lib.hid hly
              clear hly
              obtain ⟨a8, c8, hv8⟩ := own_slice HOw.out
              subst hv8
              have hb8 := HS6d.out.box.kept (w' := w8) (HGw.out.block _ HS6d.out.box.lt (fun e => by have := HS6d.out.two; rcases HS6d.out.away _ (mem_blk3.2 (.inl e.symm)) with e | e <;> omega))
              have hcc := hb8.c0
              have hcf := hb8.f0
              have hS8 := HSk.out _ w8 HSD7.out (HGw.out.block gL (Nat.lt_of_lt_of_le hfr.2 HS6d.out.sz) (fun e => by rcases HS6d.out.away _ (mem_blk3.2 (.inl e.symm)) with e | e <;> omega))
              refine hK.out _ _ hS8 (fun hHelda => ?_)
              clear hK K
              try simp only [Act.put, pZ]
              have HS8 := Lib.hid (HS6d.out.put0 HOw.out HGw.out HFw.out)
              have hS9 := HSk.out _ (w8.setCell ⟨w.heap.size, 0, none⟩ (.slice a8 ly.length c8)) hS8 (Below.heap_setCell w8 ⟨w.heap.size, 0, none⟩ _ gL (show gL ≠ w.heap.size by omega))
              refine tkT 7 ?_ rfl (Or.inl ⟨by rfl, ?_⟩) ?_
              rotate_left
              · (intro w hSw; go_simp; try (with_reducible rfl))
              try simp only [Act.put, pZ]
              refine wpAnyH_ready (rs := [8]) (by kernel_rfl) (by simp) ?_
              refine ready_one rfl rfl (fun K hK => ?_)
              go_wp2_with fail
              refine hK.out _ _ hS9 (fun hHeldb => ?_)
              clear hK K HO7 HN7 HOw HGw HFw hb8 hcc hcf HS6d hc7
              try simp only [Act.put, List.getElem_toArray, List.getElem_cons_zero, List.getElem_cons_succ]
              refine wpAnyH_done (by kernel_rfl) ?_ _
              refine NoPanic.normal ?_
              generalize (w8.setCell ⟨w.heap.size, 0, none⟩ (.slice a8 ly.length c8)) = V8 at *
              have HRf : Hid (nm8 s L f (i + 1) ly ns ats = R) := Lib.hid (by rw [← HLY.out, ← HLZ.out, List.append_assoc]; exact HR.out)
              have hlyl : ly.length ≤ 1000000 + (i + 1) * 1000 := by
                have e : p.data.toList.length = p.size := Array.length_toList
                rw [← HLY.out, List.length_append, e, HLZ2.out]
                omega
              clear HR HLY HLZ HLZ2 HSD7 HSk CL
              go_wp2_with fail
              go_roundw
              case rel => exact ⟨i + 1, f, ly, ns, ats, _, _, _, by omega, by omega, by go_num, hlyl, by omega, HLEN, HSM, HAT, HS8, HRf⟩
              case measure => simp [intOf]; omega
            · go_wp2_with fail
              refine hK.out _ _ hSx (fun hHeld1 => ?_)
              clear hK K
              try simp only [Act.put, pZ]
              generalize (V.alloc (.cells #[.int .u8 ((p.size : Int) % 256)] 5)) = X at *
              generalize V.heap.size = GX at *
              refine wpAnyH_ready (rs := [1]) (by kernel_rfl) (by simp) ?_
              refine AllReadyH.cons rfl (fun K hK => ?_) AllReadyH.nil
              rw [if_pos (by rfl)]
              go_wp2_with fail
              refine hK.out _ _ hSx (fun hHeld2 => ?_)
              clear hK K
              try simp only [Act.put, pZ]
              refine wpAnyH_ready (rs := [9]) (by kernel_rfl) (by simp) ?_
              refine ready_one rfl rfl (fun K hK => ?_)
              refine wp_append_bytes (m := [UInt8.ofNat p.size]) HO1 HC1 HN1 _ _ rfl rfl rfl (fun v6 w6 HOw HGw HFw => ?_)
              obtain ⟨lz, hlz⟩ : ∃ lz, l ++ [UInt8.ofNat p.size] = lz := ⟨_, rfl⟩
              rw [hlz] at HOw
              have HLZ := Lib.hid hlz
              clear hlz
              obtain ⟨a6, c6, hv6⟩ := own_slice HOw.out
              subst hv6
              have hb6 := HSx.out.box.kept (w' := w6) (HGw.out.block _ HSx.out.box.lt (fun e => by have := HSx.out.two; rcases HSx.out.away _ (mem_blk3.2 (.inl e.symm)) with e | e <;> omega))
              have hcc := hb6.c0
              have hcf := hb6.f0
              have hS6 := HSk.out _ w6 hSx (HGw.out.block gL (Nat.lt_of_lt_of_le hfr.2 HSx.out.sz) (fun e => by rcases HSx.out.away _ (mem_blk3.2 (.inl e.symm)) with e | e <;> omega))
              refine hK.out _ _ hS6 (fun hHeld6 => ?_)
              clear hK K
              try simp only [Act.put, pZ]
              have HS6 := Lib.hid (HSx.out.put0 HOw.out HGw.out HFw.out)
              refine tkT 10 ?_ rfl (Or.inl ⟨by rfl, ?_⟩) ?_
              rotate_left
              · (intro w hSw; go_simp; try (with_reducible rfl))
              try simp only [Act.put, pZ]
              have hS7 := HSk.out _ (w6.setCell ⟨w.heap.size, 0, none⟩ (.slice a6 lz.length c6)) hS6 (Below.heap_setCell w6 ⟨w.heap.size, 0, none⟩ _ gL (show gL ≠ w.heap.size by omega))
              refine wpAnyH_ready (rs := [11]) (by kernel_rfl) (by simp) ?_
              refine ready_one rfl rfl (fun K hK => ?_)
              go_wp2_with fail
              refine hK.out _ _ hS7 (fun hHeld7 => ?_)
              clear hK K HO1 HC1 HN1 HOw HGw HFw hb6 hcc hcf HSx
              try simp only [Act.put, List.getElem_toArray, List.getElem_cons_zero, List.getElem_cons_succ]
              refine wpAnyH_done (by kernel_rfl) ?_ _
              refine NoPanic.normal ?_
              generalize (w6.setCell ⟨w.heap.size, 0, none⟩ (.slice a6 lz.length c6)) = V6 at *
              have HLZ2 : Hid (lz.length = l.length + 1) := Lib.hid (by rw [← HLZ.out]; simp)
              have HS6d := Lib.hid (HS6.out.below (Below.refl _ _).drew)
              have HSD7 : Hid (S V6.drew) := Lib.hid (HSk.out V6 V6.drew hS7 rfl)
              clear HS6 hS7
              go_wp2_with fail
              refine wp_region_noPanic ?_
              refine wp_region_held_drew (S := S) (by kernel_rfl) HSD7.out (fun hHeld8 => ?_)
              generalize V6.drew = V7 at *
              have hc7 := HS6d.out.box.c0
              have HO7 := Lib.hid HS6d.out.rb
              have HN7 : Hid (lz.length + p.size ≤ 1000000000 ∧ B ≤ V7.heap.size) := Lib.hid ⟨by have := HLZ2.out; omega, by have := HS6d.out.base; have := HS6d.out.sz; have := HS6d.out.two; omega⟩
              refine tkT 0 ?_ rfl (Or.inl ⟨by rfl, ?_⟩) ?_
              rotate_left
              · (intro w hSw; go_simp; try (with_reducible rfl))
              try simp only [Act.put, pZ]
              refine tkT 2 ?_ rfl (Or.inl ⟨by rfl, ?_⟩) ?_
              rotate_left
              · (intro w hSw; go_simp; try (with_reducible rfl))
              try simp only [Act.put, pZ]
              refine tkT 3 ?_ rfl (Or.inl ⟨by rfl, ?_⟩) ?_
              rotate_left
              · (intro w hSw; go_simp; try (with_reducible rfl))
              try simp only [Act.put, pZ]
              refine tkT 4 ?_ rfl (Or.inl ⟨by rfl, ?_⟩) ?_
              rotate_left
              · (intro w hSw; go_simp; try (with_reducible rfl))
              try simp only [Act.put, pZ]
              refine tkT 5 ?_ rfl (Or.inl ⟨by rfl, ?_⟩) ?_
              rotate_left
              · (intro w hSw; have hc0 := CL.out w hSw; go_simp; try (with_reducible rfl))
              try simp only [Act.put, pZ]
              refine wpAnyH_ready (rs := [1]) (by kernel_rfl) (by simp) ?_
              refine AllReadyH.cons rfl (fun K hK => ?_) AllReadyH.nil
              rw [if_pos (by rfl)]
              go_wp2_with fail
              refine hK.out _ _ HSD7.out (fun hHeld9 => ?_)
              clear hK K
              try simp only [Act.put, pZ]
              refine wpAnyH_ready (rs := [6]) (by kernel_rfl) (by simp) ?_
              refine ready_one rfl rfl (fun K hK => ?_)
              refine wp_append_text (s := p) HO7 HN7 _ _ rfl rfl rfl (fun v8 w8 HOw HGw HFw => ?_)
              obtain ⟨ly, hly⟩ : ∃ ly, lz ++ p.data.toList = ly := ⟨_, rfl⟩
              rw [hly] at HOw
              have HLY := Lib.hid hly
              clear hly
              obtain ⟨a8, c8, hv8⟩ := own_slice HOw.out
              subst hv8
              have hb8 := HS6d.out.box.kept (w' := w8) (HGw.out.block _ HS6d.out.box.lt (fun e => by have := HS6d.out.two; rcases HS6d.out.away _ (mem_blk3.2 (.inl e.symm)) with e | e <;> omega))
              have hcc := hb8.c0
              have hcf := hb8.f0
              have hS8 := HSk.out _ w8 HSD7.out (HGw.out.block gL (Nat.lt_of_lt_of_le hfr.2 HS6d.out.sz) (fun e => by rcases HS6d.out.away _ (mem_blk3.2 (.inl e.symm)) with e | e <;> omega))
              refine hK.out _ _ hS8 (fun hHelda => ?_)
              clear hK K
              try simp only [Act.put, pZ]
              have HS8 := Lib.hid (HS6d.out.put0 HOw.out HGw.out HFw.out)
              have hS9 := HSk.out _ (w8.setCell ⟨w.heap.size, 0, none⟩ (.slice a8 ly.length c8)) hS8 (Below.heap_setCell w8 ⟨w.heap.size, 0, none⟩ _ gL (show gL ≠ w.heap.size by omega))
              refine tkT 7 ?_ rfl (Or.inl ⟨by rfl, ?_⟩) ?_
              rotate_left
              · (intro w hSw; go_simp; try (with_reducible rfl))
              try simp only [Act.put, pZ]
              refine wpAnyH_ready (rs := [8]) (by kernel_rfl) (by simp) ?_
              refine ready_one rfl rfl (fun K hK => ?_)
              go_wp2_with fail
              refine hK.out _ _ hS9 (fun hHeldb => ?_)
              clear hK K HO7 HN7 HOw HGw HFw hb8 hcc hcf HS6d hc7
              try simp only [Act.put, List.getElem_toArray, List.getElem_cons_zero, List.getElem_cons_succ]
              refine wpAnyH_done (by kernel_rfl) ?_ _
              refine NoPanic.normal ?_
              generalize (w8.setCell ⟨w.heap.size, 0, none⟩ (.slice a8 ly.length c8)) = V8 at *
              have HRf : Hid (nm8 s L f (i + 1) ly ns ats = R) := Lib.hid (by rw [← HLY.out, ← HLZ.out, List.append_assoc]; exact HR.out)
              have hlyl : ly.length ≤ 1000000 + (i + 1) * 1000 := by
                have e : p.data.toList.length = p.size := Array.length_toList
                rw [← HLY.out, List.length_append, e, HLZ2.out]
                omega
              clear HR HLY HLZ HLZ2 HSD7 HSk CL
              go_wp2_with fail
              go_roundw
              case rel => exact ⟨i + 1, f, ly, ns, ats, _, _, _, by omega, by omega, by go_num, hlyl, by omega, HLEN, HSM, HAT, HS8, HRf⟩
              case measure => simp [intOf]; omega
        · rw [show nxI (some n) = (n : Int) from rfl] at HFI
          have hn := HMEM.out n rfl
          go_wp2_with fail
          refine HFI.out.mono ?_
          rintro e w3 ⟨rfl, hb3⟩
          have HS3 := Lib.hid (HS2.out.below hb3)
          clear hb3 HFI HS2 hc0 hc1 hc2
          try simp only at HR
          have hd10 : decide ((0 : Int) ≤ (n : Int)) = true := decide_eq_true (by omega)
          obtain ⟨mm, hm2, hmm, hbm⟩ := ptr_two n hn
          rw [hmm] at HR
          have HBM := Lib.hid hbm
          have HM2 := Lib.hid hm2
          have ER := HR.out.symm
          subst ER
          clear HMEM HR hmm hbm hm2
          have HSx := Lib.hid (HS3.out.below (wr' := w3.alloc (.cells #[.int .u8 (192 + (n : Int) / 256), .int .u8 ((n : Int) % 256)] 5)) ((Below.refl _ _).alloc (Nat.le_refl _) _))
          have HO1 := Lib.hid HSx.out.rb
          have HC1 : Hid (∀ j u, (bys mm)[j]? = some u → (w3.alloc (.cells #[.int .u8 (192 + (n : Int) / 256), .int .u8 ((n : Int) % 256)] 5)).cell? ⟨w3.heap.size, j, none⟩ = some u) := Lib.hid (fun j u hu => cells_new8 w3 [.int .u8 (192 + (n : Int) / 256), .int .u8 ((n : Int) % 256)] 5 j u (by rw [← HBM.out]; exact hu))
          have HN1 : Hid (l.length + mm.length ≤ 1000000000 ∧ B ≤ (w3.alloc (.cells #[.int .u8 (192 + (n : Int) / 256), .int .u8 ((n : Int) % 256)] 5)).heap.size) := Lib.hid ⟨by have := HM2.out; omega, by have := HSx.out.base; have := HSx.out.sz; have := HSx.out.two; omega⟩
          have hc0 := HS3.out.box.c0
          go_upto_region 12 with (at_builtin; refine wpList_plain rfl (fun K hK => wp_append_bytes (m := mm) HO1 HC1 HN1 _ _ rfl rfl (by rw [HM2.out]; rfl) (fun v2 w4 HOw HGw HFw => hK _ _ ?_)); obtain ⟨lz, hlz⟩ : ∃ lz, l ++ mm = lz := ⟨_, rfl⟩; rw [hlz] at HOw; have HLZ := Lib.hid hlz; clear hlz; obtain ⟨a2, c2, hv2⟩ := own_slice HOw.out; subst hv2; have hb4 := HSx.out.box.kept (w' := w4) (HGw.out.block _ HSx.out.box.lt (fun e => by have := HSx.out.two; rcases HSx.out.away _ (mem_blk3.2 (.inl e.symm)) with e | e <;> omega)); have hcc := hb4.c0; have hcf := hb4.f0)
          have HSz := Lib.hid (HSx.out.put0 HOw.out HGw.out HFw.out)
          clear HSx HO1 HC1 HN1 HOw HGw HFw hb4 hcc hcf hc0 HS3
          generalize (w4.setCell ⟨w.heap.size, 0, none⟩ (.slice a2 lz.length c2)) = V at *
          have hc0 := HSz.out.box.c0
          have hc1 := HSz.out.box.c1
          have hc2 := HSz.out.box.c2
          have hd0 := HSz.out.res.c0
          have hd1 := HSz.out.res.c1
          have hd2 := HSz.out.res.c2
          have he0 := HSz.out.res.f0
          have he1 := HSz.out.res.f1
          have he2 := HSz.out.res.f2
          have HE := Lib.hid (name_laid (m := true) HSz.out.rb HSz.out.rn HSz.out.ra HSz.out.foot (fun k hk => by have := HSz.out.two; rcases HSz.out.away k hk with e | e <;> omega))
          have HX := Lib.hid (HSz.out.res.laid (.slice a2 lz.length c2) (.slice aN ns.length cN) (.slice aA ats.length cA))
          go_wp2_with fail
          try simp only [Exit.inBlock, Exit.then]
          refine bodyPost_ret (results_W Tryz.results56 rfl HX.out) rfl ?_
          rw [HLZ.out]
          exact HE.out
      · have hd : decide ((i : Int) < (N : Int)) = false := decide_eq_false (by omega)
        have hdn : decide (i < N) = false := decide_eq_false hiN
        rw [if_pos (by omega)] at HR
        have ER := HR.out
        subst ER
        have HS3 := HST
        clear HST
        have HSx := Lib.hid (HS3.out.below (wr' := wr.alloc (.cells #[.int .u8 0] 5)) ((Below.refl _ _).alloc (Nat.le_refl _) _))
        have HO1 := Lib.hid HSx.out.rb
        have HC1 : Hid (∀ j u, (bys [0])[j]? = some u → (wr.alloc (.cells #[.int .u8 0] 5)).cell? ⟨wr.heap.size, j, none⟩ = some u) := Lib.hid (fun j u hu => cells_new8 wr [.int .u8 0] 5 j u hu)
        have HN1 : Hid (l.length + ([0] : List UInt8).length ≤ 1000000000 ∧ B ≤ (wr.alloc (.cells #[.int .u8 0] 5)).heap.size) := Lib.hid ⟨by simp; omega, by have := HSx.out.base; have := HSx.out.sz; have := HSx.out.two; omega⟩
        have hc0 := HS3.out.box.c0
        go_upto_region 19 with (at_builtin; refine wpList_plain rfl (fun K hK => wp_append_bytes (m := [0]) HO1 HC1 HN1 _ _ rfl rfl rfl (fun v2 w4 HOw HGw HFw => hK _ _ ?_)); obtain ⟨lz, hlz⟩ : ∃ lz, l ++ [0] = lz := ⟨_, rfl⟩; rw [hlz] at HOw; have HLZ := Lib.hid hlz; clear hlz; obtain ⟨a2, c2, hv2⟩ := own_slice HOw.out; subst hv2; have hb4 := HSx.out.box.kept (w' := w4) (HGw.out.block _ HSx.out.box.lt (fun e => by have := HSx.out.two; rcases HSx.out.away _ (mem_blk3.2 (.inl e.symm)) with e | e <;> omega)); have hcc := hb4.c0; have hcf := hb4.f0)
        have HSz := Lib.hid (HSx.out.put0 HOw.out HGw.out HFw.out)
        clear HSx HO1 HC1 HN1 HOw HGw HFw hb4 hcc hcf hc0 HS3
        generalize (w4.setCell ⟨w.heap.size, 0, none⟩ (.slice a2 lz.length c2)) = V at *
        have hc0 := HSz.out.box.c0
        have hc1 := HSz.out.box.c1
        have hc2 := HSz.out.box.c2
        have hd0 := HSz.out.res.c0
        have hd1 := HSz.out.res.c1
        have hd2 := HSz.out.res.c2
        have he0 := HSz.out.res.f0
        have he1 := HSz.out.res.f1
        have he2 := HSz.out.res.f2
        have HE := Lib.hid (name_laid (m := true) HSz.out.rb HSz.out.rn HSz.out.ra HSz.out.foot (fun k hk => by have := HSz.out.two; rcases HSz.out.away k hk with e | e <;> omega))
        have HX := Lib.hid (HSz.out.res.laid (.slice a2 lz.length c2) (.slice aN ns.length cN) (.slice aA ats.length cA))
        go_wp2_with fail
        try simp only [Exit.inBlock, Exit.then]
        refine bodyPost_ret (results_W Tryz.results56 rfl HX.out) rfl ?_
        rw [HLZ.out]
        exact HE.out
end Go.Proofs.YtedmkdjijhflnaaGreat
namespace Go.Proofs.YtedmkdjijhflnaaGreat
open Go.RowKit

def wordN (n : Int) : Bool := decide (0 ≤ n ∧ n ≤ 65535)
def twoL (n : Nat) : List UInt8 := [UInt8.ofNat (n / 256), UInt8.ofNat (n % 256)]
theorem bys_twoL (n : Nat) (h : n ≤ 65535) : bys (twoL n) = [.int .u8 ((n : Int) / 256), .int .u8 ((n : Int) % 256)] := by
  unfold bys twoL
  simp only [List.map_cons, List.map_nil, UInt8.toNat_ofNat']
  rw [Nat.mod_eq_of_lt (by omega), Nat.mod_eq_of_lt (by omega)]
  simp
theorem own_cells2 (w : World) (l : List UInt8) (h : l.length ≤ maxLen) : (w.alloc (.cells (bys l).toArray 5)).ownsRow w.heap.size 5 1 (.slice (some ⟨w.heap.size, 0, none⟩) l.length l.length) l.length (bys l) :=
  ⟨by rw [bys_length, Nat.mul_one], .inr ⟨w.heap.size, l.length, (bys l).toArray, rfl, Nat.le_refl _, by show (w.heap.push _)[w.heap.size]? = _; simp, Nat.le_refl _, h, by simp [bys_length], by simp [bys_length, List.take_of_length_le]⟩⟩
theorem two9_any (n : Nat) (w : World) (h : n ≤ 65535) : Calls Tryz.prog 55 #[.int .i64 (n : Int)] w fun e w' => e = .returned (.slice (some ⟨w.heap.size, 0, none⟩) 2 2) ∧ w'.ownsRow w.heap.size 5 1 (.slice (some ⟨w.heap.size, 0, none⟩) 2 2) (twoL n).length (bys (twoL n)) ∧ Below w.heap.size w w' := by
  have HO := Lib.hid (own_cells2 w (twoL n) (by show (2 : Nat) ≤ maxLen; unfold maxLen; omega))
  rw [bys_twoL n h] at HO
  have HB : Hid (Below w.heap.size w (w.alloc (.cells #[.int .u8 ((n : Int) / 256), .int .u8 ((n : Int) % 256)] 5))) := Lib.hid ((Below.refl _ _).alloc (Nat.le_refl _) _)
  rw [bys_twoL n h]
  have hn1 : (n : Int) / 256 < 256 := by omega
  go_enter Tryz.func55, Tryz.ntmps55
  go_wp2_with fail
  go_ret
  exact ⟨rfl, HO.out, HB.out⟩
def numV (bs : List UInt8) (at0 : Nat) : Nat → Nat
  | 0 => 0
  | k + 1 => numV bs at0 k * 256 + (bs.getD (at0 + k) 0).toNat
def numOk (bs : List UInt8) (at0 n : Nat) : Bool := decide (n = 0 ∨ at0 + n ≤ bs.length)
def numR (bs : List UInt8) (at0 n : Nat) : Nat := if numOk bs at0 n = true then numV bs at0 n else 0
def PutRet (w : World) (B : Nat) (F0 : List Nat) (l : List UInt8) (ns : List ByteArray) (ats : List Nat) (e : Ending) (w' : World) : Prop :=
  ∃ vB vN vA, e = .returned (.agg #[vB, vN, vA]) ∧ w'.ownsRow B 5 1 vB l.length (bys l) ∧ w'.ownsRow B 9 1 vN ns.length (ns.map Value.string) ∧ w'.ownsRow B 3 1 vA ats.length (intsL ats) ∧ Foot F0 (blk3 vB vN vA) w w'
theorem results_W1 {fn : Func} {a : Tmp} {tmps : Array Value} {W : World} {b : Nat} {vB vN vA : Value} (h : fn.results = #[.cell a 133]) (ha : tmps.getD a undef = .pointer (some ⟨b, 0, none⟩)) (hA : WBox W b vB vN vA) : (results fn tmps).run Tryz.prog W = .ok (.agg #[vB, vN, vA]) W := by
  rw [Array.getD_eq_getD_getElem?] at ha
  simp [results, h, ha, asAddr, loadVar_W hA]
theorem put_laid {w V w4 : World} {B b r : Nat} {uB uN uA v2 : Value} {l l2 : List UInt8} {ns : List ByteArray} {ats : List Nat} (hwV : Below w.heap.size w V) (hb : w.heap.size ≤ b) (hr : w.heap.size ≤ r) (rb : w.ownsRow B 5 1 uB l.length (bys l)) (rn : w.ownsRow B 9 1 uN ns.length (ns.map Value.string)) (ra : w.ownsRow B 3 1 uA ats.length (intsL ats)) (ho : w4.ownsRow B 5 1 v2 l2.length (bys l2)) (hg : V.grownBy w4 uB.ownBlock) (hf : Foot uB.ownBlock.toList v2.ownBlock.toList V w4) (hbV : b < V.heap.size) (hrV : r < V.heap.size) (v0 v1 v3 v4 : Value) :
    PutRet w B (blk3 uB uN uA) l2 ns ats (.returned (.agg #[v2, uN, uA])) ((((w4.setCell ⟨b, 0, none⟩ v0).setCell ⟨r, 0, none⟩ v1).setCell ⟨r, 1, none⟩ v3).setCell ⟨r, 2, none⟩ v4) := by
  have hbl : ∀ k, uB.ownBlock = some k → k < w.heap.size := fun k hk => (rb.lt k hk).2
  have hnew : ∀ k, v2.ownBlock = some k → uB.ownBlock = some k ∨ V.heap.size ≤ k := fun k hk => (hf.new k (by rw [hk]; simp)).imp (fun e => by simpa using e) id
  have hset : ∀ k, k ≠ b → k ≠ r → ((((w4.setCell ⟨b, 0, none⟩ v0).setCell ⟨r, 0, none⟩ v1).setCell ⟨r, 1, none⟩ v3).setCell ⟨r, 2, none⟩ v4).heap[k]? = w4.heap[k]? := fun k h1 h2 => by
    rw [Below.heap_setCell _ ⟨r, 2, none⟩ v4 k h2, Below.heap_setCell _ ⟨r, 1, none⟩ v3 k h2, Below.heap_setCell _ ⟨r, 0, none⟩ v1 k h2, Below.heap_setCell _ ⟨b, 0, none⟩ v0 k h1]
  have hold : ∀ k, k < w.heap.size → uB.ownBlock ≠ some k → ((((w4.setCell ⟨b, 0, none⟩ v0).setCell ⟨r, 0, none⟩ v1).setCell ⟨r, 1, none⟩ v3).setCell ⟨r, 2, none⟩ v4).heap[k]? = w.heap[k]? := fun k h1 h2 => by
    rw [hset k (by omega) (by omega), hg.block k (Nat.lt_of_lt_of_le h1 hwV.size) (fun e => h2 e.symm), hwV.block k h1]
  refine ⟨v2, uN, uA, rfl, own_kept ho (fun k hk => hset k (fun e => ?_) (fun e => ?_)), own_kept rn (fun k hk => hold k (rn.lt k hk).2 (fun e => own_types rb rn (by decide) k e hk)), own_kept ra (fun k hk => hold k (ra.lt k hk).2 (fun e => own_types rb ra (by decide) k e hk)), ?_⟩
  · subst e
    rcases hnew _ hk with e | e
    · have := hbl _ e; omega
    · omega
  · subst e
    rcases hnew _ hk with e | e
    · have := hbl _ e; omega
    · omega
  · refine ⟨hg.os.trans hwV.os, hg.tape.trans hwV.tape, hg.output.trans hwV.output, ?_, fun k hk hn => hold k hk (fun e => hn (mem_blk3.2 (.inl e))), fun k hk => ?_⟩
    · simp only [World.setCell, Array.size_modify]
      exact Nat.le_trans hwV.size hg.size
    · rcases mem_blk3.1 hk with e | e | e
      · rcases hnew k e with e | e
        · exact .inl (mem_blk3.2 (.inl e))
        · exact .inr (Nat.le_trans hwV.size e)
      · exact .inl (mem_blk3.2 (.inr (.inl e)))
      · exact .inl (mem_blk3.2 (.inr (.inr e)))
set_option maxRecDepth 100000 in
set_option maxHeartbeats 2000000 in
theorem put9_any (uB uN uA : Value) (l : List UInt8) (ns : List ByteArray) (ats : List Nat) (ad : Option Addr) (c : Nat) (m : List UInt8) (w : World) (B : Nat) (rb : w.ownsRow B 5 1 uB l.length (bys l)) (rn : w.ownsRow B 9 1 uN ns.length (ns.map Value.string)) (ra : w.ownsRow B 3 1 uA ats.length (intsL ats)) (hm : BytesIn2 w ad c m) (hB : B ≤ w.heap.size) (hl : l.length + m.length ≤ 1000000000) :
    Calls Tryz.prog 54 #[.agg #[uB, uN, uA], .slice ad m.length c] w (PutRet w B (blk3 uB uN uA) (l ++ m) ns ats) := by
  obtain ⟨aB, cB, rfl⟩ := own_slice rb
  obtain ⟨aN, cN, rfl⟩ := own_slice rn
  obtain ⟨aA, cA, rfl⟩ := own_slice ra
  obtain ⟨V, hV⟩ : ∃ V, (w.alloc (.cells #[.slice aB l.length cB, .slice aN ns.length cN, .slice aA ats.length cA] 133)).alloc (.cells #[.slice none 0 0, .slice none 0 0, .slice none 0 0] 133) = V := ⟨_, rfl⟩
  have hb0 : Below w.heap.size w V := by rw [← hV]; exact ((Below.refl _ _).alloc (Nat.le_refl _) _).alloc (by simp) _
  have HWV := Lib.hid hb0
  have HSV : Hid (V.heap.size = w.heap.size + 1 + 1) := Lib.hid (by rw [← hV]; simp)
  have HBX : Hid (WBox V w.heap.size (.slice aB l.length cB) (.slice aN ns.length cN) (.slice aA ats.length cA)) := Lib.hid (by rw [← hV]; exact (WBox.new w _ _ _).kept (((Below.refl _ _).alloc (Nat.le_refl _) _).block _ (by simp)))
  have HRX : Hid (WBox V (w.heap.size + 1) nilS nilS nilS) := Lib.hid (by
    rw [← hV]
    have := WBox.new (w.alloc (.cells #[.slice aB l.length cB, .slice aN ns.length cN, .slice aA ats.length cA] 133)) nilS nilS nilS
    rw [show (w.alloc (.cells #[.slice aB l.length cB, .slice aN ns.length cN, .slice aA ats.length cA] 133)).heap.size = w.heap.size + 1 by simp] at this
    exact this)
  have HO1 := Lib.hid (own_below8 rb hb0)
  have HM1 := Lib.hid (hm.below hb0)
  have HN1 : Hid (l.length + m.length ≤ 1000000000 ∧ B ≤ V.heap.size) := Lib.hid ⟨hl, Nat.le_trans hB hb0.size⟩
  have HRB := Lib.hid rb
  have HRN := Lib.hid rn
  have HRA := Lib.hid ra
  have hc0 := HBX.out.c0
  obtain ⟨M, hM⟩ : ∃ M, m.length = M := ⟨_, rfl⟩
  have HMM := Lib.hid hM
  rw [hM]
  clear rb rn ra hm hb0 hl hM
  go_enter Tryz.func54, Tryz.ntmps54
  go_upto_region 1 with fail
  try rw [hV]
  clear hV
  go_upto_region 2 with (at_builtin; refine wpList_plain rfl (fun K hK => wp_append_in (l := l) (m := m) HO1 HM1 HN1 _ _ rfl rfl (by rw [HMM.out]; rfl) (fun v2 w4 HOw HGw HFw => hK _ _ ?_)); obtain ⟨lz, hlz⟩ : ∃ lz, l ++ m = lz := ⟨_, rfl⟩; rw [hlz] at HOw; have HLZ := Lib.hid hlz; clear hlz; obtain ⟨a2, c2, hv2⟩ := own_slice HOw.out; subst hv2; have hG4 := HGw.out.block w.heap.size HBX.out.lt (fun e => by have := (HRB.out.lt _ e.symm).2; omega); have hR4 := HGw.out.block (w.heap.size + 1) HRX.out.lt (fun e => by have := (HRB.out.lt _ e.symm).2; omega); have hb4 := HBX.out.kept hG4; have hr4 := HRX.out.kept hR4; have hcc := hb4.c0; have hcf := hb4.f0; clear hG4 hR4)
  have HE := Lib.hid (fun v0 v1 v3 v4 => put_laid HWV.out (Nat.le_refl _) (Nat.le_succ _) HRB.out HRN.out HRA.out HOw.out HGw.out HFw.out HBX.out.lt HRX.out.lt v0 v1 v3 v4)
  have hb5 := hb4.set0 (.slice a2 lz.length c2)
  have hr5 := hr4.kept (w' := w4.setCell ⟨w.heap.size, 0, none⟩ (.slice a2 lz.length c2)) (Below.heap_setCell w4 ⟨w.heap.size, 0, none⟩ _ (w.heap.size + 1) (show w.heap.size + 1 ≠ w.heap.size by omega))
  obtain ⟨W5, hW5⟩ : ∃ W5, w4.setCell ⟨w.heap.size, 0, none⟩ (.slice a2 lz.length c2) = W5 := ⟨_, rfl⟩
  have HE2 := Lib.hid (fun v1 v3 v4 => HE.out (.slice a2 lz.length c2) v1 v3 v4)
  rw [hW5] at hb5 hr5 HE2
  try rw [hW5]
  have hd0 := hb5.c0
  have hd1 := hb5.c1
  have hd2 := hb5.c2
  have he0 := hr5.c0
  have he1 := hr5.c1
  have he2 := hr5.c2
  have hf0 := hr5.f0
  have hf1 := hr5.f1
  have hf2 := hr5.f2
  have HX := Lib.hid (hr5.laid (.slice a2 lz.length c2) (.slice aN ns.length cN) (.slice aA ats.length cA))
  clear HE hb5 hr5 hb4 hr4 hcc hcf hW5 HOw HGw HFw
  go_wp2_with fail
  refine bodyPost_ret (results_W1 Tryz.results54 rfl HX.out) rfl ?_
  rw [HLZ.out]
  exact HE2.out _ _ _
end Go.Proofs.YtedmkdjijhflnaaGreat
namespace Go.Proofs.YtedmkdjijhflnaaGreat
open Go.RowKit

def zB : List Nat := List.replicate 16 0
def headR (r : Rec) : Bool := mayN r.name && wordN r.ty && wordN r.cl && decide (0 ≤ r.ttl) && decide (r.ttl ≤ 2147483647) && decide (r.da.size ≤ 65535)
def bodyR (r : Rec) : Bool :=
  if r.ty = 1 then mayB r.f r.b && decide (r.f = 4) && decide (r.tg.size = 0) && decide (r.da.size = 0)
  else if r.ty = 28 then mayB r.f r.b && decide (r.f = 6) && decide (r.tg.size = 0) && decide (r.da.size = 0)
  else if r.ty = 5 then mayN r.tg && decide (r.f = 0 ∧ r.b = zB) && decide (r.da.size = 0)
  else decide (r.f = 0 ∧ r.b = zB) && decide (r.tg.size = 0)
def mayR (r : Rec) : Bool := headR r && bodyR r
end Go.Proofs.YtedmkdjijhflnaaGreat
namespace Go.Proofs.YtedmkdjijhflnaaGreat
open Go.RowKit

def Room (r : Rec) : Prop := r.name.size ≤ 1900000 ∧ r.tg.size ≤ 1900000
structure Qu where
  name : ByteArray
  ty : Int
  cl : Int
deriving DecidableEq
def quL (q : Qu) : List Value := [Value.string q.name, .int .i64 q.ty, .int .i64 q.cl]
def quV (q : Qu) : Value := .agg (quL q).toArray
def FitQ (q : Qu) : Prop := (Lit.int .i64 q.ty).wf = true ∧ (Lit.int .i64 q.cl).wf = true ∧ q.name.size ≤ maxLen
def QusAt (w : World) (a : Option Addr) (cap : Nat) (D : List Qu) : Prop :=
  D.length ≤ cap ∧ cap ≤ maxLen ∧ (∀ q ∈ D, FitQ q) ∧ (D.length = 0 ∨ ∃ g o, a = some ⟨g, o, none⟩ ∧ g < w.heap.size ∧ w.rangeAt g o (D.flatMap quL))
theorem QusAt.below {w w' : World} {a : Option Addr} {cap : Nat} {D : List Qu} (h : QusAt w a cap D) (hb : Below w.heap.size w w') : QusAt w' a cap D := by
  obtain ⟨h1, h2, h3, h4⟩ := h
  refine ⟨h1, h2, h3, ?_⟩
  rcases h4 with h4 | ⟨g, o, e, hg, hr⟩
  · exact .inl h4
  · exact .inr ⟨g, o, e, Nat.lt_of_lt_of_le hg hb.size, fun j u hu => (hb.cell (p := ⟨g, o + j, none⟩) hg).trans (hr j u hu)⟩
theorem QusAt.at {w : World} {a : Option Addr} {cap : Nat} {D : List Qu} (h : QusAt w a cap D) (k : Nat) (hk : k < D.length) : ∃ g o, a = some ⟨g, o, none⟩ ∧ g < w.heap.size ∧ w.cell? ⟨g, o + k * 3, none⟩ = some (.string D[k].name) ∧ w.cell? ⟨g, o + k * 3 + 1, none⟩ = some (.int .i64 D[k].ty) ∧ w.cell? ⟨g, o + k * 3 + 2, none⟩ = some (.int .i64 D[k].cl) := by
  obtain ⟨h1, h2, h3, h4⟩ := h
  rcases h4 with h4 | ⟨g, o, e, hg, hr⟩
  · omega
  · have := range_at hr (S := 3) (fun d hd => rfl) k hk
    exact ⟨g, o, e, hg, this 0 _ rfl, this 1 _ rfl, this 2 _ rfl⟩
structure Msg where
  id : Int
  fl : Int
  qs : List Qu
  an : List Rec
  au : List Rec
  mo : List Rec
deriving DecidableEq
structure MsgIn (w : World) (m : Msg) (aq a1 a2 a3 : Option Addr) (cq c1 c2 c3 : Nat) : Prop where
  qs : QusAt w aq cq m.qs
  an : RecsAt w a1 c1 m.an
  au : RecsAt w a2 c2 m.au
  mo : RecsAt w a3 c3 m.mo
theorem MsgIn.below {w w' : World} {m : Msg} {aq a1 a2 a3 : Option Addr} {cq c1 c2 c3 : Nat} (h : MsgIn w m aq a1 a2 a3 cq c1 c2 c3) (hb : Below w.heap.size w w') : MsgIn w' m aq a1 a2 a3 cq c1 c2 c3 := ⟨h.qs.below hb, h.an.below hb, h.au.below hb, h.mo.below hb⟩
def msgV (m : Msg) (aq a1 a2 a3 : Option Addr) (cq c1 c2 c3 : Nat) : Value := .agg #[.int .i64 m.id, .int .i64 m.fl, .slice aq m.qs.length cq, .slice a1 m.an.length c1, .slice a2 m.au.length c2, .slice a3 m.mo.length c3]
def mayQ9 (q : Qu) : Bool := mayN q.name && wordN q.ty && wordN q.cl
def mayM (m : Msg) : Bool := m.qs.all mayQ9 && wordN m.id && wordN m.fl && m.an.all mayR && m.au.all mayR && m.mo.all mayR
end Go.Proofs.YtedmkdjijhflnaaGreat
namespace Go.Proofs.YtedmkdjijhflnaaGreat
open Go.RowKit

def All16 (D : List Rec) : Prop := ∀ r ∈ D, r.b.length = 16
theorem flatR_len : ∀ (D : List Rec), All16 D → (flatR D).length = D.length * 23
  | [], _ => rfl
  | e :: es, h => by
    have h1 := recL_len e (h e (by simp))
    have h2 := flatR_len es (fun x hx => h x (by simp [hx]))
    show (recL e ++ flatR es).length = _
    rw [List.length_append, h1, h2, List.length_cons]
    omega
theorem flatR_append (xs ys : List Rec) : flatR (xs ++ ys) = flatR xs ++ flatR ys := by simp [flatR]
theorem flatR_one (D : List Rec) : ∀ u ∈ flatR D, u.oneCell' = true := by
  intro u hu
  obtain ⟨e, he, h2⟩ := List.mem_flatMap.1 hu
  exact recL_one e u h2
theorem infoR : (Tryz.prog.info? 71).map (fun i => (i.zero, i.size, i.bytes)) = some (some (.agg zC), 23, 96) := by kernel_rfl
def RowR (w : World) (base : Nat) (v : Value) (D : List Rec) : Prop := w.ownsRow base 71 23 v D.length (flatR D) ∧ All16 D
theorem RowR.nil (w : World) (base : Nat) : RowR w base (.slice none 0 0) [] := ⟨World.ownsRow_nil _ _ _ _, fun r hr => by cases hr⟩
theorem RowR.below {w w' : World} {base : Nat} {v : Value} {D : List Rec} (h : RowR w base v D) (hb : Below w.heap.size w w') : RowR w' base v D := ⟨own_below8 h.1 hb, h.2⟩
theorem append_recs {ops : Array Oper} {rest : List Oper} {op : Oper} {a : Act} {w : World} {Q : Exit → Act → World → Prop} {base : Nat} {v : Value} {D : List Rec} (hE : Hid (RowR w base v D)) (s x : Operand) (hgd : op.guard = none) (ho : op.op = .call { callee := .builtin .append, args := #[s, x], argTypes := #[37, 37] })
    (hs : a.eval s = v) {G o m c : Nat} (ys : List Rec) (hx : a.eval x = .slice (some ⟨G, o, none⟩) m c) (hm : Hid (m = ys.length)) (hr : Hid (w.rangeAt G o (flatR ys))) (hy : Hid (All16 ys)) (hle : Hid (D.length + ys.length ≤ 100000)) (hbase : Hid (base ≤ w.heap.size))
    (h : ∀ v' w', Hid (RowR w' base v' (D ++ ys)) → Hid (w.grownBy w' v.ownBlock) → Hid (v'.ownBlock = v.ownBlock ∨ v'.ownBlock = some w.heap.size) → wpList Tryz.prog ops Q rest (a.put op.dst v') w') : wpList Tryz.prog ops Q (op :: rest) a w := by
  obtain ⟨i0, hi0, hz0, hz1, hz2⟩ := info_parts infoR
  have hml := hm.out
  have hll := hle.out
  refine wpList_append_own_at w hgd s x 37 ho base 71 i0 _ 23 96 Tryz.underlying37 hi0 hz0 hz1 hz2 rfl (by decide) v D.length (flatR D) hs hE.out.1 ⟨G, o, none⟩ m c (flatR ys) hx (by rw [flatR_len ys hy.out, hml]) (fun j u hu => ?_) (flatR_one ys) (by unfold maxLen; omega) (by omega) hbase.out (fun v' w' h1 h2 _ h4 => ?_)
  · have := hr.out j u hu
    have hadd : (⟨G, o, none⟩ : Addr).add j = ⟨G, o + j, none⟩ := by unfold Addr.add; split <;> simp_all
    rw [hadd]
    exact this
  · refine h v' w' (Lib.hid ⟨?_, ?_⟩) (Lib.hid h2) (Lib.hid h4)
    · rw [List.length_append, flatR_append, ← hml]; exact h1
    · intro e he
      rcases List.mem_append.1 he with he | he
      · exact hE.out.2 e he
      · exact hy.out e he
theorem fillR (r : Rec) (h16 : r.b.length = 16) : Instr.fill (fun i => some (i * 23, 23)) ((Array.range (1 * 23)).map fun j => zC[j % zC.size]!) [(0, recV r)] = some (recL r).toArray := by
  obtain ⟨nm, ty, cl, ttl, f, b, tg, da⟩ := r
  obtain ⟨y0, y1, y2, y3, y4, y5, y6, y7, y8, y9, y10, y11, y12, y13, y14, y15, rfl⟩ := list16 b h16
  kernel_rfl
theorem run_buildR (r : Rec) (w : World) (h16 : r.b.length = 16) : (Instr.buildSlice 37 1 #[(0, recV r)]).run Tryz.prog w = .ok (.slice (some ⟨w.heap.size, 0, none⟩) 1 1) (w.alloc (.cells (recL r).toArray 71)) := by
  obtain ⟨i0, hi0, hz0, hz1, hz2⟩ := info_parts infoR
  have hf := fillR r h16
  obtain ⟨Z, hZ⟩ : ∃ Z : Array Value, zC = Z := ⟨_, rfl⟩
  rw [hZ] at hf hz0
  have hsz : (sizeOf 71).run Tryz.prog w = .ok 23 w := by simp [sizeOf, typeInfo, hi0, hz1]
  have hzv : (zeroValue 71).run Tryz.prog w = .ok (.agg Z) w := by simp [zeroValue, typeInfo, hi0, hz0]
  have hnr : ∀ cs : Array Value, (newRow 71 cs).run Tryz.prog w = .ok ⟨w.heap.size, 0, none⟩ (w.alloc (.cells cs 71)) := fun cs => by simp [newRow]
  have hu : (underlying 37).run Tryz.prog w = .ok _ w := run_underlying Tryz.underlying37 w
  have hfc : Instr.fill (fun i => some (i * 23, 23)) ((Array.range (1 * 23)).map fun j => (Value.agg Z).cells[j % (Value.agg Z).cells.size]!) (#[(0, recV r)] : Array (Nat × Value)).toList = some (recL r).toArray := hf
  unfold Instr.buildSlice
  simp only [Sem.run_bind, hu, Result.andThen_ok, hsz, if_neg (show ¬ (1 * 23 > 2 ^ 24) by decide), Sem.run_pure, if_neg (show ¬ (1 * 23 = 0) by decide), hzv, hfc, hnr]
theorem build_recS {ops : Array Oper} {rest : List Oper} {op : Oper} {a : Act} {w : World} {Q : Exit → Act → World → Prop} {r : Rec} (hl : Hid (r.b.length = 16)) (hg : op.guard = none) (x : Operand) (ho : op.op = .buildSlice 37 1 #[(0, x)])
    (hx : a.eval x = recV r) (h : ∀ W, Hid (W = w.alloc (.cells (recL r).toArray 71)) → wpList Tryz.prog ops Q rest (a.put op.dst (.slice (some ⟨w.heap.size, 0, none⟩) 1 1)) W) : wpList Tryz.prog ops Q (op :: rest) a w := by
  refine wpList_plain hg fun K hK => ?_
  unfold Oper.wp execOp
  simp only [ho, List.map_toArray, List.map_cons, List.map_nil, hx, Sem.run_bind, run_buildR r w hl.out, Result.andThen_ok]
  exact hK _ _ (h _ (Lib.hid rfl))
theorem built_new {w : World} {cs : List Value} (t : TypeId) : (w.alloc (.cells cs.toArray t)).rangeAt w.heap.size 0 cs := by
  intro j u hu
  rw [World.cell?_alloc_new, Nat.zero_add]
  simpa using hu
end Go.Proofs.YtedmkdjijhflnaaGreat
namespace Go.Proofs.YtedmkdjijhflnaaGreat
open Go.RowKit

def maskN (x : Int) (m : Nat) : Nat := (bits .and .i64 x (m : Int)).toNat
theorem wrap_small (k m : Nat) (hk : k ≤ m) (hm : m < 4611686018427387904) : IntKind.i64.wrap (k : Int) = (k : Int) := by
  rw [IntKind.wrap_i64]
  omega
theorem and_le (a b : BitVec 64) : (a &&& b).toNat ≤ b.toNat := by
  rw [BitVec.toNat_and]
  exact Nat.and_le_right
theorem mask_is (x : Int) (m : Nat) (hm : m < 4611686018427387904) : bits .and .i64 x (m : Int) = ((maskN x m : Nat) : Int) ∧ maskN x m ≤ m := by
  have h1 : (BitVec.ofInt 64 (m : Int)).toNat ≤ m := by
    rw [BitVec.ofInt_natCast, BitVec.toNat_ofNat]
    exact Nat.mod_le _ _
  have h2 := Nat.le_trans (and_le (BitVec.ofInt 64 x) (BitVec.ofInt 64 (m : Int))) h1
  have h3 : bits .and .i64 x (m : Int) = IntKind.i64.wrap (((BitVec.ofInt 64 x &&& BitVec.ofInt 64 (m : Int)).toNat : Nat) : Int) := rfl
  generalize (BitVec.ofInt 64 x &&& BitVec.ofInt 64 (m : Int)).toNat = k at *
  rw [wrap_small k m h2 hm] at h3
  unfold maskN
  rw [h3]
  exact ⟨by simp, by simpa using h2⟩
end Go.Proofs.YtedmkdjijhflnaaGreat
namespace Go.Proofs.YtedmkdjijhflnaaGreat
open Go.RowKit

def bitS (n : Int) (fr many : Nat) : Nat := maskN n 65535 / 2 ^ fr % 2 ^ many
def isRec (nm : ByteArray) (kd : Int) (r : Rec) : Bool := decide (r.ty = kd) && (decide (r.cl = 1) && likeB r.name nm)
def ofR (D : List Rec) (nm : ByteArray) (kd : Int) : Nat → Nat → Int
  | 0, _ => -1
  | m + 1, k => match D[k]? with
    | some r => if isRec nm kd r then (k : Int) else ofR D nm kd m (k + 1)
    | none => -1
theorem isRec_no1 {nm : ByteArray} {kd : Int} {r : Rec} (h : r.ty ≠ kd) : isRec nm kd r = false := by simp [isRec, h]
theorem isRec_no2 {nm : ByteArray} {kd : Int} {r : Rec} (h : r.cl ≠ 1) : isRec nm kd r = false := by simp [isRec, h]
theorem isRec_is {nm : ByteArray} {kd : Int} {r : Rec} (h1 : r.ty = kd) (h2 : r.cl = 1) : isRec nm kd r = likeB r.name nm := by simp [isRec, h1, h2]
end Go.Proofs.YtedmkdjijhflnaaGreat
namespace Go.Proofs.YtedmkdjijhflnaaGreat
open Go.RowKit

def InA (L : List (Nat × Nat × List Value)) (G : Nat) (f : Int) (bs : List Nat) : Prop := (G, 0, addrL f bs) ∈ L ∧ bs.length = 16
theorem load_addr_g {ops : Array Oper} {rest : List Oper} {op : Oper} {a : Act} {w : World} {Q : Exit → Act → World → Prop} {G : Nat} {f : Int} {bs : List Nat} (hA : Hid (AddrAt w G f bs)) (x : Operand) (hw : Region.wanted op (yielded ops a.tmps) = true) (ho : op.op = .load 69 x)
    (hx : a.eval x = .pointer (some ⟨G, 0, none⟩)) (h : wpList Tryz.prog ops Q rest (a.put op.dst (addrV f bs)) w) : wpList Tryz.prog ops Q (op :: rest) a w :=
  wpList_load_row hw 69 x ho G 0 hx (addrL f bs) _ hA.out.range Tryz.underlying69 rfl (by rw [addr_size, addrL_len f bs hA.out.len]) h
structure B16 (w : World) (G o : Nat) (bs : List Nat) : Prop where
  len : bs.length = 16
  lt : G < w.heap.size
  range : w.rangeAt G o (bs.map fun n => Value.int .u8 ((n : Nat) : Int))
  there : w.there G o 16
abbrev z16 : Array Value := #[.int .u8 0, .int .u8 0, .int .u8 0, .int .u8 0, .int .u8 0, .int .u8 0, .int .u8 0, .int .u8 0, .int .u8 0, .int .u8 0, .int .u8 0, .int .u8 0, .int .u8 0, .int .u8 0, .int .u8 0, .int .u8 0]
def InB (L : List (Nat × Nat × List Value)) (G o : Nat) (bs : List Nat) : Prop := (G, o, bs.map fun n => Value.int .u8 ((n : Nat) : Int)) ∈ L ∧ bs.length = 16
end Go.Proofs.YtedmkdjijhflnaaGreat
namespace Go.Proofs.YtedmkdjijhflnaaGreat
open Go.RowKit

def adL (r : Int × List Nat) : List Value := addrL r.1 r.2
def AdsAt (w : World) (a : Option Addr) (cap : Nat) (D : List (Int × List Nat)) : Prop :=
  D.length ≤ cap ∧ cap ≤ maxLen ∧ (∀ r ∈ D, r.2.length = 16) ∧ (D.length = 0 ∨ ∃ g o, a = some ⟨g, o, none⟩ ∧ g < w.heap.size ∧ w.rangeAt g o (D.flatMap adL))
theorem AdsAt.below {w w' : World} {a : Option Addr} {cap : Nat} {D : List (Int × List Nat)} (h : AdsAt w a cap D) (hb : Below w.heap.size w w') : AdsAt w' a cap D := by
  obtain ⟨h1, h2, h3, h4⟩ := h
  refine ⟨h1, h2, h3, ?_⟩
  rcases h4 with h4 | ⟨g, o, e, hg, hr⟩
  · exact .inl h4
  · exact .inr ⟨g, o, e, Nat.lt_of_lt_of_le hg hb.size, fun j u hu => (hb.cell (p := ⟨g, o + j, none⟩) hg).trans (hr j u hu)⟩
theorem AdsAt.at {w : World} {a : Option Addr} {cap : Nat} {D : List (Int × List Nat)} (h : AdsAt w a cap D) (k : Nat) (hk : k < D.length) : ∃ g o, a = some ⟨g, o, none⟩ ∧ g < w.heap.size ∧ w.rangeAt g (o + k * 17) (adL D[k]) := by
  obtain ⟨h1, h2, h3, h4⟩ := h
  rcases h4 with h4 | ⟨g, o, e, hg, hr⟩
  · omega
  · exact ⟨g, o, e, hg, range_at hr (S := 17) (fun d hd => addrL_len d.1 d.2 (h3 d hd)) k hk⟩
theorem run_neq_ad (r s : Int × List Nat) (W : World) (hx : r.2.length = 16) (hy : s.2.length = 16) : (binOp .neq 69 (addrV r.1 r.2) (addrV s.1 s.2)).run Tryz.prog W = .ok (.bool (!decide (r = s))) W := by
  rw [run_neq_addr r.1 s.1 r.2 s.2 W hx hy]
  have e : decide (r.1 = s.1 ∧ r.2 = s.2) = decide (r = s) := decide_eq_decide.2 (Prod.ext_iff).symm
  rw [e]
theorem guard_ad (op : BinOp) (x y : Operand) (r s : Int × List Nat) (W : World) : (eqGuard op 69 x y (addrV r.1 r.2) (addrV s.1 s.2)).run Tryz.prog W = .ok () W := guard_addr _ _ _ _ _ _ _ _
theorem yields_ad {ops : Array Oper} {S : World → Prop} {op : Oper} {a : Act} {G o : Nat} {r : Int × List Nat} (h16 : Hid (r.2.length = 16)) (hS : Hid (∀ w, S w → w.rangeAt G o (adL r))) (hw : Region.wanted op (yielded ops a.tmps) = true) (x : Operand) (ho : op.op = .load 69 x) (hx : a.eval x = .pointer (some ⟨G, o, none⟩)) : YieldsIf Tryz.prog ops S op (addrV r.1 r.2) a :=
  yieldsIf_load_mid hw 69 x ho G o hx (addrL r.1 r.2) _ (fun w h => hS.out w h) Tryz.underlying69 rfl (by rw [addr_size, addrL_len _ _ h16.out])
set_option maxRecDepth 100000 in
set_option maxHeartbeats 1000000 in
theorem sameAdsC_any (a b : Option Addr) (c d : Nat) (D E : List (Int × List Nat)) (w : World) (hD : AdsAt w a c D) (hE : AdsAt w b d E) (hl : D.length ≤ 1000000) (hl2 : E.length ≤ 1000000) :
    Calls Tryz.prog 28 #[.slice a D.length c, .slice b E.length d] w fun e w' => e = .returned (.bool (decide (D = E))) ∧ Below w.heap.size w w' := by
  have HD := Lib.hid hD
  have HE := Lib.hid hE
  obtain ⟨R, hR⟩ : ∃ R, decide (D = E) = R := ⟨_, rfl⟩
  have HRR := Lib.hid hR
  rw [hR]
  obtain ⟨N, hN⟩ : ∃ N, D.length = N := ⟨_, rfl⟩
  obtain ⟨M, hM⟩ : ∃ M, E.length = M := ⟨_, rfl⟩
  have HN := Lib.hid hN
  have HM := Lib.hid hM
  rw [hN] at hl ⊢
  rw [hM] at hl2 ⊢
  clear hD hE hR hN hM
  by_cases hNM : N = M
  · subst hNM
    have hne : ((N : Int) != (N : Int)) = false := by simp
    go_enter Tryz.func28, Tryz.ntmps28
    go_wp2_with fail
    go_loopw [5] (fun i wr => ∃ k : Nat, k ≤ N ∧ i = .int .i64 (k : Int) ∧ Hid (∀ j (h : j < D.length) (h2 : j < E.length), j < k → D[j] = E[j]) ∧ Hid (Below w.heap.size w wr)) (fun i _ => N - (intOf i).toNat)
    case atStart => exact ⟨0, Nat.zero_le _, rfl, Lib.hid (fun j _ _ h => absurd h (by omega)), Lib.hid (Below.refl _ _)⟩
    case round =>
      obtain ⟨k, hk, rfl, HO, HB⟩ := hrel
      by_cases hkN : k < N
      · have hd : decide ((k : Int) < (N : Int)) = true := decide_eq_true (by omega)
        have hdn : decide (k < N) = true := decide_eq_true hkN
        have hkD : k < D.length := by rw [HN.out]; exact hkN
        have hkE : k < E.length := by rw [HM.out]; exact hkN
        have HBD := Lib.hid HB.out.drew
        obtain ⟨g, o, ha, hg, hrg⟩ := (HD.out.below HBD.out).at k hkD
        obtain ⟨g2, o2, hb, hg2, hrg2⟩ := (HE.out.below HBD.out).at k hkE
        subst ha
        subst hb
        have H16 := Lib.hid (HD.out.2.2.1 _ (List.getElem_mem hkD))
        have H17 := Lib.hid (HE.out.2.2.1 _ (List.getElem_mem hkE))
        have q := fun W => run_neq_ad D[k] E[k] W H16.out H17.out
        have HO2 : Hid (D[k] = E[k] → ∀ j (h : j < D.length) (h2 : j < E.length), j < k + 1 → D[j] = E[j]) := Lib.hid (fun e j h h2 hj => by
          by_cases h3 : j < k
          · exact HO.out j h h2 h3
          · obtain rfl : j = k := by omega
            exact e)
        have HF : Hid (D[k] ≠ E[k] → R = false) := Lib.hid (fun e => by
          rw [← HRR.out]
          refine decide_eq_false (fun h => e ?_)
          subst h
          rfl)
        have gd := guard_ad
        generalize D[k] = r at *
        generalize E[k] = s at *
        have hb1 : (0 : Int) ≤ (k : Int) := by omega
        have hb2 : (k : Int) < (N : Int) := by omega
        obtain ⟨S, hS⟩ : ∃ S : World → Prop, (fun W => W.rangeAt g (o + k * 17) (adL r) ∧ W.rangeAt g2 (o2 + k * 17) (adL s)) = S := ⟨_, rfl⟩
        have C1 : Hid (∀ w', S w' → w'.rangeAt g (o + k * 17) (adL r)) := Lib.hid (fun w' h => by rw [← hS] at h; exact h.1)
        have C2 : Hid (∀ w', S w' → w'.rangeAt g2 (o2 + k * 17) (adL s)) := Lib.hid (fun w' h => by rw [← hS] at h; exact h.2)
        have HSS : Hid (S wr.drew) := Lib.hid (by rw [← hS]; exact ⟨hrg, hrg2⟩)
        clear hS hrg hrg2 hg hg2
        by_cases hrs : r = s
        · have hq : (!decide (r = s)) = false := by rw [decide_eq_true hrs]; rfl
          rw [hq] at q
          have HO3 := Lib.hid (HO2.out hrs)
          clear HO2 HF HO hrs hq
          go_upto_region 6 with fail
          refine wp_region_noPanic ?_
          refine wp_region_held_drew (S := S) (by kernel_rfl) HSS.out (fun hHeld => ?_)
          refine tkT 0 ?_ rfl (Or.inl ⟨by rfl, ?_⟩) ?_
          rotate_left
          · (intro w hSw; go_simp; try (with_reducible rfl))
          try simp only [Act.put, pZ]
          refine tkT 1 ?_ rfl (Or.inl ⟨by rfl, ?_⟩) ?_
          rotate_left
          · (intro w hSw; go_simp; try (with_reducible rfl))
          try simp only [Act.put, pZ]
          refine tkT 2 ?_ rfl (Or.inl ⟨by rfl, ?_⟩) ?_
          rotate_left
          · (intro w hSw; go_simp; try (with_reducible rfl))
          try simp only [Act.put, pZ]
          refine wpAnyH_take (i := 3) rfl (by kernel_rfl) (by kernel_rfl) (by kernel_rfl) (fun _ _ _ h => h) (yields_ad H16 C1 (by rfl) _ rfl rfl) (by assumption) ?_
          try simp only [Act.put, pZ]
          refine tkT 4 ?_ rfl (Or.inl ⟨by rfl, ?_⟩) ?_
          rotate_left
          · (intro w hSw; go_simp; try (with_reducible rfl))
          try simp only [Act.put, pZ]
          refine tkT 5 ?_ rfl (Or.inl ⟨by rfl, ?_⟩) ?_
          rotate_left
          · (intro w hSw; go_simp; try (with_reducible rfl))
          try simp only [Act.put, pZ]
          refine tkT 6 ?_ rfl (Or.inl ⟨by rfl, ?_⟩) ?_
          rotate_left
          · (intro w hSw; go_simp; try (with_reducible rfl))
          try simp only [Act.put, pZ]
          refine wpAnyH_take (i := 7) rfl (by kernel_rfl) (by kernel_rfl) (by kernel_rfl) (fun _ _ _ h => h) (yields_ad H17 C2 (by rfl) _ rfl rfl) (by assumption) ?_
          try simp only [Act.put, pZ]
          refine tkT 8 ?_ rfl (Or.inl ⟨by rfl, ?_⟩) ?_
          rotate_left
          · (intro w hSw; go_simp; try (with_reducible rfl))
          try simp only [Act.put, pZ]
          refine wpAnyH_done (by kernel_rfl) ?_ _
          refine NoPanic.normal ?_
          clear q gd C1 C2 HSS hHeld
          go_wp2_with fail
          go_roundw
          case rel => exact ⟨k + 1, by omega, by go_num, HO3, HBD⟩
          case measure => simp [intOf]; omega
        · have hq : (!decide (r = s)) = true := by rw [decide_eq_false hrs]; rfl
          rw [hq] at q
          have ER := HF.out hrs
          subst ER
          clear HO2 HF HO hrs hq
          go_upto_region 6 with fail
          refine wp_region_noPanic ?_
          refine wp_region_held_drew (S := S) (by kernel_rfl) HSS.out (fun hHeld => ?_)
          refine tkT 0 ?_ rfl (Or.inl ⟨by rfl, ?_⟩) ?_
          rotate_left
          · (intro w hSw; go_simp; try (with_reducible rfl))
          try simp only [Act.put, pZ]
          refine tkT 1 ?_ rfl (Or.inl ⟨by rfl, ?_⟩) ?_
          rotate_left
          · (intro w hSw; go_simp; try (with_reducible rfl))
          try simp only [Act.put, pZ]
          refine tkT 2 ?_ rfl (Or.inl ⟨by rfl, ?_⟩) ?_
          rotate_left
          · (intro w hSw; go_simp; try (with_reducible rfl))
          try simp only [Act.put, pZ]
          refine wpAnyH_take (i := 3) rfl (by kernel_rfl) (by kernel_rfl) (by kernel_rfl) (fun _ _ _ h => h) (yields_ad H16 C1 (by rfl) _ rfl rfl) (by assumption) ?_
          try simp only [Act.put, pZ]
          refine tkT 4 ?_ rfl (Or.inl ⟨by rfl, ?_⟩) ?_
          rotate_left
          · (intro w hSw; go_simp; try (with_reducible rfl))
          try simp only [Act.put, pZ]
          refine tkT 5 ?_ rfl (Or.inl ⟨by rfl, ?_⟩) ?_
          rotate_left
          · (intro w hSw; go_simp; try (with_reducible rfl))
          try simp only [Act.put, pZ]
          refine tkT 6 ?_ rfl (Or.inl ⟨by rfl, ?_⟩) ?_
          rotate_left
          · (intro w hSw; go_simp; try (with_reducible rfl))
          try simp only [Act.put, pZ]
          refine wpAnyH_take (i := 7) rfl (by kernel_rfl) (by kernel_rfl) (by kernel_rfl) (fun _ _ _ h => h) (yields_ad H17 C2 (by rfl) _ rfl rfl) (by assumption) ?_
          try simp only [Act.put, pZ]
          refine tkT 8 ?_ rfl (Or.inl ⟨by rfl, ?_⟩) ?_
          rotate_left
          · (intro w hSw; go_simp; try (with_reducible rfl))
          try simp only [Act.put, pZ]
          refine wpAnyH_done (by kernel_rfl) ?_ _
          refine NoPanic.normal ?_
          clear q gd C1 C2 HSS hHeld
          go_wp2_with fail
          go_ret
          exact ⟨rfl, HBD.out⟩
      · obtain rfl : k = N := by omega
        have hd : decide ((k : Int) < (k : Int)) = false := by simp
        have ER : R = true := by
          rw [← HRR.out]
          refine decide_eq_true (List.ext_getElem (by rw [HN.out, HM.out]) (fun j h1 h2 => HO.out j h1 h2 (by rw [← HN.out]; exact h1)))
        subst ER
        clear HO
        go_wp2_with fail
        go_ret
        exact ⟨rfl, HB.out⟩
  · have hne : ((N : Int) != (M : Int)) = true := by rw [bne_iff_ne]; omega
    have ER : R = false := by
      rw [← HRR.out]
      refine decide_eq_false (fun h => hNM ?_)
      rw [← HN.out, ← HM.out, h]
    subst ER
    go_enter Tryz.func28, Tryz.ntmps28
    go_wp2_with fail
    go_ret
    exact ⟨rfl, Below.refl _ _⟩
end Go.Proofs.YtedmkdjijhflnaaGreat
namespace Go.Proofs.YtedmkdjijhflnaaGreat
open Go.RowKit

theorem range_farC {w w' : World} {G o : Nat} {cs : List Value} {row : Option Nat} (h : w.rangeAt G o cs) (hg : w.grownBy w' row) (hlt : G < w.heap.size) (hne : some G ≠ row) : w'.rangeAt G o cs := fun j u hu => by rw [hg.cell_far ⟨G, o + j, none⟩ hlt hne]; exact h j u hu
theorem range_belowC {w w' : World} {G B o : Nat} {cs : List Value} (h : w.rangeAt G o cs) (hb : Below B w w') (hG : G < B) : w'.rangeAt G o cs := fun j u hu => by rw [hb.cell (p := ⟨G, o + j, none⟩) hG]; exact h j u hu
end Go.Proofs.YtedmkdjijhflnaaGreat
namespace Go.Proofs.YtedmkdjijhflnaaGreat
open Go.RowKit

abbrev Ad := Int × List Nat
def flatA (D : List Ad) : List Value := D.flatMap adL
def H16 (D : List Ad) : Prop := ∀ r ∈ D, r.2.length = 16
theorem flatA_len (D : List Ad) (h : H16 D) : (flatA D).length = D.length * 17 := flatMap_len adL 17 D (fun d hd => addrL_len d.1 d.2 (h d hd))
theorem flatA_append (xs ys : List Ad) : flatA (xs ++ ys) = flatA xs ++ flatA ys := by simp [flatA]
theorem flatA_one (D : List Ad) : ∀ u ∈ flatA D, u.oneCell' = true := by
  intro u hu
  obtain ⟨e, he, h2⟩ := List.mem_flatMap.1 hu
  unfold adL addrL at h2
  rcases List.mem_cons.1 h2 with rfl | h2
  · rfl
  · obtain ⟨x, _, rfl⟩ := List.mem_map.1 h2
    rfl
abbrev zAd : Array Value := #[.int .i64 0, .int .u8 0, .int .u8 0, .int .u8 0, .int .u8 0, .int .u8 0, .int .u8 0, .int .u8 0, .int .u8 0, .int .u8 0, .int .u8 0, .int .u8 0, .int .u8 0, .int .u8 0, .int .u8 0, .int .u8 0, .int .u8 0]
theorem infoA : (Tryz.prog.info? 69).map (fun i => (i.zero, i.size, i.bytes)) = some (some (.agg zAd), 17, 24) := by kernel_rfl
def RowA (w : World) (base : Nat) (v : Value) (D : List Ad) : Prop := w.ownsRow base 69 17 v D.length (flatA D) ∧ H16 D ∧ D.length ≤ 1000
theorem RowA.nil (w : World) (base : Nat) : RowA w base (.slice none 0 0) [] := ⟨World.ownsRow_nil _ _ _ _, (fun r h => by cases h), by decide⟩
theorem RowA.kept2 {w w' : World} {B : Nat} {v : Value} {D : List Ad} (h : RowA w B v D) (hk : ∀ g, v.ownBlock = some g → w'.heap[g]? = w.heap[g]?) : RowA w' B v D := by
  obtain ⟨⟨h1, h2⟩, h3⟩ := h
  refine ⟨⟨h1, ?_⟩, h3⟩
  rcases h2 with h2 | ⟨g, cap, cur, e1, e2, e3, e4⟩
  · exact .inl h2
  · exact .inr ⟨g, cap, cur, e1, e2, (hk g (by rw [e1]; rfl)).trans e3, e4⟩
theorem RowA.lt {w : World} {B : Nat} {v : Value} {D : List Ad} (h : RowA w B v D) : ∀ g, v.ownBlock = some g → B ≤ g ∧ g < w.heap.size := fun g hg => h.1.lt g hg
theorem RowA.below {w w' : World} {base : Nat} {v : Value} {D : List Ad} (h : RowA w base v D) (hb : Below w.heap.size w w') : RowA w' base v D := h.kept2 (fun g hg => hb.block g (h.lt g hg).2)
theorem RowA.mono {w : World} {base base' : Nat} {v : Value} {D : List Ad} (h : RowA w base v D) (hb : base' ≤ base) : RowA w base' v D := by
  obtain ⟨⟨h1, h2⟩, h3⟩ := h
  refine ⟨⟨h1, ?_⟩, h3⟩
  rcases h2 with h2 | ⟨g, cap, cur, e1, e2, e3⟩
  · exact .inl h2
  · exact .inr ⟨g, cap, cur, e1, by omega, e3⟩
theorem RowA.form {w : World} {base : Nat} {v : Value} {es : List Ad} (h : RowA w base v es) : (v = .slice none 0 0 ∧ es = []) ∨ ∃ g cap, v = .slice (some ⟨g, 0, none⟩) es.length cap ∧ base ≤ g ∧ g < w.heap.size ∧ es.length ≤ cap ∧ cap ≤ maxLen ∧ w.rangeAt g 0 (flatA es) := by
  obtain ⟨hr, h16, hle⟩ := h
  obtain ⟨h1, h2⟩ := hr
  rcases h2 with ⟨e1, e2⟩ | ⟨g, cap, cur, e1, e2, e3, e4, e5, e6, e7⟩
  · exact .inl ⟨e1, List.eq_nil_of_length_eq_zero e2⟩
  · refine .inr ⟨g, cap, e1, e2, ?_, e4, e5, fun j u hu => ?_⟩
    · apply Classical.byContradiction
      intro h
      rw [Array.getElem?_eq_none (by omega)] at e3
      cases e3
    · rw [Nat.zero_add, cell_of_row w g j cur _ _ e3, ← Array.getElem?_toList]
      rw [← e7, List.getElem?_take] at hu
      split at hu
      · exact hu
      · cases hu
def AdsIn (w : World) (a : Option Addr) (cap : Nat) (D : List Ad) : Prop := AdsAt w a cap D ∧ True
theorem AdsIn.below {w w' : World} {a : Option Addr} {cap : Nat} {D : List Ad} (h : AdsIn w a cap D) (hb : Below w.heap.size w w') : AdsIn w' a cap D := ⟨h.1.below hb, h.2⟩
theorem AdsIn.nil (w : World) : AdsIn w none 0 [] := ⟨⟨by simp, by unfold maxLen; omega, (fun r h => by cases h), .inl rfl⟩, trivial⟩
theorem RowA.ads {w : World} {base : Nat} {v : Value} {D : List Ad} (h : RowA w base v D) : ∃ a c, v = .slice a D.length c ∧ AdsIn w a c D := by
  rcases h.form with ⟨rfl, rfl⟩ | ⟨g, cap, rfl, h1, h2, h3, h4, h5⟩
  · exact ⟨none, 0, rfl, AdsIn.nil w⟩
  · exact ⟨_, _, rfl, ⟨h3, h4, h.2.1, .inr ⟨g, 0, rfl, h2, h5⟩⟩, trivial⟩
theorem append_ads {ops : Array Oper} {rest : List Oper} {op : Oper} {a : Act} {w : World} {Q : Exit → Act → World → Prop} {base : Nat} {v : Value} {es : List Ad} (hE : Hid (RowA w base v es)) (s x : Operand) (hgd : op.guard = none) (ho : op.op = .call { callee := .builtin .append, args := #[s, x], argTypes := #[45, 45] })
    (hs : a.eval s = v) {G o m c : Nat} (ys : List Ad) (hx : a.eval x = .slice (some ⟨G, o, none⟩) m c) (hm : Hid (m = ys.length)) (hr : Hid (w.rangeAt G o (flatA ys))) (hy : Hid (H16 ys)) (hle : Hid (es.length + ys.length ≤ 1000)) (hbase : Hid (base ≤ w.heap.size))
    (h : ∀ v' w', Hid (RowA w' base v' (es ++ ys)) → Hid (w.grownBy w' v.ownBlock) → wpList Tryz.prog ops Q rest (a.put op.dst v') w') : wpList Tryz.prog ops Q (op :: rest) a w := by
  obtain ⟨i0, hi0, hz0, hz1, hz2⟩ := info_parts infoA
  have hml := hm.out
  have hll := hle.out
  refine wpList_append_own_at w hgd s x 45 ho base 69 i0 _ 17 24 Tryz.underlying45 hi0 hz0 hz1 hz2 rfl (by decide) v es.length (flatA es) hs hE.out.1 ⟨G, o, none⟩ m c (flatA ys) hx (by rw [flatA_len ys hy.out, hml]) (fun j u hu => ?_) (flatA_one ys) (by unfold maxLen; omega) (by omega) hbase.out (fun v' w' h1 h2 _ h4 => ?_)
  · have := hr.out j u hu
    have hadd : (⟨G, o, none⟩ : Addr).add j = ⟨G, o + j, none⟩ := by unfold Addr.add; split <;> simp_all
    rw [hadd]
    exact this
  · refine h v' w' (Lib.hid ⟨?_, ?_, ?_⟩) (Lib.hid h2)
    · rw [List.length_append, flatA_append, ← hml]; exact h1
    · intro e he
      rcases List.mem_append.1 he with he | he
      · exact hE.out.2.1 e he
      · exact hy.out e he
    · rw [List.length_append]; exact hll
theorem append_adsZ {ops : Array Oper} {rest : List Oper} {op : Oper} {a : Act} {w : World} {Q : Exit → Act → World → Prop} {base : Nat} {v : Value} {es : List Ad} (hE : Hid (RowA w base v es)) (s x : Operand) (hgd : op.guard = none) (ho : op.op = .call { callee := .builtin .append, args := #[s, x], argTypes := #[45, 45] })
    (hs : a.eval s = v) {ad : Addr} {c : Nat} (hx : a.eval x = .slice (some ad) 0 c) (hbase : Hid (base ≤ w.heap.size))
    (h : ∀ v' w', Hid (RowA w' base v' es) → Hid (w.grownBy w' v.ownBlock) → wpList Tryz.prog ops Q rest (a.put op.dst v') w') : wpList Tryz.prog ops Q (op :: rest) a w := by
  obtain ⟨i0, hi0, hz0, hz1, hz2⟩ := info_parts infoA
  have hll := hE.out.2.2
  refine wpList_append_own_at w hgd s x 45 ho base 69 i0 _ 17 24 Tryz.underlying45 hi0 hz0 hz1 hz2 rfl (by decide) v es.length (flatA es) hs hE.out.1 ad 0 c [] hx rfl (fun j u hu => by cases hu) (fun u hu => by cases hu) (by unfold maxLen; omega) (by omega) hbase.out (fun v' w' h1 h2 _ h4 => ?_)
  refine h v' w' (Lib.hid ⟨?_, hE.out.2⟩) (Lib.hid h2)
  simpa using h1
theorem run_buildA0 (w : World) : (Instr.buildSlice 45 0 #[]).run Tryz.prog w = .ok (.slice (some ⟨w.heap.size, 0, none⟩) 0 0) (w.alloc (.cells #[] 69)) := by
  have hu : (underlying 45).run Tryz.prog w = .ok _ w := run_underlying Tryz.underlying45 w
  have hnr : ∀ cs : Array Value, (newRow 69 cs).run Tryz.prog w = .ok ⟨w.heap.size, 0, none⟩ (w.alloc (.cells cs 69)) := fun cs => by simp [newRow]
  unfold Instr.buildSlice
  simp [Sem.run_bind, hu, hnr, Instr.fill]
  rw [show Array.map (fun _ => (default : Value)) (Array.range 0) = #[] from Array.eq_empty_of_size_eq_zero (by simp)]
theorem build_stepA0 {ops : Array Oper} {rest : List Oper} {op : Oper} {a : Act} {w : World} {Q : Exit → Act → World → Prop} (hg : op.guard = none) (ho : op.op = .buildSlice 45 0 #[])
    (h : ∀ W, Hid (W = w.alloc (.cells #[] 69)) → wpList Tryz.prog ops Q rest (a.put op.dst (.slice (some ⟨w.heap.size, 0, none⟩) 0 0)) W) : wpList Tryz.prog ops Q (op :: rest) a w := by
  refine wpList_plain hg fun K hK => ?_
  unfold Oper.wp execOp
  simp only [ho, List.map_toArray, List.map_nil, Sem.run_bind, run_buildA0 w, Result.andThen_ok]
  exact hK _ _ (h _ (Lib.hid rfl))
theorem rowA_empty (w : World) : RowA (w.alloc (.cells #[] 69)) w.heap.size (.slice (some ⟨w.heap.size, 0, none⟩) 0 0) [] :=
  ⟨⟨rfl, .inr ⟨w.heap.size, 0, #[], rfl, Nat.le_refl _, by show (w.heap.push _)[w.heap.size]? = _; simp, Nat.le_refl _, Nat.zero_le _, rfl, rfl⟩⟩, (fun e he => by cases he), by decide⟩
set_option maxRecDepth 100000 in
theorem cloneA_any (a : Option Addr) (c : Nat) (L : List Ad) (w : World) (hA : AdsIn w a c L) (hl : L.length ≤ 1000) :
    Calls Tryz.prog 68 #[.slice a L.length c] w fun e w' => ∃ v', e = .returned v' ∧ RowA w' w.heap.size v' L ∧ Below w.heap.size w w' := by
  have q : ∀ (w : World) (a : Option Addr) (n c n' c' : Nat), (binOp .eql 45 (.slice a n c) (.slice none n' c')).run Tryz.prog w = .ok (.bool a.isNone) w := fun w a n c n' c' => Lib.run_eql_slice_nil w _ _ a n c n' c' Tryz.underlying45
  obtain ⟨⟨h1, h2, h3, h4⟩, hf⟩ := hA
  cases a with
  | none =>
    have : L = [] := by
      rcases h4 with h4 | ⟨g, o, e, _⟩
      · exact List.eq_nil_of_length_eq_zero h4
      · cases e
    subst this
    go_enter Tryz.func68, Tryz.ntmps68
    go_wp2_with fail
    go_ret
    exact ⟨_, rfl, RowA.nil _ _, Below.refl _ _⟩
  | some ad =>
    by_cases hz : L = []
    · subst hz
      go_enter Tryz.func68, Tryz.ntmps68
      go_wp2_with (first
        | (refine build_stepA0 rfl rfl (fun W HW => ?_); have HE : Hid (RowA W w.heap.size (.slice (some ⟨w.heap.size, 0, none⟩) 0 0) []) := Lib.hid (by rw [HW.out]; exact rowA_empty w); have HB : Hid (Below w.heap.size w W) := Lib.hid (by rw [HW.out]; exact (Below.refl _ _).alloc (Nat.le_refl _) _); have HS : Hid (w.heap.size ≤ W.heap.size) := Lib.hid HB.out.size)
        | (refine append_adsZ HE _ _ rfl rfl rfl rfl HS (fun v' w' H1 H2 => ?_)))
      go_ret
      refine ⟨v', rfl, H1.out, ?_⟩
      exact HB.out.grown H2.out HS.out (fun k hk => by cases hk; exact Nat.le_refl _)
    obtain ⟨g, o, e, hg, hr⟩ : ∃ g o, some ad = some ⟨g, o, none⟩ ∧ g < w.heap.size ∧ w.rangeAt g o (L.flatMap adL) := by
      rcases h4 with h4 | h4
      · exact absurd (List.eq_nil_of_length_eq_zero h4) hz
      · exact h4
    obtain rfl : ad = ⟨g, o, none⟩ := by injection e
    have HRG : Hid (∀ W, Below w.heap.size w W → W.rangeAt g o (flatA L)) := Lib.hid (fun W hb => range_belowC hr hb hg)
    have HY := Lib.hid (show H16 L from h3)
    have HLE : Hid (([] : List Ad).length + L.length ≤ 1000) := Lib.hid (by rw [List.length_nil]; omega)
    clear h1 h2 h3 h4 hz e hg hr
    obtain ⟨N, hN⟩ : ∃ N, L.length = N := ⟨_, rfl⟩
    have HM : Hid (N = L.length) := Lib.hid hN.symm
    rw [hN]
    clear hN hl
    go_enter Tryz.func68, Tryz.ntmps68
    go_wp2_with (first
      | (refine build_stepA0 rfl rfl (fun W HW => ?_); have HE : Hid (RowA W w.heap.size (.slice (some ⟨w.heap.size, 0, none⟩) 0 0) []) := Lib.hid (by rw [HW.out]; exact rowA_empty w); have HB : Hid (Below w.heap.size w W) := Lib.hid (by rw [HW.out]; exact (Below.refl _ _).alloc (Nat.le_refl _) _); have HR1 := Lib.hid (HRG.out W HB.out); have HS : Hid (w.heap.size ≤ W.heap.size) := Lib.hid HB.out.size)
      | (refine append_ads HE _ _ rfl rfl rfl L rfl HM HR1 HY HLE HS (fun v' w' H1 H2 => ?_)))
    go_ret
    refine ⟨v', rfl, H1.out, ?_⟩
    exact HB.out.grown H2.out HS.out (fun k hk => by cases hk; exact Nat.le_refl _)
end Go.Proofs.YtedmkdjijhflnaaGreat
namespace Go.Proofs.YtedmkdjijhflnaaGreat
open Go.RowKit

structure MBox (w : World) (G : Nat) (v0 v1 v2 v3 v4 v5 : Value) : Prop where
  c0 : w.cell? ⟨G, 0, none⟩ = some v0
  c1 : w.cell? ⟨G, 1, none⟩ = some v1
  c2 : w.cell? ⟨G, 2, none⟩ = some v2
  c3 : w.cell? ⟨G, 3, none⟩ = some v3
  c4 : w.cell? ⟨G, 4, none⟩ = some v4
  c5 : w.cell? ⟨G, 5, none⟩ = some v5
def RoomM (m : Msg) : Prop := (∀ q ∈ m.qs, q.name.size ≤ 1900000) ∧ (∀ r ∈ m.an, Room r) ∧ (∀ r ∈ m.au, Room r) ∧ (∀ r ∈ m.mo, Room r) ∧ m.qs.length ≤ 1000000 ∧ m.an.length ≤ 1000000 ∧ m.au.length ≤ 1000000 ∧ m.mo.length ≤ 1000000
end Go.Proofs.YtedmkdjijhflnaaGreat
