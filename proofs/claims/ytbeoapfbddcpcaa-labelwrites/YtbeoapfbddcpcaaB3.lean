/- Texts that belong together, one behind the other: RefNameSt, RefNameFin, Numbers, Digits, LabIn, LabSpell, LabWr, LabWrOps. -/
import Derived.Test.YtbeoapfbddcpcaaB2
import Derived.OpenShut
import Derived.Maps.OwnSet
import Derived.WalkArith
import Derived.Lib.SliceRun
/- What the reference's Name of layer 8 holds on its way: kept beside its calls and its appends. -/
namespace Go.Proofs.Ytbeoapfbddcpcaa
open Go.RowKit
set_option linter.unusedVariables false
set_option maxRecDepth 20000

/-- A number behind a row of numbers of one's own. -/
theorem wp_append_num {op : Oper} {a : Act} {w : World} {K : Act → World → Prop} {Q : Exit → Act → World → Prop} {B G c : Nat} {v : Value} {l : List Nat} {p : Nat} (hown : Hid (w.ownsRow B 3 1 v l.length (intsL l))) (hm : Hid (w.cell? ⟨G, 0, none⟩ = some (.int .i64 (p : Int)))) (hn : Hid (l.length ≤ 1000000 ∧ B ≤ w.heap.size)) (sl x : Operand)
    (ho : op.op = .call { callee := .builtin .append, args := #[sl, x], argTypes := #[44, 44] }) (hs : a.eval sl = v) (hx : a.eval x = .slice (some ⟨G, 0, none⟩) 1 c)
    (h : ∀ v' w', Hid (w'.ownsRow B 3 1 v' (l ++ [p]).length (intsL (l ++ [p]))) → Hid (w.grownBy w' v.ownBlock) → Hid (Foot v.ownBlock.toList v'.ownBlock.toList w w') → K (a.put op.dst v') w') : op.wp Try.prog a w K Q := by
  obtain ⟨i0, hi0, hz0, hz1, hz2⟩ := info_parts Try.infoInt8
  obtain ⟨hn1, hn2⟩ := hn.out
  obtain ⟨v', w', hr, h2, h3, _, h5⟩ := run_append_own_at (P := Try.prog) w B 44 op.type 3 i0 _ 1 8 Try.underlying44 hi0 hz0 hz1 hz2 rfl (by decide) v l.length (intsL l) hown.out ⟨G, 0, none⟩ 1 c [.int .i64 (p : Int)] rfl (fun j u hu => by
      match j, hu with
      | 0, hu => rw [add_none, hm.out]; exact hu
      | j + 1, hu => simp at hu) (fun u hu => by rw [List.mem_singleton.1 hu]; rfl) (by unfold maxLen; omega) (by omega) hn2
  unfold Oper.wp execOp
  simp only [ho, resolve, invoke, builtin, Sem.run_bind, Sem.run_pure, Result.andThen_ok, List.map_toArray, List.map_cons, List.map_nil, hs, hx, hr]
  refine h v' w' (Lib.hid ?_) (Lib.hid h3) (Lib.hid (Foot.ofGrown h3 (h5.imp id (fun e g hg => by rw [e] at hg; cases hg; exact Nat.le_refl _))))
  simpa [intsL] using h2
abbrev nilS : Value := .slice none 0 0
def blk3 (vB vN vA : Value) : List Nat := vB.ownBlock.toList ++ vN.ownBlock.toList ++ vA.ownBlock.toList
theorem mem_blk3 {vB vN vA : Value} {k : Nat} : k ∈ blk3 vB vN vA ↔ vB.ownBlock = some k ∨ vN.ownBlock = some k ∨ vA.ownBlock = some k := by simp [blk3]
structure NSt (w : World) (B S0 : Nat) (F0 : List Nat) (aL : Option Addr) (cL : Nat) (L : List ByteArray) (wr : World) (vB vN vA : Value) (l : List UInt8) (ns : List ByteArray) (ats : List Nat) : Prop where
  box : WBox wr w.heap.size vB vN vA
  res : WBox wr (w.heap.size + 1) nilS nilS nilS
  rb : wr.ownsRow B 5 1 vB l.length (bys l)
  rn : wr.ownsRow B 9 1 vN ns.length (ns.map Value.string)
  ra : wr.ownsRow B 3 1 vA ats.length (intsL ats)
  lab : RowS wr aL cL L
  foot : Foot F0 (blk3 vB vN vA) w wr
  away : ∀ k ∈ blk3 vB vN vA, k < w.heap.size ∨ S0 ≤ k
  sz : S0 ≤ wr.heap.size
  base : B ≤ w.heap.size
  two : w.heap.size + 1 < S0
  fresh : ∀ g, aL = some ⟨g, 0, none⟩ → w.heap.size + 1 < g ∧ g < S0
theorem RowS.kept {w w' : World} {a : Option Addr} {c : Nat} {l : List ByteArray} (h : RowS w a c l) (hs : w.heap.size ≤ w'.heap.size) (hk : ∀ g, a = some ⟨g, 0, none⟩ → w'.heap[g]? = w.heap[g]?) : RowS w' a c l := by
  rcases h with h | ⟨g, e, h⟩
  · exact .inl h
  · exact .inr ⟨g, e, h.len, h.cap, h.capm, Nat.lt_of_lt_of_le h.lt hs, fun i hi => (World.cell?_of_block (a := ⟨g, i, none⟩) (hk g e)).trans (h.cells i hi)⟩
section
variable {w : World} {B S0 : Nat} {F0 : List Nat} {aL : Option Addr} {cL : Nat} {L : List ByteArray} {wr wr' : World} {vB vN vA : Value} {l : List UInt8} {ns : List ByteArray} {ats : List Nat}
theorem NSt.below (h : NSt w B S0 F0 aL cL L wr vB vN vA l ns ats) (hb : Below wr.heap.size wr wr') : NSt w B S0 F0 aL cL L wr' vB vN vA l ns ats :=
  ⟨h.box.kept (hb.block _ h.box.lt), h.res.kept (hb.block _ h.res.lt), own_below8 h.rb hb, own_below8 h.rn hb, own_below8 h.ra hb, h.lab.below hb, h.foot.trans (Foot.ofBelow _ hb), h.away, Nat.le_trans h.sz hb.size, h.base, h.two, h.fresh⟩
theorem NSt.put0 (h : NSt w B S0 F0 aL cL L wr vB vN vA l ns ats) {v' : Value} {l' : List UInt8} (hown : wr'.ownsRow B 5 1 v' l'.length (bys l')) (hg : wr.grownBy wr' vB.ownBlock) (hf : Foot vB.ownBlock.toList v'.ownBlock.toList wr wr') :
    NSt w B S0 F0 aL cL L (wr'.setCell ⟨w.heap.size, 0, none⟩ v') v' vN vA l' ns ats := by
  have hme : ∀ k, vB.ownBlock = some k → k < w.heap.size ∨ S0 ≤ k := fun k hk => h.away k (mem_blk3.2 (.inl hk))
  have hnew : ∀ k, v'.ownBlock = some k → vB.ownBlock = some k ∨ wr.heap.size ≤ k := fun k hk => (hf.new k (by rw [hk]; simp)).imp (fun e => by simpa using e) id
  have h2 := h.two
  have hsz := h.sz
  have hset : ∀ k, k ≠ w.heap.size → (wr'.setCell ⟨w.heap.size, 0, none⟩ v').heap[k]? = wr'.heap[k]? := fun k hk => Below.heap_setCell wr' ⟨w.heap.size, 0, none⟩ v' k hk
  have hold : ∀ k, k < wr.heap.size → vB.ownBlock ≠ some k → k ≠ w.heap.size → (wr'.setCell ⟨w.heap.size, 0, none⟩ v').heap[k]? = wr.heap[k]? := fun k h1 h3 h4 => (hset k h4).trans (hg.block k h1 (fun e => h3 e.symm))
  have hssz : (wr'.setCell ⟨w.heap.size, 0, none⟩ v').heap.size = wr'.heap.size := by simp [World.setCell]
  refine ⟨?_, ?_, ?_, ?_, ?_, ?_, ?_, ?_, ?_, h.base, h.two, h.fresh⟩
  · exact (h.box.kept (hg.block _ h.box.lt (fun e => by rcases hme _ e.symm with e | e <;> omega))).set0 v'
  · exact h.res.kept (hold _ h.res.lt (fun e => by rcases hme _ e with e | e <;> omega) (by omega))
  · exact own_kept hown (fun k hk => hset k (fun e => by
      subst e
      rcases hnew _ hk with e | e
      · rcases hme _ e with e | e <;> omega
      · omega))
  · exact own_kept (own_grown h.rb h.rn (by decide) hg) (fun k hk => hset k (fun e => by
      subst e
      rcases h.away _ (mem_blk3.2 (.inr (.inl hk))) with e | e <;> omega))
  · exact own_kept (own_grown h.rb h.ra (by decide) hg) (fun k hk => hset k (fun e => by
      subst e
      rcases h.away _ (mem_blk3.2 (.inr (.inr hk))) with e | e <;> omega))
  · refine h.lab.kept (by rw [hssz]; exact hg.size) (fun g hgL => ?_)
    have h3 := h.fresh g hgL
    exact hold g (by omega) (fun e => by rcases hme _ e with e | e <;> omega) (by omega)
  · refine ⟨hg.os.trans h.foot.os, hg.tape.trans h.foot.tape, hg.output.trans h.foot.output, by rw [hssz]; exact Nat.le_trans h.foot.size hg.size, fun k hk hn => ?_, fun k hk => ?_⟩
    · refine (hold k (Nat.lt_of_lt_of_le hk h.foot.size) (fun e => ?_) (by omega)).trans (h.foot.keep k hk hn)
      rcases h.foot.new k (mem_blk3.2 (.inl e)) with e | e
      · exact hn e
      · omega
    · rcases mem_blk3.1 hk with e | e | e
      · rcases hnew k e with e | e
        · exact h.foot.new k (mem_blk3.2 (.inl e))
        · exact .inr (Nat.le_trans h.foot.size e)
      · exact h.foot.new k (mem_blk3.2 (.inr (.inl e)))
      · exact h.foot.new k (mem_blk3.2 (.inr (.inr e)))
  · intro k hk
    rcases mem_blk3.1 hk with e | e | e
    · rcases hnew k e with e | e
      · exact hme k e
      · exact .inr (by omega)
    · exact h.away k (mem_blk3.2 (.inr (.inl e)))
    · exact h.away k (mem_blk3.2 (.inr (.inr e)))
  · rw [hssz]; exact Nat.le_trans h.sz hg.size
theorem NSt.put1 (h : NSt w B S0 F0 aL cL L wr vB vN vA l ns ats) {v' : Value} {ns' : List ByteArray} (hown : wr'.ownsRow B 9 1 v' ns'.length (ns'.map Value.string)) (hg : wr.grownBy wr' vN.ownBlock) (hf : Foot vN.ownBlock.toList v'.ownBlock.toList wr wr') :
    NSt w B S0 F0 aL cL L (wr'.setCell ⟨w.heap.size, 1, none⟩ v') vB v' vA l ns' ats := by
  have hme : ∀ k, vN.ownBlock = some k → k < w.heap.size ∨ S0 ≤ k := fun k hk => h.away k (mem_blk3.2 (.inr (.inl hk)))
  have hnew : ∀ k, v'.ownBlock = some k → vN.ownBlock = some k ∨ wr.heap.size ≤ k := fun k hk => (hf.new k (by rw [hk]; simp)).imp (fun e => by simpa using e) id
  have h2 := h.two
  have hsz := h.sz
  have hset : ∀ k, k ≠ w.heap.size → (wr'.setCell ⟨w.heap.size, 1, none⟩ v').heap[k]? = wr'.heap[k]? := fun k hk => Below.heap_setCell wr' ⟨w.heap.size, 1, none⟩ v' k hk
  have hold : ∀ k, k < wr.heap.size → vN.ownBlock ≠ some k → k ≠ w.heap.size → (wr'.setCell ⟨w.heap.size, 1, none⟩ v').heap[k]? = wr.heap[k]? := fun k h1 h3 h4 => (hset k h4).trans (hg.block k h1 (fun e => h3 e.symm))
  have hssz : (wr'.setCell ⟨w.heap.size, 1, none⟩ v').heap.size = wr'.heap.size := by simp [World.setCell]
  refine ⟨?_, ?_, ?_, ?_, ?_, ?_, ?_, ?_, ?_, h.base, h.two, h.fresh⟩
  · exact (h.box.kept (hg.block _ h.box.lt (fun e => by rcases hme _ e.symm with e | e <;> omega))).set1 v'
  · exact h.res.kept (hold _ h.res.lt (fun e => by rcases hme _ e with e | e <;> omega) (by omega))
  · exact own_kept (own_grown h.rn h.rb (by decide) hg) (fun k hk => hset k (fun e => by
      subst e
      rcases h.away _ (mem_blk3.2 (.inl hk)) with e | e <;> omega))
  · exact own_kept hown (fun k hk => hset k (fun e => by
      subst e
      rcases hnew _ hk with e | e
      · rcases hme _ e with e | e <;> omega
      · omega))
  · exact own_kept (own_grown h.rn h.ra (by decide) hg) (fun k hk => hset k (fun e => by
      subst e
      rcases h.away _ (mem_blk3.2 (.inr (.inr hk))) with e | e <;> omega))
  · refine h.lab.kept (by rw [hssz]; exact hg.size) (fun g hgL => ?_)
    have h3 := h.fresh g hgL
    exact hold g (by omega) (fun e => by rcases hme _ e with e | e <;> omega) (by omega)
  · refine ⟨hg.os.trans h.foot.os, hg.tape.trans h.foot.tape, hg.output.trans h.foot.output, by rw [hssz]; exact Nat.le_trans h.foot.size hg.size, fun k hk hn => ?_, fun k hk => ?_⟩
    · refine (hold k (Nat.lt_of_lt_of_le hk h.foot.size) (fun e => ?_) (by omega)).trans (h.foot.keep k hk hn)
      rcases h.foot.new k (mem_blk3.2 (.inr (.inl e))) with e | e
      · exact hn e
      · omega
    · rcases mem_blk3.1 hk with e | e | e
      · exact h.foot.new k (mem_blk3.2 (.inl e))
      · rcases hnew k e with e | e
        · exact h.foot.new k (mem_blk3.2 (.inr (.inl e)))
        · exact .inr (Nat.le_trans h.foot.size e)
      · exact h.foot.new k (mem_blk3.2 (.inr (.inr e)))
  · intro k hk
    rcases mem_blk3.1 hk with e | e | e
    · exact h.away k (mem_blk3.2 (.inl e))
    · rcases hnew k e with e | e
      · exact hme k e
      · exact .inr (by omega)
    · exact h.away k (mem_blk3.2 (.inr (.inr e)))
  · rw [hssz]; exact Nat.le_trans h.sz hg.size
theorem NSt.put2 (h : NSt w B S0 F0 aL cL L wr vB vN vA l ns ats) {v' : Value} {ats' : List Nat} (hown : wr'.ownsRow B 3 1 v' ats'.length (intsL ats')) (hg : wr.grownBy wr' vA.ownBlock) (hf : Foot vA.ownBlock.toList v'.ownBlock.toList wr wr') :
    NSt w B S0 F0 aL cL L (wr'.setCell ⟨w.heap.size, 2, none⟩ v') vB vN v' l ns ats' := by
  have hme : ∀ k, vA.ownBlock = some k → k < w.heap.size ∨ S0 ≤ k := fun k hk => h.away k (mem_blk3.2 (.inr (.inr hk)))
  have hnew : ∀ k, v'.ownBlock = some k → vA.ownBlock = some k ∨ wr.heap.size ≤ k := fun k hk => (hf.new k (by rw [hk]; simp)).imp (fun e => by simpa using e) id
  have h2 := h.two
  have hsz := h.sz
  have hset : ∀ k, k ≠ w.heap.size → (wr'.setCell ⟨w.heap.size, 2, none⟩ v').heap[k]? = wr'.heap[k]? := fun k hk => Below.heap_setCell wr' ⟨w.heap.size, 2, none⟩ v' k hk
  have hold : ∀ k, k < wr.heap.size → vA.ownBlock ≠ some k → k ≠ w.heap.size → (wr'.setCell ⟨w.heap.size, 2, none⟩ v').heap[k]? = wr.heap[k]? := fun k h1 h3 h4 => (hset k h4).trans (hg.block k h1 (fun e => h3 e.symm))
  have hssz : (wr'.setCell ⟨w.heap.size, 2, none⟩ v').heap.size = wr'.heap.size := by simp [World.setCell]
  refine ⟨?_, ?_, ?_, ?_, ?_, ?_, ?_, ?_, ?_, h.base, h.two, h.fresh⟩
  · exact (h.box.kept (hg.block _ h.box.lt (fun e => by rcases hme _ e.symm with e | e <;> omega))).set2 v'
  · exact h.res.kept (hold _ h.res.lt (fun e => by rcases hme _ e with e | e <;> omega) (by omega))
  · exact own_kept (own_grown h.ra h.rb (by decide) hg) (fun k hk => hset k (fun e => by
      subst e
      rcases h.away _ (mem_blk3.2 (.inl hk)) with e | e <;> omega))
  · exact own_kept (own_grown h.ra h.rn (by decide) hg) (fun k hk => hset k (fun e => by
      subst e
      rcases h.away _ (mem_blk3.2 (.inr (.inl hk))) with e | e <;> omega))
  · exact own_kept hown (fun k hk => hset k (fun e => by
      subst e
      rcases hnew _ hk with e | e
      · rcases hme _ e with e | e <;> omega
      · omega))
  · refine h.lab.kept (by rw [hssz]; exact hg.size) (fun g hgL => ?_)
    have h3 := h.fresh g hgL
    exact hold g (by omega) (fun e => by rcases hme _ e with e | e <;> omega) (by omega)
  · refine ⟨hg.os.trans h.foot.os, hg.tape.trans h.foot.tape, hg.output.trans h.foot.output, by rw [hssz]; exact Nat.le_trans h.foot.size hg.size, fun k hk hn => ?_, fun k hk => ?_⟩
    · refine (hold k (Nat.lt_of_lt_of_le hk h.foot.size) (fun e => ?_) (by omega)).trans (h.foot.keep k hk hn)
      rcases h.foot.new k (mem_blk3.2 (.inr (.inr e))) with e | e
      · exact hn e
      · omega
    · rcases mem_blk3.1 hk with e | e | e
      · exact h.foot.new k (mem_blk3.2 (.inl e))
      · exact h.foot.new k (mem_blk3.2 (.inr (.inl e)))
      · rcases hnew k e with e | e
        · exact h.foot.new k (mem_blk3.2 (.inr (.inr e)))
        · exact .inr (Nat.le_trans h.foot.size e)
  · intro k hk
    rcases mem_blk3.1 hk with e | e | e
    · exact h.away k (mem_blk3.2 (.inl e))
    · exact h.away k (mem_blk3.2 (.inr (.inl e)))
    · rcases hnew k e with e | e
      · exact hme k e
      · exact .inr (by omega)
  · rw [hssz]; exact Nat.le_trans h.sz hg.size
end
/-- Labels, with where its row lies. -/
theorem refLabels_new (s : ByteArray) (w : World) (hs : s.size ≤ 1000000) :
    Calls Try.prog 16 #[.string s] w fun e w' => ∃ a c, e = .returned (.slice a (labelsB s).length c) ∧ RowS w' a c (labelsB s) ∧ (∀ g, a = some ⟨g, 0, none⟩ → w.heap.size ≤ g ∧ g < w'.heap.size) ∧ Below w.heap.size w w' := by
  by_cases h0 : s.size = 0
  · have he := isEmpty_true s h0
    have HE : Hid (labelsB s = []) := Lib.hid (by unfold labelsB; rw [if_pos h0])
    rw [HE.out]
    clear hs h0
    go_enter Try.func16, Try.ntmps16
    go_wp2_with fail
    go_ret
    exact ⟨none, 0, rfl, .inl ⟨rfl, rfl, rfl⟩, (fun g hg => by cases hg), Below.refl _ _⟩
  · have he := isEmpty_false s (by omega)
    have HE : Hid (labelsB s = pieces s 46) := Lib.hid (by unfold labelsB; rw [if_neg h0])
    have HSP := Lib.hid (refSplit_row s 46 w hs)
    rw [HE.out]
    generalize pieces s 46 = l at *
    clear hs h0 HE
    go_enter Try.func16, Try.ntmps16
    go_wp2_with fail
    refine HSP.out.mono ?_
    rintro e w1 ⟨g, c, rfl, hg, hr, hb⟩
    have HR := Lib.hid hr
    have HB := Lib.hid hb
    have HG := Lib.hid hg
    clear hr hb hg HSP
    go_wp2_with fail
    go_ret
    exact ⟨_, _, rfl, .inr ⟨g, rfl, HR.out⟩, (fun g2 hg2 => by cases hg2; exact ⟨HG.out, HR.out.lt⟩), HB.out⟩
end Go.Proofs.Ytbeoapfbddcpcaa
/- What the reference's Name of layer 8 hands back: its cells laid, all else kept. -/
namespace Go.Proofs.Ytbeoapfbddcpcaa
open Go.RowKit
set_option linter.unusedVariables false
set_option maxRecDepth 20000

/-- What Name hands back. -/
def NameRet (w : World) (B : Nat) (F0 : List Nat) (m : Bool) (R : List UInt8 × List ByteArray × List Nat) (e : Ending) (w' : World) : Prop :=
  ∃ vB vN vA, e = .returned (.tuple #[.agg #[vB, vN, vA], .bool m]) ∧ w'.ownsRow B 5 1 vB R.1.length (bys R.1) ∧ w'.ownsRow B 9 1 vN R.2.1.length (R.2.1.map Value.string) ∧ w'.ownsRow B 3 1 vA R.2.2.length (intsL R.2.2) ∧ Foot F0 (blk3 vB vN vA) w w'
theorem own_slice {w : World} {B : Nat} {t : TypeId} {z : Nat} {v : Value} {n : Nat} {xs : List Value} (h : w.ownsRow B t z v n xs) : ∃ a c, v = .slice a n c := by
  rcases h.2 with ⟨h1, h2⟩ | ⟨g, cap, cur, h1, _⟩
  · exact ⟨none, 0, by rw [h1, h2]⟩
  · exact ⟨_, _, h1⟩
theorem cells_new8 (w : World) (l : List Value) (t : TypeId) : ∀ j u, l[j]? = some u → (w.alloc (.cells l.toArray t)).cell? ⟨w.heap.size, j, none⟩ = some u := by
  intro j u h
  simp [World.cell?_alloc_new, h]
theorem WBox.range {w : World} {b : Nat} {vB vN vA : Value} (h : WBox w b vB vN vA) : w.rangeAt b 0 [vB, vN, vA] := by
  intro j u hu
  match j, hu with
  | 0, hu => cases hu; exact h.c0
  | 1, hu => cases hu; exact h.c1
  | 2, hu => cases hu; exact h.c2
  | j + 3, hu => simp at hu
theorem loadVar_W {w : World} {b : Nat} {vB vN vA : Value} (h : WBox w b vB vN vA) : (loadVar 46 ⟨b, 0, none⟩).run Try.prog w = .ok (.agg #[vB, vN, vA]) w :=
  run_loadVar_mid w b 0 46 [vB, vN, vA] _ h.range Try.underlying46 rfl (by kernel_rfl)
theorem results_W {fn : Func} {a t : Tmp} {tmps : Array Value} {W : World} {b : Nat} {vB vN vA : Value} (h : fn.results = #[.cell a 46, .tmp t]) (ha : tmps.getD a undef = .pointer (some ⟨b, 0, none⟩)) (hA : WBox W b vB vN vA) : (results fn tmps).run Try.prog W = .ok (.tuple #[.agg #[vB, vN, vA], tmps.getD t undef]) W := by
  rw [Array.getD_eq_getD_getElem?] at ha
  simp [results, h, ha, asAddr, loadVar_W hA]
/-- The result's cells laid: all else stays. -/
theorem name_laid {w wr : World} {B : Nat} {F0 : List Nat} {m : Bool} {vB vN vA : Value} {l : List UInt8} {ns : List ByteArray} {ats : List Nat} (rb : wr.ownsRow B 5 1 vB l.length (bys l)) (rn : wr.ownsRow B 9 1 vN ns.length (ns.map Value.string)) (ra : wr.ownsRow B 3 1 vA ats.length (intsL ats)) (foot : Foot F0 (blk3 vB vN vA) w wr) (away : ∀ k ∈ blk3 vB vN vA, k ≠ w.heap.size + 1) :
    NameRet w B F0 m (l, ns, ats) (.returned (.tuple #[.agg #[vB, vN, vA], .bool m])) (((wr.setCell ⟨w.heap.size + 1, 0, none⟩ vB).setCell ⟨w.heap.size + 1, 1, none⟩ vN).setCell ⟨w.heap.size + 1, 2, none⟩ vA) := by
  have hset : ∀ k, k ≠ w.heap.size + 1 → (((wr.setCell ⟨w.heap.size + 1, 0, none⟩ vB).setCell ⟨w.heap.size + 1, 1, none⟩ vN).setCell ⟨w.heap.size + 1, 2, none⟩ vA).heap[k]? = wr.heap[k]? := fun k hk => by
    rw [Below.heap_setCell _ ⟨w.heap.size + 1, 2, none⟩ vA k hk, Below.heap_setCell _ ⟨w.heap.size + 1, 1, none⟩ vN k hk, Below.heap_setCell _ ⟨w.heap.size + 1, 0, none⟩ vB k hk]
  refine ⟨vB, vN, vA, rfl, own_kept rb (fun k hk => hset k (away k (mem_blk3.2 (.inl hk)))), own_kept rn (fun k hk => hset k (away k (mem_blk3.2 (.inr (.inl hk))))), own_kept ra (fun k hk => hset k (away k (mem_blk3.2 (.inr (.inr hk))))), foot.os, foot.tape, foot.output, ?_, fun k hk hn => (hset k (by omega)).trans (foot.keep k hk hn), foot.new⟩
  simp only [World.setCell, Array.size_modify]
  exact foot.size
theorem WBox.laid {w : World} {b : Nat} {v0 v1 v2 : Value} (h : WBox w b v0 v1 v2) (vB vN vA : Value) : WBox (((w.setCell ⟨b, 0, none⟩ vB).setCell ⟨b, 1, none⟩ vN).setCell ⟨b, 2, none⟩ vA) b vB vN vA := ((h.set0 vB).set1 vN).set2 vA
end Go.Proofs.Ytbeoapfbddcpcaa
/- Contracts of text.digit and text.Number: the number of a text's digits. -/
namespace Go.Proofs.Ytbeoapfbddcpcaa
open Go.RowKit
set_option linter.unusedVariables false
set_option maxRecDepth 20000

/-- A digit's number; 16: it is none. -/
def digC (c : Nat) : Nat := if 48 ≤ c ∧ c ≤ 57 then c - 48 else if 97 ≤ c ∧ c ≤ 102 then c - 87 else if 65 ≤ c ∧ c ≤ 70 then c - 55 else 16
theorem digC_le (c : Nat) : digC c ≤ 16 := by unfold digC; split; · omega
                                              split; · omega
                                              split <;> omega
/-- The byte at a place, or 0. -/
def byteOf (s : ByteArray) (k : Nat) : Nat := (s.data.toList.getD k 0).toNat
theorem byteOf_eq (s : ByteArray) (k : Nat) (h : k < s.size) : byteOf s k = (s[k]).toNat := by
  unfold byteOf
  rw [List.getD_eq_getElem?_getD, List.getElem?_eq_getElem (by simpa using h)]; rfl
def most : Nat := 1099511627776
/-- The number of the first k digits, if there is one. -/
def numTo (s : ByteArray) (b : Nat) : Nat → Option Nat
  | 0 => some 0
  | k + 1 => match numTo s b k with
    | none => none
    | some n => if b ≤ digC (byteOf s k) then none else if most < n * b + digC (byteOf s k) then none else some (n * b + digC (byteOf s k))
def numB (s : ByteArray) (b : Nat) : Option Nat := if s.size = 0 then none else numTo s b s.size
theorem numTo_none (s : ByteArray) (b k : Nat) (h : numTo s b k = none) : ∀ m, numTo s b (k + m) = none
  | 0 => h
  | m + 1 => by rw [← Nat.add_assoc, numTo, numTo_none s b k h m]
theorem numTo_le (s : ByteArray) (b : Nat) : ∀ k n, numTo s b k = some n → n ≤ most
  | 0, n, h => by simp [numTo] at h; omega
  | k + 1, n, h => by
    rw [numTo] at h
    cases hk : numTo s b k with
    | none => rw [hk] at h; cases h
    | some m =>
      rw [hk] at h
      simp only at h
      split at h
      · cases h
      · split at h
        · cases h
        · have := Option.some.inj h; omega
theorem numTo_step {s : ByteArray} {b k n : Nat} (h : numTo s b k = some n) (hk : k < s.size) :
    numTo s b (k + 1) = if b ≤ digC (s[k]).toNat then none else if most < n * b + digC (s[k]).toNat then none else some (n * b + digC (s[k]).toNat) := by
  rw [numTo, h, byteOf_eq s k hk]
theorem numB_dead {s : ByteArray} {b k : Nat} (hk : k < s.size) (h : numTo s b (k + 1) = none) : numB s b = none := by
  unfold numB
  rw [if_neg (by omega)]
  have := numTo_none s b (k + 1) h (s.size - (k + 1))
  rwa [show k + 1 + (s.size - (k + 1)) = s.size by omega] at this
/-- What Number answers. -/
def numRet (o : Option Nat) : Value := .tuple #[.int .i64 ((o.getD 0 : Nat) : Int), .bool o.isSome]

theorem num_ret {o p : Option Nat} (h : o = p) : Ending.returned (numRet o) = .returned (numRet p) := by rw [h]

end Go.Proofs.Ytbeoapfbddcpcaa
/- The digits of a number in a base, as the statement TextBases lays them, are read as the number; and the contract of the reference's Around. -/
namespace Go.Proofs.Ytbeoapfbddcpcaa
open Go.RowKit
set_option linter.unusedVariables false
set_option maxRecDepth 20000

def hexd (d : Nat) : UInt8 := if d < 10 then UInt8.ofNat (48 + d) else UInt8.ofNat (87 + d)
theorem digC_hexd (d : Nat) (h : d < 16) : digC (hexd d).toNat = d := by
  unfold hexd
  by_cases h1 : d < 10
  · rw [if_pos h1, UInt8.toNat_ofNat', Nat.mod_eq_of_lt (by omega)]
    unfold digC
    rw [if_pos (by omega)]
    omega
  · rw [if_neg h1, UInt8.toNat_ofNat', Nat.mod_eq_of_lt (by omega)]
    unfold digC
    rw [if_neg (by omega), if_pos (by omega)]
    omega
/-- The sixteen digits. -/
def hexs : ByteArray := { data := #[48, 49, 50, 51, 52, 53, 54, 55, 56, 57, 97, 98, 99, 100, 101, 102] }
theorem hexs_at (d : Nat) (h : d < 16) : hexs.extract d (d + 1) = { data := #[hexd d] } := by
  have hd : d = 0 ∨ d = 1 ∨ d = 2 ∨ d = 3 ∨ d = 4 ∨ d = 5 ∨ d = 6 ∨ d = 7 ∨ d = 8 ∨ d = 9 ∨ d = 10 ∨ d = 11 ∨ d = 12 ∨ d = 13 ∨ d = 14 ∨ d = 15 := by omega
  rcases hd with rfl | rfl | rfl | rfl | rfl | rfl | rfl | rfl | rfl | rfl | rfl | rfl | rfl | rfl | rfl | rfl <;> decide
/-- The lowest i digits of n. -/
def dstr (n b : Nat) : Nat → ByteArray
  | 0 => { data := #[] }
  | i + 1 => hexs.extract (n / b ^ i % b) (n / b ^ i % b + 1) ++ dstr n b i
theorem dstr_list (n b : Nat) (hb0 : 0 < b) (hb : b ≤ 16) (i : Nat) : (dstr n b (i + 1)).data.toList = hexd (n / b ^ i % b) :: (dstr n b i).data.toList := by
  have := Nat.mod_lt (n / b ^ i) hb0
  rw [dstr, hexs_at _ (by omega), data_append]
  rfl
theorem dstr_size (n b : Nat) (hb0 : 0 < b) (hb : b ≤ 16) : ∀ i, (dstr n b i).size = i
  | 0 => rfl
  | i + 1 => by
    have h := congrArg List.length (dstr_list n b hb0 hb i)
    have ih := dstr_size n b hb0 hb i
    simp at h
    omega
theorem dstr_byte (n b : Nat) (hb0 : 0 < b) (hb : b ≤ 16) : ∀ i k, k < i → byteOf (dstr n b i) k = (hexd (n / b ^ (i - 1 - k) % b)).toNat
  | 0, k, h => by omega
  | i + 1, 0, h => by
    unfold byteOf
    rw [dstr_list n b hb0 hb i]
    simp
  | i + 1, k + 1, h => by
    have ih := dstr_byte n b hb0 hb i k (by omega)
    unfold byteOf at ih ⊢
    rw [dstr_list n b hb0 hb i, show i + 1 - 1 - (k + 1) = i - 1 - k by omega, ← ih]
    rfl
theorem dstr_numTo (n b : Nat) (hb0 : 2 ≤ b) (hb : b ≤ 16) (hn : n ≤ most) (hlt : n < b ^ 14) : ∀ k, k ≤ 14 → numTo (dstr n b 14) b k = some (n / b ^ (14 - k))
  | 0, _ => by rw [numTo, Nat.sub_zero, Nat.div_eq_of_lt hlt]
  | k + 1, h => by
    rw [numTo, dstr_numTo n b hb0 hb hn hlt k (by omega), dstr_byte n b (by omega) hb 14 k (by omega), show 14 - 1 - k = 13 - k by omega, show 14 - (k + 1) = 13 - k by omega]
    have hm : n / b ^ (13 - k) % b < b := Nat.mod_lt _ (by omega)
    rw [digC_hexd _ (by omega)]
    have e : n / b ^ (14 - k) * b + n / b ^ (13 - k) % b = n / b ^ (13 - k) := by
      rw [show 14 - k = (13 - k) + 1 by omega, Nat.pow_succ, ← Nat.div_div_eq_div_mul, Nat.mul_comm]
      exact Nat.div_add_mod _ _
    have hle : n / b ^ (13 - k) ≤ n := Nat.div_le_self _ _
    simp only [e]
    rw [if_neg (by omega), if_neg (by omega)]
theorem dstr_num (n b : Nat) (hb0 : 2 ≤ b) (hb : b ≤ 16) (hn : n ≤ most) (hlt : n < b ^ 14) : numB (dstr n b 14) b = some n := by
  unfold numB
  rw [dstr_size n b (by omega) hb, if_neg (by omega), dstr_numTo n b hb0 hb hn hlt 14 (Nat.le_refl _)]
  simp
theorem num_bad (s : ByteArray) (b j : Nat) (hj : j < s.size) (h : b ≤ digC (byteOf s j)) : numB s b = none := by
  apply numB_dead hj
  rw [numTo]
  cases numTo s b j with
  | none => rfl
  | some n => simp only [if_pos h]
theorem num_behind (s X : ByteArray) (b : Nat) (hb : b ≤ 16) (hX : X.data.toList = [103]) : numB (s ++ X) b = none := by
  apply num_bad _ _ s.size
  · rw [ByteArray.size_append]
    have : X.data.toList.length = 1 := by rw [hX]; rfl
    simp at this
    omega
  · have e : byteOf (s ++ X) s.size = 103 := by
      unfold byteOf
      rw [data_append, hX, List.getD_eq_getElem?_getD, List.getElem?_append_right (by simp)]
      simp
    rw [e]
    have : digC 103 = 16 := by decide
    omega
theorem num_ahead (s X : ByteArray) (b : Nat) (hb : b ≤ 16) (hX : X.data.toList = [45]) : numB (X ++ s) b = none := by
  apply num_bad _ _ 0
  · rw [ByteArray.size_append]
    have : X.data.toList.length = 1 := by rw [hX]; rfl
    simp at this
    omega
  · have e : byteOf (X ++ s) 0 = 45 := by
      unfold byteOf
      rw [data_append, hX]
      rfl
    rw [e]
    have : digC 45 = 16 := by decide
    omega

theorem numRet_some (n : Nat) : numRet (some n) = .tuple #[.int .i64 (n : Int), .bool true] := rfl
theorem numRet_none : numRet none = .tuple #[.int .i64 0, .bool false] := rfl

/-- A number, from 0 on, modulo q. -/
def aroundN (n : Int) (q : Nat) : Nat := (if n < 0 then -(n + 1) else n).toNat % q
theorem aroundN_lt (n : Int) (q : Nat) (h : 0 < q) : aroundN n q < q := Nat.mod_lt _ h

set_option maxHeartbeats 400000 in
theorem around_any (n : Int) (q : Nat) (w : World) (hn : (Lit.int .i64 n).wf = true) (hq : 0 < q) (hq2 : q ≤ 4611686018427387904) :
    Calls Try.prog 25 #[.int .i64 n, .int .i64 (q : Int)] w fun e w' => e = .returned (.int .i64 ((aroundN n q : Nat) : Int)) ∧ w = w' := by
  have hb := bounds_i64 hn
  by_cases h : n < 0
  · obtain ⟨m, hm⟩ : ∃ m : Nat, -(n + 1) = (m : Int) := ⟨(-(n + 1)).toNat, by omega⟩
    have e : aroundN n q = m % q := by unfold aroundN; rw [if_pos h, hm]; rfl
    rw [e]
    go_enter Try.func25, Try.ntmps25
    go_wp2
    go_ret
    exact ⟨by first | rfl | simp, rfl⟩
  · obtain ⟨m, rfl⟩ : ∃ m : Nat, n = (m : Int) := ⟨n.toNat, by omega⟩
    have e : aroundN m q = m % q := by unfold aroundN; rw [if_neg h]; rfl
    rw [e]
    go_enter Try.func25, Try.ntmps25
    go_wp2
    go_ret
    exact ⟨by first | rfl | simp, rfl⟩
end Go.Proofs.Ytbeoapfbddcpcaa
/- Bytes that came in: opened, cut, put behind bytes of one's own. -/
namespace Go.Proofs.Ytbeoapfbddcpcaa
open Go.RowKit
set_option linter.unusedVariables false
set_option maxRecDepth 20000

theorem laidOut : laidOutB Try.prog = true := by kernel_rfl
/-- A row of numbers that came in. -/
def IsRow (k : IntKind) (W : World) (a : Option Addr) (len cap : Nat) (zs : List Int) : Prop :=
  (a = none ∧ len = 0 ∧ cap = 0 ∧ zs = []) ∨ ∃ x : Addr, a = some x ∧ len ≤ cap ∧ cap ≤ maxLen ∧ zs.length = cap ∧ (∀ i, i < zs.length → W.cell? (x.add i) = some (.int k (zs.getD i 0))) ∧ ∀ n ∈ zs, (Lit.int k n).wf = true
theorem u8_of {n : Int} (h : (Lit.int .u8 n).wf = true) : ((UInt8.ofNat n.toNat).toNat : Int) = n := by
  have hb : 0 ≤ n ∧ n < 256 := by
    have := h
    simp [Lit.wf] at this
    have e1 : IntKind.u8.min = 0 := rfl
    have e2 : IntKind.u8.max = 255 := rfl
    omega
  rw [UInt8.toNat_ofNat', Nat.mod_eq_of_lt (by omega)]
  omega
/-- Bytes that came in, and of which no nil row has room. -/
def BytesIn2 (w : World) (a : Option Addr) (cap : Nat) (bs : List UInt8) : Prop := BytesIn w a cap bs ∧ (a = none → cap = 0)
theorem bytes_of_row {W : World} {a : Option Addr} {len cap : Nat} {zs : List Int} (h : IsRow .u8 W a len cap zs) : ∃ bs : List UInt8, bs.length = len ∧ BytesIn2 W a cap bs := by
  rcases h with ⟨rfl, rfl, rfl, rfl⟩ | ⟨x, rfl, h1, h2, h3, h4, h5⟩
  · exact ⟨[], rfl, ⟨Nat.le_refl _, Nat.zero_le _, .inl rfl⟩, fun _ => rfl⟩
  · refine ⟨(zs.take len).map (fun n => UInt8.ofNat n.toNat), by simp; omega, ⟨by simp; omega, h2, .inr ⟨x, rfl, fun i hi => ?_⟩⟩, fun h => by cases h⟩
    have hi2 : i < len := by simp at hi; omega
    have hi3 : i < zs.length := by omega
    rw [h4 i hi3, List.getElem_map, List.getElem_take, u8_of (h5 _ (List.getElem_mem hi3)), List.getD_eq_getElem?_getD, List.getElem?_eq_getElem hi3]
    rfl
theorem BytesIn2.below {w w' : World} {a : Option Addr} {cap : Nat} {bs : List UInt8} (h : BytesIn2 w a cap bs) (hb : Below w.heap.size w w') : BytesIn2 w' a cap bs := ⟨h.1.below hb, h.2⟩
theorem BytesIn2.take {w : World} {a : Option Addr} {cap : Nat} {bs : List UInt8} (h : BytesIn2 w a cap bs) (m : Nat) : BytesIn2 w a cap (bs.take m) := by
  obtain ⟨⟨h1, h2, h3⟩, h4⟩ := h
  refine ⟨⟨by rw [List.length_take]; omega, h2, ?_⟩, h4⟩
  rcases h3 with h3 | ⟨x, e, h3⟩
  · exact .inl (by rw [List.length_take]; omega)
  · refine .inr ⟨x, e, fun i hi => ?_⟩
    rw [List.length_take] at hi
    rw [h3 i (by omega), List.getElem_take]
theorem few8_in {w : World} {a : Option Addr} {cap : Nat} {bs : List UInt8} (h : BytesIn2 w a cap bs) (m : Nat) (hm : m ≤ 100000) (h1 : 1 ≤ m) :
    Calls Try.prog 24 #[.slice a bs.length cap, .int .i64 (m : Int)] w fun e w' => e = .returned (.slice a (bs.take m).length cap) ∧ w' = w := by
  have := few8_any a bs.length cap m w h.1.1 h.1.2.1 hm h1
  rw [show (if m < bs.length then m else bs.length) = (bs.take m).length by rw [List.length_take]; split <;> omega] at this
  exact this
/-- Bytes of one's own, as bytes that came in are read. -/
theorem in_own {w : World} {B : Nat} {v : Value} {l : List UInt8} (h : w.ownsRow B 5 1 v l.length (bys l)) : ∃ a c, v = .slice a l.length c ∧ BytesIn2 w a c l := by
  rcases h.2 with ⟨rfl, h2⟩ | ⟨g, cap, cur, h1, _, _, h3, h4, _⟩
  · exact ⟨none, 0, by rw [h2], ⟨by omega, Nat.zero_le _, .inl h2⟩, fun _ => rfl⟩
  · subst h1
    refine ⟨_, _, rfl, ⟨h3, h4, .inr ⟨⟨g, 0, none⟩, rfl, fun i hi => ?_⟩⟩, fun h => by cases h⟩
    refine h.cells (g := g) rfl i _ ?_
    unfold bys
    rw [List.getElem?_map, List.getElem?_eq_getElem hi]
    rfl
/-- Bytes that came in, put behind bytes of one's own. -/
theorem wp_append_in {op : Oper} {a : Act} {w : World} {K : Act → World → Prop} {Q : Exit → Act → World → Prop} {B c : Nat} {v : Value} {ad : Option Addr} {l m : List UInt8} (hown : Hid (w.ownsRow B 5 1 v l.length (bys l))) (hm : Hid (BytesIn2 w ad c m)) (hn : Hid (l.length + m.length ≤ 1000000000 ∧ B ≤ w.heap.size)) (sl x : Operand)
    (ho : op.op = .call { callee := .builtin .append, args := #[sl, x], argTypes := #[24, 24] }) (hs : a.eval sl = v) (hx : a.eval x = .slice ad m.length c)
    (h : ∀ v' w', Hid (w'.ownsRow B 5 1 v' (l ++ m).length (bys (l ++ m))) → Hid (w.grownBy w' v.ownBlock) → Hid (Foot v.ownBlock.toList v'.ownBlock.toList w w') → K (a.put op.dst v') w') : op.wp Try.prog a w K Q := by
  obtain ⟨i0, hi0, hz0, hz1, hz2⟩ := info_parts Try.infoByte
  obtain ⟨hn1, hn2⟩ := hn.out
  obtain ⟨⟨hm1, hm2, hm3⟩, hm4⟩ := hm.out
  cases ad with
  | none =>
    have hc0 := hm4 rfl
    subst hc0
    obtain rfl : m = [] := List.eq_nil_of_length_eq_zero (by omega)
    have hr := run_append_owned_none (P := Try.prog) (w := w) B 24 op.type 5 i0 1 Try.underlying24 hi0 v l.length _ hown.out
    unfold Oper.wp execOp
    simp only [ho, resolve, invoke, builtin, Sem.run_bind, Sem.run_pure, Result.andThen_ok, List.map_toArray, List.map_cons, List.map_nil, hs, hx, List.length_nil, hr]
    refine h v w (Lib.hid (by rw [List.append_nil]; exact hown.out)) (Lib.hid ⟨rfl, rfl, rfl, Nat.le_refl _, fun i _ _ => rfl⟩) (Lib.hid (Foot.ofBelow _ (Below.refl _ _)))
  | some y =>
    obtain ⟨v', w', hr, h2, h3, _, h5⟩ := run_append_own_at (P := Try.prog) w B 24 op.type 5 i0 _ 1 1 Try.underlying24 hi0 hz0 hz1 hz2 rfl (by decide) v l.length (bys l) hown.out y m.length c (bys m) (by rw [bys_length, Nat.mul_one]) (fun j u hu => by
      have hj : j < m.length := by
        have := (List.getElem?_eq_some_iff.1 hu).1
        rwa [bys_length] at this
      rcases hm3 with h0 | ⟨x2, e, hc⟩
      · omega
      · cases e
        rw [hc j hj]
        unfold bys at hu
        rw [List.getElem?_map, List.getElem?_eq_getElem hj] at hu
        exact hu) (fun u hu => by
      obtain ⟨q, _, rfl⟩ := List.mem_map.1 hu
      rfl) (by unfold maxLen; omega) (by omega) hn2
    unfold Oper.wp execOp
    simp only [ho, resolve, invoke, builtin, Sem.run_bind, Sem.run_pure, Result.andThen_ok, List.map_toArray, List.map_cons, List.map_nil, hs, hx, hr]
    refine h v' w' (Lib.hid ?_) (Lib.hid h3) (Lib.hid (Foot.ofGrown h3 (h5.imp id (fun e g hg => by rw [e] at hg; cases hg; exact Nat.le_refl _))))
    have e1 : bys (l ++ m) = bys l ++ bys m := by simp [bys]
    rw [e1, List.length_append]
    exact h2
end Go.Proofs.Ytbeoapfbddcpcaa
/- Bytes that spell a name: what is read of them; what a writer wrote spells its names. Plain facts. -/
namespace Go.Proofs.Ytbeoapfbddcpcaa
open Go.RowKit
set_option linter.unusedVariables false
set_option maxRecDepth 20000

/-- What is read without an error may be, and ends behind where it began. -/
theorem rd_good (bs : List UInt8) (R : ByteArray × Nat × Int) (at0 : Nat) : ∀ n i b l nx, b * (bs.length + 2) + (bs.length + 1 - i) ≤ n → i ≤ bs.length → RdSt bs R i b l nx →
    (∀ p ∈ l, 1 ≤ p.size ∧ p.size ≤ 63 ∧ NoDot p) → (nx = none → at0 ≤ i) → (∀ m, nx = some m → at0 < m ∧ m ≤ bs.length) → R.2.2 = 0 → mayN R.1 = true ∧ at0 < R.2.1 ∧ R.2.1 ≤ bs.length
  | 0, i, b, l, nx, hn, hi, h, hl, h1, h2, hR => by omega
  | n + 1, i, b, l, nx, hn, hi, h, hl, h1, h2, hR => by
    by_cases hib : bs.length ≤ i
    · rw [h.out hib] at hR; exact absurd hR (by decide)
    have hi2 : i < bs.length := by omega
    by_cases hz : (bs.getD i 0).toNat = 0
    · have e := h.zero hi2 hz
      have hlab : labelsB (joinB l ⟨#[46]⟩) = l := labels_join l (fun p hp => (hl p hp).1) (fun p hp => (hl p hp).2.2)
      rw [e]
      refine ⟨?_, ?_⟩
      · show decide (MayL (labelsB (joinB l ⟨#[46]⟩))) = true
        rw [hlab]
        refine decide_eq_true ⟨fun k hk => ?_, h.small⟩
        rw [List.getD_eq_getElem?_getD, List.getElem?_eq_getElem hk]
        have := hl _ (List.getElem_mem hk)
        exact ⟨this.1, this.2.1⟩
      · show at0 < nx.getD (i + 1) ∧ nx.getD (i + 1) ≤ bs.length
        cases nx with
        | none => have := h1 rfl; exact ⟨by show at0 < i + 1; omega, by show i + 1 ≤ bs.length; omega⟩
        | some m => exact h2 m rfl
    by_cases h63 : (bs.getD i 0).toNat ≤ 63
    · by_cases hs : bs.length < i + 1 + (bs.getD i 0).toNat
      · rw [h.short hi2 hz h63 hs] at hR; exact absurd hR (by decide)
      cases hd : has8 (ownAt bs i (bs.getD i 0).toNat) 46 with
      | true => rw [h.dot hi2 hz h63 (by omega) hd] at hR; exact absurd hR (by decide)
      | false =>
        by_cases hlong : 255 < sizeL (l ++ [ownAt bs i (bs.getD i 0).toNat])
        · rw [h.long hi2 hz h63 (by omega) hd hlong] at hR; exact absurd hR (by decide)
        · refine rd_good bs R at0 n _ b _ nx (by omega) (by omega) (h.lab hi2 hz h63 (by omega) hd (by omega)) (fun p hp => ?_) (fun e => by have := h1 e; omega) h2 hR
          rcases List.mem_append.1 hp with hp | hp
          · exact hl p hp
          · rw [List.mem_singleton.1 hp]
            have hsz : (ownAt bs i (bs.getD i 0).toNat).size = (bs.getD i 0).toNat := ownAt_size (by omega)
            exact ⟨by omega, by omega, (has_free _).1 hd⟩
    · by_cases h192 : 192 ≤ (bs.getD i 0).toNat
      · by_cases hlast : bs.length ≤ i + 1
        · rw [h.ptr1 hi2 h192 hlast] at hR; exact absurd hR (by decide)
        by_cases hto : b ≤ toAt bs i
        · rw [h.ptr2 hi2 h192 (by omega) hto] at hR; exact absurd hR (by decide)
        · have hm := meas8 (T := toAt bs i) (b := b) (N := bs.length) (i := i) (by omega)
          by_cases hTl : toAt bs i ≤ bs.length
          · refine rd_good bs R at0 n _ _ l _ (by omega) hTl (h.ptr hi2 h192 (by omega) (by omega)) hl (fun e => by cases e) (fun m e => ?_) hR
            cases nx with
            | none => have := h1 rfl; cases e; exact ⟨by show at0 < i + 2; omega, by show i + 2 ≤ bs.length; omega⟩
            | some q => cases e; exact h2 q rfl
          · rw [(h.ptr hi2 h192 (by omega) (by omega)).out (by omega)] at hR; exact absurd hR (by decide)
      · rw [h.bad hi2 (by omega) (by omega)] at hR; exact absurd hR (by decide)
theorem read_good {bs : List UInt8} {at0 : Nat} (hat : at0 ≤ bs.length) (h : (readB bs (at0 + 1) at0 [] none).2.2 = 0) :
    mayN (readB bs (at0 + 1) at0 [] none).1 = true ∧ at0 < (readB bs (at0 + 1) at0 [] none).2.1 ∧ (readB bs (at0 + 1) at0 [] none).2.1 ≤ bs.length :=
  rd_good bs _ at0 _ at0 at0 [] none (Nat.le_refl _) hat (RdSt.start bs at0) (fun p hp => by cases hp) (fun _ => Nat.le_refl _) (fun m h => by cases h) h
/-- What is read is no longer than its bytes. -/
theorem sizes_read (bs : List UInt8) (at0 : Nat) : (readB bs (at0 + 1) at0 [] none).1.size ≤ 1000 := by
  have go : ∀ f i l nx, sizeL l ≤ 255 → (readB bs f i l nx).1.size ≤ 255 := by
    intro f
    induction f with
    | zero => intro i l nx _; exact Nat.zero_le _
    | succ f ih =>
      intro i l nx hl
      rw [readB_cont]
      have hp := sizeL_pos l
      have hok := runB_ok bs (sizeL l - 1) (bs.length + 1 - i) i []
      cases hr : runB bs (sizeL l - 1) (bs.length + 1 - i) i [] with
      | mk l2 r =>
        obtain ⟨e, p, er⟩ := r
        unfold contR
        simp only
        by_cases h1 : er ≠ 0
        · rw [if_pos h1]; exact Nat.zero_le _
        rw [if_neg h1]
        have her : er = 0 := by simpa using h1
        subst her
        obtain ⟨k1, _, _, _⟩ := hok l2 e p hr (by show sizeL l - 1 + 1 ≤ 255; omega)
        have happ := sizeL_app l l2
        by_cases h2 : p = false
        · rw [if_pos h2]
          have := joinB_size (l ++ l2)
          show (joinB (l ++ l2) ⟨#[46]⟩).size ≤ 255
          omega
        rw [if_neg h2]
        by_cases h3 : bs.length ≤ e + 1
        · rw [if_pos h3]; exact Nat.zero_le _
        rw [if_neg h3]
        by_cases h4 : i ≤ toAt bs e
        · rw [if_pos h4]; exact Nat.zero_le _
        rw [if_neg h4]
        exact ih _ _ _ (by omega)
  exact Nat.le_trans (go (at0 + 1) at0 [] none (by decide)) (by decide)
/-- Bytes spell labels, from i on (in a run that began at b); what stands behind them begins at n. -/
inductive Sp (bs : List UInt8) : Nat → Nat → List ByteArray → Nat → Prop
  | zero {b i : Nat} (h1 : i < bs.length) (h2 : (bs.getD i 0).toNat = 0) : Sp bs b i [] (i + 1)
  | lab {b i n : Nat} {p : ByteArray} {L : List ByteArray} (h1 : i < bs.length) (h2 : (bs.getD i 0).toNat = p.size) (h3 : p.size ≠ 0) (h4 : p.size ≤ 63) (h5 : i + 1 + p.size ≤ bs.length) (h6 : ownAt bs i p.size = p) (h7 : NoDot p) (h8 : Sp bs b (i + 1 + p.size) L n) : Sp bs b i (p :: L) n
  | ptr {b i n : Nat} {L : List ByteArray} (h1 : i + 1 < bs.length) (h2 : 192 ≤ (bs.getD i 0).toNat) (h3 : toAt bs i < b) (h4 : Sp bs (toAt bs i) (toAt bs i) L n) : Sp bs b i L (i + 2)
theorem Sp.lt {bs : List UInt8} {b i n : Nat} {L : List ByteArray} (h : Sp bs b i L n) : i < bs.length := by
  cases h with
  | zero h1 h2 => exact h1
  | lab h1 => exact h1
  | ptr h1 => omega
theorem Sp.wider {bs : List UInt8} {b b' i n : Nat} {L : List ByteArray} (h : Sp bs b i L n) (hb : b ≤ b') : Sp bs b' i L n := by
  induction h generalizing b' with
  | zero h1 h2 => exact .zero h1 h2
  | lab h1 h2 h3 h4 h5 h6 h7 h8 ih => exact .lab h1 h2 h3 h4 h5 h6 h7 (ih hb)
  | ptr h1 h2 h3 h4 ih => exact .ptr h1 h2 (by omega) h4
theorem getD_more {bs x : List UInt8} {i : Nat} (h : i < bs.length) : (bs ++ x).getD i 0 = bs.getD i 0 := by
  rw [List.getD_eq_getElem?_getD, List.getD_eq_getElem?_getD, List.getElem?_append_left h]
theorem own_more8 {bs x : List UInt8} {i n : Nat} (h : i + 1 + n ≤ bs.length) : ownAt (bs ++ x) i n = ownAt bs i n := by
  unfold ownAt
  rw [List.drop_append_of_le_length (by omega), List.take_append_of_le_length (by rw [List.length_drop]; omega)]
theorem Sp.more {bs : List UInt8} {b i n : Nat} {L : List ByteArray} (h : Sp bs b i L n) (x : List UInt8) : Sp (bs ++ x) b i L n := by
  have hl : (bs ++ x).length = bs.length + x.length := List.length_append
  induction h with
  | zero h1 h2 => exact .zero (by omega) (by rw [getD_more h1]; exact h2)
  | lab h1 h2 h3 h4 h5 h6 h7 h8 ih => exact .lab (by omega) (by rw [getD_more h1]; exact h2) h3 h4 (by omega) (by rw [own_more8 h5]; exact h6) h7 ih
  | @ptr b i n L h1 h2 h3 h4 ih =>
    have e : toAt (bs ++ x) i = toAt bs i := by unfold toAt; rw [getD_more (by omega), getD_more h1]
    exact .ptr (by omega) (by rw [getD_more (by omega)]; exact h2) (by rw [e]; exact h3) (by rw [e]; exact ih)
/-- What is spelled is read. -/
theorem sp_read {bs : List UInt8} {R : ByteArray × Nat × Int} {b i n : Nat} {L : List ByteArray} (h : Sp bs b i L n) : ∀ l nx, RdSt bs R i b l nx → sizeL (l ++ L) ≤ 255 → R = (joinB (l ++ L) ⟨#[46]⟩, nx.getD n, 0) := by
  induction h with
  | zero h1 h2 =>
    intro l nx hr hz
    rw [List.append_nil]
    exact hr.zero h1 h2
  | @lab b i n p L h1 h2 h3 h4 h5 h6 h7 h8 ih =>
    intro l nx hr hz
    have e : l ++ p :: L = l ++ [p] ++ L := by simp
    rw [e] at hz ⊢
    have hz2 : sizeL (l ++ [p]) ≤ 255 := by
      have := sizeL_app (l ++ [p]) L
      have := sizeL_pos L
      omega
    have h9 := hr.lab h1 (by omega) (by omega) (by omega) (by rw [h2, h6]; exact (has_free p).2 h7) (by rw [h2, h6]; exact hz2)
    rw [h2, h6] at h9
    exact ih _ nx h9 hz
  | ptr h1 h2 h3 h4 ih =>
    intro l nx hr hz
    exact ih l _ (hr.ptr (by omega) h2 h1 h3) hz
theorem sp_readB {bs : List UInt8} {at0 n : Nat} {L : List ByteArray} (h : Sp bs at0 at0 L n) (hz : sizeL L ≤ 255) : readB bs (at0 + 1) at0 [] none = (joinB L ⟨#[46]⟩, n, 0) :=
  sp_read h [] none (RdSt.start bs at0) hz
theorem join_labels (s : ByteArray) : joinB (labelsB s) ⟨#[46]⟩ = s := by
  rcases Nat.eq_zero_or_pos s.size with h | h
  · rw [labels_empty h, empty_of h]; rfl
  · rw [labels_pieces h]; exact pieces_join s 46 (by decide)
/-- A label written at l's end. -/
theorem lab_facts (l rest : List UInt8) (p : ByteArray) (hp : p.size ≤ 63) : l.length < (l ++ labL p ++ rest).length ∧ ((l ++ labL p ++ rest).getD l.length 0).toNat = p.size ∧ l.length + 1 + p.size ≤ (l ++ labL p ++ rest).length ∧ ownAt (l ++ labL p ++ rest) l.length p.size = p := by
  have hl : (labL p).length = 1 + p.size := by unfold labL; rw [List.length_cons, data_size]; omega
  have hlen : (l ++ labL p ++ rest).length = l.length + (1 + p.size) + rest.length := by rw [List.length_append, List.length_append, hl]
  refine ⟨by omega, ?_, by omega, ?_⟩
  · rw [List.getD_eq_getElem?_getD, List.append_assoc, List.getElem?_append_right (Nat.le_refl _), Nat.sub_self]
    show (UInt8.ofNat p.size).toNat = p.size
    rw [UInt8.toNat_ofNat', Nat.mod_eq_of_lt (by omega)]
  · rw [own_more8 (by rw [List.length_append, hl]; omega)]
    unfold ownAt labL
    have e : (l ++ UInt8.ofNat p.size :: p.data.toList).drop (l.length + 1) = p.data.toList := by
      rw [← List.drop_drop, List.drop_append_of_le_length (Nat.le_refl _), List.drop_length]
      rfl
    rw [e, List.take_of_length_le (by rw [data_size]; exact Nat.le_refl _)]
/-- A name's bytes spell it. -/
def bytesC : List ByteArray → List UInt8
  | [] => [0]
  | p :: L => labL p ++ bytesC L
theorem bytesTo_cons (p : ByteArray) (L : List ByteArray) : ∀ k, bytesTo (p :: L) (k + 1) = labL p ++ bytesTo L k
  | 0 => by show [] ++ labL p = labL p ++ []; simp
  | k + 1 => by
    have e1 : bytesTo (p :: L) (k + 1 + 1) = bytesTo (p :: L) (k + 1) ++ labL ((p :: L).getD (k + 1) ⟨#[]⟩) := rfl
    have e2 : bytesTo L (k + 1) = bytesTo L k ++ labL (L.getD k ⟨#[]⟩) := rfl
    rw [e1, e2, bytesTo_cons p L k, List.append_assoc]
    rfl
theorem bytesL_cons : ∀ L : List ByteArray, bytesL L = bytesC L
  | [] => rfl
  | p :: L => by
    have ih := bytesL_cons L
    unfold bytesL at ih ⊢
    rw [List.length_cons, bytesTo_cons, List.append_assoc, ih]
    rfl
theorem sp_bytes (b : Nat) : ∀ (L : List ByteArray) (pre post : List UInt8), (∀ p ∈ L, 1 ≤ p.size ∧ p.size ≤ 63 ∧ NoDot p) → Sp (pre ++ bytesC L ++ post) b pre.length L (pre.length + (bytesC L).length)
  | [], pre, post, _ => by
    refine .zero ?_ ?_
    · rw [List.length_append, List.length_append]; show pre.length < pre.length + 1 + _; omega
    · rw [List.getD_eq_getElem?_getD, List.append_assoc, List.getElem?_append_right (Nat.le_refl _), Nat.sub_self]
      rfl
  | p :: L, pre, post, h => by
    obtain ⟨g1, g2, g3⟩ := h p (by simp)
    have e : pre ++ bytesC (p :: L) ++ post = pre ++ labL p ++ (bytesC L ++ post) := by
      show pre ++ (labL p ++ bytesC L) ++ post = _
      simp only [List.append_assoc]
    have e2 : pre ++ bytesC (p :: L) ++ post = (pre ++ labL p) ++ bytesC L ++ post := by rw [e]; simp only [List.append_assoc]
    obtain ⟨f1, f2, f3, f4⟩ := lab_facts pre (bytesC L ++ post) p g2
    have ih := sp_bytes b L (pre ++ labL p) post (fun q hq => h q (List.mem_cons_of_mem _ hq))
    have hl : (pre ++ labL p).length = pre.length + 1 + p.size := by rw [List.length_append]; unfold labL; rw [List.length_cons, data_size]; omega
    have hl2 : (bytesC (p :: L)).length = (labL p).length + (bytesC L).length := List.length_append
    have hl3 : (labL p).length = 1 + p.size := by unfold labL; rw [List.length_cons, data_size]; omega
    rw [hl, ← e2] at ih
    rw [← e] at f1 f2 f3 f4
    have := Sp.lab f1 f2 (by omega) g2 f3 f4 g3 ih
    rw [show pre.length + (bytesC (p :: L)).length = pre.length + 1 + p.size + (bytesC L).length by omega]
    exact this
end Go.Proofs.Ytbeoapfbddcpcaa
/- A writer of names as it lies in memory: its bytes, its map of names; kept beside other writes. -/
namespace Go.Proofs.Ytbeoapfbddcpcaa
open Go.RowKit Go.Maps
set_option linter.unusedVariables false
set_option maxRecDepth 20000

abbrev DU := DataW Unit
def keyS (x : ByteArray) : Lit := .string x.data.toList
/-- What is kept is told. -/
def TellsM (D : DU) (ns : List ByteArray) (ats : List Nat) : Prop :=
  ∀ x : ByteArray, Maps.has D (keyS x) = (find8 ns ats x).isSome ∧ ∀ n, find8 ns ats x = some n → D.atKey (keyS x) (.lit (.int .i64 0)) = .lit (.int .i64 ((n : Nat) : Int))
/-- A map of names, which may be nil. -/
def MapAt (w : World) (B : Nat) (m : Option Nat) (ns : List ByteArray) (ats : List Nat) : Prop :=
  match m with
  | none => ns = [] ∧ ats = []
  | some b => B ≤ b ∧ ∃ n D, w.ownsMap Try.prog 9 (plainElem (H := Unit) Try.prog 3) b n D ∧ n ≤ ns.length ∧ TellsM D ns ats
theorem Try.lawS : Keyed Try.prog 9 := string_keyed Try.underlying9
theorem Try.zeroInt8 (w : World) : (zeroValue 3).run Try.prog w = .ok (.int .i64 0) w := by kernel_rfl
theorem key_is (x : ByteArray) (hx : x.size ≤ 1000000) : keyOf Try.prog 9 (.string x) = some (keyS x) := WideMaps.keyOf_string_mk (P := Try.prog) Try.underlying9 (by unfold maxLen; omega)
theorem key_lit (x : ByteArray) : WideAt.IsKeyLit (keyS x) := trivial
theorem key_inj {x y : ByteArray} (h : keyS x = keyS y) : x = y := bytes_ext (by unfold keyS at h; injection h)
theorem find8_snoc : ∀ (ns : List ByteArray) (ats : List Nat) (x : ByteArray) (n : Nat) (y : ByteArray), ats.length = ns.length → find8 (ns ++ [x]) (ats ++ [n]) y = match find8 ns ats y with | some k => some k | none => if x = y then some n else none
  | [], [], x, n, y, _ => by simp [find8]
  | [], _ :: _, _, _, _, h => by simp at h
  | _ :: _, [], _, _, _, h => by simp at h
  | p :: ns, a :: ats, x, n, y, h => by
    have ih := find8_snoc ns ats x n y (by simpa using h)
    simp only [List.cons_append, find8]
    by_cases hp : p = y
    · rw [if_pos hp, if_pos hp]
    · rw [if_neg hp, if_neg hp, ih]
/-- A name looked up. -/
theorem MapAt.look {w : World} {B : Nat} {m : Option Nat} {ns : List ByteArray} {ats : List Nat} (h : MapAt w B m ns ats) (x : ByteArray) (hx : x.size ≤ 1000000) :
    (Instr.lookup 41 (.map m) (.string x) true).run Try.prog w = .ok (.tuple #[.int .i64 (((find8 ns ats x).getD 0 : Nat) : Int), .bool (find8 ns ats x).isSome]) w := by
  cases m with
  | none =>
    obtain ⟨rfl, rfl⟩ := h
    have := Maps.look_nil (P := Try.prog) (w := w) true Try.lawS Try.underlying41 (Try.zeroInt8 w) (key_is x hx)
    rw [this]
    rfl
  | some b =>
    obtain ⟨_, n, D, ho, _, ht⟩ := h
    obtain ⟨v, ps, hr, hv⟩ := ho.look_ok Try.lawS Try.underlying41 (Try.zeroInt8 w) (plainElem_int Try.underlying3 (by decide)) (key_is x hx)
    obtain ⟨c, rfl, hc, _⟩ := plainElem_int_inv Try.underlying3 hv
    rw [hr, (ht x).1]
    have hc1 : D.atKey (keyS x) (.lit (.int .i64 0)) = .lit (.int .i64 c) := (Prod.mk.inj hc).1
    cases hf : find8 ns ats x with
    | none =>
      have hn : Maps.has D (keyS x) = false := by rw [(ht x).1, hf]; rfl
      rw [Maps.atKey_of_not_has hn] at hc1
      have : c = 0 := by injection hc1 with h; injection h with _ h; exact h.symm
      rw [this]
      rfl
    | some k =>
      rw [(ht x).2 k hf] at hc1
      have : c = ((k : Nat) : Int) := by injection hc1 with h; injection h with _ h; exact h.symm
      rw [this]
      rfl
/-- A new name kept. -/
theorem MapAt.store {w : World} {B b : Nat} {ns : List ByteArray} {ats : List Nat} (h : MapAt w B (some b) ns ats) (x : ByteArray) (n : Nat) (hx : x.size ≤ 1000000) (hn : n ≤ 1000000) (hns : ns.length ≤ 1000000) (hl : ats.length = ns.length) (hf : find8 ns ats x = none) :
    ∃ w', (Instr.mapUpdate 41 (.map (some b)) (.string x) (.int .i64 (n : Int))).run Try.prog w = .ok () w' ∧ MapAt w' B (some b) (ns ++ [x]) (ats ++ [n]) ∧ w.grownBy w' (some b) := by
  obtain ⟨hB, k, D, ho, hk, ht⟩ := h
  have wf : (Lit.int .i64 (n : Int)).wf = true := WalkArith.wf_i64 (by omega)
  obtain ⟨w', hr, ho', hg⟩ := ho.update Try.lawS Try.underlying41 (by unfold maxLen; omega) (key_is x hx) (plainElem_int (H := Unit) Try.underlying3 wf)
  refine ⟨w', hr, ⟨hB, k + 1, _, ho', by simp; omega, fun y => ?_⟩, hg⟩
  rw [find8_snoc ns ats x n y hl]
  by_cases hxy : x = y
  · subst hxy
    rw [hf, if_pos rfl]
    refine ⟨Maps.has_put_same ho.isMap (key_lit x) _, fun q hq => ?_⟩
    have : n = q := by simpa using hq
    subst this
    exact Maps.atKey_put_same ho.isMap (key_lit x) _ _
  · have hne : keyS y ≠ keyS x := fun e => hxy (key_inj e).symm
    rw [if_neg hxy, Maps.has_put_other hne, Maps.atKey_put_other hne]
    have hy := ht y
    cases hf2 : find8 ns ats y with
    | none => rw [hf2] at hy; exact hy
    | some q => rw [hf2] at hy; exact hy
theorem mapAt_made (w : World) (B : Nat) (hB : B ≤ w.heap.size) : MapAt (w.alloc (.map #[] 0)) B (some w.heap.size) [] [] :=
  ⟨hB, 0, _, World.ownsMap_made w _ _ _, Nat.le_refl _, fun x => ⟨rfl, fun n hn => by cases hn⟩⟩
theorem MapAt.kept {w w' : World} {B : Nat} {m : Option Nat} {ns : List ByteArray} {ats : List Nat} (h : MapAt w B m ns ats) (hk : ∀ b, m = some b → w'.heap[b]? = w.heap[b]?) : MapAt w' B m ns ats := by
  cases m with
  | none => exact h
  | some b =>
    obtain ⟨hB, n, D, ⟨es, cl, hb, r⟩, hn, ht⟩ := h
    exact ⟨hB, n, D, ⟨es, cl, (hk b rfl).trans hb, r⟩, hn, ht⟩
theorem MapAt.block {w : World} {B b : Nat} {ns : List ByteArray} {ats : List Nat} (h : MapAt w B (some b) ns ats) : ∃ es cl, w.heap[b]? = some (.map es cl) := by
  obtain ⟨_, n, D, ⟨es, cl, hb, _⟩, _⟩ := h
  exact ⟨es, cl, hb⟩
theorem MapAt.lt {w : World} {B b : Nat} {ns : List ByteArray} {ats : List Nat} (h : MapAt w B (some b) ns ats) : b < w.heap.size := by
  obtain ⟨_, _, hb⟩ := h.block
  exact (Array.getElem?_eq_some_iff.1 hb).1
/-- A writer at block G. -/
structure WrAt (w : World) (G B : Nat) (vB : Value) (m : Option Nat) (l : List UInt8) (ns : List ByteArray) (ats : List Nat) : Prop where
  c0 : w.cell? ⟨G, 0, none⟩ = some vB
  c1 : w.cell? ⟨G, 1, none⟩ = some (.map m)
  f0 : w.frozen? ⟨G, 0, none⟩ = false
  f1 : w.frozen? ⟨G, 1, none⟩ = false
  rb : w.ownsRow B 5 1 vB l.length (bys l)
  mp : MapAt w B m ns ats
  nb : vB.ownBlock ≠ some G
  gb : B ≤ G
def wblk (G : Nat) (vB : Value) (m : Option Nat) : List Nat := [G] ++ vB.ownBlock.toList ++ m.toList
theorem mem_wblk {G k : Nat} {vB : Value} {m : Option Nat} : k ∈ wblk G vB m ↔ k = G ∨ vB.ownBlock = some k ∨ m = some k := by simp [wblk]
section
variable {w w' : World} {G B : Nat} {vB : Value} {m : Option Nat} {l : List UInt8} {ns : List ByteArray} {ats : List Nat}
theorem WrAt.lt (h : WrAt w G B vB m l ns ats) : G < w.heap.size := World.block_lt_of_cell? w ⟨G, 0, none⟩ h.c0
theorem WrAt.mG (h : WrAt w G B vB m l ns ats) : m ≠ some G := by
  rintro rfl
  obtain ⟨es, cl, hb⟩ := h.mp.block
  have := h.c0
  simp [World.cell?, hb] at this
theorem WrAt.mB (h : WrAt w G B vB m l ns ats) (b : Nat) (hm : m = some b) : vB.ownBlock ≠ some b := by
  subst hm
  intro e
  obtain ⟨es, cl, hb⟩ := h.mp.block
  rcases h.rb.2 with ⟨rfl, _⟩ | ⟨g, cap, cur, rfl, _, e3, _⟩
  · cases e
  · cases e
    rw [e3] at hb
    cases hb
theorem WrAt.kept (h : WrAt w G B vB m l ns ats) (hk : ∀ k ∈ wblk G vB m, w'.heap[k]? = w.heap[k]?) : WrAt w' G B vB m l ns ats := by
  have hG := hk G (mem_wblk.2 (.inl rfl))
  exact ⟨(World.cell?_of_block (a := ⟨G, 0, none⟩) hG).trans h.c0, (World.cell?_of_block (a := ⟨G, 1, none⟩) hG).trans h.c1, (World.frozen?_of_block (a := ⟨G, 0, none⟩) hG).trans h.f0, (World.frozen?_of_block (a := ⟨G, 1, none⟩) hG).trans h.f1, own_kept h.rb (fun g hg => hk g (mem_wblk.2 (.inr (.inl hg)))), h.mp.kept (fun b hb => hk b (mem_wblk.2 (.inr (.inr hb)))), h.nb, h.gb⟩
theorem WrAt.blk_lt (h : WrAt w G B vB m l ns ats) : ∀ k ∈ wblk G vB m, k < w.heap.size := by
  intro k hk
  rcases mem_wblk.1 hk with rfl | e | rfl
  · exact h.lt
  · exact (h.rb.lt k e).2
  · exact h.mp.lt
theorem WrAt.blk_ge (h : WrAt w G B vB m l ns ats) : ∀ k ∈ wblk G vB m, B ≤ k := by
  intro k hk
  rcases mem_wblk.1 hk with rfl | e | rfl
  · exact h.gb
  · exact (h.rb.lt k e).1
  · exact h.mp.1
theorem WrAt.below (h : WrAt w G B vB m l ns ats) (hb : Below w.heap.size w w') : WrAt w' G B vB m l ns ats := h.kept (fun k hk => hb.block k (h.blk_lt k hk))
/-- Bytes put behind, the field stored. -/
theorem WrAt.put0 (h : WrAt w G B vB m l ns ats) {v' : Value} {l' : List UInt8} (hown : w'.ownsRow B 5 1 v' l'.length (bys l')) (hg : w.grownBy w' vB.ownBlock) (hf : Foot vB.ownBlock.toList v'.ownBlock.toList w w') :
    WrAt (w'.setCell ⟨G, 0, none⟩ v') G B v' m l' ns ats ∧ Foot (wblk G vB m) (wblk G v' m) w (w'.setCell ⟨G, 0, none⟩ v') := by
  have hnew : ∀ k, v'.ownBlock = some k → vB.ownBlock = some k ∨ w.heap.size ≤ k := fun k hk => (hf.new k (by rw [hk]; simp)).imp (fun e => by simpa using e) id
  have hset : ∀ k, k ≠ G → (w'.setCell ⟨G, 0, none⟩ v').heap[k]? = w'.heap[k]? := fun k hk => Below.heap_setCell w' ⟨G, 0, none⟩ v' k hk
  have hssz : (w'.setCell ⟨G, 0, none⟩ v').heap.size = w'.heap.size := by simp [World.setCell]
  have hG : w'.heap[G]? = w.heap[G]? := hg.block G h.lt (fun e => h.nb e.symm)
  have hl := h.lt
  have hnG : v'.ownBlock ≠ some G := fun e => by
    rcases hnew G e with e | e
    · exact h.nb e
    · omega
  refine ⟨⟨World.cell?_setCell_same _ _ _ ((World.cell?_of_block (a := ⟨G, 0, none⟩) hG).trans h.c0), (World.cell?_setCell_other _ _ _ _ (by intro h; injection h; omega)).trans ((World.cell?_of_block (a := ⟨G, 1, none⟩) hG).trans h.c1), by rw [World.frozen?_setCell]; exact (World.frozen?_of_block (a := ⟨G, 0, none⟩) hG).trans h.f0, by rw [World.frozen?_setCell]; exact (World.frozen?_of_block (a := ⟨G, 1, none⟩) hG).trans h.f1, own_kept hown (fun k hk => hset k (fun e => hnG (by rw [← e]; exact hk))), h.mp.kept (fun b hb => (hset b (fun e => h.mG (by rw [hb, e]))).trans (hg.block b (by subst hb; exact h.mp.lt) (fun e => h.mB b hb e.symm))), hnG, h.gb⟩, ?_⟩
  refine ⟨hg.os, hg.tape, hg.output, by rw [hssz]; exact hg.size, fun k hk hn => ?_, fun k hk => ?_⟩
  · rw [hset k (fun e => hn (mem_wblk.2 (.inl e)))]
    exact hg.block k hk (fun e => hn (mem_wblk.2 (.inr (.inl e.symm))))
  · rcases mem_wblk.1 hk with e | e | e
    · exact .inl (mem_wblk.2 (.inl e))
    · exact (hnew k e).imp (fun e => mem_wblk.2 (.inr (.inl e))) id
    · exact .inl (mem_wblk.2 (.inr (.inr e)))
/-- A name kept. -/
theorem WrAt.noted {b : Nat} {x : ByteArray} {n : Nat} (h : WrAt w G B vB (some b) l ns ats) (hm : MapAt w' B (some b) (ns ++ [x]) (ats ++ [n])) (hg : w.grownBy w' (some b)) :
    WrAt w' G B vB (some b) l (ns ++ [x]) (ats ++ [n]) ∧ Foot (wblk G vB (some b)) (wblk G vB (some b)) w w' := by
  have hG : w'.heap[G]? = w.heap[G]? := hg.block G h.lt (fun e => h.mG e.symm)
  refine ⟨⟨(World.cell?_of_block (a := ⟨G, 0, none⟩) hG).trans h.c0, (World.cell?_of_block (a := ⟨G, 1, none⟩) hG).trans h.c1, (World.frozen?_of_block (a := ⟨G, 0, none⟩) hG).trans h.f0, (World.frozen?_of_block (a := ⟨G, 1, none⟩) hG).trans h.f1, own_kept h.rb (fun g hg2 => hg.block g (h.rb.lt g hg2).2 (fun e => h.mB b rfl (by rw [hg2]; exact e))), hm, h.nb, h.gb⟩, hg.os, hg.tape, hg.output, hg.size, fun k hk hn => hg.block k hk (fun e => hn (mem_wblk.2 (.inr (.inr e.symm)))), fun k hk => .inl hk⟩
/-- The map made. -/
theorem WrAt.made (h : WrAt w G B vB none l ns ats) (hB : B ≤ w.heap.size) :
    WrAt ((w.alloc (.map #[] 0)).setCell ⟨G, 1, none⟩ (.map (some w.heap.size))) G B vB (some w.heap.size) l ns ats ∧ Foot (wblk G vB none) (wblk G vB (some w.heap.size)) w ((w.alloc (.map #[] 0)).setCell ⟨G, 1, none⟩ (.map (some w.heap.size))) := by
  obtain ⟨rfl, rfl⟩ := h.mp
  have hl := h.lt
  have hb : Below w.heap.size w (w.alloc (.map #[] 0)) := (Below.refl _ _).alloc (Nat.le_refl _) _
  have hset : ∀ k, k ≠ G → ((w.alloc (.map #[] 0)).setCell ⟨G, 1, none⟩ (.map (some w.heap.size))).heap[k]? = (w.alloc (.map #[] 0)).heap[k]? := fun k hk => Below.heap_setCell _ ⟨G, 1, none⟩ _ k hk
  have hG : (w.alloc (.map #[] 0)).heap[G]? = w.heap[G]? := hb.block G hl
  refine ⟨⟨(World.cell?_setCell_other _ _ _ _ (by intro h; injection h; omega)).trans ((World.cell?_of_block (a := ⟨G, 0, none⟩) hG).trans h.c0), World.cell?_setCell_same _ _ _ ((World.cell?_of_block (a := ⟨G, 1, none⟩) hG).trans h.c1), by rw [World.frozen?_setCell]; exact (World.frozen?_of_block (a := ⟨G, 0, none⟩) hG).trans h.f0, by rw [World.frozen?_setCell]; exact (World.frozen?_of_block (a := ⟨G, 1, none⟩) hG).trans h.f1, own_kept (own_below8 h.rb hb) (fun k hk => hset k (fun e => h.nb (by rw [← e]; exact hk))), (mapAt_made w B hB).kept (fun b hb2 => hset b (by cases hb2; omega)), h.nb, h.gb⟩, ?_⟩
  refine ⟨rfl, rfl, rfl, by simp [World.setCell], fun k hk hn => ?_, fun k hk => ?_⟩
  · rw [hset k (fun e => hn (mem_wblk.2 (.inl e)))]
    exact hb.block k hk
  · rcases mem_wblk.1 hk with e | e | e
    · exact .inl (mem_wblk.2 (.inl e))
    · exact .inl (mem_wblk.2 (.inr (.inl e)))
    · cases e; exact .inr (Nat.le_refl _)
/-- A new writer. -/
theorem wrAt_new (w : World) (B : Nat) (hB : B ≤ w.heap.size) : WrAt (w.alloc (.cells #[.slice none 0 0, .map none] 43)) w.heap.size B (.slice none 0 0) none [] [] [] := by
  refine ⟨?_, ?_, ?_, ?_, World.ownsRow_nil _ _ _ _, ⟨rfl, rfl⟩, by simp [Value.ownBlock], hB⟩
  · rw [World.cell?_alloc_new]; rfl
  · rw [World.cell?_alloc_new]; rfl
  · exact World.frozen?_alloc_new _ _ _ _
  · exact World.frozen?_alloc_new _ _ _ _
end
end Go.Proofs.Ytbeoapfbddcpcaa
/- Contracts of the landed writer: Len, Raw, Bytes, note. -/
namespace Go.Proofs.Ytbeoapfbddcpcaa
open Go.RowKit Go.Maps
set_option linter.unusedVariables false
set_option maxRecDepth 20000

theorem wlen_any {w : World} {G B : Nat} {vB : Value} {m : Option Nat} {l : List UInt8} {ns : List ByteArray} {ats : List Nat} (h : WrAt w G B vB m l ns ats) :
    Calls Try.prog 28 #[.pointer (some ⟨G, 0, none⟩)] w fun e w' => e = .returned (.int .i64 (l.length : Int)) ∧ w' = w := by
  obtain ⟨a, c, rfl⟩ := own_slice h.rb
  have hc := h.c0
  clear h
  go_enter Try.func28, Try.ntmps28
  go_wp2_with fail
  go_ret
  exact ⟨rfl, rfl⟩
set_option maxRecDepth 100000 in
theorem raw_any {w : World} {G B g c : Nat} {vB : Value} {m : Option Nat} {l : List UInt8} {ns : List ByteArray} {ats : List Nat} (x : List UInt8) (h : WrAt w G B vB m l ns ats) (hx : ∀ j u, (bys x)[j]? = some u → w.cell? ⟨g, j, none⟩ = some u) (hn : l.length + x.length ≤ 1000000000) (hB : B ≤ w.heap.size) :
    Calls Try.prog 31 #[.pointer (some ⟨G, 0, none⟩), .slice (some ⟨g, 0, none⟩) x.length c] w fun e w' => e = .returned (.tuple #[]) ∧ ∃ vB', WrAt w' G B vB' m (l ++ x) ns ats ∧ Foot (wblk G vB m) (wblk G vB' m) w w' := by
  obtain ⟨a, c0, rfl⟩ := own_slice h.rb
  have hc := h.c0
  have HW := Lib.hid h
  have HO := Lib.hid h.rb
  have HX := Lib.hid hx
  have HN : Hid (l.length + x.length ≤ 1000000000 ∧ B ≤ w.heap.size) := Lib.hid ⟨hn, hB⟩
  obtain ⟨N, hN⟩ : ∃ N, x.length = N := ⟨_, rfl⟩
  have HNN := Lib.hid hN
  rw [hN]
  clear h hx hn hB hN
  go_enter Try.func31, Try.ntmps31
  go_wp2_with (at_builtin; refine wpList_plain rfl (fun K hK => wp_append_bytes (m := x) HO HX HN _ _ rfl rfl (by rw [HNN.out]; rfl) (fun v2 w4 HOw HGw HFw => hK _ _ ?_)); obtain ⟨lz, hlz⟩ : ∃ lz, l ++ x = lz := ⟨_, rfl⟩; rw [hlz] at HOw; have HLZ := Lib.hid hlz; clear hlz; obtain ⟨a2, c2, hv2⟩ := own_slice HOw.out; subst hv2; have hG4 := HGw.out.block G HW.out.lt (fun e => HW.out.nb e.symm); have hcc := (World.cell?_of_block (a := ⟨G, 0, none⟩) hG4).trans HW.out.c0; have hcf := (World.frozen?_of_block (a := ⟨G, 0, none⟩) hG4).trans HW.out.f0; clear hG4)
  have R := HW.out.put0 HOw.out HGw.out HFw.out
  go_end0
  refine ⟨rfl, _, ?_, R.2⟩
  rw [HLZ.out]
  exact R.1
theorem run_build0 (w : World) : (Instr.buildSlice 24 0 #[]).run Try.prog w = .ok (.slice (some ⟨w.heap.size, 0, none⟩) 0 0) (w.alloc (.cells #[] 5)) := by
  have hu : (underlying 24).run Try.prog w = .ok _ w := run_underlying Try.underlying24 w
  have hnr : ∀ cs : Array Value, (newRow 5 cs).run Try.prog w = .ok ⟨w.heap.size, 0, none⟩ (w.alloc (.cells cs 5)) := fun cs => by simp [newRow]
  unfold Instr.buildSlice
  simp [Sem.run_bind, hu, hnr, Instr.fill]
  rw [show Array.map (fun _ => (default : Value)) (Array.range 0) = #[] from Array.eq_empty_of_size_eq_zero (by simp)]
theorem build_step0 {ops : Array Oper} {rest : List Oper} {op : Oper} {a : Act} {w : World} {Q : Exit → Act → World → Prop} (hg : op.guard = none) (ho : op.op = .buildSlice 24 0 #[])
    (h : ∀ W, Hid (W = w.alloc (.cells #[] 5)) → wpList Try.prog ops Q rest (a.put op.dst (.slice (some ⟨w.heap.size, 0, none⟩) 0 0)) W) : wpList Try.prog ops Q (op :: rest) a w := by
  refine wpList_plain hg fun K hK => ?_
  unfold Oper.wp execOp
  simp only [ho, List.map_toArray, List.map_nil, Sem.run_bind, run_build0 w, Result.andThen_ok]
  exact hK _ _ (h _ (Lib.hid rfl))
theorem own_empty (w : World) : (w.alloc (.cells #[] 5)).ownsRow w.heap.size 5 1 (.slice (some ⟨w.heap.size, 0, none⟩) 0 0) ([] : List UInt8).length (bys []) :=
  ⟨rfl, .inr ⟨w.heap.size, 0, #[], rfl, Nat.le_refl _, by show (w.heap.push _)[w.heap.size]? = _; simp, Nat.le_refl _, Nat.zero_le _, rfl, rfl⟩⟩
/-- Bytes of a row of one's own, cell by cell. -/
theorem own_bcells {w : World} {B g n c : Nat} {l : List UInt8} (h : w.ownsRow B 5 1 (.slice (some ⟨g, 0, none⟩) n c) l.length (bys l)) : ∀ j u, (bys l)[j]? = some u → w.cell? ⟨g, j, none⟩ = some u := by
  intro j u hu
  have := h.cells (g := g) rfl j u hu
  rwa [add_none] at this
set_option maxRecDepth 100000 in
theorem clone_any {w : World} {B : Nat} {v : Value} {l : List UInt8} (h : w.ownsRow B 5 1 v l.length (bys l)) (hl : l.length ≤ 1000000) :
    Calls Try.prog 47 #[v] w fun e w' => ∃ v', e = .returned v' ∧ w'.ownsRow w.heap.size 5 1 v' l.length (bys l) ∧ Below w.heap.size w w' := by
  have q : ∀ (w : World) (a : Option Addr) (n c n' c' : Nat), (binOp .eql 24 (.slice a n c) (.slice none n' c')).run Try.prog w = .ok (.bool a.isNone) w := fun w a n c n' c' => Lib.run_eql_slice_nil w _ _ a n c n' c' Try.underlying24
  rcases h.2 with ⟨h1, h2⟩ | ⟨g, cap, cur, h1, _⟩
  · obtain rfl : l = [] := List.eq_nil_of_length_eq_zero h2
    subst h1
    clear h
    go_enter Try.func47, Try.ntmps47
    go_wp2_with fail
    go_ret
    exact ⟨_, rfl, World.ownsRow_nil _ _ _ _, Below.refl _ _⟩
  · subst h1
    have hlt := (h.lt g rfl).2
    have HC := Lib.hid (own_bcells h)
    have HL := Lib.hid hl
    obtain ⟨N, hN⟩ : ∃ N, l.length = N := ⟨_, rfl⟩
    have HNN := Lib.hid hN
    rw [hN]
    have HLT := Lib.hid hlt
    clear h hl hN hlt
    go_enter Try.func47, Try.ntmps47
    go_wp2_with (first
      | (refine build_step0 rfl rfl (fun W HW => ?_); have HE : Hid (W.ownsRow w.heap.size 5 1 (.slice (some ⟨w.heap.size, 0, none⟩) 0 0) ([] : List UInt8).length (bys [])) := Lib.hid (by rw [HW.out]; exact own_empty w); have HB : Hid (Below w.heap.size w W) := Lib.hid (by rw [HW.out]; exact (Below.refl _ _).alloc (Nat.le_refl _) _); have HX : Hid (∀ j u, (bys l)[j]? = some u → W.cell? ⟨g, j, none⟩ = some u) := Lib.hid (fun j u hu => (HB.out.cell (p := ⟨g, j, none⟩) HLT.out).trans (HC.out j u hu)); have HN : Hid (([] : List UInt8).length + l.length ≤ 1000000000 ∧ w.heap.size ≤ W.heap.size) := Lib.hid ⟨by have := HL.out; simp; omega, HB.out.size⟩)
      | (at_builtin; refine wpList_plain rfl (fun K hK => wp_append_bytes (l := []) (m := l) HE HX HN _ _ rfl rfl (by rw [HNN.out]; rfl) (fun v2 w4 HOw HGw HFw => hK _ _ ?_)); obtain ⟨a2, c2, hv2⟩ := own_slice HOw.out; subst hv2))
    have hl2 : (([] : List UInt8) ++ l).length = N := by rw [List.nil_append]; exact HNN.out
    go_ret
    refine ⟨_, rfl, ?_, HB.out.grown HGw.out HB.out.size (fun k hk => by cases hk; exact Nat.le_refl _)⟩
    have := HOw.out
    rw [List.nil_append, HNN.out] at this
    rw [HNN.out] at *
    exact this
set_option maxRecDepth 100000 in
theorem wbytes_any {w : World} {G B : Nat} {vB : Value} {m : Option Nat} {l : List UInt8} {ns : List ByteArray} {ats : List Nat} (h : WrAt w G B vB m l ns ats) (hl : l.length ≤ 1000000) :
    Calls Try.prog 32 #[.pointer (some ⟨G, 0, none⟩)] w fun e w' => ∃ v', e = .returned v' ∧ w'.ownsRow w.heap.size 5 1 v' l.length (bys l) ∧ Below w.heap.size w w' := by
  have HC := Lib.hid (clone_any h.rb hl)
  obtain ⟨a, c, rfl⟩ := own_slice h.rb
  have hc := h.c0
  clear h
  go_enter Try.func32, Try.ntmps32
  go_wp2_with fail
  refine HC.out.mono ?_
  rintro e w1 ⟨v', rfl, ho, hb⟩
  have HO := Lib.hid ho
  have HB := Lib.hid hb
  clear ho hb HC hc
  go_wp2_with fail
  go_ret
  exact ⟨_, rfl, HO.out, HB.out⟩
end Go.Proofs.Ytbeoapfbddcpcaa
