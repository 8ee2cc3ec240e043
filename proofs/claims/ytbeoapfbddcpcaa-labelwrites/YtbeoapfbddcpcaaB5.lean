/- Texts that belong together, one behind the other: LabLW. -/
import Derived.Test.YtbeoapfbddcpcaaB4
/- A writer, the reference's W and a row of places, side by side: what the statement LabelWrites holds on its way. -/
namespace Go.Proofs.Ytbeoapfbddcpcaa
open Go.RowKit Go.Maps
set_option linter.unusedVariables false
set_option maxRecDepth 20000

def intsZ (l : List Int) : List Value := l.map fun z => Value.int .i64 z
/-- A number behind a row of numbers of one's own. -/
theorem wp_append_z {op : Oper} {a : Act} {w : World} {K : Act → World → Prop} {Q : Exit → Act → World → Prop} {B G c : Nat} {v : Value} {l : List Int} {p : Int} (hown : Hid (w.ownsRow B 3 1 v l.length (intsZ l))) (hm : Hid (w.cell? ⟨G, 0, none⟩ = some (.int .i64 p))) (hn : Hid (l.length ≤ 1000000 ∧ B ≤ w.heap.size)) (sl x : Operand)
    (ho : op.op = .call { callee := .builtin .append, args := #[sl, x], argTypes := #[44, 44] }) (hs : a.eval sl = v) (hx : a.eval x = .slice (some ⟨G, 0, none⟩) 1 c)
    (h : ∀ v' w', Hid (w'.ownsRow B 3 1 v' (l ++ [p]).length (intsZ (l ++ [p]))) → Hid (w.grownBy w' v.ownBlock) → Hid (Foot v.ownBlock.toList v'.ownBlock.toList w w') → K (a.put op.dst v') w') : op.wp Try.prog a w K Q := by
  obtain ⟨i0, hi0, hz0, hz1, hz2⟩ := info_parts Try.infoInt8
  obtain ⟨hn1, hn2⟩ := hn.out
  obtain ⟨v', w', hr, h2, h3, _, h5⟩ := run_append_own_at (P := Try.prog) w B 44 op.type 3 i0 _ 1 8 Try.underlying44 hi0 hz0 hz1 hz2 rfl (by decide) v l.length (intsZ l) hown.out ⟨G, 0, none⟩ 1 c [.int .i64 p] rfl (fun j u hu => by
      match j, hu with
      | 0, hu => rw [add_none, hm.out]; exact hu
      | j + 1, hu => simp at hu) (fun u hu => by rw [List.mem_singleton.1 hu]; rfl) (by unfold maxLen; omega) (by omega) hn2
  unfold Oper.wp execOp
  simp only [ho, resolve, invoke, builtin, Sem.run_bind, Sem.run_pure, Result.andThen_ok, List.map_toArray, List.map_cons, List.map_nil, hs, hx, hr]
  refine h v' w' (Lib.hid ?_) (Lib.hid h3) (Lib.hid (Foot.ofGrown h3 (h5.imp id (fun e g hg => by rw [e] at hg; cases hg; exact Nat.le_refl _))))
  simpa [intsZ] using h2
/-- The state. -/
structure LW (B Gw Gr : Nat) (w0 w : World) (vB : Value) (m : Option Nat) (l : List UInt8) (ns : List ByteArray) (ats : List Nat) (o0 o1 o2 uB uN uA : Value) (l2 : List UInt8) (ns2 : List ByteArray) (ats2 : List Nat) (v7 : Value) (zs : List Int) : Prop where
  wa : WrAt w Gw B vB m l ns ats
  box : WBox w Gr o0 o1 o2
  rb : w.ownsRow B 5 1 uB l2.length (bys l2)
  rn : w.ownsRow B 9 1 uN ns2.length (ns2.map Value.string)
  ra : w.ownsRow B 3 1 uA ats2.length (intsL ats2)
  pl : w.ownsRow B 3 1 v7 zs.length (intsZ zs)
  sz : B ≤ w.heap.size
  gr : B ≤ Gr
  a1 : ∀ k ∈ wblk Gw vB m, k ≠ Gr ∧ k ∉ blk3 uB uN uA ∧ v7.ownBlock ≠ some k
  a2 : ∀ k ∈ blk3 uB uN uA, k ≠ Gr ∧ v7.ownBlock ≠ some k
  a3 : v7.ownBlock ≠ some Gr
  bel : Below B w0 w
section
variable {B Gw Gr : Nat} {w0 w w' : World} {vB : Value} {m : Option Nat} {l : List UInt8} {ns : List ByteArray} {ats : List Nat} {o0 o1 o2 uB uN uA : Value} {l2 : List UInt8} {ns2 : List ByteArray} {ats2 : List Nat} {v7 : Value} {zs : List Int}
theorem blk3_lt (h1 : w.ownsRow B 5 1 uB l2.length (bys l2)) (h2 : w.ownsRow B 9 1 uN ns2.length (ns2.map Value.string)) (h3 : w.ownsRow B 3 1 uA ats2.length (intsL ats2)) : ∀ k ∈ blk3 uB uN uA, B ≤ k ∧ k < w.heap.size := by
  intro k hk
  rcases mem_blk3.1 hk with e | e | e
  · exact h1.lt k e
  · exact h2.lt k e
  · exact h3.lt k e
/-- All is kept where none of its blocks turned. -/
theorem LW.kept (h : LW B Gw Gr w0 w vB m l ns ats o0 o1 o2 uB uN uA l2 ns2 ats2 v7 zs) (hs : w.heap.size ≤ w'.heap.size) (hb : Below B w0 w') (hk : ∀ k, k < w.heap.size → (k ∈ wblk Gw vB m ∨ k = Gr ∨ k ∈ blk3 uB uN uA ∨ v7.ownBlock = some k) → w'.heap[k]? = w.heap[k]?) : LW B Gw Gr w0 w' vB m l ns ats o0 o1 o2 uB uN uA l2 ns2 ats2 v7 zs := by
  have hbl := blk3_lt h.rb h.rn h.ra
  exact ⟨h.wa.kept (fun k hk2 => hk k (h.wa.blk_lt k hk2) (.inl hk2)), h.box.kept (hk Gr h.box.lt (.inr (.inl rfl))), own_kept h.rb (fun g hg => hk g (h.rb.lt g hg).2 (.inr (.inr (.inl (mem_blk3.2 (.inl hg)))))), own_kept h.rn (fun g hg => hk g (h.rn.lt g hg).2 (.inr (.inr (.inl (mem_blk3.2 (.inr (.inl hg))))))), own_kept h.ra (fun g hg => hk g (h.ra.lt g hg).2 (.inr (.inr (.inl (mem_blk3.2 (.inr (.inr hg))))))), own_kept h.pl (fun g hg => hk g (h.pl.lt g hg).2 (.inr (.inr (.inr hg)))), Nat.le_trans h.sz hs, h.gr, h.a1, h.a2, h.a3, hb⟩
theorem LW.below (h : LW B Gw Gr w0 w vB m l ns ats o0 o1 o2 uB uN uA l2 ns2 ats2 v7 zs) (hb : Below w.heap.size w w') : LW B Gw Gr w0 w' vB m l ns ats o0 o1 o2 uB uN uA l2 ns2 ats2 v7 zs :=
  h.kept hb.size (h.bel.trans (hb.mono h.sz)) (fun k hk _ => hb.block k hk)
/-- The writer wrote. -/
theorem LW.wrote (h : LW B Gw Gr w0 w vB m l ns ats o0 o1 o2 uB uN uA l2 ns2 ats2 v7 zs) {vB' : Value} {m' : Option Nat} {l' : List UInt8} {ns' : List ByteArray} {ats' : List Nat} (hw : WrAt w' Gw B vB' m' l' ns' ats') (hf : Foot (wblk Gw vB m) (wblk Gw vB' m') w w') : LW B Gw Gr w0 w' vB' m' l' ns' ats' o0 o1 o2 uB uN uA l2 ns2 ats2 v7 zs := by
  have hbl := blk3_lt h.rb h.rn h.ra
  have hk : ∀ k, k < w.heap.size → k ∉ wblk Gw vB m → w'.heap[k]? = w.heap[k]? := hf.keep
  refine ⟨hw, h.box.kept (hk Gr h.box.lt (fun e => (h.a1 Gr e).1 rfl)), own_kept h.rb (fun g hg => hk g (h.rb.lt g hg).2 (fun e => (h.a1 g e).2.1 (mem_blk3.2 (.inl hg)))), own_kept h.rn (fun g hg => hk g (h.rn.lt g hg).2 (fun e => (h.a1 g e).2.1 (mem_blk3.2 (.inr (.inl hg))))), own_kept h.ra (fun g hg => hk g (h.ra.lt g hg).2 (fun e => (h.a1 g e).2.1 (mem_blk3.2 (.inr (.inr hg))))), own_kept h.pl (fun g hg => hk g (h.pl.lt g hg).2 (fun e => (h.a1 g e).2.2 hg)), Nat.le_trans h.sz hf.size, h.gr, fun k hk2 => ?_, h.a2, h.a3, h.bel.trans (hf.below h.wa.blk_ge h.sz)⟩
  rcases hf.new k hk2 with e | e
  · exact h.a1 k e
  · have hg := h.box.lt
    refine ⟨by omega, fun e2 => by have := (hbl k e2).2; omega, fun e2 => by have := (h.pl.lt k e2).2; omega⟩
/-- The reference wrote: its rows are others; its box is as it was. -/
theorem LW.ref (h : LW B Gw Gr w0 w vB m l ns ats o0 o1 o2 uB uN uA l2 ns2 ats2 v7 zs) {xB xN xA : Value} {l3 : List UInt8} {ns3 : List ByteArray} {ats3 : List Nat} (hb : w'.ownsRow B 5 1 xB l3.length (bys l3)) (hn : w'.ownsRow B 9 1 xN ns3.length (ns3.map Value.string)) (ha : w'.ownsRow B 3 1 xA ats3.length (intsL ats3)) (hf : Foot (blk3 uB uN uA) (blk3 xB xN xA) w w') : LW B Gw Gr w0 w' vB m l ns ats o0 o1 o2 xB xN xA l3 ns3 ats3 v7 zs := by
  have hbl := blk3_lt h.rb h.rn h.ra
  have hk : ∀ k, k < w.heap.size → k ∉ blk3 uB uN uA → w'.heap[k]? = w.heap[k]? := hf.keep
  have hg := h.box.lt
  refine ⟨h.wa.kept (fun k hk2 => hk k (h.wa.blk_lt k hk2) (h.a1 k hk2).2.1), h.box.kept (hk Gr hg (fun e => (h.a2 Gr e).1 rfl)), hb, hn, ha, own_kept h.pl (fun g hg => hk g (h.pl.lt g hg).2 (fun e => (h.a2 g e).2 hg)), Nat.le_trans h.sz hf.size, h.gr, fun k hk2 => ⟨(h.a1 k hk2).1, fun e => ?_, (h.a1 k hk2).2.2⟩, fun k hk2 => ?_, h.a3, h.bel.trans (hf.below (fun k hk2 => (hbl k hk2).1) h.sz)⟩
  · rcases hf.new k e with e | e
    · exact (h.a1 k hk2).2.1 e
    · have := h.wa.blk_lt k hk2; omega
  · rcases hf.new k hk2 with e | e
    · exact h.a2 k e
    · exact ⟨by omega, fun e2 => by have := (h.pl.lt k e2).2; omega⟩
/-- A place more. -/
theorem LW.place (h : LW B Gw Gr w0 w vB m l ns ats o0 o1 o2 uB uN uA l2 ns2 ats2 v7 zs) {x7 : Value} {zs' : List Int} (hp : w'.ownsRow B 3 1 x7 zs'.length (intsZ zs')) (hf : Foot v7.ownBlock.toList x7.ownBlock.toList w w') : LW B Gw Gr w0 w' vB m l ns ats o0 o1 o2 uB uN uA l2 ns2 ats2 x7 zs' := by
  have hbl := blk3_lt h.rb h.rn h.ra
  have hk : ∀ k, k < w.heap.size → v7.ownBlock ≠ some k → w'.heap[k]? = w.heap[k]? := fun k h1 h2 => hf.keep k h1 (fun e => h2 (by simpa using e))
  have hnew : ∀ k, x7.ownBlock = some k → v7.ownBlock = some k ∨ w.heap.size ≤ k := fun k hk => (hf.new k (by rw [hk]; simp)).imp (fun e => by simpa using e) id
  have hg := h.box.lt
  refine ⟨h.wa.kept (fun k hk2 => hk k (h.wa.blk_lt k hk2) (h.a1 k hk2).2.2), h.box.kept (hk Gr hg h.a3), own_kept h.rb (fun g hg => hk g (h.rb.lt g hg).2 (h.a2 g (mem_blk3.2 (.inl hg))).2), own_kept h.rn (fun g hg => hk g (h.rn.lt g hg).2 (h.a2 g (mem_blk3.2 (.inr (.inl hg)))).2), own_kept h.ra (fun g hg => hk g (h.ra.lt g hg).2 (h.a2 g (mem_blk3.2 (.inr (.inr hg)))).2), hp, Nat.le_trans h.sz hf.size, h.gr, fun k hk2 => ⟨(h.a1 k hk2).1, (h.a1 k hk2).2.1, fun e => ?_⟩, fun k hk2 => ⟨(h.a2 k hk2).1, fun e => ?_⟩, fun e => ?_, h.bel.trans (hf.below (fun k hk2 => (h.pl.lt k (by simpa using hk2)).1) h.sz)⟩
  · rcases hnew k e with e | e
    · exact (h.a1 k hk2).2.2 e
    · have := h.wa.blk_lt k hk2; omega
  · rcases hnew k e with e | e
    · exact (h.a2 k hk2).2 e
    · have := (hbl k hk2).2; omega
  · rcases hnew Gr e with e | e
    · exact h.a3 e
    · omega
/-- The box, a cell of it written. -/
theorem LW.set0 (h : LW B Gw Gr w0 w vB m l ns ats o0 o1 o2 uB uN uA l2 ns2 ats2 v7 zs) (v : Value) : LW B Gw Gr w0 (w.setCell ⟨Gr, 0, none⟩ v) vB m l ns ats v o1 o2 uB uN uA l2 ns2 ats2 v7 zs := by
  have hset : ∀ k, k ≠ Gr → (w.setCell ⟨Gr, 0, none⟩ v).heap[k]? = w.heap[k]? := fun k hk => Below.heap_setCell w ⟨Gr, 0, none⟩ v k hk
  have hsz : (w.setCell ⟨Gr, 0, none⟩ v).heap.size = w.heap.size := by simp [World.setCell]
  exact ⟨h.wa.kept (fun k hk => hset k (h.a1 k hk).1), h.box.set0 v, own_kept h.rb (fun g hg => hset g (h.a2 g (mem_blk3.2 (.inl hg))).1), own_kept h.rn (fun g hg => hset g (h.a2 g (mem_blk3.2 (.inr (.inl hg)))).1), own_kept h.ra (fun g hg => hset g (h.a2 g (mem_blk3.2 (.inr (.inr hg)))).1), own_kept h.pl (fun g hg => hset g (fun e => h.a3 (by rw [← e]; exact hg))), by rw [hsz]; exact h.sz, h.gr, h.a1, h.a2, h.a3, h.bel.setCell (p := ⟨Gr, 0, none⟩) h.gr v⟩
theorem LW.set1 (h : LW B Gw Gr w0 w vB m l ns ats o0 o1 o2 uB uN uA l2 ns2 ats2 v7 zs) (v : Value) : LW B Gw Gr w0 (w.setCell ⟨Gr, 1, none⟩ v) vB m l ns ats o0 v o2 uB uN uA l2 ns2 ats2 v7 zs := by
  have hset : ∀ k, k ≠ Gr → (w.setCell ⟨Gr, 1, none⟩ v).heap[k]? = w.heap[k]? := fun k hk => Below.heap_setCell w ⟨Gr, 1, none⟩ v k hk
  have hsz : (w.setCell ⟨Gr, 1, none⟩ v).heap.size = w.heap.size := by simp [World.setCell]
  exact ⟨h.wa.kept (fun k hk => hset k (h.a1 k hk).1), h.box.set1 v, own_kept h.rb (fun g hg => hset g (h.a2 g (mem_blk3.2 (.inl hg))).1), own_kept h.rn (fun g hg => hset g (h.a2 g (mem_blk3.2 (.inr (.inl hg)))).1), own_kept h.ra (fun g hg => hset g (h.a2 g (mem_blk3.2 (.inr (.inr hg)))).1), own_kept h.pl (fun g hg => hset g (fun e => h.a3 (by rw [← e]; exact hg))), by rw [hsz]; exact h.sz, h.gr, h.a1, h.a2, h.a3, h.bel.setCell (p := ⟨Gr, 1, none⟩) h.gr v⟩
theorem LW.set2 (h : LW B Gw Gr w0 w vB m l ns ats o0 o1 o2 uB uN uA l2 ns2 ats2 v7 zs) (v : Value) : LW B Gw Gr w0 (w.setCell ⟨Gr, 2, none⟩ v) vB m l ns ats o0 o1 v uB uN uA l2 ns2 ats2 v7 zs := by
  have hset : ∀ k, k ≠ Gr → (w.setCell ⟨Gr, 2, none⟩ v).heap[k]? = w.heap[k]? := fun k hk => Below.heap_setCell w ⟨Gr, 2, none⟩ v k hk
  have hsz : (w.setCell ⟨Gr, 2, none⟩ v).heap.size = w.heap.size := by simp [World.setCell]
  exact ⟨h.wa.kept (fun k hk => hset k (h.a1 k hk).1), h.box.set2 v, own_kept h.rb (fun g hg => hset g (h.a2 g (mem_blk3.2 (.inl hg))).1), own_kept h.rn (fun g hg => hset g (h.a2 g (mem_blk3.2 (.inr (.inl hg)))).1), own_kept h.ra (fun g hg => hset g (h.a2 g (mem_blk3.2 (.inr (.inr hg)))).1), own_kept h.pl (fun g hg => hset g (fun e => h.a3 (by rw [← e]; exact hg))), by rw [hsz]; exact h.sz, h.gr, h.a1, h.a2, h.a3, h.bel.setCell (p := ⟨Gr, 2, none⟩) h.gr v⟩
/-- The reference's bytes, one more. -/
theorem LW.refB (h : LW B Gw Gr w0 w vB m l ns ats o0 o1 o2 uB uN uA l2 ns2 ats2 v7 zs) {xB : Value} {l3 : List UInt8} (hb : w'.ownsRow B 5 1 xB l3.length (bys l3)) (hg : w.grownBy w' uB.ownBlock) (hf : Foot uB.ownBlock.toList xB.ownBlock.toList w w') : LW B Gw Gr w0 w' vB m l ns ats o0 o1 o2 xB uN uA l3 ns2 ats2 v7 zs := by
  refine h.ref hb (own_grown h.rb h.rn (by decide) hg) (own_grown h.rb h.ra (by decide) hg) ⟨hf.os, hf.tape, hf.output, hf.size, fun k hk hn => hf.keep k hk (fun e => hn (mem_blk3.2 (.inl (by simpa using e)))), fun k hk => ?_⟩
  rcases mem_blk3.1 hk with e | e | e
  · exact (hf.new k (by rw [e]; simp)).imp (fun e => mem_blk3.2 (.inl (by simpa using e))) id
  · exact .inl (mem_blk3.2 (.inr (.inl e)))
  · exact .inl (mem_blk3.2 (.inr (.inr e)))
end
/-- At the start. -/
theorem LW.start (w : World) : LW w.heap.size w.heap.size (w.heap.size + 1) w ((w.alloc (.cells #[.slice none 0 0, .map none] 43)).alloc (.cells #[.slice none 0 0, .slice none 0 0, .slice none 0 0] 46)) (.slice none 0 0) none [] [] [] (.slice none 0 0) (.slice none 0 0) (.slice none 0 0) (.slice none 0 0) (.slice none 0 0) (.slice none 0 0) [] [] [] (.slice none 0 0) [] := by
  have hb : Below w.heap.size w (w.alloc (.cells #[.slice none 0 0, .map none] 43)) := (Below.refl _ _).alloc (Nat.le_refl _) _
  have hb2 : Below (w.alloc (.cells #[.slice none 0 0, .map none] 43)).heap.size (w.alloc (.cells #[.slice none 0 0, .map none] 43)) ((w.alloc (.cells #[.slice none 0 0, .map none] 43)).alloc (.cells #[.slice none 0 0, .slice none 0 0, .slice none 0 0] 46)) := (Below.refl _ _).alloc (Nat.le_refl _) _
  have hsz : (w.alloc (.cells #[.slice none 0 0, .map none] 43)).heap.size = w.heap.size + 1 := by simp
  have hbox := WBox.new (w.alloc (.cells #[.slice none 0 0, .map none] 43)) (.slice none 0 0) (.slice none 0 0) (.slice none 0 0)
  rw [hsz] at hbox
  refine ⟨(wrAt_new w w.heap.size (Nat.le_refl _)).below hb2, hbox, World.ownsRow_nil _ _ _ _, World.ownsRow_nil _ _ _ _, World.ownsRow_nil _ _ _ _, World.ownsRow_nil _ _ _ _, by simp; omega, by omega, fun k hk => ?_, fun k hk => ?_, by simp [Value.ownBlock], chain hb hb2⟩
  · rcases mem_wblk.1 hk with e | e | e
    · exact ⟨by omega, by simp [blk3, Value.ownBlock], by simp [Value.ownBlock]⟩
    · simp [Value.ownBlock] at e
    · cases e
  · simp [blk3, Value.ownBlock] at hk
/-- Texts that came in. -/
def IsStrs (W : World) (a : Option Addr) (len cap : Nat) (ss : List ByteArray) : Prop :=
  (a = none ∧ len = 0 ∧ cap = 0) ∨ ∃ x : Addr, a = some x ∧ len ≤ cap ∧ cap ≤ maxLen ∧ ss.length = cap ∧ (∀ i, i < ss.length → W.cell? (x.add i) = some (.string (ss.getD i ByteArray.empty))) ∧ ∀ s ∈ ss, s.size ≤ maxLen
/-- Each name that was written is spelled at its place. -/
def Spelled (ss : List ByteArray) (k : Nat) (zs : List Int) (l : List UInt8) : Prop :=
  zs.length = k ∧ ∀ j (h : j < zs.length), zs[j] = -1 ∨ ∃ p : Nat, zs[j] = (p : Int) ∧ p < l.length ∧ mayN (few (ss.getD j ByteArray.empty) 40) = true ∧ ∃ nx, Sp l p p (labelsB (few (ss.getD j ByteArray.empty) 40)) nx
theorem Spelled.more {ss : List ByteArray} {k : Nat} {zs : List Int} {l : List UInt8} (h : Spelled ss k zs l) (x : List UInt8) : Spelled ss k zs (l ++ x) :=
  ⟨h.1, fun j hj => (h.2 j hj).imp id (fun ⟨p, e, hp, hm, nx, hs⟩ => ⟨p, e, by rw [List.length_append]; omega, hm, nx, hs.more x⟩)⟩
theorem Spelled.snoc {ss : List ByteArray} {k : Nat} {zs : List Int} {l : List UInt8} (h : Spelled ss k zs l) (z : Int) (hz : z = -1 ∨ ∃ p : Nat, z = (p : Int) ∧ p < l.length ∧ mayN (few (ss.getD k ByteArray.empty) 40) = true ∧ ∃ nx, Sp l p p (labelsB (few (ss.getD k ByteArray.empty) 40)) nx) : Spelled ss (k + 1) (zs ++ [z]) l := by
  refine ⟨by simp [h.1], fun j hj => ?_⟩
  by_cases hjk : j < zs.length
  · rw [List.getElem_append_left hjk]
    exact h.2 j hjk
  · have : j = zs.length := by simp at hj; omega
    subst this
    rw [List.getElem_append_right (Nat.le_refl _)]
    simp only [Nat.sub_self, List.getElem_cons_zero]
    rw [h.1]
    exact hz
/-- What was written is read as it was. -/
theorem Spelled.reads {ss : List ByteArray} {k : Nat} {zs : List Int} {l : List UInt8} (h : Spelled ss k zs l) {j p : Nat} (hj : j < zs.length) (e : zs[j] = (p : Int)) : p < l.length ∧ ∃ nx, readB l (p + 1) p [] none = (few (ss.getD j ByteArray.empty) 40, nx, 0) := by
  rcases h.2 j hj with h1 | ⟨q, e2, hp, hm, nx, hs⟩
  · omega
  · obtain rfl : q = p := by omega
    refine ⟨hp, nx, ?_⟩
    have := sp_readB hs (of_decide_eq_true hm : MayL _).2
    rw [join_labels] at this
    exact this
end Go.Proofs.Ytbeoapfbddcpcaa
