/- Texts that belong together, one behind the other: RangeLaw, TabAll, TabHaving, TabSeq, TabLike, TabFind, TabFindOwn, Decimals, Prints, RefSixRow, Hexes, SixRun, SixPrint, SixBytesOwn, AddrFour, AddrMay, AddrMap. -/
import Derived.Test.YtgbajagacmfcmaaGreatDoorB7
import Derived.Lib.SliceRun
import Derived.Deep.RegionHeld3
import Derived.Lib.LaidTab
import Derived.WalkSmall
import Derived.RegionTactic
import Derived.BigRegion
/- A range over a function: the law where each round goes on, and the law where the first round returns. -/
namespace Go.Proofs.YtgbajagacmfcmaaGreatDoor
open Go.RowKit
set_option linter.unusedVariables false
set_option maxRecDepth 20000

section
variable {P : Program} {α : Type}
theorem foot_put (W : World) (l : Nat) (o : Obj) : Foot [l] [l] W (W.putObj l o) :=
  ⟨rfl, rfl, rfl, by simp, fun k _ hn => World.putObj_heap_other (fun e => hn (by simp [e])), fun k hk => .inl hk⟩
theorem below_put {W : World} {l n : Nat} (o : Obj) (h : n ≤ l) : Below n W (W.putObj l o) :=
  ⟨rfl, rfl, rfl, by simp, fun k hk => World.putObj_heap_other (by omega)⟩
/-- A call of yield, as an operation of a plain function's walk. -/
theorem yield_step {ops : Array Oper} {rest : List Oper} {o : Oper} {a : Act} {w : World} {Q : Exit → Act → World → Prop} {l : Nat} {v : Value} {ts : Array TypeId} {R : Ending → World → Prop} (hY : YieldAt Fence.wide 0 P l #[v] w R)
    (hw : Region.wanted o (yielded ops a.tmps) = true) (x y : Operand) (ho : o.op = .call { callee := .value x, args := #[y], argTypes := ts })
    (hx : a.eval x = .func (.yield l) #[] #[]) (hy : a.eval y = v) (h : ∀ e w', R e w' → ∃ u, e = .returned u ∧ wpListIn Fence.wide 0 P ops Q rest (a.put o.dst u) w') : wpListIn Fence.wide 0 P ops Q (o :: rest) a w := by
  obtain ⟨fn, tmps, assign, body, hr, hR⟩ := hY
  unfold wpListIn
  rw [if_pos hw]
  refine ⟨fun _ _ => trivial, ?_⟩
  have e : (o.semAt Fence.wide.round a.eval).run P w = .ok (.round l fn tmps assign body) w := by
    show (execOp a.eval o).run P w = _
    unfold execOp
    simp only [ho, resolve, List.map_toArray, List.map_cons, List.map_nil, hx, hy, Sem.run_bind]
    simp [Deferred.ofValue, invoke, hr]
  rw [e, Oper.uponIn_round]
  refine ⟨(fun h => by cases h), hR.mono fun e w' he => ?_⟩
  obtain ⟨u, rfl, hu⟩ := h e w' he
  exact hu
/-- An operation of a plain function's walk, by its plain law. -/
theorem wide_step {ops : Array Oper} {rest : List Oper} {o : Oper} {a : Act} {w : World} {Q : Exit → Act → World → Prop} {v : Value} (hw : Region.wanted o (yielded ops a.tmps) = true) (hr : (execOp a.eval o).run P w = .ok (.value v) w)
    (h : wpListIn Fence.wide 0 P ops Q rest (a.put o.dst v) w) : wpListIn Fence.wide 0 P ops Q (o :: rest) a w := by
  unfold wpListIn
  rw [if_pos hw]
  refine ⟨fun _ _ => trivial, ?_⟩
  rw [show (o.semAt Fence.wide.round a.eval).run P w = .ok (.value v) w from hr, Oper.uponIn_value]
  exact h
/-- What an iterator tells, one by one, where each round goes on and turns but the blocks M. -/
def Tells (P : Program) (gf : Nat) (lb : Array Value) (xs : List α) (enc : α → Value) (M : List Nat) (w : World) : Prop :=
  ∀ (l : Nat) (J : Nat → World → Prop) (W : World), Below w.heap.size w W → (∀ k A B, J k A → Below A.heap.size A B → J k B) →
    (∀ k (hk : k < xs.length) W1, J k W1 → YieldAt Fence.wide 0 P l #[enc xs[k]] W1 fun e W' => e = .returned (.bool true) ∧ J (k + 1) W' ∧ Foot M M W1 W') → J 0 W →
    CallsIn Fence.wide 0 P gf (#[.func (.yield l) #[] #[]] ++ lb) W fun e W' => (∃ v, e = .returned v) ∧ J xs.length W'
/-- The record of a loop. -/
def recOf (fn : FuncId) (a : Act) (ps : Array Tmp) (assign body : Code) (D : Nat) (st : LoopState) (pe : Option Code) : Loop := { state := st, pending := pe, fn, tmps := a.tmps, params := ps, assign, body, defers := D }
theorem zip_one (p : Tmp) (v : Value) (t : Array Value) : (#[p].zip #[v]).foldl (fun tmps (t, a) => tmps.setIfInBounds t a) t = t.setIfInBounds p v := by simp
theorem enter_law {g : Operand} {ps : Array Tmp} {assign body : Code} {Q : Exit → Act → World → Prop} {a : Act} {w : World} {gf : Nat} {lb : Array Value} (hg : a.eval g = .func (.func gf) #[] lb) (eg : ∀ args w, (callFunc gf args).run P w = .ok (.enter gf args) w)
    (h : ∀ fn W1, Below w.heap.size w W1 → W1.heap[w.heap.size + 1]? = some (.loop (recOf fn a ps assign body w.heap.size .ready none)) → W1.heap[w.heap.size]? = some (.deferred (some [])) →
      CallsIn Fence.wide 0 P gf (#[.func (.yield (w.heap.size + 1)) #[] #[]] ++ lb) W1 (rangePost Fence.wide 0 P (w.heap.size + 1) Q { a with defers := [{ target := .collected w.heap.size, args := #[] }] ++ a.defers })) :
    (Code.rangeFunc g ps assign body).wp P Q a w := by
  refine (wpIn_wide (n := 0)).1 (wpIn_rangeFunc fun fn _ => ?_)
  obtain ⟨W1, hW1⟩ : ∃ W1, (w.alloc (.deferred (some []))).alloc (.loop (recOf fn a ps assign body w.heap.size .ready none)) = W1 := ⟨_, rfl⟩
  have hL1 : W1.heap[w.heap.size + 1]? = some (.loop (recOf fn a ps assign body w.heap.size .ready none)) := by
    rw [← hW1]; have := World.alloc_heap_new (w.alloc (.deferred (some []))) (.loop (recOf fn a ps assign body w.heap.size .ready none)); rwa [World.size_alloc] at this
  have hK1 : W1.heap[w.heap.size]? = some (.deferred (some [])) := by
    rw [← hW1]; exact (Below.heap_alloc _ _ _ (by simp)).trans (World.alloc_heap_new w _)
  have hb1 : Below w.heap.size w W1 := by
    rw [← hW1]; exact ((Below.refl _ w).alloc (Nat.le_refl _) _).alloc (by simp) _
  have e1 : (Instr.enterLoop fn a.tmps ps assign body none).run P w = .ok (w.heap.size + 1, [{ target := .collected w.heap.size, args := #[] }]) W1 := by
    rw [← hW1]; exact run_enterLoop_outer _ _ _ _ _
  have e2 : (resolve a.eval (rangeCall g (w.heap.size + 1)) 0).run P W1 = .ok { target := .fn (.func gf) lb, args := #[.func (.yield (w.heap.size + 1)) #[] #[]] } W1 := by
    simp only [resolve, hg]
    simp [go_sem]
  have e3 : (invoke (.fn (.func gf) lb) #[.func (.yield (w.heap.size + 1)) #[] #[]]).run P W1 = .ok (.enter gf (#[.func (.yield (w.heap.size + 1)) #[] #[]] ++ lb)) W1 := by
    simp only [invoke]
    exact eg _ _
  have e4 := h fn W1 hb1 hL1 hK1
  clear hL1 hK1 hb1 hW1 h eg hg
  exact ⟨_, _, W1, _, W1, gf, _, W1, e1, e2, fun _ _ => trivial, e3, (fun h => by cases h), e4⟩
/-- The law where each round goes on. -/
theorem range_each {g : Operand} {p : Tmp} {assign body : Code} {Q : Exit → Act → World → Prop} {a : Act} {w : World} {gf : Nat} {lb : Array Value} (hg : a.eval g = .func (.func gf) #[] lb) (eg : ∀ args w, (callFunc gf args).run P w = .ok (.enter gf args) w)
    (xs : List α) (enc : α → Value) (M : List Nat) (hM : ∀ k ∈ M, k < w.heap.size) (w0 : World) (hseq : Tells P gf lb xs enc M w0) (hb0 : Below w0.heap.size w0 w)
    (I : Nat → World → Prop) (hI : ∀ k A B, I k A → Below w.heap.size A B → I k B) (h0 : I 0 w)
    (hround : ∀ l k (hk : k < xs.length) W, w.heap.size < l → l < W.heap.size → I k W →
      assign.wpIn (Fence.wide.inRound l) 0 P (Exit.then (fun a₁ w₁ => Below W.heap.size W w₁ ∧ ∀ w₂, Foot [l] [l] w₁ w₂ → body.wpIn (Fence.wide.inRound l) 0 P (fun e _ W3 => e = .normal ∧ Foot M M w₂ W3 ∧ I (k + 1) W3) a₁ w₂) (fun _ _ _ => False))
        { tmps := a.tmps.setIfInBounds p (enc xs[k]), defers := [] } W)
    (hdone : ∀ W, I xs.length W → W.heap[w.heap.size]? = some (.deferred (some [])) → Q .normal { a with defers := [{ target := .collected w.heap.size, args := #[] }] ++ a.defers } W) :
    (Code.rangeFunc g #[p] assign body).wp P Q a w := by
  refine enter_law hg eg fun fn W1 hb1 hL1 hK1 => ?_
  obtain ⟨l, hl⟩ : ∃ l, w.heap.size + 1 = l := ⟨_, rfl⟩
  rw [hl] at hL1 ⊢
  obtain ⟨rec, hrec⟩ : ∃ rec, recOf fn a #[p] assign body w.heap.size = rec := ⟨_, rfl⟩
  rw [hrec] at hL1
  refine (hseq l (fun k W => I k W ∧ W.heap[l]? = some (.loop (rec .ready none)) ∧ W.heap[w.heap.size]? = some (.deferred (some []))) W1 (hb0.trans (hb1.mono hb0.size)) ?_ ?_ ⟨hI 0 _ _ h0 hb1, hL1, hK1⟩).mono ?_
  · rintro k A B ⟨h1, h2, h3⟩ hb
    have hlA : l < A.heap.size := (Array.getElem?_eq_some_iff.1 h2).1
    exact ⟨hI k A B h1 (hb.mono (by omega)), (hb.block l hlA).trans h2, (hb.block w.heap.size (by omega)).trans h3⟩
  · rintro k hk W ⟨h1, h2, h3⟩
    have hlW : l < W.heap.size := (Array.getElem?_eq_some_iff.1 h2).1
    have hy := run_yield (P := P) (args := #[enc xs[k]]) h2 (by rw [← hrec]; simp [recOf])
    refine ⟨_, _, _, _, hy, roundIn_of_wpIn trivial ?_⟩
    rw [← hrec]
    show assign.wpIn _ _ _ _ { tmps := (#[p].zip #[_]).foldl _ a.tmps, defers := [] } W
    rw [zip_one]
    refine wpIn_mono (hround l k hk W (by omega) hlW h1) ?_
    rintro e a₁ w₁ he
    cases e with
    | normal =>
      obtain ⟨hb, hbody⟩ := he
      have hl1 : w₁.heap[l]? = some (.loop (rec .ready none)) := (hb.block l hlW).trans h2
      have hk1 : w₁.heap[w.heap.size]? = some (.deferred (some [])) := (hb.block _ (by omega)).trans h3
      have hll : l < w₁.heap.size := (Array.getElem?_eq_some_iff.1 hl1).1
      refine ⟨_, run_beginRound hl1 (by rw [← hrec]; rfl), ?_⟩
      refine wpIn_mono (hbody _ (foot_put w₁ l _)) ?_
      rintro e a₂ W3 ⟨rfl, hf, hi3⟩
      have hlM : l ∉ M := fun e => by have := hM l e; omega
      have hDM : w.heap.size ∉ M := fun e => by have := hM _ e; omega
      have hl3 := (hf.keep l (by simpa using hll) hlM).trans (World.putObj_heap_same hll)
      have hr3 := run_endRound (P := P) (none : Option Code) hl3
      refine ⟨_, _, hr3, rfl, ⟨hI _ _ _ hi3 (below_put _ (by omega)), ?_, ?_⟩, ?_⟩
      · rw [World.putObj_heap_same (Array.getElem?_eq_some_iff.1 hl3).1, ← hrec]; rfl
      · rw [World.putObj_heap_other (by omega), hf.keep _ (by simp; omega) hDM, World.putObj_heap_other (by omega)]; exact hk1
      · refine ⟨?_, ?_, ?_, ?_, fun j hj hn => ?_, fun j hj => .inl hj⟩
        · exact hf.os.trans hb.os
        · exact hf.tape.trans hb.tape
        · exact hf.output.trans hb.output
        · have := hf.size; have := hb.size; simp at *; omega
        · by_cases e : j = l
          · subst e
            rw [World.putObj_heap_same (Array.getElem?_eq_some_iff.1 hl3).1, h2, ← hrec]; rfl
          · rw [World.putObj_heap_other e, hf.keep j (by have := hb.size; simp; omega) hn, World.putObj_heap_other e]
            exact hb.block j hj
    | exit id => exact he.elim
    | goto t => exact he.elim
    | ret => exact he.elim
    | panic c => exact he.elim
    | outgrown => exact he.elim
  · rintro e W2 ⟨⟨v, rfl⟩, hi, h2, h3⟩
    refine ⟨none, _, by have := run_endLoop (P := P) h2 (by rw [← hrec]; simp [recOf]); rw [← hrec] at this; exact this, hdone _ (hI _ _ _ hi (below_put _ (by omega))) ((World.putObj_heap_other (by omega)).trans h3)⟩
/-- What an iterator tells whose first round says 'no more'; it turns the block G alone. -/
def TellsOne (P : Program) (gf : Nat) (lb : Array Value) (best : Option α) (enc : α → Value) (G : Nat) (Inv : World → Prop) (w : World) : Prop :=
  ∀ (l : Nat) (Jx : World → Prop) (W : World), Below w.heap.size w W →
    (∀ x W1, best = some x → Inv W1 → Foot [G] [G] W W1 → YieldAt Fence.wide 0 P l #[enc x] W1 fun e W' => e = .returned (.bool false) ∧ Jx W') →
    CallsIn Fence.wide 0 P gf (#[.func (.yield l) #[] #[]] ++ lb) W fun e W' => (∃ v, e = .returned v) ∧ ((best = none ∧ Inv W' ∧ Foot [G] [G] W W') ∨ (∃ x, best = some x ∧ Jx W'))
/-- The law where the first round returns. -/
theorem range_one {g : Operand} {p : Tmp} {assign body : Code} {Q : Exit → Act → World → Prop} {a : Act} {w : World} {gf : Nat} {lb : Array Value} (hg : a.eval g = .func (.func gf) #[] lb) (eg : ∀ args w, (callFunc gf args).run P w = .ok (.enter gf args) w)
    (best : Option α) (enc : α → Value) (G : Nat) (hG : G < w.heap.size) (Inv : World → Prop) (w0 : World) (hseq : TellsOne P gf lb best enc G Inv w0) (hb0 : Below w0.heap.size w0 w)
    (M : List Nat) (hM : ∀ k ∈ M, k < w.heap.size) (J : World → Prop) (hJ : ∀ A B, J A → Below w.heap.size A B → J B) (hInv : ∀ A B, Inv A → Below w.heap.size A B → Inv B)
    (hround : ∀ l x W, best = some x → w.heap.size < l → l < W.heap.size → Inv W → (∀ j, j < w.heap.size → j ≠ G → W.heap[j]? = w.heap[j]?) → W.os = w.os → W.tape = w.tape → W.output = w.output →
      assign.wpIn (Fence.wide.inRound l) 0 P (Exit.then (fun a₁ w₁ => Below W.heap.size W w₁ ∧ ∀ w₂, Foot [l] [l] w₁ w₂ → body.wpIn (Fence.wide.inRound l) 0 P (fun e _ W3 => e = .ret ∧ Foot M M w₂ W3 ∧ J W3) a₁ w₂) (fun _ _ _ => False))
        { tmps := a.tmps.setIfInBounds p (enc x), defers := [] } W)
    (hdone : ∀ W, best = none → Inv W → (∀ j, j < w.heap.size → j ≠ G → W.heap[j]? = w.heap[j]?) → w.heap.size ≤ W.heap.size → W.os = w.os → W.tape = w.tape → W.output = w.output → W.heap[w.heap.size]? = some (.deferred (some [])) → Q .normal { a with defers := [{ target := .collected w.heap.size, args := #[] }] ++ a.defers } W)
    (hstop : ∀ x W, best = some x → J W → W.heap[w.heap.size]? = some (.deferred (some [])) → Q .ret { a with defers := [{ target := .collected w.heap.size, args := #[] }] ++ a.defers } W) :
    (Code.rangeFunc g #[p] assign body).wp P Q a w := by
  refine enter_law hg eg fun fn W1 hb1 hL1 hK1 => ?_
  obtain ⟨l, hl⟩ : ∃ l, w.heap.size + 1 = l := ⟨_, rfl⟩
  rw [hl] at hL1 ⊢
  obtain ⟨rec, hrec⟩ : ∃ rec, recOf fn a #[p] assign body w.heap.size = rec := ⟨_, rfl⟩
  rw [hrec] at hL1
  have hlW1 : l < W1.heap.size := (Array.getElem?_eq_some_iff.1 hL1).1
  refine (hseq l (fun W => J W ∧ W.heap[l]? = some (.loop (rec .done (some .ret))) ∧ W.heap[w.heap.size]? = some (.deferred (some []))) W1 (hb0.trans (hb1.mono hb0.size)) ?_).mono ?_
  · rintro x W hx hinv hfW
    have h2 := (hfW.keep l hlW1 (by simp; omega)).trans hL1
    have h3 := (hfW.keep _ (by omega) (by simp; omega)).trans hK1
    have hlW : l < W.heap.size := (Array.getElem?_eq_some_iff.1 h2).1
    have hy := run_yield (P := P) (args := #[enc x]) h2 (by rw [← hrec]; simp [recOf])
    refine ⟨_, _, _, _, hy, roundIn_of_wpIn trivial ?_⟩
    rw [← hrec]
    show assign.wpIn _ _ _ _ { tmps := (#[p].zip #[_]).foldl _ a.tmps, defers := [] } W
    rw [zip_one]
    refine wpIn_mono (hround l x W hx (by omega) hlW hinv (fun j hj hn => (hfW.keep j (by omega) (by simpa using hn)).trans (hb1.block j hj)) (hfW.os.trans hb1.os) (hfW.tape.trans hb1.tape) (hfW.output.trans hb1.output)) ?_
    rintro e a₁ w₁ he
    cases e with
    | normal =>
      obtain ⟨hb, hbody⟩ := he
      have hl1 : w₁.heap[l]? = some (.loop (rec .ready none)) := (hb.block l hlW).trans h2
      have hk1 : w₁.heap[w.heap.size]? = some (.deferred (some [])) := (hb.block _ (by omega)).trans h3
      have hll : l < w₁.heap.size := (Array.getElem?_eq_some_iff.1 hl1).1
      refine ⟨_, run_beginRound hl1 (by rw [← hrec]; rfl), ?_⟩
      refine wpIn_mono (hbody _ (foot_put w₁ l _)) ?_
      rintro e a₂ W3 ⟨rfl, hf, hi3⟩
      have hlM : l ∉ M := fun e => by have := hM l e; omega
      have hDM : w.heap.size ∉ M := fun e => by have := hM _ e; omega
      have hl3 := (hf.keep l (by simpa using hll) hlM).trans (World.putObj_heap_same hll)
      have hr3 := run_endRound (P := P) (some Code.ret) hl3
      refine ⟨_, _, hr3, rfl, hJ _ _ hi3 (below_put _ (by omega)), ?_, ?_⟩
      · rw [World.putObj_heap_same (Array.getElem?_eq_some_iff.1 hl3).1, ← hrec]; rfl
      · rw [World.putObj_heap_other (by omega), hf.keep _ (by simp; omega) hDM, World.putObj_heap_other (by omega)]; exact hk1
    | exit id => exact he.elim
    | goto t => exact he.elim
    | ret => exact he.elim
    | panic c => exact he.elim
    | outgrown => exact he.elim
  · rintro e W2 ⟨⟨v, rfl⟩, ⟨hb, hinv, hf⟩ | ⟨x, hx, hj, h2, h3⟩⟩
    · have h2 := (hf.keep l hlW1 (by simp; omega)).trans hL1
      have h3 := (hf.keep _ (by omega) (by simp; omega)).trans hK1
      have hsz := hf.size
      refine ⟨none, _, by have := run_endLoop (P := P) h2 (by rw [← hrec]; simp [recOf]); rw [← hrec] at this; exact this, hdone _ hb (hInv _ _ hinv (below_put _ (by omega))) (fun j hj hn => ?_) (by simp; omega) (hf.os.trans hb1.os) (hf.tape.trans hb1.tape) (hf.output.trans hb1.output) ((World.putObj_heap_other (by omega)).trans h3)⟩
      rw [World.putObj_heap_other (by omega)]
      exact (hf.keep j (by omega) (by simpa using hn)).trans (hb1.block j hj)
    · exact ⟨some .ret, _, by have := run_endLoop (P := P) h2 (by rw [← hrec]; simp [recOf]); rw [← hrec] at this; exact this, wpIn_ret (hstop x _ hx (hJ _ _ hj (below_put _ (by omega))) ((World.putObj_heap_other (by omega)).trans h3))⟩
end
end Go.Proofs.YtgbajagacmfcmaaGreatDoor
/- Contracts of slices.Clone, slices.Values and Table.All: the iterator that All answers. -/
namespace Go.Proofs.YtgbajagacmfcmaaGreatDoor
open Go.RowKit
set_option linter.unusedVariables false
set_option maxRecDepth 20000

def encE (e : Ent) : Value := entV e.f e.b (e.n : Int) e.v
theorem wp_of_listIn {P : Program} {id : Nat} {l : List Oper} {Q : Exit → Act → World → Prop} {a : Act} {w : World} (h : wpListIn Fence.wide 0 P l.toArray Q l a w) : (Code.region id l.toArray false).wp P Q a w :=
  (wpIn_wide (n := 0)).1 (wpIn_region_lit h)
theorem exec_entT {o : Oper} {a : Act} {w : World} {G b : Nat} {f : Int} {bs : List Nat} {n v : Int} (hl : bs.length = 16) (hA : w.rangeAt G b (entL f bs n v)) (x : Operand) (ho : o.op = .load 47 x) (hx : a.eval x = .pointer (some ⟨G, b, none⟩)) :
    (execOp a.eval o).run Tryz.prog w = .ok (.value (entV f bs n v)) w := by
  unfold execOp
  simp only [ho, hx, Sem.run_bind, run_loadAt_mid w G b 47 (entL f bs n v) _ hA Tryz.underlying47 rfl (by rw [entT_size, entL_len f bs n v hl])]
  rfl
end Go.Proofs.YtgbajagacmfcmaaGreatDoor
/- Contract of the iterator that Table.having answers. -/
namespace Go.Proofs.YtgbajagacmfcmaaGreatDoor
open Go.RowKit
set_option linter.unusedVariables false
set_option maxRecDepth 20000

theorem yields_addr_l {ops : Array Oper} {op : Oper} {a : Act} {L : List (Nat × Nat × List Value)} {G o : Nat} {f : Int} {bs : List Nat} (hl : Hid (bs.length = 16)) (hm : Hid (InL L G o (addrL f bs))) (hw : Region.wanted op (yielded ops a.tmps) = true) (x : Operand) (ho : op.op = .load 24 x)
    (hx : a.eval x = .pointer (some ⟨G, o, none⟩)) : YieldsIf Tryz.prog ops (HeldL L) op (addrV f bs) a :=
  yieldsIf_load_mid hw 24 x ho G o hx (addrL f bs) _ (fun w h => hm.out w h) Tryz.underlying24 rfl (by rw [addr_size, addrL_len f bs hl.out])
theorem hold_cmps (G : Nat) (v : Value) (st : Int) (f : Int) (bs : List Nat) (n : Int) (es : List Ent) (hg : AllGood es) (h16 : bs.length = 16) (hlt : ∀ y ∈ bs, y < 256) (h0 : 0 ≤ st) (h1 : st ≤ 900000) : Cmps 54 #[.pointer (some ⟨G, 0, none⟩)] f bs n es [G] (fun c W => Tab W G v (st + (c : Int))) := by
  intro c W e hc he hT
  have hG := hg e he
  have := tabHold_any G v (st + (c : Int)) e.f e.b (e.n : Int) e.v f bs n W hT (by omega) (by omega) hG.1.len h16 hG.1.lt hlt
  exact this.mono fun x w' ⟨h1, h2, h3⟩ => ⟨h1, by show Tab w' G v (st + ((c + 1 : Nat) : Int)); rw [show st + ((c + 1 : Nat) : Int) = st + (c : Int) + 1 by omega]; exact h2, h3⟩
theorem exec_indexT {o : Oper} {a : Act} {w : World} {g m cap i : Nat} (x y : Operand) (ho : o.op = .indexAddr 33 x y) (hx : a.eval x = .slice (some ⟨g, 0, none⟩) m cap) (hy : a.eval y = .int .i64 (i : Int)) (hi : i < m) :
    (execOp a.eval o).run Tryz.prog w = .ok (.value (.pointer (some ⟨g, i * 19, none⟩))) w := by
  have hu := run_underlying Tryz.underlying33 (w := w)
  have hb1 : (0 : Int) ≤ (i : Int) := by omega
  have hb2 : (i : Int) < (m : Int) := by omega
  have hz := sizeT w
  unfold execOp
  simp only [ho, hx, hy]
  go_simp
/-- What is kept while an address is looked for. -/
def FindInv (G : Nat) (es : List Ent) (st : Int) (F : List Nat) (W : World) : Prop := ∃ st', TabAt W G es st' F ∧ st ≤ st' ∧ st' ≤ st + 129 * ((bl es.length : Int) + 1)
set_option maxRecDepth 100000 in
set_option maxHeartbeats 2000000 in
theorem having1_some (G Bt Ba g cap : Nat) (es : List Ent) (st : Int) (f : Int) (us : List Nat) (w : World) (hT : Tab w G (.slice (some ⟨g, 0, none⟩) es.length cap) st) (hR : RowT w 0 (.slice (some ⟨g, 0, none⟩) es.length cap) es) (hs : SortedE es) (hgG : g ≠ G)
    (hBt : w.cell? ⟨Bt, 0, none⟩ = some (.pointer (some ⟨G, 0, none⟩))) (hBa : AddrAt w Ba f us) (hlt : ∀ y ∈ us, y < 256) (htG : Bt ≠ G) (haG : Ba ≠ G) (h0 : 0 ≤ st) (h1 : st ≤ 800000) :
    TellsOne Tryz.prog 50 #[.pointer (some ⟨Bt, 0, none⟩), .pointer (some ⟨Ba, 0, none⟩)] (findE es f us) encE G (FindInv G es st [G, g]) w := by
  intro l Jx W hb hY
  have hBtl : Bt < w.heap.size := World.block_lt_of_cell? w ⟨Bt, 0, none⟩ hBt
  have hle := hR.2.2
  have hcap : es.length ≤ cap := by
    rcases hR.form with ⟨e, _⟩ | ⟨g', cap', e, _, _, h, _⟩
    · cases e
    · cases e; exact h
  have hcm : cap ≤ maxLen := by
    rcases hR.form with ⟨e, _⟩ | ⟨g', cap', e, _, _, _, h, _⟩
    · cases e
    · cases e; exact h
  have hmx : maxLen ≤ 9223372036854775807 := by unfold maxLen; omega
  have HG := Lib.hid hR.2.1
  have HSO := Lib.hid hs
  have H16 := Lib.hid hBa.len
  have HLT := Lib.hid hlt
  have HT0 := Lib.hid (hT.below hb)
  have HR0 := Lib.hid (hR.below hb)
  have HA0 := Lib.hid (hBa.below hb)
  have hbt : W.cell? ⟨Bt, 0, none⟩ = some (.pointer (some ⟨G, 0, none⟩)) := (hb.cell (p := ⟨Bt, 0, none⟩) hBtl).trans hBt
  have HBT := Lib.hid hbt
  have HBTL : Hid (Bt < W.heap.size) := Lib.hid (Nat.lt_of_lt_of_le hBtl hb.size)
  have hrow := HT0.out.row
  have HY := Lib.hid hY
  have HBI := fun W => Lib.hid (addrBits_any f us W hBa.len)
  have HNB := bitsN_le f
  have hblh := Lib.hid (bl_small hle)
  clear hT hR hs hBt hBa hlt hb hY hBtl
  refine callsIn_of_wp Tryz.func50 rfl trivial (wpIn_wide.2 ?_)
  simp only [Tryz.ntmps50, List.size_toArray, List.length_cons, List.length_nil, Nat.reduceAdd, Nat.reduceSub, Array.replicate_succ, Array.replicate_zero, List.push_toArray, List.append_toArray, List.nil_append, List.cons_append]
  go_wp2_with (refine load_addr_g HA0 _ rfl rfl rfl ?_)
  refine (HBI _).out.mono ?_
  rintro e w1 ⟨rfl, hb1⟩
  have HB1 := Lib.hid (Foot.ofBelow [G] hb1)
  have HT1 := Lib.hid (HT0.out.below hb1)
  clear hb1 hrow hbt HBI
  go_wp2_with fail
  have HF0 := Lib.hid HB1.out
  go_loopw [4, 5] (fun s4 s5 wr => ∃ (m b q : Nat), s4 = .slice (some ⟨g, 0, none⟩) m cap ∧ s5 = .int .i64 ((b : Int) - 1) ∧ m ≤ es.length ∧ b ≤ bitsN f + 1 ∧ Hid (Looked es f us m b) ∧ Hid (Tab wr G (.slice (some ⟨g, 0, none⟩) es.length cap) (st + (q : Int))) ∧ Hid (q ≤ (bitsN f + 1 - b) * (bl es.length + 1)) ∧ Hid (Foot [G] [G] W wr)) (fun _ s5 _ => (intOf s5 + 1).toNat)
  case atStart => exact ⟨es.length, bitsN f + 1, 0, rfl, by rw [show ((bitsN f + 1 : Nat) : Int) - 1 = ((bitsN f : Nat) : Int) by omega], Nat.le_refl _, Nat.le_refl _, Lib.hid looked_all, Lib.hid (by rw [show st + ((0 : Nat) : Int) = st by omega]; exact HT1.out), Lib.hid (Nat.zero_le _), HF0⟩
  case round =>
    clear HT1 HB1 HF0
    obtain ⟨m, b, q, rfl, rfl, hml, hbn, HLK, HTr, HQ, HFr⟩ := hrel
    have HINV : Hid (∀ W' (q' : Nat), Tab W' G (.slice (some ⟨g, 0, none⟩) es.length cap) (st + (q' : Int)) → q' ≤ 129 * (bl es.length + 1) → Foot [G] [G] W W' → FindInv G es st [G, g] W') := Lib.hid (fun W' q' ht hq hf => ⟨st + (q' : Int), ⟨_, rfl, ht, HR0.out.foot hf (fun k hk => by cases hk; simp; omega), HSO.out, fun k hk => by cases hk; exact hgG⟩, by omega, by omega⟩)
    by_cases hb0 : b = 0
    · subst hb0
      have hd : decide ((0 : Int) ≤ ((0 : Nat) : Int) - 1) = false := by decide
      have HNONE := Lib.hid (looked_end HG.out H16.out HLK.out)
      have HFI := Lib.hid (HINV.out wr q HTr.out (by have h1 := HQ.out; have h2 : (bitsN f + 1 - 0) * (bl es.length + 1) ≤ 129 * (bl es.length + 1) := Nat.mul_le_mul_right _ (by omega); omega) HFr.out)
      clear HINV HLK HY HTr
      go_wp2_with fail
      go_end0
      exact ⟨⟨_, rfl⟩, .inl ⟨HNONE.out, HFI.out, HFr.out⟩⟩
    · obtain ⟨c, rfl⟩ : ∃ c, b = c + 1 := ⟨b - 1, by omega⟩
      rw [show ((c + 1 : Nat) : Int) - 1 = ((c : Nat) : Int) by omega]
      have hd : decide ((0 : Int) ≤ (c : Int)) = true := by simp
      have hcN : c ≤ bitsN f := by omega
      have hmask : maskN f (c : Int) = c := by unfold maskN; simp; omega
      have HMK : Hid (Calls Tryz.prog 53 #[addrV f us, .int .i64 (c : Int)] wr.drew fun e w' => e = .returned (prefV f (withL (bitsN f) us c 0) (c : Int)) ∧ Below wr.drew.heap.size wr.drew w') := Lib.hid (by
        have := cidrMask_any f us (c : Int) wr.drew H16.out HLT.out (wf_small (by omega))
        rw [hmask] at this
        exact this)
      have HSE : ∀ V, Hid (Below wr.drew.heap.size wr.drew V → Calls Tryz.prog 52 #[.slice (some ⟨g, 0, none⟩) m cap, prefV f (withL (bitsN f) us c 0) (c : Int), .func (.func 54) #[.pointer (some ⟨G, 0, none⟩)] #[]] V fun e w' =>
          ∃ (i : Nat) (t : Bool) (q' : Nat), e = .returned (.tuple #[.int .i64 (i : Int), .bool t]) ∧ Place (es.take m) f (withL (bitsN f) us c 0) (c : Int) i t ∧ Tab w' G (.slice (some ⟨g, 0, none⟩) es.length cap) (st + (q' : Int)) ∧ q' ≤ (bitsN f + 1 - c) * (bl es.length + 1) ∧ Foot [G] [G] W w') := fun V => Lib.hid (fun hbV => by
        have hfV : Foot [G] [G] W V := (HFr.out.trans (Foot.ofBelow _ (Below.refl _ _).drew)).trans (Foot.ofBelow _ hbV)
        have hRV : RowT V 0 (.slice (some ⟨g, 0, none⟩) es.length cap) es := HR0.out.foot hfV (fun k hk => by cases hk; simp; omega)
        have hTV : Tab V G (.slice (some ⟨g, 0, none⟩) es.length cap) (st + (q : Int)) := (HTr.out.below (Below.refl _ _).drew).below hbV
        rcases hRV.form with ⟨e, _⟩ | ⟨g', cap', e, _, hgl, _, _, hrg⟩
        · cases e
        · cases e
          have hlm : (es.take m).length = m := by rw [List.length_take]; omega
          have hq := HQ.out
          have hq2 : (bitsN f + 1 - (c + 1)) * (bl es.length + 1) ≤ 129 * 11 := Nat.mul_le_mul (by omega) (by have := hblh.out; omega)
          have := search_any 54 #[.pointer (some ⟨G, 0, none⟩)] (enters_of Tryz.func54 (by kernel_rfl) rfl) f (withL (bitsN f) us c 0) (c : Int) g cap (es.take m) [G] (fun j V => Tab V G (.slice (some ⟨g, 0, none⟩) es.length cap) (st + (q : Int) + (j : Int))) V (cell_take hrg m) hgl (by simp; omega) (by simp; exact hTV.lt) (by omega) (good_take HG.out m) (sorted_take HSO.out m) (withL_len _ _ _ _) (hold_cmps G _ _ _ _ _ _ (good_take HG.out m) (withL_len _ _ _ _) (withL_lt _ _ _ _ (by decide)) (by omega) (by omega)) (fun j A B h hb => h.below hb) (by show Tab V G _ (st + (q : Int) + ((0 : Nat) : Int)); rw [show st + (q : Int) + ((0 : Nat) : Int) = st + (q : Int) by omega]; exact hTV)
          rw [hlm] at this
          refine this.mono ?_
          rintro e w' ⟨i, t, j, h1, h2, h3, h4, h5⟩
          refine ⟨i, t, q + j, h1, h2, by rw [show st + ((q + j : Nat) : Int) = st + (q : Int) + (j : Int) by omega]; exact h3, ?_, hfV.trans h5⟩
          have h6 := bl_mono es.length m hml
          have h7 : (bitsN f + 1 - c) * (bl es.length + 1) = (bitsN f + 1 - (c + 1)) * (bl es.length + 1) + (bl es.length + 1) := by rw [show bitsN f + 1 - c = (bitsN f + 1 - (c + 1)) + 1 by omega, Nat.succ_mul]
          omega)
      go_upto_region 4 with fail
      obtain ⟨L, hL⟩ : ∃ L, [(Bt, 0, [Value.pointer (some ⟨G, 0, none⟩)]), (Ba, 0, addrL f us)] = L := ⟨_, rfl⟩
      have HKW : Hid (∀ V, Foot [G] [G] W V → HeldL L V) := Lib.hid (fun V hf => by
        rw [← hL]; intro x hx
        simp only [List.mem_cons, List.not_mem_nil, or_false] at hx
        rcases hx with rfl | rfl
        · refine range_foot hf (fun j u hu => ?_) HBTL.out (by simp; exact htG)
          cases j with
          | zero => rw [Nat.add_zero, HBT.out]; exact hu
          | succ j => simp at hu
        · exact range_foot hf HA0.out.range HA0.out.lt (by simp; exact haG))
      have HKD := Lib.hid (HKW.out wr.drew (HFr.out.trans (Foot.ofBelow _ (Below.refl _ _).drew)))
      have MA : Hid (InL L Ba 0 (addrL f us)) := Lib.hid (fun W h => h.get (by rw [← hL]; simp))
      have CP : Hid (∀ w', HeldL L w' → w'.cell? ⟨Bt, 0, none⟩ = some (.pointer (some ⟨G, 0, none⟩))) := Lib.hid (fun w' h => h.get (b := Bt) (o := 0) (cs := [Value.pointer (some ⟨G, 0, none⟩)]) (by rw [← hL]; simp) 0 _ rfl)
      clear hL hmask
      refine wp_region_noPanic ?_
      refine wp_region_held_drew (S := HeldL L) (by kernel_rfl) HKD.out (fun hHeld => ?_)
      refine wpAnyH_take (i := 0) (v := ?_) rfl (by kernel_rfl) (by kernel_rfl) (by kernel_rfl) (fun _ _ _ h => h) (Or.inl ⟨by rfl, ?_⟩) (by assumption) ?_
      rotate_left
      · (intro w hSw; go_simp; try (with_reducible rfl))
      try simp only [Act.put, List.getElem_toArray, List.getElem_cons_zero, List.setIfInBounds_toArray, List.set_cons_zero, List.set_cons_succ]
      refine wpAnyH_take (i := 1) rfl (by kernel_rfl) (by kernel_rfl) (by kernel_rfl) (fun _ _ _ h => h) (yields_addr_l H16 MA (by rfl) _ rfl rfl) (by assumption) ?_
      try simp only [Act.put, List.getElem_toArray, List.getElem_cons_zero, List.getElem_cons_succ, List.setIfInBounds_toArray, List.set_cons_zero, List.set_cons_succ]
      refine wpAnyH_take (i := 2) (v := ?_) rfl (by kernel_rfl) (by kernel_rfl) (by kernel_rfl) (fun _ _ _ h => h) (Or.inl ⟨by rfl, ?_⟩) (by assumption) ?_
      rotate_left
      · (intro w hSw; go_simp; try (with_reducible rfl))
      try simp only [Act.put, List.getElem_toArray, List.getElem_cons_zero, List.getElem_cons_succ, List.setIfInBounds_toArray, List.set_cons_zero, List.set_cons_succ]
      refine wpAnyH_take (i := 4) (v := ?_) rfl (by kernel_rfl) (by kernel_rfl) (by kernel_rfl) (fun _ _ _ h => h) (Or.inl ⟨by rfl, ?_⟩) (by assumption) ?_
      rotate_left
      · (intro w hSw; have hc0 := CP.out w hSw; go_simp; try (with_reducible rfl))
      try simp only [Act.put, List.getElem_toArray, List.getElem_cons_zero, List.getElem_cons_succ, List.setIfInBounds_toArray, List.set_cons_zero, List.set_cons_succ]
      refine wpAnyH_take (i := 5) (v := ?_) rfl (by kernel_rfl) (by kernel_rfl) (by kernel_rfl) (fun _ _ _ h => h) (Or.inl ⟨by rfl, ?_⟩) (by assumption) ?_
      rotate_left
      · (intro w hSw; go_simp; try (with_reducible rfl))
      try simp only [Act.put, List.getElem_toArray, List.getElem_cons_zero, List.getElem_cons_succ, List.setIfInBounds_toArray, List.set_cons_zero, List.set_cons_succ]
      refine wpAnyH_ready (rs := [3]) (by kernel_rfl) (by simp) ?_
      refine AllReadyH.cons rfl (fun K hK => ?_) AllReadyH.nil
      go_simp
      refine HMK.out.mono ?_
      rintro e V ⟨rfl, hbV⟩
      have HBV := Lib.hid hbV
      have hSV := HKW.out V ((HFr.out.trans (Foot.ofBelow _ (Below.refl _ _).drew)).trans (Foot.ofBelow _ hbV))
      clear hbV HMK
      go_wp2_with fail
      refine hK.out _ _ hSV (fun hHeldV => ?_)
      clear hK K
      try simp only [Act.put, List.getElem_toArray, List.getElem_cons_zero, List.getElem_cons_succ, List.setIfInBounds_toArray, List.set_cons_zero, List.set_cons_succ]
      refine wpAnyH_ready (rs := [6]) (by kernel_rfl) (by simp) ?_
      refine AllReadyH.cons rfl (fun K hK => ?_) AllReadyH.nil
      go_simp
      refine ((HSE V).out HBV.out).mono ?_
      rintro e w6 ⟨i, t, q6, rfl, hp6, hT6, hq6, hf6⟩
      have HP6 := Lib.hid hp6
      have HT6 := Lib.hid hT6
      have HQ6 := Lib.hid hq6
      have HF6 := Lib.hid hf6
      have hS6 := HKW.out w6 hf6
      clear hp6 hT6 hq6 hf6 HSE
      go_wp2_with fail
      refine hK.out _ _ hS6 (fun hHeld6 => ?_)
      clear hK K
      try simp only [Act.put, List.getElem_toArray, List.getElem_cons_zero, List.getElem_cons_succ, List.setIfInBounds_toArray, List.set_cons_zero, List.set_cons_succ]
      refine wpAnyH_take (i := 7) (v := ?_) rfl (by kernel_rfl) (by kernel_rfl) (by kernel_rfl) (fun _ _ _ h => h) (Or.inl ⟨by rfl, ?_⟩) (by assumption) ?_
      rotate_left
      · (intro w hSw; go_simp; try (with_reducible rfl))
      try simp only [Act.put, List.getElem_toArray, List.getElem_cons_zero, List.getElem_cons_succ, List.setIfInBounds_toArray, List.set_cons_zero, List.set_cons_succ]
      refine wpAnyH_take (i := 8) (v := ?_) rfl (by kernel_rfl) (by kernel_rfl) (by kernel_rfl) (fun _ _ _ h => h) (Or.inl ⟨by rfl, ?_⟩) (by assumption) ?_
      rotate_left
      · (intro w hSw; go_simp; try (with_reducible rfl))
      try simp only [Act.put, List.getElem_toArray, List.getElem_cons_zero, List.getElem_cons_succ, List.setIfInBounds_toArray, List.set_cons_zero, List.set_cons_succ]
      refine wpAnyH_take (i := 9) (v := ?_) rfl (by kernel_rfl) (by kernel_rfl) (by kernel_rfl) (fun _ _ _ h => h) (Or.inl ⟨by rfl, ?_⟩) (by assumption) ?_
      rotate_left
      · (intro w hSw; go_simp; try (with_reducible rfl))
      try simp only [Act.put, List.getElem_toArray, List.getElem_cons_zero, List.getElem_cons_succ, List.setIfInBounds_toArray, List.set_cons_zero, List.set_cons_succ]
      refine wpAnyH_take (i := 10) (v := ?_) rfl (by kernel_rfl) (by kernel_rfl) (by kernel_rfl) (fun _ _ _ h => h) (Or.inl ⟨by rfl, ?_⟩) (by assumption) ?_
      rotate_left
      · (intro w hSw; go_simp; try (with_reducible rfl))
      try simp only [Act.put, List.getElem_toArray, List.getElem_cons_zero, List.getElem_cons_succ, List.setIfInBounds_toArray, List.set_cons_zero, List.set_cons_succ]
      refine wpAnyH_take (i := 11) (v := ?_) rfl (by kernel_rfl) (by kernel_rfl) (by kernel_rfl) (fun _ _ _ h => h) (Or.inl ⟨by rfl, ?_⟩) (by assumption) ?_
      rotate_left
      · (intro w hSw; go_simp; try (with_reducible rfl))
      try simp only [Act.put, List.getElem_toArray, List.getElem_cons_zero, List.getElem_cons_succ, List.setIfInBounds_toArray, List.set_cons_zero, List.set_cons_succ]
      refine wpAnyH_done (by kernel_rfl) ?_ _
      refine NoPanic.normal ?_
      cases t with
      | false =>
        obtain ⟨him, hlk⟩ := looked_no HG.out HSO.out H16.out HLK.out hcN HP6.out
        have HLK2 := Lib.hid hlk
        have hic : (i : Int) ≤ (cap : Int) := by omega
        have hw1 : IntKind.i64.wrap ((c : Int) - 1) = (c : Int) - 1 := by rw [IntKind.wrap_i64]; omega
        clear hlk HP6 HLK HINV HY
        go_wp2_with fail
        go_roundw
        case rel => exact ⟨i, c, q6, rfl, rfl, by omega, by omega, HLK2, HT6, HQ6, HF6⟩
        case measure => simp [intOf]
      | true =>
        obtain ⟨hil, him, hfd⟩ := looked_yes HG.out HSO.out H16.out HLK.out hcN HP6.out
        have HFI := Lib.hid (HINV.out w6 q6 HT6.out (by have h1 := HQ6.out; have h2 : (bitsN f + 1 - c) * (bl es.length + 1) ≤ 129 * (bl es.length + 1) := Nat.mul_le_mul_right _ (by omega); omega) HF6.out)
        have HYY := Lib.hid (HY.out es[i] w6 hfd HFI.out HF6.out)
        have HFD : Hid (∃ x, findE es f us = some x ∧ x = es[i]) := Lib.hid ⟨_, hfd, rfl⟩
        have HRI : Hid (w6.rangeAt g (i * 19) (entL es[i].f es[i].b (es[i].n : Int) es[i].v)) := Lib.hid (by
          have hRV : RowT w6 0 (.slice (some ⟨g, 0, none⟩) es.length cap) es := HR0.out.foot HF6.out (fun k hk => by cases hk; simp; omega)
          rcases hRV.form with ⟨e, _⟩ | ⟨g', cap', e, _, hgl, _, _, hrg⟩
          · cases e
          · cases e; exact range_ent hrg HG.out i hil)
        have HL16 : Hid (es[i].b.length = 16) := Lib.hid (HG.out _ (List.getElem_mem hil)).1.len
        have HENC : Hid (encE es[i] = entV es[i].f es[i].b (es[i].n : Int) es[i].v) := Lib.hid rfl
        rw [HENC.out] at HYY
        obtain ⟨y, hy⟩ : ∃ y, es[i] = y := ⟨_, rfl⟩
        rw [hy] at HYY HRI HL16 HFD
        clear hy hfd HLK HP6 HINV HY HENC
        have hb1 : (0 : Int) ≤ (i : Int) := by omega
        have hb2 : (i : Int) < (m : Int) := by omega
        go_upto_region 5 with fail
        refine wp_of_listIn ?_
        refine wide_step (v := .bool true) rfl rfl ?_
        simp only [Act.put, List.setIfInBounds_toArray, List.set_cons_zero, List.set_cons_succ]
        refine wide_step (v := .bool true) rfl rfl ?_
        simp only [Act.put, List.setIfInBounds_toArray, List.set_cons_zero, List.set_cons_succ]
        refine wide_step (v := .func (.yield l) #[] #[]) rfl rfl ?_
        simp only [Act.put, List.setIfInBounds_toArray, List.set_cons_zero, List.set_cons_succ]
        refine wide_step (v := .slice (some ⟨g, 0, none⟩) m cap) rfl rfl ?_
        simp only [Act.put, List.setIfInBounds_toArray, List.set_cons_zero, List.set_cons_succ]
        refine wide_step (v := .int .i64 (i : Int)) rfl rfl ?_
        simp only [Act.put, List.setIfInBounds_toArray, List.set_cons_zero, List.set_cons_succ]
        refine wide_step (v := .pointer (some ⟨g, i * 19, none⟩)) rfl (exec_indexT _ _ rfl rfl rfl him) ?_
        simp only [Act.put, List.setIfInBounds_toArray, List.set_cons_zero, List.set_cons_succ]
        refine wide_step (v := entV y.f y.b (y.n : Int) y.v) rfl (exec_entT HL16.out HRI.out _ rfl rfl) ?_
        simp only [Act.put, List.setIfInBounds_toArray, List.set_cons_zero, List.set_cons_succ]
        refine yield_step HYY.out rfl _ _ rfl rfl rfl ?_
        rintro e w7 ⟨rfl, hj7⟩
        refine ⟨_, rfl, ?_⟩
        have HJ7 := Lib.hid hj7
        clear hj7 HYY
        simp only [Act.put, List.setIfInBounds_toArray, List.set_cons_zero, List.set_cons_succ]
        refine wide_step (v := .bool true) rfl rfl ?_
        simp only [Act.put, List.setIfInBounds_toArray, List.set_cons_zero, List.set_cons_succ]
        refine wide_step (v := .bool true) rfl rfl ?_
        simp only [Act.put, List.setIfInBounds_toArray, List.set_cons_zero, List.set_cons_succ]
        refine wpListIn_nil ?_
        go_wp2_with fail
        refine bodyPost_ret (results_none rfl _ _ _) rfl ?_
        obtain ⟨x, hx, _⟩ := HFD.out
        exact ⟨⟨_, rfl⟩, .inr ⟨x, hx, HJ7.out⟩⟩
end Go.Proofs.YtgbajagacmfcmaaGreatDoor
/- Contracts of slices.Clone and Table.All. -/
namespace Go.Proofs.YtgbajagacmfcmaaGreatDoor
open Go.RowKit
set_option linter.unusedVariables false
set_option maxRecDepth 20000

theorem run_build0 (w : World) : (Instr.buildSlice 33 0 #[]).run Tryz.prog w = .ok (.slice (some ⟨w.heap.size, 0, none⟩) 0 0) (w.alloc (.cells #[] 47)) := by
  have hu : (underlying 33).run Tryz.prog w = .ok _ w := run_underlying Tryz.underlying33 w
  have hnr : ∀ cs : Array Value, (newRow 47 cs).run Tryz.prog w = .ok ⟨w.heap.size, 0, none⟩ (w.alloc (.cells cs 47)) := fun cs => by simp [newRow]
  unfold Instr.buildSlice
  simp [Sem.run_bind, hu, hnr, Instr.fill]
  rw [show Array.map (fun _ => (default : Value)) (Array.range 0) = #[] from Array.eq_empty_of_size_eq_zero (by simp)]
theorem build_step0 {ops : Array Oper} {rest : List Oper} {op : Oper} {a : Act} {w : World} {Q : Exit → Act → World → Prop} (hg : op.guard = none) (ho : op.op = .buildSlice 33 0 #[])
    (h : ∀ W, Hid (W = w.alloc (.cells #[] 47)) → wpList Tryz.prog ops Q rest (a.put op.dst (.slice (some ⟨w.heap.size, 0, none⟩) 0 0)) W) : wpList Tryz.prog ops Q (op :: rest) a w := by
  refine wpList_plain hg fun K hK => ?_
  unfold Oper.wp execOp
  simp only [ho, List.map_toArray, List.map_nil, Sem.run_bind, run_build0 w, Result.andThen_ok]
  exact hK _ _ (h _ (Lib.hid rfl))
theorem rowT_empty (w : World) : RowT (w.alloc (.cells #[] 47)) w.heap.size (.slice (some ⟨w.heap.size, 0, none⟩) 0 0) [] :=
  ⟨⟨rfl, .inr ⟨w.heap.size, 0, #[], rfl, Nat.le_refl _, by show (w.heap.push _)[w.heap.size]? = _; simp, Nat.le_refl _, Nat.zero_le _, rfl, rfl⟩⟩, (fun e he => by cases he), by decide⟩
end Go.Proofs.YtgbajagacmfcmaaGreatDoor
/- Contract of abatislaw06.like, over the landed table. -/
namespace Go.Proofs.YtgbajagacmfcmaaGreatDoor
open Go.RowKit
set_option linter.unusedVariables false
set_option maxRecDepth 20000

theorem func_equal (w : World) (d k : Nat) (c : Array Value) : (Op.equalIn (d + 1) 72 (.func (.func k) #[] c) .nilFunc).run Tryz.prog w = .ok false w := by
  simp [Op.equalIn, run_underlying Tryz.underlying72]
theorem func_not_nil (w : World) (k : Nat) (c : Array Value) : (binOp .eql 72 (.func (.func k) #[] c) .nilFunc).run Tryz.prog w = .ok (.bool false) w := by
  have := func_equal w 9999 k c
  simp only [binOp, Op.equal, Sem.run_bind]
  rw [show Op.maxDepth = 9999 + 1 from rfl, this]
  rfl
theorem cell1_set {w : World} {b : Nat} {u : Value} {t : TypeId} (h : w.heap[b]? = some (.cells #[u] t)) (x : Value) : (w.setCell ⟨b, 0, none⟩ x).heap[b]? = some (.cells #[x] t) := by
  obtain ⟨hlt, hk⟩ := Array.getElem?_eq_some_iff.1 h
  show (w.heap.modify b _)[b]? = _
  rw [Array.getElem?_eq_getElem (by rw [Array.size_modify]; exact hlt), Array.getElem_modify_self, hk]
  rfl
/-- A result that lies in a cell of bool. -/
theorem results_bool {fn : Func} {t : Tmp} {tmps : Array Value} {W : World} {R : Nat} {b : Bool} (h : fn.results = #[.cell t 4]) (ht : tmps.getD t undef = .pointer (some ⟨R, 0, none⟩)) (hc : W.cell? ⟨R, 0, none⟩ = some (.bool b)) : (results fn tmps).run Tryz.prog W = .ok (.bool b) W := by
  have hl : (loadVar 4 ⟨R, 0, none⟩).run Tryz.prog W = .ok (.bool b) W := by
    simp [go_sem, hc]
  rw [Array.getD_eq_getD_getElem?] at ht
  simp [results, h, ht, asAddr, hl]
end Go.Proofs.YtgbajagacmfcmaaGreatDoor
/- Contract of Table.Find. -/
namespace Go.Proofs.YtgbajagacmfcmaaGreatDoor
open Go.RowKit
set_option linter.unusedVariables false
set_option maxRecDepth 20000

set_option maxRecDepth 100000 in
set_option maxHeartbeats 2000000 in
theorem having1_nil (G Bt Ba : Nat) (st : Int) (f : Int) (us : List Nat) (w : World) (hT : Tab w G (.slice none 0 0) st)
    (hBt : w.cell? ⟨Bt, 0, none⟩ = some (.pointer (some ⟨G, 0, none⟩))) (hBa : AddrAt w Ba f us) (hlt : ∀ y ∈ us, y < 256) :
    TellsOne Tryz.prog 50 #[.pointer (some ⟨Bt, 0, none⟩), .pointer (some ⟨Ba, 0, none⟩)] (findE [] f us) encE G (FindInv G [] st [G]) w := by
  intro l Jx W hb hY
  have hBtl : Bt < w.heap.size := World.block_lt_of_cell? w ⟨Bt, 0, none⟩ hBt
  have H16 := Lib.hid hBa.len
  have HLT := Lib.hid hlt
  have HT0 := Lib.hid (hT.below hb)
  have HA0 := Lib.hid (hBa.below hb)
  have hbt : W.cell? ⟨Bt, 0, none⟩ = some (.pointer (some ⟨G, 0, none⟩)) := (hb.cell (p := ⟨Bt, 0, none⟩) hBtl).trans hBt
  have HBT := Lib.hid hbt
  have HBTL : Hid (Bt < W.heap.size) := Lib.hid (Nat.lt_of_lt_of_le hBtl hb.size)
  have hrow := HT0.out.row
  have HBI := fun W => Lib.hid (addrBits_any f us W hBa.len)
  have HNB := bitsN_le f
  clear hT hBt hBa hlt hb hY hBtl
  refine callsIn_of_wp Tryz.func50 rfl trivial (wpIn_wide.2 ?_)
  simp only [Tryz.ntmps50, List.size_toArray, List.length_cons, List.length_nil, Nat.reduceAdd, Nat.reduceSub, Array.replicate_succ, Array.replicate_zero, List.push_toArray, List.append_toArray, List.nil_append, List.cons_append]
  go_wp2_with (refine load_addr_g HA0 _ rfl rfl rfl ?_)
  refine (HBI _).out.mono ?_
  rintro e w1 ⟨rfl, hb1⟩
  have HB1 := Lib.hid hb1
  clear hb1 hrow hbt HBI
  go_wp2_with fail
  go_loopw [4, 5] (fun s4 s5 wr => ∃ (b : Nat), s4 = .slice none 0 0 ∧ s5 = .int .i64 ((b : Int) - 1) ∧ b ≤ bitsN f + 1 ∧ Hid (Below W.heap.size W wr)) (fun _ s5 _ => (intOf s5 + 1).toNat)
  case atStart => exact ⟨bitsN f + 1, rfl, by rw [show ((bitsN f + 1 : Nat) : Int) - 1 = ((bitsN f : Nat) : Int) by omega], Nat.le_refl _, HB1⟩
  case round =>
    clear HB1
    obtain ⟨b, rfl, rfl, hbn, HBr⟩ := hrel
    by_cases hb0 : b = 0
    · subst hb0
      have hd : decide ((0 : Int) ≤ ((0 : Nat) : Int) - 1) = false := by decide
      go_wp2_with fail
      go_end0
      exact ⟨⟨_, rfl⟩, .inl ⟨rfl, ⟨st, ⟨_, rfl, HT0.out.below HBr.out, RowT.nil _ _, sorted_nil, (fun g hg => by cases hg)⟩, by omega, by omega⟩, Foot.ofBelow _ HBr.out⟩⟩
    · obtain ⟨c, rfl⟩ : ∃ c, b = c + 1 := ⟨b - 1, by omega⟩
      rw [show ((c + 1 : Nat) : Int) - 1 = ((c : Nat) : Int) by omega]
      have hd : decide ((0 : Int) ≤ (c : Int)) = true := by simp
      have hmask : maskN f (c : Int) = c := by unfold maskN; simp; omega
      have HMK : Hid (Calls Tryz.prog 53 #[addrV f us, .int .i64 (c : Int)] wr.drew fun e w' => e = .returned (prefV f (withL (bitsN f) us c 0) (c : Int)) ∧ Below wr.drew.heap.size wr.drew w') := Lib.hid (by
        have := cidrMask_any f us (c : Int) wr.drew H16.out HLT.out (wf_small (by omega))
        rw [hmask] at this
        exact this)
      have HSE := fun V => Lib.hid (search_nil (.func (.func 54) #[.pointer (some ⟨G, 0, none⟩)] #[]) f (withL (bitsN f) us c 0) (c : Int) V (withL_len _ _ _ _))
      go_upto_region 4 with fail
      obtain ⟨L, hL⟩ : ∃ L, [(Bt, 0, [Value.pointer (some ⟨G, 0, none⟩)]), (Ba, 0, addrL f us)] = L := ⟨_, rfl⟩
      have HKW : Hid (∀ V, Below W.heap.size W V → HeldL L V) := Lib.hid (fun V hf => by
        rw [← hL]; intro x hx
        simp only [List.mem_cons, List.not_mem_nil, or_false] at hx
        rcases hx with rfl | rfl
        · refine range_belowB (fun j u hu => ?_) hf HBTL.out
          cases j with
          | zero => rw [Nat.add_zero, HBT.out]; exact hu
          | succ j => simp at hu
        · exact range_belowB HA0.out.range hf HA0.out.lt)
      have HKD := Lib.hid (HKW.out wr.drew HBr.out.drew)
      have MA : Hid (InL L Ba 0 (addrL f us)) := Lib.hid (fun W h => h.get (by rw [← hL]; simp))
      have CP : Hid (∀ w', HeldL L w' → w'.cell? ⟨Bt, 0, none⟩ = some (.pointer (some ⟨G, 0, none⟩))) := Lib.hid (fun w' h => h.get (b := Bt) (o := 0) (cs := [Value.pointer (some ⟨G, 0, none⟩)]) (by rw [← hL]; simp) 0 _ rfl)
      clear hL hmask
      refine wp_region_noPanic ?_
      refine wp_region_held_drew (S := HeldL L) (by kernel_rfl) HKD.out (fun hHeld => ?_)
      refine wpAnyH_take (i := 0) (v := ?_) rfl (by kernel_rfl) (by kernel_rfl) (by kernel_rfl) (fun _ _ _ h => h) (Or.inl ⟨by rfl, ?_⟩) (by assumption) ?_
      rotate_left
      · (intro w hSw; go_simp; try (with_reducible rfl))
      try simp only [Act.put, List.getElem_toArray, List.getElem_cons_zero, List.setIfInBounds_toArray, List.set_cons_zero, List.set_cons_succ]
      refine wpAnyH_take (i := 1) rfl (by kernel_rfl) (by kernel_rfl) (by kernel_rfl) (fun _ _ _ h => h) (yields_addr_l H16 MA (by rfl) _ rfl rfl) (by assumption) ?_
      try simp only [Act.put, List.getElem_toArray, List.getElem_cons_zero, List.getElem_cons_succ, List.setIfInBounds_toArray, List.set_cons_zero, List.set_cons_succ]
      refine wpAnyH_take (i := 2) (v := ?_) rfl (by kernel_rfl) (by kernel_rfl) (by kernel_rfl) (fun _ _ _ h => h) (Or.inl ⟨by rfl, ?_⟩) (by assumption) ?_
      rotate_left
      · (intro w hSw; go_simp; try (with_reducible rfl))
      try simp only [Act.put, List.getElem_toArray, List.getElem_cons_zero, List.getElem_cons_succ, List.setIfInBounds_toArray, List.set_cons_zero, List.set_cons_succ]
      refine wpAnyH_take (i := 4) (v := ?_) rfl (by kernel_rfl) (by kernel_rfl) (by kernel_rfl) (fun _ _ _ h => h) (Or.inl ⟨by rfl, ?_⟩) (by assumption) ?_
      rotate_left
      · (intro w hSw; have hc0 := CP.out w hSw; go_simp; try (with_reducible rfl))
      try simp only [Act.put, List.getElem_toArray, List.getElem_cons_zero, List.getElem_cons_succ, List.setIfInBounds_toArray, List.set_cons_zero, List.set_cons_succ]
      refine wpAnyH_take (i := 5) (v := ?_) rfl (by kernel_rfl) (by kernel_rfl) (by kernel_rfl) (fun _ _ _ h => h) (Or.inl ⟨by rfl, ?_⟩) (by assumption) ?_
      rotate_left
      · (intro w hSw; go_simp; try (with_reducible rfl))
      try simp only [Act.put, List.getElem_toArray, List.getElem_cons_zero, List.getElem_cons_succ, List.setIfInBounds_toArray, List.set_cons_zero, List.set_cons_succ]
      refine wpAnyH_ready (rs := [3]) (by kernel_rfl) (by simp) ?_
      refine AllReadyH.cons rfl (fun K hK => ?_) AllReadyH.nil
      go_simp
      refine HMK.out.mono ?_
      rintro e V ⟨rfl, hbV⟩
      have HBV := Lib.hid (HBr.out.drew.trans (hbV.mono HBr.out.size))
      have hSV := HKW.out V HBV.out
      clear hbV HMK
      go_wp2_with fail
      refine hK.out _ _ hSV (fun hHeldV => ?_)
      clear hK K
      try simp only [Act.put, List.getElem_toArray, List.getElem_cons_zero, List.getElem_cons_succ, List.setIfInBounds_toArray, List.set_cons_zero, List.set_cons_succ]
      refine wpAnyH_ready (rs := [6]) (by kernel_rfl) (by simp) ?_
      refine AllReadyH.cons rfl (fun K hK => ?_) AllReadyH.nil
      go_simp
      refine (HSE V).out.mono ?_
      rintro e w6 ⟨rfl, hb6⟩
      have HB6 := Lib.hid (HBV.out.trans (hb6.mono HBV.out.size))
      have hS6 := HKW.out w6 HB6.out
      clear hb6 HSE
      go_wp2_with fail
      refine hK.out _ _ hS6 (fun hHeld6 => ?_)
      clear hK K
      try simp only [Act.put, List.getElem_toArray, List.getElem_cons_zero, List.getElem_cons_succ, List.setIfInBounds_toArray, List.set_cons_zero, List.set_cons_succ]
      refine wpAnyH_take (i := 7) (v := ?_) rfl (by kernel_rfl) (by kernel_rfl) (by kernel_rfl) (fun _ _ _ h => h) (Or.inl ⟨by rfl, ?_⟩) (by assumption) ?_
      rotate_left
      · (intro w hSw; go_simp; try (with_reducible rfl))
      try simp only [Act.put, List.getElem_toArray, List.getElem_cons_zero, List.getElem_cons_succ, List.setIfInBounds_toArray, List.set_cons_zero, List.set_cons_succ]
      refine wpAnyH_take (i := 8) (v := ?_) rfl (by kernel_rfl) (by kernel_rfl) (by kernel_rfl) (fun _ _ _ h => h) (Or.inl ⟨by rfl, ?_⟩) (by assumption) ?_
      rotate_left
      · (intro w hSw; go_simp; try (with_reducible rfl))
      try simp only [Act.put, List.getElem_toArray, List.getElem_cons_zero, List.getElem_cons_succ, List.setIfInBounds_toArray, List.set_cons_zero, List.set_cons_succ]
      refine wpAnyH_take (i := 9) (v := ?_) rfl (by kernel_rfl) (by kernel_rfl) (by kernel_rfl) (fun _ _ _ h => h) (Or.inl ⟨by rfl, ?_⟩) (by assumption) ?_
      rotate_left
      · (intro w hSw; go_simp; try (with_reducible rfl))
      try simp only [Act.put, List.getElem_toArray, List.getElem_cons_zero, List.getElem_cons_succ, List.setIfInBounds_toArray, List.set_cons_zero, List.set_cons_succ]
      refine wpAnyH_take (i := 10) (v := ?_) rfl (by kernel_rfl) (by kernel_rfl) (by kernel_rfl) (fun _ _ _ h => h) (Or.inl ⟨by rfl, ?_⟩) (by assumption) ?_
      rotate_left
      · (intro w hSw; go_simp; try (with_reducible rfl))
      try simp only [Act.put, List.getElem_toArray, List.getElem_cons_zero, List.getElem_cons_succ, List.setIfInBounds_toArray, List.set_cons_zero, List.set_cons_succ]
      refine wpAnyH_take (i := 11) (v := ?_) rfl (by kernel_rfl) (by kernel_rfl) (by kernel_rfl) (fun _ _ _ h => h) (Or.inl ⟨by rfl, ?_⟩) (by assumption) ?_
      rotate_left
      · (intro w hSw; go_simp; try (with_reducible rfl))
      try simp only [Act.put, List.getElem_toArray, List.getElem_cons_zero, List.getElem_cons_succ, List.setIfInBounds_toArray, List.set_cons_zero, List.set_cons_succ]
      refine wpAnyH_done (by kernel_rfl) ?_ _
      refine NoPanic.normal ?_
      have hw1 : IntKind.i64.wrap ((c : Int) - 1) = (c : Int) - 1 := by rw [IntKind.wrap_i64]; omega
      go_wp2_with fail
      go_roundw
      case rel => exact ⟨c, rfl, rfl, by omega, HB6⟩
      case measure => simp [intOf]
set_option maxRecDepth 100000 in
theorem having_any (G : Nat) (f : Int) (us : List Nat) (w : World) (h16 : us.length = 16) :
    Calls Tryz.prog 29 #[.pointer (some ⟨G, 0, none⟩), addrV f us] w fun e w' => e = .returned (.func (.func 50) #[] #[.pointer (some ⟨w.heap.size, 0, none⟩), .pointer (some ⟨w.heap.size + 1, 0, none⟩)]) ∧ w'.cell? ⟨w.heap.size, 0, none⟩ = some (.pointer (some ⟨G, 0, none⟩)) ∧ AddrAt w' (w.heap.size + 1) f us ∧ Below w.heap.size w w' := by
  obtain ⟨W0, hW0⟩ : ∃ W0, w.alloc (.cells #[Value.pointer (some ⟨G, 0, none⟩)] 61) = W0 := ⟨_, rfl⟩
  have hs : W0.heap.size = w.heap.size + 1 := by rw [← hW0]; simp
  obtain ⟨cs, ecs, HA, HB⟩ := addr_boxed f us W0 h16
  have HC : Hid (W0.cell? ⟨w.heap.size, 0, none⟩ = some (.pointer (some ⟨G, 0, none⟩))) := Lib.hid (by rw [← hW0, World.cell?_alloc_new]; rfl)
  have HB0 : Hid (Below w.heap.size w W0) := Lib.hid (by rw [← hW0]; exact (Below.refl _ _).alloc (Nat.le_refl _) _)
  have HC1 : Hid ((W0.alloc (.cells cs 24)).cell? ⟨w.heap.size, 0, none⟩ = some (.pointer (some ⟨G, 0, none⟩))) := Lib.hid ((HB.out.cell (p := ⟨w.heap.size, 0, none⟩) (by rw [hs]; exact Nat.lt_succ_self _)).trans HC.out)
  rw [hs] at HA
  have HB1 := Lib.hid (chain HB0.out HB.out)
  rw [← hW0] at HA HC1 HB1
  rw [ecs]
  clear hW0 hs HB HC HB0 ecs
  go_enter Tryz.func29, Tryz.ntmps29
  go_wp2_with fail
  go_ret
  exact ⟨rfl, HC1.out, HA.out, HB1.out⟩
theorem having_tells {w : World} {G Bt Ba : Nat} {es : List Ent} {st : Int} {F : List Nat} {f : Int} {us : List Nat} (hA : TabAt w G es st F) (hBt : w.cell? ⟨Bt, 0, none⟩ = some (.pointer (some ⟨G, 0, none⟩))) (hBa : AddrAt w Ba f us) (hlt : ∀ y ∈ us, y < 256) (htG : Bt ≠ G) (haG : Ba ≠ G) (h0 : 0 ≤ st) (h1 : st ≤ 800000) :
    TellsOne Tryz.prog 50 #[.pointer (some ⟨Bt, 0, none⟩), .pointer (some ⟨Ba, 0, none⟩)] (findE es f us) encE G (FindInv G es st F) w := by
  obtain ⟨v, rfl, hT, hR, hs, hN⟩ := hA
  rcases hR.form with ⟨rfl, rfl⟩ | ⟨g, cap, rfl, _⟩
  · exact having1_nil G Bt Ba st f us w hT hBt hBa hlt
  · exact having1_some G Bt Ba g cap es st f us w hT hR hs (hN g rfl) hBt hBa hlt htG haG h0 h1
end Go.Proofs.YtgbajagacmfcmaaGreatDoor
/- Contract of Table.Find. -/
namespace Go.Proofs.YtgbajagacmfcmaaGreatDoor
open Go.RowKit
set_option linter.unusedVariables false
set_option maxRecDepth 20000

theorem results_entB {fn : Func} {a b : Tmp} {tmps : Array Value} {W : World} {R Rb : Nat} {f : Int} {bs : List Nat} {n v : Int} {t : Bool} (h : fn.results = #[.cell a 47, .cell b 4]) (ha : tmps.getD a undef = .pointer (some ⟨R, 0, none⟩)) (hb : tmps.getD b undef = .pointer (some ⟨Rb, 0, none⟩)) (hA : EntAt W R f bs n v) (hc : W.cell? ⟨Rb, 0, none⟩ = some (.bool t)) : (results fn tmps).run Tryz.prog W = .ok (.tuple #[entV f bs n v, .bool t]) W := by
  have hl : (loadVar 4 ⟨Rb, 0, none⟩).run Tryz.prog W = .ok (.bool t) W := by
    simp [go_sem, hc]
  rw [Array.getD_eq_getD_getElem?] at ha hb
  simp [results, h, ha, hb, asAddr, loadVar_entT hA, hl]
theorem EntAt.same {w w' : World} {G : Nat} {f : Int} {bs : List Nat} {n v : Int} (h : EntAt w G f bs n v) (hs : w.heap.size ≤ w'.heap.size) (hk : w'.heap[G]? = w.heap[G]?) : EntAt w' G f bs n v :=
  ⟨h.len, Nat.lt_of_lt_of_le h.lt hs, fun j u hu => by rw [World.cell?_of_block (w := w) (a := ⟨G, 0 + j, none⟩) hk]; exact h.range j u hu, fun j hj => by
    rw [World.cell?_of_block (w := w) (a := ⟨G, 0 + j, none⟩) hk, World.frozen?_of_block (w := w) (a := ⟨G, 0 + j, none⟩) hk]; exact h.there j hj⟩
/-- What a Find leaves. -/
def Found (G : Nat) (es : List Ent) (st : Int) (F : List Nat) (o : Option Ent) (w : World) (e : Ending) (w' : World) : Prop :=
  e = .returned (entRet o) ∧ FindInv G es st F w' ∧ Foot [G] [G] w w'
set_option maxRecDepth 100000 in
set_option maxHeartbeats 2000000 in
theorem find_any (G : Nat) (es : List Ent) (st : Int) (F : List Nat) (f : Int) (us : List Nat) (w : World) (hA : TabAt w G es st F) (h16 : us.length = 16) (hlt : ∀ y ∈ us, y < 256) (h0 : 0 ≤ st) (h1 : st ≤ 800000) :
    Calls Tryz.prog 17 #[.pointer (some ⟨G, 0, none⟩), addrV f us] w (Found G es st F (findE es f us) w) := by
  have HA := Lib.hid hA
  have hGl := (hA.lt).2 G hA.lt.1
  have HFL := Lib.hid hA.lt.2
  have H16 := Lib.hid h16
  have HLT := Lib.hid hlt
  obtain ⟨cs, ecs, HB, HBB⟩ := addr_boxed f us w h16
  rw [ecs]
  clear ecs hA h16 hlt
  refine (callsIn_wide (n := 0)).1 (callsIn_of_wp_marks Tryz.func17 rfl trivial (wpIn_wide.2 ?_) rfl)
  simp only [Tryz.ntmps17, List.size_toArray, List.length_cons, List.length_nil, Nat.reduceAdd, Nat.reduceSub, Array.replicate_succ, Array.replicate_zero, List.push_toArray, List.append_toArray, List.nil_append, List.cons_append]
  go_upto_region 1 with fail
  obtain ⟨W0, hW0⟩ : ∃ W0, ((w.alloc (.cells cs 24)).alloc (.cells zE 47)).alloc (.cells #[Value.bool false] 4) = W0 := ⟨_, rfl⟩
  have HZ0 : Hid (W0.heap.size = w.heap.size + 3) := Lib.hid (by rw [← hW0]; simp)
  have HC0 : Hid (W0.heap[w.heap.size + 2]? = some (.cells #[Value.bool false] 4)) := Lib.hid (by rw [← hW0]; have := World.alloc_heap_new ((w.alloc (.cells cs 24)).alloc (.cells zE 47)) (.cells #[Value.bool false] 4); rwa [World.size_alloc, World.size_alloc] at this)
  have HE0 : Hid (EntAt W0 (w.heap.size + 1) 0 (List.replicate 16 0) 0 0) := Lib.hid (by
    have := (entT_zeroed (w.alloc (.cells cs 24))).alloc (.cells #[Value.bool false] 4)
    rw [World.size_alloc, hW0] at this
    exact this)
  have HA0 : Hid (AddrAt W0 w.heap.size f us) := Lib.hid (by rw [← hW0]; exact (HB.out.alloc _).alloc _)
  have HB0 : Hid (Below w.heap.size w W0) := Lib.hid (by rw [← hW0]; exact (HBB.out.alloc HBB.out.size _).alloc (by rw [World.size_alloc, World.size_alloc]; omega) _)
  rw [hW0]
  clear hW0 HB HBB
  have HHV := Lib.hid (having_any G f us W0 H16.out)
  go_wp2_with (refine load_addr_g HA0 _ rfl rfl rfl ?_)
  refine HHV.out.mono ?_
  rintro e w1 ⟨rfl, hbt, hba, hb1⟩
  have HB1 := Lib.hid (chain HB0.out hb1)
  have HS1 : Hid (w.heap.size + 3 ≤ w1.heap.size) := Lib.hid (by have := hb1.size; rw [HZ0.out] at this; exact this)
  have HT1 := Lib.hid (having_tells (HA.out.below HB1.out) hbt hba HLT.out (by rw [HZ0.out]; omega) (by rw [HZ0.out]; omega) h0 h1)
  have HE1 := Lib.hid (HE0.out.below hb1)
  have HC1 : Hid (w1.heap[w.heap.size + 2]? = some (.cells #[Value.bool false] 4)) := Lib.hid ((hb1.block _ (by rw [HZ0.out]; omega)).trans HC0.out)
  clear hbt hba hb1 HHV HE0 HC0 HA0 HB0
  have HIB : Hid (∀ A B, FindInv G es st F A → Below w1.heap.size A B → FindInv G es st F B) := Lib.hid (fun A B ⟨st', h1, h2, h3⟩ hb => ⟨st', h1.keep hb.size (fun k hk => hb.block k (by have := HFL.out k hk; have := HS1.out; omega)), h2, h3⟩)
  have HFB : Hid (∀ A B, Foot [G] [G] w A → Below w1.heap.size A B → Foot [G] [G] w B) := Lib.hid (fun A B h hb => ⟨hb.os.trans h.os, hb.tape.trans h.tape, hb.output.trans h.output, Nat.le_trans h.size hb.size, fun k hk hn => (hb.block k (by have := HS1.out; omega)).trans (h.keep k hk hn), h.new⟩)
  have FIN : ∀ (W' : World) (tm : Array Value) (f' : Int) (bs' : List Nat) (n' v' : Int) (t : Bool), Hid (tm.getD 4 undef = .pointer (some ⟨w.heap.size + 1, 0, none⟩) ∧ tm.getD 5 undef = .pointer (some ⟨w.heap.size + 1 + 1, 0, none⟩) → EntAt W' (w.heap.size + 1) f' bs' n' v' → W'.heap[w.heap.size + 2]? = some (.cells #[Value.bool t] 4) → W'.heap[w1.heap.size]? = some (.deferred (some [])) → FindInv G es st F W' → Foot [G] [G] w W' → Value.tuple #[entV f' bs' n' v', .bool t] = entRet (findE es f us) →
      bodyPostM Fence.wide 0 Tryz.prog Tryz.f17 (Found G es st F (findE es f us) w) .ret { tmps := tm, defers := [{ target := .collected w1.heap.size, args := #[] }] } W') := fun W' tm f' bs' n' v' t => Lib.hid (fun htm hE hC hD hI hF hr => by
    have hS := HS1.out
    refine ⟨by simp, .inl ⟨_, _, rfl, run_takeDeferred hD, ?_⟩⟩
    have hb : Below w1.heap.size W' (W'.putObj w1.heap.size (.deferred none)) := below_put _ (Nat.le_refl _)
    refine ⟨_, results_entB (R := w.heap.size + 1) (Rb := w.heap.size + 2) rfl htm.1 htm.2 (hE.same hb.size (hb.block _ (by omega))) ?_, by rw [hr], HIB.out _ _ hI hb, HFB.out _ _ hF hb⟩
    rw [hb.cell (p := ⟨w.heap.size + 2, 0, none⟩) (by show w.heap.size + 2 < _; omega), cell_of_row _ _ 0 _ _ _ hC]; rfl)
  go_wp2_with fail
  refine range_one (gf := 50) (lb := #[.pointer (some ⟨W0.heap.size, 0, none⟩), .pointer (some ⟨W0.heap.size + 1, 0, none⟩)]) rfl (enters_of Tryz.func50 (by kernel_rfl) rfl) (findE es f us) encE G (by have := HS1.out; omega) (FindInv G es st F) w1 HT1.out (Below.refl _ _) [w.heap.size + 1, w.heap.size + 2] (by have := HS1.out; simp; omega)
    (fun W => ∃ x, findE es f us = some x ∧ EntAt W (w.heap.size + 1) x.f x.b (x.n : Int) x.v ∧ W.heap[w.heap.size + 2]? = some (.cells #[Value.bool true] 4) ∧ FindInv G es st F W ∧ Foot [G] [G] w W)
    (fun A B ⟨x, h1, h2, h3, h4, h5⟩ hb => ⟨x, h1, h2.same hb.size (hb.block _ (by have := HS1.out; omega)), (hb.block _ (by have := HS1.out; omega)).trans h3, HIB.out A B h4 hb, HFB.out A B h5 hb⟩)
    HIB.out ?round ?done ?stop
  case round =>
    intro l x W hx hl hlW hinv hsame hos htp hout
    have HX := Lib.hid hx
    have HGX : Hid x.Good := Lib.hid (by
      obtain ⟨v, rfl, _, hR, _, _⟩ := HA.out
      exact hR.2.1 x ((findE_best es f us).2 x hx).1)
    have H16x := Lib.hid HGX.out.1.len
    rw [show encE x = entV x.f x.b (x.n : Int) x.v from rfl]
    have HZ := Lib.hid (entT_zeroed W)
    have HIV := Lib.hid hinv
    have HSM := Lib.hid hsame
    have HO := Lib.hid (And.intro hos (And.intro htp hout))
    have HLL := Lib.hid hl
    have HLW := Lib.hid hlW
    clear hx hinv hsame hos htp hout hl hlW
    refine round_region rfl (fun ⟨_, _, h⟩ => h) ?_
    simp only [List.setIfInBounds_toArray, List.set_cons_succ, List.set_cons_zero]
    go_wp2_with (refine store_entT HZ _ _ H16x rfl rfl rfl rfl (fun W3 HW3 HE3 => ?_))
    refine ⟨below_newT HW3, fun w₂ hf2 => ?_⟩
    have HB3 := Lib.hid (below_newT HW3)
    have HX2 : Hid (w₂.rangeAt W.heap.size 0 (entL x.f x.b (x.n : Int) x.v)) := Lib.hid (range_foot hf2 HE3.out.range HE3.out.lt (by have := HLW.out; simp; omega))
    have HWW : Hid (W.heap.size < w₂.heap.size) := Lib.hid (Nat.lt_of_lt_of_le HE3.out.lt hf2.size)
    have HWS : Hid (w1.heap.size < W.heap.size) := Lib.hid (by have := HLL.out; have := HLW.out; omega)
    have HK2 : Hid (∀ j, j < w1.heap.size → j ≠ G → w₂.heap[j]? = w1.heap[j]?) := Lib.hid (fun j hj hn => by
      have h1 := HLL.out
      have h2 := HWS.out
      exact ((hf2.keep j (by have := HB3.out.size; omega) (by simp; omega)).trans (HB3.out.block j (by omega))).trans (HSM.out j hj hn))
    have HBL : Hid (Below w1.heap.size W w₂) := Lib.hid ((HB3.out.mono (by have := HWS.out; omega)).trans (hf2.below (by have := HLL.out; simp; omega) (by have := HWS.out; have := HB3.out.size; omega)))
    have HI2 := Lib.hid (HIB.out W w₂ HIV.out HBL.out)
    have HO2 : Hid (w₂.os = w.os ∧ w₂.tape = w.tape ∧ w₂.output = w.output) := Lib.hid ⟨HBL.out.os.trans (HO.out.1.trans HB1.out.os), HBL.out.tape.trans (HO.out.2.1.trans HB1.out.tape), HBL.out.output.trans (HO.out.2.2.trans HB1.out.output)⟩
    have HE2 := Lib.hid (HE1.out.same (w' := w₂) (by have := HWS.out; have := HWW.out; omega) (HK2.out _ (by have := HS1.out; omega) (by omega)))
    have HC2 : Hid (w₂.heap[w.heap.size + 2]? = some (.cells #[Value.bool false] 4)) := Lib.hid ((HK2.out _ (by have := HS1.out; omega) (by omega)).trans HC1.out)
    have HFW : Hid (Foot [G] [G] w w₂) := Lib.hid ⟨HO2.out.1, HO2.out.2.1, HO2.out.2.2, by have := HB1.out.size; have := HWS.out; have := HWW.out; omega, fun k hk hn => (HK2.out k (by have := HB1.out.size; omega) (by simpa using hn)).trans (HB1.out.block k hk), fun k hk => .inl hk⟩
    clear HZ HW3 HE3 hf2 HB3 HIV HSM HO HBL
    have L16 : Hid ((List.replicate 16 0 : List Nat).length = 16) := Lib.hid rfl
    have HFIN : Hid (∀ V, V = w₂.setCells (w.heap.size + 1) 0 (entL x.f x.b (x.n : Int) x.v) → EntAt V (w.heap.size + 1) x.f x.b (x.n : Int) x.v → 
        (Foot [w.heap.size + 1, w.heap.size + 2] [w.heap.size + 1, w.heap.size + 2] w₂ (V.setCell ⟨w.heap.size + 1 + 1, 0, none⟩ (.bool true)) ∧ ∃ x, findE es f us = some x ∧ EntAt (V.setCell ⟨w.heap.size + 1 + 1, 0, none⟩ (.bool true)) (w.heap.size + 1) x.f x.b (x.n : Int) x.v ∧ (V.setCell ⟨w.heap.size + 1 + 1, 0, none⟩ (.bool true)).heap[w.heap.size + 2]? = some (.cells #[Value.bool true] 4) ∧ FindInv G es st F (V.setCell ⟨w.heap.size + 1 + 1, 0, none⟩ (.bool true)) ∧ Foot [G] [G] w (V.setCell ⟨w.heap.size + 1 + 1, 0, none⟩ (.bool true)))) := Lib.hid (fun V hV hE => by
      have f1 : Foot [w.heap.size + 1] [w.heap.size + 1] w₂ V := by rw [hV]; exact foot_cells _ _ _
      have f2 := foot_cell V (w.heap.size + 2) 0 (.bool true)
      have b1 : Below (w.heap.size + 1) w₂ (V.setCell ⟨w.heap.size + 2, 0, none⟩ (.bool true)) := (f1.below (by simp) (by have := HWW.out; have := HWS.out; have := HS1.out; omega)).trans (f2.below (by simp) (by have := f1.size; have := HWW.out; have := HWS.out; have := HS1.out; omega))
      refine ⟨⟨b1.os, b1.tape, b1.output, b1.size, fun k hk hn => ?_, fun k hk => .inl hk⟩, x, HX.out, ?_, ?_, ?_, ?_⟩
      · simp at hn
        exact (f2.keep k (by have := f1.size; omega) (by simp; omega)).trans (f1.keep k hk (by simp; omega))
      · exact hE.same f2.size (f2.keep _ hE.lt (by simp))
      · refine cell1_set (u := .bool false) ?_ _
        exact (f1.keep _ (by have := HWW.out; have := HWS.out; have := HS1.out; omega) (by simp)).trans HC2.out
      · obtain ⟨st', h1, h2, h3⟩ := HI2.out
        exact ⟨st', h1.keep b1.size (fun k hk => b1.block k (by have := HFL.out k hk; omega)), h2, h3⟩
      · exact ⟨b1.os.trans HFW.out.os, b1.tape.trans HFW.out.tape, b1.output.trans HFW.out.output, Nat.le_trans HFW.out.size b1.size, fun k hk hn => (b1.block k (by omega)).trans (HFW.out.keep k hk hn), fun k hk => .inl hk⟩)
    have hcb : w₂.cell? ⟨w.heap.size + 1 + 1, 0, none⟩ = some (.bool false) := by rw [cell_of_row _ _ 0 _ _ _ HC2.out]; rfl
    have hfb : w₂.frozen? ⟨w.heap.size + 1 + 1, 0, none⟩ = false := by unfold World.frozen?; rw [HC2.out]; rfl
    refine wpIn_block (wpIn_seq ?_)
    refine round_region rfl (fun ⟨_, _, h⟩ => by cases h.1) ?_
    go_wp2_with (first | refine load_entT_o H16x HX2 _ rfl rfl rfl ?_ | (refine store_entT HE2 _ _ H16x rfl rfl rfl rfl (fun V HV HEV => ?_); have hcb2 : V.cell? ⟨w.heap.size + 1 + 1, 0, none⟩ = some (.bool false) := (by rw [HV.out, World.cell?_setCells_out _ _ _ _ _ (fun h _ => absurd h (by simp))]; exact hcb); have hfb2 : V.frozen? ⟨w.heap.size + 1 + 1, 0, none⟩ = false := (by rw [HV.out, World.frozen?_setCells]; exact hfb)))
    refine wpIn_ret ?_
    exact ⟨rfl, HFIN.out V HV.out HEV.out⟩
  case done =>
    intro W hn hinv hsame hsz hos htp hout hD
    have HNN := Lib.hid hn
    have HIV := Lib.hid hinv
    have HK2 : Hid (∀ j, j < w1.heap.size → j ≠ G → W.heap[j]? = w1.heap[j]?) := Lib.hid hsame
    have HSZ := Lib.hid hsz
    have HO2 : Hid (W.os = w.os ∧ W.tape = w.tape ∧ W.output = w.output) := Lib.hid ⟨hos.trans HB1.out.os, htp.trans HB1.out.tape, hout.trans HB1.out.output⟩
    have HDF := Lib.hid hD
    have HE2 := Lib.hid (HE1.out.same (w' := W) hsz (HK2.out _ (by have := HS1.out; omega) (by omega)))
    have HC2 : Hid (W.heap[w.heap.size + 2]? = some (.cells #[Value.bool false] 4)) := Lib.hid ((HK2.out _ (by have := HS1.out; omega) (by omega)).trans HC1.out)
    have HFW : Hid (Foot [G] [G] w W) := Lib.hid ⟨HO2.out.1, HO2.out.2.1, HO2.out.2.2, by have := HB1.out.size; omega, fun k hk hn => (HK2.out k (by have := HB1.out.size; omega) (by simpa using hn)).trans (HB1.out.block k hk), fun k hk => .inl hk⟩
    have L16 : Hid ((List.replicate 16 0 : List Nat).length = 16) := Lib.hid rfl
    have hcb : W.cell? ⟨w.heap.size + 1 + 1, 0, none⟩ = some (.bool false) := by rw [cell_of_row _ _ 0 _ _ _ HC2.out]; rfl
    have hfb : W.frozen? ⟨w.heap.size + 1 + 1, 0, none⟩ = false := by unfold World.frozen?; rw [HC2.out]; rfl
    clear hn hinv hsame hsz hos htp hout hD
    go_wp2_with (first | refine build_entT0 rfl rfl ?_ | (refine store_entT HE2 _ _ L16 rfl rfl rfl rfl (fun V HV HEV => ?_); have hcb2 : V.cell? ⟨w.heap.size + 1 + 1, 0, none⟩ = some (.bool false) := (by rw [HV.out, World.cell?_setCells_out _ _ _ _ _ (fun h _ => absurd h (by simp))]; exact hcb); have hfb2 : V.frozen? ⟨w.heap.size + 1 + 1, 0, none⟩ = false := (by rw [HV.out, World.frozen?_setCells]; exact hfb)))
    have f1 : Foot [w.heap.size + 1] [w.heap.size + 1] W V := by rw [HV.out]; exact foot_cells _ _ _
    have f2 := foot_cell V (w.heap.size + 2) 0 (.bool false)
    have hS := HS1.out
    have hsz := HSZ.out
    have b1 : Below (w.heap.size + 1) W (V.setCell ⟨w.heap.size + 2, 0, none⟩ (.bool false)) := (f1.below (by simp) (by omega)).trans (f2.below (by simp) (by have := f1.size; omega))
    refine (FIN _ _ 0 (List.replicate 16 0) 0 0 false).out ⟨rfl, rfl⟩ (HEV.out.same f2.size (f2.keep _ HEV.out.lt (by simp))) ?_ ?_ ?_ ?_ ?_
    · refine cell1_set (u := .bool false) ?_ _
      exact (f1.keep _ (by omega) (by simp)).trans HC2.out
    · have hlt := (Array.getElem?_eq_some_iff.1 HDF.out).1
      exact ((f2.keep _ (by have := f1.size; omega) (by simp; omega)).trans (f1.keep _ hlt (by simp; omega))).trans HDF.out
    · obtain ⟨st', h1, h2, h3⟩ := HIV.out
      exact ⟨st', h1.keep b1.size (fun k hk => b1.block k (by have := HFL.out k hk; omega)), h2, h3⟩
    · exact ⟨b1.os.trans HFW.out.os, b1.tape.trans HFW.out.tape, b1.output.trans HFW.out.output, Nat.le_trans HFW.out.size b1.size, fun k hk hn => (b1.block k (by omega)).trans (HFW.out.keep k hk hn), fun k hk => .inl hk⟩
    · rw [HNN.out]; rfl
  case stop =>
    rintro x W hx ⟨y, hy, hE, hC, hI, hF⟩ hD
    exact (FIN W _ y.f y.b (y.n : Int) y.v true).out ⟨rfl, rfl⟩ hE hC hD hI hF (by rw [hy]; rfl)
end Go.Proofs.YtgbajagacmfcmaaGreatDoor
/- The contract of text.Decimal: a number's decimal digits, by strconv's own. -/
namespace Go.Proofs.YtgbajagacmfcmaaGreatDoor
open Go.RowKit
set_option linter.unusedVariables false
set_option maxRecDepth 20000

theorem below_grow (w : World) (k : Nat) (os : Array Obj) : Below w.heap.size w (Sort.grow (w.drewN k) os) :=
  ⟨rfl, rfl, rfl, by
    show w.heap.size ≤ (w.heap ++ os).size
    simp, fun j hj => by
    show (w.heap ++ os)[j]? = w.heap[j]?
    rw [Array.getElem?_append_left hj]⟩

end Go.Proofs.YtgbajagacmfcmaaGreatDoor
/- Contracts of four.Bytes and four.Print: an address's bytes and its text. -/
namespace Go.Proofs.YtgbajagacmfcmaaGreatDoor
open Go.RowKit
set_option linter.unusedVariables false
set_option maxRecDepth 20000

set_option maxRecDepth 100000 in
set_option maxHeartbeats 1000000 in
theorem bytes_any (a b c d n : Nat) (w : World) (ha : a < 256) (hb : b < 256) (hc : c < 256) (hd : d < 256) (hn : n = num4 a b c d) :
    Calls Tryz.prog 55 #[.int .u32 (n : Int)] w fun e w' => e = .returned (arr4 a b c d) ∧ Below w.heap.size w w' := by
  unfold num4 at hn
  have hle : n ≤ 4294967295 := by omega
  have e1 : (n : Int) / 16777216 = (a : Int) := by omega
  have e2 : (n : Int) / 65536 % 256 = (b : Int) := by omega
  have e3 : (n : Int) / 256 % 256 = (c : Int) := by omega
  have e4 : (n : Int) % 256 = (d : Int) := by omega
  clear hn
  go_enter Tryz.func55, Tryz.ntmps55
  go_wp2
  refine bodyPost_ret (v := arr4 a b c d) (by simp [results, Tryz.results55, go_sem, arr4, e2, e3, e4]) rfl ⟨rfl, ?_⟩
  exact (Below.refl _ _).alloc (Nat.le_refl _) _
/-- The address's text, byte by byte. -/
def prT (a b c d : Nat) : Nat → List UInt8
  | 0 => []
  | 1 => dec a
  | 2 => dec a ++ 46 :: dec b
  | 3 => dec a ++ 46 :: (dec b ++ 46 :: dec c)
  | _ => dec a ++ 46 :: (dec b ++ 46 :: (dec c ++ 46 :: dec d))
theorem of_num (a b c d n : Nat) (w : World) (ha : a < 256) (hb : b < 256) (hc : c < 256) (hd : d < 256) (hn : n = num4 a b c d) :
    Calls Tryz.prog 30 #[arr4 a b c d] w fun e w' => e = .returned (.int .u32 (n : Int)) ∧ Below w.heap.size w w' := by
  have := of_any a b c d w ha hb hc hd
  rw [show ((a * 256 + b) * 256 + c) * 256 + d = n from hn.symm] at this
  exact this
theorem strict_at (s : ByteArray) (r : Option Nat) (w : World) (hs : s.size ≤ 1000000) (hr : strictB s = r) :
    Calls Tryz.prog 59 #[.string s] w fun e w' => e = .returned (strictRet r) ∧ Below w.heap.size w w' := by
  have := strict_any s w hs
  rw [hr] at this
  exact this
end Go.Proofs.YtgbajagacmfcmaaGreatDoor
/- Contracts of the reference's row and Print of layer 3. -/
namespace Go.Proofs.YtgbajagacmfcmaaGreatDoor
open Go.RowKit
set_option linter.unusedVariables false
set_option maxRecDepth 20000

/-- A group's text. -/
def gS (n : Nat) : ByteArray := ofL (groupL n)
theorem gS_size (n : Nat) (h : n < 65536) : (gS n).size ≤ 4 := by
  unfold gS
  rw [ofL_size]
  exact (groupL_length n h).2
/-- Groups with colons between. -/
def rowS (l : List Nat) : ByteArray := joinTo (l.map gS) { data := #[58] } l.length
theorem joinTo_small (l : List Nat) (h : ∀ x ∈ l, x < 65536) : ∀ k, (joinTo (l.map gS) { data := #[58] } k).size ≤ 5 * k
  | 0 => Nat.le_refl _
  | k + 1 => by
    have ih := joinTo_small l h k
    have hx : ((l.map gS).getD k { data := #[] }).size ≤ 4 := by
      rw [List.getD_eq_getElem?_getD]
      cases hk : (l.map gS)[k]? with
      | none => exact Nat.zero_le _
      | some p =>
        rw [List.getElem?_map] at hk
        cases hl : l[k]? with
        | none => rw [hl] at hk; cases hk
        | some x =>
          rw [hl] at hk
          have := Option.some.inj hk
          subst this
          exact gS_size x (h x (List.mem_of_getElem? hl))
    rw [joinTo]
    split
    · rw [ByteArray.size_append, ByteArray.size_append]
      show _ + 1 + _ ≤ _
      omega
    · rw [ByteArray.size_append]
      omega
theorem rowS_small (l : List Nat) (h : ∀ x ∈ l, x < 65536) : (rowS l).size ≤ 5 * l.length := joinTo_small l h _

theorem own_rows {w : World} {B : Nat} {v : Value} {l : List ByteArray} (h : w.ownsRow B 9 1 v l.length (l.map Value.string)) :
    (v = .slice none 0 0 ∧ l.length = 0) ∨ ∃ g cap, v = .slice (some ⟨g, 0, none⟩) l.length cap ∧ StrRow w g l.length cap l := by
  have hh := h
  rcases h.2 with ⟨rfl, h0⟩ | ⟨g, cap, cur, rfl, hB, hg, h1, h2, _⟩
  · exact .inl ⟨rfl, h0⟩
  · refine .inr ⟨g, cap, rfl, rfl, h1, h2, ?_, fun i hi => ?_⟩
    · rcases Nat.lt_or_ge g w.heap.size with h | h
      · exact h
      · rw [Array.getElem?_eq_none h] at hg; cases hg
    · rw [own_cells hh i hi, List.getD_eq_getElem?_getD, List.getElem?_eq_getElem hi]
      rfl
/-- What a part of the groups is printed as. -/
def RowFact (gs : List Nat) (o n c : Nat) (X : ByteArray) : Prop :=
  n ≤ c ∧ c ≤ 8 ∧ ∃ l : List Nat, l.length = n ∧ rowS l = X ∧ (∀ x ∈ l, x < 65536) ∧ ∀ j, j < n → o + j < 8 ∧ gs.getD (o + j) 0 = l.getD j 0
/-- The printed text. -/
def printB (gs : List Nat) : ByteArray :=
  if mappedB gs then ofL [58, 58, 102, 102, 102, 102, 58] ++ text4 (gs.getD 6 0 / 256) (gs.getD 6 0 % 256) (gs.getD 7 0 / 256) (gs.getD 7 0 % 256) else
  if (runB gs).2 = 0 then rowS gs else rowS (gs.take (runB gs).1) ++ ofL [58, 58] ++ rowS (gs.drop ((runB gs).1 + (runB gs).2))

end Go.Proofs.YtgbajagacmfcmaaGreatDoor
/- Contracts of strconv.FormatUint at base 16, and of six.digits: a group's digits. -/
namespace Go.Proofs.YtgbajagacmfcmaaGreatDoor
open Go.RowKit
set_option linter.unusedVariables false
set_option maxRecDepth 20000

/-- The table of math/bits that tells 16's zeros holds its 4. -/
def BruIs (w : World) : Prop := w.cell? ⟨3, 15, none⟩ = some (.int .u8 4)
theorem BruIs.below {w w' : World} (h : BruIs w) (hb : Below w.heap.size w w') : BruIs w' := by
  unfold BruIs at *
  have hlt : 3 < w.heap.size := by
    rcases Nat.lt_or_ge 3 w.heap.size with h2 | h2
    · exact h2
    · simp [World.cell?, Array.getElem?_eq_none h2] at h
  rw [hb.cell (p := ⟨3, 15, none⟩) hlt]
  exact h

set_option maxHeartbeats 400000 in
theorem tz64_16 (w : World) (h : BruIs w) :
    Calls Tryz.prog 109 #[.int .u64 16] w fun e w' => e = .returned (.int .i64 4) ∧ w = w' := by
  have hc : w.cell? ⟨3, 15, none⟩ = some (.int .u8 4) := h
  clear h
  have hx : IntKind.u64.wrap (bits BinOp.and IntKind.u64 16 (IntKind.u64.wrap (-16)) * 285870213051353865) / 288230376151711744 = 15 := by decide +kernel
  go_enter Tryz.func109, Tryz.ntmps109
  go_wp2
  go_ret
  exact ⟨rfl, rfl⟩
set_option maxHeartbeats 400000 in
theorem tz_16 (w : World) (h : BruIs w) :
    Calls Tryz.prog 107 #[.int .u64 16] w fun e w' => e = .returned (.int .i64 4) ∧ w = w' := by
  go_enter Tryz.func107, Tryz.ntmps107
  go_wp2_with fail
  refine (tz64_16 _ h).mono ?_
  rintro e w' ⟨rfl, rfl⟩
  go_wp2_with fail
  go_ret
  exact ⟨rfl, rfl⟩
set_option maxHeartbeats 400000 in
theorem pow_16 (w : World) :
    Calls Tryz.prog 106 #[.int .i64 16] w fun e w' => e = .returned (.bool true) ∧ w = w' := by
  go_enter Tryz.func106, Tryz.ntmps106
  go_wp2
  go_ret
  exact ⟨rfl, rfl⟩
/-- An array of n integers of kind k lies at B. -/
structure ArrI (k : IntKind) (n : Nat) (w : World) (B : Nat) (l : List Nat) : Prop where
  len : l.length = n
  lt : B < w.heap.size
  cells : ∀ j, j < n → w.cell? ⟨B, j, none⟩ = some (.int k ((l.getD j 0 : Nat) : Int))
  live : ∀ j, j < n → w.frozen? ⟨B, j, none⟩ = false
theorem ArrI.below {k : IntKind} {n : Nat} {w w' : World} {B : Nat} {l : List Nat} (h : ArrI k n w B l) (hb : Below w.heap.size w w') : ArrI k n w' B l :=
  ⟨h.len, Nat.lt_of_lt_of_le h.lt hb.size, fun j hj => by rw [hb.cell (p := ⟨B, j, none⟩) h.lt]; exact h.cells j hj, fun j hj => by rw [hb.frozen (p := ⟨B, j, none⟩) h.lt]; exact h.live j hj⟩
theorem ArrI.set {k : IntKind} {n : Nat} {w : World} {B i : Nat} {l : List Nat} (h : ArrI k n w B l) (hi : i < n) (v : Nat) : ArrI k n (w.setCell ⟨B, i, none⟩ (.int k ((v : Nat) : Int))) B (l.set i v) := by
  refine ⟨by simp [h.len], by simpa using h.lt, ?_, ?_⟩
  · intro j hj
    by_cases e : j = i
    · subst e
      rw [World.cell?_setCell_same _ _ _ (h.cells j hj), List.getD_eq_getElem?_getD, List.getElem?_set_self (by rw [h.len]; exact hj)]
      rfl
    · rw [World.cell?_setCell_other _ _ _ _ (by intro h2; injection h2 with _ h3 _; exact e h3.symm), h.cells j hj, List.getD_eq_getElem?_getD, List.getD_eq_getElem?_getD, List.getElem?_set_ne (by omega)]
  · intro j hj
    rw [World.frozen?_setCell]
    exact h.live j hj
theorem ArrI.other {k : IntKind} {n : Nat} {w : World} {B B' i : Nat} {l : List Nat} (h : ArrI k n w B l) (hB : B' ≠ B) (u : Value) : ArrI k n (w.setCell ⟨B', i, none⟩ u) B l := by
  refine ⟨h.len, by simpa using h.lt, ?_, ?_⟩
  · intro j hj
    rw [World.cell?_setCell_other _ _ _ _ (by intro h2; injection h2 with h3 _ _; exact hB h3)]
    exact h.cells j hj
  · intro j hj
    rw [World.frozen?_setCell]
    exact h.live j hj
theorem ArrI.of {k : IntKind} {n : Nat} (w : World) (cs : Array Value) (t : TypeId) (l : List Nat) (h : cs.toList = l.map fun x => Value.int k ((x : Nat) : Int)) (hn : l.length = n) : ArrI k n (w.alloc (.cells cs t)) w.heap.size l := by
  refine ⟨hn, by simp, ?_, ?_⟩
  · intro j hj
    have e : cs[j]? = (l.map fun x => Value.int k ((x : Nat) : Int))[j]? := by rw [← h]; simp
    rw [World.cell?_alloc_new, e, List.getElem?_map, List.getD_eq_getElem?_getD, List.getElem?_eq_getElem (by omega)]
    rfl
  · intro j hj
    exact World.frozen?_alloc_new _ _ _ _

theorem mask_16 (v : Nat) (h : v < 65536) : bits BinOp.and IntKind.u64 (v : Int) 15 = ((v % 16 : Nat) : Int) := by
  have := bits_mask .u64 16 (by decide) (fun n h0 h1 => by rw [IntKind.wrap_u64]; omega) 4 (by decide) (v : Int) (by omega) (by omega)
  rw [show ((2 : Int) ^ 4 - 1) = 15 by decide, show ((2 : Int) ^ 4) = 16 by decide] at this
  rw [this]
  omega
theorem zeros65 : Tryz.zeroCells138.toList = (List.replicate 65 0).map fun x => Value.int .u8 ((x : Nat) : Int) := by kernel_rfl
theorem alnum_at (d : Nat) (h : d < 16) : ∃ x : Nat, (hexc d).toNat = x ∧ ∀ hh, ((({ data := #[48, 49, 50, 51, 52, 53, 54, 55, 56, 57, 97, 98, 99, 100, 101, 102, 103, 104, 105, 106, 107, 108, 109, 110, 111, 112, 113, 114, 115, 116, 117, 118, 119, 120, 121, 122] } : ByteArray)[d]'hh).toNat) = x := by
  refine ⟨_, rfl, ?_⟩
  have hd : d = 0 ∨ d = 1 ∨ d = 2 ∨ d = 3 ∨ d = 4 ∨ d = 5 ∨ d = 6 ∨ d = 7 ∨ d = 8 ∨ d = 9 ∨ d = 10 ∨ d = 11 ∨ d = 12 ∨ d = 13 ∨ d = 14 ∨ d = 15 := by omega
  rcases hd with rfl | rfl | rfl | rfl | rfl | rfl | rfl | rfl | rfl | rfl | rfl | rfl | rfl | rfl | rfl | rfl <;> (intro hh; rfl)
theorem drop_set (l : List Nat) (q x : Nat) (T : List UInt8) (hq : q < l.length) (h : l.drop (q + 1) = T.map fun c => c.toNat) : (l.set q x).drop q = x :: T.map fun c => c.toNat := by
  rw [List.drop_eq_getElem_cons (by simpa using hq), List.drop_set_of_lt (by omega), h]
  simp

set_option maxRecDepth 100000 in
set_option maxHeartbeats 2000000 in
theorem formatBits_16 (n : Nat) (w : World) (hn : n < 65536) (h : BruIs w) :
    Calls Tryz.prog 100 #[.slice none 0 0, .int .u64 (n : Int), .int .i64 16, .bool false, .bool false] w fun e w' => e = .returned (.tuple #[.slice none 0 0, .string (gS n)]) ∧ Below w.heap.size w w' := by
  have hA := ArrI.of w Tryz.zeroCells138 138 (List.replicate 65 0) zeros65 (n := 65) (by decide)
  have b0 : Below w.heap.size w (w.alloc (.cells Tryz.zeroCells138 138)) := (Below.refl _ _).alloc (Nat.le_refl _) _
  have hB := h.below b0
  clear h
  go_enter Tryz.func100, Tryz.ntmps100
  go_wp2_with fail
  generalize w.alloc (.cells Tryz.zeroCells138 138) = W at *
  have HA := Lib.hid hA
  have HB := Lib.hid hB
  clear hA hB
  refine (pow_16 _).mono ?_
  rintro e w' ⟨rfl, rfl⟩
  go_wp2_with fail
  refine (tz_16 _ HB.out).mono ?_
  rintro e w' ⟨rfl, rfl⟩
  go_wp2_with fail
  go_loopw [1, 13] (fun u i wr => ∃ (v k q : Nat) (l : List Nat) (T : List UInt8), v < 65536 ∧ q + 1 + k = 65 ∧ T.length = k ∧ k ≤ 3 ∧ u = .int .u64 (v : Int) ∧ i = .int .i64 ((q : Int) + 1) ∧ Hid (ArrI .u8 65 wr w.heap.size l) ∧ Below w.heap.size w wr ∧ Hid (l.drop (q + 1) = T.map fun c => c.toNat) ∧ Hid (groupL n = groupL v ++ T)) (fun u _ _ => (intOf u).toNat)
  case atStart => exact ⟨n, 0, 64, List.replicate 65 0, [], hn, rfl, rfl, by decide, rfl, rfl, HA, b0, Lib.hid (by rfl), Lib.hid (by simp)⟩
  case round =>
    obtain ⟨v, k, q, l, T, hv, hq, hT, hk3, rfl, rfl, HAr, hbel, HD, HG⟩ := hrel
    have hgc := HAr.out.cells q (by omega)
    have hgl := HAr.out.live q (by omega)
    have q0 : (0 : Int) ≤ (q : Int) := by omega
    have q1 : (q : Int) ≤ 65 := by omega
    have q2 : ¬ 65 = q := by omega
    by_cases h16 : v < 16
    · have hv16 : (v : Int) < 16 := by omega
      obtain ⟨x, hx, ha⟩ := alnum_at v h16
      have hset := HAr.out.set (i := q) (by omega) x
      have hcv : (convert 125 9 (.slice (some ⟨w.heap.size, q, none⟩) (65 - q) (65 - q))).run Tryz.prog (wr.setCell ⟨w.heap.size, q, none⟩ (.int .u8 (x : Int))) = .ok (.string (gS n)) (wr.setCell ⟨w.heap.size, q, none⟩ (.int .u8 (x : Int))) := by
        have e0 : groupL n = hexc v :: T := by rw [HG.out, groupL_one h16]; rfl
        have hl : 65 - q = (groupL n).length := by rw [e0, List.length_cons]; omega
        rw [hl]
        refine run_convert_bytes_back (P := Tryz.prog) _ 125 9 5 ⟨w.heap.size, q, none⟩ _ (groupL n) Tryz.underlying125 Tryz.underlying5 Tryz.underlying9 (fun j hj => ?_)
        have e1 : (⟨w.heap.size, q, none⟩ : Addr).add j = ⟨w.heap.size, q + j, none⟩ := by
          unfold Addr.add
          split <;> simp_all
        rw [e1, hset.cells (q + j) (by omega)]
        have e2 := drop_set l q x T (by rw [HAr.out.len]; omega) HD.out
        have e3 : (l.set q x).getD (q + j) 0 = ((l.set q x).drop q).getD j 0 := by
          rw [List.getD_eq_getElem?_getD, List.getD_eq_getElem?_getD, List.getElem?_drop]
        rw [e3, e2]
        have e4 : x :: (T.map fun c => c.toNat) = (groupL n).map fun c => c.toNat := by rw [e0, List.map_cons, hx]
        rw [e4, List.getD_eq_getElem?_getD, List.getElem?_map, List.getElem?_eq_getElem hj]
        rfl
      have hb2 := hbel.setCell (p := ⟨w.heap.size, q, none⟩) (Nat.le_refl _) (.int .u8 (x : Int))
      clear hset
      go_wp2_with fail
      go_ret2
      exact ⟨rfl, hb2⟩
    · have hm := mask_16 v hv
      obtain ⟨d, ed⟩ : ∃ d, v % 16 = d := ⟨_, rfl⟩
      have hd : d < 16 := by omega
      have hi16 : (16 : Int) ≤ (v : Int) := by omega
      rw [ed] at hm
      obtain ⟨x, hx, ha⟩ := alnum_at d hd
      have e0 : groupL n = groupL (v / 16) ++ hexc d :: T := by rw [HG.out, groupL_more h16, ed]; simp
      have hl4 := (groupL_length n hn).2
      have hl1 := (groupL_length (v / 16) (by omega)).1
      rw [e0, List.length_append, List.length_cons] at hl4
      have HS := Lib.hid (HAr.out.set (i := q) (by omega) x)
      have HE := Lib.hid e0
      have HX := Lib.hid hx
      have HDv := Lib.hid ed
      clear e0 hx ed
      go_wp2_with fail
      go_roundw
      case rel => exact ⟨v / 16, k + 1, q - 1, l.set q x, hexc d :: T, by omega, by omega, by simp [hT], by omega, by first | rfl | (congr 1; omega), by congr 1; omega, HS, hbel.setCell (p := ⟨w.heap.size, q, none⟩) (Nat.le_refl _) _, Lib.hid (by
        rw [show q - 1 + 1 = q by omega, drop_set l q x T (by rw [HAr.out.len]; omega) HD.out, List.map_cons, HX.out]), HE⟩
      case measure => simp [intOf]; omega

set_option maxHeartbeats 1000000 in
theorem fmtUint_16 (n : Nat) (w : World) (hn : n < 65536) (h : BruIs w) :
    Calls Tryz.prog 91 #[.int .u64 (n : Int), .int .i64 16] w fun e w' => e = .returned (.string (gS n)) ∧ Below w.heap.size w w' := by
  have HB := Lib.hid h
  clear h
  go_enter Tryz.func91, Tryz.ntmps91
  go_wp2_with fail
  refine (formatBits_16 n _ hn HB.out).mono ?_
  rintro e w1 ⟨rfl, hb⟩
  go_wp2_with fail
  go_ret
  exact ⟨rfl, hb⟩
set_option maxHeartbeats 1000000 in
theorem formatUint_16 (n : Nat) (w : World) (hn : n < 65536) (h : BruIs w) :
    Calls Tryz.prog 87 #[.int .u64 (n : Int), .int .i64 16] w fun e w' => e = .returned (.string (gS n)) ∧ Below w.heap.size w w' := by
  have HB := Lib.hid h
  clear h
  go_enter Tryz.func87, Tryz.ntmps87
  go_wp2_with fail
  refine (fmtUint_16 n _ hn HB.out).mono ?_
  rintro e w1 ⟨rfl, hb⟩
  go_wp2_with fail
  go_ret
  exact ⟨rfl, hb⟩
set_option maxHeartbeats 1000000 in
theorem digits_any (n : Nat) (w : World) (hn : n < 65536) (h : BruIs w) :
    Calls Tryz.prog 82 #[.int .u16 (n : Int)] w fun e w' => e = .returned (.string (gS n)) ∧ Below w.heap.size w w' := by
  have HB := Lib.hid h
  clear h
  go_enter Tryz.func82, Tryz.ntmps82
  go_wp2_with fail
  refine (formatUint_16 n _ hn HB.out).mono ?_
  rintro e w1 ⟨rfl, hb⟩
  go_wp2_with fail
  go_ret
  exact ⟨rfl, hb⟩
end Go.Proofs.YtgbajagacmfcmaaGreatDoor
/- Contracts of six.Run, six.mapped and six.printed. -/
namespace Go.Proofs.YtgbajagacmfcmaaGreatDoor
open Go.RowKit
set_option linter.unusedVariables false
set_option maxRecDepth 20000

/-- What the landed Run holds behind k groups: where the longest row begins, how long it is, how many zeros stand last. -/
def ownTo (gs : List Nat) : Nat → Nat × Nat × Nat
  | 0 => (0, 0, 0)
  | k + 1 => if gs.getD k 0 = 0 then (if (ownTo gs k).2.1 < (ownTo gs k).2.2 + 1 then (k - (ownTo gs k).2.2, (ownTo gs k).2.2 + 1, (ownTo gs k).2.2 + 1) else ((ownTo gs k).1, (ownTo gs k).2.1, (ownTo gs k).2.2 + 1)) else ((ownTo gs k).1, (ownTo gs k).2.1, 0)
def ownRun (gs : List Nat) : Nat × Nat := if (ownTo gs 8).2.1 < 2 then (0, 0) else ((ownTo gs 8).1, (ownTo gs 8).2.1)
theorem zl_congr {gs hs : List Nat} (h : ∀ i, gs.getD i 0 = 0 ↔ hs.getD i 0 = 0) : ∀ f i, zl gs f i = zl hs f i
  | 0, _ => rfl
  | f + 1, i => by
    rw [zl, zl, zl_congr h f (i + 1)]
    by_cases h0 : gs.getD i 0 = 0
    · rw [if_pos h0, if_pos ((h i).1 h0)]
    · rw [if_neg h0, if_neg (fun h1 => h0 ((h i).2 h1))]
theorem runTo_congr {gs hs : List Nat} (h : ∀ i, gs.getD i 0 = 0 ↔ hs.getD i 0 = 0) : ∀ k, runTo gs k = runTo hs k
  | 0 => rfl
  | k + 1 => by
    have e : zrun gs k = zrun hs k := zl_congr h _ _
    rw [runTo, runTo, runTo_congr h k, e]
theorem ownTo_congr {gs hs : List Nat} (h : ∀ i, gs.getD i 0 = 0 ↔ hs.getD i 0 = 0) : ∀ k, ownTo gs k = ownTo hs k
  | 0 => rfl
  | k + 1 => by
    rw [ownTo, ownTo, ownTo_congr h k]
    by_cases h0 : gs.getD k 0 = 0
    · rw [if_pos h0, if_pos ((h k).1 h0)]
    · rw [if_neg h0, if_neg (fun h1 => h0 ((h k).2 h1))]
def bit (b : Bool) : Nat := if b then 0 else 1
theorem run_bits : ∀ b0 b1 b2 b3 b4 b5 b6 b7 : Bool, ownRun [bit b0, bit b1, bit b2, bit b3, bit b4, bit b5, bit b6, bit b7] = runB [bit b0, bit b1, bit b2, bit b3, bit b4, bit b5, bit b6, bit b7] := by decide +kernel
theorem own_run (gs : List Nat) (h8 : gs.length = 8) : ownRun gs = runB gs := by
  obtain ⟨x0, x1, x2, x3, x4, x5, x6, x7, rfl⟩ := list8 gs h8
  have hb : ∀ x : Nat, x = 0 ↔ bit (decide (x = 0)) = 0 := by
    intro x
    unfold bit
    by_cases h : x = 0
    · simp [h]
    · simp [h]
  have h : ∀ i, [x0, x1, x2, x3, x4, x5, x6, x7].getD i 0 = 0 ↔ [bit (decide (x0 = 0)), bit (decide (x1 = 0)), bit (decide (x2 = 0)), bit (decide (x3 = 0)), bit (decide (x4 = 0)), bit (decide (x5 = 0)), bit (decide (x6 = 0)), bit (decide (x7 = 0))].getD i 0 = 0 := by
    intro i
    match i with
    | 0 => exact hb x0
    | 1 => exact hb x1
    | 2 => exact hb x2
    | 3 => exact hb x3
    | 4 => exact hb x4
    | 5 => exact hb x5
    | 6 => exact hb x6
    | 7 => exact hb x7
    | i + 8 => exact Iff.rfl
  unfold ownRun runB
  rw [ownTo_congr h, runTo_congr h]
  exact run_bits _ _ _ _ _ _ _ _
theorem own_ret {gs : List Nat} {A M N : Nat} (h8 : gs.length = 8) (h : ownTo gs 8 = (A, M, N)) : runB gs = if M < 2 then (0, 0) else (A, M) := by
  rw [← own_run gs h8]
  unfold ownRun
  rw [h]

theorem eq8_mapped (x0 x1 x2 x3 x4 x5 x6 x7 : Nat) (W : World) : (Op.equalIn 10000 79 (.agg #[.int .u16 (x0 : Int), .int .u16 (x1 : Int), .int .u16 (x2 : Int), .int .u16 (x3 : Int), .int .u16 (x4 : Int), .int .u16 (x5 : Int), .int .u16 (x6 : Int), .int .u16 (x7 : Int)]) (.agg #[.int .u16 0, .int .u16 0, .int .u16 0, .int .u16 0, .int .u16 0, .int .u16 65535, .int .u16 (x6 : Int), .int .u16 (x7 : Int)])).run Tryz.prog W = .ok (mappedB [x0, x1, x2, x3, x4, x5, x6, x7]) W := by
  obtain ⟨i, hi⟩ : ∃ i, Tryz.prog.info? 78 = some i := ⟨_, rfl⟩
  have := run_eq_ints W (k := .u16) Tryz.underlying79 (by kernel_rfl) Tryz.underlying78 hi (by kernel_rfl) [(x0 : Int), x1, x2, x3, x4, x5, x6, x7] [(0 : Int), 0, 0, 0, 0, 65535, x6, x7] rfl rfl
  rw [show decide ([(x0 : Int), x1, x2, x3, x4, x5, x6, x7] = [(0 : Int), 0, 0, 0, 0, 65535, x6, x7]) = mappedB [x0, x1, x2, x3, x4, x5, x6, x7] by
    rw [Bool.eq_iff_iff]
    simp [mappedB, zer]
    omega] at this
  exact this
end Go.Proofs.YtgbajagacmfcmaaGreatDoor
/- The contract of six.Print. -/
namespace Go.Proofs.YtgbajagacmfcmaaGreatDoor
open Go.RowKit
set_option linter.unusedVariables false
set_option maxRecDepth 20000

/-- What the walks ask of the library's own variables: the table of powers of ten, 16's zeros, some number at MaxLen. -/
structure Tabs (w : World) : Prop where
  pow : Lib.TabIs Tryz.prog w "internal/strconv.uint64pow10" .u64 Lib.pow10Tab
  bru : BruIs w
  max : ∃ m, w.cell? ⟨0, 0, none⟩ = some (.int .i64 m)
theorem gPow10 : Tryz.prog.globalNamed "internal/strconv.uint64pow10" = some 1 := by kernel_rfl
theorem cell_lt {w : World} {g o : Nat} {v : Value} (h : w.cell? ⟨g, o, none⟩ = some v) : g < w.heap.size := by
  rcases Nat.lt_or_ge g w.heap.size with h2 | h2
  · exact h2
  · simp [World.cell?, Array.getElem?_eq_none h2] at h
theorem Tabs.below {w w' : World} (h : Tabs w) (hb : Below w.heap.size w w') : Tabs w' := by
  refine ⟨?_, h.bru.below hb, ?_⟩
  · have hc := h.pow.cell gPow10 0 (by rw [Lib.pow10Tab_length]; decide)
    exact var?_below hb gPow10 (cell_lt hc) h.pow
  · obtain ⟨m, hm⟩ := h.max
    exact ⟨m, by rw [hb.cell (p := ⟨0, 0, none⟩) (cell_lt hm)]; exact hm⟩

/-- What a part of the groups is printed as. -/
def PartFact (gs : List Nat) (f t : Int) (X : ByteArray) : Prop := ∃ F T : Nat, f = (F : Int) ∧ t = (T : Int) ∧ gs.length = 8 ∧ (∀ x ∈ gs, x < 65536) ∧ F ≤ T ∧ T ≤ 8 ∧ rowS ((gs.drop F).take (T - F)) = X
end Go.Proofs.YtgbajagacmfcmaaGreatDoor
/- Contracts of six.Bytes and six.Of. -/
namespace Go.Proofs.YtgbajagacmfcmaaGreatDoor
open Go.RowKit
set_option linter.unusedVariables false
set_option maxRecDepth 20000

/-- Sixteen bytes, stored one by one. -/
def store16 (W : World) (R : Nat) (y0 y1 y2 y3 y4 y5 y6 y7 y8 y9 y10 y11 y12 y13 y14 y15 : Nat) : World := ((((((((((((((((W.setCell ⟨R, 0, none⟩ (.int .u8 ((y0 : Nat) : Int))).setCell ⟨R, 1, none⟩ (.int .u8 ((y1 : Nat) : Int))).setCell ⟨R, 2, none⟩ (.int .u8 ((y2 : Nat) : Int))).setCell ⟨R, 3, none⟩ (.int .u8 ((y3 : Nat) : Int))).setCell ⟨R, 4, none⟩ (.int .u8 ((y4 : Nat) : Int))).setCell ⟨R, 5, none⟩ (.int .u8 ((y5 : Nat) : Int))).setCell ⟨R, 6, none⟩ (.int .u8 ((y6 : Nat) : Int))).setCell ⟨R, 7, none⟩ (.int .u8 ((y7 : Nat) : Int))).setCell ⟨R, 8, none⟩ (.int .u8 ((y8 : Nat) : Int))).setCell ⟨R, 9, none⟩ (.int .u8 ((y9 : Nat) : Int))).setCell ⟨R, 10, none⟩ (.int .u8 ((y10 : Nat) : Int))).setCell ⟨R, 11, none⟩ (.int .u8 ((y11 : Nat) : Int))).setCell ⟨R, 12, none⟩ (.int .u8 ((y12 : Nat) : Int))).setCell ⟨R, 13, none⟩ (.int .u8 ((y13 : Nat) : Int))).setCell ⟨R, 14, none⟩ (.int .u8 ((y14 : Nat) : Int))).setCell ⟨R, 15, none⟩ (.int .u8 ((y15 : Nat) : Int)))
theorem store16_arr {W : World} {R : Nat} {l : List Nat} (y0 y1 y2 y3 y4 y5 y6 y7 y8 y9 y10 y11 y12 y13 y14 y15 : Nat) (h : ArrI .u8 16 W R l) : ArrI .u8 16 (store16 W R y0 y1 y2 y3 y4 y5 y6 y7 y8 y9 y10 y11 y12 y13 y14 y15) R [y0, y1, y2, y3, y4, y5, y6, y7, y8, y9, y10, y11, y12, y13, y14, y15] := by
  obtain ⟨z0, z1, z2, z3, z4, z5, z6, z7, z8, z9, z10, z11, z12, z13, z14, z15, rfl⟩ := list16 l h.len
  exact ((((((((((((((((h.set (i := 0) (by decide) y0).set (i := 1) (by decide) y1).set (i := 2) (by decide) y2).set (i := 3) (by decide) y3).set (i := 4) (by decide) y4).set (i := 5) (by decide) y5).set (i := 6) (by decide) y6).set (i := 7) (by decide) y7).set (i := 8) (by decide) y8).set (i := 9) (by decide) y9).set (i := 10) (by decide) y10).set (i := 11) (by decide) y11).set (i := 12) (by decide) y12).set (i := 13) (by decide) y13).set (i := 14) (by decide) y14).set (i := 15) (by decide) y15)
theorem store16_below {w W : World} {R : Nat} (y0 y1 y2 y3 y4 y5 y6 y7 y8 y9 y10 y11 y12 y13 y14 y15 : Nat) (h : Below w.heap.size w W) (hR : w.heap.size ≤ R) : Below w.heap.size w (store16 W R y0 y1 y2 y3 y4 y5 y6 y7 y8 y9 y10 y11 y12 y13 y14 y15) :=
  ((((((((((((((((h.setCell (p := ⟨R, 0, none⟩) hR _).setCell (p := ⟨R, 1, none⟩) hR _).setCell (p := ⟨R, 2, none⟩) hR _).setCell (p := ⟨R, 3, none⟩) hR _).setCell (p := ⟨R, 4, none⟩) hR _).setCell (p := ⟨R, 5, none⟩) hR _).setCell (p := ⟨R, 6, none⟩) hR _).setCell (p := ⟨R, 7, none⟩) hR _).setCell (p := ⟨R, 8, none⟩) hR _).setCell (p := ⟨R, 9, none⟩) hR _).setCell (p := ⟨R, 10, none⟩) hR _).setCell (p := ⟨R, 11, none⟩) hR _).setCell (p := ⟨R, 12, none⟩) hR _).setCell (p := ⟨R, 13, none⟩) hR _).setCell (p := ⟨R, 14, none⟩) hR _).setCell (p := ⟨R, 15, none⟩) hR _)
theorem ArrI.all16 {w : World} {B : Nat} {y0 y1 y2 y3 y4 y5 y6 y7 y8 y9 y10 y11 y12 y13 y14 y15 : Nat} (h : ArrI .u8 16 w B [y0, y1, y2, y3, y4, y5, y6, y7, y8, y9, y10, y11, y12, y13, y14, y15]) :
    w.cell? ⟨B, 0, none⟩ = some (.int .u8 (y0 : Int)) ∧ w.cell? ⟨B, 1, none⟩ = some (.int .u8 (y1 : Int)) ∧ w.cell? ⟨B, 2, none⟩ = some (.int .u8 (y2 : Int)) ∧ w.cell? ⟨B, 3, none⟩ = some (.int .u8 (y3 : Int)) ∧ w.cell? ⟨B, 4, none⟩ = some (.int .u8 (y4 : Int)) ∧ w.cell? ⟨B, 5, none⟩ = some (.int .u8 (y5 : Int)) ∧ w.cell? ⟨B, 6, none⟩ = some (.int .u8 (y6 : Int)) ∧ w.cell? ⟨B, 7, none⟩ = some (.int .u8 (y7 : Int)) ∧ w.cell? ⟨B, 8, none⟩ = some (.int .u8 (y8 : Int)) ∧ w.cell? ⟨B, 9, none⟩ = some (.int .u8 (y9 : Int)) ∧ w.cell? ⟨B, 10, none⟩ = some (.int .u8 (y10 : Int)) ∧ w.cell? ⟨B, 11, none⟩ = some (.int .u8 (y11 : Int)) ∧ w.cell? ⟨B, 12, none⟩ = some (.int .u8 (y12 : Int)) ∧ w.cell? ⟨B, 13, none⟩ = some (.int .u8 (y13 : Int)) ∧ w.cell? ⟨B, 14, none⟩ = some (.int .u8 (y14 : Int)) ∧ w.cell? ⟨B, 15, none⟩ = some (.int .u8 (y15 : Int)) :=
  ⟨h.cells 0 (by decide), h.cells 1 (by decide), h.cells 2 (by decide), h.cells 3 (by decide), h.cells 4 (by decide), h.cells 5 (by decide), h.cells 6 (by decide), h.cells 7 (by decide), h.cells 8 (by decide), h.cells 9 (by decide), h.cells 10 (by decide), h.cells 11 (by decide), h.cells 12 (by decide), h.cells 13 (by decide), h.cells 14 (by decide), h.cells 15 (by decide)⟩
theorem ArrI.lives16 {w : World} {B : Nat} {l : List Nat} (h : ArrI .u8 16 w B l) :
    w.frozen? ⟨B, 0, none⟩ = false ∧ w.frozen? ⟨B, 1, none⟩ = false ∧ w.frozen? ⟨B, 2, none⟩ = false ∧ w.frozen? ⟨B, 3, none⟩ = false ∧ w.frozen? ⟨B, 4, none⟩ = false ∧ w.frozen? ⟨B, 5, none⟩ = false ∧ w.frozen? ⟨B, 6, none⟩ = false ∧ w.frozen? ⟨B, 7, none⟩ = false ∧ w.frozen? ⟨B, 8, none⟩ = false ∧ w.frozen? ⟨B, 9, none⟩ = false ∧ w.frozen? ⟨B, 10, none⟩ = false ∧ w.frozen? ⟨B, 11, none⟩ = false ∧ w.frozen? ⟨B, 12, none⟩ = false ∧ w.frozen? ⟨B, 13, none⟩ = false ∧ w.frozen? ⟨B, 14, none⟩ = false ∧ w.frozen? ⟨B, 15, none⟩ = false :=
  ⟨h.live 0 (by decide), h.live 1 (by decide), h.live 2 (by decide), h.live 3 (by decide), h.live 4 (by decide), h.live 5 (by decide), h.live 6 (by decide), h.live 7 (by decide), h.live 8 (by decide), h.live 9 (by decide), h.live 10 (by decide), h.live 11 (by decide), h.live 12 (by decide), h.live 13 (by decide), h.live 14 (by decide), h.live 15 (by decide)⟩
theorem zeros16 : (#[.int .u8 0, .int .u8 0, .int .u8 0, .int .u8 0, .int .u8 0, .int .u8 0, .int .u8 0, .int .u8 0, .int .u8 0, .int .u8 0, .int .u8 0, .int .u8 0, .int .u8 0, .int .u8 0, .int .u8 0, .int .u8 0] : Array Value).toList = (List.replicate 16 0).map fun x => Value.int .u8 ((x : Nat) : Int) := rfl

set_option maxRecDepth 100000 in
set_option maxHeartbeats 2000000 in
theorem sixBytes_any (gs : List Nat) (w : World) (h8 : gs.length = 8) (hlt : ∀ x ∈ gs, x < 65536) :
    Calls Tryz.prog 75 #[arr8 gs] w fun e w' => e = .returned (arr16 (byL gs)) ∧ Below w.heap.size w w' := by
  obtain ⟨x0, x1, x2, x3, x4, x5, x6, x7, hgs⟩ := list8 gs h8
  have ha : arr8 gs = .agg #[.int .u16 (x0 : Int), .int .u16 (x1 : Int), .int .u16 (x2 : Int), .int .u16 (x3 : Int), .int .u16 (x4 : Int), .int .u16 (x5 : Int), .int .u16 (x6 : Int), .int .u16 (x7 : Int)] := by rw [hgs]; rfl
  have hA := Arr8.new w 79 x0 x1 x2 x3 x4 x5 x6 x7
  rw [← hgs] at hA
  have b1 : Below w.heap.size w (w.alloc (.cells #[.int .u16 (x0 : Int), .int .u16 (x1 : Int), .int .u16 (x2 : Int), .int .u16 (x3 : Int), .int .u16 (x4 : Int), .int .u16 (x5 : Int), .int .u16 (x6 : Int), .int .u16 (x7 : Int)] 79)) := (Below.refl _ _).alloc (Nat.le_refl _) _
  have b2 := b1.alloc b1.size (.cells #[.int .u8 0, .int .u8 0, .int .u8 0, .int .u8 0, .int .u8 0, .int .u8 0, .int .u8 0, .int .u8 0, .int .u8 0, .int .u8 0, .int .u8 0, .int .u8 0, .int .u8 0, .int .u8 0, .int .u8 0, .int .u8 0] 22)
  have b3 := b2.alloc b2.size (.cells #[.int .u8 0, .int .u8 0, .int .u8 0, .int .u8 0, .int .u8 0, .int .u8 0, .int .u8 0, .int .u8 0, .int .u8 0, .int .u8 0, .int .u8 0, .int .u8 0, .int .u8 0, .int .u8 0, .int .u8 0, .int .u8 0] 22)
  have hR := ArrI.of (w.alloc (.cells #[.int .u16 (x0 : Int), .int .u16 (x1 : Int), .int .u16 (x2 : Int), .int .u16 (x3 : Int), .int .u16 (x4 : Int), .int .u16 (x5 : Int), .int .u16 (x6 : Int), .int .u16 (x7 : Int)] 79)) #[.int .u8 0, .int .u8 0, .int .u8 0, .int .u8 0, .int .u8 0, .int .u8 0, .int .u8 0, .int .u8 0, .int .u8 0, .int .u8 0, .int .u8 0, .int .u8 0, .int .u8 0, .int .u8 0, .int .u8 0, .int .u8 0] 22 (List.replicate 16 0) zeros16 (n := 16) rfl
  have hP := ArrI.of ((w.alloc (.cells #[.int .u16 (x0 : Int), .int .u16 (x1 : Int), .int .u16 (x2 : Int), .int .u16 (x3 : Int), .int .u16 (x4 : Int), .int .u16 (x5 : Int), .int .u16 (x6 : Int), .int .u16 (x7 : Int)] 79)).alloc (.cells #[.int .u8 0, .int .u8 0, .int .u8 0, .int .u8 0, .int .u8 0, .int .u8 0, .int .u8 0, .int .u8 0, .int .u8 0, .int .u8 0, .int .u8 0, .int .u8 0, .int .u8 0, .int .u8 0, .int .u8 0, .int .u8 0] 22)) #[.int .u8 0, .int .u8 0, .int .u8 0, .int .u8 0, .int .u8 0, .int .u8 0, .int .u8 0, .int .u8 0, .int .u8 0, .int .u8 0, .int .u8 0, .int .u8 0, .int .u8 0, .int .u8 0, .int .u8 0, .int .u8 0] 22 (List.replicate 16 0) zeros16 (n := 16) rfl
  have hA2 := (hA.below ((Below.refl _ _).alloc (Nat.le_refl _) (.cells #[.int .u8 0, .int .u8 0, .int .u8 0, .int .u8 0, .int .u8 0, .int .u8 0, .int .u8 0, .int .u8 0, .int .u8 0, .int .u8 0, .int .u8 0, .int .u8 0, .int .u8 0, .int .u8 0, .int .u8 0, .int .u8 0] 22))).below ((Below.refl _ _).alloc (Nat.le_refl _) (.cells #[.int .u8 0, .int .u8 0, .int .u8 0, .int .u8 0, .int .u8 0, .int .u8 0, .int .u8 0, .int .u8 0, .int .u8 0, .int .u8 0, .int .u8 0, .int .u8 0, .int .u8 0, .int .u8 0, .int .u8 0, .int .u8 0] 22))
  have hR2 := hR.below ((Below.refl _ _).alloc (Nat.le_refl _) (.cells #[.int .u8 0, .int .u8 0, .int .u8 0, .int .u8 0, .int .u8 0, .int .u8 0, .int .u8 0, .int .u8 0, .int .u8 0, .int .u8 0, .int .u8 0, .int .u8 0, .int .u8 0, .int .u8 0, .int .u8 0, .int .u8 0] 22))
  have e1 : (w.alloc (.cells #[.int .u16 (x0 : Int), .int .u16 (x1 : Int), .int .u16 (x2 : Int), .int .u16 (x3 : Int), .int .u16 (x4 : Int), .int .u16 (x5 : Int), .int .u16 (x6 : Int), .int .u16 (x7 : Int)] 79)).heap.size = w.heap.size + 1 := by simp
  have e2 : ((w.alloc (.cells #[.int .u16 (x0 : Int), .int .u16 (x1 : Int), .int .u16 (x2 : Int), .int .u16 (x3 : Int), .int .u16 (x4 : Int), .int .u16 (x5 : Int), .int .u16 (x6 : Int), .int .u16 (x7 : Int)] 79)).alloc (.cells #[.int .u8 0, .int .u8 0, .int .u8 0, .int .u8 0, .int .u8 0, .int .u8 0, .int .u8 0, .int .u8 0, .int .u8 0, .int .u8 0, .int .u8 0, .int .u8 0, .int .u8 0, .int .u8 0, .int .u8 0, .int .u8 0] 22)).heap.size = w.heap.size + 1 + 1 := by simp
  rw [e1] at hR2
  rw [e2] at hP
  rw [ha]
  have H8 := Lib.hid h8
  have HLT := Lib.hid hlt
  clear ha hgs h8 hlt hA hR b1 b2
  go_enter Tryz.func75, Tryz.ntmps75
  go_wp2_with fail
  generalize (((w.alloc (.cells #[.int .u16 (x0 : Int), .int .u16 (x1 : Int), .int .u16 (x2 : Int), .int .u16 (x3 : Int), .int .u16 (x4 : Int), .int .u16 (x5 : Int), .int .u16 (x6 : Int), .int .u16 (x7 : Int)] 79)).alloc (.cells #[.int .u8 0, .int .u8 0, .int .u8 0, .int .u8 0, .int .u8 0, .int .u8 0, .int .u8 0, .int .u8 0, .int .u8 0, .int .u8 0, .int .u8 0, .int .u8 0, .int .u8 0, .int .u8 0, .int .u8 0, .int .u8 0] 22)).alloc (.cells #[.int .u8 0, .int .u8 0, .int .u8 0, .int .u8 0, .int .u8 0, .int .u8 0, .int .u8 0, .int .u8 0, .int .u8 0, .int .u8 0, .int .u8 0, .int .u8 0, .int .u8 0, .int .u8 0, .int .u8 0, .int .u8 0] 22)) = W at *
  clear e1 e2
  have HA := Lib.hid hA2
  have HR := Lib.hid hR2
  have HP := Lib.hid hP
  clear hA2 hR2 hP
  go_loopw [5] (fun i wr => ∃ (k : Nat) (l : List Nat), k ≤ 8 ∧ i = .int .i64 k ∧ Hid (Arr8 wr w.heap.size gs) ∧ Hid (ArrI .u8 16 wr (w.heap.size + 1) (List.replicate 16 0)) ∧ Hid (ArrI .u8 16 wr (w.heap.size + 1 + 1) l) ∧ Hid (l = byL (gs.take k) ++ List.replicate (16 - 2 * k) 0) ∧ Below w.heap.size w wr) (fun i _ => 8 - (intOf i).toNat)
  case atStart => exact ⟨0, _, by decide, rfl, HA, HR, HP, Lib.hid rfl, b3⟩
  case round =>
    obtain ⟨k, l, hk, rfl, HA2, HR2, HP2, HL, hbel⟩ := hrel
    by_cases hk8 : k < 8
    · have hcell := HA2.out.cells k hk8
      have hx : gs.getD k 0 < 65536 := by
        rw [List.getD_eq_getElem?_getD, List.getElem?_eq_getElem (by rw [H8.out]; exact hk8)]
        exact HLT.out _ (List.getElem_mem _)
      have et : gs.take (k + 1) = gs.take k ++ [gs.getD k 0] := by
        rw [List.take_add_one, List.getD_eq_getElem?_getD, List.getElem?_eq_getElem (by rw [H8.out]; exact hk8)]; rfl
      obtain ⟨x, ex⟩ : ∃ x, gs.getD k 0 = x := ⟨_, rfl⟩
      rw [ex] at hcell hx et
      obtain ⟨c, hc, ec⟩ : ∃ c : Nat, 2 * k = c ∧ (2 : Int) * (k : Int) = (c : Int) := ⟨_, rfl, by omega⟩
      obtain ⟨hi, hhi, ehi⟩ : ∃ hi : Nat, x / 256 = hi ∧ (x : Int) / 256 = (hi : Int) := ⟨_, rfl, by omega⟩
      obtain ⟨lo, hlo⟩ : ∃ lo : Nat, x % 256 = lo := ⟨_, rfl⟩
      have whi : IntKind.u8.wrap (hi : Int) = (hi : Int) := by rw [IntKind.wrap_u8]; omega
      have wlo : IntKind.u8.wrap (x : Int) = (lo : Int) := by rw [IntKind.wrap_u8]; omega
      have hc15 : c + 1 < 16 := by omega
      have c0 : (0 : Int) ≤ (c : Int) := by omega
      have c1 : (c : Int) < 16 := by omega
      have c2 : (c : Int) + 1 < 16 := by omega
      have c3 : (0 : Int) ≤ (c : Int) + 1 := by omega
      have k0 : (0 : Int) ≤ (k : Int) := by omega
      have k1 : (k : Int) < 8 := by omega
      have hp0 := HP2.out.cells c (by omega)
      have hp1 := HP2.out.cells (c + 1) (by omega)
      have hl0 := HP2.out.live c (by omega)
      have hl1 := HP2.out.live (c + 1) (by omega)
      generalize l.getD c 0 = o0 at hp0
      generalize l.getD (c + 1) 0 = o1 at hp1
      have HS := Lib.hid ((HP2.out.set (i := c) (by omega) hi).set (i := c + 1) (by omega) lo)
      have HE : Hid (((l.set c hi).set (c + 1) lo) = byL (gs.take (k + 1)) ++ List.replicate (16 - 2 * (k + 1)) 0) := Lib.hid (by
        rw [HL.out, et, byL_snoc, ← hc, ← hhi, ← hlo]
        exact set_two _ k _ _ hk8 (by rw [byL_len, List.length_take, H8.out]; omega))
      clear ex et hc hhi hlo
      go_wp2_with fail
      go_region
      go_wp2_with fail
      go_roundw
      case rel => exact ⟨k + 1, (l.set c hi).set (c + 1) lo, by omega, by go_num, Lib.hid (((HA2.out.other (by omega) _).other (by omega) _).below (Below.refl _ _).drew), Lib.hid (((HR2.out.other (by omega) _).other (by omega) _).below (Below.refl _ _).drew), Lib.hid (HS.out.below (Below.refl _ _).drew), HE, ((hbel.setCell (p := ⟨w.heap.size + 1 + 1, c, none⟩) (by show w.heap.size ≤ w.heap.size + 1 + 1; omega) _).setCell (p := ⟨w.heap.size + 1 + 1, c + 1, none⟩) (by show w.heap.size ≤ w.heap.size + 1 + 1; omega) _).drew⟩
      case measure => simp [intOf]; omega
    · obtain rfl : k = 8 := by omega
      have hll : l = byL gs := by rw [HL.out, List.take_of_length_le (by rw [H8.out]; exact Nat.le_refl _)]; simp
      subst hll
      have hP8 := HP2.out
      obtain ⟨y0, y1, y2, y3, y4, y5, y6, y7, y8, y9, y10, y11, y12, y13, y14, y15, hy⟩ := list16 (byL gs) hP8.len
      rw [hy] at hP8
      have HY := Lib.hid hy
      obtain ⟨c0, c1, c2, c3, c4, c5, c6, c7, c8, c9, c10, c11, c12, c13, c14, c15⟩ := hP8.all16
      obtain ⟨r0, r1, r2, r3, r4, r5, r6, r7, r8, r9, r10, r11, r12, r13, r14, r15⟩ := (show ArrI .u8 16 wr (w.heap.size + 1) [0, 0, 0, 0, 0, 0, 0, 0, 0, 0, 0, 0, 0, 0, 0, 0] from HR2.out).all16
      obtain ⟨f0, f1, f2, f3, f4, f5, f6, f7, f8, f9, f10, f11, f12, f13, f14, f15⟩ := HR2.out.lives16
      have E1 := Lib.hid (store16_arr y0 y1 y2 y3 y4 y5 y6 y7 y8 y9 y10 y11 y12 y13 y14 y15 HR2.out)
      have E2 := Lib.hid (store16_below y0 y1 y2 y3 y4 y5 y6 y7 y8 y9 y10 y11 y12 y13 y14 y15 hbel (show w.heap.size ≤ w.heap.size + 1 by omega))
      clear hP8 hy
      go_wp2_with fail
      change bodyPost _ _ _ _ _ (store16 wr (w.heap.size + 1) y0 y1 y2 y3 y4 y5 y6 y7 y8 y9 y10 y11 y12 y13 y14 y15)
      generalize store16 wr (w.heap.size + 1) y0 y1 y2 y3 y4 y5 y6 y7 y8 y9 y10 y11 y12 y13 y14 y15 = W at *
      clear c0 c1 c2 c3 c4 c5 c6 c7 c8 c9 c10 c11 c12 c13 c14 c15 r0 r1 r2 r3 r4 r5 r6 r7 r8 r9 r10 r11 r12 r13 r14 r15 f0 f1 f2 f3 f4 f5 f6 f7 f8 f9 f10 f11 f12 f13 f14 f15
      obtain ⟨r0, r1, r2, r3, r4, r5, r6, r7, r8, r9, r10, r11, r12, r13, r14, r15⟩ := E1.out.all16
      refine bodyPost_ret (v := arr16 [y0, y1, y2, y3, y4, y5, y6, y7, y8, y9, y10, y11, y12, y13, y14, y15]) (by simp [results, Tryz.results75, go_sem, r0, r1, r2, r3, r4, r5, r6, r7, r8, r9, r10, r11, r12, r13, r14, r15, arr16]) rfl ⟨by rw [HY.out], E2.out⟩

theorem zeros8u : (#[.int .u16 0, .int .u16 0, .int .u16 0, .int .u16 0, .int .u16 0, .int .u16 0, .int .u16 0, .int .u16 0] : Array Value).toList = (List.replicate 8 0).map fun x => Value.int .u16 ((x : Nat) : Int) := rfl

end Go.Proofs.YtgbajagacmfcmaaGreatDoor
/- Contracts of addr.Four, addr.mapped, addr.Of4, addr.Of6. -/
namespace Go.Proofs.YtgbajagacmfcmaaGreatDoor
open Go.RowKit
set_option linter.unusedVariables false
set_option maxRecDepth 20000

/-- The bytes of the one that is unmapped to n. -/
def mapL (n : Nat) : List Nat := [0, 0, 0, 0, 0, 0, 0, 0, 0, 0, 255, 255, n / 16777216 % 256, n / 65536 % 256, n / 256 % 256, n % 256]
set_option maxRecDepth 100000 in
set_option maxHeartbeats 1000000 in
theorem addrMapped_any (n : Nat) (w : World) (hn : n ≤ 4294967295) :
    Calls Tryz.prog 31 #[.int .u32 (n : Int)] w fun e w' => e = .returned (arr16 (mapL n)) ∧ Below w.heap.size w w' := by
  have HE : Hid (mapL n = [0, 0, 0, 0, 0, 0, 0, 0, 0, 0, 255, 255, n / 16777216 % 256, n / 65536 % 256, n / 256 % 256, n % 256]) := Lib.hid rfl
  have HBy := fun W => Lib.hid (bytes_any (n / 16777216 % 256) (n / 65536 % 256) (n / 256 % 256) (n % 256) n W (by omega) (by omega) (by omega) (by omega) (by unfold num4; omega))
  have HZ := Lib.hid (b16_new w 22 z16 (List.replicate 16 0) rfl rfl)
  have HB : Hid (Below w.heap.size w (w.alloc (.cells z16 22))) := Lib.hid ((Below.refl _ _).alloc (Nat.le_refl _) _)
  generalize n / 16777216 % 256 = a at *
  generalize n / 65536 % 256 = b at *
  generalize n / 256 % 256 = c at *
  generalize n % 256 = d at *
  unfold arr4 at HBy
  go_enter Tryz.func31, Tryz.ntmps31
  go_upto_region 1 with fail
  generalize (w.alloc (.cells z16 22)) = W at *
  go_wp2_with fail
  refine (HBy W).out.mono ?_
  rintro e w1 ⟨rfl, hb1⟩
  have HZ1 := Lib.hid ((HZ.out.below hb1).below ((Below.refl w1.heap.size w1).alloc (Nat.le_refl _) (.cells #[.int .u8 (a : Int), .int .u8 (b : Int), .int .u8 (c : Int), .int .u8 (d : Int)] 75)))
  have HB1 := Lib.hid (chain (chain HB.out hb1) ((Below.refl w1.heap.size w1).alloc (Nat.le_refl _) (.cells #[.int .u8 (a : Int), .int .u8 (b : Int), .int .u8 (c : Int), .int .u8 (d : Int)] 75)))
  clear HZ HB hb1 HBy
  have HLN : Hid ([0, 0, 0, 0, 0, 0, 0, 0, 0, 0, 255, 255, a, b, c, d].length = 16) := Lib.hid rfl
  go_wp2_with (refine store_b16 HZ1 _ _ HLN rfl rfl rfl rfl (fun W HW HA => ?_))
  refine bodyPost_ret (v := arr16 [0, 0, 0, 0, 0, 0, 0, 0, 0, 0, 255, 255, a, b, c, d]) (results_b16 Tryz.results31 rfl HA.out) rfl ⟨by rw [HE.out], by rw [HW.out]; exact below_cells (Nat.le_refl _) _ _ _ HB1.out⟩
/-- An address of 32 bits. -/
theorem b4_list (n : Nat) (hn : n ≤ 4294967295) : b4 n = [n / 16777216 % 256, n / 65536 % 256, n / 256 % 256, n % 256, 0, 0, 0, 0, 0, 0, 0, 0, 0, 0, 0, 0] := b4_eq n
set_option maxRecDepth 100000 in
set_option maxHeartbeats 1000000 in
theorem addrOf4_any (n : Nat) (w : World) (hn : n ≤ 4294967295) :
    Calls Tryz.prog 32 #[.int .u32 (n : Int)] w fun e w' => e = .returned (addrV 4 (b4 n)) ∧ Below w.heap.size w w' := by
  have HE := Lib.hid (b4_eq n)
  have HBy := fun W => Lib.hid (bytes_any (n / 16777216 % 256) (n / 65536 % 256) (n / 256 % 256) (n % 256) n W (by omega) (by omega) (by omega) (by omega) (by unfold num4; omega))
  have HZ := Lib.hid (addr_zeroed w)
  have HB : Hid (Below w.heap.size w (w.alloc (.cells zA 24))) := Lib.hid ((Below.refl _ _).alloc (Nat.le_refl _) _)
  generalize n / 16777216 % 256 = a at *
  generalize n / 65536 % 256 = b at *
  generalize n / 256 % 256 = c at *
  generalize n % 256 = d at *
  unfold arr4 at HBy
  go_enter Tryz.func32, Tryz.ntmps32
  go_upto_region 1 with fail
  generalize (w.alloc (.cells zA 24)) = W at *
  go_wp2_with fail
  refine (HBy W).out.mono ?_
  rintro e w1 ⟨rfl, hb1⟩
  have HZ1 := Lib.hid ((HZ.out.below hb1).alloc (.cells #[.int .u8 (a : Int), .int .u8 (b : Int), .int .u8 (c : Int), .int .u8 (d : Int)] 75))
  have HB1 := Lib.hid (chain (chain HB.out hb1) ((Below.refl w1.heap.size w1).alloc (Nat.le_refl _) (.cells #[.int .u8 (a : Int), .int .u8 (b : Int), .int .u8 (c : Int), .int .u8 (d : Int)] 75)))
  clear HZ HB hb1 HBy
  have HLN : Hid ([a, b, c, d, 0, 0, 0, 0, 0, 0, 0, 0, 0, 0, 0, 0].length = 16) := Lib.hid rfl
  go_wp2_with (refine store_addr HZ1 _ _ HLN rfl rfl rfl rfl (fun W HW HA => ?_))
  refine bodyPost_ret (v := addrV 4 [a, b, c, d, 0, 0, 0, 0, 0, 0, 0, 0, 0, 0, 0, 0]) (results_addr Tryz.results32 rfl HA.out) rfl ⟨by rw [HE.out], by rw [HW.out]; exact below_cells (Nat.le_refl _) _ _ _ HB1.out⟩
set_option maxRecDepth 100000 in
set_option maxHeartbeats 1000000 in
theorem addrOf6_any (gs : List Nat) (w : World) (h8 : gs.length = 8) (hlt : ∀ x ∈ gs, x < 65536) :
    Calls Tryz.prog 61 #[arr8 gs] w fun e w' => e = .returned (addrV 6 (byL gs)) ∧ Below w.heap.size w w' := by
  have HBy := fun W => Lib.hid (sixBytes_any gs W h8 hlt)
  obtain ⟨x0, x1, x2, x3, x4, x5, x6, x7, hgs⟩ := list8 gs h8
  have ha : arr8 gs = .agg #[.int .u16 (x0 : Int), .int .u16 (x1 : Int), .int .u16 (x2 : Int), .int .u16 (x3 : Int), .int .u16 (x4 : Int), .int .u16 (x5 : Int), .int .u16 (x6 : Int), .int .u16 (x7 : Int)] := by rw [hgs]; rfl
  obtain ⟨y0, y1, y2, y3, y4, y5, y6, y7, y8, y9, y10, y11, y12, y13, y14, y15, hbs⟩ := list16 (byL gs) (by rw [byL_len, h8])
  have HZ := addr_zeroed (w.alloc (.cells #[.int .u16 (x0 : Int), .int .u16 (x1 : Int), .int .u16 (x2 : Int), .int .u16 (x3 : Int), .int .u16 (x4 : Int), .int .u16 (x5 : Int), .int .u16 (x6 : Int), .int .u16 (x7 : Int)] 79))
  rw [heap_alloc] at HZ
  have b1 : Below w.heap.size w (w.alloc (.cells #[.int .u16 (x0 : Int), .int .u16 (x1 : Int), .int .u16 (x2 : Int), .int .u16 (x3 : Int), .int .u16 (x4 : Int), .int .u16 (x5 : Int), .int .u16 (x6 : Int), .int .u16 (x7 : Int)] 79)) := (Below.refl _ _).alloc (Nat.le_refl _) _
  have HB := Lib.hid (b1.alloc b1.size (.cells zA 24))
  have hA := (Arr8.of8 w 79 x0 x1 x2 x3 x4 x5 x6 x7).below ((Below.refl _ _).alloc (Nat.le_refl _) (.cells zA 24))
  have HE := Lib.hid hbs
  rw [ha] at HBy ⊢
  rw [hbs] at HBy
  unfold arr16 at HBy
  have HZH := Lib.hid HZ
  clear HZ b1 ha hgs hbs h8 hlt
  go_enter Tryz.func61, Tryz.ntmps61
  go_upto_region 1 with fail
  generalize ((w.alloc (.cells #[.int .u16 (x0 : Int), .int .u16 (x1 : Int), .int .u16 (x2 : Int), .int .u16 (x3 : Int), .int .u16 (x4 : Int), .int .u16 (x5 : Int), .int .u16 (x6 : Int), .int .u16 (x7 : Int)] 79)).alloc (.cells zA 24)) = W at *
  obtain ⟨c0, c1, c2, c3, c4, c5, c6, c7⟩ := hA.all
  go_wp2_with fail
  refine (HBy W).out.mono ?_
  rintro e w1 ⟨rfl, hb1⟩
  have HZ1 := Lib.hid (HZH.out.below hb1)
  have HB1 := Lib.hid (chain HB.out hb1)
  clear HZH HB hb1 HBy hA c0 c1 c2 c3 c4 c5 c6 c7
  have HLN : Hid ([y0, y1, y2, y3, y4, y5, y6, y7, y8, y9, y10, y11, y12, y13, y14, y15].length = 16) := Lib.hid rfl
  go_wp2_with (refine store_addr HZ1 _ _ HLN rfl rfl rfl rfl (fun W HW HA => ?_))
  refine bodyPost_ret (v := addrV 6 [y0, y1, y2, y3, y4, y5, y6, y7, y8, y9, y10, y11, y12, y13, y14, y15]) (results_addr Tryz.results61 rfl HA.out) rfl ⟨by rw [HE.out], by rw [HW.out]; exact below_cells (by omega) _ _ _ HB1.out⟩
end Go.Proofs.YtgbajagacmfcmaaGreatDoor
/- Contract of addr.May. -/
namespace Go.Proofs.YtgbajagacmfcmaaGreatDoor
open Go.RowKit
set_option linter.unusedVariables false
set_option maxRecDepth 20000

end Go.Proofs.YtgbajagacmfcmaaGreatDoor
/- Contracts of addr.Map, addr.Unmap. -/
namespace Go.Proofs.YtgbajagacmfcmaaGreatDoor
open Go.RowKit
set_option linter.unusedVariables false
set_option maxRecDepth 20000

theorem mapL_len (n : Nat) : (mapL n).length = 16 := rfl
theorem map_map8 (n : Nat) (hn : n ≤ 4294967295) : byL (map8 n) = mapL n := by
  unfold map8 byL mapL
  simp
  omega
end Go.Proofs.YtgbajagacmfcmaaGreatDoor
