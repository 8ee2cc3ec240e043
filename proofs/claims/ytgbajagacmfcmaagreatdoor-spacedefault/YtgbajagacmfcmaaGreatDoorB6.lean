/- Texts that belong together, one behind the other: OpenRows, OpenPref, OpenDeeds, TabFoot, TabRow, TabBlk, TabKit, CidrOrder, TabCmp, TabSearch, CidrMasksMath, TabMath, TabDel. -/
import Derived.Test.YtgbajagacmfcmaaGreatDoorB5
import Derived.Deep.Slices
import Derived.Deep.MidRow
import Derived.Lib.SmallJoins
import Derived.Lib.AppendZerosOnto
import Derived.Lib.Overlaps
import Derived.Laws.Externs
import Derived.Laws.IdiomCopy
/- A row (a slice) of structs that came in, opened: the list of its elements, as they lie. -/
namespace Go.Proofs.YtgbajagacmfcmaaGreatDoor
open Go.ChangeShapes Go.WideShapes Go.ChangeAt Go.RowKit
set_option linter.unusedVariables false
set_option maxRecDepth 20000

theorem flatMap_len {α : Type} (Lf : α → List Value) (S : Nat) : ∀ D : List α, (∀ d ∈ D, (Lf d).length = S) → (D.flatMap Lf).length = D.length * S
  | [], _ => by simp
  | d :: D, h => by
    rw [List.flatMap_cons, List.length_append, h d (by simp), flatMap_len Lf S D (fun x hx => h x (by simp [hx])), List.length_cons, Nat.succ_mul, Nat.add_comm]
theorem flatMap_at {α : Type} (Lf : α → List Value) (S : Nat) : ∀ D : List α, (∀ d ∈ D, (Lf d).length = S) → ∀ k (hk : k < D.length) j, j < S → (D.flatMap Lf)[k * S + j]? = (Lf D[k])[j]?
  | [], _, k, hk, j, hj => absurd hk (by simp)
  | d :: D, h, k, hk, j, hj => by
    have h1 := h d (by simp)
    rw [List.flatMap_cons]
    cases k with
    | zero => rw [Nat.zero_mul, Nat.zero_add, List.getElem?_append_left (by omega)]; rfl
    | succ k =>
      rw [List.getElem?_append_right (by rw [h1, Nat.succ_mul]; omega), h1, show (k + 1) * S + j - S = k * S + j by rw [Nat.succ_mul]; omega]
      exact flatMap_at Lf S D (fun x hx => h x (by simp [hx])) k (by simpa using hk) j hj
/-- Where an element lies. -/
theorem range_at {α : Type} {Lf : α → List Value} {S : Nat} {w : World} {g o : Nat} {D : List α} (h : w.rangeAt g o (D.flatMap Lf)) (hl : ∀ d ∈ D, (Lf d).length = S) (k : Nat) (hk : k < D.length) : w.rangeAt g (o + k * S) (Lf D[k]) := by
  intro j u hu
  have hj : j < S := by
    have := hl _ (List.getElem_mem hk)
    apply Classical.byContradiction
    intro h2
    rw [List.getElem?_eq_none (by omega)] at hu
    cases hu
  have := h (k * S + j) u (by rw [flatMap_at Lf S D hl k hk j hj]; exact hu)
  rw [← Nat.add_assoc] at this
  exact this
theorem choose_list {α : Type} (p : Nat → α → Prop) : ∀ n, (∀ i, i < n → ∃ d, p i d) → ∃ D : List α, D.length = n ∧ ∀ i (hi : i < D.length), p i D[i]
  | 0, _ => ⟨[], rfl, fun i hi => absurd hi (by simp)⟩
  | n + 1, h => by
    obtain ⟨D, h1, h2⟩ := choose_list p n (fun i hi => h i (by omega))
    obtain ⟨d, hd⟩ := h n (by omega)
    refine ⟨D ++ [d], by simp [h1], fun i hi => ?_⟩
    by_cases e : i < D.length
    · rw [List.getElem_append_left e]; exact h2 i e
    · have hin : i = D.length := by simp at hi; omega
      subst hin
      rw [List.getElem_append_right (Nat.le_refl _)]
      simp only [Nat.sub_self, List.getElem_cons_zero]
      rw [h1]
      exact hd
theorem mapM_some {α : Type} (f : Nat → Option α) : ∀ (n : Nat) (cs : List α), (List.range n).mapM f = some cs → cs.length = n ∧ ∀ j (hj : j < cs.length), f j = some cs[j] := by
  intro n
  induction n with
  | zero => intro cs h; simp at h; subst h; exact ⟨rfl, fun j hj => absurd hj (by simp)⟩
  | succ n ih =>
    intro cs h
    rw [List.range_succ, List.mapM_append] at h
    simp only [Option.bind_eq_bind, List.mapM_cons, List.mapM_nil, Option.pure_def] at h
    cases h1 : (List.range n).mapM f with
    | none => rw [h1] at h; simp at h
    | some xs =>
      rw [h1] at h
      cases h2 : f n with
      | none => rw [h2] at h; simp at h
      | some y =>
        rw [h2] at h
        simp at h
        obtain ⟨l1, l2⟩ := ih xs h1
        subst h
        refine ⟨by simp [l1], fun j hj => ?_⟩
        by_cases e : j < xs.length
        · rw [List.getElem_append_left e]; exact l2 j e
        · have hjn : j = xs.length := by simp at hj; omega
          subst hjn
          rw [List.getElem_append_right (Nat.le_refl _)]
          simp only [Nat.sub_self, List.getElem_cons_zero]
          rw [l1]
          exact h2
/-- A row of structs, opened. -/
theorem open_rows {α : Type} {H : Type} {enc : TypeId × Value → H} {W : World} {spare : Nat → Bool} {t e : TypeId} {fuel : Nat} {a : Option Addr} {len cap : Nat} {x : DataW H × List MemPlace} (Lf : α → List Value) (S : Nat) (q : α → Prop)
    (ht : Tryz.prog.underlying t = some (.slice e)) (hS : Tryz.prog.cellsOf e = S) (hpos : 0 < S)
    (hel : ∀ (n : Nat) (cs : List Value) (y : DataW H × List MemPlace), cs.length = S → DataW.trod enc Tryz.prog W 0 spare true n e cs = some y → ∃ d, cs = Lf d ∧ q d)
    (h : DataW.trod enc Tryz.prog W 0 spare true fuel t [.slice a len cap] = some x) :
    len ≤ cap ∧ cap ≤ maxLen ∧ (len = 0 ∨ ∃ (g o : Nat) (D : List α), a = some ⟨g, o, none⟩ ∧ D.length = len ∧ (∀ d ∈ D, q d ∧ (Lf d).length = S) ∧ W.rangeAt g o (D.flatMap Lf) ∧ g < W.heap.size) := by
  rcases Deep.open_slice ht h with ⟨h0, _⟩ | ⟨a', len', cap', m, n, D, Pl, h0, hb, hl, hm, hmm, _, hc⟩
  · injection h0 with h0 _
    injection h0 with h1 h2 h3
    subst h1 h2 h3
    exact ⟨Nat.le_refl _, Nat.zero_le _, .inl rfl⟩
  · injection h0 with h0 _
    injection h0 with h1 h2 h3
    subst h1 h2 h3
    refine ⟨hl, hm, ?_⟩
    by_cases hz : len = 0
    · exact .inl hz
    · right
      have hle : len ≤ m := by rw [hmm]; split <;> omega
      rw [hS] at hc
      have key : ∀ i, i < len → ∃ d, (∀ j u, (Lf d)[j]? = some u → W.cell? ((a'.add (i * S)).add j) = some u) ∧ q d ∧ (Lf d).length = S := fun i hi => by
        obtain ⟨cs, c1, c2⟩ := hc i (by omega)
        unfold World.cells? at c1
        rw [if_pos (Nat.zero_le _)] at c1
        obtain ⟨l1, l2⟩ := mapM_some _ _ _ c1
        obtain ⟨d, rfl, hq⟩ := hel n cs _ l1 c2
        refine ⟨d, fun j u hu => ?_, hq, l1⟩
        have hj : j < (Lf d).length := by
          apply Classical.byContradiction
          intro h2
          rw [List.getElem?_eq_none (by omega)] at hu
          cases hu
        rw [l2 j hj]
        rw [List.getElem?_eq_getElem hj] at hu
        exact hu
      obtain ⟨D, d1, d2⟩ := choose_list _ len key
      obtain ⟨d0, e1, _, e3⟩ := key 0 (by omega)
      have hc0 := e1 0 _ (List.getElem?_eq_getElem (by omega))
      have hspot : a'.spot = none := by
        rw [Nat.zero_mul] at hc0
        have : (a'.add 0).add 0 = a' := by simp [Addr.add]
        rw [this] at hc0
        unfold World.cell? at hc0
        split at hc0
        · split at hc0
          · cases hc0
          · rename_i h; simpa using h
        · cases hc0
      obtain ⟨g, o, sp⟩ := a'
      simp only at hspot
      subst hspot
      have hadd : ∀ i j, ((⟨g, o, none⟩ : Addr).add i).add j = ⟨g, o + i + j, none⟩ := fun i j => by
        unfold Addr.add
        split <;> split <;> simp_all [Nat.add_assoc]
      have hlen : ∀ d ∈ D, (Lf d).length = S := fun d hd => by
        obtain ⟨i, hi, rfl⟩ := List.getElem_of_mem hd
        exact (d2 i hi).2.2
      refine ⟨g, o, D, rfl, d1, fun d hd => ?_, fun k u hu => ?_, ?_⟩
      · obtain ⟨i, hi, rfl⟩ := List.getElem_of_mem hd
        exact ⟨(d2 i hi).2.1, (d2 i hi).2.2⟩
      · have hk : k < D.length * S := by
          rw [← flatMap_len Lf S D hlen]
          apply Classical.byContradiction
          intro h2
          rw [List.getElem?_eq_none (by omega)] at hu
          cases hu
        have hq : k / S < D.length := Nat.div_lt_of_lt_mul (by rw [Nat.mul_comm]; exact hk)
        have hkk : k / S * S + k % S = k := by rw [Nat.mul_comm]; exact Nat.div_add_mod k S
        have h3 := flatMap_at Lf S D hlen (k / S) hq (k % S) (Nat.mod_lt _ hpos)
        rw [hkk, hu] at h3
        have h4 := (d2 (k / S) hq).1 (k % S) u h3.symm
        rw [hadd] at h4
        rw [← hkk, ← Nat.add_assoc]
        exact h4
      · rw [Nat.zero_mul, hadd] at hc0
        unfold World.cell? at hc0
        apply Classical.byContradiction
        intro h2
        rw [Array.getElem?_eq_none (by simpa using h2)] at hc0
        cases hc0
end Go.Proofs.YtgbajagacmfcmaaGreatDoor
/- A prefix (api.Prefix) that came in, opened: its address's family, the list of its bytes, its bits. -/
namespace Go.Proofs.YtgbajagacmfcmaaGreatDoor
open Go.ChangeShapes Go.WideShapes Go.ChangeAt Go.RowKit
set_option linter.unusedVariables false
set_option maxRecDepth 20000

theorem addr_of_trod {H : Type} {enc : TypeId × Value → H} {W : World} {spare : Nat → Bool} {fuel : Nat} {l : List Value} {x : DataW H × List MemPlace} (hl : l.length = 17)
    (hf : DataW.trod enc Tryz.prog W 0 spare true fuel 24 l = some x) : ∃ (f : Int) (bs : List Nat), l = addrL f bs ∧ (Lit.int .i64 f).wf = true ∧ bs.length = 16 ∧ ∀ x ∈ bs, x < 256 := by
  have hs := Tryz.underlying24
  obtain ⟨y0, y1, n, _, _, h0, h1⟩ := trod_struct2 hs hf
  obtain ⟨f, h2, _, h3⟩ := DataW.trod_int Tryz.underlying3 h0
  obtain ⟨zs, h4, h5, h6⟩ := ints_of_trod Tryz.underlying22 Tryz.underlying5 (by kernel_rfl) (by kernel_rfl) h1
  have hc1 : Tryz.prog.cellsOf 3 = 1 := by kernel_rfl
  have hc16 : Tryz.prog.cellsOf 22 = 16 := by kernel_rfl
  refine ⟨f, zs.map Int.toNat, ?_, h3, by simpa using h5, ?_⟩
  · unfold addrL
    have e1 : l = (l.drop 0).take 1 ++ (l.drop 1).take 16 := by
      have : (l.drop 1).take 16 = l.drop 1 := List.take_of_length_le (by simp; omega)
      rw [this, List.drop_zero, List.take_append_drop]
    rw [e1]
    have e2 : (l.drop 0).take 1 = [Value.int .i64 f] := by rw [← h2, hc1]
    have e3 : (l.drop 1).take 16 = zs.map (Value.int .u8) := by rw [← h4, hc16]
    rw [e2, e3, List.map_map]
    show Value.int .i64 f :: zs.map (Value.int .u8) = Value.int .i64 f :: _
    congr 1
    apply List.map_congr_left
    intro z hz
    have := bounds_u8 (h6 z hz)
    show Value.int .u8 z = Value.int .u8 ((z.toNat : Nat) : Int)
    congr 1
    omega
  · intro x hx
    obtain ⟨z, hz, rfl⟩ := List.mem_map.1 hx
    have := bounds_u8 (h6 z hz)
    omega
theorem pref_of_trod {H : Type} {enc : TypeId × Value → H} {W : World} {spare : Nat → Bool} {fuel : Nat} {l : List Value} {x : DataW H × List MemPlace} (hl : l.length = 18)
    (hf : DataW.trod enc Tryz.prog W 0 spare true fuel 45 l = some x) : ∃ (f : Int) (bs : List Nat) (n : Int), l = prefL f bs n ∧ (Lit.int .i64 f).wf = true ∧ bs.length = 16 ∧ (∀ x ∈ bs, x < 256) ∧ (Lit.int .i64 n).wf = true := by
  have hs := Tryz.underlying45
  obtain ⟨y0, y1, k, _, _, h0, h1⟩ := trod_struct2 hs hf
  have hc1 : Tryz.prog.cellsOf 3 = 1 := by kernel_rfl
  have hc17 : Tryz.prog.cellsOf 24 = 17 := by kernel_rfl
  rw [hc17] at h0
  rw [hc1] at h1
  obtain ⟨f, bs, e1, w1, l1, b1⟩ := addr_of_trod (by simp; omega) h0
  obtain ⟨n, h2, _, h3⟩ := DataW.trod_int Tryz.underlying3 h1
  refine ⟨f, bs, n, ?_, w1, l1, b1, h3⟩
  unfold prefL
  have e2 : l = (l.drop 0).take 17 ++ (l.drop 17).take 1 := by
    have : (l.drop 17).take 1 = l.drop 17 := List.take_of_length_le (by simp; omega)
    rw [this, List.drop_zero, List.take_append_drop]
  rw [e2, e1, h2]
theorem open_pref {H : Type} {enc : TypeId × Value → H} {W : World} {base : Nat} {spare : Nat → Bool} {v : Value} {d : DataW H} {ps : List MemPlace}
    (hok : Value.okWide Tryz.prog W .any base 45 v) (h : DataW.Trod enc Tryz.prog W 0 spare true 45 v d ps) :
    ∃ (f : Int) (bs : List Nat) (n : Int), v = prefV f bs n ∧ (Lit.int .i64 f).wf = true ∧ bs.length = 16 ∧ (∀ x ∈ bs, x < 256) ∧ (Lit.int .i64 n).wf = true := by
  have hs := Tryz.underlying45
  obtain ⟨cs, rfl, hsz, _⟩ : ∃ cs, v = .agg cs ∧ cs.size = Tryz.prog.cellsOf 45 ∧ Row.okWide Tryz.prog W .any base 45 cs := by
    simpa [Value.okWide, hs] using hok
  rw [show Tryz.prog.cellsOf 45 = 18 by kernel_rfl] at hsz
  obtain ⟨fuel, hf⟩ := h
  have e0 : (Value.cells (.agg cs)).toList = cs.toList := rfl
  rw [e0] at hf
  obtain ⟨f, bs, n, e1, h1, h2, h3, h4⟩ := pref_of_trod (by simpa using hsz) hf
  refine ⟨f, bs, n, ?_, h1, h2, h3, h4⟩
  unfold prefV
  rw [← e1]
end Go.Proofs.YtgbajagacmfcmaaGreatDoor
/- Rows of deeds (abatislaw06.Deed) and of addresses that came in, opened. -/
namespace Go.Proofs.YtgbajagacmfcmaaGreatDoor
open Go.ChangeShapes Go.WideShapes Go.ChangeAt Go.RowKit
set_option linter.unusedVariables false
set_option maxRecDepth 20000

/-- A deed. -/
structure DeedD where
  kind : Int
  f : Int
  b : List Nat
  n : Int
  v : Int
  raw : Bool
def DeedD.L (d : DeedD) : List Value := [Value.int .i64 d.kind] ++ prefL d.f d.b d.n ++ [Value.int .i64 d.v] ++ [Value.bool d.raw]
def DeedD.Ok (d : DeedD) : Prop := (Lit.int .i64 d.kind).wf = true ∧ d.b.length = 16 ∧ (∀ x ∈ d.b, x < 256) ∧ (Lit.int .i64 d.n).wf = true ∧ (Lit.int .i64 d.v).wf = true
theorem DeedD.L_len (d : DeedD) (h : d.b.length = 16) : d.L.length = 21 := by simp [DeedD.L, prefL_len _ _ _ h]
/-- A row of deeds, as a walk reads it. -/
def DeedsAt (W : World) (a : Option Addr) (len cap : Nat) (D : List DeedD) : Prop := len ≤ cap ∧ cap ≤ maxLen ∧ D.length = len ∧ (∀ d ∈ D, d.Ok) ∧ (len = 0 ∨ ∃ g o, a = some ⟨g, o, none⟩ ∧ W.rangeAt g o (D.flatMap DeedD.L) ∧ g < W.heap.size)
/-- A row of addresses. -/
def AddrsAt (W : World) (a : Option Addr) (len cap : Nat) (D : List (Int × List Nat)) : Prop := len ≤ cap ∧ cap ≤ maxLen ∧ D.length = len ∧ (∀ d ∈ D, d.2.length = 16 ∧ ∀ x ∈ d.2, x < 256) ∧ (len = 0 ∨ ∃ g o, a = some ⟨g, o, none⟩ ∧ W.rangeAt g o (D.flatMap fun d => addrL d.1 d.2) ∧ g < W.heap.size)
end Go.Proofs.YtgbajagacmfcmaaGreatDoor
/- What a thing of one's own may turn: the blocks of its footprint, and new ones. -/
namespace Go.Proofs.YtgbajagacmfcmaaGreatDoor
open Go.RowKit
set_option linter.unusedVariables false
set_option maxRecDepth 20000

/-- Nothing but the blocks of F has turned; F' holds such as were in F, and new ones. -/
structure Foot (F F' : List Nat) (w w' : World) : Prop where
  os : w'.os = w.os
  tape : w'.tape = w.tape
  output : w'.output = w.output
  size : w.heap.size ≤ w'.heap.size
  keep : ∀ k, k < w.heap.size → k ∉ F → w'.heap[k]? = w.heap[k]?
  new : ∀ k ∈ F', k ∈ F ∨ w.heap.size ≤ k
theorem Foot.ofBelow (F : List Nat) {w w' : World} (h : Below w.heap.size w w') : Foot F F w w' := ⟨h.os, h.tape, h.output, h.size, fun k hk _ => h.block k hk, fun k hk => .inl hk⟩
theorem Foot.trans {F F' F'' : List Nat} {a b c : World} (h : Foot F F' a b) (k : Foot F' F'' b c) : Foot F F'' a c :=
  ⟨k.os.trans h.os, k.tape.trans h.tape, k.output.trans h.output, Nat.le_trans h.size k.size, fun i hi hn => (k.keep i (Nat.lt_of_lt_of_le hi h.size) (fun e => by
    rcases h.new i e with e | e
    · exact hn e
    · omega)).trans (h.keep i hi hn), fun i hi => by
    rcases k.new i hi with e | e
    · exact h.new i e
    · exact .inr (Nat.le_trans h.size e)⟩
theorem Foot.below {F F' : List Nat} {w w' : World} {B : Nat} (h : Foot F F' w w') (hF : ∀ k ∈ F, B ≤ k) (hB : B ≤ w.heap.size) : Below B w w' :=
  ⟨h.os, h.tape, h.output, h.size, fun k hk => h.keep k (by omega) (fun e => by have := hF k e; omega)⟩
theorem Foot.out {F F' : List Nat} {w w' : World} (h : Foot F F' w w') {k : Nat} (hk : k < w.heap.size) (hn : k ∉ F) : k ∉ F' := fun e => by
  rcases h.new k e with e | e
  · exact hn e
  · omega
theorem range_foot {F F' : List Nat} {w w' : World} (h : Foot F F' w w') {G o : Nat} {cs : List Value} (hr : w.rangeAt G o cs) (hk : G < w.heap.size) (hn : G ∉ F) : w'.rangeAt G o cs := fun j u hu => by
  rw [World.cell?_of_block (w := w) (a := ⟨G, o + j, none⟩) (h.keep G hk hn)]; exact hr j u hu
theorem PrefAt.foot {F F' : List Nat} {w w' : World} {G : Nat} {f : Int} {bs : List Nat} {n : Int} (hp : PrefAt w G f bs n) (h : Foot F F' w w') (hn : G ∉ F) : PrefAt w' G f bs n :=
  PrefAt.ofRange hp.addr.len (Nat.lt_of_lt_of_le hp.addr.lt h.size) (range_foot h hp.range hp.addr.lt hn) (fun j hj => by
    rw [World.cell?_of_block (w := w) (a := ⟨G, 0 + j, none⟩) (h.keep G hp.addr.lt hn), World.frozen?_of_block (w := w) (a := ⟨G, 0 + j, none⟩) (h.keep G hp.addr.lt hn)]
    exact hp.there j hj)
/-- A row's block is none of the footprint's. -/
def NotIn (v : Value) (F : List Nat) : Prop := ∀ g, v.ownBlock = some g → g ∉ F
theorem RowE.foot {F F' : List Nat} {w w' : World} {base : Nat} {v : Value} {es : List Ent} (hr : RowE w base v es) (h : Foot F F' w w') (hn : NotIn v F) : RowE w' base v es := by
  obtain ⟨⟨h1, h2⟩, h3⟩ := hr
  refine ⟨⟨h1, ?_⟩, h3⟩
  rcases h2 with h2 | ⟨g, cap, cur, e1, e2, e3, e4⟩
  · exact .inl h2
  · refine .inr ⟨g, cap, cur, e1, e2, ?_, e4⟩
    have hlt : g < w.heap.size := by
      apply Classical.byContradiction
      intro h
      rw [Array.getElem?_eq_none (by omega)] at e3
      cases e3
    rw [h.keep g hlt (hn g (by rw [e1]; rfl))]
    exact e3
theorem RowE.blockLt {w : World} {base : Nat} {v : Value} {es : List Ent} (hr : RowE w base v es) : ∀ g, v.ownBlock = some g → base ≤ g ∧ g < w.heap.size := fun g hg => hr.1.lt g hg
theorem NotIn.foot {F F' : List Nat} {w w' : World} {base : Nat} {v : Value} {es : List Ent} (hn : NotIn v F) (hr : RowE w base v es) (h : Foot F F' w w') : NotIn v F' := fun g hg => h.out (hr.blockLt g hg).2 (hn g hg)
/-- A fresh row is not in an older footprint. -/
theorem NotIn.fresh {F : List Nat} {w w' : World} {v : Value} {es : List Ent} (hr : RowE w' w.heap.size v es) (hF : ∀ k ∈ F, k < w.heap.size) : NotIn v F := fun g hg e => by
  have h1 := (hr.blockLt g hg).1
  have h2 := hF g e
  omega
theorem blk_cells (b : Nat) : ∀ (vs : List Value) (o : Nat) (w : World) (k : Nat), k ≠ b → (w.setCells b o vs).heap[k]? = w.heap[k]?
  | [], _, _, _, _ => rfl
  | v :: r, o, w, k, h => by rw [World.setCells, blk_cells b r _ _ k h]; simp [World.setCell, Array.getElem?_modify, Ne.symm h]
/-- A store into a block: its footprint is that block. -/
theorem foot_cells {w : World} (b o : Nat) (vs : List Value) : Foot [b] [b] w (w.setCells b o vs) := by
  have hb : Below 0 w (w.setCells b o vs) := below_cells (Nat.zero_le _) _ _ _ (Below.refl _ _)
  exact ⟨hb.os, hb.tape, hb.output, hb.size, fun k _ hn => blk_cells b vs o w k (fun e => hn (by simp [e])), fun k hk => .inl hk⟩
def deedV (d : DeedD) : Value := .agg d.L.toArray
/-- The prefix of a deed. -/
def deedF (d : DeedD) : Int := if d.raw = true then d.f else goodF d.f
def deedB (d : DeedD) : List Nat := if d.raw = true then d.b else goodP d.f d.b d.n
def deedN (d : DeedD) : Int := if d.raw = true then d.n else (goodN d.f d.n : Int)
/-- What there is behind a deed. -/
def doE (es : List Ent) (d : DeedD) : List Ent := if d.kind = 0 then setE es (deedF d) (deedB d) (deedN d) d.v else if d.kind = 1 then dropE es (deedF d) (deedB d) (deedN d) else es
theorem doE_len (es : List Ent) (d : DeedD) : (doE es d).length ≤ es.length + 1 := by
  unfold doE
  split
  · unfold setE
    split
    · unfold insE
      have h1 := posE_le (dropE es (deedF d) (deedB d) (deedN d)) (deedF d) (deedB d) ((deedN d).toNat : Int) (dropE es (deedF d) (deedB d) (deedN d)).length
      have h2 := dropE_len es (deedF d) (deedB d) (deedN d)
      simp only [List.length_append, List.length_take, List.length_drop, List.length_singleton]
      omega
    · omega
  · split
    · have := dropE_len es (deedF d) (deedB d) (deedN d); omega
    · omega
section
variable {w : World} {G o : Nat} {d : DeedD}
theorem deed_kind (h : w.rangeAt G o d.L) : w.cell? ⟨G, o, none⟩ = some (.int .i64 d.kind) := h 0 _ rfl
theorem deed_pref (h : w.rangeAt G o d.L) (hl : d.b.length = 16) : w.rangeAt G (o + 1) (prefL d.f d.b d.n) := fun j u hu => by
  have hj : j < (prefL d.f d.b d.n).length := by
    apply Classical.byContradiction
    intro h2
    rw [List.getElem?_eq_none (by omega)] at hu
    cases hu
  have hp := prefL_len d.f d.b d.n hl
  have := h (1 + j) u (by
    unfold DeedD.L
    rw [List.getElem?_append_left (by simp; omega), List.getElem?_append_left (by simp; omega), List.getElem?_append_right (by simp), List.length_singleton, Nat.add_sub_cancel_left]
    exact hu)
  rw [← Nat.add_assoc] at this
  exact this
theorem deed_val (h : w.rangeAt G o d.L) (hl : d.b.length = 16) : w.cell? ⟨G, o + 19, none⟩ = some (.int .i64 d.v) := h 19 _ (by
  have hp := prefL_len d.f d.b d.n hl
  unfold DeedD.L
  rw [List.getElem?_append_left (by simp; omega), List.getElem?_append_right (by simp; omega), List.length_append, List.length_singleton, hp]
  rfl)
theorem deed_raw (h : w.rangeAt G o d.L) (hl : d.b.length = 16) : w.cell? ⟨G, o + 20, none⟩ = some (.bool d.raw) := h 20 _ (by
  have hp := prefL_len d.f d.b d.n hl
  unfold DeedD.L
  rw [List.getElem?_append_right (by simp; omega), List.length_append, List.length_append, List.length_singleton, List.length_singleton, hp]
  rfl)
end
end Go.Proofs.YtgbajagacmfcmaaGreatDoor
/- A row of table.Entry (a prefix and a value: 19 cells each), as a walk reads it: the reference's row (ERow, EntKit, AppE, TabFoot) at the table's own type. -/
namespace Go.Proofs.YtgbajagacmfcmaaGreatDoor
open Go.RowKit
set_option linter.unusedVariables false
set_option maxRecDepth 20000

/-- A row of entries. -/
def RowT (w : World) (base : Nat) (v : Value) (es : List Ent) : Prop := w.ownsRow base 47 19 v es.length (flatE es) ∧ AllGood es ∧ es.length ≤ 1000
theorem RowT.below {w w' : World} {base : Nat} {v : Value} {es : List Ent} (h : RowT w base v es) (hb : Below w.heap.size w w') : RowT w' base v es := by
  obtain ⟨⟨h1, h2⟩, h3⟩ := h
  refine ⟨⟨h1, ?_⟩, h3⟩
  rcases h2 with h2 | ⟨g, cap, cur, e1, e2, e3, e4⟩
  · exact .inl h2
  · refine .inr ⟨g, cap, cur, e1, e2, ?_, e4⟩
    have hlt : g < w.heap.size := by
      apply Classical.byContradiction
      intro h
      rw [Array.getElem?_eq_none (by omega)] at e3
      cases e3
    rw [hb.block g hlt]
    exact e3
theorem RowT.nil (w : World) (base : Nat) : RowT w base (.slice none 0 0) [] := ⟨World.ownsRow_nil _ _ _ _, (fun e h => absurd h (by simp)), by decide⟩
theorem RowT.mono {w : World} {base base' : Nat} {v : Value} {es : List Ent} (h : RowT w base v es) (hb : base' ≤ base) : RowT w base' v es := by
  obtain ⟨⟨h1, h2⟩, h3⟩ := h
  refine ⟨⟨h1, ?_⟩, h3⟩
  rcases h2 with h2 | ⟨g, cap, cur, e1, e2, e3⟩
  · exact .inl h2
  · exact .inr ⟨g, cap, cur, e1, by omega, e3⟩
/-- How it reads: nil and empty, or cells of a block. -/
theorem RowT.form {w : World} {base : Nat} {v : Value} {es : List Ent} (h : RowT w base v es) : (v = .slice none 0 0 ∧ es = []) ∨ ∃ g cap, v = .slice (some ⟨g, 0, none⟩) es.length cap ∧ base ≤ g ∧ g < w.heap.size ∧ es.length ≤ cap ∧ cap ≤ maxLen ∧ w.rangeAt g 0 (flatE es) := by
  obtain ⟨hr, hg, hle⟩ := h
  obtain ⟨h1, h2⟩ := hr
  rcases h2 with ⟨e1, e2⟩ | ⟨g, cap, cur, e1, e2, e3, e4, e5, e6, e7⟩
  · exact .inl ⟨e1, List.eq_nil_of_length_eq_zero e2⟩
  · refine .inr ⟨g, cap, e1, e2, ?_, e4, e5, fun j u hu => ?_⟩
    · apply Classical.byContradiction
      intro h
      rw [Array.getElem?_eq_none (by omega)] at e3
      cases e3
    · rw [Nat.zero_add, cell_of_row w g j cur _ _ e3, ← Array.getElem?_toList]
      rw [← e7, List.getElem?_take] at hu
      split at hu
      · exact hu
      · cases hu
theorem entT_size : (Tryz.prog.info? 47).map (·.size) = some 19 := by kernel_rfl
theorem entT_zeroed (w : World) : EntAt (w.alloc (.cells zE 47)) w.heap.size 0 (List.replicate 16 0) 0 0 := EntAt.of w _ _ 0 _ 0 0 rfl rfl
/-- An entry, loaded whole from wherever it lies. -/
theorem load_entT_o {ops : Array Oper} {rest : List Oper} {op : Oper} {a : Act} {w : World} {Q : Exit → Act → World → Prop} {G o : Nat} {f : Int} {bs : List Nat} {n v : Int} (hl : Hid (bs.length = 16)) (hA : Hid (w.rangeAt G o (entL f bs n v))) (x : Operand) (hw : Region.wanted op (yielded ops a.tmps) = true) (ho : op.op = .load 47 x)
    (hx : a.eval x = .pointer (some ⟨G, o, none⟩)) (h : wpList Tryz.prog ops Q rest (a.put op.dst (entV f bs n v)) w) : wpList Tryz.prog ops Q (op :: rest) a w :=
  wpList_load_row hw 47 x ho G o hx (entL f bs n v) _ hA.out Tryz.underlying47 rfl (by rw [entT_size, entL_len f bs n v hl.out]) h
/-- An entry, stored whole. -/
theorem store_entT {ops : Array Oper} {rest : List Oper} {op : Oper} {a : Act} {w : World} {Q : Exit → Act → World → Prop} {G : Nat} {g : Int} {bs0 : List Nat} {n0 v0 : Int} (hA : Hid (EntAt w G g bs0 n0 v0)) (x y : Operand) {f : Int} {bs : List Nat} {n v : Int} (hl : Hid (bs.length = 16)) (hgd : op.guard = none) (ho : op.op = .store 47 x y)
    (hx : a.eval x = .pointer (some ⟨G, 0, none⟩)) (hy : a.eval y = entV f bs n v) (h : ∀ W, Hid (W = w.setCells G 0 (entL f bs n v)) → Hid (EntAt W G f bs n v) → wpList Tryz.prog ops Q rest (a.put op.dst undef) W) : wpList Tryz.prog ops Q (op :: rest) a w :=
  wpList_store_mid hgd 47 x y ho G 0 (entL f bs n v).toArray hx hy (by rw [List.size_toArray, entL_len f bs n v hl.out]; exact hA.out.there) (by rw [entT_size, List.size_toArray, entL_len f bs n v hl.out]) (entL_one f bs n v) (h _ (Lib.hid rfl) (Lib.hid (hA.out.stored f bs n v hl.out)))
theorem loadVar_entT {w : World} {G : Nat} {f : Int} {bs : List Nat} {n v : Int} (h : EntAt w G f bs n v) : (loadVar 47 ⟨G, 0, none⟩).run Tryz.prog w = .ok (entV f bs n v) w :=
  run_loadVar_mid w G 0 47 (entL f bs n v) _ h.range Tryz.underlying47 rfl (by rw [entT_size, entL_len f bs n v h.len])
theorem results_entT2 {fn : Func} {a t : Tmp} {tmps : Array Value} {W : World} {R : Nat} {f : Int} {bs : List Nat} {n v : Int} (h : fn.results = #[.cell a 47, .tmp t]) (ha : tmps.getD a undef = .pointer (some ⟨R, 0, none⟩)) (hA : EntAt W R f bs n v) : (results fn tmps).run Tryz.prog W = .ok (.tuple #[entV f bs n v, tmps.getD t undef]) W := by
  rw [Array.getD_eq_getD_getElem?] at ha
  simp [results, h, ha, asAddr, loadVar_entT hA]
/-- An entry, built of a prefix and a value; one of zeros. -/
theorem built_entT (f : Int) (bs : List Nat) (n v : Int) (h16 : bs.length = 16) : Tryz.prog.built 47 [(0, prefV f bs n), (1, .int .i64 v)] = some (entL f bs n v).toArray := by
  obtain ⟨y0, y1, y2, y3, y4, y5, y6, y7, y8, y9, y10, y11, y12, y13, y14, y15, rfl⟩ := list16 bs h16
  kernel_rfl
theorem built_entT0 : Tryz.prog.built 47 [] = some (entL 0 (List.replicate 16 0) 0 0).toArray := rfl
theorem build_entT {ops : Array Oper} {rest : List Oper} {op : Oper} {a : Act} {w : World} {Q : Exit → Act → World → Prop} {f : Int} {bs : List Nat} {n v : Int} (hl : Hid (bs.length = 16)) (hg : op.guard = none) (x y : Operand) (ho : op.op = .build 47 #[(0, x), (1, y)])
    (hx : a.eval x = prefV f bs n) (hy : a.eval y = .int .i64 v) (h : wpList Tryz.prog ops Q rest (a.put op.dst (entV f bs n v)) w) : wpList Tryz.prog ops Q (op :: rest) a w := by
  have e : Tryz.prog.built 47 ((#[(0, x), (1, y)] : Array (Nat × Operand)).map fun (i, x) => (i, a.eval x)).toList = some (entL f bs n v).toArray := by
    simp only [List.map_toArray, List.map_cons, List.map_nil]
    rw [hx, hy]; exact built_entT f bs n v hl.out
  refine wpList_build hg 47 _ ho (by rw [e]; rfl) ?_
  rw [e]
  exact h
theorem build_entT0 {ops : Array Oper} {rest : List Oper} {op : Oper} {a : Act} {w : World} {Q : Exit → Act → World → Prop} (hg : op.guard = none) (ho : op.op = .build 47 #[])
    (h : wpList Tryz.prog ops Q rest (a.put op.dst (entV 0 (List.replicate 16 0) 0 0)) w) : wpList Tryz.prog ops Q (op :: rest) a w := by
  have e : Tryz.prog.built 47 ((#[] : Array (Nat × Operand)).map fun (i, x) => (i, a.eval x)).toList = some (entL 0 (List.replicate 16 0) 0 0).toArray := by
    simp only [List.map_toArray, List.map_nil]
    exact built_entT0
  refine wpList_build hg 47 _ ho (by rw [e]; rfl) ?_
  rw [e]
  exact h
theorem infoT : (Tryz.prog.info? 47).map (fun i => (i.zero, i.size, i.bytes)) = some (some (.agg zE), 19, 40) := by kernel_rfl
theorem RowT.kept {w w' : World} {base : Nat} {v : Value} {es : List Ent} {row : Option Nat} (h : RowT w base v es) (hg : w.grownBy w' row) (hne : v.ownBlock = none ∨ v.ownBlock ≠ row) : RowT w' base v es := ⟨h.1.kept hg hne, h.2⟩
theorem below_grownT {w0 w w' : World} {v : Value} {es : List Ent} (hb : Below w0.heap.size w0 w) (hE : RowT w w0.heap.size v es) (hg : w.grownBy w' v.ownBlock) : Below w0.heap.size w0 w' :=
  hb.grown hg hb.size (fun k hk => (hE.1.lt k hk).1)
/-- Entries that lie somewhere are appended. -/
theorem append_entsT {ops : Array Oper} {rest : List Oper} {op : Oper} {a : Act} {w : World} {Q : Exit → Act → World → Prop} {base : Nat} {v : Value} {es : List Ent} (hE : Hid (RowT w base v es)) (s x : Operand) (hgd : op.guard = none) (ho : op.op = .call { callee := .builtin .append, args := #[s, x], argTypes := #[33, 33] })
    (hs : a.eval s = v) {G o m c : Nat} (ys : List Ent) (hx : a.eval x = .slice (some ⟨G, o, none⟩) m c) (hm : Hid (m = ys.length)) (hr : Hid (w.rangeAt G o (flatE ys))) (hy : Hid (AllGood ys)) (hle : Hid (es.length + ys.length ≤ 1000)) (hbase : Hid (base ≤ w.heap.size))
    (h : ∀ v' w', Hid (RowT w' base v' (es ++ ys)) → Hid (w.grownBy w' v.ownBlock) → Hid (v'.ownBlock = v.ownBlock ∨ v'.ownBlock = some w.heap.size) → wpList Tryz.prog ops Q rest (a.put op.dst v') w') : wpList Tryz.prog ops Q (op :: rest) a w := by
  obtain ⟨i0, hi0, hz0, hz1, hz2⟩ := info_parts infoT
  have hml := hm.out
  have hll := hle.out
  refine wpList_append_own_at w hgd s x 33 ho base 47 i0 _ 19 40 Tryz.underlying33 hi0 hz0 hz1 hz2 rfl (by decide) v es.length (flatE es) hs hE.out.1 ⟨G, o, none⟩ m c (flatE ys) hx (by rw [flatE_len ys hy.out, hml]) (fun j u hu => ?_) (flatE_one ys hy.out) (by unfold maxLen; omega) (by omega) hbase.out (fun v' w' h1 h2 _ h4 => ?_)
  · have := hr.out j u hu
    have hadd : (⟨G, o, none⟩ : Addr).add j = ⟨G, o + j, none⟩ := by unfold Addr.add; split <;> simp_all
    rw [hadd]
    exact this
  · refine h v' w' (Lib.hid ⟨?_, ?_, ?_⟩) (Lib.hid h2) (Lib.hid h4)
    · rw [List.length_append, flatE_append, ← hml]; exact h1
    · intro e he
      rcases List.mem_append.1 he with he | he
      · exact hE.out.2.1 e he
      · exact hy.out e he
    · rw [List.length_append]; exact hll
theorem append_noneT {ops : Array Oper} {rest : List Oper} {op : Oper} {a : Act} {w : World} {Q : Exit → Act → World → Prop} {base : Nat} {v : Value} {es : List Ent} (hE : Hid (RowT w base v es)) (s x : Operand) (hgd : op.guard = none) (ho : op.op = .call { callee := .builtin .append, args := #[s, x], argTypes := #[33, 33] })
    (hs : a.eval s = v) (hx : a.eval x = .slice none 0 0) (h : wpList Tryz.prog ops Q rest (a.put op.dst v) w) : wpList Tryz.prog ops Q (op :: rest) a w := by
  obtain ⟨i0, hi0, _⟩ := info_parts infoT
  refine wpList_plain hgd fun K hK => ?_
  have hr := run_append_owned_none (P := Tryz.prog) w base 33 op.type 47 i0 19 Tryz.underlying33 hi0 v es.length (flatE es) hE.out.1
  unfold Oper.wp execOp
  simp only [ho, resolve, invoke, builtin, Sem.run_bind, Sem.run_pure, Result.andThen_ok, List.map_toArray, List.map_cons, List.map_nil, hs, hx, hr]
  exact hK _ _ h
theorem run_buildT (f : Int) (bs : List Nat) (n v : Int) (w : World) (h16 : bs.length = 16) : (Instr.buildSlice 33 1 #[(0, entV f bs n v)]).run Tryz.prog w = .ok (.slice (some ⟨w.heap.size, 0, none⟩) 1 1) (w.alloc (.cells (entL f bs n v).toArray 47)) := by
  obtain ⟨i0, hi0, hz0, hz1, hz2⟩ := info_parts infoT
  have hf := fillE f bs n v h16
  obtain ⟨Z, hZ⟩ : ∃ Z : Array Value, zE = Z := ⟨_, rfl⟩
  rw [hZ] at hf hz0
  have hsz : (sizeOf 47).run Tryz.prog w = .ok 19 w := by simp [sizeOf, typeInfo, hi0, hz1]
  have hzv : (zeroValue 47).run Tryz.prog w = .ok (.agg Z) w := by simp [zeroValue, typeInfo, hi0, hz0]
  have hnr : ∀ cs : Array Value, (newRow 47 cs).run Tryz.prog w = .ok ⟨w.heap.size, 0, none⟩ (w.alloc (.cells cs 47)) := fun cs => by simp [newRow]
  have hu : (underlying 33).run Tryz.prog w = .ok _ w := run_underlying Tryz.underlying33 w
  have hfc : Instr.fill (fun i => some (i * 19, 19)) ((Array.range (1 * 19)).map fun j => (Value.agg Z).cells[j % (Value.agg Z).cells.size]!) (#[(0, entV f bs n v)] : Array (Nat × Value)).toList = some (entL f bs n v).toArray := hf
  unfold Instr.buildSlice
  simp only [Sem.run_bind, hu, Result.andThen_ok, hsz, if_neg (show ¬ (1 * 19 > 2 ^ 24) by decide), Sem.run_pure, if_neg (show ¬ (1 * 19 = 0) by decide), hzv, hfc, hnr]
theorem build_entST {ops : Array Oper} {rest : List Oper} {op : Oper} {a : Act} {w : World} {Q : Exit → Act → World → Prop} {f : Int} {bs : List Nat} {n v : Int} (hl : Hid (bs.length = 16)) (hg : op.guard = none) (x : Operand) (ho : op.op = .buildSlice 33 1 #[(0, x)])
    (hx : a.eval x = entV f bs n v) (h : ∀ W, Hid (W = w.alloc (.cells (entL f bs n v).toArray 47)) → wpList Tryz.prog ops Q rest (a.put op.dst (.slice (some ⟨w.heap.size, 0, none⟩) 1 1)) W) : wpList Tryz.prog ops Q (op :: rest) a w := by
  refine wpList_plain hg fun K hK => ?_
  unfold Oper.wp execOp
  simp only [ho, List.map_toArray, List.map_cons, List.map_nil, hx, Sem.run_bind, run_buildT f bs n v w hl.out, Result.andThen_ok]
  exact hK _ _ (h _ (Lib.hid rfl))
theorem RowT.foot {F F' : List Nat} {w w' : World} {base : Nat} {v : Value} {es : List Ent} (hr : RowT w base v es) (h : Foot F F' w w') (hn : NotIn v F) : RowT w' base v es := by
  obtain ⟨⟨h1, h2⟩, h3⟩ := hr
  refine ⟨⟨h1, ?_⟩, h3⟩
  rcases h2 with h2 | ⟨g, cap, cur, e1, e2, e3, e4⟩
  · exact .inl h2
  · refine .inr ⟨g, cap, cur, e1, e2, ?_, e4⟩
    have hlt : g < w.heap.size := by
      apply Classical.byContradiction
      intro h
      rw [Array.getElem?_eq_none (by omega)] at e3
      cases e3
    rw [h.keep g hlt (hn g (by rw [e1]; rfl))]
    exact e3
theorem RowT.blockLt {w : World} {base : Nat} {v : Value} {es : List Ent} (hr : RowT w base v es) : ∀ g, v.ownBlock = some g → base ≤ g ∧ g < w.heap.size := fun g hg => hr.1.lt g hg
theorem NotIn.footT {F F' : List Nat} {w w' : World} {base : Nat} {v : Value} {es : List Ent} (hn : NotIn v F) (hr : RowT w base v es) (h : Foot F F' w w') : NotIn v F' := fun g hg => h.out (hr.blockLt g hg).2 (hn g hg)
/-- A fresh row is not in an older footprint. -/
theorem NotIn.freshT {F : List Nat} {w w' : World} {v : Value} {es : List Ent} (hr : RowT w' w.heap.size v es) (hF : ∀ k ∈ F, k < w.heap.size) : NotIn v F := fun g hg e => by
  have h1 := (hr.blockLt g hg).1
  have h2 := hF g e
  omega
end Go.Proofs.YtgbajagacmfcmaaGreatDoor
/- A row's block, cell by cell: copies of entries, cleared entries. -/
namespace Go.Proofs.YtgbajagacmfcmaaGreatDoor
open Go.RowKit
set_option linter.unusedVariables false
set_option maxRecDepth 20000

/-- A block of c cells of entries. -/
def Blk (w : World) (g c : Nat) : Prop := ∃ cur : Array Value, w.heap[g]? = some (.cells cur 47 (0, 0)) ∧ cur.size = c
section
variable {w w' : World} {g c : Nat}
theorem Blk.lt (h : Blk w g c) : g < w.heap.size := by
  obtain ⟨cur, h1, _⟩ := h
  exact (Array.getElem?_eq_some_iff.1 h1).1
theorem Blk.same (h : Blk w g c) (e : w'.heap[g]? = w.heap[g]?) : Blk w' g c := by
  obtain ⟨cur, h1, h2⟩ := h
  exact ⟨cur, e.trans h1, h2⟩
theorem Blk.there (h : Blk w g c) (o n : Nat) (hn : o + n ≤ c) : w.there g o n := fun j hj => by
  obtain ⟨cur, h1, h2⟩ := h
  refine ⟨?_, ?_⟩
  · rw [cell_of_row w g (o + j) cur _ _ h1, Array.getElem?_eq_getElem (by omega)]; rfl
  · simp [World.frozen?, h1]
theorem Blk.setCell (h : Blk w g c) (b o : Nat) (v : Value) : Blk (w.setCell ⟨b, o, none⟩ v) g c := by
  obtain ⟨cur, h1, h2⟩ := h
  by_cases e : g = b
  · subst e
    obtain ⟨hlt, hk⟩ := Array.getElem?_eq_some_iff.1 h1
    refine ⟨cur.setIfInBounds o v, ?_, by simp [h2]⟩
    show (w.heap.modify g _)[g]? = _
    rw [Array.getElem?_eq_getElem (by rw [Array.size_modify]; exact hlt), Array.getElem_modify_self, hk]
    rfl
  · exact ⟨cur, (Below.heap_setCell w ⟨b, o, none⟩ v g e).trans h1, h2⟩
theorem Blk.setCells (b : Nat) : ∀ (vs : List Value) (o : Nat) (w : World), Blk w g c → Blk (w.setCells b o vs) g c
  | [], _, _, h => h
  | v :: r, o, w, h => Blk.setCells b r (o + 1) _ (h.setCell b o v)
end
theorem range_append {w : World} {b o : Nat} {xs ys : List Value} (h1 : w.rangeAt b o xs) (h2 : w.rangeAt b (o + xs.length) ys) : w.rangeAt b o (xs ++ ys) := fun j u hu => by
  by_cases hj : j < xs.length
  · exact h1 j u (by rwa [List.getElem?_append_left hj] at hu)
  · rw [List.getElem?_append_right (by omega)] at hu
    have := h2 (j - xs.length) u hu
    rw [show o + xs.length + (j - xs.length) = o + j by omega] at this
    exact this
theorem rowT_of {w : World} {g cap : Nat} {es : List Ent} (hb : Blk w g (cap * 19)) (hl : es.length ≤ cap) (hm : cap ≤ maxLen) (hr : w.rangeAt g 0 (flatE es)) (hg : AllGood es) (hle : es.length ≤ 1000) : RowT w 0 (.slice (some ⟨g, 0, none⟩) es.length cap) es := by
  obtain ⟨cur, h1, h2⟩ := hb
  have hf := flatE_len es hg
  refine ⟨⟨hf, .inr ⟨g, cap, cur, rfl, Nat.zero_le _, h1, hl, hm, h2, ?_⟩⟩, hg, hle⟩
  apply List.ext_getElem?
  intro j
  by_cases hj : j < es.length * 19
  · rw [List.getElem?_take, if_pos hj, Array.getElem?_toList]
    have h3 : j < (flatE es).length := by omega
    have := hr j _ (List.getElem?_eq_getElem h3)
    rw [Nat.zero_add, cell_of_row w g j cur _ _ h1] at this
    rw [this, List.getElem?_eq_getElem h3]
  · rw [List.getElem?_take, if_neg hj, List.getElem?_eq_none (by omega)]
theorem RowT.blk {w : World} {base : Nat} {v : Value} {es : List Ent} (h : RowT w base v es) : (v = .slice none 0 0 ∧ es = []) ∨ ∃ g cap, v = .slice (some ⟨g, 0, none⟩) es.length cap ∧ base ≤ g ∧ Blk w g (cap * 19) ∧ es.length ≤ cap ∧ cap ≤ maxLen ∧ w.rangeAt g 0 (flatE es) := by
  rcases h.form with h1 | ⟨g, cap, e1, e2, e3, e4, e5, e6⟩
  · exact .inl h1
  · refine .inr ⟨g, cap, e1, e2, ?_, e4, e5, e6⟩
    rcases h.1.2 with ⟨h2, _⟩ | ⟨g', cap', cur, f1, _, f3, _, _, f6, _⟩
    · rw [e1] at h2; cases h2
    · rw [e1] at f1
      cases f1
      exact ⟨cur, f3, f6⟩
/-- Entries copied. -/
theorem copyT (w : World) (ty : TypeId) (b o dLen dCap : Nat) (a : Addr) (sLen sCap n : Nat) (cs : List Value) (hn : n = Nat.min sLen dLen) (hl : cs.length = n * 19)
    (hsrc : ∀ j v, cs[j]? = some v → w.cell? (a.add j) = some v) (ht : w.there b o (n * 19)) (h1 : ∀ v ∈ cs, v.oneCell' = true) :
    (Builtin.copy_ #[33, 33] ty #[.slice (some ⟨b, o, none⟩) dLen dCap, .slice (some a) sLen sCap]).run Tryz.prog w = .ok (goInt n) (w.setCells b o cs) := by
  have hl2 := run_loadCells_list (P := Tryz.prog) w a cs hsrc
  have hst := run_storeCells_cells (P := Tryz.prog) b o cs 0 w (fun j hj => by simpa using (ht j (by omega)).1) (fun j hj => by simpa using (ht j (by omega)).2) h1
  rw [hl] at hl2
  cases hq : Tryz.prog.info? 47 with
  | none => have := entT_size; rw [hq] at this; cases this
  | some i =>
    have hi : i.size = 19 := by have := entT_size; rw [hq] at this; simpa using this
    simp [Builtin.copy_, run_underlying Tryz.underlying33, Builtin.lenOf, Builtin.firstCells, sizeOf, typeInfo, hq, hi, ← hn, hl2, hst]
/-- An operation that copies, whose run is known. -/
theorem wp_copyT (w : World) {o : Oper} {a : Act} {K : Act → World → Prop} {Q : Exit → Act → World → Prop} (d s : Operand)
    (ho : o.op = .call { callee := .builtin .copy, args := #[d, s], argTypes := #[33, 33] }) (v u : Value) (hd : a.eval d = v) (hs : a.eval s = u) {v' : Value} {w' : World}
    (hr : (Builtin.copy_ #[33, 33] o.type #[v, u]).run Tryz.prog w = .ok v' w') (h : K (a.put o.dst v') w') : o.wp Tryz.prog a w K Q := by
  unfold Oper.wp execOp
  simp only [ho, resolve, invoke, builtin, Sem.run_bind, Sem.run_pure, Result.andThen_ok, List.map_toArray, List.map_cons, List.map_nil, hd, hs, hr]
  exact h
theorem copy_stepT (w : World) {ops : Array Oper} {rest : List Oper} {o : Oper} {a : Act} {Q : Exit → Act → World → Prop} (hgd : o.guard = none) (d s : Operand)
    (ho : o.op = .call { callee := .builtin .copy, args := #[d, s], argTypes := #[33, 33] }) (v u : Value) (hd : a.eval d = v) (hs : a.eval s = u) {v' : Value} {w' : World}
    (hr : (Builtin.copy_ #[33, 33] o.type #[v, u]).run Tryz.prog w = .ok v' w') (h : wpList Tryz.prog ops Q rest (a.put o.dst v') w') : wpList Tryz.prog ops Q (o :: rest) a w :=
  wpList_plain hgd fun _ hK => wp_copyT w d s ho v u hd hs hr (hK _ _ h)
/-- Entries appended in place, where there is room. -/
theorem appendT_room (w : World) (ty : TypeId) (b sLen sCap : Nat) (a : Addr) (n c : Nat) (cs : List Value) (hroom : sLen + n ≤ sCap) (hl : cs.length = n * 19)
    (hsrc : ∀ j v, cs[j]? = some v → w.cell? (a.add j) = some v) (ht : w.there b (sLen * 19) (n * 19)) (h1 : ∀ v ∈ cs, v.oneCell' = true) :
    (Builtin.append_ #[33, 33] ty #[.slice (some ⟨b, 0, none⟩) sLen sCap, .slice (some a) n c]).run Tryz.prog w = .ok (.slice (some ⟨b, 0, none⟩) (sLen + n) sCap) (w.setCells b (sLen * 19) cs) := by
  have hl2 := run_loadCells_list (P := Tryz.prog) w a cs hsrc
  have hst := run_storeCells_cells (P := Tryz.prog) b (sLen * 19) cs 0 w (fun j hj => by simpa using (ht j (by omega)).1) (fun j hj => by simpa using (ht j (by omega)).2) h1
  rw [hl] at hl2
  have hadd : (⟨b, 0, none⟩ : Addr).add (sLen * 19) = ⟨b, sLen * 19, none⟩ := by rw [Addr.add_mid, Nat.zero_add]
  cases hq : Tryz.prog.info? 47 with
  | none => have := entT_size; rw [hq] at this; cases this
  | some i =>
    have hi : i.size = 19 := by have := entT_size; rw [hq] at this; simpa using this
    simp [Builtin.append_, run_underlying Tryz.underlying33, Builtin.lenOf, Builtin.firstCells, sizeOf, typeInfo, hq, hi, hl2, hst, hroom, hadd]
/-- Entries cleared. -/
theorem clearT (w : World) (b o n c : Nat) (hn : n ≠ 0) (ht : w.there b o (n * 19)) :
    ∃ cs : List Value, cs.length = n * 19 ∧ ∀ ty, (Builtin.clear_ #[33] ty #[.slice (some ⟨b, o, none⟩) n c]).run Tryz.prog w = .ok (.tuple #[]) (w.setCells b o cs) := by
  obtain ⟨i0, hi0, hz0, hz1, hz2⟩ := info_parts infoT
  obtain ⟨cs, hcs⟩ : ∃ cs, (Builtin.zeroCells (Value.agg zE).cells n).toList = cs := ⟨_, rfl⟩
  have hlen : cs.length = n * 19 := by rw [← hcs]; simp [Builtin.zeroCells, Value.cells]
  have hone : ∀ v ∈ cs, v.oneCell' = true := by
    intro v hv
    rw [← hcs] at hv
    simp only [Builtin.zeroCells, Value.cells, Array.toList_map, List.mem_map] at hv
    obtain ⟨j, _, rfl⟩ := hv
    have : ∀ k : Fin 19, (zE[k.val]!).oneCell' = true := by decide
    exact this ⟨j % 19, Nat.mod_lt _ (by decide)⟩
  refine ⟨cs, hlen, fun ty => ?_⟩
  have hst := run_storeCells_cells (P := Tryz.prog) b o cs 0 w (fun j hj => by simpa using (ht j (by omega)).1) (fun j hj => by simpa using (ht j (by omega)).2) hone
  obtain ⟨m, rfl⟩ : ∃ m, n = m + 1 := ⟨n - 1, by omega⟩
  simp [Builtin.clear_, run_underlying Tryz.underlying33, zeroValue, typeInfo, hi0, hz0, hcs, hst]
theorem clear_stepT (w : World) {ops : Array Oper} {rest : List Oper} {o : Oper} {a : Act} {Q : Exit → Act → World → Prop} (hgd : o.guard = none) (x : Operand)
    (ho : o.op = .call { callee := .builtin .clear, args := #[x], argTypes := #[33] }) (v : Value) (hx : a.eval x = v) {v' : Value} {w' : World}
    (hr : (Builtin.clear_ #[33] o.type #[v]).run Tryz.prog w = .ok v' w') (h : wpList Tryz.prog ops Q rest (a.put o.dst v') w') : wpList Tryz.prog ops Q (o :: rest) a w :=
  wpList_plain hgd fun _ hK => by
    unfold Oper.wp execOp
    simp only [ho, resolve, invoke, builtin, Sem.run_bind, Sem.run_pure, Result.andThen_ok, List.map_toArray, List.map_cons, List.map_nil, hx, hr]
    exact hK _ _ h
end Go.Proofs.YtgbajagacmfcmaaGreatDoor
/- What the laws of layer 6 ask of a table: its contracts, whatever it is made of. -/
namespace Go.Proofs.YtgbajagacmfcmaaGreatDoor
open Go.RowKit
set_option linter.unusedVariables false
set_option maxRecDepth 20000

/-- A prefix, loaded whole from wherever it lies. -/
theorem load_pref_o {ops : Array Oper} {rest : List Oper} {op : Oper} {a : Act} {w : World} {Q : Exit → Act → World → Prop} {G o : Nat} {f : Int} {bs : List Nat} {n : Int} (hl : Hid (bs.length = 16)) (hA : Hid (w.rangeAt G o (prefL f bs n))) (x : Operand) (hw : Region.wanted op (yielded ops a.tmps) = true) (ho : op.op = .load 45 x)
    (hx : a.eval x = .pointer (some ⟨G, o, none⟩)) (h : wpList Tryz.prog ops Q rest (a.put op.dst (prefV f bs n)) w) : wpList Tryz.prog ops Q (op :: rest) a w :=
  wpList_load_row hw 45 x ho G o hx (prefL f bs n) _ hA.out Tryz.underlying45 rfl (by rw [pref_size, prefL_len f bs n hl.out]) h
end Go.Proofs.YtgbajagacmfcmaaGreatDoor
/- Plain facts on the row of prefixes, and on what lies between their first and last addresses. -/
namespace Go.Proofs.YtgbajagacmfcmaaGreatDoor
open Go.RowKit
set_option linter.unusedVariables false
set_option maxRecDepth 20000

theorem cmpL_point : ∀ xs ys : List Nat, xs.length = ys.length → (∀ q, q < xs.length → xs.getD q 0 ≤ ys.getD q 0) → cmpL xs ys ≤ 0
  | [], ys, _, _ => by cases ys <;> simp [cmpL]
  | _ :: _, [], h, _ => by cases h
  | x :: xs, y :: ys, h, hq => by
    have h0 : x ≤ y := hq 0 (by simp)
    have ih := cmpL_point xs ys (by simpa using h) (fun q hql => hq (q + 1) (by simpa using hql))
    rw [cmpL]
    by_cases h1 : x < y
    · rw [if_pos h1]; decide
    · rw [if_neg h1, if_neg (by omega)]; exact ih
theorem byte_le (x y : Nat) (hx : x < 256) (hy : y < 256) (h : ∀ r, r < 8 → x / 2 ^ (7 - r) % 2 ≤ y / 2 ^ (7 - r) % 2) : x ≤ y := by
  have h0 : x / 128 % 2 ≤ y / 128 % 2 := h 0 (by decide)
  have h1 : x / 64 % 2 ≤ y / 64 % 2 := h 1 (by decide)
  have h2 : x / 32 % 2 ≤ y / 32 % 2 := h 2 (by decide)
  have h3 : x / 16 % 2 ≤ y / 16 % 2 := h 3 (by decide)
  have h4 : x / 8 % 2 ≤ y / 8 % 2 := h 4 (by decide)
  have h5 : x / 4 % 2 ≤ y / 4 % 2 := h 5 (by decide)
  have h6 : x / 2 % 2 ≤ y / 2 % 2 := h 6 (by decide)
  have h7 : x / 1 % 2 ≤ y / 1 % 2 := h 7 (by decide)
  simp only [Nat.div_one] at h7
  have ex := byte_bits x hx
  have ey := byte_bits y hy
  generalize x / 128 % 2 = a0 at *
  generalize x / 64 % 2 = a1 at *
  generalize x / 32 % 2 = a2 at *
  generalize x / 16 % 2 = a3 at *
  generalize x / 8 % 2 = a4 at *
  generalize x / 4 % 2 = a5 at *
  generalize x / 2 % 2 = a6 at *
  generalize x % 2 = a7 at *
  generalize y / 128 % 2 = b0 at *
  generalize y / 64 % 2 = b1 at *
  generalize y / 32 % 2 = b2 at *
  generalize y / 16 % 2 = b3 at *
  generalize y / 8 % 2 = b4 at *
  generalize y / 4 % 2 = b5 at *
  generalize y / 2 % 2 = b6 at *
  generalize y % 2 = b7 at *
  omega
theorem bit_at (l : List Nat) (q r : Nat) (hr : r < 8) : bitA l (8 * q + r) = l.getD q 0 / 2 ^ (7 - r) % 2 := by
  unfold bitA
  rw [show (8 * q + r) / 8 = q by omega, show (8 * q + r) % 8 = r by omega]
theorem cmpL_bits {xs ys : List Nat} (hx : xs.length = 16) (hy : ys.length = 16) (lx : ∀ x ∈ xs, x < 256) (ly : ∀ x ∈ ys, x < 256) (h : ∀ i, i < 128 → bitA xs i ≤ bitA ys i) : cmpL xs ys ≤ 0 := by
  refine cmpL_point xs ys (by rw [hx, hy]) (fun q hq => byte_le _ _ (getD_lt lx q) (getD_lt ly q) (fun r hr => ?_))
  have := h (8 * q + r) (by omega)
  rw [bit_at _ _ _ hr, bit_at _ _ _ hr] at this
  exact this
/-- What stands between two rows that begin alike begins so too. -/
theorem squeeze : ∀ (k : Nat) (xs ys zs : List Nat), xs.length = ys.length → ys.length = zs.length → (∀ q, q < k → xs.getD q 0 = zs.getD q 0) → cmpL xs ys ≤ 0 → cmpL ys zs ≤ 0 → k ≤ xs.length →
    (∀ q, q < k → xs.getD q 0 = ys.getD q 0) ∧ (k < xs.length → xs.getD k 0 ≤ ys.getD k 0 ∧ ys.getD k 0 ≤ zs.getD k 0)
  | 0, [], _, _, _, _, _, _, _, _ => ⟨fun q h => absurd h (by omega), fun h => absurd h (by simp)⟩
  | 0, x :: xs, [], _, h, _, _, _, _, _ => by cases h
  | 0, x :: xs, y :: ys, [], _, h, _, _, _, _ => by cases h
  | 0, x :: xs, y :: ys, z :: zs, _, _, _, a, b, _ => by
    refine ⟨fun q h => absurd h (by omega), fun _ => ?_⟩
    rw [cmpL] at a b
    refine ⟨?_, ?_⟩
    · show x ≤ y
      apply Classical.byContradiction
      intro h
      rw [if_neg (by omega), if_pos (by omega)] at a
      omega
    · show y ≤ z
      apply Classical.byContradiction
      intro h
      rw [if_neg (by omega), if_pos (by omega)] at b
      omega
  | k + 1, [], _, _, _, _, _, _, _, h => absurd h (by simp)
  | k + 1, x :: xs, [], _, h, _, _, _, _, _ => by cases h
  | k + 1, x :: xs, y :: ys, [], _, h, _, _, _, _ => by cases h
  | k + 1, x :: xs, y :: ys, z :: zs, h1, h2, hq, a, b, hk => by
    have hxz : x = z := hq 0 (by omega)
    subst hxz
    rw [cmpL] at a b
    have hxy : x = y := by
      apply Classical.byContradiction
      intro h
      by_cases h3 : x < y
      · rw [if_neg (by omega), if_pos h3] at b; omega
      · rw [if_neg h3, if_pos (by omega)] at a; omega
    subst hxy
    rw [if_neg (by omega), if_neg (by omega)] at a b
    obtain ⟨i1, i2⟩ := squeeze k xs ys zs (by simpa using h1) (by simpa using h2) (fun q hql => hq (q + 1) (by omega)) a b (by simpa using hk)
    refine ⟨fun q hql => ?_, fun hkl => i2 (by simpa using hkl)⟩
    cases q with
    | zero => rfl
    | succ q => exact i1 q (by omega)
theorem top_bits (x z : Nat) (hx : x < 256) (hz : z < 256) : ∀ r, r ≤ 8 → (∀ j, j < r → z / 2 ^ (7 - j) % 2 = x / 2 ^ (7 - j) % 2) → x / 2 ^ (8 - r) = z / 2 ^ (8 - r)
  | 0, _, _ => by
    show x / 256 = z / 256
    omega
  | r + 1, hr, h => by
    rw [half_step x r (by omega), half_step z r (by omega), top_bits x z hx hz r (by omega) (fun j hj => h j (by omega)), h r (by omega)]
theorem byte_squeeze (x y z r : Nat) (hr : r < 8) (hx : x < 256) (hz : z < 256) (h1 : ∀ j, j < r → z / 2 ^ (7 - j) % 2 = x / 2 ^ (7 - j) % 2) (ha : x ≤ y) (hb : y ≤ z) :
    ∀ j, j < r → y / 2 ^ (7 - j) % 2 = x / 2 ^ (7 - j) % 2 := by
  have key : x / 2 ^ (8 - r) = y / 2 ^ (8 - r) := by
    have k1 := top_bits x z hx hz r (by omega) h1
    have k2 : x / 2 ^ (8 - r) ≤ y / 2 ^ (8 - r) := Nat.div_le_div_right ha
    have k3 : y / 2 ^ (8 - r) ≤ z / 2 ^ (8 - r) := Nat.div_le_div_right hb
    omega
  intro j hj
  have e : 2 ^ (7 - j) = 2 ^ (8 - r) * 2 ^ (r - 1 - j) := by rw [← Nat.pow_add]; congr 1; omega
  rw [e, ← Nat.div_div_eq_div_mul, ← Nat.div_div_eq_div_mul, key]
section
variable {f g k : Int} {ps qs rs us : List Nat} {n m l : Nat}
theorem GoodP.between (h : GoodP f ps n) (hu : GoodA f us) : (cmpL ps us ≤ 0 ∧ cmpL us (withL (bitsN f) ps n 1) ≤ 0) ↔ Begins ps us n := by
  have hN := bitsN_le f
  have hle := h.le
  constructor
  · rintro ⟨a, b⟩
    have hlz := withL_len (bitsN f) ps n 1
    have hzz := withL_lt (bitsN f) ps n 1 (by decide)
    have hbz : ∀ i, i < n → bitA (withL (bitsN f) ps n 1) i = bitA ps i := fun i hi => (begins_with h.le 1 (by decide) i hi).symm
    obtain ⟨s1, s2⟩ := squeeze (n / 8) ps us (withL (bitsN f) ps n 1) (by rw [h.len, hu.len]) (by rw [hu.len, hlz]) (fun q hq => byte_ext _ _ (getD_lt h.lt q) (getD_lt hzz q) (fun r hr => by
      rw [← bit_at _ _ _ hr, ← bit_at _ _ _ hr]; exact (hbz _ (by omega)).symm)) a b (by rw [h.len]; omega)
    intro i hi
    by_cases hq : i / 8 < n / 8
    · unfold bitA
      rw [s1 _ hq]
    · have e : i = 8 * (n / 8) + i % 8 := by omega
      obtain ⟨t1, t2⟩ := s2 (by rw [h.len]; omega)
      have := byte_squeeze _ _ _ (n % 8) (by omega) (getD_lt h.lt _) (getD_lt hzz _) (fun j hj => by
        rw [← bit_at _ _ _ (by omega), ← bit_at _ _ _ (by omega)]; exact hbz _ (by omega)) t1 t2 (i % 8) (by omega)
      rw [e, bit_at _ _ _ (by omega), bit_at _ _ _ (by omega), this]
  · intro hb
    refine ⟨cmpL_bits h.len hu.len h.lt hu.lt (fun i hi => ?_), cmpL_bits hu.len (withL_len _ _ _ _) hu.lt (withL_lt _ _ _ _ (by decide)) (fun i hi => ?_)⟩
    · by_cases h1 : i < n
      · rw [hb i h1]; exact Nat.le_refl _
      · rw [h.zero i hi (by omega)]; exact Nat.zero_le _
    · rw [bitA_with _ _ _ _ _ (by decide) hi]
      unfold withF
      by_cases h1 : i < bitsN f
      · rw [if_pos h1]
        by_cases h2 : n ≤ i
        · rw [if_pos h2]; exact bitA_le us i
        · rw [if_neg h2, hb i (by omega)]; exact Nat.le_refl _
      · rw [if_neg h1, hu.zero i hi (by omega)]; exact Nat.le_refl _
theorem sgn3_neg (x y : Int) : sgn3 y x = - sgn3 x y := by
  unfold sgn3
  by_cases h1 : x < y
  · rw [if_pos h1, if_neg (by omega), if_pos h1]; rfl
  · by_cases h2 : y < x
    · rw [if_pos h2, if_neg h1, if_pos h2]
    · rw [if_neg h1, if_neg h2, if_neg h2, if_neg h1]; rfl
theorem sgn3_zero (x y : Int) : sgn3 x y = 0 ↔ x = y := by
  unfold sgn3
  split
  · constructor <;> intro h <;> omega
  · split
    · constructor <;> intro h <;> omega
    · constructor <;> intro h <;> omega
theorem sgn3_range (x y : Int) : (sgn3 x y = -1 ∧ x < y) ∨ (sgn3 x y = 0 ∧ x = y) ∨ (sgn3 x y = 1 ∧ y < x) := by
  unfold sgn3
  split
  · exact .inl ⟨rfl, by omega⟩
  · split
    · exact .inr (.inr ⟨rfl, by omega⟩)
    · exact .inr (.inl ⟨rfl, by omega⟩)
theorem cmpP_range (f : Int) (ps : List Nat) (n : Int) (g : Int) (qs : List Nat) (m : Int) : cmpP f ps n g qs m = -1 ∨ cmpP f ps n g qs m = 0 ∨ cmpP f ps n g qs m = 1 := by
  unfold cmpP
  have h1 := cmpA_range f ps g qs
  have h2 := sgn3_range n m
  split <;> omega
theorem cmpP_neg (f : Int) (ps : List Nat) (n : Int) (g : Int) (qs : List Nat) (m : Int) : cmpP g qs m f ps n = - cmpP f ps n g qs m := by
  unfold cmpP
  rw [cmpA_neg f ps g qs]
  by_cases h : cmpA f ps g qs = 0
  · rw [if_pos (by omega), if_pos h]; exact sgn3_neg n m
  · rw [if_neg (by omega), if_neg h]
theorem cmpP_zero (f : Int) (ps : List Nat) (n : Int) (g : Int) (qs : List Nat) (m : Int) (hp : ps.length = 16) (hq : qs.length = 16) : cmpP f ps n g qs m = 0 ↔ (f = g ∧ ps = qs ∧ n = m) := by
  unfold cmpP
  have h1 := cmpA_zero f ps g qs hp hq
  by_cases h : cmpA f ps g qs = 0
  · rw [if_pos h, sgn3_zero]
    have := h1.1 h
    exact ⟨fun e => ⟨this.1, this.2, e⟩, fun e => e.2.2⟩
  · rw [if_neg h]
    exact ⟨fun e => absurd e h, fun e => absurd (h1.2 ⟨e.1, e.2.1⟩) h⟩
theorem cmpP_trans (f : Int) (ps : List Nat) (n : Int) (g : Int) (qs : List Nat) (m : Int) (k : Int) (rs : List Nat) (l : Int) (hp : ps.length = 16) (hq : qs.length = 16) (hr : rs.length = 16) (a : cmpP f ps n g qs m ≤ 0) (b : cmpP g qs m k rs l ≤ 0) : cmpP f ps n k rs l ≤ 0 := by
  unfold cmpP at *
  have t := cmpA_trans f ps g qs k rs hp hq hr
  have t2 := cmpA_trans k rs f ps g qs hr hp hq
  have t3 := cmpA_trans g qs k rs f ps hq hr hp
  rw [cmpA_neg f ps k rs] at t2 t3
  rw [cmpA_neg g qs k rs] at t2
  rw [cmpA_neg f ps g qs] at t3
  have s1 := sgn3_range n m
  have s2 := sgn3_range m l
  have s3 := sgn3_range n l
  split at a <;> split at b <;> split <;> omega
theorem within_row (hp : GoodP f ps n) (hq : GoodP g qs m) (h : withinR f ps (n : Int) g qs (m : Int) = true) : 0 ≤ cmpP f ps (n : Int) g qs (m : Int) := by
  obtain ⟨a, rfl, b⟩ := (withinR_iff hp hq).1 h
  have hl : cmpL qs ps ≤ 0 := cmpL_bits hq.len hp.len hq.lt hp.lt (fun i hi => by
    by_cases h1 : i < m
    · rw [b i h1]; exact Nat.le_refl _
    · rw [hq.zero i hi (by omega)]; exact Nat.zero_le _)
  have ha : 0 ≤ cmpA g ps g qs := by
    unfold cmpA
    rw [if_pos rfl]
    have := cmpL_neg qs ps
    omega
  unfold cmpP
  split
  · have := sgn3_range (n : Int) (m : Int)
    omega
  · exact ha
end
end Go.Proofs.YtgbajagacmfcmaaGreatDoor
/- Contracts of table.compare and of Table.hold. -/
namespace Go.Proofs.YtgbajagacmfcmaaGreatDoor
open Go.RowKit
set_option linter.unusedVariables false
set_option maxRecDepth 20000

/-- How an entry stands to a prefix. -/
def cmpE (e : Ent) (f : Int) (bs : List Nat) (n : Int) : Int := cmpP e.f e.b (e.n : Int) f bs n
theorem Ent.L_ent (e : Ent) : Value.agg e.L.toArray = entV e.f e.b (e.n : Int) e.v := rfl
theorem ent_boxed (f : Int) (bs : List Nat) (n v : Int) (w : World) (h16 : bs.length = 16) :
    ∃ cs : Array Value, entV f bs n v = .agg cs ∧ Hid (EntAt (w.alloc (.cells cs 47)) w.heap.size f bs n v) ∧ Hid (Below w.heap.size w (w.alloc (.cells cs 47))) :=
  ⟨_, rfl, Lib.hid (EntAt.of w _ _ f bs n v h16 rfl), Lib.hid ((Below.refl _ _).alloc (Nat.le_refl _) _)⟩
theorem EntAt.pref {w : World} {G : Nat} {f : Int} {bs : List Nat} {n v : Int} (h : EntAt w G f bs n v) : w.rangeAt G 0 (prefL f bs n) := fun j u hu => h.range j u (by
  have hj : j < (prefL f bs n).length := by
    apply Classical.byContradiction
    intro h2
    rw [List.getElem?_eq_none (by omega)] at hu
    cases hu
  unfold entL
  rw [List.getElem?_append_left hj]
  exact hu)
/-- An entry and a prefix that come in, boxed. -/
theorem ent_pref_boxed (f : Int) (ps : List Nat) (n v : Int) (g : Int) (qs : List Nat) (m : Int) (w : World) (hp : ps.length = 16) (hq : qs.length = 16) :
    ∃ cs ds : Array Value, entV f ps n v = .agg cs ∧ prefV g qs m = .agg ds ∧ Hid (EntAt ((w.alloc (.cells cs 47)).alloc (.cells ds 45)) w.heap.size f ps n v) ∧ Hid (PrefAt ((w.alloc (.cells cs 47)).alloc (.cells ds 45)) (w.heap.size + 1) g qs m) ∧
      Hid (Below w.heap.size w ((w.alloc (.cells cs 47)).alloc (.cells ds 45))) := by
  obtain ⟨cs, ecs, HA, HB⟩ := ent_boxed f ps n v w hp
  obtain ⟨ds, eds, HA', HB'⟩ := pref_boxed g qs m (w.alloc (.cells cs 47)) hq
  rw [heap_alloc] at HA'
  exact ⟨cs, ds, ecs, eds, Lib.hid (HA.out.alloc _), HA', Lib.hid (chain HB.out HB'.out)⟩
set_option maxRecDepth 100000 in
set_option maxHeartbeats 1000000 in
theorem tabCompare_any (f : Int) (ps : List Nat) (n v : Int) (g : Int) (qs : List Nat) (m : Int) (w : World) (hp : ps.length = 16) (hq : qs.length = 16) (lp : ∀ x ∈ ps, x < 256) (lq : ∀ x ∈ qs, x < 256) :
    Calls Tryz.prog 68 #[entV f ps n v, prefV g qs m] w fun e w' => e = .returned (.int .i64 (cmpP f ps n g qs m)) ∧ Below w.heap.size w w' := by
  have HC := fun W => Lib.hid (cidrCompare_any f ps n g qs m W hp hq lp lq)
  have H16 := Lib.hid hp
  generalize cmpP f ps n g qs m = R at *
  obtain ⟨cs, ds, ecs, eds, H1, H2, HB⟩ := ent_pref_boxed f ps n v g qs m w hp hq
  rw [ecs, eds]
  clear ecs eds hp hq lp lq
  go_enter Tryz.func68, Tryz.ntmps68
  go_upto_region 1 with fail
  generalize ((w.alloc (.cells cs 47)).alloc (.cells ds 45)) = W at *
  have H1p := Lib.hid H1.out.pref
  go_wp2_with (first | refine load_pref_o H16 H1p _ rfl rfl rfl ?_ | refine load_pref_g H2 _ rfl rfl rfl ?_)
  refine (HC _).out.mono ?_
  rintro e w1 ⟨rfl, hb1⟩
  have HB1 := Lib.hid (chain HB.out hb1)
  clear H1 H2 HB hb1 H1p
  go_wp2_with fail
  go_ret
  exact ⟨rfl, HB1.out⟩
/-- A table's own two cells. -/
structure Tab (w : World) (G : Nat) (v : Value) (st : Int) : Prop where
  lt : G < w.heap.size
  row : w.cell? ⟨G, 0, none⟩ = some v
  steps : w.cell? ⟨G, 1, none⟩ = some (.int .i64 st)
  frow : w.frozen? ⟨G, 0, none⟩ = false
  fsteps : w.frozen? ⟨G, 1, none⟩ = false
section
variable {w w' : World} {G : Nat} {v : Value} {st : Int}
theorem Tab.same (h : Tab w G v st) (hs : w.heap.size ≤ w'.heap.size) (hk : w'.heap[G]? = w.heap[G]?) : Tab w' G v st :=
  ⟨Nat.lt_of_lt_of_le h.lt hs, (World.cell?_of_block (w := w) (a := ⟨G, 0, none⟩) hk).trans h.row, (World.cell?_of_block (w := w) (a := ⟨G, 1, none⟩) hk).trans h.steps,
    (World.frozen?_of_block (w := w) (a := ⟨G, 0, none⟩) hk).trans h.frow, (World.frozen?_of_block (w := w) (a := ⟨G, 1, none⟩) hk).trans h.fsteps⟩
theorem Tab.below (h : Tab w G v st) (hb : Below w.heap.size w w') : Tab w' G v st := h.same hb.size (hb.block G h.lt)
theorem Tab.foot {F F' : List Nat} (h : Tab w G v st) (hf : Foot F F' w w') (hn : G ∉ F) : Tab w' G v st := h.same hf.size (hf.keep G h.lt hn)
theorem size_set (w : World) (p : Addr) (u : Value) : (w.setCell p u).heap.size = w.heap.size := by show (w.heap.modify _ _).size = _; rw [Array.size_modify]
theorem Tab.setRow (h : Tab w G v st) (u : Value) : Tab (w.setCell ⟨G, 0, none⟩ u) G u st :=
  ⟨by rw [size_set]; exact h.lt, World.cell?_setCell_same' _ _ _ (by rw [h.row]; rfl), by rw [World.cell?_setCell_other _ _ _ _ (by simp)]; exact h.steps, by rw [World.frozen?_setCell]; exact h.frow, by rw [World.frozen?_setCell]; exact h.fsteps⟩
theorem Tab.setSteps (h : Tab w G v st) (x : Int) : Tab (w.setCell ⟨G, 1, none⟩ (.int .i64 x)) G v x :=
  ⟨by rw [size_set]; exact h.lt, by rw [World.cell?_setCell_other _ _ _ _ (by simp)]; exact h.row, World.cell?_setCell_same' _ _ _ (by rw [h.steps]; rfl), by rw [World.frozen?_setCell]; exact h.frow, by rw [World.frozen?_setCell]; exact h.fsteps⟩
theorem foot_cell (w : World) (b o : Nat) (u : Value) : Foot [b] [b] w (w.setCell ⟨b, o, none⟩ u) := foot_cells b o [u]
theorem Foot.below' {F F' : List Nat} (h : Foot F F' w w') (hF : ∀ k ∈ F, k < w.heap.size) (x : World) (hb : Below w'.heap.size w' x) : Foot F F' w x :=
  h.trans (Foot.ofBelow F' hb)
end
set_option maxRecDepth 100000 in
set_option maxHeartbeats 1000000 in
theorem tabHold_any (G : Nat) (r : Value) (st : Int) (f : Int) (ps : List Nat) (n v : Int) (g : Int) (qs : List Nat) (m : Int) (w : World) (hT : Tab w G r st) (h0 : 0 ≤ st) (h1 : st ≤ 1000000) (hp : ps.length = 16) (hq : qs.length = 16) (lp : ∀ x ∈ ps, x < 256) (lq : ∀ x ∈ qs, x < 256) :
    Calls Tryz.prog 54 #[.pointer (some ⟨G, 0, none⟩), entV f ps n v, prefV g qs m] w fun e w' => e = .returned (.int .i64 (cmpP f ps n g qs m)) ∧ Tab w' G r (st + 1) ∧ Foot [G] [G] w w' := by
  have HC := fun W => Lib.hid (tabCompare_any f ps n v g qs m W hp hq lp lq)
  have H16 := Lib.hid hp
  generalize cmpP f ps n g qs m = R at *
  obtain ⟨cs, ds, ecs, eds, H1, H2, HB⟩ := ent_pref_boxed f ps n v g qs m w hp hq
  rw [ecs, eds]
  have HT := Lib.hid (hT.below HB.out)
  have hGL := hT.lt
  have HGL := Lib.hid hT.lt
  clear ecs eds hp hq lp lq hT
  go_enter Tryz.func54, Tryz.ntmps54
  go_upto_region 1 with fail
  generalize ((w.alloc (.cells cs 47)).alloc (.cells ds 45)) = W at *
  have hs := HT.out.steps
  have hf := HT.out.fsteps
  have hw1 : IntKind.i64.wrap (st + 1) = st + 1 := by rw [IntKind.wrap_i64]; omega
  go_upto_region 2 with fail
  have HT2 := Lib.hid (HT.out.setSteps (st + 1))
  have HF2 := Lib.hid ((Foot.ofBelow [G] HB.out).trans (foot_cell W G 1 (.int .i64 (st + 1))))
  have H12 : Hid (EntAt (W.setCell ⟨G, 1, none⟩ (.int .i64 (st + 1))) w.heap.size f ps n v) := Lib.hid ⟨H1.out.len, by rw [size_set]; exact H1.out.lt, range_foot (foot_cell W G 1 _) H1.out.range H1.out.lt (by simp; omega), World.there_setCells H1.out.there G 1 [_]⟩
  have H22 : Hid (PrefAt (W.setCell ⟨G, 1, none⟩ (.int .i64 (st + 1))) (w.heap.size + 1) g qs m) := Lib.hid (H2.out.foot (foot_cell W G 1 _) (by simp; omega))
  clear hs hf H1 H2 HT HB
  generalize W.setCell ⟨G, 1, none⟩ (.int .i64 (st + 1)) = V at *
  have H1p := Lib.hid H12.out.range
  go_wp2_with (first | refine load_entT_o H16 H1p _ rfl rfl rfl ?_ | refine load_pref_g H22 _ rfl rfl rfl ?_)
  refine (HC _).out.mono ?_
  rintro e w1 ⟨rfl, hb1⟩
  have HT3 := Lib.hid (HT2.out.below hb1)
  have HF3 := Lib.hid (HF2.out.trans (Foot.ofBelow [G] hb1))
  clear H12 H22 hb1 H1p HT2 HF2
  go_wp2_with fail
  go_ret
  exact ⟨rfl, HT3.out, HF3.out⟩
end Go.Proofs.YtgbajagacmfcmaaGreatDoor
/- Contract of slices.BinarySearchFunc over entries, by whatever comparison. -/
namespace Go.Proofs.YtgbajagacmfcmaaGreatDoor
open Go.RowKit
set_option linter.unusedVariables false
set_option maxRecDepth 20000

/-- How many halvings lead to none. -/
def bl (n : Nat) : Nat := if h : n = 0 then 0 else bl (n / 2) + 1
termination_by n
theorem bl_zero : bl 0 = 0 := by unfold bl; rfl
theorem bl_pos {n : Nat} (h : 0 < n) : bl n = bl (n / 2) + 1 := by rw [bl, dif_neg (by omega)]
theorem bl_mono : ∀ n m : Nat, m ≤ n → bl m ≤ bl n := by
  intro n
  induction n using Nat.strongRecOn with
  | ind n ih =>
    intro m h
    by_cases h0 : m = 0
    · rw [h0, bl_zero]; omega
    · rw [bl_pos (n := m) (by omega), bl_pos (n := n) (by omega)]
      have := ih (n / 2) (by omega) (m / 2) (by omega)
      omega
theorem bl_half {n x : Nat} (h : 0 < n) (hx : x ≤ n / 2) : bl x + 1 ≤ bl n := by
  have := bl_mono (n / 2) x hx
  rw [bl_pos h]; omega
theorem bl_small {n : Nat} (h : n ≤ 1000) : bl n ≤ 10 := by
  have h2 := bl_mono 1000 n h
  have e : bl 1000 = 10 := by
    rw [bl_pos (by decide), bl_pos (by decide), bl_pos (by decide), bl_pos (by decide), bl_pos (by decide), bl_pos (by decide), bl_pos (by decide), bl_pos (by decide), bl_pos (by decide), bl_pos (by decide)]
    show bl 0 + 1 + 1 + 1 + 1 + 1 + 1 + 1 + 1 + 1 + 1 = 10
    rw [bl_zero]
  omega
/-- Ranges that lie there. -/
def HeldL (L : List (Nat × Nat × List Value)) (w : World) : Prop := ∀ x ∈ L, w.rangeAt x.1 x.2.1 x.2.2
theorem HeldL.drew {L : List (Nat × Nat × List Value)} {w : World} (h : HeldL L w) : HeldL L w.drew := h
theorem HeldL.get {L : List (Nat × Nat × List Value)} {w : World} {b o : Nat} {cs : List Value} (h : HeldL L w) (hm : (b, o, cs) ∈ L) : w.rangeAt b o cs := h _ hm
/-- A range within what is held. -/
def InL (L : List (Nat × Nat × List Value)) (G o : Nat) (cs : List Value) : Prop := ∀ w, HeldL L w → w.rangeAt G o cs
theorem yields_ent_l {ops : Array Oper} {op : Oper} {a : Act} {L : List (Nat × Nat × List Value)} {G o : Nat} {f : Int} {bs : List Nat} {n v : Int} (hl : Hid (bs.length = 16)) (hm : Hid (InL L G o (entL f bs n v))) (hw : Region.wanted op (yielded ops a.tmps) = true) (x : Operand) (ho : op.op = .load 47 x)
    (hx : a.eval x = .pointer (some ⟨G, o, none⟩)) : YieldsIf Tryz.prog ops (HeldL L) op (entV f bs n v) a :=
  yieldsIf_load_mid hw 47 x ho G o hx (entL f bs n v) _ (fun w h => hm.out w h) Tryz.underlying47 rfl (by rw [entT_size, entL_len f bs n v hl.out])
theorem yields_pref_l {ops : Array Oper} {op : Oper} {a : Act} {L : List (Nat × Nat × List Value)} {G o : Nat} {f : Int} {bs : List Nat} {n : Int} (hl : Hid (bs.length = 16)) (hm : Hid (InL L G o (prefL f bs n))) (hw : Region.wanted op (yielded ops a.tmps) = true) (x : Operand) (ho : op.op = .load 45 x)
    (hx : a.eval x = .pointer (some ⟨G, o, none⟩)) : YieldsIf Tryz.prog ops (HeldL L) op (prefV f bs n) a :=
  yieldsIf_load_mid hw 45 x ho G o hx (prefL f bs n) _ (fun w h => hm.out w h) Tryz.underlying45 rfl (by rw [pref_size, prefL_len f bs n hl.out])
/-- A comparison of the entries es with a prefix: what it answers, and what it counts. -/
def Cmps (q : Nat) (pre : Array Value) (f : Int) (bs : List Nat) (n : Int) (es : List Ent) (M : List Nat) (Inv : Nat → World → Prop) : Prop :=
  ∀ c W e, c ≤ 100 → e ∈ es → Inv c W → Calls Tryz.prog q (pre ++ #[entV e.f e.b (e.n : Int) e.v, prefV f bs n]) W fun x w' => x = .returned (.int .i64 (cmpE e f bs n)) ∧ Inv (c + 1) w' ∧ Foot M M W w'
/-- Where a prefix stands, or would stand, and whether it is there. -/
structure Place (es : List Ent) (f : Int) (bs : List Nat) (n : Int) (i : Nat) (b : Bool) : Prop where
  le : i ≤ es.length
  lo : ∀ t (h : t < es.length), t < i → cmpE es[t] f bs n < 0
  hi : ∀ t (h : t < es.length), i ≤ t → 0 ≤ cmpE es[t] f bs n
  is : b = true → ∃ h : i < es.length, cmpE es[i] f bs n = 0
  no : b = false → ∀ h : i < es.length, cmpE es[i] f bs n ≠ 0
/-- Entries in their row. -/
def SortedE (es : List Ent) : Prop := ∀ i j (hi : i < es.length) (hj : j < es.length), i < j → cmpP es[i].f es[i].b (es[i].n : Int) es[j].f es[j].b (es[j].n : Int) < 0
theorem mono_neg {es : List Ent} (hs : SortedE es) (hg : AllGood es) {f : Int} {bs : List Nat} {n : Int} (h16 : bs.length = 16) {a b : Nat} (ha : a < es.length) (hb : b < es.length) (hab : a ≤ b) (h : cmpE es[b] f bs n < 0) : cmpE es[a] f bs n < 0 := by
  rcases Nat.lt_or_eq_of_le hab with hlt | rfl
  · have h1 := hs a b ha hb hlt
    have l1 := (hg _ (List.getElem_mem ha)).1.len
    have l2 := (hg _ (List.getElem_mem hb)).1.len
    unfold cmpE at h ⊢
    have h2 := cmpP_trans _ _ _ _ _ _ _ _ _ l1 l2 h16 (Int.le_of_lt h1) (Int.le_of_lt h)
    rcases Int.lt_or_eq_of_le h2 with h3 | h3
    · exact h3
    · exfalso
      obtain ⟨e1, e2, e3⟩ := (cmpP_zero _ _ _ _ _ _ l1 h16).1 h3
      rw [← e1, ← e2, ← e3] at h
      have h4 := cmpP_neg es[a].f es[a].b (es[a].n : Int) es[b].f es[b].b (es[b].n : Int)
      omega
  · exact h
set_option maxRecDepth 100000 in
set_option maxHeartbeats 4000000 in
theorem search_any (q : Nat) (pre : Array Value) (eq : ∀ args w, (callFunc q args).run Tryz.prog w = .ok (.enter q args) w) (f : Int) (bs : List Nat) (n : Int) (g cap : Nat) (es : List Ent) (M : List Nat) (Inv : Nat → World → Prop) (w : World)
    (hr : w.rangeAt g 0 (flatE es)) (hgl : g < w.heap.size) (hgM : g ∉ M) (hM : ∀ k ∈ M, k < w.heap.size) (hle : es.length ≤ 1000) (hgood : AllGood es) (hsort : SortedE es) (h16 : bs.length = 16)
    (hcmp : Cmps q pre f bs n es M Inv) (hinv : ∀ c W W', Inv c W → Below W.heap.size W W' → Inv c W') (h0 : Inv 0 w) :
    Calls Tryz.prog 52 #[.slice (some ⟨g, 0, none⟩) es.length cap, prefV f bs n, .func (.func q) pre #[]] w fun e w' =>
      ∃ (i : Nat) (b : Bool) (c : Nat), e = .returned (.tuple #[.int .i64 (i : Int), .bool b]) ∧ Place es f bs n i b ∧ Inv c w' ∧ c ≤ bl es.length + 1 ∧ Foot M M w w' := by
  have H16 := Lib.hid h16
  have HG := Lib.hid hgood
  have HSO := Lib.hid hsort
  have HCM := Lib.hid hcmp
  have HIN := Lib.hid hinv
  have HMO : Hid (∀ (a b : Nat) (ha : a < es.length) (hb : b < es.length), a ≤ b → cmpE es[b] f bs n < 0 → cmpE es[a] f bs n < 0) := Lib.hid (fun a b ha hb hab h => mono_neg hsort hgood h16 ha hb hab h)
  obtain ⟨cs, ecs, HP, HB⟩ := pref_boxed f bs n w h16
  rw [ecs]
  have HV0 := Lib.hid (hinv 0 _ _ h0 HB.out)
  have HR := Lib.hid (range_belowB hr HB.out hgl)
  have HGL := Lib.hid hgl
  have HGM := Lib.hid hgM
  have HML := Lib.hid hM
  have HF0 := Lib.hid (Foot.ofBelow M HB.out)
  have HBM : Hid (w.heap.size ∉ M) := Lib.hid (fun e => by have := hM _ e; omega)
  obtain ⟨N, hN⟩ : ∃ N, es.length = N := ⟨_, rfl⟩
  rw [hN] at hle ⊢
  have HN := Lib.hid hN
  have hbl := Lib.hid (bl_small hle)
  clear ecs h16 hgood hsort hcmp hinv h0 hr hgl hgM hM HB hN
  go_enter Tryz.func52, Tryz.ntmps52
  go_upto_region 1 with fail
  have HWZ : Hid (w.heap.size < (w.alloc (.cells cs 45)).heap.size) := Lib.hid HP.out.addr.lt
  generalize (w.alloc (.cells cs 45)) = W at *
  go_wp2_with fail
  go_loopw [9, 10] (fun s9 s10 wr => ∃ lo hi c : Nat, s9 = .int .i64 (lo : Int) ∧ s10 = .int .i64 (hi : Int) ∧ lo ≤ hi ∧ hi ≤ N ∧ Hid (c + bl (hi - lo) ≤ bl N) ∧ Hid (Inv c wr) ∧ Hid (wr.rangeAt g 0 (flatE es)) ∧ Hid (PrefAt wr w.heap.size f bs n) ∧ Hid (Foot M M w wr) ∧
    Hid ((∀ t (h : t < es.length), t < lo → cmpE es[t] f bs n < 0) ∧ (∀ t (h : t < es.length), hi ≤ t → 0 ≤ cmpE es[t] f bs n))) (fun s9 s10 _ => (intOf s10).toNat - (intOf s9).toNat)
  case atStart => exact ⟨0, N, 0, rfl, rfl, Nat.zero_le _, Nat.le_refl _, Lib.hid (by rw [Nat.zero_add, Nat.sub_zero]; exact Nat.le_refl _), HV0, HR, HP, HF0, Lib.hid ⟨fun t _ h => absurd h (Nat.not_lt_zero _), fun t h h2 => absurd h (by rw [HN.out]; omega)⟩⟩
  case round =>
    clear HV0 HR HP HF0
    obtain ⟨lo, hi, c, rfl, rfl, hlh, hin, HCC, HV, HR, HP, HF, HI⟩ := hrel
    have HGW : Hid (g < wr.heap.size) := Lib.hid (Nat.lt_of_lt_of_le HGL.out HF.out.size)
    have HBW : Hid (w.heap.size < wr.heap.size) := Lib.hid HP.out.addr.lt
    obtain ⟨L, hL⟩ : ∃ L, [(g, 0, flatE es), (w.heap.size, 0, prefL f bs n)] = L := ⟨_, rfl⟩
    have HK : Hid (HeldL L wr) := Lib.hid (by rw [← hL]; intro x hx; rcases List.mem_cons.1 hx with rfl | hx; exact HR.out; rw [List.mem_singleton.1 hx]; exact HP.out.range)
    have MP : Hid (InL L w.heap.size 0 (prefL f bs n)) := Lib.hid (fun W h => h.get (by rw [← hL]; simp))
    have ME : Hid (∀ k (hk : k < es.length), InL L g (k * 19) (entL es[k].f es[k].b (es[k].n : Int) es[k].v)) := Lib.hid (fun k hk W h => range_ent (h.get (by rw [← hL]; simp)) HG.out k hk)
    have HKN : Hid (∀ W', Foot M M wr W' → HeldL L W') := Lib.hid (fun W' hf => by
      rw [← hL]
      intro x hx
      rcases List.mem_cons.1 hx with rfl | hx
      · exact range_foot hf HR.out HGW.out HGM.out
      · rw [List.mem_singleton.1 hx]; exact range_foot hf HP.out.range HBW.out HBM.out)
    have HKP : Hid (∀ W', Foot M M wr W' → PrefAt W' w.heap.size f bs n) := Lib.hid (fun W' hf => HP.out.foot hf HBM.out)
    have HKR : Hid (∀ W', Foot M M wr W' → W'.rangeAt g 0 (flatE es)) := Lib.hid (fun W' hf => range_foot hf HR.out HGW.out HGM.out)
    clear hL
    by_cases hlt : lo < hi
    · obtain ⟨h, hh⟩ : ∃ h, (lo + hi) / 2 = h := ⟨_, rfl⟩
      have hhN : h < es.length := by have := HN.out; omega
      have hd : decide ((lo : Int) < (hi : Int)) = true := by simp; omega
      have HCE := Lib.hid (HCM.out c wr.drew es[h] (by have := HCC.out; have := hbl.out; omega) (List.getElem_mem hhN) (HIN.out c _ _ HV.out (Below.refl _ _).drew))
      have L16 : Hid (es[h].b.length = 16) := Lib.hid (HG.out _ (List.getElem_mem hhN)).1.len
      have MEh := Lib.hid (ME.out h hhN)
      obtain ⟨y, hy⟩ : ∃ y, es[h] = y := ⟨_, rfl⟩
      rw [hy] at HCE L16 MEh
      have HY : Hid (es[h] = y) := Lib.hid hy
      clear hy HV HR HP HCM HIN ME
      obtain ⟨cv, hcv⟩ : ∃ cv, cmpE y f bs n = cv := ⟨_, rfl⟩
      rw [hcv] at HCE
      have HCV : Hid (cmpE y f bs n = cv) := Lib.hid hcv
      clear hcv
      have hsum : IntKind.i64.wrap ((lo : Int) + (hi : Int)) = ((lo + hi : Nat) : Int) := by rw [IntKind.wrap_i64]; omega
      have HH := Lib.hid hh
      go_upto_region 5 with fail
      rw [show ((lo : Int) + (hi : Int)) / 2 = ((h : Nat) : Int) by omega]
      have hhn : h < N := by omega
      have hb1 : (0 : Int) ≤ (h : Int) := by omega
      have hb2 : (h : Int) < (N : Int) := by omega
      have HD := Lib.hid HK.out.drew
      clear HK
      refine wp_region_noPanic ?_
      refine wp_region_held_drew (S := HeldL L) (by kernel_rfl) HD.out (fun hHeld => ?_)
      clear HD
      refine wpAnyH_take (i := 0) (v := ?_) rfl (by kernel_rfl) (by kernel_rfl) (by kernel_rfl) (fun _ _ _ h => h) (Or.inl ⟨by rfl, ?_⟩) (by assumption) ?_
      rotate_left
      · (intro w hSw; go_simp; try (with_reducible rfl))
      try simp only [Act.put, List.getElem_toArray, List.getElem_cons_zero, List.setIfInBounds_toArray, List.set_cons_zero, List.set_cons_succ]
      refine wpAnyH_take (i := 1) (v := ?_) rfl (by kernel_rfl) (by kernel_rfl) (by kernel_rfl) (fun _ _ _ h => h) (Or.inl ⟨by rfl, ?_⟩) (by assumption) ?_
      rotate_left
      · (intro w hSw; go_simp; try (with_reducible rfl))
      try simp only [Act.put, List.getElem_toArray, List.getElem_cons_zero, List.getElem_cons_succ, List.setIfInBounds_toArray, List.set_cons_zero, List.set_cons_succ]
      refine wpAnyH_take (i := 2) (v := ?_) rfl (by kernel_rfl) (by kernel_rfl) (by kernel_rfl) (fun _ _ _ h => h) (Or.inl ⟨by rfl, ?_⟩) (by assumption) ?_
      rotate_left
      · (intro w hSw; go_simp; try (with_reducible rfl))
      try simp only [Act.put, List.getElem_toArray, List.getElem_cons_zero, List.getElem_cons_succ, List.setIfInBounds_toArray, List.set_cons_zero, List.set_cons_succ]
      refine wpAnyH_take (i := 3) (v := ?_) rfl (by kernel_rfl) (by kernel_rfl) (by kernel_rfl) (fun _ _ _ h => h) (Or.inl ⟨by rfl, ?_⟩) (by assumption) ?_
      rotate_left
      · (intro w hSw; go_simp; try (with_reducible rfl))
      try simp only [Act.put, List.getElem_toArray, List.getElem_cons_zero, List.getElem_cons_succ, List.setIfInBounds_toArray, List.set_cons_zero, List.set_cons_succ]
      refine wpAnyH_take (i := 4) rfl (by kernel_rfl) (by kernel_rfl) (by kernel_rfl) (fun _ _ _ h => h) (yields_ent_l L16 MEh (by rfl) _ rfl rfl) (by assumption) ?_
      try simp only [Act.put, List.getElem_toArray, List.getElem_cons_zero, List.getElem_cons_succ, List.setIfInBounds_toArray, List.set_cons_zero, List.set_cons_succ]
      refine wpAnyH_take (i := 5) rfl (by kernel_rfl) (by kernel_rfl) (by kernel_rfl) (fun _ _ _ h => h) (yields_pref_l H16 MP (by rfl) _ rfl rfl) (by assumption) ?_
      try simp only [Act.put, List.getElem_toArray, List.getElem_cons_zero, List.getElem_cons_succ, List.setIfInBounds_toArray, List.set_cons_zero, List.set_cons_succ]
      refine wpAnyH_ready (rs := [6]) (by kernel_rfl) (by simp) ?_
      refine AllReadyH.cons rfl (fun K hK => ?_) AllReadyH.nil
      go_simp
      refine HCE.out.mono ?_
      rintro e w6 ⟨rfl, hv6, hf6⟩
      have hf7 : Foot M M wr w6 := (Foot.ofBelow M (Below.refl _ _).drew).trans hf6
      have HV6 := Lib.hid hv6
      have HF6 := Lib.hid hf7
      have hS6 := HKN.out w6 hf7
      have HP6 := Lib.hid (HKP.out w6 hf7)
      have HR6 := Lib.hid (HKR.out w6 hf7)
      clear hf6 hf7 hv6 HCE
      go_wp2_with fail
      refine hK.out _ _ hS6 (fun hHeld6 => ?_)
      clear hK K
      try simp only [Act.put, List.getElem_toArray, List.getElem_cons_zero, List.getElem_cons_succ, List.setIfInBounds_toArray, List.set_cons_zero, List.set_cons_succ]
      by_cases hneg : cv < 0
      · have hdn : decide (cv < 0) = true := by simp [hneg]
        refine wpAnyH_take (i := 7) (v := ?_) rfl (by kernel_rfl) (by kernel_rfl) (by kernel_rfl) (fun _ _ _ h => h) (Or.inl ⟨by rfl, ?_⟩) (by assumption) ?_
        rotate_left
        · (intro w hSw; go_simp; try (with_reducible rfl))
        try simp only [Act.put, List.getElem_toArray, List.getElem_cons_zero, List.getElem_cons_succ, List.setIfInBounds_toArray, List.set_cons_zero, List.set_cons_succ]
        refine wpAnyH_done (by kernel_rfl) ?_ _
        refine NoPanic.normal ?_
        go_wp2_with fail
        go_roundw
        case rel => exact ⟨h + 1, hi, c + 1, by go_num, rfl, by omega, hin, Lib.hid (by have h1 := HCC.out; have h2 := bl_half (n := hi - lo) (x := hi - (h + 1)) (by omega) (by omega); omega), HV6, HR6, HP6, Lib.hid (HF.out.trans HF6.out), Lib.hid ⟨fun t ht htl => HMO.out t h ht hhN (by omega) (by rw [HY.out, HCV.out]; exact hneg), HI.out.2⟩⟩
        case measure => simp [intOf]; omega
      · have hdn : decide (cv < 0) = false := by simp; omega
        refine wpAnyH_take (i := 7) (v := ?_) rfl (by kernel_rfl) (by kernel_rfl) (by kernel_rfl) (fun _ _ _ h => h) (Or.inl ⟨by rfl, ?_⟩) (by assumption) ?_
        rotate_left
        · (intro w hSw; go_simp; try (with_reducible rfl))
        try simp only [Act.put, List.getElem_toArray, List.getElem_cons_zero, List.getElem_cons_succ, List.setIfInBounds_toArray, List.set_cons_zero, List.set_cons_succ]
        refine wpAnyH_done (by kernel_rfl) ?_ _
        refine NoPanic.normal ?_
        go_wp2_with fail
        go_roundw
        case rel => exact ⟨lo, h, c + 1, rfl, rfl, by omega, by omega, Lib.hid (by have h1 := HCC.out; have h2 := bl_half (n := hi - lo) (x := h - lo) (by omega) (by omega); omega), HV6, HR6, HP6, Lib.hid (HF.out.trans HF6.out), Lib.hid ⟨HI.out.1, fun t ht htl => Int.not_lt.1 fun hc => hneg (by have := HMO.out h t hhN ht htl hc; rw [HY.out, HCV.out] at this; exact this)⟩⟩
        case measure => simp [intOf]; omega
    · obtain rfl : hi = lo := by omega
      clear HBW HGW
      have hd : decide ((hi : Int) < (hi : Int)) = false := by simp
      by_cases hn : hi < N
      · have hhN : hi < es.length := by have := HN.out; omega
        have hdN : decide ((hi : Int) < (N : Int)) = true := by simp; omega
        have HCE := Lib.hid (HCM.out c wr.drew es[hi] (by have := HCC.out; have := hbl.out; omega) (List.getElem_mem hhN) (HIN.out c _ _ HV.out (Below.refl _ _).drew))
        have L16 : Hid (es[hi].b.length = 16) := Lib.hid (HG.out _ (List.getElem_mem hhN)).1.len
        have MEh := Lib.hid (ME.out hi hhN)
        obtain ⟨y, hy⟩ : ∃ y, es[hi] = y := ⟨_, rfl⟩
        rw [hy] at HCE L16 MEh
        have HY : Hid (es[hi] = y) := Lib.hid hy
        clear hy HV HR HP HCM HIN ME
        obtain ⟨cv, hcv⟩ : ∃ cv, cmpE y f bs n = cv := ⟨_, rfl⟩
        rw [hcv] at HCE
        have HCV : Hid (cmpE y f bs n = cv) := Lib.hid hcv
        clear hcv
        have HD := Lib.hid HK.out.drew
        clear HK
        go_upto_region 8 with fail
        have hb1 : (0 : Int) ≤ (hi : Int) := by omega
        have hb2 : (hi : Int) < (N : Int) := by omega
        refine wp_region_noPanic ?_
        refine wp_region_held_drew (S := HeldL L) (by kernel_rfl) HD.out (fun hHeld => ?_)
        clear HD
        refine wpAnyH_take (i := 0) (v := ?_) rfl (by kernel_rfl) (by kernel_rfl) (by kernel_rfl) (fun _ _ _ h => h) (Or.inl ⟨by rfl, ?_⟩) (by assumption) ?_
        rotate_left
        · (intro w hSw; go_simp; try (with_reducible rfl))
        try simp only [Act.put, List.getElem_toArray, List.getElem_cons_zero, List.setIfInBounds_toArray, List.set_cons_zero, List.set_cons_succ]
        refine wpAnyH_take (i := 1) (v := ?_) rfl (by kernel_rfl) (by kernel_rfl) (by kernel_rfl) (fun _ _ _ h => h) (Or.inl ⟨by rfl, ?_⟩) (by assumption) ?_
        rotate_left
        · (intro w hSw; go_simp; try (with_reducible rfl))
        try simp only [Act.put, List.getElem_toArray, List.getElem_cons_zero, List.getElem_cons_succ, List.setIfInBounds_toArray, List.set_cons_zero, List.set_cons_succ]
        refine wpAnyH_take (i := 2) (v := ?_) rfl (by kernel_rfl) (by kernel_rfl) (by kernel_rfl) (fun _ _ _ h => h) (Or.inl ⟨by rfl, ?_⟩) (by assumption) ?_
        rotate_left
        · (intro w hSw; go_simp; try (with_reducible rfl))
        try simp only [Act.put, List.getElem_toArray, List.getElem_cons_zero, List.getElem_cons_succ, List.setIfInBounds_toArray, List.set_cons_zero, List.set_cons_succ]
        refine wpAnyH_take (i := 3) (v := ?_) rfl (by kernel_rfl) (by kernel_rfl) (by kernel_rfl) (fun _ _ _ h => h) (Or.inl ⟨by rfl, ?_⟩) (by assumption) ?_
        rotate_left
        · (intro w hSw; go_simp; try (with_reducible rfl))
        try simp only [Act.put, List.getElem_toArray, List.getElem_cons_zero, List.getElem_cons_succ, List.setIfInBounds_toArray, List.set_cons_zero, List.set_cons_succ]
        refine wpAnyH_take (i := 4) (v := ?_) rfl (by kernel_rfl) (by kernel_rfl) (by kernel_rfl) (fun _ _ _ h => h) (Or.inl ⟨by rfl, ?_⟩) (by assumption) ?_
        rotate_left
        · (intro w hSw; go_simp; try (with_reducible rfl))
        try simp only [Act.put, List.getElem_toArray, List.getElem_cons_zero, List.getElem_cons_succ, List.setIfInBounds_toArray, List.set_cons_zero, List.set_cons_succ]
        refine wpAnyH_take (i := 5) (v := ?_) rfl (by kernel_rfl) (by kernel_rfl) (by kernel_rfl) (fun _ _ _ h => h) (Or.inl ⟨by rfl, ?_⟩) (by assumption) ?_
        rotate_left
        · (intro w hSw; go_simp; try (with_reducible rfl))
        try simp only [Act.put, List.getElem_toArray, List.getElem_cons_zero, List.getElem_cons_succ, List.setIfInBounds_toArray, List.set_cons_zero, List.set_cons_succ]
        refine wpAnyH_take (i := 6) (v := ?_) rfl (by kernel_rfl) (by kernel_rfl) (by kernel_rfl) (fun _ _ _ h => h) (Or.inl ⟨by rfl, ?_⟩) (by assumption) ?_
        rotate_left
        · (intro w hSw; go_simp; try (with_reducible rfl))
        try simp only [Act.put, List.getElem_toArray, List.getElem_cons_zero, List.getElem_cons_succ, List.setIfInBounds_toArray, List.set_cons_zero, List.set_cons_succ]
        refine wpAnyH_take (i := 7) (v := ?_) rfl (by kernel_rfl) (by kernel_rfl) (by kernel_rfl) (fun _ _ _ h => h) (Or.inl ⟨by rfl, ?_⟩) (by assumption) ?_
        rotate_left
        · (intro w hSw; go_simp; try (with_reducible rfl))
        try simp only [Act.put, List.getElem_toArray, List.getElem_cons_zero, List.getElem_cons_succ, List.setIfInBounds_toArray, List.set_cons_zero, List.set_cons_succ]
        refine wpAnyH_take (i := 8) (v := ?_) rfl (by kernel_rfl) (by kernel_rfl) (by kernel_rfl) (fun _ _ _ h => h) (Or.inl ⟨by rfl, ?_⟩) (by assumption) ?_
        rotate_left
        · (intro w hSw; go_simp; try (with_reducible rfl))
        try simp only [Act.put, List.getElem_toArray, List.getElem_cons_zero, List.getElem_cons_succ, List.setIfInBounds_toArray, List.set_cons_zero, List.set_cons_succ]
        refine wpAnyH_take (i := 9) rfl (by kernel_rfl) (by kernel_rfl) (by kernel_rfl) (fun _ _ _ h => h) (yields_ent_l L16 MEh (by rfl) _ rfl rfl) (by assumption) ?_
        try simp only [Act.put, List.getElem_toArray, List.getElem_cons_zero, List.getElem_cons_succ, List.setIfInBounds_toArray, List.set_cons_zero, List.set_cons_succ]
        refine wpAnyH_take (i := 10) rfl (by kernel_rfl) (by kernel_rfl) (by kernel_rfl) (fun _ _ _ h => h) (yields_pref_l H16 MP (by rfl) _ rfl rfl) (by assumption) ?_
        try simp only [Act.put, List.getElem_toArray, List.getElem_cons_zero, List.getElem_cons_succ, List.setIfInBounds_toArray, List.set_cons_zero, List.set_cons_succ]
        refine wpAnyH_ready (rs := [11]) (by kernel_rfl) (by simp) ?_
        refine AllReadyH.cons rfl (fun K hK => ?_) AllReadyH.nil
        go_simp
        refine HCE.out.mono ?_
        rintro e w6 ⟨rfl, hv6, hf6⟩
        have hf7 : Foot M M wr w6 := (Foot.ofBelow M (Below.refl _ _).drew).trans hf6
        have HV6 := Lib.hid hv6
        have HF6 := Lib.hid hf7
        have hS6 := HKN.out w6 hf7
        clear hf6 hf7 hv6 HCE
        go_wp2_with fail
        refine hK.out _ _ hS6 (fun hHeld6 => ?_)
        clear hK K
        try simp only [Act.put, List.getElem_toArray, List.getElem_cons_zero, List.getElem_cons_succ, List.setIfInBounds_toArray, List.set_cons_zero, List.set_cons_succ]
        obtain ⟨b, hb⟩ : ∃ b, (cv == 0) = b := ⟨_, rfl⟩
        refine wpAnyH_take (i := 12) (v := ?_) rfl (by kernel_rfl) (by kernel_rfl) (by kernel_rfl) (fun _ _ _ h => h) (Or.inl ⟨by rfl, ?_⟩) (by assumption) ?_
        rotate_left
        · (intro w hSw; go_simp; try (with_reducible rfl))
        try simp only [Act.put, List.getElem_toArray, List.getElem_cons_zero, List.getElem_cons_succ, List.setIfInBounds_toArray, List.set_cons_zero, List.set_cons_succ]
        refine wpAnyH_take (i := 13) (v := ?_) rfl (by kernel_rfl) (by kernel_rfl) (by kernel_rfl) (fun _ _ _ h => h) (Or.inl ⟨by rfl, ?_⟩) (by assumption) ?_
        rotate_left
        · (intro w hSw; go_simp; try (with_reducible rfl))
        try simp only [Act.put, List.getElem_toArray, List.getElem_cons_zero, List.getElem_cons_succ, List.setIfInBounds_toArray, List.set_cons_zero, List.set_cons_succ]
        refine wpAnyH_take (i := 14) (v := ?_) rfl (by kernel_rfl) (by kernel_rfl) (by kernel_rfl) (fun _ _ _ h => h) (Or.inl ⟨by rfl, ?_⟩) (by assumption) ?_
        rotate_left
        · (intro w hSw; go_simp; try (with_reducible rfl))
        try simp only [Act.put, List.getElem_toArray, List.getElem_cons_zero, List.getElem_cons_succ, List.setIfInBounds_toArray, List.set_cons_zero, List.set_cons_succ]
        refine wpAnyH_take (i := 15) (v := ?_) rfl (by kernel_rfl) (by kernel_rfl) (by kernel_rfl) (fun _ _ _ h => h) (Or.inl ⟨by rfl, ?_⟩) (by assumption) ?_
        rotate_left
        · (intro w hSw; go_simp; try (with_reducible rfl))
        try simp only [Act.put, List.getElem_toArray, List.getElem_cons_zero, List.getElem_cons_succ, List.setIfInBounds_toArray, List.set_cons_zero, List.set_cons_succ]
        refine wpAnyH_done (by kernel_rfl) ?_ _
        refine NoPanic.normal ?_
        go_wp2_with fail
        go_ret2
        refine ⟨hi, b, c + 1, rfl, ⟨by omega, HI.out.1, HI.out.2, fun e => ⟨hhN, ?_⟩, fun e h => ?_⟩, HV6.out, ?_, HF.out.trans HF6.out⟩
        · rw [HY.out, HCV.out]; rw [e] at hb; simpa using hb
        · rw [HY.out, HCV.out]; rw [e] at hb; simpa using hb
        · have := HCC.out; omega
      · have hdN : decide ((hi : Int) < (N : Int)) = false := by simp; omega
        have HD := Lib.hid HK.out.drew
        have HVD := Lib.hid (HIN.out c _ _ HV.out (Below.refl _ _).drew)
        clear HK HV HR HP HCM HIN ME
        go_upto_region 8 with fail
        refine wp_region_noPanic ?_
        refine wp_region_held_drew (S := HeldL L) (by kernel_rfl) HD.out (fun hHeld => ?_)
        clear HD
        refine wpAnyH_take (i := 0) (v := ?_) rfl (by kernel_rfl) (by kernel_rfl) (by kernel_rfl) (fun _ _ _ h => h) (Or.inl ⟨by rfl, ?_⟩) (by assumption) ?_
        rotate_left
        · (intro w hSw; go_simp; try (with_reducible rfl))
        try simp only [Act.put, List.getElem_toArray, List.getElem_cons_zero, List.setIfInBounds_toArray, List.set_cons_zero, List.set_cons_succ]
        refine wpAnyH_take (i := 1) (v := ?_) rfl (by kernel_rfl) (by kernel_rfl) (by kernel_rfl) (fun _ _ _ h => h) (Or.inl ⟨by rfl, ?_⟩) (by assumption) ?_
        rotate_left
        · (intro w hSw; go_simp; try (with_reducible rfl))
        try simp only [Act.put, List.getElem_toArray, List.getElem_cons_zero, List.getElem_cons_succ, List.setIfInBounds_toArray, List.set_cons_zero, List.set_cons_succ]
        refine wpAnyH_take (i := 2) (v := ?_) rfl (by kernel_rfl) (by kernel_rfl) (by kernel_rfl) (fun _ _ _ h => h) (Or.inl ⟨by rfl, ?_⟩) (by assumption) ?_
        rotate_left
        · (intro w hSw; go_simp; try (with_reducible rfl))
        try simp only [Act.put, List.getElem_toArray, List.getElem_cons_zero, List.getElem_cons_succ, List.setIfInBounds_toArray, List.set_cons_zero, List.set_cons_succ]
        refine wpAnyH_take (i := 3) (v := ?_) rfl (by kernel_rfl) (by kernel_rfl) (by kernel_rfl) (fun _ _ _ h => h) (Or.inl ⟨by rfl, ?_⟩) (by assumption) ?_
        rotate_left
        · (intro w hSw; go_simp; try (with_reducible rfl))
        try simp only [Act.put, List.getElem_toArray, List.getElem_cons_zero, List.getElem_cons_succ, List.setIfInBounds_toArray, List.set_cons_zero, List.set_cons_succ]
        refine wpAnyH_take (i := 4) (v := ?_) rfl (by kernel_rfl) (by kernel_rfl) (by kernel_rfl) (fun _ _ _ h => h) (Or.inl ⟨by rfl, ?_⟩) (by assumption) ?_
        rotate_left
        · (intro w hSw; go_simp; try (with_reducible rfl))
        try simp only [Act.put, List.getElem_toArray, List.getElem_cons_zero, List.getElem_cons_succ, List.setIfInBounds_toArray, List.set_cons_zero, List.set_cons_succ]
        refine wpAnyH_take (i := 5) (v := undef) rfl (by kernel_rfl) (by kernel_rfl) (by kernel_rfl) (fun _ _ _ h => h) (Or.inr ⟨by rfl, rfl⟩) (by assumption) ?_
        try simp only [Act.put, List.getElem_toArray, List.getElem_cons_zero, List.getElem_cons_succ, List.setIfInBounds_toArray, List.set_cons_zero, List.set_cons_succ]
        refine wpAnyH_take (i := 6) (v := undef) rfl (by kernel_rfl) (by kernel_rfl) (by kernel_rfl) (fun _ _ _ h => h) (Or.inr ⟨by rfl, rfl⟩) (by assumption) ?_
        try simp only [Act.put, List.getElem_toArray, List.getElem_cons_zero, List.getElem_cons_succ, List.setIfInBounds_toArray, List.set_cons_zero, List.set_cons_succ]
        refine wpAnyH_take (i := 7) (v := undef) rfl (by kernel_rfl) (by kernel_rfl) (by kernel_rfl) (fun _ _ _ h => h) (Or.inr ⟨by rfl, rfl⟩) (by assumption) ?_
        try simp only [Act.put, List.getElem_toArray, List.getElem_cons_zero, List.getElem_cons_succ, List.setIfInBounds_toArray, List.set_cons_zero, List.set_cons_succ]
        refine wpAnyH_take (i := 8) (v := undef) rfl (by kernel_rfl) (by kernel_rfl) (by kernel_rfl) (fun _ _ _ h => h) (Or.inr ⟨by rfl, rfl⟩) (by assumption) ?_
        try simp only [Act.put, List.getElem_toArray, List.getElem_cons_zero, List.getElem_cons_succ, List.setIfInBounds_toArray, List.set_cons_zero, List.set_cons_succ]
        refine wpAnyH_take (i := 9) (v := undef) rfl (by kernel_rfl) (by kernel_rfl) (by kernel_rfl) (fun _ _ _ h => h) (Or.inr ⟨by rfl, rfl⟩) (by assumption) ?_
        try simp only [Act.put, List.getElem_toArray, List.getElem_cons_zero, List.getElem_cons_succ, List.setIfInBounds_toArray, List.set_cons_zero, List.set_cons_succ]
        refine wpAnyH_take (i := 10) (v := undef) rfl (by kernel_rfl) (by kernel_rfl) (by kernel_rfl) (fun _ _ _ h => h) (Or.inr ⟨by rfl, rfl⟩) (by assumption) ?_
        try simp only [Act.put, List.getElem_toArray, List.getElem_cons_zero, List.getElem_cons_succ, List.setIfInBounds_toArray, List.set_cons_zero, List.set_cons_succ]
        refine wpAnyH_take (i := 11) (v := undef) rfl (by kernel_rfl) (by kernel_rfl) (by kernel_rfl) (fun _ _ _ h => h) (Or.inr ⟨by rfl, rfl⟩) (by assumption) ?_
        try simp only [Act.put, List.getElem_toArray, List.getElem_cons_zero, List.getElem_cons_succ, List.setIfInBounds_toArray, List.set_cons_zero, List.set_cons_succ]
        refine wpAnyH_take (i := 12) (v := undef) rfl (by kernel_rfl) (by kernel_rfl) (by kernel_rfl) (fun _ _ _ h => h) (Or.inr ⟨by rfl, rfl⟩) (by assumption) ?_
        try simp only [Act.put, List.getElem_toArray, List.getElem_cons_zero, List.getElem_cons_succ, List.setIfInBounds_toArray, List.set_cons_zero, List.set_cons_succ]
        refine wpAnyH_take (i := 13) (v := ?_) rfl (by kernel_rfl) (by kernel_rfl) (by kernel_rfl) (fun _ _ _ h => h) (Or.inl ⟨by rfl, ?_⟩) (by assumption) ?_
        rotate_left
        · (intro w hSw; go_simp; try (with_reducible rfl))
        try simp only [Act.put, List.getElem_toArray, List.getElem_cons_zero, List.getElem_cons_succ, List.setIfInBounds_toArray, List.set_cons_zero, List.set_cons_succ]
        refine wpAnyH_take (i := 14) (v := ?_) rfl (by kernel_rfl) (by kernel_rfl) (by kernel_rfl) (fun _ _ _ h => h) (Or.inl ⟨by rfl, ?_⟩) (by assumption) ?_
        rotate_left
        · (intro w hSw; go_simp; try (with_reducible rfl))
        try simp only [Act.put, List.getElem_toArray, List.getElem_cons_zero, List.getElem_cons_succ, List.setIfInBounds_toArray, List.set_cons_zero, List.set_cons_succ]
        refine wpAnyH_take (i := 15) (v := ?_) rfl (by kernel_rfl) (by kernel_rfl) (by kernel_rfl) (fun _ _ _ h => h) (Or.inl ⟨by rfl, ?_⟩) (by assumption) ?_
        rotate_left
        · (intro w hSw; go_simp; try (with_reducible rfl))
        try simp only [Act.put, List.getElem_toArray, List.getElem_cons_zero, List.getElem_cons_succ, List.setIfInBounds_toArray, List.set_cons_zero, List.set_cons_succ]
        refine wpAnyH_done (by kernel_rfl) ?_ _
        refine NoPanic.normal ?_
        go_wp2_with fail
        go_ret2
        refine ⟨hi, false, c, rfl, ⟨by have := HN.out; omega, HI.out.1, HI.out.2, (fun e => by cases e), fun _ h => absurd h (by have := HN.out; omega)⟩, HVD.out, ?_, HF.out.trans (Foot.ofBelow M (Below.refl _ _).drew)⟩
        have := HCC.out; omega
theorem place_nil (f : Int) (bs : List Nat) (n : Int) : Place [] f bs n 0 false := ⟨Nat.le_refl _, fun t h => absurd h (by simp), fun t h => absurd h (by simp), (fun e => by cases e), fun _ h => absurd h (by simp)⟩
set_option maxRecDepth 100000 in
set_option maxHeartbeats 2000000 in
theorem search_nil (fv : Value) (f : Int) (bs : List Nat) (n : Int) (w : World) (h16 : bs.length = 16) :
    Calls Tryz.prog 52 #[.slice none 0 0, prefV f bs n, fv] w fun e w' =>
      e = .returned (.tuple #[.int .i64 0, .bool false]) ∧ Below w.heap.size w w' := by
  obtain ⟨cs, ecs, HP, HB⟩ := pref_boxed f bs n w h16
  rw [ecs]
  clear ecs h16
  go_enter Tryz.func52, Tryz.ntmps52
  go_upto_region 1 with fail
  generalize (w.alloc (.cells cs 45)) = W at *
  go_wp2_with fail
  go_loop [9, 10] (fun i j => i = .int .i64 0 ∧ j = .int .i64 0) (fun _ _ => 0)
  case atStart => exact ⟨rfl, rfl⟩
  case round =>
    obtain ⟨rfl, rfl⟩ := hrel
    have HD : Hid (HeldL [] W.drew) := Lib.hid (fun x hx => by cases hx)
    go_upto_region 8 with fail
    refine wp_region_noPanic ?_
    refine wp_region_held_drew (S := HeldL []) (by kernel_rfl) HD.out (fun hHeld => ?_)
    clear HD
    refine wpAnyH_take (i := 0) (v := ?_) rfl (by kernel_rfl) (by kernel_rfl) (by kernel_rfl) (fun _ _ _ h => h) (Or.inl ⟨by rfl, ?_⟩) (by assumption) ?_
    rotate_left
    · (intro w hSw; go_simp; try (with_reducible rfl))
    try simp only [Act.put, List.getElem_toArray, List.getElem_cons_zero, List.setIfInBounds_toArray, List.set_cons_zero, List.set_cons_succ]
    refine wpAnyH_take (i := 1) (v := ?_) rfl (by kernel_rfl) (by kernel_rfl) (by kernel_rfl) (fun _ _ _ h => h) (Or.inl ⟨by rfl, ?_⟩) (by assumption) ?_
    rotate_left
    · (intro w hSw; go_simp; try (with_reducible rfl))
    try simp only [Act.put, List.getElem_toArray, List.getElem_cons_zero, List.getElem_cons_succ, List.setIfInBounds_toArray, List.set_cons_zero, List.set_cons_succ]
    refine wpAnyH_take (i := 2) (v := ?_) rfl (by kernel_rfl) (by kernel_rfl) (by kernel_rfl) (fun _ _ _ h => h) (Or.inl ⟨by rfl, ?_⟩) (by assumption) ?_
    rotate_left
    · (intro w hSw; go_simp; try (with_reducible rfl))
    try simp only [Act.put, List.getElem_toArray, List.getElem_cons_zero, List.getElem_cons_succ, List.setIfInBounds_toArray, List.set_cons_zero, List.set_cons_succ]
    refine wpAnyH_take (i := 3) (v := ?_) rfl (by kernel_rfl) (by kernel_rfl) (by kernel_rfl) (fun _ _ _ h => h) (Or.inl ⟨by rfl, ?_⟩) (by assumption) ?_
    rotate_left
    · (intro w hSw; go_simp; try (with_reducible rfl))
    try simp only [Act.put, List.getElem_toArray, List.getElem_cons_zero, List.getElem_cons_succ, List.setIfInBounds_toArray, List.set_cons_zero, List.set_cons_succ]
    refine wpAnyH_take (i := 4) (v := ?_) rfl (by kernel_rfl) (by kernel_rfl) (by kernel_rfl) (fun _ _ _ h => h) (Or.inl ⟨by rfl, ?_⟩) (by assumption) ?_
    rotate_left
    · (intro w hSw; go_simp; try (with_reducible rfl))
    try simp only [Act.put, List.getElem_toArray, List.getElem_cons_zero, List.getElem_cons_succ, List.setIfInBounds_toArray, List.set_cons_zero, List.set_cons_succ]
    refine wpAnyH_take (i := 5) (v := undef) rfl (by kernel_rfl) (by kernel_rfl) (by kernel_rfl) (fun _ _ _ h => h) (Or.inr ⟨by rfl, rfl⟩) (by assumption) ?_
    try simp only [Act.put, List.getElem_toArray, List.getElem_cons_zero, List.getElem_cons_succ, List.setIfInBounds_toArray, List.set_cons_zero, List.set_cons_succ]
    refine wpAnyH_take (i := 6) (v := undef) rfl (by kernel_rfl) (by kernel_rfl) (by kernel_rfl) (fun _ _ _ h => h) (Or.inr ⟨by rfl, rfl⟩) (by assumption) ?_
    try simp only [Act.put, List.getElem_toArray, List.getElem_cons_zero, List.getElem_cons_succ, List.setIfInBounds_toArray, List.set_cons_zero, List.set_cons_succ]
    refine wpAnyH_take (i := 7) (v := undef) rfl (by kernel_rfl) (by kernel_rfl) (by kernel_rfl) (fun _ _ _ h => h) (Or.inr ⟨by rfl, rfl⟩) (by assumption) ?_
    try simp only [Act.put, List.getElem_toArray, List.getElem_cons_zero, List.getElem_cons_succ, List.setIfInBounds_toArray, List.set_cons_zero, List.set_cons_succ]
    refine wpAnyH_take (i := 8) (v := undef) rfl (by kernel_rfl) (by kernel_rfl) (by kernel_rfl) (fun _ _ _ h => h) (Or.inr ⟨by rfl, rfl⟩) (by assumption) ?_
    try simp only [Act.put, List.getElem_toArray, List.getElem_cons_zero, List.getElem_cons_succ, List.setIfInBounds_toArray, List.set_cons_zero, List.set_cons_succ]
    refine wpAnyH_take (i := 9) (v := undef) rfl (by kernel_rfl) (by kernel_rfl) (by kernel_rfl) (fun _ _ _ h => h) (Or.inr ⟨by rfl, rfl⟩) (by assumption) ?_
    try simp only [Act.put, List.getElem_toArray, List.getElem_cons_zero, List.getElem_cons_succ, List.setIfInBounds_toArray, List.set_cons_zero, List.set_cons_succ]
    refine wpAnyH_take (i := 10) (v := undef) rfl (by kernel_rfl) (by kernel_rfl) (by kernel_rfl) (fun _ _ _ h => h) (Or.inr ⟨by rfl, rfl⟩) (by assumption) ?_
    try simp only [Act.put, List.getElem_toArray, List.getElem_cons_zero, List.getElem_cons_succ, List.setIfInBounds_toArray, List.set_cons_zero, List.set_cons_succ]
    refine wpAnyH_take (i := 11) (v := undef) rfl (by kernel_rfl) (by kernel_rfl) (by kernel_rfl) (fun _ _ _ h => h) (Or.inr ⟨by rfl, rfl⟩) (by assumption) ?_
    try simp only [Act.put, List.getElem_toArray, List.getElem_cons_zero, List.getElem_cons_succ, List.setIfInBounds_toArray, List.set_cons_zero, List.set_cons_succ]
    refine wpAnyH_take (i := 12) (v := undef) rfl (by kernel_rfl) (by kernel_rfl) (by kernel_rfl) (fun _ _ _ h => h) (Or.inr ⟨by rfl, rfl⟩) (by assumption) ?_
    try simp only [Act.put, List.getElem_toArray, List.getElem_cons_zero, List.getElem_cons_succ, List.setIfInBounds_toArray, List.set_cons_zero, List.set_cons_succ]
    refine wpAnyH_take (i := 13) (v := ?_) rfl (by kernel_rfl) (by kernel_rfl) (by kernel_rfl) (fun _ _ _ h => h) (Or.inl ⟨by rfl, ?_⟩) (by assumption) ?_
    rotate_left
    · (intro w hSw; go_simp; try (with_reducible rfl))
    try simp only [Act.put, List.getElem_toArray, List.getElem_cons_zero, List.getElem_cons_succ, List.setIfInBounds_toArray, List.set_cons_zero, List.set_cons_succ]
    refine wpAnyH_take (i := 14) (v := ?_) rfl (by kernel_rfl) (by kernel_rfl) (by kernel_rfl) (fun _ _ _ h => h) (Or.inl ⟨by rfl, ?_⟩) (by assumption) ?_
    rotate_left
    · (intro w hSw; go_simp; try (with_reducible rfl))
    try simp only [Act.put, List.getElem_toArray, List.getElem_cons_zero, List.getElem_cons_succ, List.setIfInBounds_toArray, List.set_cons_zero, List.set_cons_succ]
    refine wpAnyH_take (i := 15) (v := ?_) rfl (by kernel_rfl) (by kernel_rfl) (by kernel_rfl) (fun _ _ _ h => h) (Or.inl ⟨by rfl, ?_⟩) (by assumption) ?_
    rotate_left
    · (intro w hSw; go_simp; try (with_reducible rfl))
    try simp only [Act.put, List.getElem_toArray, List.getElem_cons_zero, List.getElem_cons_succ, List.setIfInBounds_toArray, List.set_cons_zero, List.set_cons_succ]
    refine wpAnyH_done (by kernel_rfl) ?_ _
    refine NoPanic.normal ?_
    go_wp2_with fail
    go_ret2
    exact ⟨rfl, chain HB.out (Below.refl _ _).drew⟩
end Go.Proofs.YtgbajagacmfcmaaGreatDoor
/- Plain facts on the prefixes of one address. -/
namespace Go.Proofs.YtgbajagacmfcmaaGreatDoor
open Go.RowKit
set_option linter.unusedVariables false
set_option maxRecDepth 20000

section
variable {f g : Int} {bs us : List Nat}
theorem GoodA.mask (h : GoodA f bs) (m : Nat) (hm : m ≤ bitsN f) : GoodP f (withL (bitsN f) bs m 0) m := by
  have := mask_is (bs := bs) (m : Int) h.pos
  rw [maskN_nat f m hm] at this
  exact this
theorem GoodA.all (h : GoodA f bs) (b : Nat) (hb : b ≤ 1) : withL (bitsN f) bs (bitsN f) b = bs :=
  bits_ext (withL_len _ _ _ _) h.len (withL_lt _ _ _ _ hb) h.lt (fun i hi => by
    rw [bitA_with _ _ _ _ _ hb hi]
    unfold withF
    by_cases h1 : i < bitsN f
    · rw [if_pos h1, if_neg (by omega)]
    · rw [if_neg h1, h.zero i hi (by omega)])
theorem GoodA.whole (h : GoodA f bs) : GoodP f bs (bitsN f) := ⟨h.pos, h.len, h.lt, Nat.le_refl _, h.zero⟩
theorem mask_has (h : GoodA f bs) (m : Nat) (hm : m ≤ bitsN f) : hasR f (withL (bitsN f) bs m 0) (m : Int) f bs = true := by
  have hN := bitsN_le f
  refine (hasR_iff (h.mask m hm) h.len).2 ⟨rfl, fun i hi => ?_⟩
  rw [bitA_with _ _ _ _ _ (by decide) (by omega), withF_at (by omega) hi]
theorem mask_within (h : GoodA f bs) (m n : Nat) (hm : m ≤ bitsN f) (hn : n ≤ bitsN f) : withinR f (withL (bitsN f) bs m 0) (m : Int) f (withL (bitsN f) bs n 0) (n : Int) = decide (n ≤ m) := by
  have hN := bitsN_le f
  rw [Bool.eq_iff_iff, withinR_iff (h.mask m hm) (h.mask n hn), decide_eq_true_iff]
  refine ⟨fun e => e.1, fun e => ⟨e, rfl, fun i hi => ?_⟩⟩
  rw [bitA_with _ _ _ _ _ (by decide) (by omega), bitA_with _ _ _ _ _ (by decide) (by omega), withF_at (by omega) hi, withF_at (by omega) (by omega)]
theorem whole_has (h : GoodA f bs) (hu : GoodA g us) : hasR f bs ((bitsN f : Nat) : Int) g us = decide (f = g ∧ bs = us) := by
  rw [Bool.eq_iff_iff, hasR_iff h.whole hu.len, decide_eq_true_iff]
  constructor
  · rintro ⟨rfl, e⟩
    exact ⟨rfl, bits_ext h.len hu.len h.lt hu.lt (fun i hi => by
      by_cases h1 : i < bitsN f
      · exact e i h1
      · rw [h.zero i hi (by omega), hu.zero i hi (by omega)])⟩
  · rintro ⟨rfl, rfl⟩
    exact ⟨rfl, fun _ _ => rfl⟩
theorem whole_last (h : GoodA f bs) : lastL bs (bitsN f) (bitsN f) = bs := by
  rw [h.whole.last, h.all 1 (by decide)]
end
end Go.Proofs.YtgbajagacmfcmaaGreatDoor
/- Plain facts on entries in their row: what is set, dropped and got, by the place that is found. -/
namespace Go.Proofs.YtgbajagacmfcmaaGreatDoor
open Go.RowKit
set_option linter.unusedVariables false
set_option maxRecDepth 20000

theorem cmpE_zero {e : Ent} {f : Int} {bs : List Nat} {n : Int} (hl : e.b.length = 16) (h16 : bs.length = 16) : cmpE e f bs n = 0 ↔ isEnt f bs n e = true := by
  unfold cmpE isEnt
  rw [cmpP_zero _ _ _ _ _ _ hl h16, decide_eq_true_iff]
section
variable {es : List Ent} {f : Int} {bs : List Nat} {n : Int} {i : Nat}
theorem Place.only {b : Bool} (hp : Place es f bs n i b) (hg : AllGood es) (hs : SortedE es) (h16 : bs.length = 16) {t : Nat} (ht : t < es.length) (h : isEnt f bs n es[t] = true) : t = i ∧ b = true := by
  have hl : es[t].b.length = 16 := (hg _ (List.getElem_mem ht)).1.len
  have h0 := (cmpE_zero (n := n) hl h16).2 h
  have hi : i ≤ t := by
    apply Classical.byContradiction
    intro h2
    have := hp.lo t ht (by omega)
    omega
  have hti : t = i := by
    rcases Nat.lt_or_eq_of_le hi with hlt | e
    · exfalso
      have h1 := hp.hi i (by omega) (Nat.le_refl _)
      have h2 := hs i t (by omega) ht hlt
      obtain ⟨e1, e2, e3⟩ := (cmpP_zero _ _ _ _ _ _ hl h16).1 h0
      unfold cmpE at h1
      rw [← e1, ← e2, ← e3] at h1
      omega
    · exact e.symm
  refine ⟨hti, ?_⟩
  subst hti
  cases b with
  | true => rfl
  | false => exact absurd h0 (hp.no rfl ht)
theorem Place.isAt (hp : Place es f bs n i true) (hg : AllGood es) (h16 : bs.length = 16) : ∃ h : i < es.length, isEnt f bs n es[i] = true := by
  obtain ⟨h, h0⟩ := hp.is rfl
  exact ⟨h, (cmpE_zero (hg _ (List.getElem_mem h)).1.len h16).1 h0⟩
theorem Place.none (hp : Place es f bs n i false) (hg : AllGood es) (hs : SortedE es) (h16 : bs.length = 16) : ∀ e ∈ es, isEnt f bs n e = false := by
  intro e he
  obtain ⟨t, ht, rfl⟩ := List.getElem_of_mem he
  cases h : isEnt f bs n es[t] with
  | false => rfl
  | true => have := (hp.only hg hs h16 ht h).2; cases this
theorem filter_keep {l : List Ent} (h : ∀ e ∈ l, isEnt f bs n e = false) : l.filter (fun e => !isEnt f bs n e) = l := List.filter_eq_self.2 (fun e he => by rw [h e he]; rfl)
theorem split_at {l : List Ent} {i : Nat} (h : i < l.length) : l = l.take i ++ l[i] :: l.drop (i + 1) := by rw [← List.drop_eq_getElem_cons h, List.take_append_drop]
theorem drop_none (hp : Place es f bs n i false) (hg : AllGood es) (hs : SortedE es) (h16 : bs.length = 16) : dropE es f bs n = es := filter_keep (hp.none hg hs h16)
theorem drop_at (hp : Place es f bs n i true) (hg : AllGood es) (hs : SortedE es) (h16 : bs.length = 16) : dropE es f bs n = es.take i ++ es.drop (i + 1) := by
  obtain ⟨h, h0⟩ := hp.isAt hg h16
  unfold dropE
  conv => lhs; rw [split_at h]
  rw [List.filter_append, List.filter_cons, if_neg (by rw [h0]; decide), filter_keep (l := es.take i), filter_keep (l := es.drop (i + 1))]
  · intro e he
    obtain ⟨t, ht, rfl⟩ := List.getElem_of_mem he
    rw [List.length_drop] at ht
    rw [List.getElem_drop]
    cases hh : isEnt f bs n es[i + 1 + t] with
    | false => rfl
    | true => have := (hp.only hg hs h16 (by omega) hh).1; omega
  · intro e he
    obtain ⟨t, ht, rfl⟩ := List.getElem_of_mem he
    rw [List.length_take] at ht
    rw [List.getElem_take]
    cases hh : isEnt f bs n es[t] with
    | false => rfl
    | true => have := (hp.only hg hs h16 (by omega) hh).1; omega
theorem get_none (hp : Place es f bs n i false) (hg : AllGood es) (hs : SortedE es) (h16 : bs.length = 16) : getE es f bs n = Option.none := by
  unfold getE
  rw [List.find?_eq_none.2 (fun e he => by rw [hp.none hg hs h16 e he]; decide)]
  rfl
theorem get_at (hp : Place es f bs n i true) (hg : AllGood es) (hs : SortedE es) (h16 : bs.length = 16) (h : i < es.length) : getE es f bs n = some es[i].v := by
  obtain ⟨_, h0⟩ := hp.isAt hg h16
  unfold getE
  have : es.find? (isEnt f bs n) = some es[i] := by
    rw [List.find?_eq_some_iff_getElem]
    refine ⟨h0, i, h, rfl, fun j hj => ?_⟩
    cases hh : isEnt f bs n es[j] with
    | false => rfl
    | true => have := (hp.only hg hs h16 (by omega) hh).1; omega
  rw [this]
  rfl
/-- A row whose first are all smaller and whose last are all greater: one's place. -/
theorem pos_at (rest : List Ent) (j : Nat) (hj : j ≤ rest.length) (lo : ∀ t (h : t < rest.length), t < j → 0 ≤ cmpP f bs n rest[t].f rest[t].b (rest[t].n : Int)) (hi : ∀ t (h : t < rest.length), j ≤ t → cmpP f bs n rest[t].f rest[t].b (rest[t].n : Int) < 0) :
    ∀ k, j ≤ k → k ≤ rest.length → posE rest f bs n k = j
  | 0, h1, h2 => by rw [posE]; omega
  | k + 1, h1, h2 => by
    rw [posE, List.getElem?_eq_getElem (by omega)]
    show (if cmpP f bs n rest[k].f rest[k].b (rest[k].n : Int) < 0 then posE rest f bs n k else k + 1) = j
    by_cases hk : j ≤ k
    · rw [if_pos (hi k (by omega) hk)]
      exact pos_at rest j hj lo hi k hk (by omega)
    · rw [if_neg (by have := lo k (by omega) (by omega); omega)]
      omega
theorem neg_lt {e : Ent} (h : cmpE e f bs n < 0) : 0 ≤ cmpP f bs n e.f e.b (e.n : Int) := by
  have := cmpP_neg e.f e.b (e.n : Int) f bs n
  unfold cmpE at h
  omega
theorem neg_gt {e : Ent} (h : 0 ≤ cmpE e f bs n) (h0 : cmpE e f bs n ≠ 0) : cmpP f bs n e.f e.b (e.n : Int) < 0 := by
  have := cmpP_neg e.f e.b (e.n : Int) f bs n
  unfold cmpE at h h0
  omega
theorem set_none (x : Int) (hp : Place es f bs n i false) (hg : AllGood es) (hs : SortedE es) (h16 : bs.length = 16) (hlt : ∀ y ∈ bs, y < 256) (hm : mayP f bs n = true) : setE es f bs n x = es.take i ++ [⟨f, bs, n.toNat, x⟩] ++ es.drop i := by
  have hn := (mayP_good h16 hlt hm).2
  unfold setE
  rw [if_pos hm, drop_none hp hg hs h16]
  unfold insE
  have e : posE es f bs ((n.toNat : Nat) : Int) es.length = i := by
    rw [← hn]
    refine pos_at es i hp.le (fun t h ht => neg_lt (hp.lo t h ht)) (fun t h ht => neg_gt (hp.hi t h ht) (fun h0 => ?_)) es.length hp.le (Nat.le_refl _)
    have := hp.none hg hs h16 es[t] (List.getElem_mem h)
    rw [(cmpE_zero (hg _ (List.getElem_mem h)).1.len h16).1 h0] at this
    cases this
  show es.take (posE es f bs ((n.toNat : Nat) : Int) es.length) ++ _ ++ es.drop (posE es f bs ((n.toNat : Nat) : Int) es.length) = _
  rw [e]
theorem set_at (x : Int) (hp : Place es f bs n i true) (hg : AllGood es) (hs : SortedE es) (h16 : bs.length = 16) (hlt : ∀ y ∈ bs, y < 256) (hm : mayP f bs n = true) : setE es f bs n x = es.take i ++ [⟨f, bs, n.toNat, x⟩] ++ es.drop (i + 1) := by
  have hn := (mayP_good h16 hlt hm).2
  obtain ⟨hil, h0⟩ := hp.isAt hg h16
  unfold setE
  rw [if_pos hm, drop_at hp hg hs h16]
  unfold insE
  have hl : (es.take i).length = i := by rw [List.length_take]; omega
  have e : posE (es.take i ++ es.drop (i + 1)) f bs ((n.toNat : Nat) : Int) (es.take i ++ es.drop (i + 1)).length = i := by
    rw [← hn]
    have hle : i ≤ (es.take i ++ es.drop (i + 1)).length := by rw [List.length_append, hl]; omega
    refine pos_at _ i hle (fun t h ht => ?_) (fun t h ht => ?_) _ hle (Nat.le_refl _)
    · rw [List.getElem_append_left (by omega)]
      rw [List.getElem_take]
      exact neg_lt (hp.lo t (by omega) ht)
    · rw [List.length_append, hl, List.length_drop] at h
      have e2 : (es.take i ++ es.drop (i + 1))[t]'(by rw [List.length_append, hl, List.length_drop]; exact h) = es[t + 1]'(by omega) := by
        rw [List.getElem_append_right (by omega), List.getElem_drop]
        congr 1
        omega
      rw [e2]
      refine neg_gt (hp.hi (t + 1) (by omega) (by omega)) (fun h1 => ?_)
      have := (hp.only hg hs h16 (by omega) ((cmpE_zero (hg _ (List.getElem_mem (by omega))).1.len h16).1 h1)).1
      omega
  show (es.take i ++ es.drop (i + 1)).take (posE (es.take i ++ es.drop (i + 1)) f bs ((n.toNat : Nat) : Int) (es.take i ++ es.drop (i + 1)).length) ++ _ ++ (es.take i ++ es.drop (i + 1)).drop (posE (es.take i ++ es.drop (i + 1)) f bs ((n.toNat : Nat) : Int) (es.take i ++ es.drop (i + 1)).length) = _
  rw [e, List.take_left' hl, List.drop_left' hl]
end
theorem sorted_iff (es : List Ent) : SortedE es ↔ es.Pairwise (fun a b => cmpP a.f a.b (a.n : Int) b.f b.b (b.n : Int) < 0) := by
  rw [List.pairwise_iff_getElem]
  exact Iff.rfl
theorem sorted_nil : SortedE [] := fun i j hi => absurd hi (by simp)
theorem sorted_drop {es : List Ent} (hs : SortedE es) (f : Int) (bs : List Nat) (n : Int) : SortedE (dropE es f bs n) := (sorted_iff _).2 (((sorted_iff _).1 hs).filter _)
theorem sorted_take {es : List Ent} (hs : SortedE es) (k : Nat) : SortedE (es.take k) := (sorted_iff _).2 (((sorted_iff _).1 hs).sublist (List.take_sublist _ _))
theorem good_take {es : List Ent} (hg : AllGood es) (k : Nat) : AllGood (es.take k) := fun e he => hg e (List.mem_of_mem_take he)
theorem sorted_ins {es : List Ent} {f : Int} {bs : List Nat} {n : Int} {i j : Nat} (x : Int) (hs : SortedE es) (hij : i ≤ j) (lo : ∀ t (h : t < es.length), t < i → cmpE es[t] f bs n < 0) (hi : ∀ t (h : t < es.length), j ≤ t → cmpP f bs n es[t].f es[t].b (es[t].n : Int) < 0) (hn : n = ((n.toNat : Nat) : Int)) :
    SortedE (es.take i ++ [⟨f, bs, n.toNat, x⟩] ++ es.drop j) := by
  have hp := (sorted_iff _).1 hs
  rw [sorted_iff, List.append_assoc, List.pairwise_append]
  refine ⟨hp.sublist (List.take_sublist _ _), ?_, ?_⟩
  · rw [List.singleton_append, List.pairwise_cons]
    refine ⟨fun e he => ?_, hp.sublist (List.drop_sublist _ _)⟩
    obtain ⟨t, ht, rfl⟩ := List.getElem_of_mem he
    rw [List.length_drop] at ht
    rw [List.getElem_drop]
    have := hi (j + t) (by omega) (by omega)
    show cmpP f bs ((n.toNat : Nat) : Int) _ _ _ < 0
    rw [← hn]; exact this
  · intro a ha b hb
    obtain ⟨s, hs', rfl⟩ := List.getElem_of_mem ha
    rw [List.length_take] at hs'
    rw [List.getElem_take]
    rcases List.mem_append.1 hb with hb | hb
    · rw [List.mem_singleton.1 hb]
      have := lo s (by omega) (by omega)
      show cmpP _ _ _ f bs ((n.toNat : Nat) : Int) < 0
      rw [← hn]; exact this
    · obtain ⟨t, ht, rfl⟩ := List.getElem_of_mem hb
      rw [List.length_drop] at ht
      rw [List.getElem_drop]
      exact hs s (j + t) (by omega) (by omega) (by omega)
theorem sorted_set {es : List Ent} {f : Int} {bs : List Nat} {n : Int} {i : Nat} {b : Bool} (x : Int) (hp : Place es f bs n i b) (hg : AllGood es) (hs : SortedE es) (h16 : bs.length = 16) (hlt : ∀ y ∈ bs, y < 256) : SortedE (setE es f bs n x) := by
  by_cases hm : mayP f bs n = true
  · have hn := (mayP_good h16 hlt hm).2
    cases b with
    | false =>
      rw [set_none x hp hg hs h16 hlt hm]
      refine sorted_ins x hs (Nat.le_refl _) hp.lo (fun t h ht => neg_gt (hp.hi t h ht) (fun h0 => ?_)) hn
      have := hp.none hg hs h16 es[t] (List.getElem_mem h)
      rw [(cmpE_zero (hg _ (List.getElem_mem h)).1.len h16).1 h0] at this
      cases this
    | true =>
      rw [set_at x hp hg hs h16 hlt hm]
      refine sorted_ins x hs (Nat.le_succ _) hp.lo (fun t h ht => neg_gt (hp.hi t h (by omega)) (fun h0 => ?_)) hn
      have := (hp.only hg hs h16 h ((cmpE_zero (hg _ (List.getElem_mem h)).1.len h16).1 h0)).1
      omega
  · unfold setE
    rw [if_neg hm]
    exact hs
end Go.Proofs.YtgbajagacmfcmaaGreatDoor
/- Contract of slices.Delete of one entry. -/
namespace Go.Proofs.YtgbajagacmfcmaaGreatDoor
open Go.RowKit
set_option linter.unusedVariables false
set_option maxRecDepth 20000

/-- The block of a row. -/
def blkL (v : Value) : List Nat := v.ownBlock.toList
end Go.Proofs.YtgbajagacmfcmaaGreatDoor
