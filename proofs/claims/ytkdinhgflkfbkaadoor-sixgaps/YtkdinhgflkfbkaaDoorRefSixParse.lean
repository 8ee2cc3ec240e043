/- The contract of the reference's Parse of layer 3. -/
import Derived.Test.YtkdinhgflkfbkaaDoorRefSix
namespace Go.Proofs.YtkdinhgflkfbkaaDoor
open Go.RowKit
set_option linter.unusedVariables false

/-- An array of eight groups lies at B. -/
structure Arr8 (w : World) (B : Nat) (gs : List Nat) : Prop where
  len : gs.length = 8
  lt : B < w.heap.size
  cells : ∀ j, j < 8 → w.cell? ⟨B, j, none⟩ = some (.int .u16 ((gs.getD j 0 : Nat) : Int))
  live : ∀ j, j < 8 → w.frozen? ⟨B, j, none⟩ = false
theorem Arr8.below {w w' : World} {B : Nat} {gs : List Nat} (h : Arr8 w B gs) (hb : Below w.heap.size w w') : Arr8 w' B gs :=
  ⟨h.len, Nat.lt_of_lt_of_le h.lt hb.size, fun j hj => by rw [hb.cell (p := ⟨B, j, none⟩) h.lt]; exact h.cells j hj, fun j hj => by rw [hb.frozen (p := ⟨B, j, none⟩) h.lt]; exact h.live j hj⟩
theorem Arr8.all {w : World} {B : Nat} {x0 x1 x2 x3 x4 x5 x6 x7 : Nat} (h : Arr8 w B [x0, x1, x2, x3, x4, x5, x6, x7]) :
    w.cell? ⟨B, 0, none⟩ = some (.int .u16 (x0 : Int)) ∧ w.cell? ⟨B, 1, none⟩ = some (.int .u16 (x1 : Int)) ∧ w.cell? ⟨B, 2, none⟩ = some (.int .u16 (x2 : Int)) ∧ w.cell? ⟨B, 3, none⟩ = some (.int .u16 (x3 : Int)) ∧ w.cell? ⟨B, 4, none⟩ = some (.int .u16 (x4 : Int)) ∧ w.cell? ⟨B, 5, none⟩ = some (.int .u16 (x5 : Int)) ∧ w.cell? ⟨B, 6, none⟩ = some (.int .u16 (x6 : Int)) ∧ w.cell? ⟨B, 7, none⟩ = some (.int .u16 (x7 : Int)) :=
  ⟨h.cells 0 (by decide), h.cells 1 (by decide), h.cells 2 (by decide), h.cells 3 (by decide), h.cells 4 (by decide), h.cells 5 (by decide), h.cells 6 (by decide), h.cells 7 (by decide)⟩
theorem Arr8.lives {w : World} {B : Nat} {gs : List Nat} (h : Arr8 w B gs) :
    w.frozen? ⟨B, 0, none⟩ = false ∧ w.frozen? ⟨B, 1, none⟩ = false ∧ w.frozen? ⟨B, 2, none⟩ = false ∧ w.frozen? ⟨B, 3, none⟩ = false ∧ w.frozen? ⟨B, 4, none⟩ = false ∧ w.frozen? ⟨B, 5, none⟩ = false ∧ w.frozen? ⟨B, 6, none⟩ = false ∧ w.frozen? ⟨B, 7, none⟩ = false :=
  ⟨h.live 0 (by decide), h.live 1 (by decide), h.live 2 (by decide), h.live 3 (by decide), h.live 4 (by decide), h.live 5 (by decide), h.live 6 (by decide), h.live 7 (by decide)⟩
theorem Arr8.zero (w : World) (t : TypeId) : Arr8 (w.alloc (.cells #[.int .u16 0, .int .u16 0, .int .u16 0, .int .u16 0, .int .u16 0, .int .u16 0, .int .u16 0, .int .u16 0] t)) w.heap.size [0, 0, 0, 0, 0, 0, 0, 0] := by
  refine ⟨rfl, by simp, ?_, ?_⟩
  · intro j hj
    have : j = 0 ∨ j = 1 ∨ j = 2 ∨ j = 3 ∨ j = 4 ∨ j = 5 ∨ j = 6 ∨ j = 7 := by omega
    rcases this with rfl | rfl | rfl | rfl | rfl | rfl | rfl | rfl <;> simp [World.cell?_alloc_new]
  · intro j hj
    exact World.frozen?_alloc_new _ _ _ _
theorem Arr8.set {w : World} {B k : Nat} {gs : List Nat} (h : Arr8 w B gs) (hk : k < 8) (v : Nat) : Arr8 (w.setCell ⟨B, k, none⟩ (.int .u16 ((v : Nat) : Int))) B (gs.set k v) := by
  refine ⟨by simp [h.len], by simpa using h.lt, ?_, ?_⟩
  · intro j hj
    by_cases e : j = k
    · subst e
      rw [World.cell?_setCell_same _ _ _ (h.cells j hj), List.getD_eq_getElem?_getD, List.getElem?_set_self (by rw [h.len]; exact hj)]
      rfl
    · rw [World.cell?_setCell_other _ _ _ _ (by intro h2; injection h2 with _ h3 _; exact e h3.symm), h.cells j hj, List.getD_eq_getElem?_getD, List.getD_eq_getElem?_getD, List.getElem?_set_ne (by omega)]
  · intro j hj
    rw [World.frozen?_setCell]
    exact h.live j hj
theorem Arr8.other {w : World} {B B' k : Nat} {gs : List Nat} (h : Arr8 w B gs) (hB : B' ≠ B) (u : Value) : Arr8 (w.setCell ⟨B', k, none⟩ u) B gs := by
  refine ⟨h.len, by simpa using h.lt, ?_, ?_⟩
  · intro j hj
    rw [World.cell?_setCell_other _ _ _ _ (by intro h2; injection h2 with h3 _ _; exact hB h3)]
    exact h.cells j hj
  · intro j hj
    rw [World.frozen?_setCell]
    exact h.live j hj
/-- Eight groups, stored one by one. -/
def store8 (W : World) (R : Nat) (y0 y1 y2 y3 y4 y5 y6 y7 : Nat) : World := ((((((((W.setCell ⟨R, 0, none⟩ (.int .u16 ((y0 : Nat) : Int))).setCell ⟨R, 1, none⟩ (.int .u16 ((y1 : Nat) : Int))).setCell ⟨R, 2, none⟩ (.int .u16 ((y2 : Nat) : Int))).setCell ⟨R, 3, none⟩ (.int .u16 ((y3 : Nat) : Int))).setCell ⟨R, 4, none⟩ (.int .u16 ((y4 : Nat) : Int))).setCell ⟨R, 5, none⟩ (.int .u16 ((y5 : Nat) : Int))).setCell ⟨R, 6, none⟩ (.int .u16 ((y6 : Nat) : Int))).setCell ⟨R, 7, none⟩ (.int .u16 ((y7 : Nat) : Int)))
theorem list8 {α : Type} (l : List α) (h : l.length = 8) : ∃ a b c d e f g i, l = [a, b, c, d, e, f, g, i] := by
  match l, h with
  | [a, b, c, d, e, f, g, i], _ => exact ⟨a, b, c, d, e, f, g, i, rfl⟩
theorem store8_arr {W : World} {R : Nat} {gs : List Nat} (y0 y1 y2 y3 y4 y5 y6 y7 : Nat) (h : Arr8 W R gs) : Arr8 (store8 W R y0 y1 y2 y3 y4 y5 y6 y7) R [y0, y1, y2, y3, y4, y5, y6, y7] := by
  obtain ⟨a, b, c, d, e, f, g, i, rfl⟩ := list8 gs h.len
  exact (((((((h.set (k := 0) (by decide) y0).set (k := 1) (by decide) y1).set (k := 2) (by decide) y2).set (k := 3) (by decide) y3).set (k := 4) (by decide) y4).set (k := 5) (by decide) y5).set (k := 6) (by decide) y6).set (k := 7) (by decide) y7
theorem store8_below {w W : World} {R : Nat} (y0 y1 y2 y3 y4 y5 y6 y7 : Nat) (h : Below w.heap.size w W) (hR : w.heap.size ≤ R) : Below w.heap.size w (store8 W R y0 y1 y2 y3 y4 y5 y6 y7) :=
  (((((((h.setCell (p := ⟨R, 0, none⟩) hR _).setCell (p := ⟨R, 1, none⟩) hR _).setCell (p := ⟨R, 2, none⟩) hR _).setCell (p := ⟨R, 3, none⟩) hR _).setCell (p := ⟨R, 4, none⟩) hR _).setCell (p := ⟨R, 5, none⟩) hR _).setCell (p := ⟨R, 6, none⟩) hR _).setCell (p := ⟨R, 7, none⟩) hR _
/-- A row of numbers, as a walk reads it; it may be nil. -/
structure IntRow (w : World) (B : Nat) (b : Option Addr) (n c : Nat) (l : List Nat) : Prop where
  len : l.length = n
  cap : n ≤ c
  capm : c ≤ maxLen
  lies : n = 0 ∨ ∃ h, b = some ⟨h, 0, none⟩ ∧ B ≤ h ∧ h < w.heap.size ∧ ∀ j, j < n → w.cell? ⟨h, j, none⟩ = some (.int .i64 ((l.getD j 0 : Nat) : Int))
theorem IntRow.of_own {w : World} {B : Nat} {v : Value} {l : List Nat} (h : w.ownsRow B 3 1 v l.length (ints l)) : ∃ b c, v = .slice b l.length c ∧ IntRow w B b l.length c l := by
  have hh := h
  rcases h.2 with ⟨rfl, h0⟩ | ⟨g, cap, cur, rfl, hB, hg, h1, h2, _⟩
  · exact ⟨none, 0, by rw [h0], rfl, by omega, Nat.zero_le _, .inl h0⟩
  · refine ⟨some ⟨g, 0, none⟩, cap, rfl, rfl, h1, h2, .inr ⟨g, rfl, hB, ?_, ?_⟩⟩
    · rcases Nat.lt_or_ge g w.heap.size with h | h
      · exact h
      · rw [Array.getElem?_eq_none h] at hg; cases hg
    · intro j hj
      rw [hh.cellAt j (by omega)]
      simp [ints, hj]
theorem IntRow.below {w w' : World} {B n c : Nat} {b : Option Addr} {l : List Nat} (h : IntRow w B b n c l) (hb : Below w.heap.size w w') : IntRow w' B b n c l :=
  ⟨h.len, h.cap, h.capm, h.lies.imp id fun ⟨g, e, hB, hg, hc⟩ => ⟨g, e, hB, Nat.lt_of_lt_of_le hg hb.size, fun j hj => by rw [hb.cell (p := ⟨g, j, none⟩) hg]; exact hc j hj⟩⟩
theorem IntRow.other {w : World} {B B' k n c : Nat} {b : Option Addr} {l : List Nat} (h : IntRow w B b n c l) (hB' : B' < B) (u : Value) : IntRow (w.setCell ⟨B', k, none⟩ u) B b n c l :=
  ⟨h.len, h.cap, h.capm, h.lies.imp id fun ⟨g, e, hB, hg, hc⟩ => ⟨g, e, hB, by simpa using hg, fun j hj => by
    rw [World.cell?_setCell_other _ _ _ _ (by intro h2; injection h2 with h3 _ _; omega)]
    exact hc j hj⟩⟩
theorem groupsB_len (s : ByteArray) (dot : Bool) : ((groupsB s dot).getD []).length ≤ 2 * (s.size + 1) := by
  have key : ∀ (l : List ByteArray) k out, grTo l dot k = some out → out.length ≤ 2 * k := by
    intro l k
    induction k with
    | zero => intro out h; have := Option.some.inj h; subst this; simp
    | succ k ih =>
      intro out h
      cases hk : grTo l dot k with
      | none => rw [grTo, hk] at h; cases h
      | some o =>
        have := ih o hk
        cases hx : hexG (l.getD k ⟨#[]⟩) with
        | some v =>
          rw [grTo_hex hk hx] at h
          have := Option.some.inj h
          subst this
          simp
          omega
        | none =>
          cases hv : strictB (l.getD k ⟨#[]⟩) with
          | none => rw [grTo_stop hk hx hv] at h; cases h
          | some v =>
            rw [grTo_strict hk hx hv] at h
            split at h
            · have := Option.some.inj h
              subst this
              simp
              omega
            · cases h
  unfold groupsB
  split
  · simp
  · cases h : grTo (pieces s 58) dot (pieces s 58).length with
    | none => simp
    | some out =>
      have h1 := key _ _ _ h
      have h2 := pieces_len s 58
      show out.length ≤ _
      omega
theorem set_behind (a b : List Nat) (na nb m q : Nat) (ha : a.length = na) (hb : b.length = nb) (h7 : na + nb ≤ 7) (hm : m < nb) (hq : 8 - nb + m = q) :
    ((a ++ List.replicate (8 - na - nb) 0) ++ (b.take m ++ List.replicate (nb - m) 0)).set q (b.getD m 0) = (a ++ List.replicate (8 - na - nb) 0) ++ (b.take (m + 1) ++ List.replicate (nb - (m + 1)) 0) := by
  have e : b.take (m + 1) = b.take m ++ [b.getD m 0] := by rw [List.take_add_one, List.getD_eq_getElem?_getD, List.getElem?_eq_getElem (by omega)]; rfl
  have hl : (b.take m).length = m := by simp; omega
  have hp : (a ++ List.replicate (8 - na - nb) 0).length = 8 - nb := by simp; omega
  rw [List.set_append_right _ _ (by rw [hp]; omega), hp, show q - (8 - nb) = m by omega, List.set_append_right _ _ (by omega), hl, Nat.sub_self, show nb - m = (nb - (m + 1)) + 1 by omega, List.replicate_succ, List.set_cons_zero, e]
  simp
theorem set_next (a : List Nat) (k : Nat) (hk : k < a.length) (h8 : k < 8) : (a.take k ++ List.replicate (8 - k) 0).set k (a.getD k 0) = a.take (k + 1) ++ List.replicate (8 - (k + 1)) 0 := by
  have hl : (a.take k).length = k := by simp; omega
  have e : a.take (k + 1) = a.take k ++ [a.getD k 0] := by rw [List.take_add_one, List.getD_eq_getElem?_getD, List.getElem?_eq_getElem hk]; rfl
  rw [e, List.set_append_right _ _ (by omega), hl, Nat.sub_self, show 8 - k = (8 - (k + 1)) + 1 by omega, List.replicate_succ, List.set_cons_zero, List.append_assoc]
  rfl
/-- The groups ahead of two colons, zeros, the groups behind. -/
def mergeB (oa ob : Option (List Nat)) : Option (List Nat) :=
  match oa, ob with
  | some a, some b => if 7 < a.length + b.length then none else some (a ++ List.replicate (8 - a.length - b.length) 0 ++ b)
  | _, _ => none
def parseB (s : ByteArray) : Option (List Nat) :=
  match gapB s with
  | none => match groupsB s true with
    | none => none
    | some l => if l.length = 8 then some l else none
  | some k => mergeB (groupsB (s.extract 0 k) false) (groupsB (s.extract (k + 2) s.size) true)
def arr8 (l : List Nat) : Value := .agg (l.map fun n => Value.int .u16 ((n : Nat) : Int)).toArray
def parseRet (o : Option (List Nat)) : Value := .tuple #[arr8 (o.getD [0, 0, 0, 0, 0, 0, 0, 0]), .bool o.isSome]

set_option maxRecDepth 100000 in
set_option maxHeartbeats 4000000 in
theorem refParse_any (s : ByteArray) (w : World) (hs : s.size ≤ 100000) :
    Calls Tryd.prog 12 #[.string s] w fun e w' => e = .returned (parseRet (parseB s)) ∧ Below w.heap.size w w' := by
  have hz0 := Arr8.zero w 24
  have hz1 := Arr8.zero (w.alloc (.cells #[.int .u16 0, .int .u16 0, .int .u16 0, .int .u16 0, .int .u16 0, .int .u16 0, .int .u16 0, .int .u16 0] 24)) 24
  have hb0 : Below w.heap.size w (w.alloc (.cells #[.int .u16 0, .int .u16 0, .int .u16 0, .int .u16 0, .int .u16 0, .int .u16 0, .int .u16 0, .int .u16 0] 24)) := (Below.refl _ _).alloc (Nat.le_refl _) _
  have hb1 := hb0.alloc hb0.size (.cells #[.int .u16 0, .int .u16 0, .int .u16 0, .int .u16 0, .int .u16 0, .int .u16 0, .int .u16 0, .int .u16 0] 24)
  have hz2 := hz0.below ((Below.refl _ _).alloc (Nat.le_refl _) (.cells #[.int .u16 0, .int .u16 0, .int .u16 0, .int .u16 0, .int .u16 0, .int .u16 0, .int .u16 0, .int .u16 0] 24))
  rw [show (w.alloc (.cells #[.int .u16 0, .int .u16 0, .int .u16 0, .int .u16 0, .int .u16 0, .int .u16 0, .int .u16 0, .int .u16 0] 24)).heap.size = w.heap.size + 1 by simp] at hz1
  go_enter Tryd.func12, Tryd.ntmps12
  go_wp2_with fail
  generalize (w.alloc (.cells #[.int .u16 0, .int .u16 0, .int .u16 0, .int .u16 0, .int .u16 0, .int .u16 0, .int .u16 0, .int .u16 0] 24)).alloc (.cells #[.int .u16 0, .int .u16 0, .int .u16 0, .int .u16 0, .int .u16 0, .int .u16 0, .int .u16 0, .int .u16 0] 24) = w0 at *
  clear hz0
  have HZ1 := Lib.hid hz1
  have HZ2 := Lib.hid hz2
  clear hz1 hz2 hb0
  refine (refGap_any s _ (by omega)).mono ?_
  rintro e w1 ⟨rfl, rfl⟩
  cases hg : gapB s with
  | none =>
    rw [show optI none = -1 from rfl]
    have HGp := Lib.hid hg
    clear hg
    go_wp2_with fail
    refine (refGroups_any s true _ hs).mono ?_
    rintro e w2 ⟨v, rfl, hown, hb⟩
    have hlt0 := HZ1.out.lt
    cases hq : groupsB s true with
    | none =>
      have HD : Hid (parseB s = none) := Lib.hid (by unfold parseB; rw [HGp.out]; simp only [hq])
      clear hq hown
      obtain ⟨c0, c1, c2, c3, c4, c5, c6, c7⟩ := (HZ1.out.below hb).all
      obtain ⟨r0, r1, r2, r3, r4, r5, r6, r7⟩ := (HZ2.out.below hb).all
      obtain ⟨f0, f1, f2, f3, f4, f5, f6, f7⟩ := (HZ2.out.below hb).lives
      have E1 := store8_arr 0 0 0 0 0 0 0 0 (HZ2.out.below hb)
      have E2 := store8_below 0 0 0 0 0 0 0 0 (chain hb1 hb) (Nat.le_refl w.heap.size)
      have E1 := Lib.hid E1
      have E2 := Lib.hid E2
      go_wp2_with fail
      change bodyPost _ _ _ _ _ (store8 w2 w.heap.size 0 0 0 0 0 0 0 0)
      generalize store8 w2 w.heap.size 0 0 0 0 0 0 0 0 = W at *
      clear c0 c1 c2 c3 c4 c5 c6 c7 r0 r1 r2 r3 r4 r5 r6 r7 f0 f1 f2 f3 f4 f5 f6 f7
      obtain ⟨r0, r1, r2, r3, r4, r5, r6, r7⟩ := E1.out.all
      refine bodyPost_ret (v := parseRet none) (by simp [results, Tryd.results12, go_sem, r0, r1, r2, r3, r4, r5, r6, r7, parseRet, arr8]) rfl ⟨by rw [HD.out], E2.out⟩
    | some l =>
      have hlt := groupsB_lt _ _ _ hq
      have HLT := Lib.hid hlt
      rw [hq] at hown
      change w2.ownsRow w0.heap.size 3 1 v l.length (ints l) at hown
      obtain ⟨b, c, rfl, hrow⟩ := IntRow.of_own hown
      have hc1 := hrow.cap
      have hc2 := hrow.capm
      unfold maxLen at hc2
      have HRow := Lib.hid hrow
      clear hown hrow hlt
      by_cases h8 : l.length = 8
      · have HD : Hid (parseB s = some l) := Lib.hid (by unfold parseB; rw [HGp.out]; simp only [hq, if_pos h8])
        clear hq
        have HL8 := Lib.hid h8
        rw [h8] at HRow hc1
        rw [h8, show (some l).isSome = true from rfl]
        clear h8
        go_wp2_with fail
        go_loopw [8] (fun i wr => ∃ (k : Nat) (gs : List Nat), k ≤ 8 ∧ i = .int .i64 k ∧ Hid (Arr8 wr (w.heap.size + 1) gs) ∧ Hid (Arr8 wr w.heap.size [0, 0, 0, 0, 0, 0, 0, 0]) ∧ Hid (IntRow wr w0.heap.size b 8 c l) ∧ Below w.heap.size w wr ∧ Hid (gs = l.take k ++ List.replicate (8 - k) 0)) (fun i _ => 8 - (intOf i).toNat)
        case atStart => exact ⟨0, [0, 0, 0, 0, 0, 0, 0, 0], by decide, rfl, Lib.hid (HZ1.out.below hb), Lib.hid (HZ2.out.below hb), HRow, chain hb1 hb, Lib.hid (by simp)⟩
        case round =>
          obtain ⟨k, gs, hk, rfl, HA, HB, HRw, hbel, HGs⟩ := hrel
          by_cases hk8 : k < 8
          · obtain ⟨h, rfl, hB, hh, hcell⟩ : ∃ h, b = some ⟨h, 0, none⟩ ∧ w0.heap.size ≤ h ∧ h < wr.heap.size ∧ wr.cell? ⟨h, k, none⟩ = some (.int .i64 ((l.getD k 0 : Nat) : Int)) := by
              rcases HRw.out.lies with h0 | ⟨h, e, hB, hh, hc⟩
              · omega
              · exact ⟨h, e, hB, hh, hc k hk8⟩
            have hx : l.getD k 0 < 65536 := by
              rw [List.getD_eq_getElem?_getD, List.getElem?_eq_getElem (by rw [HL8.out]; exact hk8)]
              exact HLT.out _ (List.getElem_mem _)
            obtain ⟨x, ex⟩ : ∃ x, l.getD k 0 = x := ⟨_, rfl⟩
            rw [ex] at hcell hx
            have HEx := Lib.hid ex
            clear ex
            have hw16 : IntKind.u16.wrap (x : Int) = (x : Int) := by rw [IntKind.wrap_u16]; omega
            have hgc := HA.out.cells k hk8
            have hgl := HA.out.live k hk8
            go_wp2_with fail
            go_roundw
            case rel => exact ⟨k + 1, gs.set k x, by omega, by go_num, Lib.hid (HA.out.set hk8 x), Lib.hid (HB.out.other (by omega) _), Lib.hid (HRw.out.other hlt0 _), hbel.setCell (p := ⟨w.heap.size + 1, k, none⟩) (by show w.heap.size ≤ w.heap.size + 1; omega) _, Lib.hid (by rw [HGs.out, ← HEx.out]; exact set_next l k (by rw [HL8.out]; exact hk8) hk8)⟩
            case measure => simp [intOf]; omega
          · obtain rfl : k = 8 := by omega
            have hgs : gs = l := by rw [HGs.out, List.take_of_length_le (by rw [HL8.out]; exact Nat.le_refl _)]; simp
            subst hgs
            have hA := HA.out
            obtain ⟨x0, x1, x2, x3, x4, x5, x6, x7, rfl⟩ := list8 gs HL8.out
            obtain ⟨c0, c1, c2, c3, c4, c5, c6, c7⟩ := hA.all
            obtain ⟨r0, r1, r2, r3, r4, r5, r6, r7⟩ := (HB.out).all
            obtain ⟨f0, f1, f2, f3, f4, f5, f6, f7⟩ := (HB.out).lives
            have E1 := Lib.hid (store8_arr x0 x1 x2 x3 x4 x5 x6 x7 (HB.out))
            have E2 := Lib.hid (store8_below x0 x1 x2 x3 x4 x5 x6 x7 (hbel) (Nat.le_refl w.heap.size))
            clear hA
            go_wp2_with fail
            change bodyPost _ _ _ _ _ (store8 wr w.heap.size x0 x1 x2 x3 x4 x5 x6 x7)
            generalize store8 wr w.heap.size x0 x1 x2 x3 x4 x5 x6 x7 = W at *
            clear c0 c1 c2 c3 c4 c5 c6 c7 r0 r1 r2 r3 r4 r5 r6 r7 f0 f1 f2 f3 f4 f5 f6 f7
            obtain ⟨r0, r1, r2, r3, r4, r5, r6, r7⟩ := E1.out.all
            refine bodyPost_ret (v := parseRet (some [x0, x1, x2, x3, x4, x5, x6, x7])) (by simp [results, Tryd.results12, go_sem, r0, r1, r2, r3, r4, r5, r6, r7, parseRet, arr8]) rfl ⟨by rw [HD.out], E2.out⟩
      · have HD : Hid (parseB s = none) := Lib.hid (by unfold parseB; rw [HGp.out]; simp only [hq, if_neg h8])
        clear hq
        rw [show (some l).isSome = true from rfl]
        have hl8 : ((l.length : Int) != 8) = true := by simp; omega
        obtain ⟨c0, c1, c2, c3, c4, c5, c6, c7⟩ := (HZ1.out.below hb).all
        obtain ⟨r0, r1, r2, r3, r4, r5, r6, r7⟩ := (HZ2.out.below hb).all
        obtain ⟨f0, f1, f2, f3, f4, f5, f6, f7⟩ := (HZ2.out.below hb).lives
        have E1 := store8_arr 0 0 0 0 0 0 0 0 (HZ2.out.below hb)
        have E2 := store8_below 0 0 0 0 0 0 0 0 (chain hb1 hb) (Nat.le_refl w.heap.size)
        have E1 := Lib.hid E1
        have E2 := Lib.hid E2
        go_wp2_with fail
        change bodyPost _ _ _ _ _ (store8 w2 w.heap.size 0 0 0 0 0 0 0 0)
        generalize store8 w2 w.heap.size 0 0 0 0 0 0 0 0 = W at *
        clear c0 c1 c2 c3 c4 c5 c6 c7 r0 r1 r2 r3 r4 r5 r6 r7 f0 f1 f2 f3 f4 f5 f6 f7
        obtain ⟨r0, r1, r2, r3, r4, r5, r6, r7⟩ := E1.out.all
        refine bodyPost_ret (v := parseRet none) (by simp [results, Tryd.results12, go_sem, r0, r1, r2, r3, r4, r5, r6, r7, parseRet, arr8]) rfl ⟨by rw [HD.out], E2.out⟩
  | some k =>
    have hk2 : k + 2 ≤ s.size := by have := gapTo_lt s _ _ hg; omega
    have HGp := Lib.hid hg
    clear hg
    rw [show optI (some k) = (k : Int) from rfl]
    have hki : (k : Int) + 2 ≤ (s.size : Int) := by omega
    go_wp2_with fail
    refine (refGroups_any _ false _ (by simp; omega)).mono ?_
    rintro e w2 ⟨va, rfl, howna, hb⟩
    obtain ⟨oa, hoa⟩ : ∃ oa, groupsB (s.extract 0 k) false = oa := ⟨_, rfl⟩
    rw [hoa] at howna ⊢
    obtain ⟨ba, ca, rfl, rowa⟩ := IntRow.of_own howna
    have hla : (oa.getD []).length ≤ 200002 := by
      have := groupsB_len (s.extract 0 k) false
      rw [hoa] at this
      have hz : (s.extract 0 k).size ≤ 100000 := by simp; omega
      omega
    have hca := rowa.cap
    have HRa := Lib.hid rowa
    have HOa := Lib.hid hoa
    clear howna rowa hoa
    go_wp2_with fail
    refine (refGroups_any _ true _ (by simp; omega)).mono ?_
    rintro e w3 ⟨vb, rfl, hownb, hb3⟩
    obtain ⟨ob, hob⟩ : ∃ ob, groupsB (s.extract (k + 2) s.size) true = ob := ⟨_, rfl⟩
    rw [hob] at hownb ⊢
    obtain ⟨bb, cb, rfl, rowb⟩ := IntRow.of_own hownb
    have hlb : (ob.getD []).length ≤ 200002 := by
      have := groupsB_len (s.extract (k + 2) s.size) true
      rw [hob] at this
      have hz : (s.extract (k + 2) s.size).size ≤ 100000 := by simp; omega
      omega
    have hcb := rowb.cap
    have HRb := Lib.hid rowb
    have HOb := Lib.hid hob
    have HRa3 := Lib.hid (HRa.out.below hb3)
    have hlt0 := HZ1.out.lt
    have hw02 := hb.size
    clear hownb rowb hob HRa
    have hb03 := chain hb hb3
    have HP : Hid (parseB s = mergeB oa ob) := Lib.hid (by unfold parseB; rw [HGp.out]; simp only []; rw [HOa.out, HOb.out])
    cases oa with
    | none =>
      have HD : Hid (parseB s = none) := Lib.hid (by rw [HP.out]; rfl)
      rw [show (none : Option (List Nat)).isSome = false from rfl]
      obtain ⟨c0, c1, c2, c3, c4, c5, c6, c7⟩ := (HZ1.out.below hb03).all
      obtain ⟨r0, r1, r2, r3, r4, r5, r6, r7⟩ := (HZ2.out.below hb03).all
      obtain ⟨f0, f1, f2, f3, f4, f5, f6, f7⟩ := (HZ2.out.below hb03).lives
      have E1 := store8_arr 0 0 0 0 0 0 0 0 (HZ2.out.below hb03)
      have E2 := store8_below 0 0 0 0 0 0 0 0 (chain hb1 hb03) (Nat.le_refl w.heap.size)
      have E1 := Lib.hid E1
      have E2 := Lib.hid E2
      go_wp2_with fail
      change bodyPost _ _ _ _ _ (store8 w3 w.heap.size 0 0 0 0 0 0 0 0)
      generalize store8 w3 w.heap.size 0 0 0 0 0 0 0 0 = W at *
      clear c0 c1 c2 c3 c4 c5 c6 c7 r0 r1 r2 r3 r4 r5 r6 r7 f0 f1 f2 f3 f4 f5 f6 f7
      obtain ⟨r0, r1, r2, r3, r4, r5, r6, r7⟩ := E1.out.all
      refine bodyPost_ret (v := parseRet none) (by simp [results, Tryd.results12, go_sem, r0, r1, r2, r3, r4, r5, r6, r7, parseRet, arr8]) rfl ⟨by rw [HD.out], E2.out⟩
    | some la =>
      cases ob with
      | none =>
        have HD : Hid (parseB s = none) := Lib.hid (by rw [HP.out]; rfl)
        rw [show (none : Option (List Nat)).isSome = false from rfl, show (some la).isSome = true from rfl]
        obtain ⟨c0, c1, c2, c3, c4, c5, c6, c7⟩ := (HZ1.out.below hb03).all
        obtain ⟨r0, r1, r2, r3, r4, r5, r6, r7⟩ := (HZ2.out.below hb03).all
        obtain ⟨f0, f1, f2, f3, f4, f5, f6, f7⟩ := (HZ2.out.below hb03).lives
        have E1 := store8_arr 0 0 0 0 0 0 0 0 (HZ2.out.below hb03)
        have E2 := store8_below 0 0 0 0 0 0 0 0 (chain hb1 hb03) (Nat.le_refl w.heap.size)
        have E1 := Lib.hid E1
        have E2 := Lib.hid E2
        go_wp2_with fail
        change bodyPost _ _ _ _ _ (store8 w3 w.heap.size 0 0 0 0 0 0 0 0)
        generalize store8 w3 w.heap.size 0 0 0 0 0 0 0 0 = W at *
        clear c0 c1 c2 c3 c4 c5 c6 c7 r0 r1 r2 r3 r4 r5 r6 r7 f0 f1 f2 f3 f4 f5 f6 f7
        obtain ⟨r0, r1, r2, r3, r4, r5, r6, r7⟩ := E1.out.all
        refine bodyPost_ret (v := parseRet none) (by simp [results, Tryd.results12, go_sem, r0, r1, r2, r3, r4, r5, r6, r7, parseRet, arr8]) rfl ⟨by rw [HD.out], E2.out⟩
      | some lb =>
        have HLa := Lib.hid (groupsB_lt _ _ _ HOa.out)
        have HLb := Lib.hid (groupsB_lt _ _ _ HOb.out)
        change la.length ≤ 200002 at hla
        change lb.length ≤ 200002 at hlb
        change la.length ≤ ca at hca
        change lb.length ≤ cb at hcb
        change Hid (IntRow w3 w0.heap.size ba la.length ca la) at HRa3
        change Hid (IntRow w3 w2.heap.size bb lb.length cb lb) at HRb
        rw [show (some la).isSome = true from rfl, show (some lb).isSome = true from rfl, show (some la).getD [] = la from rfl, show (some lb).getD [] = lb from rfl]
        by_cases h7 : 7 < la.length + lb.length
        · have HD : Hid (parseB s = none) := Lib.hid (by rw [HP.out]; show (if 7 < la.length + lb.length then none else _) = _; rw [if_pos h7])
          have h7i : (7 : Int) < (la.length : Int) + (lb.length : Int) := by omega
          obtain ⟨c0, c1, c2, c3, c4, c5, c6, c7⟩ := (HZ1.out.below hb03).all
          obtain ⟨r0, r1, r2, r3, r4, r5, r6, r7⟩ := (HZ2.out.below hb03).all
          obtain ⟨f0, f1, f2, f3, f4, f5, f6, f7⟩ := (HZ2.out.below hb03).lives
          have E1 := store8_arr 0 0 0 0 0 0 0 0 (HZ2.out.below hb03)
          have E2 := store8_below 0 0 0 0 0 0 0 0 (chain hb1 hb03) (Nat.le_refl w.heap.size)
          have E1 := Lib.hid E1
          have E2 := Lib.hid E2
          go_wp2_with fail
          change bodyPost _ _ _ _ _ (store8 w3 w.heap.size 0 0 0 0 0 0 0 0)
          generalize store8 w3 w.heap.size 0 0 0 0 0 0 0 0 = W at *
          clear c0 c1 c2 c3 c4 c5 c6 c7 r0 r1 r2 r3 r4 r5 r6 r7 f0 f1 f2 f3 f4 f5 f6 f7
          obtain ⟨r0, r1, r2, r3, r4, r5, r6, r7⟩ := E1.out.all
          refine bodyPost_ret (v := parseRet none) (by simp [results, Tryd.results12, go_sem, r0, r1, r2, r3, r4, r5, r6, r7, parseRet, arr8]) rfl ⟨by rw [HD.out], E2.out⟩
        · have HD : Hid (parseB s = some (la ++ List.replicate (8 - la.length - lb.length) 0 ++ lb)) := Lib.hid (by rw [HP.out]; show (if 7 < la.length + lb.length then none else _) = _; rw [if_neg h7])
          have h7i : ¬ (7 : Int) < (la.length : Int) + (lb.length : Int) := by omega
          obtain ⟨na, hna⟩ : ∃ n, la.length = n := ⟨_, rfl⟩
          obtain ⟨nb, hnb⟩ : ∃ n, lb.length = n := ⟨_, rfl⟩
          rw [hna, hnb] at HD h7 h7i
          rw [hna] at HRa3 hca
          rw [hnb] at HRb hcb
          rw [hna, hnb]
          have HNa := Lib.hid hna
          have HNb := Lib.hid hnb
          clear hla hlb hna hnb
          go_wp2_with fail
          go_loopw [13] (fun i wr => ∃ (k : Nat) (gs : List Nat), k ≤ na ∧ i = .int .i64 k ∧ Hid (Arr8 wr (w.heap.size + 1) gs) ∧ Hid (Arr8 wr w.heap.size [0, 0, 0, 0, 0, 0, 0, 0]) ∧ Hid (IntRow wr w0.heap.size ba na ca la) ∧ Hid (IntRow wr w2.heap.size bb nb cb lb) ∧ Below w.heap.size w wr ∧ Hid (gs = la.take k ++ List.replicate (8 - k) 0)) (fun i _ => na - (intOf i).toNat)
          case atStart => exact ⟨0, [0, 0, 0, 0, 0, 0, 0, 0], Nat.zero_le _, rfl, Lib.hid (HZ1.out.below hb03), Lib.hid (HZ2.out.below hb03), HRa3, HRb, chain hb1 hb03, Lib.hid (by simp)⟩
          case round =>
            obtain ⟨j, gs, hj, rfl, HA, HB, HRw, HRv, hbel, HGs⟩ := hrel
            by_cases hjn : j < na
            · obtain ⟨h, rfl, hB, hh, hcell⟩ : ∃ h, ba = some ⟨h, 0, none⟩ ∧ w0.heap.size ≤ h ∧ h < wr.heap.size ∧ wr.cell? ⟨h, j, none⟩ = some (.int .i64 ((la.getD j 0 : Nat) : Int)) := by
                rcases HRw.out.lies with h0 | ⟨h, e, hB, hh, hc⟩
                · omega
                · exact ⟨h, e, hB, hh, hc j hjn⟩
              have hx : la.getD j 0 < 65536 := by
                rw [List.getD_eq_getElem?_getD, List.getElem?_eq_getElem (by rw [HNa.out]; exact hjn)]
                exact HLa.out _ (List.getElem_mem _)
              obtain ⟨x, ex⟩ : ∃ x, la.getD j 0 = x := ⟨_, rfl⟩
              rw [ex] at hcell hx
              have HEx := Lib.hid ex
              clear ex
              have hw16 : IntKind.u16.wrap (x : Int) = (x : Int) := by rw [IntKind.wrap_u16]; omega
              have hj8 : j < 8 := by omega
              have hgc := HA.out.cells j hj8
              have hgl := HA.out.live j hj8
              go_wp2_with fail
              go_roundw
              case rel => exact ⟨j + 1, gs.set j x, by omega, by go_num, Lib.hid (HA.out.set hj8 x), Lib.hid (HB.out.other (by omega) _), Lib.hid (HRw.out.other hlt0 _), Lib.hid (HRv.out.other (by omega) _), hbel.setCell (p := ⟨w.heap.size + 1, j, none⟩) (by show w.heap.size ≤ w.heap.size + 1; omega) _, Lib.hid (by rw [HGs.out, ← HEx.out]; exact set_next la j (by rw [HNa.out]; exact hjn) hj8)⟩
              case measure => simp [intOf]; omega
            · obtain rfl : j = na := by omega
              have HGl : Hid (gs = la ++ List.replicate (8 - j) 0) := Lib.hid (by rw [HGs.out, List.take_of_length_le (by rw [HNa.out]; exact Nat.le_refl _)])
              go_wp2_with fail
              go_loopw [14] (fun i wr => ∃ (m : Nat) (gs : List Nat), m ≤ nb ∧ i = .int .i64 m ∧ Hid (Arr8 wr (w.heap.size + 1) gs) ∧ Hid (Arr8 wr w.heap.size [0, 0, 0, 0, 0, 0, 0, 0]) ∧ Hid (IntRow wr w2.heap.size bb nb cb lb) ∧ Below w.heap.size w wr ∧ Hid (gs = (la ++ List.replicate (8 - j - nb) 0) ++ (lb.take m ++ List.replicate (nb - m) 0))) (fun i _ => nb - (intOf i).toNat)
              case atStart => exact ⟨0, gs, Nat.zero_le _, rfl, HA, HB, HRv, hbel, Lib.hid (by rw [HGl.out, List.take_zero, List.nil_append, Nat.sub_zero, List.append_assoc, List.replicate_append_replicate, show 8 - j - nb + nb = 8 - j by omega])⟩
              case round =>
                clear HA HB HRv HRw hbel HGs HGl
                obtain ⟨m, gs, hm, rfl, HA, HB, HRv, hbel, HGs⟩ := hrel
                by_cases hmn : m < nb
                · obtain ⟨h, rfl, hB, hh, hcell⟩ : ∃ h, bb = some ⟨h, 0, none⟩ ∧ w2.heap.size ≤ h ∧ h < wr.heap.size ∧ wr.cell? ⟨h, m, none⟩ = some (.int .i64 ((lb.getD m 0 : Nat) : Int)) := by
                    rcases HRv.out.lies with h0 | ⟨h, e, hB, hh, hc⟩
                    · omega
                    · exact ⟨h, e, hB, hh, hc m hmn⟩
                  have hx : lb.getD m 0 < 65536 := by
                    rw [List.getD_eq_getElem?_getD, List.getElem?_eq_getElem (by rw [HNb.out]; exact hmn)]
                    exact HLb.out _ (List.getElem_mem _)
                  obtain ⟨x, ex⟩ : ∃ x, lb.getD m 0 = x := ⟨_, rfl⟩
                  rw [ex] at hcell hx
                  have HEx := Lib.hid ex
                  clear ex
                  have hw16 : IntKind.u16.wrap (x : Int) = (x : Int) := by rw [IntKind.wrap_u16]; omega
                  obtain ⟨q, hq, eq⟩ : ∃ q : Nat, 8 - nb + m = q ∧ (8 : Int) - (nb : Int) + (m : Int) = (q : Int) := ⟨_, rfl, by omega⟩
                  have hq8 : q < 8 := by omega
                  have hgc := HA.out.cells q hq8
                  have hgl := HA.out.live q hq8
                  have HQ := Lib.hid hq
                  clear hq
                  go_wp2_with fail
                  go_roundw
                  case rel => exact ⟨m + 1, gs.set q x, by omega, by go_num, Lib.hid (HA.out.set hq8 x), Lib.hid (HB.out.other (by omega) _), Lib.hid (HRv.out.other (by omega) _), hbel.setCell (p := ⟨w.heap.size + 1, q, none⟩) (by show w.heap.size ≤ w.heap.size + 1; omega) _, Lib.hid (by rw [HGs.out, ← HEx.out]; exact set_behind la lb j nb m q HNa.out HNb.out (by omega) hmn HQ.out)⟩
                  case measure => simp [intOf]; omega
                · obtain rfl : m = nb := by omega
                  have hgs : gs = la ++ List.replicate (8 - j - m) 0 ++ lb := by rw [HGs.out, List.take_of_length_le (by rw [HNb.out]; exact Nat.le_refl _)]; simp
                  have hA := HA.out
                  obtain ⟨x0, x1, x2, x3, x4, x5, x6, x7, e8⟩ := list8 gs HA.out.len
                  rw [hgs] at e8
                  rw [e8] at HD
                  rw [hgs, e8] at hA
                  clear HGs hgs e8
                  obtain ⟨c0, c1, c2, c3, c4, c5, c6, c7⟩ := hA.all
                  obtain ⟨r0, r1, r2, r3, r4, r5, r6, r7⟩ := (HB.out).all
                  obtain ⟨f0, f1, f2, f3, f4, f5, f6, f7⟩ := (HB.out).lives
                  have E1 := Lib.hid (store8_arr x0 x1 x2 x3 x4 x5 x6 x7 (HB.out))
                  have E2 := Lib.hid (store8_below x0 x1 x2 x3 x4 x5 x6 x7 (hbel) (Nat.le_refl w.heap.size))
                  clear hA
                  go_wp2_with fail
                  change bodyPost _ _ _ _ _ (store8 wr w.heap.size x0 x1 x2 x3 x4 x5 x6 x7)
                  generalize store8 wr w.heap.size x0 x1 x2 x3 x4 x5 x6 x7 = W at *
                  clear c0 c1 c2 c3 c4 c5 c6 c7 r0 r1 r2 r3 r4 r5 r6 r7 f0 f1 f2 f3 f4 f5 f6 f7
                  obtain ⟨r0, r1, r2, r3, r4, r5, r6, r7⟩ := E1.out.all
                  refine bodyPost_ret (v := parseRet (some [x0, x1, x2, x3, x4, x5, x6, x7])) (by simp [results, Tryd.results12, go_sem, r0, r1, r2, r3, r4, r5, r6, r7, parseRet, arr8]) rfl ⟨by rw [HD.out], E2.out⟩
end Go.Proofs.YtkdinhgflkfbkaaDoor
