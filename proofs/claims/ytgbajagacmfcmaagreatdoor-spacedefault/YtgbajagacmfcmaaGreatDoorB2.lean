/- Texts that belong together, one behind the other: RefSixParse, Bytes16, RefAddr, AddrMid, RefAddrBits, RefAddrBit, CidrBits, HeldR, AddrBox, AddrHeld, EqArr, EqAddr, AddrEq, PrefKit, RefCidrWith. -/
import Derived.Test.YtgbajagacmfcmaaGreatDoorB1
import Derived.RegionTactic
import Derived.BigRegion
import Derived.Deep.MidRow
import Derived.Deep.Cut
import Derived.Deep.RegionHeld3
import Derived.Test.YtgbajagacmfcmaaGreatDoorRows
import Derived.WalkKit
import Derived.ChangeKeysEq
import Derived.Laws.StructEq
/- The contract of the reference's Parse of layer 3. -/
namespace Go.Proofs.YtgbajagacmfcmaaGreatDoor
open Go.RowKit
set_option linter.unusedVariables false
set_option maxRecDepth 20000

/-- An array of eight groups lies at B. -/
structure Arr8 (w : World) (B : Nat) (gs : List Nat) : Prop where
  len : gs.length = 8
  lt : B < w.heap.size
  cells : ∀ j, j < 8 → w.cell? ⟨B, j, none⟩ = some (.int .u16 ((gs.getD j 0 : Nat) : Int))
  live : ∀ j, j < 8 → w.frozen? ⟨B, j, none⟩ = false
theorem Arr8.below {w w' : World} {B : Nat} {gs : List Nat} (h : Arr8 w B gs) (hb : Below w.heap.size w w') : Arr8 w' B gs :=
  ⟨h.len, Nat.lt_of_lt_of_le h.lt hb.size, fun j hj => by rw [hb.cell (p := ⟨B, j, none⟩) h.lt]; exact h.cells j hj, fun j hj => by rw [hb.frozen (p := ⟨B, j, none⟩) h.lt]; exact h.live j hj⟩
theorem Arr8.all {w : World} {B : Nat} {x0 x1 x2 x3 x4 x5 x6 x7 : Nat} (h : Arr8 w B [x0, x1, x2, x3, x4, x5, x6, x7]) :
    w.cell? ⟨B, 0, none⟩ = some (.int .u16 (x0 : Int)) ∧ w.cell? ⟨B, 1, none⟩ = some (.int .u16 (x1 : Int)) ∧ w.cell? ⟨B, 2, none⟩ = some (.int .u16 (x2 : Int)) ∧ w.cell? ⟨B, 3, none⟩ = some (.int .u16 (x3 : Int)) ∧ w.cell? ⟨B, 4, none⟩ = some (.int .u16 (x4 : Int)) ∧ w.cell? ⟨B, 5, none⟩ = some (.int .u16 (x5 : Int)) ∧ w.cell? ⟨B, 6, none⟩ = some (.int .u16 (x6 : Int)) ∧ w.cell? ⟨B, 7, none⟩ = some (.int .u16 (x7 : Int)) :=
  ⟨h.cells 0 (by decide), h.cells 1 (by decide), h.cells 2 (by decide), h.cells 3 (by decide), h.cells 4 (by decide), h.cells 5 (by decide), h.cells 6 (by decide), h.cells 7 (by decide)⟩
theorem Arr8.lives {w : World} {B : Nat} {gs : List Nat} (h : Arr8 w B gs) :
    w.frozen? ⟨B, 0, none⟩ = false ∧ w.frozen? ⟨B, 1, none⟩ = false ∧ w.frozen? ⟨B, 2, none⟩ = false ∧ w.frozen? ⟨B, 3, none⟩ = false ∧ w.frozen? ⟨B, 4, none⟩ = false ∧ w.frozen? ⟨B, 5, none⟩ = false ∧ w.frozen? ⟨B, 6, none⟩ = false ∧ w.frozen? ⟨B, 7, none⟩ = false :=
  ⟨h.live 0 (by decide), h.live 1 (by decide), h.live 2 (by decide), h.live 3 (by decide), h.live 4 (by decide), h.live 5 (by decide), h.live 6 (by decide), h.live 7 (by decide)⟩
theorem Arr8.zero (w : World) (t : TypeId) : Arr8 (w.alloc (.cells #[.int .u16 0, .int .u16 0, .int .u16 0, .int .u16 0, .int .u16 0, .int .u16 0, .int .u16 0, .int .u16 0] t)) w.heap.size [0, 0, 0, 0, 0, 0, 0, 0] := by
  refine ⟨rfl, by simp, ?_, ?_⟩
  · intro j hj
    have : j = 0 ∨ j = 1 ∨ j = 2 ∨ j = 3 ∨ j = 4 ∨ j = 5 ∨ j = 6 ∨ j = 7 := by omega
    rcases this with rfl | rfl | rfl | rfl | rfl | rfl | rfl | rfl <;> simp [World.cell?_alloc_new]
  · intro j hj
    exact World.frozen?_alloc_new _ _ _ _
theorem Arr8.set {w : World} {B k : Nat} {gs : List Nat} (h : Arr8 w B gs) (hk : k < 8) (v : Nat) : Arr8 (w.setCell ⟨B, k, none⟩ (.int .u16 ((v : Nat) : Int))) B (gs.set k v) := by
  refine ⟨by simp [h.len], by simpa using h.lt, ?_, ?_⟩
  · intro j hj
    by_cases e : j = k
    · subst e
      rw [World.cell?_setCell_same _ _ _ (h.cells j hj), List.getD_eq_getElem?_getD, List.getElem?_set_self (by rw [h.len]; exact hj)]
      rfl
    · rw [World.cell?_setCell_other _ _ _ _ (by intro h2; injection h2 with _ h3 _; exact e h3.symm), h.cells j hj, List.getD_eq_getElem?_getD, List.getD_eq_getElem?_getD, List.getElem?_set_ne (by omega)]
  · intro j hj
    rw [World.frozen?_setCell]
    exact h.live j hj
theorem Arr8.other {w : World} {B B' k : Nat} {gs : List Nat} (h : Arr8 w B gs) (hB : B' ≠ B) (u : Value) : Arr8 (w.setCell ⟨B', k, none⟩ u) B gs := by
  refine ⟨h.len, by simpa using h.lt, ?_, ?_⟩
  · intro j hj
    rw [World.cell?_setCell_other _ _ _ _ (by intro h2; injection h2 with h3 _ _; exact hB h3)]
    exact h.cells j hj
  · intro j hj
    rw [World.frozen?_setCell]
    exact h.live j hj
/-- Eight groups, stored one by one. -/
def store8 (W : World) (R : Nat) (y0 y1 y2 y3 y4 y5 y6 y7 : Nat) : World := ((((((((W.setCell ⟨R, 0, none⟩ (.int .u16 ((y0 : Nat) : Int))).setCell ⟨R, 1, none⟩ (.int .u16 ((y1 : Nat) : Int))).setCell ⟨R, 2, none⟩ (.int .u16 ((y2 : Nat) : Int))).setCell ⟨R, 3, none⟩ (.int .u16 ((y3 : Nat) : Int))).setCell ⟨R, 4, none⟩ (.int .u16 ((y4 : Nat) : Int))).setCell ⟨R, 5, none⟩ (.int .u16 ((y5 : Nat) : Int))).setCell ⟨R, 6, none⟩ (.int .u16 ((y6 : Nat) : Int))).setCell ⟨R, 7, none⟩ (.int .u16 ((y7 : Nat) : Int)))
theorem store8_arr {W : World} {R : Nat} {gs : List Nat} (y0 y1 y2 y3 y4 y5 y6 y7 : Nat) (h : Arr8 W R gs) : Arr8 (store8 W R y0 y1 y2 y3 y4 y5 y6 y7) R [y0, y1, y2, y3, y4, y5, y6, y7] := by
  obtain ⟨a, b, c, d, e, f, g, i, rfl⟩ := list8 gs h.len
  exact (((((((h.set (k := 0) (by decide) y0).set (k := 1) (by decide) y1).set (k := 2) (by decide) y2).set (k := 3) (by decide) y3).set (k := 4) (by decide) y4).set (k := 5) (by decide) y5).set (k := 6) (by decide) y6).set (k := 7) (by decide) y7
theorem store8_below {w W : World} {R : Nat} (y0 y1 y2 y3 y4 y5 y6 y7 : Nat) (h : Below w.heap.size w W) (hR : w.heap.size ≤ R) : Below w.heap.size w (store8 W R y0 y1 y2 y3 y4 y5 y6 y7) :=
  (((((((h.setCell (p := ⟨R, 0, none⟩) hR _).setCell (p := ⟨R, 1, none⟩) hR _).setCell (p := ⟨R, 2, none⟩) hR _).setCell (p := ⟨R, 3, none⟩) hR _).setCell (p := ⟨R, 4, none⟩) hR _).setCell (p := ⟨R, 5, none⟩) hR _).setCell (p := ⟨R, 6, none⟩) hR _).setCell (p := ⟨R, 7, none⟩) hR _
/-- A row of numbers, as a walk reads it; it may be nil. -/
structure IntRow (w : World) (B : Nat) (b : Option Addr) (n c : Nat) (l : List Nat) : Prop where
  len : l.length = n
  cap : n ≤ c
  capm : c ≤ maxLen
  lies : n = 0 ∨ ∃ h, b = some ⟨h, 0, none⟩ ∧ B ≤ h ∧ h < w.heap.size ∧ ∀ j, j < n → w.cell? ⟨h, j, none⟩ = some (.int .i64 ((l.getD j 0 : Nat) : Int))
theorem IntRow.of_own {w : World} {B : Nat} {v : Value} {l : List Nat} (h : w.ownsRow B 3 1 v l.length (ints l)) : ∃ b c, v = .slice b l.length c ∧ IntRow w B b l.length c l := by
  have hh := h
  rcases h.2 with ⟨rfl, h0⟩ | ⟨g, cap, cur, rfl, hB, hg, h1, h2, _⟩
  · exact ⟨none, 0, by rw [h0], rfl, by omega, Nat.zero_le _, .inl h0⟩
  · refine ⟨some ⟨g, 0, none⟩, cap, rfl, rfl, h1, h2, .inr ⟨g, rfl, hB, ?_, ?_⟩⟩
    · rcases Nat.lt_or_ge g w.heap.size with h | h
      · exact h
      · rw [Array.getElem?_eq_none h] at hg; cases hg
    · intro j hj
      rw [hh.cellAt j (by omega)]
      simp [ints, hj]
theorem IntRow.below {w w' : World} {B n c : Nat} {b : Option Addr} {l : List Nat} (h : IntRow w B b n c l) (hb : Below w.heap.size w w') : IntRow w' B b n c l :=
  ⟨h.len, h.cap, h.capm, h.lies.imp id fun ⟨g, e, hB, hg, hc⟩ => ⟨g, e, hB, Nat.lt_of_lt_of_le hg hb.size, fun j hj => by rw [hb.cell (p := ⟨g, j, none⟩) hg]; exact hc j hj⟩⟩
theorem IntRow.other {w : World} {B B' k n c : Nat} {b : Option Addr} {l : List Nat} (h : IntRow w B b n c l) (hB' : B' < B) (u : Value) : IntRow (w.setCell ⟨B', k, none⟩ u) B b n c l :=
  ⟨h.len, h.cap, h.capm, h.lies.imp id fun ⟨g, e, hB, hg, hc⟩ => ⟨g, e, hB, by simpa using hg, fun j hj => by
    rw [World.cell?_setCell_other _ _ _ _ (by intro h2; injection h2 with h3 _ _; omega)]
    exact hc j hj⟩⟩
theorem groupsB_len (s : ByteArray) (dot : Bool) : ((groupsB s dot).getD []).length ≤ 2 * (s.size + 1) := by
  have key : ∀ (l : List ByteArray) k out, grTo l dot k = some out → out.length ≤ 2 * k := by
    intro l k
    induction k with
    | zero => intro out h; have := Option.some.inj h; subst this; simp
    | succ k ih =>
      intro out h
      cases hk : grTo l dot k with
      | none => rw [grTo, hk] at h; cases h
      | some o =>
        have := ih o hk
        cases hx : hexG (l.getD k ⟨#[]⟩) with
        | some v =>
          rw [grTo_hex hk hx] at h
          have := Option.some.inj h
          subst this
          simp
          omega
        | none =>
          cases hv : strictB (l.getD k ⟨#[]⟩) with
          | none => rw [grTo_stop hk hx hv] at h; cases h
          | some v =>
            rw [grTo_strict hk hx hv] at h
            split at h
            · have := Option.some.inj h
              subst this
              simp
              omega
            · cases h
  unfold groupsB
  split
  · simp
  · cases h : grTo (pieces s 58) dot (pieces s 58).length with
    | none => simp
    | some out =>
      have h1 := key _ _ _ h
      have h2 := pieces_len s 58
      show out.length ≤ _
      omega
theorem set_behind (a b : List Nat) (na nb m q : Nat) (ha : a.length = na) (hb : b.length = nb) (h7 : na + nb ≤ 7) (hm : m < nb) (hq : 8 - nb + m = q) :
    ((a ++ List.replicate (8 - na - nb) 0) ++ (b.take m ++ List.replicate (nb - m) 0)).set q (b.getD m 0) = (a ++ List.replicate (8 - na - nb) 0) ++ (b.take (m + 1) ++ List.replicate (nb - (m + 1)) 0) := by
  have e : b.take (m + 1) = b.take m ++ [b.getD m 0] := by rw [List.take_add_one, List.getD_eq_getElem?_getD, List.getElem?_eq_getElem (by omega)]; rfl
  have hl : (b.take m).length = m := by simp; omega
  have hp : (a ++ List.replicate (8 - na - nb) 0).length = 8 - nb := by simp; omega
  rw [List.set_append_right _ _ (by rw [hp]; omega), hp, show q - (8 - nb) = m by omega, List.set_append_right _ _ (by omega), hl, Nat.sub_self, show nb - m = (nb - (m + 1)) + 1 by omega, List.replicate_succ, List.set_cons_zero, e]
  simp
theorem set_next (a : List Nat) (k : Nat) (hk : k < a.length) (h8 : k < 8) : (a.take k ++ List.replicate (8 - k) 0).set k (a.getD k 0) = a.take (k + 1) ++ List.replicate (8 - (k + 1)) 0 := by
  have hl : (a.take k).length = k := by simp; omega
  have e : a.take (k + 1) = a.take k ++ [a.getD k 0] := by rw [List.take_add_one, List.getD_eq_getElem?_getD, List.getElem?_eq_getElem hk]; rfl
  rw [e, List.set_append_right _ _ (by omega), hl, Nat.sub_self, show 8 - k = (8 - (k + 1)) + 1 by omega, List.replicate_succ, List.set_cons_zero, List.append_assoc]
  rfl
/-- The groups ahead of two colons, zeros, the groups behind. -/
def mergeB (oa ob : Option (List Nat)) : Option (List Nat) :=
  match oa, ob with
  | some a, some b => if 7 < a.length + b.length then none else some (a ++ List.replicate (8 - a.length - b.length) 0 ++ b)
  | _, _ => none
def parseB (s : ByteArray) : Option (List Nat) :=
  match gapB s with
  | none => match groupsB s true with
    | none => none
    | some l => if l.length = 8 then some l else none
  | some k => mergeB (groupsB (s.extract 0 k) false) (groupsB (s.extract (k + 2) s.size) true)
def arr8 (l : List Nat) : Value := .agg (l.map fun n => Value.int .u16 ((n : Nat) : Int)).toArray
def parseRet (o : Option (List Nat)) : Value := .tuple #[arr8 (o.getD [0, 0, 0, 0, 0, 0, 0, 0]), .bool o.isSome]

set_option maxRecDepth 100000 in
set_option maxHeartbeats 4000000 in
theorem refParse_any (s : ByteArray) (w : World) (hs : s.size ≤ 100000) :
    Calls Tryz.prog 44 #[.string s] w fun e w' => e = .returned (parseRet (parseB s)) ∧ Below w.heap.size w w' := by
  have hz0 := Arr8.zero w 79
  have hz1 := Arr8.zero (w.alloc (.cells #[.int .u16 0, .int .u16 0, .int .u16 0, .int .u16 0, .int .u16 0, .int .u16 0, .int .u16 0, .int .u16 0] 79)) 79
  have hb0 : Below w.heap.size w (w.alloc (.cells #[.int .u16 0, .int .u16 0, .int .u16 0, .int .u16 0, .int .u16 0, .int .u16 0, .int .u16 0, .int .u16 0] 79)) := (Below.refl _ _).alloc (Nat.le_refl _) _
  have hb1 := hb0.alloc hb0.size (.cells #[.int .u16 0, .int .u16 0, .int .u16 0, .int .u16 0, .int .u16 0, .int .u16 0, .int .u16 0, .int .u16 0] 79)
  have hz2 := hz0.below ((Below.refl _ _).alloc (Nat.le_refl _) (.cells #[.int .u16 0, .int .u16 0, .int .u16 0, .int .u16 0, .int .u16 0, .int .u16 0, .int .u16 0, .int .u16 0] 79))
  rw [show (w.alloc (.cells #[.int .u16 0, .int .u16 0, .int .u16 0, .int .u16 0, .int .u16 0, .int .u16 0, .int .u16 0, .int .u16 0] 79)).heap.size = w.heap.size + 1 by simp] at hz1
  go_enter Tryz.func44, Tryz.ntmps44
  go_wp2_with fail
  generalize (w.alloc (.cells #[.int .u16 0, .int .u16 0, .int .u16 0, .int .u16 0, .int .u16 0, .int .u16 0, .int .u16 0, .int .u16 0] 79)).alloc (.cells #[.int .u16 0, .int .u16 0, .int .u16 0, .int .u16 0, .int .u16 0, .int .u16 0, .int .u16 0, .int .u16 0] 79) = w0 at *
  clear hz0
  have HZ1 := Lib.hid hz1
  have HZ2 := Lib.hid hz2
  clear hz1 hz2 hb0
  refine (refGap_any s _ (by omega)).mono ?_
  rintro e w1 ⟨rfl, rfl⟩
  cases hg : gapB s with
  | none =>
    rw [show optI none = -1 from rfl]
    have HGp := Lib.hid hg
    clear hg
    go_wp2_with fail
    refine (refGroups_any s true _ hs).mono ?_
    rintro e w2 ⟨v, rfl, hown, hb⟩
    have hlt0 := HZ1.out.lt
    cases hq : groupsB s true with
    | none =>
      have HD : Hid (parseB s = none) := Lib.hid (by unfold parseB; rw [HGp.out]; simp only [hq])
      clear hq hown
      obtain ⟨c0, c1, c2, c3, c4, c5, c6, c7⟩ := (HZ1.out.below hb).all
      obtain ⟨r0, r1, r2, r3, r4, r5, r6, r7⟩ := (HZ2.out.below hb).all
      obtain ⟨f0, f1, f2, f3, f4, f5, f6, f7⟩ := (HZ2.out.below hb).lives
      have E1 := store8_arr 0 0 0 0 0 0 0 0 (HZ2.out.below hb)
      have E2 := store8_below 0 0 0 0 0 0 0 0 (chain hb1 hb) (Nat.le_refl w.heap.size)
      have E1 := Lib.hid E1
      have E2 := Lib.hid E2
      go_wp2_with fail
      change bodyPost _ _ _ _ _ (store8 w2 w.heap.size 0 0 0 0 0 0 0 0)
      generalize store8 w2 w.heap.size 0 0 0 0 0 0 0 0 = W at *
      clear c0 c1 c2 c3 c4 c5 c6 c7 r0 r1 r2 r3 r4 r5 r6 r7 f0 f1 f2 f3 f4 f5 f6 f7
      obtain ⟨r0, r1, r2, r3, r4, r5, r6, r7⟩ := E1.out.all
      refine bodyPost_ret (v := parseRet none) (by simp [results, Tryz.results44, go_sem, r0, r1, r2, r3, r4, r5, r6, r7, parseRet, arr8]) rfl ⟨by rw [HD.out], E2.out⟩
    | some l =>
      have hlt := groupsB_lt _ _ _ hq
      have HLT := Lib.hid hlt
      rw [hq] at hown
      change w2.ownsRow w0.heap.size 3 1 v l.length (ints l) at hown
      obtain ⟨b, c, rfl, hrow⟩ := IntRow.of_own hown
      have hc1 := hrow.cap
      have hc2 := hrow.capm
      unfold maxLen at hc2
      have HRow := Lib.hid hrow
      clear hown hrow hlt
      by_cases h8 : l.length = 8
      · have HD : Hid (parseB s = some l) := Lib.hid (by unfold parseB; rw [HGp.out]; simp only [hq, if_pos h8])
        clear hq
        have HL8 := Lib.hid h8
        rw [h8] at HRow hc1
        rw [h8, show (some l).isSome = true from rfl]
        clear h8
        go_wp2_with fail
        go_loopw [8] (fun i wr => ∃ (k : Nat) (gs : List Nat), k ≤ 8 ∧ i = .int .i64 k ∧ Hid (Arr8 wr (w.heap.size + 1) gs) ∧ Hid (Arr8 wr w.heap.size [0, 0, 0, 0, 0, 0, 0, 0]) ∧ Hid (IntRow wr w0.heap.size b 8 c l) ∧ Below w.heap.size w wr ∧ Hid (gs = l.take k ++ List.replicate (8 - k) 0)) (fun i _ => 8 - (intOf i).toNat)
        case atStart => exact ⟨0, [0, 0, 0, 0, 0, 0, 0, 0], by decide, rfl, Lib.hid (HZ1.out.below hb), Lib.hid (HZ2.out.below hb), HRow, chain hb1 hb, Lib.hid (by simp)⟩
        case round =>
          obtain ⟨k, gs, hk, rfl, HA, HB, HRw, hbel, HGs⟩ := hrel
          by_cases hk8 : k < 8
          · obtain ⟨h, rfl, hB, hh, hcell⟩ : ∃ h, b = some ⟨h, 0, none⟩ ∧ w0.heap.size ≤ h ∧ h < wr.heap.size ∧ wr.cell? ⟨h, k, none⟩ = some (.int .i64 ((l.getD k 0 : Nat) : Int)) := by
              rcases HRw.out.lies with h0 | ⟨h, e, hB, hh, hc⟩
              · omega
              · exact ⟨h, e, hB, hh, hc k hk8⟩
            have hx : l.getD k 0 < 65536 := by
              rw [List.getD_eq_getElem?_getD, List.getElem?_eq_getElem (by rw [HL8.out]; exact hk8)]
              exact HLT.out _ (List.getElem_mem _)
            obtain ⟨x, ex⟩ : ∃ x, l.getD k 0 = x := ⟨_, rfl⟩
            rw [ex] at hcell hx
            have HEx := Lib.hid ex
            clear ex
            have hw16 : IntKind.u16.wrap (x : Int) = (x : Int) := by rw [IntKind.wrap_u16]; omega
            have hgc := HA.out.cells k hk8
            have hgl := HA.out.live k hk8
            go_wp2_with fail
            go_roundw
            case rel => exact ⟨k + 1, gs.set k x, by omega, by go_num, Lib.hid (HA.out.set hk8 x), Lib.hid (HB.out.other (by omega) _), Lib.hid (HRw.out.other hlt0 _), hbel.setCell (p := ⟨w.heap.size + 1, k, none⟩) (by show w.heap.size ≤ w.heap.size + 1; omega) _, Lib.hid (by rw [HGs.out, ← HEx.out]; exact set_next l k (by rw [HL8.out]; exact hk8) hk8)⟩
            case measure => simp [intOf]; omega
          · obtain rfl : k = 8 := by omega
            have hgs : gs = l := by rw [HGs.out, List.take_of_length_le (by rw [HL8.out]; exact Nat.le_refl _)]; simp
            subst hgs
            have hA := HA.out
            obtain ⟨x0, x1, x2, x3, x4, x5, x6, x7, rfl⟩ := list8 gs HL8.out
            obtain ⟨c0, c1, c2, c3, c4, c5, c6, c7⟩ := hA.all
            obtain ⟨r0, r1, r2, r3, r4, r5, r6, r7⟩ := (HB.out).all
            obtain ⟨f0, f1, f2, f3, f4, f5, f6, f7⟩ := (HB.out).lives
            have E1 := Lib.hid (store8_arr x0 x1 x2 x3 x4 x5 x6 x7 (HB.out))
            have E2 := Lib.hid (store8_below x0 x1 x2 x3 x4 x5 x6 x7 (hbel) (Nat.le_refl w.heap.size))
            clear hA
            go_wp2_with fail
            change bodyPost _ _ _ _ _ (store8 wr w.heap.size x0 x1 x2 x3 x4 x5 x6 x7)
            generalize store8 wr w.heap.size x0 x1 x2 x3 x4 x5 x6 x7 = W at *
            clear c0 c1 c2 c3 c4 c5 c6 c7 r0 r1 r2 r3 r4 r5 r6 r7 f0 f1 f2 f3 f4 f5 f6 f7
            obtain ⟨r0, r1, r2, r3, r4, r5, r6, r7⟩ := E1.out.all
            refine bodyPost_ret (v := parseRet (some [x0, x1, x2, x3, x4, x5, x6, x7])) (by simp [results, Tryz.results44, go_sem, r0, r1, r2, r3, r4, r5, r6, r7, parseRet, arr8]) rfl ⟨by rw [HD.out], E2.out⟩
      · have HD : Hid (parseB s = none) := Lib.hid (by unfold parseB; rw [HGp.out]; simp only [hq, if_neg h8])
        clear hq
        rw [show (some l).isSome = true from rfl]
        have hl8 : ((l.length : Int) != 8) = true := by simp; omega
        obtain ⟨c0, c1, c2, c3, c4, c5, c6, c7⟩ := (HZ1.out.below hb).all
        obtain ⟨r0, r1, r2, r3, r4, r5, r6, r7⟩ := (HZ2.out.below hb).all
        obtain ⟨f0, f1, f2, f3, f4, f5, f6, f7⟩ := (HZ2.out.below hb).lives
        have E1 := store8_arr 0 0 0 0 0 0 0 0 (HZ2.out.below hb)
        have E2 := store8_below 0 0 0 0 0 0 0 0 (chain hb1 hb) (Nat.le_refl w.heap.size)
        have E1 := Lib.hid E1
        have E2 := Lib.hid E2
        go_wp2_with fail
        change bodyPost _ _ _ _ _ (store8 w2 w.heap.size 0 0 0 0 0 0 0 0)
        generalize store8 w2 w.heap.size 0 0 0 0 0 0 0 0 = W at *
        clear c0 c1 c2 c3 c4 c5 c6 c7 r0 r1 r2 r3 r4 r5 r6 r7 f0 f1 f2 f3 f4 f5 f6 f7
        obtain ⟨r0, r1, r2, r3, r4, r5, r6, r7⟩ := E1.out.all
        refine bodyPost_ret (v := parseRet none) (by simp [results, Tryz.results44, go_sem, r0, r1, r2, r3, r4, r5, r6, r7, parseRet, arr8]) rfl ⟨by rw [HD.out], E2.out⟩
  | some k =>
    have hk2 : k + 2 ≤ s.size := by have := gapTo_lt s _ _ hg; omega
    have HGp := Lib.hid hg
    clear hg
    rw [show optI (some k) = (k : Int) from rfl]
    have hki : (k : Int) + 2 ≤ (s.size : Int) := by omega
    go_wp2_with fail
    refine (refGroups_any _ false _ (by simp; omega)).mono ?_
    rintro e w2 ⟨va, rfl, howna, hb⟩
    obtain ⟨oa, hoa⟩ : ∃ oa, groupsB (s.extract 0 k) false = oa := ⟨_, rfl⟩
    rw [hoa] at howna ⊢
    obtain ⟨ba, ca, rfl, rowa⟩ := IntRow.of_own howna
    have hla : (oa.getD []).length ≤ 200002 := by
      have := groupsB_len (s.extract 0 k) false
      rw [hoa] at this
      have hz : (s.extract 0 k).size ≤ 100000 := by simp; omega
      omega
    have hca := rowa.cap
    have HRa := Lib.hid rowa
    have HOa := Lib.hid hoa
    clear howna rowa hoa
    go_wp2_with fail
    refine (refGroups_any _ true _ (by simp; omega)).mono ?_
    rintro e w3 ⟨vb, rfl, hownb, hb3⟩
    obtain ⟨ob, hob⟩ : ∃ ob, groupsB (s.extract (k + 2) s.size) true = ob := ⟨_, rfl⟩
    rw [hob] at hownb ⊢
    obtain ⟨bb, cb, rfl, rowb⟩ := IntRow.of_own hownb
    have hlb : (ob.getD []).length ≤ 200002 := by
      have := groupsB_len (s.extract (k + 2) s.size) true
      rw [hob] at this
      have hz : (s.extract (k + 2) s.size).size ≤ 100000 := by simp; omega
      omega
    have hcb := rowb.cap
    have HRb := Lib.hid rowb
    have HOb := Lib.hid hob
    have HRa3 := Lib.hid (HRa.out.below hb3)
    have hlt0 := HZ1.out.lt
    have hw02 := hb.size
    clear hownb rowb hob HRa
    have hb03 := chain hb hb3
    have HP : Hid (parseB s = mergeB oa ob) := Lib.hid (by unfold parseB; rw [HGp.out]; simp only []; rw [HOa.out, HOb.out])
    cases oa with
    | none =>
      have HD : Hid (parseB s = none) := Lib.hid (by rw [HP.out]; rfl)
      rw [show (none : Option (List Nat)).isSome = false from rfl]
      obtain ⟨c0, c1, c2, c3, c4, c5, c6, c7⟩ := (HZ1.out.below hb03).all
      obtain ⟨r0, r1, r2, r3, r4, r5, r6, r7⟩ := (HZ2.out.below hb03).all
      obtain ⟨f0, f1, f2, f3, f4, f5, f6, f7⟩ := (HZ2.out.below hb03).lives
      have E1 := store8_arr 0 0 0 0 0 0 0 0 (HZ2.out.below hb03)
      have E2 := store8_below 0 0 0 0 0 0 0 0 (chain hb1 hb03) (Nat.le_refl w.heap.size)
      have E1 := Lib.hid E1
      have E2 := Lib.hid E2
      go_wp2_with fail
      change bodyPost _ _ _ _ _ (store8 w3 w.heap.size 0 0 0 0 0 0 0 0)
      generalize store8 w3 w.heap.size 0 0 0 0 0 0 0 0 = W at *
      clear c0 c1 c2 c3 c4 c5 c6 c7 r0 r1 r2 r3 r4 r5 r6 r7 f0 f1 f2 f3 f4 f5 f6 f7
      obtain ⟨r0, r1, r2, r3, r4, r5, r6, r7⟩ := E1.out.all
      refine bodyPost_ret (v := parseRet none) (by simp [results, Tryz.results44, go_sem, r0, r1, r2, r3, r4, r5, r6, r7, parseRet, arr8]) rfl ⟨by rw [HD.out], E2.out⟩
    | some la =>
      cases ob with
      | none =>
        have HD : Hid (parseB s = none) := Lib.hid (by rw [HP.out]; rfl)
        rw [show (none : Option (List Nat)).isSome = false from rfl, show (some la).isSome = true from rfl]
        obtain ⟨c0, c1, c2, c3, c4, c5, c6, c7⟩ := (HZ1.out.below hb03).all
        obtain ⟨r0, r1, r2, r3, r4, r5, r6, r7⟩ := (HZ2.out.below hb03).all
        obtain ⟨f0, f1, f2, f3, f4, f5, f6, f7⟩ := (HZ2.out.below hb03).lives
        have E1 := store8_arr 0 0 0 0 0 0 0 0 (HZ2.out.below hb03)
        have E2 := store8_below 0 0 0 0 0 0 0 0 (chain hb1 hb03) (Nat.le_refl w.heap.size)
        have E1 := Lib.hid E1
        have E2 := Lib.hid E2
        go_wp2_with fail
        change bodyPost _ _ _ _ _ (store8 w3 w.heap.size 0 0 0 0 0 0 0 0)
        generalize store8 w3 w.heap.size 0 0 0 0 0 0 0 0 = W at *
        clear c0 c1 c2 c3 c4 c5 c6 c7 r0 r1 r2 r3 r4 r5 r6 r7 f0 f1 f2 f3 f4 f5 f6 f7
        obtain ⟨r0, r1, r2, r3, r4, r5, r6, r7⟩ := E1.out.all
        refine bodyPost_ret (v := parseRet none) (by simp [results, Tryz.results44, go_sem, r0, r1, r2, r3, r4, r5, r6, r7, parseRet, arr8]) rfl ⟨by rw [HD.out], E2.out⟩
      | some lb =>
        have HLa := Lib.hid (groupsB_lt _ _ _ HOa.out)
        have HLb := Lib.hid (groupsB_lt _ _ _ HOb.out)
        change la.length ≤ 200002 at hla
        change lb.length ≤ 200002 at hlb
        change la.length ≤ ca at hca
        change lb.length ≤ cb at hcb
        change Hid (IntRow w3 w0.heap.size ba la.length ca la) at HRa3
        change Hid (IntRow w3 w2.heap.size bb lb.length cb lb) at HRb
        rw [show (some la).isSome = true from rfl, show (some lb).isSome = true from rfl, show (some la).getD [] = la from rfl, show (some lb).getD [] = lb from rfl]
        by_cases h7 : 7 < la.length + lb.length
        · have HD : Hid (parseB s = none) := Lib.hid (by rw [HP.out]; show (if 7 < la.length + lb.length then none else _) = _; rw [if_pos h7])
          have h7i : (7 : Int) < (la.length : Int) + (lb.length : Int) := by omega
          obtain ⟨c0, c1, c2, c3, c4, c5, c6, c7⟩ := (HZ1.out.below hb03).all
          obtain ⟨r0, r1, r2, r3, r4, r5, r6, r7⟩ := (HZ2.out.below hb03).all
          obtain ⟨f0, f1, f2, f3, f4, f5, f6, f7⟩ := (HZ2.out.below hb03).lives
          have E1 := store8_arr 0 0 0 0 0 0 0 0 (HZ2.out.below hb03)
          have E2 := store8_below 0 0 0 0 0 0 0 0 (chain hb1 hb03) (Nat.le_refl w.heap.size)
          have E1 := Lib.hid E1
          have E2 := Lib.hid E2
          go_wp2_with fail
          change bodyPost _ _ _ _ _ (store8 w3 w.heap.size 0 0 0 0 0 0 0 0)
          generalize store8 w3 w.heap.size 0 0 0 0 0 0 0 0 = W at *
          clear c0 c1 c2 c3 c4 c5 c6 c7 r0 r1 r2 r3 r4 r5 r6 r7 f0 f1 f2 f3 f4 f5 f6 f7
          obtain ⟨r0, r1, r2, r3, r4, r5, r6, r7⟩ := E1.out.all
          refine bodyPost_ret (v := parseRet none) (by simp [results, Tryz.results44, go_sem, r0, r1, r2, r3, r4, r5, r6, r7, parseRet, arr8]) rfl ⟨by rw [HD.out], E2.out⟩
        · have HD : Hid (parseB s = some (la ++ List.replicate (8 - la.length - lb.length) 0 ++ lb)) := Lib.hid (by rw [HP.out]; show (if 7 < la.length + lb.length then none else _) = _; rw [if_neg h7])
          have h7i : ¬ (7 : Int) < (la.length : Int) + (lb.length : Int) := by omega
          obtain ⟨na, hna⟩ : ∃ n, la.length = n := ⟨_, rfl⟩
          obtain ⟨nb, hnb⟩ : ∃ n, lb.length = n := ⟨_, rfl⟩
          rw [hna, hnb] at HD h7 h7i
          rw [hna] at HRa3 hca
          rw [hnb] at HRb hcb
          rw [hna, hnb]
          have HNa := Lib.hid hna
          have HNb := Lib.hid hnb
          clear hla hlb hna hnb
          go_wp2_with fail
          go_loopw [13] (fun i wr => ∃ (k : Nat) (gs : List Nat), k ≤ na ∧ i = .int .i64 k ∧ Hid (Arr8 wr (w.heap.size + 1) gs) ∧ Hid (Arr8 wr w.heap.size [0, 0, 0, 0, 0, 0, 0, 0]) ∧ Hid (IntRow wr w0.heap.size ba na ca la) ∧ Hid (IntRow wr w2.heap.size bb nb cb lb) ∧ Below w.heap.size w wr ∧ Hid (gs = la.take k ++ List.replicate (8 - k) 0)) (fun i _ => na - (intOf i).toNat)
          case atStart => exact ⟨0, [0, 0, 0, 0, 0, 0, 0, 0], Nat.zero_le _, rfl, Lib.hid (HZ1.out.below hb03), Lib.hid (HZ2.out.below hb03), HRa3, HRb, chain hb1 hb03, Lib.hid (by simp)⟩
          case round =>
            obtain ⟨j, gs, hj, rfl, HA, HB, HRw, HRv, hbel, HGs⟩ := hrel
            by_cases hjn : j < na
            · obtain ⟨h, rfl, hB, hh, hcell⟩ : ∃ h, ba = some ⟨h, 0, none⟩ ∧ w0.heap.size ≤ h ∧ h < wr.heap.size ∧ wr.cell? ⟨h, j, none⟩ = some (.int .i64 ((la.getD j 0 : Nat) : Int)) := by
                rcases HRw.out.lies with h0 | ⟨h, e, hB, hh, hc⟩
                · omega
                · exact ⟨h, e, hB, hh, hc j hjn⟩
              have hx : la.getD j 0 < 65536 := by
                rw [List.getD_eq_getElem?_getD, List.getElem?_eq_getElem (by rw [HNa.out]; exact hjn)]
                exact HLa.out _ (List.getElem_mem _)
              obtain ⟨x, ex⟩ : ∃ x, la.getD j 0 = x := ⟨_, rfl⟩
              rw [ex] at hcell hx
              have HEx := Lib.hid ex
              clear ex
              have hw16 : IntKind.u16.wrap (x : Int) = (x : Int) := by rw [IntKind.wrap_u16]; omega
              have hj8 : j < 8 := by omega
              have hgc := HA.out.cells j hj8
              have hgl := HA.out.live j hj8
              go_wp2_with fail
              go_roundw
              case rel => exact ⟨j + 1, gs.set j x, by omega, by go_num, Lib.hid (HA.out.set hj8 x), Lib.hid (HB.out.other (by omega) _), Lib.hid (HRw.out.other hlt0 _), Lib.hid (HRv.out.other (by omega) _), hbel.setCell (p := ⟨w.heap.size + 1, j, none⟩) (by show w.heap.size ≤ w.heap.size + 1; omega) _, Lib.hid (by rw [HGs.out, ← HEx.out]; exact set_next la j (by rw [HNa.out]; exact hjn) hj8)⟩
              case measure => simp [intOf]; omega
            · obtain rfl : j = na := by omega
              have HGl : Hid (gs = la ++ List.replicate (8 - j) 0) := Lib.hid (by rw [HGs.out, List.take_of_length_le (by rw [HNa.out]; exact Nat.le_refl _)])
              go_wp2_with fail
              go_loopw [14] (fun i wr => ∃ (m : Nat) (gs : List Nat), m ≤ nb ∧ i = .int .i64 m ∧ Hid (Arr8 wr (w.heap.size + 1) gs) ∧ Hid (Arr8 wr w.heap.size [0, 0, 0, 0, 0, 0, 0, 0]) ∧ Hid (IntRow wr w2.heap.size bb nb cb lb) ∧ Below w.heap.size w wr ∧ Hid (gs = (la ++ List.replicate (8 - j - nb) 0) ++ (lb.take m ++ List.replicate (nb - m) 0))) (fun i _ => nb - (intOf i).toNat)
              case atStart => exact ⟨0, gs, Nat.zero_le _, rfl, HA, HB, HRv, hbel, Lib.hid (by rw [HGl.out, List.take_zero, List.nil_append, Nat.sub_zero, List.append_assoc, List.replicate_append_replicate, show 8 - j - nb + nb = 8 - j by omega])⟩
              case round =>
                clear HA HB HRv HRw hbel HGs HGl
                obtain ⟨m, gs, hm, rfl, HA, HB, HRv, hbel, HGs⟩ := hrel
                by_cases hmn : m < nb
                · obtain ⟨h, rfl, hB, hh, hcell⟩ : ∃ h, bb = some ⟨h, 0, none⟩ ∧ w2.heap.size ≤ h ∧ h < wr.heap.size ∧ wr.cell? ⟨h, m, none⟩ = some (.int .i64 ((lb.getD m 0 : Nat) : Int)) := by
                    rcases HRv.out.lies with h0 | ⟨h, e, hB, hh, hc⟩
                    · omega
                    · exact ⟨h, e, hB, hh, hc m hmn⟩
                  have hx : lb.getD m 0 < 65536 := by
                    rw [List.getD_eq_getElem?_getD, List.getElem?_eq_getElem (by rw [HNb.out]; exact hmn)]
                    exact HLb.out _ (List.getElem_mem _)
                  obtain ⟨x, ex⟩ : ∃ x, lb.getD m 0 = x := ⟨_, rfl⟩
                  rw [ex] at hcell hx
                  have HEx := Lib.hid ex
                  clear ex
                  have hw16 : IntKind.u16.wrap (x : Int) = (x : Int) := by rw [IntKind.wrap_u16]; omega
                  obtain ⟨q, hq, eq⟩ : ∃ q : Nat, 8 - nb + m = q ∧ (8 : Int) - (nb : Int) + (m : Int) = (q : Int) := ⟨_, rfl, by omega⟩
                  have hq8 : q < 8 := by omega
                  have hgc := HA.out.cells q hq8
                  have hgl := HA.out.live q hq8
                  have HQ := Lib.hid hq
                  clear hq
                  go_wp2_with fail
                  go_roundw
                  case rel => exact ⟨m + 1, gs.set q x, by omega, by go_num, Lib.hid (HA.out.set hq8 x), Lib.hid (HB.out.other (by omega) _), Lib.hid (HRv.out.other (by omega) _), hbel.setCell (p := ⟨w.heap.size + 1, q, none⟩) (by show w.heap.size ≤ w.heap.size + 1; omega) _, Lib.hid (by rw [HGs.out, ← HEx.out]; exact set_behind la lb j nb m q HNa.out HNb.out (by omega) hmn HQ.out)⟩
                  case measure => simp [intOf]; omega
                · obtain rfl : m = nb := by omega
                  have hgs : gs = la ++ List.replicate (8 - j - m) 0 ++ lb := by rw [HGs.out, List.take_of_length_le (by rw [HNb.out]; exact Nat.le_refl _)]; simp
                  have hA := HA.out
                  obtain ⟨x0, x1, x2, x3, x4, x5, x6, x7, e8⟩ := list8 gs HA.out.len
                  rw [hgs] at e8
                  rw [e8] at HD
                  rw [hgs, e8] at hA
                  clear HGs hgs e8
                  obtain ⟨c0, c1, c2, c3, c4, c5, c6, c7⟩ := hA.all
                  obtain ⟨r0, r1, r2, r3, r4, r5, r6, r7⟩ := (HB.out).all
                  obtain ⟨f0, f1, f2, f3, f4, f5, f6, f7⟩ := (HB.out).lives
                  have E1 := Lib.hid (store8_arr x0 x1 x2 x3 x4 x5 x6 x7 (HB.out))
                  have E2 := Lib.hid (store8_below x0 x1 x2 x3 x4 x5 x6 x7 (hbel) (Nat.le_refl w.heap.size))
                  clear hA
                  go_wp2_with fail
                  change bodyPost _ _ _ _ _ (store8 wr w.heap.size x0 x1 x2 x3 x4 x5 x6 x7)
                  generalize store8 wr w.heap.size x0 x1 x2 x3 x4 x5 x6 x7 = W at *
                  clear c0 c1 c2 c3 c4 c5 c6 c7 r0 r1 r2 r3 r4 r5 r6 r7 f0 f1 f2 f3 f4 f5 f6 f7
                  obtain ⟨r0, r1, r2, r3, r4, r5, r6, r7⟩ := E1.out.all
                  refine bodyPost_ret (v := parseRet (some [x0, x1, x2, x3, x4, x5, x6, x7])) (by simp [results, Tryz.results44, go_sem, r0, r1, r2, r3, r4, r5, r6, r7, parseRet, arr8]) rfl ⟨by rw [HD.out], E2.out⟩
end Go.Proofs.YtgbajagacmfcmaaGreatDoor
/- Groups and their bytes; plain facts. -/
namespace Go.Proofs.YtgbajagacmfcmaaGreatDoor
open Go.RowKit
set_option linter.unusedVariables false
set_option maxRecDepth 20000

/-- The bytes of groups, the higher one first. -/
def byL (gs : List Nat) : List Nat := gs.flatMap fun x => [x / 256, x % 256]
def arr16 (l : List Nat) : Value := .agg (l.map fun n => Value.int .u8 ((n : Nat) : Int)).toArray
theorem byL_snoc (l : List Nat) (x : Nat) : byL (l ++ [x]) = byL l ++ [x / 256, x % 256] := by simp [byL]
theorem byL_len : ∀ l : List Nat, (byL l).length = 2 * l.length
  | [] => rfl
  | x :: r => by
    have ih := byL_len r
    show ([x / 256, x % 256] ++ byL r).length = _
    rw [List.length_append, ih, List.length_cons]
    simp
    omega
/-- Two bytes laid behind those of the first k groups. -/
theorem set_two (l : List Nat) (k a b : Nat) (hk : k < 8) (hl : l.length = 2 * k) : ((l ++ List.replicate (16 - 2 * k) 0).set (2 * k) a).set (2 * k + 1) b = (l ++ [a, b]) ++ List.replicate (16 - 2 * (k + 1)) 0 := by
  rw [show 16 - 2 * k = (16 - 2 * (k + 1)) + 1 + 1 by omega, List.replicate_succ, List.replicate_succ, List.set_append_right _ _ (by omega), hl, Nat.sub_self, List.set_cons_zero, List.set_append_right _ _ (by omega), hl, show 2 * k + 1 - 2 * k = 0 + 1 by omega, List.set_cons_succ, List.set_cons_zero]
  simp
/-- The groups of bytes. -/
def grL (bs : List Nat) : Nat → List Nat
  | 0 => []
  | k + 1 => grL bs k ++ [bs.getD (2 * k) 0 * 256 + bs.getD (2 * k + 1) 0]
theorem grL_len (bs : List Nat) : ∀ k, (grL bs k).length = k
  | 0 => rfl
  | k + 1 => by rw [grL, List.length_append, grL_len bs k]; rfl
theorem grL_byL (gs : List Nat) (h8 : gs.length = 8) : grL (byL gs) 8 = gs := by
  obtain ⟨x0, x1, x2, x3, x4, x5, x6, x7, rfl⟩ := list8 gs h8
  simp [grL, byL]
  omega
theorem byL_grL (bs : List Nat) (h : bs.length = 16) (hlt : ∀ x ∈ bs, x < 256) : byL (grL bs 8) = bs := by
  obtain ⟨y0, y1, y2, y3, y4, y5, y6, y7, y8, y9, y10, y11, y12, y13, y14, y15, rfl⟩ := list16 bs h
  simp at hlt
  simp [grL, byL]
  omega
theorem grL_lt (bs : List Nat) (hlt : ∀ x ∈ bs, x < 256) : ∀ k, ∀ x ∈ grL bs k, x < 65536
  | 0, x, h => by simp [grL] at h
  | k + 1, x, h => by
    rw [grL] at h
    rcases List.mem_append.1 h with h | h
    · exact grL_lt bs hlt k x h
    · have g : ∀ j, bs.getD j 0 < 256 := by
        intro j
        rw [List.getD_eq_getElem?_getD]
        cases hj : bs[j]? with
        | none => exact Nat.zero_lt_succ _
        | some v => exact hlt v (List.mem_of_getElem? hj)
      have h1 := g (2 * k)
      have h2 := g (2 * k + 1)
      rw [List.mem_singleton] at h
      omega
theorem byL_lt (gs : List Nat) (hlt : ∀ x ∈ gs, x < 65536) : ∀ x ∈ byL gs, x < 256 := by
  intro x hx
  obtain ⟨y, hy, h⟩ := List.mem_flatMap.1 hx
  have := hlt y hy
  simp at h
  omega
theorem set_one (l : List Nat) (k a : Nat) (hk : k < 8) (hl : l.length = k) : (l ++ List.replicate (8 - k) 0).set k a = (l ++ [a]) ++ List.replicate (8 - (k + 1)) 0 := by
  rw [show 8 - k = (8 - (k + 1)) + 1 by omega, List.replicate_succ, List.set_append_right _ _ (by omega), hl, Nat.sub_self, List.set_cons_zero]
  simp
end Go.Proofs.YtgbajagacmfcmaaGreatDoor
/- Contracts of the reference's Four, Groups, Of4, Of6 of layer 4. -/
namespace Go.Proofs.YtgbajagacmfcmaaGreatDoor
open Go.RowKit
set_option linter.unusedVariables false
set_option maxRecDepth 20000

theorem byte_lt {bs : List Nat} (h : ∀ x ∈ bs, x < 256) (j : Nat) : bs.getD j 0 < 256 := by
  rw [List.getD_eq_getElem?_getD]
  cases hj : bs[j]? with
  | none => exact Nat.zero_lt_succ _
  | some v => exact h v (List.mem_of_getElem? hj)
/-- The number of the first k bytes. -/
def fourTo (bs : List Nat) : Nat → Nat
  | 0 => 0
  | k + 1 => fourTo bs k * 256 + bs.getD k 0
def fourB (bs : List Nat) : Nat := fourTo bs 4
theorem fourTo_lt (bs : List Nat) (h : ∀ x ∈ bs, x < 256) : ∀ k, fourTo bs k < 256 ^ k
  | 0 => Nat.zero_lt_one
  | k + 1 => by
    have h1 := fourTo_lt bs h k
    have h2 := byte_lt h k
    rw [fourTo, Nat.pow_succ]
    omega
set_option maxRecDepth 100000 in
set_option maxHeartbeats 1000000 in
theorem refFour_any (f : Int) (bs : List Nat) (w : World) (h16 : bs.length = 16) (hlt : ∀ x ∈ bs, x < 256) :
    Calls Tryz.prog 12 #[addrV f bs] w fun e w' => e = .returned (.int .u32 ((fourB bs : Nat) : Int)) ∧ Below w.heap.size w w' := by
  have HLT := Lib.hid hlt
  obtain ⟨y0, y1, y2, y3, y4, y5, y6, y7, y8, y9, y10, y11, y12, y13, y14, y15, hbs⟩ := list16 bs h16
  have hA := AddrAt.new w 24 f y0 y1 y2 y3 y4 y5 y6 y7 y8 y9 y10 y11 y12 y13 y14 y15
  have b0 : Below w.heap.size w (w.alloc (.cells #[.int .i64 f, .int .u8 (y0 : Int), .int .u8 (y1 : Int), .int .u8 (y2 : Int), .int .u8 (y3 : Int), .int .u8 (y4 : Int), .int .u8 (y5 : Int), .int .u8 (y6 : Int), .int .u8 (y7 : Int), .int .u8 (y8 : Int), .int .u8 (y9 : Int), .int .u8 (y10 : Int), .int .u8 (y11 : Int), .int .u8 (y12 : Int), .int .u8 (y13 : Int), .int .u8 (y14 : Int), .int .u8 (y15 : Int)] 24)) := (Below.refl _ _).alloc (Nat.le_refl _) _
  have ha : addrV f bs = .agg #[.int .i64 f, .int .u8 (y0 : Int), .int .u8 (y1 : Int), .int .u8 (y2 : Int), .int .u8 (y3 : Int), .int .u8 (y4 : Int), .int .u8 (y5 : Int), .int .u8 (y6 : Int), .int .u8 (y7 : Int), .int .u8 (y8 : Int), .int .u8 (y9 : Int), .int .u8 (y10 : Int), .int .u8 (y11 : Int), .int .u8 (y12 : Int), .int .u8 (y13 : Int), .int .u8 (y14 : Int), .int .u8 (y15 : Int)] := by rw [hbs]; rfl
  rw [← hbs] at hA
  rw [ha]
  clear ha hbs hlt h16
  go_enter Tryz.func12, Tryz.ntmps12
  go_wp2_with fail
  generalize (w.alloc (.cells #[.int .i64 f, .int .u8 (y0 : Int), .int .u8 (y1 : Int), .int .u8 (y2 : Int), .int .u8 (y3 : Int), .int .u8 (y4 : Int), .int .u8 (y5 : Int), .int .u8 (y6 : Int), .int .u8 (y7 : Int), .int .u8 (y8 : Int), .int .u8 (y9 : Int), .int .u8 (y10 : Int), .int .u8 (y11 : Int), .int .u8 (y12 : Int), .int .u8 (y13 : Int), .int .u8 (y14 : Int), .int .u8 (y15 : Int)] 24)) = W at *
  have HA := Lib.hid hA
  clear hA
  go_loop [3, 4] (fun t i => ∃ k X : Nat, k ≤ 4 ∧ i = .int .i64 k ∧ t = .int .u32 (X : Int) ∧ X < 256 ^ k ∧ Hid (X = fourTo bs k)) (fun _ i => 4 - (intOf i).toNat)
  case atStart => exact ⟨0, 0, by decide, rfl, rfl, by decide, Lib.hid rfl⟩
  case round =>
    obtain ⟨k, X, hk, rfl, rfl, hX, HX⟩ := hrel
    by_cases hk4 : k < 4
    · have hcell := HA.out.cells k (by omega)
      have hy := byte_lt HLT.out k
      obtain ⟨y, ey⟩ : ∃ y, bs.getD k 0 = y := ⟨_, rfl⟩
      rw [ey] at hcell hy
      have HY := Lib.hid ey
      clear ey
      have hXb : X ≤ 16777215 := by
        have : X < 256 ^ 3 := Nat.lt_of_lt_of_le hX (Nat.pow_le_pow_right (by decide) (by omega))
        omega
      have q1 : IntKind.u32.wrap ((X : Int) * 256) = (X : Int) * 256 := by rw [IntKind.wrap_u32]; omega
      obtain ⟨Z, hZ, eZ⟩ : ∃ Z : Nat, X * 256 + y = Z ∧ (X : Int) * 256 + (y : Int) = (Z : Int) := ⟨_, rfl, by omega⟩
      have q2 : IntKind.u32.wrap (Z : Int) = (Z : Int) := by rw [IntKind.wrap_u32]; omega
      have hk16 : (k : Int) < 16 := by omega
      have hZ2 : Z < 256 ^ (k + 1) := by rw [Nat.pow_succ]; omega
      have HZ : Hid (Z = fourTo bs (k + 1)) := Lib.hid (by rw [fourTo, ← HX.out, HY.out, hZ])
      clear hZ hX
      go_wp2_with fail
      go_round
      case rel => exact ⟨k + 1, Z, by omega, by go_num, by go_num, hZ2, HZ⟩
      case measure => simp [intOf]; omega
    · obtain rfl : k = 4 := by omega
      go_wp2_with fail
      go_ret
      exact ⟨by rw [HX.out]; rfl, b0⟩

set_option maxRecDepth 100000 in
set_option maxHeartbeats 2000000 in
theorem refGroups4_any (f : Int) (bs : List Nat) (w : World) (h16 : bs.length = 16) (hlt : ∀ x ∈ bs, x < 256) :
    Calls Tryz.prog 34 #[addrV f bs] w fun e w' => e = .returned (arr8 (grL bs 8)) ∧ Below w.heap.size w w' := by
  obtain ⟨y0, y1, y2, y3, y4, y5, y6, y7, y8, y9, y10, y11, y12, y13, y14, y15, hbs⟩ := list16 bs h16
  have ha : addrV f bs = .agg #[.int .i64 f, .int .u8 (y0 : Int), .int .u8 (y1 : Int), .int .u8 (y2 : Int), .int .u8 (y3 : Int), .int .u8 (y4 : Int), .int .u8 (y5 : Int), .int .u8 (y6 : Int), .int .u8 (y7 : Int), .int .u8 (y8 : Int), .int .u8 (y9 : Int), .int .u8 (y10 : Int), .int .u8 (y11 : Int), .int .u8 (y12 : Int), .int .u8 (y13 : Int), .int .u8 (y14 : Int), .int .u8 (y15 : Int)] := by rw [hbs]; rfl
  have hB := AddrAt.new w 24 f y0 y1 y2 y3 y4 y5 y6 y7 y8 y9 y10 y11 y12 y13 y14 y15
  rw [← hbs] at hB
  have b1 : Below w.heap.size w (w.alloc (.cells #[.int .i64 f, .int .u8 (y0 : Int), .int .u8 (y1 : Int), .int .u8 (y2 : Int), .int .u8 (y3 : Int), .int .u8 (y4 : Int), .int .u8 (y5 : Int), .int .u8 (y6 : Int), .int .u8 (y7 : Int), .int .u8 (y8 : Int), .int .u8 (y9 : Int), .int .u8 (y10 : Int), .int .u8 (y11 : Int), .int .u8 (y12 : Int), .int .u8 (y13 : Int), .int .u8 (y14 : Int), .int .u8 (y15 : Int)] 24)) := (Below.refl _ _).alloc (Nat.le_refl _) _
  have b2 := b1.alloc b1.size (.cells #[.int .u16 0, .int .u16 0, .int .u16 0, .int .u16 0, .int .u16 0, .int .u16 0, .int .u16 0, .int .u16 0] 79)
  have b3 := b2.alloc b2.size (.cells #[.int .u16 0, .int .u16 0, .int .u16 0, .int .u16 0, .int .u16 0, .int .u16 0, .int .u16 0, .int .u16 0] 79)
  have hR := Arr8.zero (w.alloc (.cells #[.int .i64 f, .int .u8 (y0 : Int), .int .u8 (y1 : Int), .int .u8 (y2 : Int), .int .u8 (y3 : Int), .int .u8 (y4 : Int), .int .u8 (y5 : Int), .int .u8 (y6 : Int), .int .u8 (y7 : Int), .int .u8 (y8 : Int), .int .u8 (y9 : Int), .int .u8 (y10 : Int), .int .u8 (y11 : Int), .int .u8 (y12 : Int), .int .u8 (y13 : Int), .int .u8 (y14 : Int), .int .u8 (y15 : Int)] 24)) 79
  have hP := Arr8.zero ((w.alloc (.cells #[.int .i64 f, .int .u8 (y0 : Int), .int .u8 (y1 : Int), .int .u8 (y2 : Int), .int .u8 (y3 : Int), .int .u8 (y4 : Int), .int .u8 (y5 : Int), .int .u8 (y6 : Int), .int .u8 (y7 : Int), .int .u8 (y8 : Int), .int .u8 (y9 : Int), .int .u8 (y10 : Int), .int .u8 (y11 : Int), .int .u8 (y12 : Int), .int .u8 (y13 : Int), .int .u8 (y14 : Int), .int .u8 (y15 : Int)] 24)).alloc (.cells #[.int .u16 0, .int .u16 0, .int .u16 0, .int .u16 0, .int .u16 0, .int .u16 0, .int .u16 0, .int .u16 0] 79)) 79
  have hB2 := (hB.below ((Below.refl _ _).alloc (Nat.le_refl _) (.cells #[.int .u16 0, .int .u16 0, .int .u16 0, .int .u16 0, .int .u16 0, .int .u16 0, .int .u16 0, .int .u16 0] 79))).below ((Below.refl _ _).alloc (Nat.le_refl _) (.cells #[.int .u16 0, .int .u16 0, .int .u16 0, .int .u16 0, .int .u16 0, .int .u16 0, .int .u16 0, .int .u16 0] 79))
  have hR2 := hR.below ((Below.refl _ _).alloc (Nat.le_refl _) (.cells #[.int .u16 0, .int .u16 0, .int .u16 0, .int .u16 0, .int .u16 0, .int .u16 0, .int .u16 0, .int .u16 0] 79))
  have e1 : (w.alloc (.cells #[.int .i64 f, .int .u8 (y0 : Int), .int .u8 (y1 : Int), .int .u8 (y2 : Int), .int .u8 (y3 : Int), .int .u8 (y4 : Int), .int .u8 (y5 : Int), .int .u8 (y6 : Int), .int .u8 (y7 : Int), .int .u8 (y8 : Int), .int .u8 (y9 : Int), .int .u8 (y10 : Int), .int .u8 (y11 : Int), .int .u8 (y12 : Int), .int .u8 (y13 : Int), .int .u8 (y14 : Int), .int .u8 (y15 : Int)] 24)).heap.size = w.heap.size + 1 := by simp
  have e2 : ((w.alloc (.cells #[.int .i64 f, .int .u8 (y0 : Int), .int .u8 (y1 : Int), .int .u8 (y2 : Int), .int .u8 (y3 : Int), .int .u8 (y4 : Int), .int .u8 (y5 : Int), .int .u8 (y6 : Int), .int .u8 (y7 : Int), .int .u8 (y8 : Int), .int .u8 (y9 : Int), .int .u8 (y10 : Int), .int .u8 (y11 : Int), .int .u8 (y12 : Int), .int .u8 (y13 : Int), .int .u8 (y14 : Int), .int .u8 (y15 : Int)] 24)).alloc (.cells #[.int .u16 0, .int .u16 0, .int .u16 0, .int .u16 0, .int .u16 0, .int .u16 0, .int .u16 0, .int .u16 0] 79)).heap.size = w.heap.size + 1 + 1 := by simp
  rw [e1] at hR2
  rw [e2] at hP
  rw [ha]
  have HLT := Lib.hid hlt
  clear ha hbs h16 hlt hB hR b1 b2
  go_enter Tryz.func34, Tryz.ntmps34
  go_wp2_with fail
  generalize (((w.alloc (.cells #[.int .i64 f, .int .u8 (y0 : Int), .int .u8 (y1 : Int), .int .u8 (y2 : Int), .int .u8 (y3 : Int), .int .u8 (y4 : Int), .int .u8 (y5 : Int), .int .u8 (y6 : Int), .int .u8 (y7 : Int), .int .u8 (y8 : Int), .int .u8 (y9 : Int), .int .u8 (y10 : Int), .int .u8 (y11 : Int), .int .u8 (y12 : Int), .int .u8 (y13 : Int), .int .u8 (y14 : Int), .int .u8 (y15 : Int)] 24)).alloc (.cells #[.int .u16 0, .int .u16 0, .int .u16 0, .int .u16 0, .int .u16 0, .int .u16 0, .int .u16 0, .int .u16 0] 79)).alloc (.cells #[.int .u16 0, .int .u16 0, .int .u16 0, .int .u16 0, .int .u16 0, .int .u16 0, .int .u16 0, .int .u16 0] 79)) = W at *
  clear e1 e2
  have HB := Lib.hid hB2
  have HR := Lib.hid hR2
  have HP := Lib.hid hP
  clear hB2 hR2 hP
  go_loopw [4] (fun i wr => ∃ (k : Nat) (l : List Nat), k ≤ 8 ∧ i = .int .i64 k ∧ Hid (AddrAt wr w.heap.size f bs) ∧ Hid (Arr8 wr (w.heap.size + 1) [0, 0, 0, 0, 0, 0, 0, 0]) ∧ Hid (Arr8 wr (w.heap.size + 1 + 1) l) ∧ Hid (l = grL bs k ++ List.replicate (8 - k) 0) ∧ Below w.heap.size w wr) (fun i _ => 8 - (intOf i).toNat)
  case atStart => exact ⟨0, _, by decide, rfl, HB, HR, HP, Lib.hid rfl, b3⟩
  case round =>
    obtain ⟨k, l, hk, rfl, HB2, HR2, HP2, HL, hbel⟩ := hrel
    by_cases hk8 : k < 8
    · obtain ⟨c, hc, ec⟩ : ∃ c : Nat, 2 * k = c ∧ (2 : Int) * (k : Int) = (c : Int) := ⟨_, rfl, by omega⟩
      have hc0 := HB2.out.cells c (by omega)
      have hc1 := HB2.out.cells (c + 1) (by omega)
      have hh := byte_lt HLT.out c
      have hl := byte_lt HLT.out (c + 1)
      obtain ⟨x, ex⟩ : ∃ x, bs.getD c 0 = x := ⟨_, rfl⟩
      obtain ⟨y, ey⟩ : ∃ y, bs.getD (c + 1) 0 = y := ⟨_, rfl⟩
      rw [ex] at hc0 hh
      rw [ey] at hc1 hl
      have hc15 : c + 1 < 16 := by omega
      have k1 : (k : Int) < 8 := by omega
      have c1 : (c : Int) < 16 := by omega
      have c2 : (c : Int) + 1 < 16 := by omega
      have q1 : IntKind.u16.wrap ((x : Int) * 256) = (x : Int) * 256 := by rw [IntKind.wrap_u16]; omega
      obtain ⟨v, hv, ev⟩ : ∃ v : Nat, x * 256 + y = v ∧ (x : Int) * 256 + (y : Int) = (v : Int) := ⟨_, rfl, by omega⟩
      have q2 : IntKind.u16.wrap (v : Int) = (v : Int) := by rw [IntKind.wrap_u16]; omega
      have hp0 := HP2.out.cells k hk8
      have hl0 := HP2.out.live k hk8
      have HS := Lib.hid (HP2.out.set hk8 v)
      have HE : Hid (l.set k v = grL bs (k + 1) ++ List.replicate (8 - (k + 1)) 0) := Lib.hid (by
        rw [HL.out, grL, hc, ex, ey, hv]
        exact set_one _ k _ hk8 (grL_len bs k))
      generalize l.getD k 0 = o0 at hp0
      clear ex ey hc hv
      go_wp2_with fail
      go_region
      go_wp2_with fail
      go_roundw
      case rel => exact ⟨k + 1, l.set k v, by omega, by go_num, Lib.hid ((HB2.out.other (by omega) _).below (Below.refl _ _).drew), Lib.hid ((HR2.out.other (by omega) _).below (Below.refl _ _).drew), Lib.hid (HS.out.below (Below.refl _ _).drew), HE, (hbel.setCell (p := ⟨w.heap.size + 1 + 1, k, none⟩) (by show w.heap.size ≤ w.heap.size + 1 + 1; omega) _).drew⟩
      case measure => simp [intOf]; omega
    · obtain rfl : k = 8 := by omega
      have hll : l = grL bs 8 := by rw [HL.out]; simp
      subst hll
      have hP8 := HP2.out
      obtain ⟨x0, x1, x2, x3, x4, x5, x6, x7, hx⟩ := list8 (grL bs 8) hP8.len
      rw [hx] at hP8
      have HX := Lib.hid hx
      obtain ⟨c0, c1, c2, c3, c4, c5, c6, c7⟩ := hP8.all
      obtain ⟨r0, r1, r2, r3, r4, r5, r6, r7⟩ := HR2.out.all
      obtain ⟨f0, f1, f2, f3, f4, f5, f6, f7⟩ := HR2.out.lives
      have E1 := Lib.hid (store8_arr x0 x1 x2 x3 x4 x5 x6 x7 HR2.out)
      have E2 := Lib.hid (store8_below x0 x1 x2 x3 x4 x5 x6 x7 hbel (show w.heap.size ≤ w.heap.size + 1 by omega))
      clear hP8 hx
      go_wp2_with fail
      change bodyPost _ _ _ _ _ (store8 wr (w.heap.size + 1) x0 x1 x2 x3 x4 x5 x6 x7)
      generalize store8 wr (w.heap.size + 1) x0 x1 x2 x3 x4 x5 x6 x7 = W at *
      clear c0 c1 c2 c3 c4 c5 c6 c7 r0 r1 r2 r3 r4 r5 r6 r7 f0 f1 f2 f3 f4 f5 f6 f7
      obtain ⟨r0, r1, r2, r3, r4, r5, r6, r7⟩ := E1.out.all
      refine bodyPost_ret (v := arr8 [x0, x1, x2, x3, x4, x5, x6, x7]) (by simp [results, Tryz.results34, go_sem, r0, r1, r2, r3, r4, r5, r6, r7, arr8]) rfl ⟨by rw [HX.out], E2.out⟩
end Go.Proofs.YtgbajagacmfcmaaGreatDoor
/- An address in memory, read and stored whole (17 cells as one list), and given back as the result. -/
namespace Go.Proofs.YtgbajagacmfcmaaGreatDoor
open Go.RowKit
set_option linter.unusedVariables false
set_option maxRecDepth 20000

/-- The cells of an address. -/
def addrL (f : Int) (bs : List Nat) : List Value := Value.int .i64 f :: bs.map fun n => Value.int .u8 ((n : Nat) : Int)
theorem addrL_len (f : Int) (bs : List Nat) (h : bs.length = 16) : (addrL f bs).length = 17 := by simp [addrL, h]
theorem addrV_L (f : Int) (bs : List Nat) : addrV f bs = .agg (addrL f bs).toArray := rfl
theorem addrL_one (f : Int) (bs : List Nat) : (addrL f bs).toArray.all (·.oneCell') = true := all_oneCell_toArray fun v hv => by
  rcases List.mem_cons.1 hv with rfl | hv
  · rfl
  · obtain ⟨n, _, rfl⟩ := List.mem_map.1 hv
    rfl
theorem AddrAt.range {w : World} {G : Nat} {f : Int} {bs : List Nat} (h : AddrAt w G f bs) : w.rangeAt G 0 (addrL f bs) := by
  intro j v hv
  rw [Nat.zero_add]
  cases j with
  | zero => rw [h.fam, ← hv]; rfl
  | succ j =>
    have hv2 : (bs.map fun n => Value.int .u8 ((n : Nat) : Int))[j]? = some v := hv
    rw [List.getElem?_map] at hv2
    have hj : j < 16 := by
      rw [← h.len]
      apply Classical.byContradiction
      intro h2
      rw [List.getElem?_eq_none (by omega)] at hv2
      cases hv2
    have h3 := h.cells j hj
    rw [Nat.add_comm 1 j] at h3
    rw [h3, ← hv2, List.getD_eq_getElem?_getD, List.getElem?_eq_getElem (by rw [h.len]; exact hj)]
    rfl
theorem AddrAt.there {w : World} {G : Nat} {f : Int} {bs : List Nat} (h : AddrAt w G f bs) : w.there G 0 17 := by
  intro j hj
  rw [Nat.zero_add]
  refine ⟨?_, h.live j hj⟩
  cases j with
  | zero => rw [h.fam]; rfl
  | succ j => have h3 := h.cells j (by omega); rw [Nat.add_comm 1 j] at h3; rw [h3]; rfl
theorem AddrAt.ofRange {w : World} {G : Nat} {f : Int} {bs : List Nat} (hl : bs.length = 16) (hlt : G < w.heap.size) (h : w.rangeAt G 0 (addrL f bs)) (ht : w.there G 0 17) : AddrAt w G f bs := by
  refine ⟨hl, hlt, h 0 _ rfl, ?_, fun j hj => ?_⟩
  · intro j hj
    have h1 := h (1 + j) (.int .u8 ((bs.getD j 0 : Nat) : Int)) (by
      rw [addrL, Nat.add_comm 1 j, List.getElem?_cons_succ, List.getElem?_map, List.getD_eq_getElem?_getD, List.getElem?_eq_getElem (by omega)]; rfl)
    rw [Nat.zero_add] at h1
    exact h1
  · have h1 := (ht j hj).2
    rw [Nat.zero_add] at h1
    exact h1
theorem size_setCells (b : Nat) : ∀ (vs : List Value) (o : Nat) (w : World), (w.setCells b o vs).heap.size = w.heap.size
  | [], _, _ => rfl
  | v :: r, o, w => by rw [World.setCells, size_setCells b r]; simp
theorem below_cells {B b : Nat} {a : World} (hb : B ≤ b) : ∀ (vs : List Value) (o : Nat) (w : World), Below B a w → Below B a (w.setCells b o vs)
  | [], _, _, h => h
  | v :: r, o, w, h => by rw [World.setCells]; exact below_cells hb r _ _ (h.setCell (p := ⟨b, o, none⟩) hb v)
theorem AddrAt.stored {w : World} {G : Nat} {g : Int} {bs : List Nat} (h : AddrAt w G g bs) (f : Int) (cs : List Nat) (hl : cs.length = 16) : AddrAt (w.setCells G 0 (addrL f cs)) G f cs := by
  have ht : w.there G 0 (addrL f cs).length := by rw [addrL_len f cs hl]; exact h.there
  exact AddrAt.ofRange hl (by rw [size_setCells]; exact h.lt) (World.rangeAt_setCells_same w G 0 _ ht) (World.there_setCells h.there G 0 _)
theorem AddrAt.apart {w : World} {G G' o : Nat} {g : Int} {bs : List Nat} (h : AddrAt w G g bs) (hG : G ≠ G') (vs : List Value) : AddrAt (w.setCells G' o vs) G g bs :=
  AddrAt.ofRange h.len (by rw [size_setCells]; exact h.lt) (World.rangeAt_setCells_apart h.range _ _ _ (.inl hG)) (World.there_setCells h.there _ _ _)
theorem addr_size : (Tryz.prog.info? 24).map (·.size) = some 17 := by kernel_rfl
theorem loadVar_addr {w : World} {G : Nat} {f : Int} {bs : List Nat} (h : AddrAt w G f bs) : (loadVar 24 ⟨G, 0, none⟩).run Tryz.prog w = .ok (addrV f bs) w :=
  run_loadVar_mid w G 0 24 (addrL f bs) _ h.range Tryz.underlying24 rfl (by rw [addr_size, addrL_len f bs h.len])
/-- An address, loaded whole. -/
theorem load_addr {ops : Array Oper} {rest : List Oper} {op : Oper} {a : Act} {w : World} {Q : Exit → Act → World → Prop} {G : Nat} {f : Int} {bs : List Nat} (hA : Hid (AddrAt w G f bs)) (x : Operand) (hgd : op.guard = none) (ho : op.op = .load 24 x)
    (hx : a.eval x = .pointer (some ⟨G, 0, none⟩)) (h : wpList Tryz.prog ops Q rest (a.put op.dst (addrV f bs)) w) : wpList Tryz.prog ops Q (op :: rest) a w :=
  wpList_load_mid hgd 24 x ho G 0 hx (addrL f bs) _ hA.out.range Tryz.underlying24 rfl (by rw [addr_size, addrL_len f bs hA.out.len]) h
/-- An address, stored whole: the world behind it is any that is so. -/
theorem store_addr {ops : Array Oper} {rest : List Oper} {op : Oper} {a : Act} {w : World} {Q : Exit → Act → World → Prop} {G : Nat} {g : Int} {bs0 : List Nat} (hA : Hid (AddrAt w G g bs0)) (x y : Operand) {f : Int} {bs : List Nat} (hl : Hid (bs.length = 16)) (hgd : op.guard = none) (ho : op.op = .store 24 x y)
    (hx : a.eval x = .pointer (some ⟨G, 0, none⟩)) (hy : a.eval y = addrV f bs) (h : ∀ W, Hid (W = w.setCells G 0 (addrL f bs)) → Hid (AddrAt W G f bs) → wpList Tryz.prog ops Q rest (a.put op.dst undef) W) : wpList Tryz.prog ops Q (op :: rest) a w :=
  wpList_store_mid hgd 24 x y ho G 0 (addrL f bs).toArray hx hy (by rw [List.size_toArray, addrL_len f bs hl.out]; exact hA.out.there) (by rw [addr_size, List.size_toArray, addrL_len f bs hl.out]) (addrL_one f bs) (h _ (Lib.hid rfl) (Lib.hid (hA.out.stored f bs hl.out)))
/-- An address, given back out of its cells. -/
theorem results_addr {fn : Func} {a : Tmp} {tmps : Array Value} {W : World} {R : Nat} {f : Int} {bs : List Nat} (h : fn.results = #[.cell a 24]) (ha : tmps.getD a undef = .pointer (some ⟨R, 0, none⟩)) (hA : AddrAt W R f bs) : (results fn tmps).run Tryz.prog W = .ok (addrV f bs) W := by
  rw [Array.getD_eq_getD_getElem?] at ha
  simp [results, h, ha, asAddr, loadVar_addr hA]
/-- .. and beside it what lies in a slot. -/
theorem results_addr2 {fn : Func} {a t : Tmp} {tmps : Array Value} {W : World} {R : Nat} {f : Int} {bs : List Nat} (h : fn.results = #[.cell a 24, .tmp t]) (ha : tmps.getD a undef = .pointer (some ⟨R, 0, none⟩)) (hA : AddrAt W R f bs) : (results fn tmps).run Tryz.prog W = .ok (.tuple #[addrV f bs, tmps.getD t undef]) W := by
  rw [Array.getD_eq_getD_getElem?] at ha
  simp [results, h, ha, asAddr, loadVar_addr hA]
end Go.Proofs.YtgbajagacmfcmaaGreatDoor
/- Contracts of the reference's Bits, Bit, May, Compare of layer 4. -/
namespace Go.Proofs.YtgbajagacmfcmaaGreatDoor
open Go.RowKit
set_option linter.unusedVariables false
set_option maxRecDepth 20000

/-- How many bits. -/
def bitsN (f : Int) : Nat := if f = 4 then 32 else if f = 6 then 128 else 0
set_option maxRecDepth 100000 in
theorem refBits_any (f : Int) (bs : List Nat) (w : World) (h16 : bs.length = 16) :
    Calls Tryz.prog 47 #[addrV f bs] w fun e w' => e = .returned (.int .i64 ((bitsN f : Nat) : Int)) ∧ Below w.heap.size w w' := by
  obtain ⟨y0, y1, y2, y3, y4, y5, y6, y7, y8, y9, y10, y11, y12, y13, y14, y15, hbs⟩ := list16 bs h16
  have ha : addrV f bs = .agg #[.int .i64 f, .int .u8 (y0 : Int), .int .u8 (y1 : Int), .int .u8 (y2 : Int), .int .u8 (y3 : Int), .int .u8 (y4 : Int), .int .u8 (y5 : Int), .int .u8 (y6 : Int), .int .u8 (y7 : Int), .int .u8 (y8 : Int), .int .u8 (y9 : Int), .int .u8 (y10 : Int), .int .u8 (y11 : Int), .int .u8 (y12 : Int), .int .u8 (y13 : Int), .int .u8 (y14 : Int), .int .u8 (y15 : Int)] := by rw [hbs]; rfl
  rw [ha]
  clear ha hbs h16
  by_cases h4 : f = 4
  · subst h4
    go_enter Tryz.func47, Tryz.ntmps47
    go_wp2_with fail
    go_ret
    exact ⟨rfl, by first | exact Below.refl _ _ | exact (Below.refl _ _).alloc (Nat.le_refl _) _⟩
  · by_cases h6 : f = 6
    · subst h6
      go_enter Tryz.func47, Tryz.ntmps47
      go_wp2_with fail
      go_ret
      exact ⟨rfl, by first | exact Below.refl _ _ | exact (Below.refl _ _).alloc (Nat.le_refl _) _⟩
    · go_enter Tryz.func47, Tryz.ntmps47
      go_wp2_with fail
      go_ret
      exact ⟨by rw [bitsN, if_neg h4, if_neg h6]; rfl, by first | exact Below.refl _ _ | exact (Below.refl _ _).alloc (Nat.le_refl _) _⟩
end Go.Proofs.YtgbajagacmfcmaaGreatDoor
/- Contract of the reference's Bit of layer 4. -/
namespace Go.Proofs.YtgbajagacmfcmaaGreatDoor
open Go.RowKit
set_option linter.unusedVariables false
set_option maxRecDepth 20000

/-- The bit at a place. -/
def bitN (f : Int) (bs : List Nat) (i : Int) : Nat := if 0 ≤ i ∧ i < (bitsN f : Int) then bs.getD (i.toNat / 8) 0 / 2 ^ (7 - i.toNat % 8) % 2 else 0
theorem bitsN_le (f : Int) : bitsN f ≤ 128 := by
  unfold bitsN
  split
  · decide
  · split <;> decide
set_option maxRecDepth 100000 in
set_option maxHeartbeats 1000000 in
theorem refBit_any (f : Int) (bs : List Nat) (i : Int) (w : World) (h16 : bs.length = 16) (hlt : ∀ x ∈ bs, x < 256) (hi : (Lit.int .i64 i).wf = true) :
    Calls Tryz.prog 48 #[addrV f bs, .int .i64 i] w fun e w' => e = .returned (.int .i64 ((bitN f bs i : Nat) : Int)) ∧ Below w.heap.size w w' := by
  have HLT := Lib.hid hlt
  have HB := fun W => Lib.hid (refBits_any f bs W h16)
  obtain ⟨y0, y1, y2, y3, y4, y5, y6, y7, y8, y9, y10, y11, y12, y13, y14, y15, hbs⟩ := list16 bs h16
  have ha : addrV f bs = .agg #[.int .i64 f, .int .u8 (y0 : Int), .int .u8 (y1 : Int), .int .u8 (y2 : Int), .int .u8 (y3 : Int), .int .u8 (y4 : Int), .int .u8 (y5 : Int), .int .u8 (y6 : Int), .int .u8 (y7 : Int), .int .u8 (y8 : Int), .int .u8 (y9 : Int), .int .u8 (y10 : Int), .int .u8 (y11 : Int), .int .u8 (y12 : Int), .int .u8 (y13 : Int), .int .u8 (y14 : Int), .int .u8 (y15 : Int)] := by rw [hbs]; rfl
  rw [ha]
  rw [ha] at HB
  have hA := AddrAt.new w 24 f y0 y1 y2 y3 y4 y5 y6 y7 y8 y9 y10 y11 y12 y13 y14 y15
  rw [← hbs] at hA
  have B0 : Hid (Below w.heap.size w (w.alloc (.cells #[.int .i64 f, .int .u8 (y0 : Int), .int .u8 (y1 : Int), .int .u8 (y2 : Int), .int .u8 (y3 : Int), .int .u8 (y4 : Int), .int .u8 (y5 : Int), .int .u8 (y6 : Int), .int .u8 (y7 : Int), .int .u8 (y8 : Int), .int .u8 (y9 : Int), .int .u8 (y10 : Int), .int .u8 (y11 : Int), .int .u8 (y12 : Int), .int .u8 (y13 : Int), .int .u8 (y14 : Int), .int .u8 (y15 : Int)] 24))) := Lib.hid ((Below.refl _ _).alloc (Nat.le_refl _) _)
  have HA := Lib.hid hA
  clear ha hbs h16 hlt hA
  by_cases h0 : i < 0
  · rw [show bitN f bs i = 0 from if_neg (by omega)]
    go_enter Tryz.func48, Tryz.ntmps48
    go_wp2_with fail
    go_ret
    exact ⟨rfl, B0.out⟩
  · obtain ⟨n, rfl⟩ : ∃ n : Nat, i = (n : Int) := ⟨i.toNat, by omega⟩
    have hb := bitsN_le f
    obtain ⟨N, eN⟩ : ∃ N, bitsN f = N := ⟨_, rfl⟩
    have EN := Lib.hid eN
    rw [eN] at HB hb
    clear eN
    replace h0 : ¬ ((n : Int) < 0) := by omega
    go_enter Tryz.func48, Tryz.ntmps48
    go_wp2_with fail
    generalize (w.alloc (.cells #[.int .i64 f, .int .u8 (y0 : Int), .int .u8 (y1 : Int), .int .u8 (y2 : Int), .int .u8 (y3 : Int), .int .u8 (y4 : Int), .int .u8 (y5 : Int), .int .u8 (y6 : Int), .int .u8 (y7 : Int), .int .u8 (y8 : Int), .int .u8 (y9 : Int), .int .u8 (y10 : Int), .int .u8 (y11 : Int), .int .u8 (y12 : Int), .int .u8 (y13 : Int), .int .u8 (y14 : Int), .int .u8 (y15 : Int)] 24)) = W at *
    refine (HB W).out.mono ?_
    rintro e w1 ⟨rfl, hb1⟩
    have HA1 := Lib.hid (HA.out.below hb1)
    have B1 := Lib.hid (chain B0.out hb1)
    clear HA B0 hb1 HB
    by_cases hn : n < N
    · have hq : n / 8 < 16 := by omega
      have hcell := HA1.out.cells (n / 8) hq
      have hx := byte_lt HLT.out (n / 8)
      have HR : Hid (bitN f bs (n : Int) = bs.getD (n / 8) 0 / 2 ^ (7 - n % 8) % 2) := Lib.hid (by
        unfold bitN
        rw [EN.out, if_pos (by omega)]
        rfl)
      generalize bs.getD (n / 8) 0 = x at *
      obtain ⟨q, eq, hq2⟩ : ∃ q : Nat, n / 8 = q ∧ (n : Int) / 8 = (q : Int) := ⟨_, rfl, by omega⟩
      obtain ⟨r, er, hr2⟩ : ∃ r : Nat, n % 8 = r ∧ (n : Int) % 8 = (r : Int) := ⟨_, rfl, by omega⟩
      have hr : r ≤ 7 := by omega
      rw [eq] at hcell hq
      rw [er] at HR
      have q16 : (q : Int) < 16 := by omega
      have d1 : (n : Int).tdiv 8 = (q : Int) := by rw [Int.tdiv_eq_ediv_of_nonneg (by omega)]; exact hq2
      have d2 : (n : Int).tmod 8 = (r : Int) := by rw [Int.tmod_eq_emod_of_nonneg (by omega)]; exact hr2
      clear eq er
      go_wp2_with fail
      go_loop [5, 6] (fun c k => ∃ m C : Nat, r ≤ m ∧ m ≤ 7 ∧ k = .int .i64 (m : Int) ∧ c = .int .i64 (C : Int) ∧ C < 256 ∧ Hid (C = x / 2 ^ (m - r))) (fun _ k => 7 - (intOf k).toNat)
      case atStart => exact ⟨r, x, Nat.le_refl _, hr, by go_num, by go_num, hx, Lib.hid (by simp)⟩
      case round =>
        obtain ⟨m, C, hm1, hm2, rfl, rfl, hC, HC⟩ := hrel
        by_cases hm7 : m < 7
        · have HC2 : Hid (C / 2 = x / 2 ^ (m + 1 - r)) := Lib.hid (by rw [HC.out, show m + 1 - r = (m - r) + 1 by omega, Nat.pow_succ, Nat.div_div_eq_div_mul])
          have t2 : (C : Int).tdiv 2 = ((C / 2 : Nat) : Int) := by rw [Int.tdiv_eq_ediv_of_nonneg (by omega)]; omega
          go_wp2_with fail
          go_round
          case rel => exact ⟨m + 1, C / 2, by omega, by omega, by go_num, by first | rfl | go_num, by omega, HC2⟩
          case measure => simp [intOf]; omega
        · obtain rfl : m = 7 := by omega
          have HE : Hid (bitN f bs (n : Int) = C % 2) := Lib.hid (by rw [HR.out, HC.out])
          have t3 : (C : Int).tmod 2 = ((C % 2 : Nat) : Int) := by rw [Int.tmod_eq_emod_of_nonneg (by omega)]; omega
          go_wp2_with fail
          go_ret
          exact ⟨by rw [HE.out]; first | rfl | (congr 2; omega), B1.out⟩
    · have HR : Hid (bitN f bs (n : Int) = 0) := Lib.hid (by unfold bitN; rw [EN.out, if_neg (by omega)])
      go_wp2_with fail
      go_ret
      exact ⟨by rw [HR.out]; rfl, B1.out⟩
end Go.Proofs.YtgbajagacmfcmaaGreatDoor
/- Plain facts on the bits of sixteen bytes: a row of bytes is its bits; bits set one by one; bits read one by one. -/
namespace Go.Proofs.YtgbajagacmfcmaaGreatDoor
open Go.RowKit
set_option linter.unusedVariables false
set_option maxRecDepth 20000

/-- The bit at a place. -/
def bitA (l : List Nat) (i : Nat) : Nat := l.getD (i / 8) 0 / 2 ^ (7 - i % 8) % 2
theorem bitA_le (l : List Nat) (i : Nat) : bitA l i ≤ 1 := by unfold bitA; omega
theorem bitN_A (f : Int) (bs : List Nat) (i : Nat) (h : i < bitsN f) : bitN f bs (i : Int) = bitA bs i := by
  unfold bitN
  rw [if_pos (by omega)]
  rfl
theorem bitsN_cases (f : Int) : (f = 4 ∧ bitsN f = 32) ∨ (f = 6 ∧ bitsN f = 128) ∨ (f ≠ 4 ∧ f ≠ 6 ∧ bitsN f = 0) := by
  unfold bitsN
  by_cases h4 : f = 4
  · exact .inl ⟨h4, by rw [if_pos h4]⟩
  · by_cases h6 : f = 6
    · exact .inr (.inl ⟨h6, by rw [if_neg h4, if_pos h6]⟩)
    · exact .inr (.inr ⟨h4, h6, by rw [if_neg h4, if_neg h6]⟩)
theorem byte_bits (x : Nat) (h : x < 256) : x = x / 128 % 2 * 128 + x / 64 % 2 * 64 + x / 32 % 2 * 32 + x / 16 % 2 * 16 + x / 8 % 2 * 8 + x / 4 % 2 * 4 + x / 2 % 2 * 2 + x % 2 := by omega
theorem byte_ext (x y : Nat) (hx : x < 256) (hy : y < 256) (h : ∀ r, r < 8 → x / 2 ^ (7 - r) % 2 = y / 2 ^ (7 - r) % 2) : x = y := by
  have h0 : x / 128 % 2 = y / 128 % 2 := h 0 (by decide)
  have h1 : x / 64 % 2 = y / 64 % 2 := h 1 (by decide)
  have h2 : x / 32 % 2 = y / 32 % 2 := h 2 (by decide)
  have h3 : x / 16 % 2 = y / 16 % 2 := h 3 (by decide)
  have h4 : x / 8 % 2 = y / 8 % 2 := h 4 (by decide)
  have h5 : x / 4 % 2 = y / 4 % 2 := h 5 (by decide)
  have h6 : x / 2 % 2 = y / 2 % 2 := h 6 (by decide)
  have h7 : x / 1 % 2 = y / 1 % 2 := h 7 (by decide)
  rw [byte_bits x hx, byte_bits y hy, h0, h1, h2, h3, h4, h5, h6]
  simp only [Nat.div_one] at h7
  rw [h7]
theorem getD_lt {l : List Nat} (h : ∀ x ∈ l, x < 256) (q : Nat) : l.getD q 0 < 256 := by
  by_cases hq : q < l.length
  · rw [List.getD_eq_getElem?_getD, List.getElem?_eq_getElem hq]
    exact h _ (List.getElem_mem hq)
  · rw [List.getD_eq_getElem?_getD, List.getElem?_eq_none (by omega)]
    decide
theorem getD_ext {xs ys : List Nat} (hl : xs.length = ys.length) (h : ∀ q, q < xs.length → xs.getD q 0 = ys.getD q 0) : xs = ys := by
  apply List.ext_getElem hl
  intro q h1 h2
  have := h q h1
  rw [List.getD_eq_getElem?_getD, List.getD_eq_getElem?_getD, List.getElem?_eq_getElem h1, List.getElem?_eq_getElem h2] at this
  exact this
/-- Sixteen bytes are their bits. -/
theorem bits_ext {xs ys : List Nat} (hx : xs.length = 16) (hy : ys.length = 16) (lx : ∀ x ∈ xs, x < 256) (ly : ∀ x ∈ ys, x < 256) (h : ∀ i, i < 128 → bitA xs i = bitA ys i) : xs = ys := by
  refine getD_ext (by rw [hx, hy]) (fun q hq => byte_ext _ _ (getD_lt lx q) (getD_lt ly q) (fun r hr => ?_))
  have h1 := h (8 * q + r) (by omega)
  unfold bitA at h1
  rw [show (8 * q + r) / 8 = q by omega, show (8 * q + r) % 8 = r by omega] at h1
  exact h1
/-- The byte of eight bits. -/
def octOf (β : Nat → Nat) (q : Nat) : Nat := β (8 * q) * 128 + β (8 * q + 1) * 64 + β (8 * q + 2) * 32 + β (8 * q + 3) * 16 + β (8 * q + 4) * 8 + β (8 * q + 5) * 4 + β (8 * q + 6) * 2 + β (8 * q + 7)
def ofBits (β : Nat → Nat) : List Nat := (List.range 16).map (octOf β)
theorem ofBits_len (β : Nat → Nat) : (ofBits β).length = 16 := by simp [ofBits]
theorem octOf_lt (β : Nat → Nat) (h : ∀ i, β i ≤ 1) (q : Nat) : octOf β q < 256 := by
  unfold octOf
  have h0 := h (8 * q); have h1 := h (8 * q + 1); have h2 := h (8 * q + 2); have h3 := h (8 * q + 3)
  have h4 := h (8 * q + 4); have h5 := h (8 * q + 5); have h6 := h (8 * q + 6); have h7 := h (8 * q + 7)
  omega
theorem ofBits_lt (β : Nat → Nat) (h : ∀ i, β i ≤ 1) : ∀ x ∈ ofBits β, x < 256 := by
  intro x hx
  obtain ⟨q, _, rfl⟩ := List.mem_map.1 hx
  exact octOf_lt β h q
theorem map_range_getD (g : Nat → Nat) (n q : Nat) (hq : q < n) : ((List.range n).map g).getD q 0 = g q := by
  rw [List.getD_eq_getElem?_getD, List.getElem?_map, List.getElem?_range hq]
  rfl
theorem ofBits_getD (β : Nat → Nat) (q : Nat) (hq : q < 16) : (ofBits β).getD q 0 = octOf β q := map_range_getD _ _ _ hq
theorem octOf_bit (β : Nat → Nat) (h : ∀ i, β i ≤ 1) (q r : Nat) (hr : r < 8) : octOf β q / 2 ^ (7 - r) % 2 = β (8 * q + r) := by
  unfold octOf
  have h0 := h (8 * q); have h1 := h (8 * q + 1); have h2 := h (8 * q + 2); have h3 := h (8 * q + 3)
  have h4 := h (8 * q + 4); have h5 := h (8 * q + 5); have h6 := h (8 * q + 6); have h7 := h (8 * q + 7)
  obtain rfl | rfl | rfl | rfl | rfl | rfl | rfl | rfl : r = 0 ∨ r = 1 ∨ r = 2 ∨ r = 3 ∨ r = 4 ∨ r = 5 ∨ r = 6 ∨ r = 7 := by omega
  · show _ / 128 % 2 = β (8 * q); omega
  · show _ / 64 % 2 = _; omega
  · show _ / 32 % 2 = _; omega
  · show _ / 16 % 2 = _; omega
  · show _ / 8 % 2 = _; omega
  · show _ / 4 % 2 = _; omega
  · show _ / 2 % 2 = _; omega
  · show _ / 1 % 2 = _; omega
theorem bitA_ofBits (β : Nat → Nat) (h : ∀ i, β i ≤ 1) (i : Nat) (hi : i < 128) : bitA (ofBits β) i = β i := by
  unfold bitA
  rw [ofBits_getD β _ (by omega), octOf_bit β h _ _ (by omega), show 8 * (i / 8) + i % 8 = i by omega]
theorem ofBits_self {xs : List Nat} (hx : xs.length = 16) (lx : ∀ x ∈ xs, x < 256) : ofBits (bitA xs) = xs :=
  bits_ext (ofBits_len _) hx (ofBits_lt _ (bitA_le xs)) lx (fun i hi => bitA_ofBits _ (bitA_le xs) i hi)
theorem ofBits_congr {β γ : Nat → Nat} (h1 : ∀ i, β i ≤ 1) (h2 : ∀ i, γ i ≤ 1) (h : ∀ i, i < 128 → β i = γ i) : ofBits β = ofBits γ :=
  bits_ext (ofBits_len _) (ofBits_len _) (ofBits_lt _ h1) (ofBits_lt _ h2) (fun i hi => by rw [bitA_ofBits β h1 i hi, bitA_ofBits γ h2 i hi, h i hi])
/-- A bit set. -/
def setB (l : List Nat) (i : Nat) : List Nat := l.set (i / 8) (l.getD (i / 8) 0 ||| 2 ^ (7 - i % 8))
theorem setB_len (l : List Nat) (i : Nat) : (setB l i).length = l.length := by simp [setB]
theorem or_bit_all : ∀ x : Fin 256, ∀ r : Fin 8, (x.val ||| 2 ^ (7 - r.val)) < 256 ∧ ∀ j : Fin 8, (x.val ||| 2 ^ (7 - r.val)) / 2 ^ (7 - j.val) % 2 = if j = r then 1 else x.val / 2 ^ (7 - j.val) % 2 := by decide +kernel
theorem or_bit_lt (x r : Nat) (hx : x < 256) (hr : r < 8) : (x ||| 2 ^ (7 - r)) < 256 := (or_bit_all ⟨x, hx⟩ ⟨r, hr⟩).1
theorem or_bit (x r j : Nat) (hx : x < 256) (hr : r < 8) (hj : j < 8) : (x ||| 2 ^ (7 - r)) / 2 ^ (7 - j) % 2 = if j = r then 1 else x / 2 ^ (7 - j) % 2 := by
  have := (or_bit_all ⟨x, hx⟩ ⟨r, hr⟩).2 ⟨j, hj⟩
  rw [this]
  by_cases h : j = r
  · subst h; rw [if_pos rfl, if_pos rfl]
  · rw [if_neg h, if_neg (fun e => h (Fin.mk.inj e))]
theorem setB_lt {l : List Nat} (h : ∀ x ∈ l, x < 256) (i : Nat) : ∀ x ∈ setB l i, x < 256 := by
  intro x hx
  rcases List.mem_or_eq_of_mem_set hx with h1 | rfl
  · exact h x h1
  · exact or_bit_lt _ _ (getD_lt h _) (by omega)
theorem getD_set (l : List Nat) (i j v : Nat) (hi : i < l.length) : (l.set i v).getD j 0 = if j = i then v else l.getD j 0 := by
  rw [List.getD_eq_getElem?_getD, List.getD_eq_getElem?_getD, List.getElem?_set]
  by_cases h : j = i
  · subst h; rw [if_pos rfl, if_pos hi, if_pos rfl]; rfl
  · rw [if_neg (fun e => h e.symm), if_neg h]
theorem bitA_setB {l : List Nat} (h16 : l.length = 16) (hlt : ∀ x ∈ l, x < 256) (i j : Nat) (hi : i < 128) (hj : j < 128) : bitA (setB l i) j = if j = i then 1 else bitA l j := by
  unfold bitA setB
  rw [getD_set _ _ _ _ (by omega)]
  by_cases hq : j / 8 = i / 8
  · rw [if_pos hq, or_bit _ _ _ (getD_lt hlt _) (by omega) (by omega)]
    by_cases hr : j % 8 = i % 8
    · rw [if_pos hr, if_pos (by omega)]
    · rw [if_neg hr, if_neg (by intro e; exact hr (by rw [e])), hq]
  · rw [if_neg hq, if_neg (by intro e; exact hq (by rw [e]))]
/-- An address all of whose bits from one on are b. -/
def withF (N : Nat) (bs : List Nat) (k b i : Nat) : Nat := if i < N then (if k ≤ i then b else bitA bs i) else 0
def withL (N : Nat) (bs : List Nat) (k b : Nat) : List Nat := ofBits (withF N bs k b)
theorem withF_le (N : Nat) (bs : List Nat) (k b i : Nat) (hb : b ≤ 1) : withF N bs k b i ≤ 1 := by
  unfold withF
  have := bitA_le bs i
  split
  · split <;> omega
  · omega
theorem withL_len (N : Nat) (bs : List Nat) (k b : Nat) : (withL N bs k b).length = 16 := ofBits_len _
theorem withL_lt (N : Nat) (bs : List Nat) (k b : Nat) (hb : b ≤ 1) : ∀ x ∈ withL N bs k b, x < 256 := ofBits_lt _ (fun i => withF_le N bs k b i hb)
theorem bitA_with (N : Nat) (bs : List Nat) (k b i : Nat) (hb : b ≤ 1) (hi : i < 128) : bitA (withL N bs k b) i = withF N bs k b i := bitA_ofBits _ (fun i => withF_le N bs k b i hb) i hi
theorem withL_zero (N : Nat) (bs : List Nat) : withL N bs 0 0 = List.replicate 16 0 :=
  bits_ext (withL_len _ _ _ _) (by simp) (withL_lt _ _ _ _ (by decide)) (fun x hx => by rw [List.eq_of_mem_replicate hx]; decide) (fun i hi => by
    rw [bitA_with _ _ _ _ _ (by decide) hi]
    have h0 : (List.replicate 16 0).getD (i / 8) 0 = 0 := by rw [List.getD_eq_getElem?_getD, List.getElem?_replicate, if_pos (by omega)]; rfl
    have h1 : bitA (List.replicate 16 0) i = 0 := by unfold bitA; rw [h0]; simp
    rw [h1]
    unfold withF
    simp)
/-- One bit more is kept: it is 1. -/
theorem with_one (N : Nat) (bs : List Nat) (k : Nat) (hk : k < N) (hN : N ≤ 128) (h : bitA bs k = 1) : setB (withL N bs k 0) k = withL N bs (k + 1) 0 :=
  bits_ext (by rw [setB_len, withL_len]) (withL_len _ _ _ _) (setB_lt (withL_lt _ _ _ _ (by decide)) _) (withL_lt _ _ _ _ (by decide)) (fun i hi => by
    rw [bitA_setB (withL_len _ _ _ _) (withL_lt _ _ _ _ (by decide)) k i (by omega) hi, bitA_with _ _ _ _ _ (by decide) hi, bitA_with _ _ _ _ _ (by decide) hi]
    unfold withF
    by_cases e : i = k
    · subst e; rw [if_pos rfl, if_pos hk, if_neg (by omega), h]
    · rw [if_neg e]
      by_cases h1 : i < N
      · rw [if_pos h1, if_pos h1]
        by_cases h2 : k ≤ i
        · rw [if_pos h2, if_pos (by omega)]
        · rw [if_neg h2, if_neg (by omega)]
      · rw [if_neg h1, if_neg h1])
theorem with_none (N : Nat) (bs : List Nat) (k : Nat) (hk : k < N) (h : bitA bs k = 0) : withL N bs k 0 = withL N bs (k + 1) 0 :=
  ofBits_congr (fun i => withF_le _ _ _ _ _ (by decide)) (fun i => withF_le _ _ _ _ _ (by decide)) (fun i hi => by
    unfold withF
    by_cases e : i = k
    · subst e; rw [if_pos hk, if_pos hk, if_pos (Nat.le_refl _), if_neg (by omega), h]
    · by_cases h1 : i < N
      · rw [if_pos h1, if_pos h1]
        by_cases h2 : k ≤ i
        · rw [if_pos h2, if_pos (by omega)]
        · rw [if_neg h2, if_neg (by omega)]
      · rw [if_neg h1, if_neg h1])
/-- The bits from n to k, set. -/
def lastF (bs : List Nat) (n k i : Nat) : Nat := if n ≤ i ∧ i < k then 1 else bitA bs i
def lastL (bs : List Nat) (n k : Nat) : List Nat := ofBits (lastF bs n k)
theorem lastF_le (bs : List Nat) (n k i : Nat) : lastF bs n k i ≤ 1 := by
  unfold lastF
  have := bitA_le bs i
  split <;> omega
theorem lastL_len (bs : List Nat) (n k : Nat) : (lastL bs n k).length = 16 := ofBits_len _
theorem lastL_lt (bs : List Nat) (n k : Nat) : ∀ x ∈ lastL bs n k, x < 256 := ofBits_lt _ (lastF_le bs n k)
theorem lastL_zero {bs : List Nat} (n : Nat) (h16 : bs.length = 16) (hlt : ∀ x ∈ bs, x < 256) : lastL bs n 0 = bs := by
  unfold lastL
  refine bits_ext (ofBits_len _) h16 (ofBits_lt _ (lastF_le _ _ _)) hlt (fun i hi => ?_)
  rw [bitA_ofBits _ (lastF_le _ _ _) i hi]
  exact if_neg (by omega)
theorem last_one (bs : List Nat) (n k : Nat) (hk : k < 128) (h : n ≤ k) : setB (lastL bs n k) k = lastL bs n (k + 1) :=
  bits_ext (by rw [setB_len, lastL_len]) (lastL_len _ _ _) (setB_lt (lastL_lt _ _ _) _) (lastL_lt _ _ _) (fun i hi => by
    rw [bitA_setB (lastL_len _ _ _) (lastL_lt _ _ _) k i hk hi]
    unfold lastL
    rw [bitA_ofBits _ (lastF_le _ _ _) i hi, bitA_ofBits _ (lastF_le _ _ _) i hi]
    unfold lastF
    by_cases e : i = k
    · subst e; rw [if_pos rfl, if_pos (by omega)]
    · rw [if_neg e]
      by_cases h1 : n ≤ i ∧ i < k
      · rw [if_pos h1, if_pos (by omega)]
      · rw [if_neg h1, if_neg (by omega)])
theorem last_none (bs : List Nat) (n k : Nat) (h : ¬ n ≤ k) : lastL bs n k = lastL bs n (k + 1) :=
  ofBits_congr (lastF_le _ _ _) (lastF_le _ _ _) (fun i hi => by
    have h1 : lastF bs n k i = bitA bs i := if_neg (by omega)
    have h2 : lastF bs n (k + 1) i = bitA bs i := if_neg (by omega)
    rw [h1, h2])
/-- Bytes that are told bit by bit. -/
def partL (β : Nat → Nat) (k : Nat) : List Nat := (List.range 16).map fun q => octOf β q / 2 ^ (8 - min 8 (k - 8 * q))
theorem partL_len (β : Nat → Nat) (k : Nat) : (partL β k).length = 16 := by simp [partL]
theorem partL_getD (β : Nat → Nat) (k q : Nat) (hq : q < 16) : (partL β k).getD q 0 = octOf β q / 2 ^ (8 - min 8 (k - 8 * q)) := map_range_getD _ _ _ hq
theorem partL_zero (β : Nat → Nat) (h : ∀ i, β i ≤ 1) : partL β 0 = List.replicate 16 0 := by
  refine getD_ext (by rw [partL_len]; simp) (fun q hq => ?_)
  rw [partL_len] at hq
  rw [partL_getD β 0 q hq, List.getD_eq_getElem?_getD, List.getElem?_replicate, if_pos hq, show 8 - min 8 (0 - 8 * q) = 8 by omega]
  exact Nat.div_eq_of_lt (octOf_lt β h q)
theorem half_step (x r : Nat) (hr : r < 8) : x / 2 ^ (8 - (r + 1)) = x / 2 ^ (8 - r) * 2 + x / 2 ^ (7 - r) % 2 := by
  rw [show 8 - (r + 1) = 7 - r by omega, show 8 - r = (7 - r) + 1 by omega, Nat.pow_succ, ← Nat.div_div_eq_div_mul]
  omega
theorem partL_step (β : Nat → Nat) (h : ∀ i, β i ≤ 1) (k : Nat) (hk : k < 128) : (partL β k).set (k / 8) ((partL β k).getD (k / 8) 0 * 2 + β k) = partL β (k + 1) := by
  refine getD_ext (by rw [List.length_set, partL_len, partL_len]) (fun q hq => ?_)
  rw [List.length_set, partL_len] at hq
  rw [getD_set _ _ _ _ (by rw [partL_len]; omega), partL_getD β (k + 1) q hq]
  by_cases e : q = k / 8
  · rw [if_pos e, partL_getD β k _ (by omega), ← e]
    have h1 := half_step (octOf β q) (k % 8) (by omega)
    rw [octOf_bit β h q _ (by omega), show 8 * q + k % 8 = k by omega] at h1
    rw [show 8 - min 8 (k + 1 - 8 * q) = 8 - (k % 8 + 1) by omega, h1, show 8 - min 8 (k - 8 * q) = 8 - k % 8 by omega]
  · rw [if_neg e, partL_getD β k q hq]
    congr 2
    omega
theorem partL_lt (β : Nat → Nat) (h : ∀ i, β i ≤ 1) (k : Nat) (hk : k < 128) : (partL β k).getD (k / 8) 0 < 128 := by
  rw [partL_getD β k _ (by omega), show 8 - min 8 (k - 8 * (k / 8)) = 8 - k % 8 by omega]
  have h1 := octOf_lt β h (k / 8)
  refine Nat.div_lt_of_lt_mul (Nat.lt_of_lt_of_le h1 ?_)
  have : 2 ^ 1 ≤ 2 ^ (8 - k % 8) := Nat.pow_le_pow_right (by decide) (by omega)
  omega
theorem partL_end (f : Int) (β : Nat → Nat) (h : ∀ i, bitsN f ≤ i → β i = 0) : partL β (bitsN f) = ofBits β := by
  refine getD_ext (by rw [partL_len, ofBits_len]) (fun q hq => ?_)
  rw [partL_len] at hq
  rw [partL_getD β _ q hq, ofBits_getD β q hq]
  have hz : bitsN f ≤ 8 * q → octOf β q = 0 := fun hN => by
    unfold octOf
    rw [h _ (by omega), h _ (by omega), h _ (by omega), h _ (by omega), h _ (by omega), h _ (by omega), h _ (by omega), h _ (by omega)]
  by_cases hN : bitsN f ≤ 8 * q
  · rw [hz hN, Nat.zero_div]
  · have : 8 ≤ bitsN f - 8 * q := by rcases bitsN_cases f with ⟨_, e⟩ | ⟨_, e⟩ | ⟨_, _, e⟩ <;> rw [e] at hN ⊢ <;> omega
    rw [show 8 - min 8 (bitsN f - 8 * q) = 0 by omega, Nat.pow_zero, Nat.div_one]
end Go.Proofs.YtgbajagacmfcmaaGreatDoor
/- What a walk holds in a region that draws its order: ranges of cells, and that nothing older has turned. -/
namespace Go.Proofs.YtgbajagacmfcmaaGreatDoor
open Go.RowKit
set_option linter.unusedVariables false
set_option maxRecDepth 20000

/-- The ranges of L lie there; all that lay below W is as it was. -/
def HeldR (L : List (Nat × Nat × List Value)) (W w : World) : Prop := (∀ x ∈ L, w.rangeAt x.1 x.2.1 x.2.2 ∧ x.1 < w.heap.size) ∧ Below W.heap.size W w
section
variable {L : List (Nat × Nat × List Value)} {W w w' : World} {b o : Nat} {cs : List Value}
theorem HeldR.get (h : HeldR L W w) (hm : (b, o, cs) ∈ L) : w.rangeAt b o cs := (h.1 _ hm).1
theorem HeldR.cell (h : HeldR L W w) (hm : (b, o, cs) ∈ L) (j : Nat) (v : Value) (hv : cs[j]? = some v) : w.cell? ⟨b, o + j, none⟩ = some v := (h.1 _ hm).1 j v hv
theorem HeldR.bel (h : HeldR L W w) : Below W.heap.size W w := h.2
theorem HeldR.next (h : HeldR L W w) (hb : Below w.heap.size w w') : HeldR L W w' := by
  refine ⟨fun x hx => ?_, chain h.2 hb⟩
  obtain ⟨h1, h2⟩ := h.1 x hx
  refine ⟨fun j v hv => ?_, Nat.lt_of_lt_of_le h2 hb.size⟩
  rw [hb.cell (p := ⟨x.1, x.2.1 + j, none⟩) h2]
  exact h1 j v hv
theorem HeldR.drew (h : HeldR L W w) : HeldR L W w.drew := h.next (Below.refl _ _).drew
theorem HeldR.nil (h : Below W.heap.size W w) : HeldR [] W w := ⟨(fun x hx => by cases hx), h⟩
theorem HeldR.cons (h : HeldR L W w) (hr : w.rangeAt b o cs) (hb : b < w.heap.size) : HeldR ((b, o, cs) :: L) W w :=
  ⟨fun x hx => by
    rcases List.mem_cons.1 hx with rfl | hx
    · exact ⟨hr, hb⟩
    · exact h.1 x hx, h.2⟩
theorem Calls.heldR {P : Program} {f : FuncId} {args : Array Value} {v : Value} (hc : Calls P f args w fun e w' => e = .returned v ∧ Below w.heap.size w w') (h : HeldR L W w) :
    Calls P f args w fun e w' => e = .returned v ∧ HeldR L W w' :=
  hc.mono fun _ _ ⟨he, hb⟩ => ⟨he, h.next hb⟩
/-- A cell that lies in one of the ranges. -/
def CellR (L : List (Nat × Nat × List Value)) (W : World) (b o : Nat) (v : Value) : Prop := ∀ w, HeldR L W w → w.cell? ⟨b, o, none⟩ = some v
end
/-- A guarded or plain load of a whole row, in a plain region. -/
theorem wpList_load_row {P : Program} {ops : Array Oper} {rest : List Oper} {op : Oper} {a : Act} {w : World} {Q : Exit → Act → World → Prop} (hw : Region.wanted op (yielded ops a.tmps) = true) (ty : TypeId) (x : Operand) (ho : op.op = .load ty x)
    (b o : Nat) (hx : a.eval x = .pointer (some ⟨b, o, none⟩)) (cs : List Value) (d : TypeDesc) (hc : w.rangeAt b o cs)
    (hu : P.underlying ty = some d) (hd : d.isRow = true) (hi : (P.info? ty).map (·.size) = some cs.length)
    (h : wpList P ops Q rest (a.put op.dst (.agg cs.toArray)) w) : wpList P ops Q (op :: rest) a w := by
  simp only [wpList, hw, if_true]
  exact .inl (wp_load_mid ty x ho b o hx cs d hc hu hd hi h)
end Go.Proofs.YtgbajagacmfcmaaGreatDoor
/- An address that comes in, boxed; one of zeros. -/
namespace Go.Proofs.YtgbajagacmfcmaaGreatDoor
open Go.RowKit
set_option linter.unusedVariables false
set_option maxRecDepth 20000

/-- The cells of an address of zeros. -/
abbrev zA : Array Value := #[.int .i64 0, .int .u8 0, .int .u8 0, .int .u8 0, .int .u8 0, .int .u8 0, .int .u8 0, .int .u8 0, .int .u8 0, .int .u8 0, .int .u8 0, .int .u8 0, .int .u8 0, .int .u8 0, .int .u8 0, .int .u8 0, .int .u8 0]
theorem addr_boxed (f : Int) (bs : List Nat) (w : World) (h16 : bs.length = 16) :
    ∃ cs : Array Value, addrV f bs = .agg cs ∧ Hid (AddrAt (w.alloc (.cells cs 24)) w.heap.size f bs) ∧ Hid (Below w.heap.size w (w.alloc (.cells cs 24))) :=
  ⟨_, rfl, Lib.hid (AddrAt.of w _ _ f bs h16 rfl), Lib.hid ((Below.refl _ _).alloc (Nat.le_refl _) _)⟩
theorem addr_zeroed (w : World) : AddrAt (w.alloc (.cells zA 24)) w.heap.size 0 (List.replicate 16 0) := AddrAt.of w _ _ 0 _ rfl rfl
theorem heap_alloc (w : World) (b : Obj) : (w.alloc b).heap.size = w.heap.size + 1 := by simp
theorem AddrAt.alloc {w : World} {G : Nat} {f : Int} {bs : List Nat} (h : AddrAt w G f bs) (b : Obj) : AddrAt (w.alloc b) G f bs := h.below ((Below.refl _ _).alloc (Nat.le_refl _) _)
end Go.Proofs.YtgbajagacmfcmaaGreatDoor
/- Addresses that a walk holds; loads of them, guarded or not, and of their bytes alone; sixteen bytes stored whole. -/
namespace Go.Proofs.YtgbajagacmfcmaaGreatDoor
open Go.RowKit
set_option linter.unusedVariables false
set_option maxRecDepth 20000

theorem HeldR.addr {L : List (Nat × Nat × List Value)} {W w : World} {G : Nat} {f : Int} {bs : List Nat} (h : HeldR L W w) (hA : AddrAt w G f bs) : HeldR ((G, 0, addrL f bs) :: L) W w := h.cons hA.range hA.lt
/-- An address of the list. -/
def InA (L : List (Nat × Nat × List Value)) (G : Nat) (f : Int) (bs : List Nat) : Prop := (G, 0, addrL f bs) ∈ L ∧ bs.length = 16
theorem yields_addr {ops : Array Oper} {op : Oper} {a : Act} {L : List (Nat × Nat × List Value)} {W : World} {G : Nat} {f : Int} {bs : List Nat} (hm : Hid (InA L G f bs)) (hw : Region.wanted op (yielded ops a.tmps) = true) (x : Operand) (ho : op.op = .load 24 x)
    (hx : a.eval x = .pointer (some ⟨G, 0, none⟩)) : YieldsIf Tryz.prog ops (HeldR L W) op (addrV f bs) a :=
  yieldsIf_load_mid hw 24 x ho G 0 hx (addrL f bs) _ (fun _ h => h.get hm.out.1) Tryz.underlying24 rfl (by rw [addr_size, addrL_len f bs hm.out.2])
theorem famR {L : List (Nat × Nat × List Value)} {G : Nat} {f : Int} {bs : List Nat} (h : InA L G f bs) (W : World) : CellR L W G 0 (.int .i64 f) := fun w hw => hw.cell h.1 0 _ rfl
/-- An address, loaded whole, guarded or not. -/
theorem load_addr_g {ops : Array Oper} {rest : List Oper} {op : Oper} {a : Act} {w : World} {Q : Exit → Act → World → Prop} {G : Nat} {f : Int} {bs : List Nat} (hA : Hid (AddrAt w G f bs)) (x : Operand) (hw : Region.wanted op (yielded ops a.tmps) = true) (ho : op.op = .load 24 x)
    (hx : a.eval x = .pointer (some ⟨G, 0, none⟩)) (h : wpList Tryz.prog ops Q rest (a.put op.dst (addrV f bs)) w) : wpList Tryz.prog ops Q (op :: rest) a w :=
  wpList_load_row hw 24 x ho G 0 hx (addrL f bs) _ hA.out.range Tryz.underlying24 rfl (by rw [addr_size, addrL_len f bs hA.out.len]) h
theorem drewN_below (w : World) (q : Nat) : Below w.heap.size w (w.drewN q) := ⟨rfl, rfl, rfl, Nat.le_refl _, fun _ _ => rfl⟩
theorem arr16_size : (Tryz.prog.info? 22).map (·.size) = some 16 := by kernel_rfl
/-- Sixteen bytes that lie somewhere. -/
structure B16 (w : World) (G o : Nat) (bs : List Nat) : Prop where
  len : bs.length = 16
  lt : G < w.heap.size
  range : w.rangeAt G o (bs.map fun n => Value.int .u8 ((n : Nat) : Int))
  there : w.there G o 16
theorem AddrAt.b16 {w : World} {G : Nat} {f : Int} {bs : List Nat} (h : AddrAt w G f bs) : B16 w G 1 bs := by
  refine ⟨h.len, h.lt, ?_, fun j hj => ?_⟩
  · intro j v hv
    have := h.range (j + 1) v (by rw [addrL, List.getElem?_cons_succ]; exact hv)
    rw [Nat.zero_add, Nat.add_comm] at this
    exact this
  · have := h.there (1 + j) (by omega)
    rw [Nat.zero_add] at this
    exact this
theorem B16.below {w w' : World} {G o : Nat} {bs : List Nat} (h : B16 w G o bs) (hb : Below w.heap.size w w') : B16 w' G o bs :=
  ⟨h.len, Nat.lt_of_lt_of_le h.lt hb.size, fun j v hv => by rw [hb.cell (p := ⟨G, o + j, none⟩) h.lt]; exact h.range j v hv, fun j hj => by
    rw [hb.cell (p := ⟨G, o + j, none⟩) h.lt, hb.frozen (p := ⟨G, o + j, none⟩) h.lt]
    exact h.there j hj⟩
/-- Sixteen bytes, loaded whole, guarded or not. -/
theorem load_b16 {ops : Array Oper} {rest : List Oper} {op : Oper} {a : Act} {w : World} {Q : Exit → Act → World → Prop} {G o : Nat} {bs : List Nat} (hA : Hid (B16 w G o bs)) (x : Operand) (hw : Region.wanted op (yielded ops a.tmps) = true) (ho : op.op = .load 22 x)
    (hx : a.eval x = .pointer (some ⟨G, o, none⟩)) (h : wpList Tryz.prog ops Q rest (a.put op.dst (arr16 bs)) w) : wpList Tryz.prog ops Q (op :: rest) a w :=
  wpList_load_row hw 22 x ho G o hx _ _ hA.out.range Tryz.underlying22 rfl (by rw [arr16_size, List.length_map, hA.out.len]) h
/-- Sixteen bytes, stored whole. -/
theorem store_b16 {ops : Array Oper} {rest : List Oper} {op : Oper} {a : Act} {w : World} {Q : Exit → Act → World → Prop} {G o : Nat} {bs0 : List Nat} (hA : Hid (B16 w G o bs0)) (x y : Operand) {bs : List Nat} (hl : Hid (bs.length = 16)) (hgd : op.guard = none) (ho : op.op = .store 22 x y)
    (hx : a.eval x = .pointer (some ⟨G, o, none⟩)) (hy : a.eval y = arr16 bs) (h : ∀ W, Hid (W = w.setCells G o (bs.map fun n => Value.int .u8 ((n : Nat) : Int))) → Hid (B16 W G o bs) → wpList Tryz.prog ops Q rest (a.put op.dst undef) W) : wpList Tryz.prog ops Q (op :: rest) a w := by
  have e1 : (bs.map fun n => Value.int .u8 ((n : Nat) : Int)).length = 16 := by rw [List.length_map, hl.out]
  refine wpList_store_mid hgd 22 x y ho G o (bs.map fun n => Value.int .u8 ((n : Nat) : Int)).toArray hx hy (by rw [List.size_toArray, e1]; exact hA.out.there) (by rw [arr16_size, List.size_toArray, e1]) (all_oneCell_toArray (fun v hv => by obtain ⟨n, _, rfl⟩ := List.mem_map.1 hv; rfl)) (h _ (Lib.hid rfl) (Lib.hid ⟨hl.out, by rw [size_setCells]; exact hA.out.lt, World.rangeAt_setCells_same _ _ _ _ (by rw [e1]; exact hA.out.there), World.there_setCells hA.out.there _ _ _⟩))
/-- Sixteen bytes, given back out of their cells. -/
theorem results_b16 {fn : Func} {a : Tmp} {tmps : Array Value} {W : World} {R : Nat} {bs : List Nat} (h : fn.results = #[.cell a 22]) (ha : tmps.getD a undef = .pointer (some ⟨R, 0, none⟩)) (hA : B16 W R 0 bs) : (results fn tmps).run Tryz.prog W = .ok (arr16 bs) W := by
  have hl : (loadVar 22 ⟨R, 0, none⟩).run Tryz.prog W = .ok (arr16 bs) W :=
    run_loadVar_mid W R 0 22 _ _ hA.range Tryz.underlying22 rfl (by rw [arr16_size, List.length_map, hA.len])
  rw [Array.getD_eq_getD_getElem?] at ha
  simp [results, h, ha, asAddr, hl]
/-- The cells of sixteen zeros. -/
abbrev z16 : Array Value := #[.int .u8 0, .int .u8 0, .int .u8 0, .int .u8 0, .int .u8 0, .int .u8 0, .int .u8 0, .int .u8 0, .int .u8 0, .int .u8 0, .int .u8 0, .int .u8 0, .int .u8 0, .int .u8 0, .int .u8 0, .int .u8 0]
theorem b16_new (w : World) (t : TypeId) (cs : Array Value) (bs : List Nat) (hl : bs.length = 16) (h : cs.toList = bs.map fun n => Value.int .u8 ((n : Nat) : Int)) : B16 (w.alloc (.cells cs t)) w.heap.size 0 bs := by
  have e : ∀ j, cs[j]? = (bs.map fun n => Value.int .u8 ((n : Nat) : Int))[j]? := fun j => by rw [← h, Array.getElem?_toList]
  refine ⟨hl, by simp, fun j v hv => ?_, fun j hj => ⟨?_, World.frozen?_alloc_new _ _ _ _⟩⟩
  · rw [World.cell?_alloc_new, Nat.zero_add, e]; exact hv
  · rw [World.cell?_alloc_new, Nat.zero_add, e, List.getElem?_map, List.getElem?_eq_getElem (by omega)]; rfl
/-- Sixteen bytes of the list. -/
def InB (L : List (Nat × Nat × List Value)) (G o : Nat) (bs : List Nat) : Prop := (G, o, bs.map fun n => Value.int .u8 ((n : Nat) : Int)) ∈ L ∧ bs.length = 16
theorem yields_b16 {ops : Array Oper} {op : Oper} {a : Act} {L : List (Nat × Nat × List Value)} {W : World} {G o : Nat} {bs : List Nat} (hm : Hid (InB L G o bs)) (hw : Region.wanted op (yielded ops a.tmps) = true) (x : Operand) (ho : op.op = .load 22 x)
    (hx : a.eval x = .pointer (some ⟨G, o, none⟩)) : YieldsIf Tryz.prog ops (HeldR L W) op (arr16 bs) a :=
  yieldsIf_load_mid hw 22 x ho G o hx _ _ (fun _ h => h.get hm.out.1) Tryz.underlying22 rfl (by rw [arr16_size, List.length_map, hm.out.2])
end Go.Proofs.YtgbajagacmfcmaaGreatDoor
/- Two arrays of integers, held against each other: they are equal, if all their numbers are. -/
namespace Go.Proofs.YtgbajagacmfcmaaGreatDoor
open Go.RowKit
set_option linter.unusedVariables false
set_option maxRecDepth 20000

theorem run_eqItems_ints (W : World) (d : Nat) {e : TypeId} {k : IntKind} (he : Tryz.prog.plainKey e = true) (hu : Tryz.prog.underlying e = some (.int k)) (zs ys : List Int) : ∀ (is : List Nat), (∀ i ∈ is, i < zs.length ∧ i < ys.length) →
    (Op.eqItems (d + 1) e 1 (zs.map (Value.int k)).toArray (ys.map (Value.int k)).toArray is).run Tryz.prog W = .ok (is.all fun i => zs.getD i 0 == ys.getD i 0) W
  | [], _ => by simp [Op.eqItems]
  | i :: is, h => by
    have hi := h i (by simp)
    have p1 : (part e (zs.map (Value.int k)).toArray (i * 1)).run Tryz.prog W = .ok (.int k (zs.getD i 0)) W := run_part_plain W he (by simp [hi.1])
    have p2 : (part e (ys.map (Value.int k)).toArray (i * 1)).run Tryz.prog W = .ok (.int k (ys.getD i 0)) W := run_part_plain W he (by simp [hi.2])
    have p3 := run_equalIn_int (P := Tryz.prog) W d e k k (zs.getD i 0) (ys.getD i 0) hu
    have ih := run_eqItems_ints W d he hu zs ys is (fun j hj => h j (by simp [hj]))
    simp only [Op.eqItems, Sem.run_bind, p1, p2, p3, Result.andThen_ok, List.all_cons]
    cases zs.getD i 0 == ys.getD i 0 with
    | false => simp
    | true => simpa using ih
theorem run_eq_ints (W : World) {t e : TypeId} {n : Nat} {k : IntKind} {i : TypeInfo} (ht : Tryz.prog.underlying t = some (.array n e)) (he : Tryz.prog.plainKey e = true) (hu : Tryz.prog.underlying e = some (.int k)) (hi : Tryz.prog.info? e = some i) (hc : Tryz.prog.cellsOf e = 1)
    (zs ys : List Int) (hz : zs.length = n) (hy : ys.length = n) :
    (Op.equalIn 10000 t (.agg (zs.map (Value.int k)).toArray) (.agg (ys.map (Value.int k)).toArray)).run Tryz.prog W = .ok (decide (zs = ys)) W := by
  rw [run_equalIn_array W 9999 _ _ ht hi, hc, run_eqItems_ints W 9998 he hu zs ys _ (fun j hj => by rw [List.mem_range] at hj; omega)]
  congr 1
  rw [Bool.eq_iff_iff]
  simp only [List.all_eq_true, List.mem_range, beq_iff_eq, decide_eq_true_eq]
  constructor
  · intro h
    apply List.ext_getElem (by omega)
    intro j h1 h2
    have := h j (by omega)
    rw [List.getD_eq_getElem?_getD, List.getD_eq_getElem?_getD, List.getElem?_eq_getElem h1, List.getElem?_eq_getElem h2] at this
    exact this
  · intro h j _
    rw [h]
theorem eq4_true (a b c d : Nat) (W : World) : (Op.equalIn 10000 75 (.agg #[.int .u8 (a : Int), .int .u8 (b : Int), .int .u8 (c : Int), .int .u8 (d : Int)]) (.agg #[.int .u8 (a : Int), .int .u8 (b : Int), .int .u8 (c : Int), .int .u8 (d : Int)])).run Tryz.prog W = .ok true W := by
  obtain ⟨i, hi⟩ : ∃ i, Tryz.prog.info? 5 = some i := ⟨_, rfl⟩
  have := run_eq_ints W (k := .u8) Tryz.underlying75 (by kernel_rfl) Tryz.underlying5 hi (by kernel_rfl) [(a : Int), b, c, d] [(a : Int), b, c, d] rfl rfl
  rw [show decide ([(a : Int), b, c, d] = [(a : Int), b, c, d]) = true by simp] at this
  exact this
theorem eq4_false (a b c d a' b' c' d' : Nat) (h : ¬ (a = a' ∧ b = b' ∧ c = c' ∧ d = d')) (W : World) : (Op.equalIn 10000 75 (.agg #[.int .u8 (a : Int), .int .u8 (b : Int), .int .u8 (c : Int), .int .u8 (d : Int)]) (.agg #[.int .u8 (a' : Int), .int .u8 (b' : Int), .int .u8 (c' : Int), .int .u8 (d' : Int)])).run Tryz.prog W = .ok false W := by
  obtain ⟨i, hi⟩ : ∃ i, Tryz.prog.info? 5 = some i := ⟨_, rfl⟩
  have := run_eq_ints W (k := .u8) Tryz.underlying75 (by kernel_rfl) Tryz.underlying5 hi (by kernel_rfl) [(a : Int), b, c, d] [(a' : Int), b', c', d'] rfl rfl
  rw [show decide ([(a : Int), b, c, d] = [(a' : Int), b', c', d']) = false by
    rw [decide_eq_false_iff_not]
    intro e
    simp only [List.cons.injEq, Int.natCast_inj, and_true] at e
    exact h e] at this
  exact this
theorem eq8_true (x0 x1 x2 x3 x4 x5 x6 x7 : Nat) (W : World) : (Op.equalIn 10000 79 (.agg #[.int .u16 (x0 : Int), .int .u16 (x1 : Int), .int .u16 (x2 : Int), .int .u16 (x3 : Int), .int .u16 (x4 : Int), .int .u16 (x5 : Int), .int .u16 (x6 : Int), .int .u16 (x7 : Int)]) (.agg #[.int .u16 (x0 : Int), .int .u16 (x1 : Int), .int .u16 (x2 : Int), .int .u16 (x3 : Int), .int .u16 (x4 : Int), .int .u16 (x5 : Int), .int .u16 (x6 : Int), .int .u16 (x7 : Int)])).run Tryz.prog W = .ok true W := by
  obtain ⟨i, hi⟩ : ∃ i, Tryz.prog.info? 78 = some i := ⟨_, rfl⟩
  have := run_eq_ints W (k := .u16) Tryz.underlying79 (by kernel_rfl) Tryz.underlying78 hi (by kernel_rfl) [(x0 : Int), x1, x2, x3, x4, x5, x6, x7] [(x0 : Int), x1, x2, x3, x4, x5, x6, x7] rfl rfl
  rw [show decide ([(x0 : Int), x1, x2, x3, x4, x5, x6, x7] = [(x0 : Int), x1, x2, x3, x4, x5, x6, x7]) = true by simp] at this
  exact this
end Go.Proofs.YtgbajagacmfcmaaGreatDoor
/- Two addresses, held against each other: they are equal, if their families are and all their bytes. -/
namespace Go.Proofs.YtgbajagacmfcmaaGreatDoor
open Go.RowKit
set_option linter.unusedVariables false
set_option maxRecDepth 20000

theorem run_eq_ints_at (d : Nat) (W : World) {t e : TypeId} {n : Nat} {k : IntKind} {i : TypeInfo} (ht : Tryz.prog.underlying t = some (.array n e)) (he : Tryz.prog.plainKey e = true) (hu : Tryz.prog.underlying e = some (.int k)) (hi : Tryz.prog.info? e = some i) (hc : Tryz.prog.cellsOf e = 1)
    (zs ys : List Int) (hz : zs.length = n) (hy : ys.length = n) :
    (Op.equalIn (d + 2) t (.agg (zs.map (Value.int k)).toArray) (.agg (ys.map (Value.int k)).toArray)).run Tryz.prog W = .ok (decide (zs = ys)) W := by
  rw [run_equalIn_array W (d + 1) _ _ ht hi, hc, run_eqItems_ints W d he hu zs ys _ (fun j hj => by rw [List.mem_range] at hj; omega)]
  congr 1
  rw [Bool.eq_iff_iff]
  simp only [List.all_eq_true, List.mem_range, beq_iff_eq, decide_eq_true_eq]
  constructor
  · intro h
    apply List.ext_getElem (by omega)
    intro j h1 h2
    have := h j (by omega)
    rw [List.getD_eq_getElem?_getD, List.getD_eq_getElem?_getD, List.getElem?_eq_getElem h1, List.getElem?_eq_getElem h2] at this
    exact this
  · intro h j _
    rw [h]
theorem bytes_of (xs : List Nat) : (xs.map fun n => Value.int .u8 ((n : Nat) : Int)) = (xs.map fun n : Nat => (n : Int)).map (Value.int .u8) := by simp
theorem casts_inj {xs ys : List Nat} : (xs.map fun n : Nat => (n : Int)) = (ys.map fun n : Nat => (n : Int)) ↔ xs = ys := by
  constructor
  · intro h
    exact List.map_inj_right (fun _ _ e => by exact_mod_cast e) |>.1 h
  · rintro rfl; rfl
theorem part_bytes (W : World) (f : Int) (xs : List Nat) (hx : xs.length = 16) : (part 22 (Value.int .i64 f :: xs.map fun n => Value.int .u8 ((n : Nat) : Int)).toArray 1).run Tryz.prog W = .ok (.agg (xs.map fun n => Value.int .u8 ((n : Nat) : Int)).toArray) W := by
  obtain ⟨i, hi, hs⟩ : ∃ i, Tryz.prog.info? 22 = some i ∧ i.size = 16 := ⟨_, rfl, by kernel_rfl⟩
  have h2 : (isAgg 22).run Tryz.prog W = .ok true W := by
    unfold isAgg
    rw [Sem.run_bind, run_underlying Tryz.underlying22 W]
    simp
  have h3 : (sizeOf 22).run Tryz.prog W = .ok 16 W := by simp [sizeOf, typeInfo, hi, hs]
  simp only [part, Sem.run_bind, h2, Result.andThen_ok, if_true, h3, Sem.run_pure]
  congr 2
  apply Array.ext'
  simp
  exact List.take_of_length_le (by rw [List.length_map, hx]; exact Nat.le_refl _)
theorem plainK_int : Tryz.prog.plainKey 3 = true := by kernel_rfl
theorem plainK_u8 : Tryz.prog.plainKey 5 = true := by kernel_rfl
theorem cells_u8 : Tryz.prog.cellsOf 5 = 1 := by kernel_rfl
theorem addr_fields : Tryz.prog.fieldsOf 24 = #[{ name := "Fam", type := 3, offset := 0, embedded := false, tag := "", pkgPath := "", byteOffset := 0 }, { name := "B", type := 22, offset := 1, embedded := false, tag := "", pkgPath := "", byteOffset := 8 }] := by simp only [Program.fieldsOf, Tryz.underlying24]
theorem nm1 : ("Fam" = "_") = False := by simp
theorem nm2 : ("B" = "_") = False := by simp
theorem st (d : Nat) (xs ys : Array Value) (W : World) : (Op.equalIn (d + 3) 24 (.agg xs) (.agg ys)).run Tryz.prog W = (Op.eqFields (d + 2) xs ys (Tryz.prog.fieldsOf 24).toList).run Tryz.prog W :=
  run_equalIn_struct W (d + 2) _ _ _ (by rw [addr_fields]; exact Tryz.underlying24) Tryz.stoodInHeld24
theorem part_fam (W : World) (f : Int) (xs : List Nat) : (part 3 (Value.int .i64 f :: xs.map fun n => Value.int .u8 ((n : Nat) : Int)).toArray 0).run Tryz.prog W = .ok (.int .i64 f) W := run_part_plain W plainK_int (by simp)
theorem eq_fam (d : Nat) (f g : Int) (W : World) : (Op.equalIn (d + 2) 3 (.int .i64 f) (.int .i64 g)).run Tryz.prog W = .ok (f == g) W := run_equalIn_int (P := Tryz.prog) W (d + 1) 3 .i64 .i64 f g Tryz.underlying3
theorem eq_arr16 (d : Nat) (xs ys : List Nat) (W : World) (hx : xs.length = 16) (hy : ys.length = 16) : (Op.equalIn (d + 2) 22 (.agg (xs.map fun n => Value.int .u8 ((n : Nat) : Int)).toArray) (.agg (ys.map fun n => Value.int .u8 ((n : Nat) : Int)).toArray)).run Tryz.prog W = .ok (decide (xs = ys)) W := by
  obtain ⟨i, hi⟩ : ∃ i, Tryz.prog.info? 5 = some i := ⟨_, rfl⟩
  have p6 := run_eq_ints_at d W (k := .u8) Tryz.underlying22 plainK_u8 Tryz.underlying5 hi cells_u8 (xs.map fun n : Nat => (n : Int)) (ys.map fun n : Nat => (n : Int)) (by simpa using hx) (by simpa using hy)
  rw [← bytes_of, ← bytes_of, show decide ((xs.map fun n : Nat => (n : Int)) = (ys.map fun n : Nat => (n : Int))) = decide (xs = ys) from decide_eq_decide.2 casts_inj] at p6
  exact p6
theorem two_fields (P : Program) (W : World) (D : Nat) (X Y : Array Value) (t1 t2 : TypeId) (a1 b1 a2 b2 : Value) (r1 r2 : Bool)
    (h1 : (part t1 X 0).run P W = .ok a1 W) (h2 : (part t1 Y 0).run P W = .ok b1 W) (h3 : (Op.equalIn D t1 a1 b1).run P W = .ok r1 W)
    (h4 : (part t2 X 1).run P W = .ok a2 W) (h5 : (part t2 Y 1).run P W = .ok b2 W) (h6 : (Op.equalIn D t2 a2 b2).run P W = .ok r2 W) :
    (Op.eqFields D X Y [{ name := "Fam", type := t1, offset := 0, embedded := false, tag := "", pkgPath := "", byteOffset := 0 }, { name := "B", type := t2, offset := 1, embedded := false, tag := "", pkgPath := "", byteOffset := 8 }]).run P W = .ok (r1 && r2) W := by
  simp only [Op.eqFields, ne_eq, nm1, nm2, not_false_eq_true, if_true, Sem.run_bind, h1, h2, h3, Result.andThen_ok, Sem.run_ite, h4, h5, h6, Sem.run_pure]
  cases r1 <;> cases r2 <;> rfl
theorem eq_addr_at (d : Nat) (f g : Int) (xs ys : List Nat) (W : World) (hx : xs.length = 16) (hy : ys.length = 16) : (Op.equalIn (d + 3) 24 (addrV f xs) (addrV g ys)).run Tryz.prog W = .ok (decide (f = g ∧ xs = ys)) W := by
  rw [addrV, addrV, st, addr_fields]
  refine (two_fields Tryz.prog W (d + 2) _ _ 3 22 _ _ _ _ _ _ (part_fam W f xs) (part_fam W g ys) (eq_fam d f g W) (part_bytes W f xs hx) (part_bytes W g ys hy) (eq_arr16 d xs ys W hx hy)).trans ?_
  congr 1
  by_cases h1 : f = g <;> by_cases h2 : xs = ys <;> simp [h1, h2]
theorem eq_addr (f g : Int) (xs ys : List Nat) (W : World) (hx : xs.length = 16) (hy : ys.length = 16) : (Op.equalIn 10000 24 (addrV f xs) (addrV g ys)).run Tryz.prog W = .ok (decide (f = g ∧ xs = ys)) W :=
  eq_addr_at 9997 f g xs ys W hx hy
end Go.Proofs.YtgbajagacmfcmaaGreatDoor
/- Two addresses held against each other, as a walk meets it. -/
namespace Go.Proofs.YtgbajagacmfcmaaGreatDoor
open Go.RowKit
set_option linter.unusedVariables false
set_option maxRecDepth 20000

/-- No interface lies inside an address. -/
theorem guard_addr (op : BinOp) (x y : Operand) (f g : Int) (xs ys : List Nat) (W : World) : (eqGuard op 24 x y (addrV f xs) (addrV g ys)).run Tryz.prog W = .ok () W := run_eqGuard_agg _ _ _ _ _ _ _ Tryz.eqGuardType24
theorem guard_zero (op : BinOp) (x y : Operand) (f : Int) (xs : List Nat) (W : World) : (eqGuard op 24 x y (addrV f xs) (.agg zA)).run Tryz.prog W = .ok () W := run_eqGuard_agg _ _ _ _ _ _ _ Tryz.eqGuardType24
theorem guard_arr16 (op : BinOp) (x y : Operand) (xs ys : List Nat) (W : World) : (eqGuard op 22 x y (arr16 xs) (arr16 ys)).run Tryz.prog W = .ok () W := run_eqGuard_agg _ _ _ _ _ _ _ Tryz.eqGuardType22
theorem run_eq_addr (f g : Int) (xs ys : List Nat) (W : World) (hx : xs.length = 16) (hy : ys.length = 16) : (binOp .eql 24 (addrV f xs) (addrV g ys)).run Tryz.prog W = .ok (.bool (decide (f = g ∧ xs = ys))) W := by
  have h := eq_addr f g xs ys W hx hy
  unfold addrV at h ⊢
  rw [run_eql_struct, h]
  rfl
theorem run_neq_addr (f g : Int) (xs ys : List Nat) (W : World) (hx : xs.length = 16) (hy : ys.length = 16) : (binOp .neq 24 (addrV f xs) (addrV g ys)).run Tryz.prog W = .ok (.bool (!decide (f = g ∧ xs = ys))) W := by
  have h := eq_addr f g xs ys W hx hy
  unfold addrV at h ⊢
  rw [run_neq_struct, h]
  rfl
theorem run_same_addr (f : Int) (xs : List Nat) (W : World) (hx : xs.length = 16) : (binOp .eql 24 (addrV f xs) (addrV f xs)).run Tryz.prog W = .ok (.bool true) W := by
  rw [run_eq_addr f f xs xs W hx hx, decide_eq_true ⟨rfl, rfl⟩]
theorem run_nsame_addr (f : Int) (xs : List Nat) (W : World) (hx : xs.length = 16) : (binOp .neq 24 (addrV f xs) (addrV f xs)).run Tryz.prog W = .ok (.bool false) W := by
  rw [run_neq_addr f f xs xs W hx hx, decide_eq_true ⟨rfl, rfl⟩]
  rfl
theorem run_zero_addr (f : Int) (xs : List Nat) (W : World) (hx : xs.length = 16) : (binOp .eql 24 (addrV f xs) (.agg zA)).run Tryz.prog W = .ok (.bool (decide (f = 0 ∧ xs = List.replicate 16 0))) W :=
  run_eq_addr f 0 xs (List.replicate 16 0) W hx rfl
theorem run_eq_arr16 (xs ys : List Nat) (W : World) (hx : xs.length = 16) (hy : ys.length = 16) : (binOp .eql 22 (arr16 xs) (arr16 ys)).run Tryz.prog W = .ok (.bool (decide (xs = ys))) W := by
  have h := eq_arr16 9998 xs ys W hx hy
  unfold arr16
  rw [run_eql_struct, h]
  rfl
theorem run_neq_arr16 (xs ys : List Nat) (W : World) (hx : xs.length = 16) (hy : ys.length = 16) : (binOp .neq 22 (arr16 xs) (arr16 ys)).run Tryz.prog W = .ok (.bool (!decide (xs = ys))) W := by
  have h := eq_arr16 9998 xs ys W hx hy
  unfold arr16
  rw [run_neq_struct, h]
  rfl
end Go.Proofs.YtgbajagacmfcmaaGreatDoor
/- A prefix (api.Prefix: an address, and its bits: 18 cells) in memory: read and stored whole, given back, held over calls, held against another one. -/
namespace Go.Proofs.YtgbajagacmfcmaaGreatDoor
open Go.RowKit
set_option linter.unusedVariables false
set_option maxRecDepth 20000

/-- The cells of a prefix. -/
def prefL (f : Int) (bs : List Nat) (n : Int) : List Value := addrL f bs ++ [Value.int .i64 n]
def prefV (f : Int) (bs : List Nat) (n : Int) : Value := .agg (prefL f bs n).toArray
theorem prefL_len (f : Int) (bs : List Nat) (n : Int) (h : bs.length = 16) : (prefL f bs n).length = 18 := by simp [prefL, addrL_len f bs h]
theorem prefL_one (f : Int) (bs : List Nat) (n : Int) : (prefL f bs n).toArray.all (·.oneCell') = true := all_oneCell_toArray fun v hv => by
  rcases List.mem_append.1 hv with hv | hv
  · rcases List.mem_cons.1 hv with rfl | hv
    · rfl
    · obtain ⟨n, _, rfl⟩ := List.mem_map.1 hv
      rfl
  · rw [List.mem_singleton] at hv; rw [hv]; rfl
/-- A prefix lies at G. -/
structure PrefAt (w : World) (G : Nat) (f : Int) (bs : List Nat) (n : Int) : Prop where
  addr : AddrAt w G f bs
  bits : w.cell? ⟨G, 17, none⟩ = some (.int .i64 n)
  live : w.frozen? ⟨G, 17, none⟩ = false
section
variable {w w' : World} {G : Nat} {f : Int} {bs : List Nat} {n : Int}
theorem PrefAt.below (h : PrefAt w G f bs n) (hb : Below w.heap.size w w') : PrefAt w' G f bs n :=
  ⟨h.addr.below hb, by rw [hb.cell (p := ⟨G, 17, none⟩) h.addr.lt]; exact h.bits, by rw [hb.frozen (p := ⟨G, 17, none⟩) h.addr.lt]; exact h.live⟩
theorem PrefAt.alloc (h : PrefAt w G f bs n) (b : Obj) : PrefAt (w.alloc b) G f bs n := h.below ((Below.refl _ _).alloc (Nat.le_refl _) _)
theorem PrefAt.range (h : PrefAt w G f bs n) : w.rangeAt G 0 (prefL f bs n) := by
  intro j v hv
  have hl := addrL_len f bs h.addr.len
  unfold prefL at hv
  by_cases hj : j < 17
  · rw [List.getElem?_append_left (by omega)] at hv
    exact h.addr.range j v hv
  · rw [List.getElem?_append_right (by omega), hl] at hv
    have e : j = 17 := by
      apply Classical.byContradiction
      intro h2
      rw [List.getElem?_eq_none (by simp; omega)] at hv
      cases hv
    subst e
    rw [Nat.zero_add, h.bits, ← hv]
    rfl
theorem PrefAt.there (h : PrefAt w G f bs n) : w.there G 0 18 := by
  intro j hj
  by_cases h1 : j < 17
  · exact h.addr.there j h1
  · obtain rfl : j = 17 := by omega
    rw [Nat.zero_add]
    exact ⟨by rw [h.bits]; rfl, h.live⟩
theorem PrefAt.ofRange (hl : bs.length = 16) (hlt : G < w.heap.size) (h : w.rangeAt G 0 (prefL f bs n)) (ht : w.there G 0 18) : PrefAt w G f bs n := by
  refine ⟨AddrAt.ofRange hl hlt (fun j v hv => ?_) (fun j hj => ht j (by omega)), ?_, ?_⟩
  · have hj : j < (addrL f bs).length := by
      apply Classical.byContradiction
      intro h2
      rw [List.getElem?_eq_none (by omega)] at hv
      cases hv
    exact h j v (by unfold prefL; rw [List.getElem?_append_left hj]; exact hv)
  · have := h 17 (.int .i64 n) (by unfold prefL; rw [List.getElem?_append_right (by rw [addrL_len f bs hl]; exact Nat.le_refl _), addrL_len f bs hl]; rfl)
    rw [Nat.zero_add] at this
    exact this
  · have := (ht 17 (by decide)).2
    rw [Nat.zero_add] at this
    exact this
theorem PrefAt.stored {f0 : Int} {bs0 : List Nat} {n0 : Int} (h : PrefAt w G f0 bs0 n0) (f : Int) (bs : List Nat) (n : Int) (hl : bs.length = 16) : PrefAt (w.setCells G 0 (prefL f bs n)) G f bs n := by
  have ht : w.there G 0 (prefL f bs n).length := by rw [prefL_len f bs n hl]; exact h.there
  exact PrefAt.ofRange hl (by rw [size_setCells]; exact h.addr.lt) (World.rangeAt_setCells_same w G 0 _ ht) (World.there_setCells h.there G 0 _)
theorem PrefAt.apart (h : PrefAt w G f bs n) {G' o : Nat} (hG : G ≠ G') (vs : List Value) : PrefAt (w.setCells G' o vs) G f bs n :=
  PrefAt.ofRange h.addr.len (by rw [size_setCells]; exact h.addr.lt) (World.rangeAt_setCells_apart h.range _ _ _ (.inl hG)) (World.there_setCells h.there _ _ _)
/-- Its address alone is stored anew. -/
theorem PrefAt.storedAddr (h : PrefAt w G f bs n) (g : Int) (cs : List Nat) (hl : cs.length = 16) : PrefAt (w.setCells G 0 (addrL g cs)) G g cs n := by
  refine ⟨h.addr.stored g cs hl, ?_, ?_⟩
  · have hr : w.rangeAt G 17 [Value.int .i64 n] := by
      intro j v hv
      cases j with
      | zero => rw [Nat.add_zero, h.bits, ← hv]; rfl
      | succ j => simp at hv
    have h2 := World.rangeAt_setCells_apart hr G 0 (addrL g cs) (.inr (.inr (by rw [addrL_len g cs hl]; exact Nat.le_refl _)))
    exact h2 0 _ rfl
  · exact (World.there_setCells h.there G 0 (addrL g cs) 17 (by decide)).2
end
theorem PrefAt.of (w : World) (t : TypeId) (cs : Array Value) (f : Int) (bs : List Nat) (n : Int) (h16 : bs.length = 16) (h : cs.toList = prefL f bs n) : PrefAt (w.alloc (.cells cs t)) w.heap.size f bs n := by
  have e : ∀ j, cs[j]? = (prefL f bs n)[j]? := fun j => by rw [← h, Array.getElem?_toList]
  refine PrefAt.ofRange h16 (by simp) (fun j v hv => ?_) (fun j hj => ⟨?_, World.frozen?_alloc_new _ _ _ _⟩)
  · rw [World.cell?_alloc_new, Nat.zero_add, e]; exact hv
  · rw [World.cell?_alloc_new, Nat.zero_add, e, List.getElem?_eq_getElem (by rw [prefL_len f bs n h16]; exact hj)]; rfl
theorem pref_size : (Tryz.prog.info? 45).map (·.size) = some 18 := by kernel_rfl
/-- A prefix that comes in, boxed. -/
theorem pref_boxed (f : Int) (bs : List Nat) (n : Int) (w : World) (h16 : bs.length = 16) :
    ∃ cs : Array Value, prefV f bs n = .agg cs ∧ Hid (PrefAt (w.alloc (.cells cs 45)) w.heap.size f bs n) ∧ Hid (Below w.heap.size w (w.alloc (.cells cs 45))) :=
  ⟨_, rfl, Lib.hid (PrefAt.of w _ _ f bs n h16 rfl), Lib.hid ((Below.refl _ _).alloc (Nat.le_refl _) _)⟩
/-- The cells of a prefix of zeros. -/
abbrev zP : Array Value := #[.int .i64 0, .int .u8 0, .int .u8 0, .int .u8 0, .int .u8 0, .int .u8 0, .int .u8 0, .int .u8 0, .int .u8 0, .int .u8 0, .int .u8 0, .int .u8 0, .int .u8 0, .int .u8 0, .int .u8 0, .int .u8 0, .int .u8 0, .int .i64 0]
theorem pref_zeroed (w : World) : PrefAt (w.alloc (.cells zP 45)) w.heap.size 0 (List.replicate 16 0) 0 := PrefAt.of w _ _ 0 _ 0 rfl rfl
theorem loadVar_pref {w : World} {G : Nat} {f : Int} {bs : List Nat} {n : Int} (h : PrefAt w G f bs n) : (loadVar 45 ⟨G, 0, none⟩).run Tryz.prog w = .ok (prefV f bs n) w :=
  run_loadVar_mid w G 0 45 (prefL f bs n) _ h.range Tryz.underlying45 rfl (by rw [pref_size, prefL_len f bs n h.addr.len])
/-- A prefix, loaded whole, guarded or not. -/
theorem load_pref_g {ops : Array Oper} {rest : List Oper} {op : Oper} {a : Act} {w : World} {Q : Exit → Act → World → Prop} {G : Nat} {f : Int} {bs : List Nat} {n : Int} (hA : Hid (PrefAt w G f bs n)) (x : Operand) (hw : Region.wanted op (yielded ops a.tmps) = true) (ho : op.op = .load 45 x)
    (hx : a.eval x = .pointer (some ⟨G, 0, none⟩)) (h : wpList Tryz.prog ops Q rest (a.put op.dst (prefV f bs n)) w) : wpList Tryz.prog ops Q (op :: rest) a w :=
  wpList_load_row hw 45 x ho G 0 hx (prefL f bs n) _ hA.out.range Tryz.underlying45 rfl (by rw [pref_size, prefL_len f bs n hA.out.addr.len]) h
/-- A prefix, stored whole. -/
theorem store_pref {ops : Array Oper} {rest : List Oper} {op : Oper} {a : Act} {w : World} {Q : Exit → Act → World → Prop} {G : Nat} {g : Int} {bs0 : List Nat} {n0 : Int} (hA : Hid (PrefAt w G g bs0 n0)) (x y : Operand) {f : Int} {bs : List Nat} {n : Int} (hl : Hid (bs.length = 16)) (hgd : op.guard = none) (ho : op.op = .store 45 x y)
    (hx : a.eval x = .pointer (some ⟨G, 0, none⟩)) (hy : a.eval y = prefV f bs n) (h : ∀ W, Hid (W = w.setCells G 0 (prefL f bs n)) → Hid (PrefAt W G f bs n) → wpList Tryz.prog ops Q rest (a.put op.dst undef) W) : wpList Tryz.prog ops Q (op :: rest) a w :=
  wpList_store_mid hgd 45 x y ho G 0 (prefL f bs n).toArray hx hy (by rw [List.size_toArray, prefL_len f bs n hl.out]; exact hA.out.there) (by rw [pref_size, List.size_toArray, prefL_len f bs n hl.out]) (prefL_one f bs n) (h _ (Lib.hid rfl) (Lib.hid (hA.out.stored f bs n hl.out)))
/-- A prefix's address, stored anew. -/
theorem store_pref_addr {ops : Array Oper} {rest : List Oper} {op : Oper} {a : Act} {w : World} {Q : Exit → Act → World → Prop} {G : Nat} {g : Int} {bs0 : List Nat} {n : Int} (hA : Hid (PrefAt w G g bs0 n)) (x y : Operand) {f : Int} {bs : List Nat} (hl : Hid (bs.length = 16)) (hgd : op.guard = none) (ho : op.op = .store 24 x y)
    (hx : a.eval x = .pointer (some ⟨G, 0, none⟩)) (hy : a.eval y = addrV f bs) (h : ∀ W, Hid (W = w.setCells G 0 (addrL f bs)) → Hid (PrefAt W G f bs n) → wpList Tryz.prog ops Q rest (a.put op.dst undef) W) : wpList Tryz.prog ops Q (op :: rest) a w :=
  wpList_store_mid hgd 24 x y ho G 0 (addrL f bs).toArray hx hy (by rw [List.size_toArray, addrL_len f bs hl.out]; exact hA.out.addr.there) (by rw [addr_size, List.size_toArray, addrL_len f bs hl.out]) (addrL_one f bs) (h _ (Lib.hid rfl) (Lib.hid (hA.out.storedAddr f bs hl.out)))
/-- A prefix, given back out of its cells. -/
theorem results_pref {fn : Func} {a : Tmp} {tmps : Array Value} {W : World} {R : Nat} {f : Int} {bs : List Nat} {n : Int} (h : fn.results = #[.cell a 45]) (ha : tmps.getD a undef = .pointer (some ⟨R, 0, none⟩)) (hA : PrefAt W R f bs n) : (results fn tmps).run Tryz.prog W = .ok (prefV f bs n) W := by
  rw [Array.getD_eq_getD_getElem?] at ha
  simp [results, h, ha, asAddr, loadVar_pref hA]
theorem results_pref2 {fn : Func} {a t : Tmp} {tmps : Array Value} {W : World} {R : Nat} {f : Int} {bs : List Nat} {n : Int} (h : fn.results = #[.cell a 45, .tmp t]) (ha : tmps.getD a undef = .pointer (some ⟨R, 0, none⟩)) (hA : PrefAt W R f bs n) : (results fn tmps).run Tryz.prog W = .ok (.tuple #[prefV f bs n, tmps.getD t undef]) W := by
  rw [Array.getD_eq_getD_getElem?] at ha
  simp [results, h, ha, asAddr, loadVar_pref hA]
/-- Held over a region: the prefix, and its address. -/
theorem HeldR.pref {L : List (Nat × Nat × List Value)} {W w : World} {G : Nat} {f : Int} {bs : List Nat} {n : Int} (h : HeldR L W w) (hA : PrefAt w G f bs n) : HeldR ((G, 0, prefL f bs n) :: (G, 0, addrL f bs) :: L) W w := (h.addr hA.addr).cons hA.range hA.addr.lt
def InP (L : List (Nat × Nat × List Value)) (G : Nat) (f : Int) (bs : List Nat) (n : Int) : Prop := (G, 0, prefL f bs n) ∈ L ∧ bs.length = 16
theorem yields_pref {ops : Array Oper} {op : Oper} {a : Act} {L : List (Nat × Nat × List Value)} {W : World} {G : Nat} {f : Int} {bs : List Nat} {n : Int} (hm : Hid (InP L G f bs n)) (hw : Region.wanted op (yielded ops a.tmps) = true) (x : Operand) (ho : op.op = .load 45 x)
    (hx : a.eval x = .pointer (some ⟨G, 0, none⟩)) : YieldsIf Tryz.prog ops (HeldR L W) op (prefV f bs n) a :=
  yieldsIf_load_mid hw 45 x ho G 0 hx (prefL f bs n) _ (fun _ h => h.get hm.out.1) Tryz.underlying45 rfl (by rw [pref_size, prefL_len f bs n hm.out.2])
theorem bitsR {L : List (Nat × Nat × List Value)} {G : Nat} {f : Int} {bs : List Nat} {n : Int} (h : InP L G f bs n) (W : World) : CellR L W G 17 (.int .i64 n) := fun w hw => hw.cell h.1 17 _ (by
  unfold prefL; rw [List.getElem?_append_right (by rw [addrL_len f bs h.2]; exact Nat.le_refl _), addrL_len f bs h.2]; rfl)
theorem famPR {L : List (Nat × Nat × List Value)} {G : Nat} {f : Int} {bs : List Nat} {n : Int} (h : InP L G f bs n) (W : World) : CellR L W G 0 (.int .i64 f) := fun w hw => hw.cell h.1 0 _ rfl
/-- One operation alone may come up, and it is wanted. -/
theorem AllReadyH.one {P : Program} {md : Region.Mode} {ops : Array Oper} {Q : Exit → Act → World → Prop} {S : World → Prop} {fuel : Nat} {listed : Array Bool} {a : Act} {w : World} {i : Nat} {o : Oper} (ho : ops[i]? = some o) (hw : Region.wanted o (yielded ops a.tmps) = true)
    (h : ∀ K' : Act → World → Prop, Shut (∀ a w, S w → (S w → wpAnyH P md ops Q S fuel (listed.setIfInBounds i true) a w) → K' a w) → Oper.wp P o a w K' Q) : AllReadyH P md ops Q S fuel listed a w [i] :=
  AllReadyH.cons ho (fun K hK => by rw [if_pos hw]; exact h K hK) AllReadyH.nil
/-- A store into a block that is none of the list's, and newer than W. -/
theorem HeldR.store {L : List (Nat × Nat × List Value)} {W w : World} (h : HeldR L W w) {R o : Nat} (vs : List Value) (hR : W.heap.size ≤ R) (hn : ∀ x ∈ L, x.1 ≠ R) : HeldR L W (w.setCells R o vs) :=
  ⟨fun x hx => ⟨World.rangeAt_setCells_apart (h.1 x hx).1 _ _ _ (.inl (hn x hx)), by rw [size_setCells]; exact (h.1 x hx).2⟩, below_cells hR _ _ _ h.2⟩
theorem wp_store_pref {op : Oper} {a : Act} {w : World} {K : Act → World → Prop} {Q : Exit → Act → World → Prop} {G : Nat} {g : Int} {bs0 : List Nat} {n0 : Int} (hA : Hid (PrefAt w G g bs0 n0)) (x y : Operand) {f : Int} {bs : List Nat} {n : Int} (hl : Hid (bs.length = 16)) (ho : op.op = .store 45 x y)
    (hx : a.eval x = .pointer (some ⟨G, 0, none⟩)) (hy : a.eval y = prefV f bs n) (h : Hid (PrefAt (w.setCells G 0 (prefL f bs n)) G f bs n) → K (a.put op.dst undef) (w.setCells G 0 (prefL f bs n))) : op.wp Tryz.prog a w K Q :=
  wp_store_mid 45 x y ho G 0 (prefL f bs n).toArray hx hy (by rw [List.size_toArray, prefL_len f bs n hl.out]; exact hA.out.there) (by rw [pref_size, List.size_toArray, prefL_len f bs n hl.out]) (prefL_one f bs n) (h (Lib.hid (hA.out.stored f bs n hl.out)))
/-- Two prefixes, held against each other. -/
theorem pref_fields : Tryz.prog.fieldsOf 45 = #[{ name := "Addr", type := 24, offset := 0, embedded := false, tag := "", pkgPath := "", byteOffset := 0 }, { name := "Bits", type := 3, offset := 17, embedded := false, tag := "", pkgPath := "", byteOffset := 24 }] := by simp only [Program.fieldsOf, Tryz.underlying45]
theorem nm3 : ("Addr" = "_") = False := by simp
theorem nm4 : ("Bits" = "_") = False := by simp
theorem stP (d : Nat) (xs ys : Array Value) (W : World) : (Op.equalIn (d + 4) 45 (.agg xs) (.agg ys)).run Tryz.prog W = (Op.eqFields (d + 3) xs ys (Tryz.prog.fieldsOf 45).toList).run Tryz.prog W :=
  run_equalIn_struct W (d + 3) _ _ _ (by rw [pref_fields]; exact Tryz.underlying45) Tryz.stoodInHeld45
theorem part_addr (W : World) (f : Int) (xs : List Nat) (n : Int) (hx : xs.length = 16) : (part 24 (prefL f xs n).toArray 0).run Tryz.prog W = .ok (addrV f xs) W := by
  obtain ⟨i, hi, hs⟩ : ∃ i, Tryz.prog.info? 24 = some i ∧ i.size = 17 := ⟨_, rfl, by kernel_rfl⟩
  have h2 : (isAgg 24).run Tryz.prog W = .ok true W := by
    unfold isAgg
    rw [Sem.run_bind, run_underlying Tryz.underlying24 W]
    simp
  have h3 : (sizeOf 24).run Tryz.prog W = .ok 17 W := by simp [sizeOf, typeInfo, hi, hs]
  simp only [part, Sem.run_bind, h2, Result.andThen_ok, if_true, h3, Sem.run_pure]
  rw [addrV_L]
  congr 2
  apply Array.ext'
  simp only [Array.toList_extract, List.extract_eq_take_drop]
  show ((addrL f xs ++ [Value.int .i64 n]).drop 0).take 17 = addrL f xs
  rw [List.drop_zero, List.take_append_of_le_length (by rw [addrL_len f xs hx]; exact Nat.le_refl _), List.take_of_length_le (by rw [addrL_len f xs hx]; exact Nat.le_refl _)]
theorem part_bits (W : World) (f : Int) (xs : List Nat) (n : Int) (hx : xs.length = 16) : (part 3 (prefL f xs n).toArray 17).run Tryz.prog W = .ok (.int .i64 n) W := run_part_plain W plainK_int (by
  rw [List.getElem?_toArray]
  unfold prefL; rw [List.getElem?_append_right (by rw [addrL_len f xs hx]; exact Nat.le_refl _), addrL_len f xs hx]; rfl)
theorem eq_bits (d : Nat) (f g : Int) (W : World) : (Op.equalIn (d + 3) 3 (.int .i64 f) (.int .i64 g)).run Tryz.prog W = .ok (f == g) W := run_equalIn_int (P := Tryz.prog) W (d + 2) 3 .i64 .i64 f g Tryz.underlying3
theorem two_fieldsP (P : Program) (W : World) (D : Nat) (X Y : Array Value) (t1 t2 : TypeId) (a1 b1 a2 b2 : Value) (r1 r2 : Bool)
    (h1 : (part t1 X 0).run P W = .ok a1 W) (h2 : (part t1 Y 0).run P W = .ok b1 W) (h3 : (Op.equalIn D t1 a1 b1).run P W = .ok r1 W)
    (h4 : (part t2 X 17).run P W = .ok a2 W) (h5 : (part t2 Y 17).run P W = .ok b2 W) (h6 : (Op.equalIn D t2 a2 b2).run P W = .ok r2 W) :
    (Op.eqFields D X Y [{ name := "Addr", type := t1, offset := 0, embedded := false, tag := "", pkgPath := "", byteOffset := 0 }, { name := "Bits", type := t2, offset := 17, embedded := false, tag := "", pkgPath := "", byteOffset := 24 }]).run P W = .ok (r1 && r2) W := by
  simp only [Op.eqFields, ne_eq, nm3, nm4, not_false_eq_true, if_true, Sem.run_bind, h1, h2, h3, Result.andThen_ok, Sem.run_ite, h4, h5, h6, Sem.run_pure]
  cases r1 <;> cases r2 <;> rfl
theorem eq_pref_at (d : Nat) (f g : Int) (xs ys : List Nat) (n m : Int) (W : World) (hx : xs.length = 16) (hy : ys.length = 16) : (Op.equalIn (d + 4) 45 (prefV f xs n) (prefV g ys m)).run Tryz.prog W = .ok (decide (f = g ∧ xs = ys ∧ n = m)) W := by
  rw [prefV, prefV, stP, pref_fields]
  refine (two_fieldsP Tryz.prog W (d + 3) _ _ 24 3 _ _ _ _ _ _ (part_addr W f xs n hx) (part_addr W g ys m hy) (eq_addr_at d f g xs ys W hx hy) (part_bits W f xs n hx) (part_bits W g ys m hy) (eq_bits d n m W)).trans ?_
  congr 1
  by_cases h1 : f = g <;> by_cases h2 : xs = ys <;> by_cases h3 : n = m <;> simp [h1, h2, h3]
theorem eq_pref (f g : Int) (xs ys : List Nat) (n m : Int) (W : World) (hx : xs.length = 16) (hy : ys.length = 16) : (Op.equalIn 10000 45 (prefV f xs n) (prefV g ys m)).run Tryz.prog W = .ok (decide (f = g ∧ xs = ys ∧ n = m)) W :=
  eq_pref_at 9996 f g xs ys n m W hx hy
theorem guard_pref (op : BinOp) (x y : Operand) (f g : Int) (xs ys : List Nat) (n m : Int) (W : World) : (eqGuard op 45 x y (prefV f xs n) (prefV g ys m)).run Tryz.prog W = .ok () W := run_eqGuard_agg _ _ _ _ _ _ _ Tryz.eqGuardType45
theorem run_eq_pref (f g : Int) (xs ys : List Nat) (n m : Int) (W : World) (hx : xs.length = 16) (hy : ys.length = 16) : (binOp .eql 45 (prefV f xs n) (prefV g ys m)).run Tryz.prog W = .ok (.bool (decide (f = g ∧ xs = ys ∧ n = m))) W := by
  have h := eq_pref f g xs ys n m W hx hy
  unfold prefV at h ⊢
  rw [run_eql_struct, h]
  rfl
theorem run_same_pref (f : Int) (xs : List Nat) (n : Int) (W : World) (hx : xs.length = 16) : (binOp .eql 45 (prefV f xs n) (prefV f xs n)).run Tryz.prog W = .ok (.bool true) W := by
  rw [run_eq_pref f f xs xs n n W hx hx, decide_eq_true ⟨rfl, rfl, rfl⟩]
theorem below_newA {w W : World} {f : Int} {bs : List Nat} (h : Hid (W = (w.alloc (.cells zA 24)).setCells w.heap.size 0 (addrL f bs))) : Below w.heap.size w W := by
  rw [h.out]; exact below_cells (Nat.le_refl _) _ _ _ ((Below.refl _ _).alloc (Nat.le_refl _) _)
theorem below_newP {w W : World} {f : Int} {bs : List Nat} {n : Int} (h : Hid (W = (w.alloc (.cells zP 45)).setCells w.heap.size 0 (prefL f bs n))) : Below w.heap.size w W := by
  rw [h.out]; exact below_cells (Nat.le_refl _) _ _ _ ((Below.refl _ _).alloc (Nat.le_refl _) _)
theorem wf_small {n : Nat} (h : n ≤ 100000) : (Lit.int .i64 (n : Int)).wf = true := WalkArith.wf_i64 ⟨by omega, by omega⟩
/-- A prefix, built of its address and its bits; an address of a family alone. -/
theorem built_pref (f : Int) (bs : List Nat) (n : Int) (h16 : bs.length = 16) : Tryz.prog.built 45 [(0, addrV f bs), (1, .int .i64 n)] = some (prefL f bs n).toArray := by
  obtain ⟨y0, y1, y2, y3, y4, y5, y6, y7, y8, y9, y10, y11, y12, y13, y14, y15, rfl⟩ := list16 bs h16
  kernel_rfl
theorem built_fam (f : Int) : Tryz.prog.built 24 [(0, .int .i64 f)] = some (addrL f (List.replicate 16 0)).toArray := rfl
theorem built_zero : Tryz.prog.built 45 [] = some (prefL 0 (List.replicate 16 0) 0).toArray := rfl
theorem exec_build {P : Program} {o : Oper} {a : Act} {w : World} {t : TypeId} {parts : Array (Nat × Operand)} {cells : Array Value} (ho : o.op = .build t parts) (h : P.built t (parts.map fun (i, x) => (i, a.eval x)).toList = some cells) : (execOp a.eval o).run P w = .ok (.value (.agg cells)) w := by
  unfold execOp
  simp only [ho, Sem.run_bind, run_build w t _ cells h, Result.andThen_ok]
  rfl
theorem yields_build_pref {ops : Array Oper} {S : World → Prop} {op : Oper} {a : Act} {f : Int} {bs : List Nat} {n : Int} (hl : Hid (bs.length = 16)) (hw : Region.wanted op (yielded ops a.tmps) = true) (x y : Operand) (ho : op.op = .build 45 #[(0, x), (1, y)])
    (hx : a.eval x = addrV f bs) (hy : a.eval y = .int .i64 n) : YieldsIf Tryz.prog ops S op (prefV f bs n) a :=
  .inl ⟨hw, fun w _ => exec_build ho (by
    simp only [List.map_toArray, List.map_cons, List.map_nil]
    rw [hx, hy]; exact built_pref f bs n hl.out)⟩
theorem yields_build_fam {ops : Array Oper} {S : World → Prop} {op : Oper} {a : Act} {f : Int} (hw : Region.wanted op (yielded ops a.tmps) = true) (x : Operand) (ho : op.op = .build 24 #[(0, x)])
    (hx : a.eval x = .int .i64 f) : YieldsIf Tryz.prog ops S op (addrV f (List.replicate 16 0)) a :=
  .inl ⟨hw, fun w _ => exec_build ho (by
    simp only [List.map_toArray, List.map_cons, List.map_nil]
    rw [hx]; exact built_fam f)⟩
theorem build_pref {ops : Array Oper} {rest : List Oper} {op : Oper} {a : Act} {w : World} {Q : Exit → Act → World → Prop} {f : Int} {bs : List Nat} {n : Int} (hl : Hid (bs.length = 16)) (hg : op.guard = none) (x y : Operand) (ho : op.op = .build 45 #[(0, x), (1, y)])
    (hx : a.eval x = addrV f bs) (hy : a.eval y = .int .i64 n) (h : wpList Tryz.prog ops Q rest (a.put op.dst (prefV f bs n)) w) : wpList Tryz.prog ops Q (op :: rest) a w := by
  have e : Tryz.prog.built 45 ((#[(0, x), (1, y)] : Array (Nat × Operand)).map fun (i, x) => (i, a.eval x)).toList = some (prefL f bs n).toArray := by
    simp only [List.map_toArray, List.map_cons, List.map_nil]
    rw [hx, hy]; exact built_pref f bs n hl.out
  refine wpList_build hg 45 _ ho (by rw [e]; rfl) ?_
  rw [e]
  exact h
theorem build_fam {ops : Array Oper} {rest : List Oper} {op : Oper} {a : Act} {w : World} {Q : Exit → Act → World → Prop} {f : Int} (hg : op.guard = none) (x : Operand) (ho : op.op = .build 24 #[(0, x)])
    (hx : a.eval x = .int .i64 f) (h : wpList Tryz.prog ops Q rest (a.put op.dst (addrV f (List.replicate 16 0))) w) : wpList Tryz.prog ops Q (op :: rest) a w := by
  have e : Tryz.prog.built 24 ((#[(0, x)] : Array (Nat × Operand)).map fun (i, x) => (i, a.eval x)).toList = some (addrL f (List.replicate 16 0)).toArray := by
    simp only [List.map_toArray, List.map_cons, List.map_nil]
    rw [hx]; exact built_fam f
  refine wpList_build hg 24 _ ho (by rw [e]; rfl) ?_
  rw [e]
  exact h
theorem build_zero {ops : Array Oper} {rest : List Oper} {op : Oper} {a : Act} {w : World} {Q : Exit → Act → World → Prop} (hg : op.guard = none) (ho : op.op = .build 45 #[])
    (h : wpList Tryz.prog ops Q rest (a.put op.dst (prefV 0 (List.replicate 16 0) 0)) w) : wpList Tryz.prog ops Q (op :: rest) a w := by
  have e : Tryz.prog.built 45 ((#[] : Array (Nat × Operand)).map fun (i, x) => (i, a.eval x)).toList = some (prefL 0 (List.replicate 16 0) 0).toArray := by
    simp only [List.map_toArray, List.map_nil]
    exact built_zero
  refine wpList_build hg 45 _ ho (by rw [e]; rfl) ?_
  rw [e]
  exact h
end Go.Proofs.YtgbajagacmfcmaaGreatDoor
/- Contract of the reference's With of layer 5. -/
namespace Go.Proofs.YtgbajagacmfcmaaGreatDoor
open Go.RowKit
set_option linter.unusedVariables false
set_option maxRecDepth 20000

end Go.Proofs.YtgbajagacmfcmaaGreatDoor
