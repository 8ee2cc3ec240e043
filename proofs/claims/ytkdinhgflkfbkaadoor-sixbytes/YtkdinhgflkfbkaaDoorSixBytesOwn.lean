/- Contracts of six.Bytes and six.Of. -/
import Derived.Test.YtkdinhgflkfbkaaDoorSixPrint
import Derived.RegionTactic
import Derived.BigRegion
namespace Go.Proofs.YtkdinhgflkfbkaaDoor
open Go.RowKit
set_option linter.unusedVariables false

/-- The bytes of groups, the higher one first. -/
def byL (gs : List Nat) : List Nat := gs.flatMap fun x => [x / 256, x % 256]
def arr16 (l : List Nat) : Value := .agg (l.map fun n => Value.int .u8 ((n : Nat) : Int)).toArray
theorem byL_snoc (l : List Nat) (x : Nat) : byL (l ++ [x]) = byL l ++ [x / 256, x % 256] := by simp [byL]
theorem byL_len : ∀ l : List Nat, (byL l).length = 2 * l.length
  | [] => rfl
  | x :: r => by
    have ih := byL_len r
    show ([x / 256, x % 256] ++ byL r).length = _
    rw [List.length_append, ih, List.length_cons]
    simp
    omega
theorem list16 {α : Type} (l : List α) (h : l.length = 16) : ∃ y0 y1 y2 y3 y4 y5 y6 y7 y8 y9 y10 y11 y12 y13 y14 y15, l = [y0, y1, y2, y3, y4, y5, y6, y7, y8, y9, y10, y11, y12, y13, y14, y15] := by
  match l, h with
  | [y0, y1, y2, y3, y4, y5, y6, y7, y8, y9, y10, y11, y12, y13, y14, y15], _ => exact ⟨y0, y1, y2, y3, y4, y5, y6, y7, y8, y9, y10, y11, y12, y13, y14, y15, rfl⟩
/-- Two bytes laid behind those of the first k groups. -/
theorem set_two (l : List Nat) (k a b : Nat) (hk : k < 8) (hl : l.length = 2 * k) : ((l ++ List.replicate (16 - 2 * k) 0).set (2 * k) a).set (2 * k + 1) b = (l ++ [a, b]) ++ List.replicate (16 - 2 * (k + 1)) 0 := by
  rw [show 16 - 2 * k = (16 - 2 * (k + 1)) + 1 + 1 by omega, List.replicate_succ, List.replicate_succ, List.set_append_right _ _ (by omega), hl, Nat.sub_self, List.set_cons_zero, List.set_append_right _ _ (by omega), hl, show 2 * k + 1 - 2 * k = 0 + 1 by omega, List.set_cons_succ, List.set_cons_zero]
  simp
/-- Sixteen bytes, stored one by one. -/
def store16 (W : World) (R : Nat) (y0 y1 y2 y3 y4 y5 y6 y7 y8 y9 y10 y11 y12 y13 y14 y15 : Nat) : World := ((((((((((((((((W.setCell ⟨R, 0, none⟩ (.int .u8 ((y0 : Nat) : Int))).setCell ⟨R, 1, none⟩ (.int .u8 ((y1 : Nat) : Int))).setCell ⟨R, 2, none⟩ (.int .u8 ((y2 : Nat) : Int))).setCell ⟨R, 3, none⟩ (.int .u8 ((y3 : Nat) : Int))).setCell ⟨R, 4, none⟩ (.int .u8 ((y4 : Nat) : Int))).setCell ⟨R, 5, none⟩ (.int .u8 ((y5 : Nat) : Int))).setCell ⟨R, 6, none⟩ (.int .u8 ((y6 : Nat) : Int))).setCell ⟨R, 7, none⟩ (.int .u8 ((y7 : Nat) : Int))).setCell ⟨R, 8, none⟩ (.int .u8 ((y8 : Nat) : Int))).setCell ⟨R, 9, none⟩ (.int .u8 ((y9 : Nat) : Int))).setCell ⟨R, 10, none⟩ (.int .u8 ((y10 : Nat) : Int))).setCell ⟨R, 11, none⟩ (.int .u8 ((y11 : Nat) : Int))).setCell ⟨R, 12, none⟩ (.int .u8 ((y12 : Nat) : Int))).setCell ⟨R, 13, none⟩ (.int .u8 ((y13 : Nat) : Int))).setCell ⟨R, 14, none⟩ (.int .u8 ((y14 : Nat) : Int))).setCell ⟨R, 15, none⟩ (.int .u8 ((y15 : Nat) : Int)))
theorem store16_arr {W : World} {R : Nat} {l : List Nat} (y0 y1 y2 y3 y4 y5 y6 y7 y8 y9 y10 y11 y12 y13 y14 y15 : Nat) (h : ArrI .u8 16 W R l) : ArrI .u8 16 (store16 W R y0 y1 y2 y3 y4 y5 y6 y7 y8 y9 y10 y11 y12 y13 y14 y15) R [y0, y1, y2, y3, y4, y5, y6, y7, y8, y9, y10, y11, y12, y13, y14, y15] := by
  obtain ⟨z0, z1, z2, z3, z4, z5, z6, z7, z8, z9, z10, z11, z12, z13, z14, z15, rfl⟩ := list16 l h.len
  exact ((((((((((((((((h.set (i := 0) (by decide) y0).set (i := 1) (by decide) y1).set (i := 2) (by decide) y2).set (i := 3) (by decide) y3).set (i := 4) (by decide) y4).set (i := 5) (by decide) y5).set (i := 6) (by decide) y6).set (i := 7) (by decide) y7).set (i := 8) (by decide) y8).set (i := 9) (by decide) y9).set (i := 10) (by decide) y10).set (i := 11) (by decide) y11).set (i := 12) (by decide) y12).set (i := 13) (by decide) y13).set (i := 14) (by decide) y14).set (i := 15) (by decide) y15)
theorem store16_below {w W : World} {R : Nat} (y0 y1 y2 y3 y4 y5 y6 y7 y8 y9 y10 y11 y12 y13 y14 y15 : Nat) (h : Below w.heap.size w W) (hR : w.heap.size ≤ R) : Below w.heap.size w (store16 W R y0 y1 y2 y3 y4 y5 y6 y7 y8 y9 y10 y11 y12 y13 y14 y15) :=
  ((((((((((((((((h.setCell (p := ⟨R, 0, none⟩) hR _).setCell (p := ⟨R, 1, none⟩) hR _).setCell (p := ⟨R, 2, none⟩) hR _).setCell (p := ⟨R, 3, none⟩) hR _).setCell (p := ⟨R, 4, none⟩) hR _).setCell (p := ⟨R, 5, none⟩) hR _).setCell (p := ⟨R, 6, none⟩) hR _).setCell (p := ⟨R, 7, none⟩) hR _).setCell (p := ⟨R, 8, none⟩) hR _).setCell (p := ⟨R, 9, none⟩) hR _).setCell (p := ⟨R, 10, none⟩) hR _).setCell (p := ⟨R, 11, none⟩) hR _).setCell (p := ⟨R, 12, none⟩) hR _).setCell (p := ⟨R, 13, none⟩) hR _).setCell (p := ⟨R, 14, none⟩) hR _).setCell (p := ⟨R, 15, none⟩) hR _)
theorem ArrI.all16 {w : World} {B : Nat} {y0 y1 y2 y3 y4 y5 y6 y7 y8 y9 y10 y11 y12 y13 y14 y15 : Nat} (h : ArrI .u8 16 w B [y0, y1, y2, y3, y4, y5, y6, y7, y8, y9, y10, y11, y12, y13, y14, y15]) :
    w.cell? ⟨B, 0, none⟩ = some (.int .u8 (y0 : Int)) ∧ w.cell? ⟨B, 1, none⟩ = some (.int .u8 (y1 : Int)) ∧ w.cell? ⟨B, 2, none⟩ = some (.int .u8 (y2 : Int)) ∧ w.cell? ⟨B, 3, none⟩ = some (.int .u8 (y3 : Int)) ∧ w.cell? ⟨B, 4, none⟩ = some (.int .u8 (y4 : Int)) ∧ w.cell? ⟨B, 5, none⟩ = some (.int .u8 (y5 : Int)) ∧ w.cell? ⟨B, 6, none⟩ = some (.int .u8 (y6 : Int)) ∧ w.cell? ⟨B, 7, none⟩ = some (.int .u8 (y7 : Int)) ∧ w.cell? ⟨B, 8, none⟩ = some (.int .u8 (y8 : Int)) ∧ w.cell? ⟨B, 9, none⟩ = some (.int .u8 (y9 : Int)) ∧ w.cell? ⟨B, 10, none⟩ = some (.int .u8 (y10 : Int)) ∧ w.cell? ⟨B, 11, none⟩ = some (.int .u8 (y11 : Int)) ∧ w.cell? ⟨B, 12, none⟩ = some (.int .u8 (y12 : Int)) ∧ w.cell? ⟨B, 13, none⟩ = some (.int .u8 (y13 : Int)) ∧ w.cell? ⟨B, 14, none⟩ = some (.int .u8 (y14 : Int)) ∧ w.cell? ⟨B, 15, none⟩ = some (.int .u8 (y15 : Int)) :=
  ⟨h.cells 0 (by decide), h.cells 1 (by decide), h.cells 2 (by decide), h.cells 3 (by decide), h.cells 4 (by decide), h.cells 5 (by decide), h.cells 6 (by decide), h.cells 7 (by decide), h.cells 8 (by decide), h.cells 9 (by decide), h.cells 10 (by decide), h.cells 11 (by decide), h.cells 12 (by decide), h.cells 13 (by decide), h.cells 14 (by decide), h.cells 15 (by decide)⟩
theorem ArrI.lives16 {w : World} {B : Nat} {l : List Nat} (h : ArrI .u8 16 w B l) :
    w.frozen? ⟨B, 0, none⟩ = false ∧ w.frozen? ⟨B, 1, none⟩ = false ∧ w.frozen? ⟨B, 2, none⟩ = false ∧ w.frozen? ⟨B, 3, none⟩ = false ∧ w.frozen? ⟨B, 4, none⟩ = false ∧ w.frozen? ⟨B, 5, none⟩ = false ∧ w.frozen? ⟨B, 6, none⟩ = false ∧ w.frozen? ⟨B, 7, none⟩ = false ∧ w.frozen? ⟨B, 8, none⟩ = false ∧ w.frozen? ⟨B, 9, none⟩ = false ∧ w.frozen? ⟨B, 10, none⟩ = false ∧ w.frozen? ⟨B, 11, none⟩ = false ∧ w.frozen? ⟨B, 12, none⟩ = false ∧ w.frozen? ⟨B, 13, none⟩ = false ∧ w.frozen? ⟨B, 14, none⟩ = false ∧ w.frozen? ⟨B, 15, none⟩ = false :=
  ⟨h.live 0 (by decide), h.live 1 (by decide), h.live 2 (by decide), h.live 3 (by decide), h.live 4 (by decide), h.live 5 (by decide), h.live 6 (by decide), h.live 7 (by decide), h.live 8 (by decide), h.live 9 (by decide), h.live 10 (by decide), h.live 11 (by decide), h.live 12 (by decide), h.live 13 (by decide), h.live 14 (by decide), h.live 15 (by decide)⟩
theorem zeros16 : (#[.int .u8 0, .int .u8 0, .int .u8 0, .int .u8 0, .int .u8 0, .int .u8 0, .int .u8 0, .int .u8 0, .int .u8 0, .int .u8 0, .int .u8 0, .int .u8 0, .int .u8 0, .int .u8 0, .int .u8 0, .int .u8 0] : Array Value).toList = (List.replicate 16 0).map fun x => Value.int .u8 ((x : Nat) : Int) := rfl

set_option maxRecDepth 100000 in
set_option maxHeartbeats 2000000 in
theorem sixBytes_any (gs : List Nat) (w : World) (h8 : gs.length = 8) (hlt : ∀ x ∈ gs, x < 65536) :
    Calls Tryd.prog 18 #[arr8 gs] w fun e w' => e = .returned (arr16 (byL gs)) ∧ Below w.heap.size w w' := by
  obtain ⟨x0, x1, x2, x3, x4, x5, x6, x7, hgs⟩ := list8 gs h8
  have ha : arr8 gs = .agg #[.int .u16 (x0 : Int), .int .u16 (x1 : Int), .int .u16 (x2 : Int), .int .u16 (x3 : Int), .int .u16 (x4 : Int), .int .u16 (x5 : Int), .int .u16 (x6 : Int), .int .u16 (x7 : Int)] := by rw [hgs]; rfl
  have hA := Arr8.new w 24 x0 x1 x2 x3 x4 x5 x6 x7
  rw [← hgs] at hA
  have b1 : Below w.heap.size w (w.alloc (.cells #[.int .u16 (x0 : Int), .int .u16 (x1 : Int), .int .u16 (x2 : Int), .int .u16 (x3 : Int), .int .u16 (x4 : Int), .int .u16 (x5 : Int), .int .u16 (x6 : Int), .int .u16 (x7 : Int)] 24)) := (Below.refl _ _).alloc (Nat.le_refl _) _
  have b2 := b1.alloc b1.size (.cells #[.int .u8 0, .int .u8 0, .int .u8 0, .int .u8 0, .int .u8 0, .int .u8 0, .int .u8 0, .int .u8 0, .int .u8 0, .int .u8 0, .int .u8 0, .int .u8 0, .int .u8 0, .int .u8 0, .int .u8 0, .int .u8 0] 33)
  have b3 := b2.alloc b2.size (.cells #[.int .u8 0, .int .u8 0, .int .u8 0, .int .u8 0, .int .u8 0, .int .u8 0, .int .u8 0, .int .u8 0, .int .u8 0, .int .u8 0, .int .u8 0, .int .u8 0, .int .u8 0, .int .u8 0, .int .u8 0, .int .u8 0] 33)
  have hR := ArrI.of (w.alloc (.cells #[.int .u16 (x0 : Int), .int .u16 (x1 : Int), .int .u16 (x2 : Int), .int .u16 (x3 : Int), .int .u16 (x4 : Int), .int .u16 (x5 : Int), .int .u16 (x6 : Int), .int .u16 (x7 : Int)] 24)) #[.int .u8 0, .int .u8 0, .int .u8 0, .int .u8 0, .int .u8 0, .int .u8 0, .int .u8 0, .int .u8 0, .int .u8 0, .int .u8 0, .int .u8 0, .int .u8 0, .int .u8 0, .int .u8 0, .int .u8 0, .int .u8 0] 33 (List.replicate 16 0) zeros16 (n := 16) rfl
  have hP := ArrI.of ((w.alloc (.cells #[.int .u16 (x0 : Int), .int .u16 (x1 : Int), .int .u16 (x2 : Int), .int .u16 (x3 : Int), .int .u16 (x4 : Int), .int .u16 (x5 : Int), .int .u16 (x6 : Int), .int .u16 (x7 : Int)] 24)).alloc (.cells #[.int .u8 0, .int .u8 0, .int .u8 0, .int .u8 0, .int .u8 0, .int .u8 0, .int .u8 0, .int .u8 0, .int .u8 0, .int .u8 0, .int .u8 0, .int .u8 0, .int .u8 0, .int .u8 0, .int .u8 0, .int .u8 0] 33)) #[.int .u8 0, .int .u8 0, .int .u8 0, .int .u8 0, .int .u8 0, .int .u8 0, .int .u8 0, .int .u8 0, .int .u8 0, .int .u8 0, .int .u8 0, .int .u8 0, .int .u8 0, .int .u8 0, .int .u8 0, .int .u8 0] 33 (List.replicate 16 0) zeros16 (n := 16) rfl
  have hA2 := (hA.below ((Below.refl _ _).alloc (Nat.le_refl _) (.cells #[.int .u8 0, .int .u8 0, .int .u8 0, .int .u8 0, .int .u8 0, .int .u8 0, .int .u8 0, .int .u8 0, .int .u8 0, .int .u8 0, .int .u8 0, .int .u8 0, .int .u8 0, .int .u8 0, .int .u8 0, .int .u8 0] 33))).below ((Below.refl _ _).alloc (Nat.le_refl _) (.cells #[.int .u8 0, .int .u8 0, .int .u8 0, .int .u8 0, .int .u8 0, .int .u8 0, .int .u8 0, .int .u8 0, .int .u8 0, .int .u8 0, .int .u8 0, .int .u8 0, .int .u8 0, .int .u8 0, .int .u8 0, .int .u8 0] 33))
  have hR2 := hR.below ((Below.refl _ _).alloc (Nat.le_refl _) (.cells #[.int .u8 0, .int .u8 0, .int .u8 0, .int .u8 0, .int .u8 0, .int .u8 0, .int .u8 0, .int .u8 0, .int .u8 0, .int .u8 0, .int .u8 0, .int .u8 0, .int .u8 0, .int .u8 0, .int .u8 0, .int .u8 0] 33))
  have e1 : (w.alloc (.cells #[.int .u16 (x0 : Int), .int .u16 (x1 : Int), .int .u16 (x2 : Int), .int .u16 (x3 : Int), .int .u16 (x4 : Int), .int .u16 (x5 : Int), .int .u16 (x6 : Int), .int .u16 (x7 : Int)] 24)).heap.size = w.heap.size + 1 := by simp
  have e2 : ((w.alloc (.cells #[.int .u16 (x0 : Int), .int .u16 (x1 : Int), .int .u16 (x2 : Int), .int .u16 (x3 : Int), .int .u16 (x4 : Int), .int .u16 (x5 : Int), .int .u16 (x6 : Int), .int .u16 (x7 : Int)] 24)).alloc (.cells #[.int .u8 0, .int .u8 0, .int .u8 0, .int .u8 0, .int .u8 0, .int .u8 0, .int .u8 0, .int .u8 0, .int .u8 0, .int .u8 0, .int .u8 0, .int .u8 0, .int .u8 0, .int .u8 0, .int .u8 0, .int .u8 0] 33)).heap.size = w.heap.size + 1 + 1 := by simp
  rw [e1] at hR2
  rw [e2] at hP
  rw [ha]
  have H8 := Lib.hid h8
  have HLT := Lib.hid hlt
  clear ha hgs h8 hlt hA hR b1 b2
  go_enter Tryd.func18, Tryd.ntmps18
  go_wp2_with fail
  generalize (((w.alloc (.cells #[.int .u16 (x0 : Int), .int .u16 (x1 : Int), .int .u16 (x2 : Int), .int .u16 (x3 : Int), .int .u16 (x4 : Int), .int .u16 (x5 : Int), .int .u16 (x6 : Int), .int .u16 (x7 : Int)] 24)).alloc (.cells #[.int .u8 0, .int .u8 0, .int .u8 0, .int .u8 0, .int .u8 0, .int .u8 0, .int .u8 0, .int .u8 0, .int .u8 0, .int .u8 0, .int .u8 0, .int .u8 0, .int .u8 0, .int .u8 0, .int .u8 0, .int .u8 0] 33)).alloc (.cells #[.int .u8 0, .int .u8 0, .int .u8 0, .int .u8 0, .int .u8 0, .int .u8 0, .int .u8 0, .int .u8 0, .int .u8 0, .int .u8 0, .int .u8 0, .int .u8 0, .int .u8 0, .int .u8 0, .int .u8 0, .int .u8 0] 33)) = W at *
  clear e1 e2
  have HA := Lib.hid hA2
  have HR := Lib.hid hR2
  have HP := Lib.hid hP
  clear hA2 hR2 hP
  go_loopw [5] (fun i wr => ∃ (k : Nat) (l : List Nat), k ≤ 8 ∧ i = .int .i64 k ∧ Hid (Arr8 wr w.heap.size gs) ∧ Hid (ArrI .u8 16 wr (w.heap.size + 1) (List.replicate 16 0)) ∧ Hid (ArrI .u8 16 wr (w.heap.size + 1 + 1) l) ∧ Hid (l = byL (gs.take k) ++ List.replicate (16 - 2 * k) 0) ∧ Below w.heap.size w wr) (fun i _ => 8 - (intOf i).toNat)
  case atStart => exact ⟨0, _, by decide, rfl, HA, HR, HP, Lib.hid rfl, b3⟩
  case round =>
    obtain ⟨k, l, hk, rfl, HA2, HR2, HP2, HL, hbel⟩ := hrel
    by_cases hk8 : k < 8
    · have hcell := HA2.out.cells k hk8
      have hx : gs.getD k 0 < 65536 := by
        rw [List.getD_eq_getElem?_getD, List.getElem?_eq_getElem (by rw [H8.out]; exact hk8)]
        exact HLT.out _ (List.getElem_mem _)
      have et : gs.take (k + 1) = gs.take k ++ [gs.getD k 0] := by
        rw [List.take_add_one, List.getD_eq_getElem?_getD, List.getElem?_eq_getElem (by rw [H8.out]; exact hk8)]; rfl
      obtain ⟨x, ex⟩ : ∃ x, gs.getD k 0 = x := ⟨_, rfl⟩
      rw [ex] at hcell hx et
      obtain ⟨c, hc, ec⟩ : ∃ c : Nat, 2 * k = c ∧ (2 : Int) * (k : Int) = (c : Int) := ⟨_, rfl, by omega⟩
      obtain ⟨hi, hhi, ehi⟩ : ∃ hi : Nat, x / 256 = hi ∧ (x : Int) / 256 = (hi : Int) := ⟨_, rfl, by omega⟩
      obtain ⟨lo, hlo⟩ : ∃ lo : Nat, x % 256 = lo := ⟨_, rfl⟩
      have whi : IntKind.u8.wrap (hi : Int) = (hi : Int) := by rw [IntKind.wrap_u8]; omega
      have wlo : IntKind.u8.wrap (x : Int) = (lo : Int) := by rw [IntKind.wrap_u8]; omega
      have hc15 : c + 1 < 16 := by omega
      have c0 : (0 : Int) ≤ (c : Int) := by omega
      have c1 : (c : Int) < 16 := by omega
      have c2 : (c : Int) + 1 < 16 := by omega
      have c3 : (0 : Int) ≤ (c : Int) + 1 := by omega
      have k0 : (0 : Int) ≤ (k : Int) := by omega
      have k1 : (k : Int) < 8 := by omega
      have hp0 := HP2.out.cells c (by omega)
      have hp1 := HP2.out.cells (c + 1) (by omega)
      have hl0 := HP2.out.live c (by omega)
      have hl1 := HP2.out.live (c + 1) (by omega)
      generalize l.getD c 0 = o0 at hp0
      generalize l.getD (c + 1) 0 = o1 at hp1
      have HS := Lib.hid ((HP2.out.set (i := c) (by omega) hi).set (i := c + 1) (by omega) lo)
      have HE : Hid (((l.set c hi).set (c + 1) lo) = byL (gs.take (k + 1)) ++ List.replicate (16 - 2 * (k + 1)) 0) := Lib.hid (by
        rw [HL.out, et, byL_snoc, ← hc, ← hhi, ← hlo]
        exact set_two _ k _ _ hk8 (by rw [byL_len, List.length_take, H8.out]; omega))
      clear ex et hc hhi hlo
      go_wp2_with fail
      go_region
      go_wp2_with fail
      go_roundw
      case rel => exact ⟨k + 1, (l.set c hi).set (c + 1) lo, by omega, by go_num, Lib.hid (((HA2.out.other (by omega) _).other (by omega) _).below (Below.refl _ _).drew), Lib.hid (((HR2.out.other (by omega) _).other (by omega) _).below (Below.refl _ _).drew), Lib.hid (HS.out.below (Below.refl _ _).drew), HE, ((hbel.setCell (p := ⟨w.heap.size + 1 + 1, c, none⟩) (by show w.heap.size ≤ w.heap.size + 1 + 1; omega) _).setCell (p := ⟨w.heap.size + 1 + 1, c + 1, none⟩) (by show w.heap.size ≤ w.heap.size + 1 + 1; omega) _).drew⟩
      case measure => simp [intOf]; omega
    · obtain rfl : k = 8 := by omega
      have hll : l = byL gs := by rw [HL.out, List.take_of_length_le (by rw [H8.out]; exact Nat.le_refl _)]; simp
      subst hll
      have hP8 := HP2.out
      obtain ⟨y0, y1, y2, y3, y4, y5, y6, y7, y8, y9, y10, y11, y12, y13, y14, y15, hy⟩ := list16 (byL gs) hP8.len
      rw [hy] at hP8
      have HY := Lib.hid hy
      obtain ⟨c0, c1, c2, c3, c4, c5, c6, c7, c8, c9, c10, c11, c12, c13, c14, c15⟩ := hP8.all16
      obtain ⟨r0, r1, r2, r3, r4, r5, r6, r7, r8, r9, r10, r11, r12, r13, r14, r15⟩ := (show ArrI .u8 16 wr (w.heap.size + 1) [0, 0, 0, 0, 0, 0, 0, 0, 0, 0, 0, 0, 0, 0, 0, 0] from HR2.out).all16
      obtain ⟨f0, f1, f2, f3, f4, f5, f6, f7, f8, f9, f10, f11, f12, f13, f14, f15⟩ := HR2.out.lives16
      have E1 := Lib.hid (store16_arr y0 y1 y2 y3 y4 y5 y6 y7 y8 y9 y10 y11 y12 y13 y14 y15 HR2.out)
      have E2 := Lib.hid (store16_below y0 y1 y2 y3 y4 y5 y6 y7 y8 y9 y10 y11 y12 y13 y14 y15 hbel (show w.heap.size ≤ w.heap.size + 1 by omega))
      clear hP8 hy
      go_wp2_with fail
      change bodyPost _ _ _ _ _ (store16 wr (w.heap.size + 1) y0 y1 y2 y3 y4 y5 y6 y7 y8 y9 y10 y11 y12 y13 y14 y15)
      generalize store16 wr (w.heap.size + 1) y0 y1 y2 y3 y4 y5 y6 y7 y8 y9 y10 y11 y12 y13 y14 y15 = W at *
      clear c0 c1 c2 c3 c4 c5 c6 c7 c8 c9 c10 c11 c12 c13 c14 c15 r0 r1 r2 r3 r4 r5 r6 r7 r8 r9 r10 r11 r12 r13 r14 r15 f0 f1 f2 f3 f4 f5 f6 f7 f8 f9 f10 f11 f12 f13 f14 f15
      obtain ⟨r0, r1, r2, r3, r4, r5, r6, r7, r8, r9, r10, r11, r12, r13, r14, r15⟩ := E1.out.all16
      refine bodyPost_ret (v := arr16 [y0, y1, y2, y3, y4, y5, y6, y7, y8, y9, y10, y11, y12, y13, y14, y15]) (by simp [results, Tryd.results18, go_sem, r0, r1, r2, r3, r4, r5, r6, r7, r8, r9, r10, r11, r12, r13, r14, r15, arr16]) rfl ⟨by rw [HY.out], E2.out⟩

/-- The groups of bytes. -/
def grL (bs : List Nat) : Nat → List Nat
  | 0 => []
  | k + 1 => grL bs k ++ [bs.getD (2 * k) 0 * 256 + bs.getD (2 * k + 1) 0]
theorem grL_len (bs : List Nat) : ∀ k, (grL bs k).length = k
  | 0 => rfl
  | k + 1 => by rw [grL, List.length_append, grL_len bs k]; rfl
theorem grL_byL (gs : List Nat) (h8 : gs.length = 8) : grL (byL gs) 8 = gs := by
  obtain ⟨x0, x1, x2, x3, x4, x5, x6, x7, rfl⟩ := list8 gs h8
  simp [grL, byL]
  omega
theorem byL_grL (bs : List Nat) (h : bs.length = 16) (hlt : ∀ x ∈ bs, x < 256) : byL (grL bs 8) = bs := by
  obtain ⟨y0, y1, y2, y3, y4, y5, y6, y7, y8, y9, y10, y11, y12, y13, y14, y15, rfl⟩ := list16 bs h
  simp at hlt
  simp [grL, byL]
  omega
theorem grL_lt (bs : List Nat) (hlt : ∀ x ∈ bs, x < 256) : ∀ k, ∀ x ∈ grL bs k, x < 65536
  | 0, x, h => by simp [grL] at h
  | k + 1, x, h => by
    rw [grL] at h
    rcases List.mem_append.1 h with h | h
    · exact grL_lt bs hlt k x h
    · have g : ∀ j, bs.getD j 0 < 256 := by
        intro j
        rw [List.getD_eq_getElem?_getD]
        cases hj : bs[j]? with
        | none => exact Nat.zero_lt_succ _
        | some v => exact hlt v (List.mem_of_getElem? hj)
      have h1 := g (2 * k)
      have h2 := g (2 * k + 1)
      rw [List.mem_singleton] at h
      omega
theorem byL_lt (gs : List Nat) (hlt : ∀ x ∈ gs, x < 65536) : ∀ x ∈ byL gs, x < 256 := by
  intro x hx
  obtain ⟨y, hy, h⟩ := List.mem_flatMap.1 hx
  have := hlt y hy
  simp at h
  omega
theorem zeros8u : (#[.int .u16 0, .int .u16 0, .int .u16 0, .int .u16 0, .int .u16 0, .int .u16 0, .int .u16 0, .int .u16 0] : Array Value).toList = (List.replicate 8 0).map fun x => Value.int .u16 ((x : Nat) : Int) := rfl
theorem set_one (l : List Nat) (k a : Nat) (hk : k < 8) (hl : l.length = k) : (l ++ List.replicate (8 - k) 0).set k a = (l ++ [a]) ++ List.replicate (8 - (k + 1)) 0 := by
  rw [show 8 - k = (8 - (k + 1)) + 1 by omega, List.replicate_succ, List.set_append_right _ _ (by omega), hl, Nat.sub_self, List.set_cons_zero]
  simp

set_option maxRecDepth 100000 in
set_option maxHeartbeats 2000000 in
theorem sixOf_any (bs : List Nat) (w : World) (h16 : bs.length = 16) (hlt : ∀ x ∈ bs, x < 256) :
    Calls Tryd.prog 19 #[arr16 bs] w fun e w' => e = .returned (arr8 (grL bs 8)) ∧ Below w.heap.size w w' := by
  obtain ⟨y0, y1, y2, y3, y4, y5, y6, y7, y8, y9, y10, y11, y12, y13, y14, y15, hbs⟩ := list16 bs h16
  have ha : arr16 bs = .agg #[.int .u8 (y0 : Int), .int .u8 (y1 : Int), .int .u8 (y2 : Int), .int .u8 (y3 : Int), .int .u8 (y4 : Int), .int .u8 (y5 : Int), .int .u8 (y6 : Int), .int .u8 (y7 : Int), .int .u8 (y8 : Int), .int .u8 (y9 : Int), .int .u8 (y10 : Int), .int .u8 (y11 : Int), .int .u8 (y12 : Int), .int .u8 (y13 : Int), .int .u8 (y14 : Int), .int .u8 (y15 : Int)] := by rw [hbs]; rfl
  have hB := ArrI.of w #[.int .u8 (y0 : Int), .int .u8 (y1 : Int), .int .u8 (y2 : Int), .int .u8 (y3 : Int), .int .u8 (y4 : Int), .int .u8 (y5 : Int), .int .u8 (y6 : Int), .int .u8 (y7 : Int), .int .u8 (y8 : Int), .int .u8 (y9 : Int), .int .u8 (y10 : Int), .int .u8 (y11 : Int), .int .u8 (y12 : Int), .int .u8 (y13 : Int), .int .u8 (y14 : Int), .int .u8 (y15 : Int)] 33 bs (k := .u8) (n := 16) (by rw [hbs]; rfl) h16
  have b1 : Below w.heap.size w (w.alloc (.cells #[.int .u8 (y0 : Int), .int .u8 (y1 : Int), .int .u8 (y2 : Int), .int .u8 (y3 : Int), .int .u8 (y4 : Int), .int .u8 (y5 : Int), .int .u8 (y6 : Int), .int .u8 (y7 : Int), .int .u8 (y8 : Int), .int .u8 (y9 : Int), .int .u8 (y10 : Int), .int .u8 (y11 : Int), .int .u8 (y12 : Int), .int .u8 (y13 : Int), .int .u8 (y14 : Int), .int .u8 (y15 : Int)] 33)) := (Below.refl _ _).alloc (Nat.le_refl _) _
  have b2 := b1.alloc b1.size (.cells #[.int .u16 0, .int .u16 0, .int .u16 0, .int .u16 0, .int .u16 0, .int .u16 0, .int .u16 0, .int .u16 0] 24)
  have b3 := b2.alloc b2.size (.cells #[.int .u16 0, .int .u16 0, .int .u16 0, .int .u16 0, .int .u16 0, .int .u16 0, .int .u16 0, .int .u16 0] 24)
  have hR := Arr8.zero (w.alloc (.cells #[.int .u8 (y0 : Int), .int .u8 (y1 : Int), .int .u8 (y2 : Int), .int .u8 (y3 : Int), .int .u8 (y4 : Int), .int .u8 (y5 : Int), .int .u8 (y6 : Int), .int .u8 (y7 : Int), .int .u8 (y8 : Int), .int .u8 (y9 : Int), .int .u8 (y10 : Int), .int .u8 (y11 : Int), .int .u8 (y12 : Int), .int .u8 (y13 : Int), .int .u8 (y14 : Int), .int .u8 (y15 : Int)] 33)) 24
  have hP := Arr8.zero ((w.alloc (.cells #[.int .u8 (y0 : Int), .int .u8 (y1 : Int), .int .u8 (y2 : Int), .int .u8 (y3 : Int), .int .u8 (y4 : Int), .int .u8 (y5 : Int), .int .u8 (y6 : Int), .int .u8 (y7 : Int), .int .u8 (y8 : Int), .int .u8 (y9 : Int), .int .u8 (y10 : Int), .int .u8 (y11 : Int), .int .u8 (y12 : Int), .int .u8 (y13 : Int), .int .u8 (y14 : Int), .int .u8 (y15 : Int)] 33)).alloc (.cells #[.int .u16 0, .int .u16 0, .int .u16 0, .int .u16 0, .int .u16 0, .int .u16 0, .int .u16 0, .int .u16 0] 24)) 24
  have hB2 := (hB.below ((Below.refl _ _).alloc (Nat.le_refl _) (.cells #[.int .u16 0, .int .u16 0, .int .u16 0, .int .u16 0, .int .u16 0, .int .u16 0, .int .u16 0, .int .u16 0] 24))).below ((Below.refl _ _).alloc (Nat.le_refl _) (.cells #[.int .u16 0, .int .u16 0, .int .u16 0, .int .u16 0, .int .u16 0, .int .u16 0, .int .u16 0, .int .u16 0] 24))
  have hR2 := hR.below ((Below.refl _ _).alloc (Nat.le_refl _) (.cells #[.int .u16 0, .int .u16 0, .int .u16 0, .int .u16 0, .int .u16 0, .int .u16 0, .int .u16 0, .int .u16 0] 24))
  have e1 : (w.alloc (.cells #[.int .u8 (y0 : Int), .int .u8 (y1 : Int), .int .u8 (y2 : Int), .int .u8 (y3 : Int), .int .u8 (y4 : Int), .int .u8 (y5 : Int), .int .u8 (y6 : Int), .int .u8 (y7 : Int), .int .u8 (y8 : Int), .int .u8 (y9 : Int), .int .u8 (y10 : Int), .int .u8 (y11 : Int), .int .u8 (y12 : Int), .int .u8 (y13 : Int), .int .u8 (y14 : Int), .int .u8 (y15 : Int)] 33)).heap.size = w.heap.size + 1 := by simp
  have e2 : ((w.alloc (.cells #[.int .u8 (y0 : Int), .int .u8 (y1 : Int), .int .u8 (y2 : Int), .int .u8 (y3 : Int), .int .u8 (y4 : Int), .int .u8 (y5 : Int), .int .u8 (y6 : Int), .int .u8 (y7 : Int), .int .u8 (y8 : Int), .int .u8 (y9 : Int), .int .u8 (y10 : Int), .int .u8 (y11 : Int), .int .u8 (y12 : Int), .int .u8 (y13 : Int), .int .u8 (y14 : Int), .int .u8 (y15 : Int)] 33)).alloc (.cells #[.int .u16 0, .int .u16 0, .int .u16 0, .int .u16 0, .int .u16 0, .int .u16 0, .int .u16 0, .int .u16 0] 24)).heap.size = w.heap.size + 1 + 1 := by simp
  rw [e1] at hR2
  rw [e2] at hP
  rw [ha]
  have H16 := Lib.hid h16
  have HLT := Lib.hid hlt
  clear ha hbs h16 hlt hB hR b1 b2
  go_enter Tryd.func19, Tryd.ntmps19
  go_wp2_with fail
  generalize (((w.alloc (.cells #[.int .u8 (y0 : Int), .int .u8 (y1 : Int), .int .u8 (y2 : Int), .int .u8 (y3 : Int), .int .u8 (y4 : Int), .int .u8 (y5 : Int), .int .u8 (y6 : Int), .int .u8 (y7 : Int), .int .u8 (y8 : Int), .int .u8 (y9 : Int), .int .u8 (y10 : Int), .int .u8 (y11 : Int), .int .u8 (y12 : Int), .int .u8 (y13 : Int), .int .u8 (y14 : Int), .int .u8 (y15 : Int)] 33)).alloc (.cells #[.int .u16 0, .int .u16 0, .int .u16 0, .int .u16 0, .int .u16 0, .int .u16 0, .int .u16 0, .int .u16 0] 24)).alloc (.cells #[.int .u16 0, .int .u16 0, .int .u16 0, .int .u16 0, .int .u16 0, .int .u16 0, .int .u16 0, .int .u16 0] 24)) = W at *
  clear e1 e2
  have HB := Lib.hid hB2
  have HR := Lib.hid hR2
  have HP := Lib.hid hP
  clear hB2 hR2 hP
  go_loopw [5] (fun i wr => ∃ (k : Nat) (l : List Nat), k ≤ 8 ∧ i = .int .i64 k ∧ Hid (ArrI .u8 16 wr w.heap.size bs) ∧ Hid (Arr8 wr (w.heap.size + 1) [0, 0, 0, 0, 0, 0, 0, 0]) ∧ Hid (Arr8 wr (w.heap.size + 1 + 1) l) ∧ Hid (l = grL bs k ++ List.replicate (8 - k) 0) ∧ Below w.heap.size w wr) (fun i _ => 8 - (intOf i).toNat)
  case atStart => exact ⟨0, _, by decide, rfl, HB, HR, HP, Lib.hid rfl, b3⟩
  case round =>
    obtain ⟨k, l, hk, rfl, HB2, HR2, HP2, HL, hbel⟩ := hrel
    by_cases hk8 : k < 8
    · have hg : ∀ j, bs.getD j 0 < 256 := by
        intro j
        rw [List.getD_eq_getElem?_getD]
        cases hj : bs[j]? with
        | none => exact Nat.zero_lt_succ _
        | some v => exact HLT.out v (List.mem_of_getElem? hj)
      obtain ⟨c, hc, ec⟩ : ∃ c : Nat, 2 * k = c ∧ (2 : Int) * (k : Int) = (c : Int) := ⟨_, rfl, by omega⟩
      have hc0 := HB2.out.cells c (by omega)
      have hc1 := HB2.out.cells (c + 1) (by omega)
      have hh := hg c
      have hl := hg (c + 1)
      obtain ⟨x, ex⟩ : ∃ x, bs.getD c 0 = x := ⟨_, rfl⟩
      obtain ⟨y, ey⟩ : ∃ y, bs.getD (c + 1) 0 = y := ⟨_, rfl⟩
      rw [ex] at hc0 hh
      rw [ey] at hc1 hl
      have hc15 : c + 1 < 16 := by omega
      have k1 : (k : Int) < 8 := by omega
      have c1 : (c : Int) < 16 := by omega
      have c2 : (c : Int) + 1 < 16 := by omega
      have q1 : IntKind.u16.wrap ((x : Int) * 256) = (x : Int) * 256 := by rw [IntKind.wrap_u16]; omega
      have q2 : bits .or .u16 ((x : Int) * 256) (y : Int) = ((x * 256 + y : Nat) : Int) := by
        rw [bits_join .u16 16 (by decide) (fun n h0 h1 => by rw [IntKind.wrap_u16]; omega) 8 ((x : Int) * 256) y (by omega) (by omega) (by omega) (by omega) (by omega) (by omega)]
        omega
      have hp0 := HP2.out.cells k hk8
      have hl0 := HP2.out.live k hk8
      obtain ⟨v, hv⟩ : ∃ v, x * 256 + y = v := ⟨_, rfl⟩
      rw [hv] at q2
      have HS := Lib.hid (HP2.out.set hk8 v)
      have HE : Hid (l.set k v = grL bs (k + 1) ++ List.replicate (8 - (k + 1)) 0) := Lib.hid (by
        rw [HL.out, grL, hc, ex, ey, hv]
        exact set_one _ k _ hk8 (grL_len bs k))
      generalize l.getD k 0 = o0 at hp0
      clear hg ex ey hc hv
      go_wp2_with fail
      go_region
      go_wp2_with fail
      go_roundw
      case rel => exact ⟨k + 1, l.set k v, by omega, by go_num, Lib.hid ((HB2.out.other (by omega) _).below (Below.refl _ _).drew), Lib.hid ((HR2.out.other (by omega) _).below (Below.refl _ _).drew), Lib.hid (HS.out.below (Below.refl _ _).drew), HE, (hbel.setCell (p := ⟨w.heap.size + 1 + 1, k, none⟩) (by show w.heap.size ≤ w.heap.size + 1 + 1; omega) _).drew⟩
      case measure => simp [intOf]; omega
    · obtain rfl : k = 8 := by omega
      have hll : l = grL bs 8 := by rw [HL.out]; simp
      subst hll
      have hP8 := HP2.out
      obtain ⟨x0, x1, x2, x3, x4, x5, x6, x7, hx⟩ := list8 (grL bs 8) hP8.len
      rw [hx] at hP8
      have HX := Lib.hid hx
      obtain ⟨c0, c1, c2, c3, c4, c5, c6, c7⟩ := hP8.all
      obtain ⟨r0, r1, r2, r3, r4, r5, r6, r7⟩ := HR2.out.all
      obtain ⟨f0, f1, f2, f3, f4, f5, f6, f7⟩ := HR2.out.lives
      have E1 := Lib.hid (store8_arr x0 x1 x2 x3 x4 x5 x6 x7 HR2.out)
      have E2 := Lib.hid (store8_below x0 x1 x2 x3 x4 x5 x6 x7 hbel (show w.heap.size ≤ w.heap.size + 1 by omega))
      clear hP8 hx
      go_wp2_with fail
      change bodyPost _ _ _ _ _ (store8 wr (w.heap.size + 1) x0 x1 x2 x3 x4 x5 x6 x7)
      generalize store8 wr (w.heap.size + 1) x0 x1 x2 x3 x4 x5 x6 x7 = W at *
      clear c0 c1 c2 c3 c4 c5 c6 c7 r0 r1 r2 r3 r4 r5 r6 r7 f0 f1 f2 f3 f4 f5 f6 f7
      obtain ⟨r0, r1, r2, r3, r4, r5, r6, r7⟩ := E1.out.all
      refine bodyPost_ret (v := arr8 [x0, x1, x2, x3, x4, x5, x6, x7]) (by simp [results, Tryd.results19, go_sem, r0, r1, r2, r3, r4, r5, r6, r7, arr8]) rfl ⟨by rw [HX.out], E2.out⟩
end Go.Proofs.YtkdinhgflkfbkaaDoor
