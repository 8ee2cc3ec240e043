/- Texts that belong together, one behind the other: SixBytesOwn, AddrFour, EqAddr, AddrEq, RefAddrMap, RefAddrUnmap, RefAddrBits, RefAddrMay, AddrMay, AddrMap, AddrUnmap. -/
import Derived.Test.YtickghbjhiegnaaDoorB3
import Derived.RegionTactic
import Derived.BigRegion
import Derived.Laws.StructEq
import Derived.Deep.Cut
/- Contracts of six.Bytes and six.Of. -/
namespace Go.Proofs.YtickghbjhiegnaaDoor
open Go.RowKit
set_option linter.unusedVariables false
set_option maxRecDepth 20000

/-- Sixteen bytes, stored one by one. -/
def store16 (W : World) (R : Nat) (y0 y1 y2 y3 y4 y5 y6 y7 y8 y9 y10 y11 y12 y13 y14 y15 : Nat) : World := ((((((((((((((((W.setCell ⟨R, 0, none⟩ (.int .u8 ((y0 : Nat) : Int))).setCell ⟨R, 1, none⟩ (.int .u8 ((y1 : Nat) : Int))).setCell ⟨R, 2, none⟩ (.int .u8 ((y2 : Nat) : Int))).setCell ⟨R, 3, none⟩ (.int .u8 ((y3 : Nat) : Int))).setCell ⟨R, 4, none⟩ (.int .u8 ((y4 : Nat) : Int))).setCell ⟨R, 5, none⟩ (.int .u8 ((y5 : Nat) : Int))).setCell ⟨R, 6, none⟩ (.int .u8 ((y6 : Nat) : Int))).setCell ⟨R, 7, none⟩ (.int .u8 ((y7 : Nat) : Int))).setCell ⟨R, 8, none⟩ (.int .u8 ((y8 : Nat) : Int))).setCell ⟨R, 9, none⟩ (.int .u8 ((y9 : Nat) : Int))).setCell ⟨R, 10, none⟩ (.int .u8 ((y10 : Nat) : Int))).setCell ⟨R, 11, none⟩ (.int .u8 ((y11 : Nat) : Int))).setCell ⟨R, 12, none⟩ (.int .u8 ((y12 : Nat) : Int))).setCell ⟨R, 13, none⟩ (.int .u8 ((y13 : Nat) : Int))).setCell ⟨R, 14, none⟩ (.int .u8 ((y14 : Nat) : Int))).setCell ⟨R, 15, none⟩ (.int .u8 ((y15 : Nat) : Int)))
theorem store16_arr {W : World} {R : Nat} {l : List Nat} (y0 y1 y2 y3 y4 y5 y6 y7 y8 y9 y10 y11 y12 y13 y14 y15 : Nat) (h : ArrI .u8 16 W R l) : ArrI .u8 16 (store16 W R y0 y1 y2 y3 y4 y5 y6 y7 y8 y9 y10 y11 y12 y13 y14 y15) R [y0, y1, y2, y3, y4, y5, y6, y7, y8, y9, y10, y11, y12, y13, y14, y15] := by
  obtain ⟨z0, z1, z2, z3, z4, z5, z6, z7, z8, z9, z10, z11, z12, z13, z14, z15, rfl⟩ := list16 l h.len
  exact ((((((((((((((((h.set (i := 0) (by decide) y0).set (i := 1) (by decide) y1).set (i := 2) (by decide) y2).set (i := 3) (by decide) y3).set (i := 4) (by decide) y4).set (i := 5) (by decide) y5).set (i := 6) (by decide) y6).set (i := 7) (by decide) y7).set (i := 8) (by decide) y8).set (i := 9) (by decide) y9).set (i := 10) (by decide) y10).set (i := 11) (by decide) y11).set (i := 12) (by decide) y12).set (i := 13) (by decide) y13).set (i := 14) (by decide) y14).set (i := 15) (by decide) y15)
theorem store16_below {w W : World} {R : Nat} (y0 y1 y2 y3 y4 y5 y6 y7 y8 y9 y10 y11 y12 y13 y14 y15 : Nat) (h : Below w.heap.size w W) (hR : w.heap.size ≤ R) : Below w.heap.size w (store16 W R y0 y1 y2 y3 y4 y5 y6 y7 y8 y9 y10 y11 y12 y13 y14 y15) :=
  ((((((((((((((((h.setCell (p := ⟨R, 0, none⟩) hR _).setCell (p := ⟨R, 1, none⟩) hR _).setCell (p := ⟨R, 2, none⟩) hR _).setCell (p := ⟨R, 3, none⟩) hR _).setCell (p := ⟨R, 4, none⟩) hR _).setCell (p := ⟨R, 5, none⟩) hR _).setCell (p := ⟨R, 6, none⟩) hR _).setCell (p := ⟨R, 7, none⟩) hR _).setCell (p := ⟨R, 8, none⟩) hR _).setCell (p := ⟨R, 9, none⟩) hR _).setCell (p := ⟨R, 10, none⟩) hR _).setCell (p := ⟨R, 11, none⟩) hR _).setCell (p := ⟨R, 12, none⟩) hR _).setCell (p := ⟨R, 13, none⟩) hR _).setCell (p := ⟨R, 14, none⟩) hR _).setCell (p := ⟨R, 15, none⟩) hR _)
theorem ArrI.all16 {w : World} {B : Nat} {y0 y1 y2 y3 y4 y5 y6 y7 y8 y9 y10 y11 y12 y13 y14 y15 : Nat} (h : ArrI .u8 16 w B [y0, y1, y2, y3, y4, y5, y6, y7, y8, y9, y10, y11, y12, y13, y14, y15]) :
    w.cell? ⟨B, 0, none⟩ = some (.int .u8 (y0 : Int)) ∧ w.cell? ⟨B, 1, none⟩ = some (.int .u8 (y1 : Int)) ∧ w.cell? ⟨B, 2, none⟩ = some (.int .u8 (y2 : Int)) ∧ w.cell? ⟨B, 3, none⟩ = some (.int .u8 (y3 : Int)) ∧ w.cell? ⟨B, 4, none⟩ = some (.int .u8 (y4 : Int)) ∧ w.cell? ⟨B, 5, none⟩ = some (.int .u8 (y5 : Int)) ∧ w.cell? ⟨B, 6, none⟩ = some (.int .u8 (y6 : Int)) ∧ w.cell? ⟨B, 7, none⟩ = some (.int .u8 (y7 : Int)) ∧ w.cell? ⟨B, 8, none⟩ = some (.int .u8 (y8 : Int)) ∧ w.cell? ⟨B, 9, none⟩ = some (.int .u8 (y9 : Int)) ∧ w.cell? ⟨B, 10, none⟩ = some (.int .u8 (y10 : Int)) ∧ w.cell? ⟨B, 11, none⟩ = some (.int .u8 (y11 : Int)) ∧ w.cell? ⟨B, 12, none⟩ = some (.int .u8 (y12 : Int)) ∧ w.cell? ⟨B, 13, none⟩ = some (.int .u8 (y13 : Int)) ∧ w.cell? ⟨B, 14, none⟩ = some (.int .u8 (y14 : Int)) ∧ w.cell? ⟨B, 15, none⟩ = some (.int .u8 (y15 : Int)) :=
  ⟨h.cells 0 (by decide), h.cells 1 (by decide), h.cells 2 (by decide), h.cells 3 (by decide), h.cells 4 (by decide), h.cells 5 (by decide), h.cells 6 (by decide), h.cells 7 (by decide), h.cells 8 (by decide), h.cells 9 (by decide), h.cells 10 (by decide), h.cells 11 (by decide), h.cells 12 (by decide), h.cells 13 (by decide), h.cells 14 (by decide), h.cells 15 (by decide)⟩
theorem ArrI.lives16 {w : World} {B : Nat} {l : List Nat} (h : ArrI .u8 16 w B l) :
    w.frozen? ⟨B, 0, none⟩ = false ∧ w.frozen? ⟨B, 1, none⟩ = false ∧ w.frozen? ⟨B, 2, none⟩ = false ∧ w.frozen? ⟨B, 3, none⟩ = false ∧ w.frozen? ⟨B, 4, none⟩ = false ∧ w.frozen? ⟨B, 5, none⟩ = false ∧ w.frozen? ⟨B, 6, none⟩ = false ∧ w.frozen? ⟨B, 7, none⟩ = false ∧ w.frozen? ⟨B, 8, none⟩ = false ∧ w.frozen? ⟨B, 9, none⟩ = false ∧ w.frozen? ⟨B, 10, none⟩ = false ∧ w.frozen? ⟨B, 11, none⟩ = false ∧ w.frozen? ⟨B, 12, none⟩ = false ∧ w.frozen? ⟨B, 13, none⟩ = false ∧ w.frozen? ⟨B, 14, none⟩ = false ∧ w.frozen? ⟨B, 15, none⟩ = false :=
  ⟨h.live 0 (by decide), h.live 1 (by decide), h.live 2 (by decide), h.live 3 (by decide), h.live 4 (by decide), h.live 5 (by decide), h.live 6 (by decide), h.live 7 (by decide), h.live 8 (by decide), h.live 9 (by decide), h.live 10 (by decide), h.live 11 (by decide), h.live 12 (by decide), h.live 13 (by decide), h.live 14 (by decide), h.live 15 (by decide)⟩
theorem zeros16 : (#[.int .u8 0, .int .u8 0, .int .u8 0, .int .u8 0, .int .u8 0, .int .u8 0, .int .u8 0, .int .u8 0, .int .u8 0, .int .u8 0, .int .u8 0, .int .u8 0, .int .u8 0, .int .u8 0, .int .u8 0, .int .u8 0] : Array Value).toList = (List.replicate 16 0).map fun x => Value.int .u8 ((x : Nat) : Int) := rfl

set_option maxRecDepth 100000 in
set_option maxHeartbeats 2000000 in
theorem sixBytes_any (gs : List Nat) (w : World) (h8 : gs.length = 8) (hlt : ∀ x ∈ gs, x < 65536) :
    Calls Tryd.prog 45 #[arr8 gs] w fun e w' => e = .returned (arr16 (byL gs)) ∧ Below w.heap.size w w' := by
  obtain ⟨x0, x1, x2, x3, x4, x5, x6, x7, hgs⟩ := list8 gs h8
  have ha : arr8 gs = .agg #[.int .u16 (x0 : Int), .int .u16 (x1 : Int), .int .u16 (x2 : Int), .int .u16 (x3 : Int), .int .u16 (x4 : Int), .int .u16 (x5 : Int), .int .u16 (x6 : Int), .int .u16 (x7 : Int)] := by rw [hgs]; rfl
  have hA := Arr8.new w 33 x0 x1 x2 x3 x4 x5 x6 x7
  rw [← hgs] at hA
  have b1 : Below w.heap.size w (w.alloc (.cells #[.int .u16 (x0 : Int), .int .u16 (x1 : Int), .int .u16 (x2 : Int), .int .u16 (x3 : Int), .int .u16 (x4 : Int), .int .u16 (x5 : Int), .int .u16 (x6 : Int), .int .u16 (x7 : Int)] 33)) := (Below.refl _ _).alloc (Nat.le_refl _) _
  have b2 := b1.alloc b1.size (.cells #[.int .u8 0, .int .u8 0, .int .u8 0, .int .u8 0, .int .u8 0, .int .u8 0, .int .u8 0, .int .u8 0, .int .u8 0, .int .u8 0, .int .u8 0, .int .u8 0, .int .u8 0, .int .u8 0, .int .u8 0, .int .u8 0] 23)
  have b3 := b2.alloc b2.size (.cells #[.int .u8 0, .int .u8 0, .int .u8 0, .int .u8 0, .int .u8 0, .int .u8 0, .int .u8 0, .int .u8 0, .int .u8 0, .int .u8 0, .int .u8 0, .int .u8 0, .int .u8 0, .int .u8 0, .int .u8 0, .int .u8 0] 23)
  have hR := ArrI.of (w.alloc (.cells #[.int .u16 (x0 : Int), .int .u16 (x1 : Int), .int .u16 (x2 : Int), .int .u16 (x3 : Int), .int .u16 (x4 : Int), .int .u16 (x5 : Int), .int .u16 (x6 : Int), .int .u16 (x7 : Int)] 33)) #[.int .u8 0, .int .u8 0, .int .u8 0, .int .u8 0, .int .u8 0, .int .u8 0, .int .u8 0, .int .u8 0, .int .u8 0, .int .u8 0, .int .u8 0, .int .u8 0, .int .u8 0, .int .u8 0, .int .u8 0, .int .u8 0] 23 (List.replicate 16 0) zeros16 (n := 16) rfl
  have hP := ArrI.of ((w.alloc (.cells #[.int .u16 (x0 : Int), .int .u16 (x1 : Int), .int .u16 (x2 : Int), .int .u16 (x3 : Int), .int .u16 (x4 : Int), .int .u16 (x5 : Int), .int .u16 (x6 : Int), .int .u16 (x7 : Int)] 33)).alloc (.cells #[.int .u8 0, .int .u8 0, .int .u8 0, .int .u8 0, .int .u8 0, .int .u8 0, .int .u8 0, .int .u8 0, .int .u8 0, .int .u8 0, .int .u8 0, .int .u8 0, .int .u8 0, .int .u8 0, .int .u8 0, .int .u8 0] 23)) #[.int .u8 0, .int .u8 0, .int .u8 0, .int .u8 0, .int .u8 0, .int .u8 0, .int .u8 0, .int .u8 0, .int .u8 0, .int .u8 0, .int .u8 0, .int .u8 0, .int .u8 0, .int .u8 0, .int .u8 0, .int .u8 0] 23 (List.replicate 16 0) zeros16 (n := 16) rfl
  have hA2 := (hA.below ((Below.refl _ _).alloc (Nat.le_refl _) (.cells #[.int .u8 0, .int .u8 0, .int .u8 0, .int .u8 0, .int .u8 0, .int .u8 0, .int .u8 0, .int .u8 0, .int .u8 0, .int .u8 0, .int .u8 0, .int .u8 0, .int .u8 0, .int .u8 0, .int .u8 0, .int .u8 0] 23))).below ((Below.refl _ _).alloc (Nat.le_refl _) (.cells #[.int .u8 0, .int .u8 0, .int .u8 0, .int .u8 0, .int .u8 0, .int .u8 0, .int .u8 0, .int .u8 0, .int .u8 0, .int .u8 0, .int .u8 0, .int .u8 0, .int .u8 0, .int .u8 0, .int .u8 0, .int .u8 0] 23))
  have hR2 := hR.below ((Below.refl _ _).alloc (Nat.le_refl _) (.cells #[.int .u8 0, .int .u8 0, .int .u8 0, .int .u8 0, .int .u8 0, .int .u8 0, .int .u8 0, .int .u8 0, .int .u8 0, .int .u8 0, .int .u8 0, .int .u8 0, .int .u8 0, .int .u8 0, .int .u8 0, .int .u8 0] 23))
  have e1 : (w.alloc (.cells #[.int .u16 (x0 : Int), .int .u16 (x1 : Int), .int .u16 (x2 : Int), .int .u16 (x3 : Int), .int .u16 (x4 : Int), .int .u16 (x5 : Int), .int .u16 (x6 : Int), .int .u16 (x7 : Int)] 33)).heap.size = w.heap.size + 1 := by simp
  have e2 : ((w.alloc (.cells #[.int .u16 (x0 : Int), .int .u16 (x1 : Int), .int .u16 (x2 : Int), .int .u16 (x3 : Int), .int .u16 (x4 : Int), .int .u16 (x5 : Int), .int .u16 (x6 : Int), .int .u16 (x7 : Int)] 33)).alloc (.cells #[.int .u8 0, .int .u8 0, .int .u8 0, .int .u8 0, .int .u8 0, .int .u8 0, .int .u8 0, .int .u8 0, .int .u8 0, .int .u8 0, .int .u8 0, .int .u8 0, .int .u8 0, .int .u8 0, .int .u8 0, .int .u8 0] 23)).heap.size = w.heap.size + 1 + 1 := by simp
  rw [e1] at hR2
  rw [e2] at hP
  rw [ha]
  have H8 := Lib.hid h8
  have HLT := Lib.hid hlt
  clear ha hgs h8 hlt hA hR b1 b2
  go_enter Tryd.func45, Tryd.ntmps45
  go_wp2_with fail
  generalize (((w.alloc (.cells #[.int .u16 (x0 : Int), .int .u16 (x1 : Int), .int .u16 (x2 : Int), .int .u16 (x3 : Int), .int .u16 (x4 : Int), .int .u16 (x5 : Int), .int .u16 (x6 : Int), .int .u16 (x7 : Int)] 33)).alloc (.cells #[.int .u8 0, .int .u8 0, .int .u8 0, .int .u8 0, .int .u8 0, .int .u8 0, .int .u8 0, .int .u8 0, .int .u8 0, .int .u8 0, .int .u8 0, .int .u8 0, .int .u8 0, .int .u8 0, .int .u8 0, .int .u8 0] 23)).alloc (.cells #[.int .u8 0, .int .u8 0, .int .u8 0, .int .u8 0, .int .u8 0, .int .u8 0, .int .u8 0, .int .u8 0, .int .u8 0, .int .u8 0, .int .u8 0, .int .u8 0, .int .u8 0, .int .u8 0, .int .u8 0, .int .u8 0] 23)) = W at *
  clear e1 e2
  have HA := Lib.hid hA2
  have HR := Lib.hid hR2
  have HP := Lib.hid hP
  clear hA2 hR2 hP
  go_loopw [5] (fun i wr => ∃ (k : Nat) (l : List Nat), k ≤ 8 ∧ i = .int .i64 k ∧ Hid (Arr8 wr w.heap.size gs) ∧ Hid (ArrI .u8 16 wr (w.heap.size + 1) (List.replicate 16 0)) ∧ Hid (ArrI .u8 16 wr (w.heap.size + 1 + 1) l) ∧ Hid (l = byL (gs.take k) ++ List.replicate (16 - 2 * k) 0) ∧ Below w.heap.size w wr) (fun i _ => 8 - (intOf i).toNat)
  case atStart => exact ⟨0, _, by decide, rfl, HA, HR, HP, Lib.hid rfl, b3⟩
  case round =>
    obtain ⟨k, l, hk, rfl, HA2, HR2, HP2, HL, hbel⟩ := hrel
    by_cases hk8 : k < 8
    · have hcell := HA2.out.cells k hk8
      have hx : gs.getD k 0 < 65536 := by
        rw [List.getD_eq_getElem?_getD, List.getElem?_eq_getElem (by rw [H8.out]; exact hk8)]
        exact HLT.out _ (List.getElem_mem _)
      have et : gs.take (k + 1) = gs.take k ++ [gs.getD k 0] := by
        rw [List.take_add_one, List.getD_eq_getElem?_getD, List.getElem?_eq_getElem (by rw [H8.out]; exact hk8)]; rfl
      obtain ⟨x, ex⟩ : ∃ x, gs.getD k 0 = x := ⟨_, rfl⟩
      rw [ex] at hcell hx et
      obtain ⟨c, hc, ec⟩ : ∃ c : Nat, 2 * k = c ∧ (2 : Int) * (k : Int) = (c : Int) := ⟨_, rfl, by omega⟩
      obtain ⟨hi, hhi, ehi⟩ : ∃ hi : Nat, x / 256 = hi ∧ (x : Int) / 256 = (hi : Int) := ⟨_, rfl, by omega⟩
      obtain ⟨lo, hlo⟩ : ∃ lo : Nat, x % 256 = lo := ⟨_, rfl⟩
      have whi : IntKind.u8.wrap (hi : Int) = (hi : Int) := by rw [IntKind.wrap_u8]; omega
      have wlo : IntKind.u8.wrap (x : Int) = (lo : Int) := by rw [IntKind.wrap_u8]; omega
      have hc15 : c + 1 < 16 := by omega
      have c0 : (0 : Int) ≤ (c : Int) := by omega
      have c1 : (c : Int) < 16 := by omega
      have c2 : (c : Int) + 1 < 16 := by omega
      have c3 : (0 : Int) ≤ (c : Int) + 1 := by omega
      have k0 : (0 : Int) ≤ (k : Int) := by omega
      have k1 : (k : Int) < 8 := by omega
      have hp0 := HP2.out.cells c (by omega)
      have hp1 := HP2.out.cells (c + 1) (by omega)
      have hl0 := HP2.out.live c (by omega)
      have hl1 := HP2.out.live (c + 1) (by omega)
      generalize l.getD c 0 = o0 at hp0
      generalize l.getD (c + 1) 0 = o1 at hp1
      have HS := Lib.hid ((HP2.out.set (i := c) (by omega) hi).set (i := c + 1) (by omega) lo)
      have HE : Hid (((l.set c hi).set (c + 1) lo) = byL (gs.take (k + 1)) ++ List.replicate (16 - 2 * (k + 1)) 0) := Lib.hid (by
        rw [HL.out, et, byL_snoc, ← hc, ← hhi, ← hlo]
        exact set_two _ k _ _ hk8 (by rw [byL_len, List.length_take, H8.out]; omega))
      clear ex et hc hhi hlo
      go_wp2_with fail
      go_region
      go_wp2_with fail
      go_roundw
      case rel => exact ⟨k + 1, (l.set c hi).set (c + 1) lo, by omega, by go_num, Lib.hid (((HA2.out.other (by omega) _).other (by omega) _).below (Below.refl _ _).drew), Lib.hid (((HR2.out.other (by omega) _).other (by omega) _).below (Below.refl _ _).drew), Lib.hid (HS.out.below (Below.refl _ _).drew), HE, ((hbel.setCell (p := ⟨w.heap.size + 1 + 1, c, none⟩) (by show w.heap.size ≤ w.heap.size + 1 + 1; omega) _).setCell (p := ⟨w.heap.size + 1 + 1, c + 1, none⟩) (by show w.heap.size ≤ w.heap.size + 1 + 1; omega) _).drew⟩
      case measure => simp [intOf]; omega
    · obtain rfl : k = 8 := by omega
      have hll : l = byL gs := by rw [HL.out, List.take_of_length_le (by rw [H8.out]; exact Nat.le_refl _)]; simp
      subst hll
      have hP8 := HP2.out
      obtain ⟨y0, y1, y2, y3, y4, y5, y6, y7, y8, y9, y10, y11, y12, y13, y14, y15, hy⟩ := list16 (byL gs) hP8.len
      rw [hy] at hP8
      have HY := Lib.hid hy
      obtain ⟨c0, c1, c2, c3, c4, c5, c6, c7, c8, c9, c10, c11, c12, c13, c14, c15⟩ := hP8.all16
      obtain ⟨r0, r1, r2, r3, r4, r5, r6, r7, r8, r9, r10, r11, r12, r13, r14, r15⟩ := (show ArrI .u8 16 wr (w.heap.size + 1) [0, 0, 0, 0, 0, 0, 0, 0, 0, 0, 0, 0, 0, 0, 0, 0] from HR2.out).all16
      obtain ⟨f0, f1, f2, f3, f4, f5, f6, f7, f8, f9, f10, f11, f12, f13, f14, f15⟩ := HR2.out.lives16
      have E1 := Lib.hid (store16_arr y0 y1 y2 y3 y4 y5 y6 y7 y8 y9 y10 y11 y12 y13 y14 y15 HR2.out)
      have E2 := Lib.hid (store16_below y0 y1 y2 y3 y4 y5 y6 y7 y8 y9 y10 y11 y12 y13 y14 y15 hbel (show w.heap.size ≤ w.heap.size + 1 by omega))
      clear hP8 hy
      go_wp2_with fail
      change bodyPost _ _ _ _ _ (store16 wr (w.heap.size + 1) y0 y1 y2 y3 y4 y5 y6 y7 y8 y9 y10 y11 y12 y13 y14 y15)
      generalize store16 wr (w.heap.size + 1) y0 y1 y2 y3 y4 y5 y6 y7 y8 y9 y10 y11 y12 y13 y14 y15 = W at *
      clear c0 c1 c2 c3 c4 c5 c6 c7 c8 c9 c10 c11 c12 c13 c14 c15 r0 r1 r2 r3 r4 r5 r6 r7 r8 r9 r10 r11 r12 r13 r14 r15 f0 f1 f2 f3 f4 f5 f6 f7 f8 f9 f10 f11 f12 f13 f14 f15
      obtain ⟨r0, r1, r2, r3, r4, r5, r6, r7, r8, r9, r10, r11, r12, r13, r14, r15⟩ := E1.out.all16
      refine bodyPost_ret (v := arr16 [y0, y1, y2, y3, y4, y5, y6, y7, y8, y9, y10, y11, y12, y13, y14, y15]) (by simp [results, Tryd.results45, go_sem, r0, r1, r2, r3, r4, r5, r6, r7, r8, r9, r10, r11, r12, r13, r14, r15, arr16]) rfl ⟨by rw [HY.out], E2.out⟩

theorem zeros8u : (#[.int .u16 0, .int .u16 0, .int .u16 0, .int .u16 0, .int .u16 0, .int .u16 0, .int .u16 0, .int .u16 0] : Array Value).toList = (List.replicate 8 0).map fun x => Value.int .u16 ((x : Nat) : Int) := rfl

set_option maxRecDepth 100000 in
set_option maxHeartbeats 2000000 in
theorem sixOf_any (bs : List Nat) (w : World) (h16 : bs.length = 16) (hlt : ∀ x ∈ bs, x < 256) :
    Calls Tryd.prog 40 #[arr16 bs] w fun e w' => e = .returned (arr8 (grL bs 8)) ∧ Below w.heap.size w w' := by
  obtain ⟨y0, y1, y2, y3, y4, y5, y6, y7, y8, y9, y10, y11, y12, y13, y14, y15, hbs⟩ := list16 bs h16
  have ha : arr16 bs = .agg #[.int .u8 (y0 : Int), .int .u8 (y1 : Int), .int .u8 (y2 : Int), .int .u8 (y3 : Int), .int .u8 (y4 : Int), .int .u8 (y5 : Int), .int .u8 (y6 : Int), .int .u8 (y7 : Int), .int .u8 (y8 : Int), .int .u8 (y9 : Int), .int .u8 (y10 : Int), .int .u8 (y11 : Int), .int .u8 (y12 : Int), .int .u8 (y13 : Int), .int .u8 (y14 : Int), .int .u8 (y15 : Int)] := by rw [hbs]; rfl
  have hB := ArrI.of w #[.int .u8 (y0 : Int), .int .u8 (y1 : Int), .int .u8 (y2 : Int), .int .u8 (y3 : Int), .int .u8 (y4 : Int), .int .u8 (y5 : Int), .int .u8 (y6 : Int), .int .u8 (y7 : Int), .int .u8 (y8 : Int), .int .u8 (y9 : Int), .int .u8 (y10 : Int), .int .u8 (y11 : Int), .int .u8 (y12 : Int), .int .u8 (y13 : Int), .int .u8 (y14 : Int), .int .u8 (y15 : Int)] 23 bs (k := .u8) (n := 16) (by rw [hbs]; rfl) h16
  have b1 : Below w.heap.size w (w.alloc (.cells #[.int .u8 (y0 : Int), .int .u8 (y1 : Int), .int .u8 (y2 : Int), .int .u8 (y3 : Int), .int .u8 (y4 : Int), .int .u8 (y5 : Int), .int .u8 (y6 : Int), .int .u8 (y7 : Int), .int .u8 (y8 : Int), .int .u8 (y9 : Int), .int .u8 (y10 : Int), .int .u8 (y11 : Int), .int .u8 (y12 : Int), .int .u8 (y13 : Int), .int .u8 (y14 : Int), .int .u8 (y15 : Int)] 23)) := (Below.refl _ _).alloc (Nat.le_refl _) _
  have b2 := b1.alloc b1.size (.cells #[.int .u16 0, .int .u16 0, .int .u16 0, .int .u16 0, .int .u16 0, .int .u16 0, .int .u16 0, .int .u16 0] 33)
  have b3 := b2.alloc b2.size (.cells #[.int .u16 0, .int .u16 0, .int .u16 0, .int .u16 0, .int .u16 0, .int .u16 0, .int .u16 0, .int .u16 0] 33)
  have hR := Arr8.zero (w.alloc (.cells #[.int .u8 (y0 : Int), .int .u8 (y1 : Int), .int .u8 (y2 : Int), .int .u8 (y3 : Int), .int .u8 (y4 : Int), .int .u8 (y5 : Int), .int .u8 (y6 : Int), .int .u8 (y7 : Int), .int .u8 (y8 : Int), .int .u8 (y9 : Int), .int .u8 (y10 : Int), .int .u8 (y11 : Int), .int .u8 (y12 : Int), .int .u8 (y13 : Int), .int .u8 (y14 : Int), .int .u8 (y15 : Int)] 23)) 33
  have hP := Arr8.zero ((w.alloc (.cells #[.int .u8 (y0 : Int), .int .u8 (y1 : Int), .int .u8 (y2 : Int), .int .u8 (y3 : Int), .int .u8 (y4 : Int), .int .u8 (y5 : Int), .int .u8 (y6 : Int), .int .u8 (y7 : Int), .int .u8 (y8 : Int), .int .u8 (y9 : Int), .int .u8 (y10 : Int), .int .u8 (y11 : Int), .int .u8 (y12 : Int), .int .u8 (y13 : Int), .int .u8 (y14 : Int), .int .u8 (y15 : Int)] 23)).alloc (.cells #[.int .u16 0, .int .u16 0, .int .u16 0, .int .u16 0, .int .u16 0, .int .u16 0, .int .u16 0, .int .u16 0] 33)) 33
  have hB2 := (hB.below ((Below.refl _ _).alloc (Nat.le_refl _) (.cells #[.int .u16 0, .int .u16 0, .int .u16 0, .int .u16 0, .int .u16 0, .int .u16 0, .int .u16 0, .int .u16 0] 33))).below ((Below.refl _ _).alloc (Nat.le_refl _) (.cells #[.int .u16 0, .int .u16 0, .int .u16 0, .int .u16 0, .int .u16 0, .int .u16 0, .int .u16 0, .int .u16 0] 33))
  have hR2 := hR.below ((Below.refl _ _).alloc (Nat.le_refl _) (.cells #[.int .u16 0, .int .u16 0, .int .u16 0, .int .u16 0, .int .u16 0, .int .u16 0, .int .u16 0, .int .u16 0] 33))
  have e1 : (w.alloc (.cells #[.int .u8 (y0 : Int), .int .u8 (y1 : Int), .int .u8 (y2 : Int), .int .u8 (y3 : Int), .int .u8 (y4 : Int), .int .u8 (y5 : Int), .int .u8 (y6 : Int), .int .u8 (y7 : Int), .int .u8 (y8 : Int), .int .u8 (y9 : Int), .int .u8 (y10 : Int), .int .u8 (y11 : Int), .int .u8 (y12 : Int), .int .u8 (y13 : Int), .int .u8 (y14 : Int), .int .u8 (y15 : Int)] 23)).heap.size = w.heap.size + 1 := by simp
  have e2 : ((w.alloc (.cells #[.int .u8 (y0 : Int), .int .u8 (y1 : Int), .int .u8 (y2 : Int), .int .u8 (y3 : Int), .int .u8 (y4 : Int), .int .u8 (y5 : Int), .int .u8 (y6 : Int), .int .u8 (y7 : Int), .int .u8 (y8 : Int), .int .u8 (y9 : Int), .int .u8 (y10 : Int), .int .u8 (y11 : Int), .int .u8 (y12 : Int), .int .u8 (y13 : Int), .int .u8 (y14 : Int), .int .u8 (y15 : Int)] 23)).alloc (.cells #[.int .u16 0, .int .u16 0, .int .u16 0, .int .u16 0, .int .u16 0, .int .u16 0, .int .u16 0, .int .u16 0] 33)).heap.size = w.heap.size + 1 + 1 := by simp
  rw [e1] at hR2
  rw [e2] at hP
  rw [ha]
  have H16 := Lib.hid h16
  have HLT := Lib.hid hlt
  clear ha hbs h16 hlt hB hR b1 b2
  go_enter Tryd.func40, Tryd.ntmps40
  go_wp2_with fail
  generalize (((w.alloc (.cells #[.int .u8 (y0 : Int), .int .u8 (y1 : Int), .int .u8 (y2 : Int), .int .u8 (y3 : Int), .int .u8 (y4 : Int), .int .u8 (y5 : Int), .int .u8 (y6 : Int), .int .u8 (y7 : Int), .int .u8 (y8 : Int), .int .u8 (y9 : Int), .int .u8 (y10 : Int), .int .u8 (y11 : Int), .int .u8 (y12 : Int), .int .u8 (y13 : Int), .int .u8 (y14 : Int), .int .u8 (y15 : Int)] 23)).alloc (.cells #[.int .u16 0, .int .u16 0, .int .u16 0, .int .u16 0, .int .u16 0, .int .u16 0, .int .u16 0, .int .u16 0] 33)).alloc (.cells #[.int .u16 0, .int .u16 0, .int .u16 0, .int .u16 0, .int .u16 0, .int .u16 0, .int .u16 0, .int .u16 0] 33)) = W at *
  clear e1 e2
  have HB := Lib.hid hB2
  have HR := Lib.hid hR2
  have HP := Lib.hid hP
  clear hB2 hR2 hP
  go_loopw [5] (fun i wr => ∃ (k : Nat) (l : List Nat), k ≤ 8 ∧ i = .int .i64 k ∧ Hid (ArrI .u8 16 wr w.heap.size bs) ∧ Hid (Arr8 wr (w.heap.size + 1) [0, 0, 0, 0, 0, 0, 0, 0]) ∧ Hid (Arr8 wr (w.heap.size + 1 + 1) l) ∧ Hid (l = grL bs k ++ List.replicate (8 - k) 0) ∧ Below w.heap.size w wr) (fun i _ => 8 - (intOf i).toNat)
  case atStart => exact ⟨0, _, by decide, rfl, HB, HR, HP, Lib.hid rfl, b3⟩
  case round =>
    obtain ⟨k, l, hk, rfl, HB2, HR2, HP2, HL, hbel⟩ := hrel
    by_cases hk8 : k < 8
    · have hg : ∀ j, bs.getD j 0 < 256 := by
        intro j
        rw [List.getD_eq_getElem?_getD]
        cases hj : bs[j]? with
        | none => exact Nat.zero_lt_succ _
        | some v => exact HLT.out v (List.mem_of_getElem? hj)
      obtain ⟨c, hc, ec⟩ : ∃ c : Nat, 2 * k = c ∧ (2 : Int) * (k : Int) = (c : Int) := ⟨_, rfl, by omega⟩
      have hc0 := HB2.out.cells c (by omega)
      have hc1 := HB2.out.cells (c + 1) (by omega)
      have hh := hg c
      have hl := hg (c + 1)
      obtain ⟨x, ex⟩ : ∃ x, bs.getD c 0 = x := ⟨_, rfl⟩
      obtain ⟨y, ey⟩ : ∃ y, bs.getD (c + 1) 0 = y := ⟨_, rfl⟩
      rw [ex] at hc0 hh
      rw [ey] at hc1 hl
      have hc15 : c + 1 < 16 := by omega
      have k1 : (k : Int) < 8 := by omega
      have c1 : (c : Int) < 16 := by omega
      have c2 : (c : Int) + 1 < 16 := by omega
      have q1 : IntKind.u16.wrap ((x : Int) * 256) = (x : Int) * 256 := by rw [IntKind.wrap_u16]; omega
      have q2 : bits .or .u16 ((x : Int) * 256) (y : Int) = ((x * 256 + y : Nat) : Int) := by
        rw [bits_join .u16 16 (by decide) (fun n h0 h1 => by rw [IntKind.wrap_u16]; omega) 8 ((x : Int) * 256) y (by omega) (by omega) (by omega) (by omega) (by omega) (by omega)]
        omega
      have hp0 := HP2.out.cells k hk8
      have hl0 := HP2.out.live k hk8
      obtain ⟨v, hv⟩ : ∃ v, x * 256 + y = v := ⟨_, rfl⟩
      rw [hv] at q2
      have HS := Lib.hid (HP2.out.set hk8 v)
      have HE : Hid (l.set k v = grL bs (k + 1) ++ List.replicate (8 - (k + 1)) 0) := Lib.hid (by
        rw [HL.out, grL, hc, ex, ey, hv]
        exact set_one _ k _ hk8 (grL_len bs k))
      generalize l.getD k 0 = o0 at hp0
      clear hg ex ey hc hv
      go_wp2_with fail
      go_region
      go_wp2_with fail
      go_roundw
      case rel => exact ⟨k + 1, l.set k v, by omega, by go_num, Lib.hid ((HB2.out.other (by omega) _).below (Below.refl _ _).drew), Lib.hid ((HR2.out.other (by omega) _).below (Below.refl _ _).drew), Lib.hid (HS.out.below (Below.refl _ _).drew), HE, (hbel.setCell (p := ⟨w.heap.size + 1 + 1, k, none⟩) (by show w.heap.size ≤ w.heap.size + 1 + 1; omega) _).drew⟩
      case measure => simp [intOf]; omega
    · obtain rfl : k = 8 := by omega
      have hll : l = grL bs 8 := by rw [HL.out]; simp
      subst hll
      have hP8 := HP2.out
      obtain ⟨x0, x1, x2, x3, x4, x5, x6, x7, hx⟩ := list8 (grL bs 8) hP8.len
      rw [hx] at hP8
      have HX := Lib.hid hx
      obtain ⟨c0, c1, c2, c3, c4, c5, c6, c7⟩ := hP8.all
      obtain ⟨r0, r1, r2, r3, r4, r5, r6, r7⟩ := HR2.out.all
      obtain ⟨f0, f1, f2, f3, f4, f5, f6, f7⟩ := HR2.out.lives
      have E1 := Lib.hid (store8_arr x0 x1 x2 x3 x4 x5 x6 x7 HR2.out)
      have E2 := Lib.hid (store8_below x0 x1 x2 x3 x4 x5 x6 x7 hbel (show w.heap.size ≤ w.heap.size + 1 by omega))
      clear hP8 hx
      go_wp2_with fail
      change bodyPost _ _ _ _ _ (store8 wr (w.heap.size + 1) x0 x1 x2 x3 x4 x5 x6 x7)
      generalize store8 wr (w.heap.size + 1) x0 x1 x2 x3 x4 x5 x6 x7 = W at *
      clear c0 c1 c2 c3 c4 c5 c6 c7 r0 r1 r2 r3 r4 r5 r6 r7 f0 f1 f2 f3 f4 f5 f6 f7
      obtain ⟨r0, r1, r2, r3, r4, r5, r6, r7⟩ := E1.out.all
      refine bodyPost_ret (v := arr8 [x0, x1, x2, x3, x4, x5, x6, x7]) (by simp [results, Tryd.results40, go_sem, r0, r1, r2, r3, r4, r5, r6, r7, arr8]) rfl ⟨by rw [HX.out], E2.out⟩
end Go.Proofs.YtickghbjhiegnaaDoor
/- Contracts of addr.Four, addr.mapped, addr.Of4, addr.Of6. -/
namespace Go.Proofs.YtickghbjhiegnaaDoor
open Go.RowKit
set_option linter.unusedVariables false
set_option maxRecDepth 20000

theorem fourB_eq (bs : List Nat) : ((bs.getD 0 0 * 256 + bs.getD 1 0) * 256 + bs.getD 2 0) * 256 + bs.getD 3 0 = fourB bs := by
  simp [fourB, fourTo]
set_option maxRecDepth 100000 in
set_option maxHeartbeats 1000000 in
theorem addrFour_any (f : Int) (bs : List Nat) (w : World) (h16 : bs.length = 16) (hlt : ∀ x ∈ bs, x < 256) :
    Calls Tryd.prog 22 #[addrV f bs] w fun e w' => e = .returned (.int .u32 ((fourB bs : Nat) : Int)) ∧ Below w.heap.size w w' := by
  obtain ⟨cs, ecs, HA, HB⟩ := addr_boxed f bs w h16
  rw [ecs]
  have HO := fun W => Lib.hid (of_any (bs.getD 0 0) (bs.getD 1 0) (bs.getD 2 0) (bs.getD 3 0) W (byte_lt hlt 0) (byte_lt hlt 1) (byte_lt hlt 2) (byte_lt hlt 3))
  rw [fourB_eq] at HO
  generalize fourB bs = n at *
  clear ecs h16 hlt
  go_enter Tryd.func22, Tryd.ntmps22
  go_upto_region 1 with fail
  generalize (w.alloc (.cells cs 25)) = W at *
  have c0 : W.cell? ⟨w.heap.size, 1, none⟩ = some (.int .u8 ((bs.getD 0 0 : Nat) : Int)) := HA.out.cells 0 (by decide)
  have c1 : W.cell? ⟨w.heap.size, 2, none⟩ = some (.int .u8 ((bs.getD 1 0 : Nat) : Int)) := HA.out.cells 1 (by decide)
  have c2 : W.cell? ⟨w.heap.size, 3, none⟩ = some (.int .u8 ((bs.getD 2 0 : Nat) : Int)) := HA.out.cells 2 (by decide)
  have c3 : W.cell? ⟨w.heap.size, 4, none⟩ = some (.int .u8 ((bs.getD 3 0 : Nat) : Int)) := HA.out.cells 3 (by decide)
  generalize bs.getD 0 0 = a at *
  generalize bs.getD 1 0 = b at *
  generalize bs.getD 2 0 = c at *
  generalize bs.getD 3 0 = d at *
  unfold arr4 at HO
  go_wp2_with fail
  refine (HO W).out.mono ?_
  rintro e w1 ⟨rfl, hb1⟩
  go_wp2_with fail
  go_ret
  exact ⟨rfl, chain HB.out hb1⟩

/-- The bytes of the one that is unmapped to n. -/
def mapL (n : Nat) : List Nat := [0, 0, 0, 0, 0, 0, 0, 0, 0, 0, 255, 255, n / 16777216 % 256, n / 65536 % 256, n / 256 % 256, n % 256]
set_option maxRecDepth 100000 in
set_option maxHeartbeats 1000000 in
theorem addrMapped_any (n : Nat) (w : World) (hn : n ≤ 4294967295) :
    Calls Tryd.prog 47 #[.int .u32 (n : Int)] w fun e w' => e = .returned (arr16 (mapL n)) ∧ Below w.heap.size w w' := by
  have HE : Hid (mapL n = [0, 0, 0, 0, 0, 0, 0, 0, 0, 0, 255, 255, n / 16777216 % 256, n / 65536 % 256, n / 256 % 256, n % 256]) := Lib.hid rfl
  have HBy := fun W => Lib.hid (bytes_any (n / 16777216 % 256) (n / 65536 % 256) (n / 256 % 256) (n % 256) n W (by omega) (by omega) (by omega) (by omega) (by unfold num4; omega))
  have HZ := Lib.hid (b16_new w 23 z16 (List.replicate 16 0) rfl rfl)
  have HB : Hid (Below w.heap.size w (w.alloc (.cells z16 23))) := Lib.hid ((Below.refl _ _).alloc (Nat.le_refl _) _)
  generalize n / 16777216 % 256 = a at *
  generalize n / 65536 % 256 = b at *
  generalize n / 256 % 256 = c at *
  generalize n % 256 = d at *
  unfold arr4 at HBy
  go_enter Tryd.func47, Tryd.ntmps47
  go_upto_region 1 with fail
  generalize (w.alloc (.cells z16 23)) = W at *
  go_wp2_with fail
  refine (HBy W).out.mono ?_
  rintro e w1 ⟨rfl, hb1⟩
  have HZ1 := Lib.hid ((HZ.out.below hb1).below ((Below.refl w1.heap.size w1).alloc (Nat.le_refl _) (.cells #[.int .u8 (a : Int), .int .u8 (b : Int), .int .u8 (c : Int), .int .u8 (d : Int)] 54)))
  have HB1 := Lib.hid (chain (chain HB.out hb1) ((Below.refl w1.heap.size w1).alloc (Nat.le_refl _) (.cells #[.int .u8 (a : Int), .int .u8 (b : Int), .int .u8 (c : Int), .int .u8 (d : Int)] 54)))
  clear HZ HB hb1 HBy
  have HLN : Hid ([0, 0, 0, 0, 0, 0, 0, 0, 0, 0, 255, 255, a, b, c, d].length = 16) := Lib.hid rfl
  go_wp2_with (refine store_b16 HZ1 _ _ HLN rfl rfl rfl rfl (fun W HW HA => ?_))
  refine bodyPost_ret (v := arr16 [0, 0, 0, 0, 0, 0, 0, 0, 0, 0, 255, 255, a, b, c, d]) (results_b16 Tryd.results47 rfl HA.out) rfl ⟨by rw [HE.out], by rw [HW.out]; exact below_cells (Nat.le_refl _) _ _ _ HB1.out⟩
/-- An address of 32 bits. -/
theorem b4_list (n : Nat) (hn : n ≤ 4294967295) : b4 n = [n / 16777216 % 256, n / 65536 % 256, n / 256 % 256, n % 256, 0, 0, 0, 0, 0, 0, 0, 0, 0, 0, 0, 0] := b4_eq n
set_option maxRecDepth 100000 in
set_option maxHeartbeats 1000000 in
theorem addrOf4_any (n : Nat) (w : World) (hn : n ≤ 4294967295) :
    Calls Tryd.prog 18 #[.int .u32 (n : Int)] w fun e w' => e = .returned (addrV 4 (b4 n)) ∧ Below w.heap.size w w' := by
  have HE := Lib.hid (b4_eq n)
  have HBy := fun W => Lib.hid (bytes_any (n / 16777216 % 256) (n / 65536 % 256) (n / 256 % 256) (n % 256) n W (by omega) (by omega) (by omega) (by omega) (by unfold num4; omega))
  have HZ := Lib.hid (addr_zeroed w)
  have HB : Hid (Below w.heap.size w (w.alloc (.cells zA 25))) := Lib.hid ((Below.refl _ _).alloc (Nat.le_refl _) _)
  generalize n / 16777216 % 256 = a at *
  generalize n / 65536 % 256 = b at *
  generalize n / 256 % 256 = c at *
  generalize n % 256 = d at *
  unfold arr4 at HBy
  go_enter Tryd.func18, Tryd.ntmps18
  go_upto_region 1 with fail
  generalize (w.alloc (.cells zA 25)) = W at *
  go_wp2_with fail
  refine (HBy W).out.mono ?_
  rintro e w1 ⟨rfl, hb1⟩
  have HZ1 := Lib.hid ((HZ.out.below hb1).alloc (.cells #[.int .u8 (a : Int), .int .u8 (b : Int), .int .u8 (c : Int), .int .u8 (d : Int)] 54))
  have HB1 := Lib.hid (chain (chain HB.out hb1) ((Below.refl w1.heap.size w1).alloc (Nat.le_refl _) (.cells #[.int .u8 (a : Int), .int .u8 (b : Int), .int .u8 (c : Int), .int .u8 (d : Int)] 54)))
  clear HZ HB hb1 HBy
  have HLN : Hid ([a, b, c, d, 0, 0, 0, 0, 0, 0, 0, 0, 0, 0, 0, 0].length = 16) := Lib.hid rfl
  go_wp2_with (refine store_addr HZ1 _ _ HLN rfl rfl rfl rfl (fun W HW HA => ?_))
  refine bodyPost_ret (v := addrV 4 [a, b, c, d, 0, 0, 0, 0, 0, 0, 0, 0, 0, 0, 0, 0]) (results_addr Tryd.results18 rfl HA.out) rfl ⟨by rw [HE.out], by rw [HW.out]; exact below_cells (Nat.le_refl _) _ _ _ HB1.out⟩
set_option maxRecDepth 100000 in
set_option maxHeartbeats 1000000 in
theorem addrOf6_any (gs : List Nat) (w : World) (h8 : gs.length = 8) (hlt : ∀ x ∈ gs, x < 65536) :
    Calls Tryd.prog 20 #[arr8 gs] w fun e w' => e = .returned (addrV 6 (byL gs)) ∧ Below w.heap.size w w' := by
  have HBy := fun W => Lib.hid (sixBytes_any gs W h8 hlt)
  obtain ⟨x0, x1, x2, x3, x4, x5, x6, x7, hgs⟩ := list8 gs h8
  have ha : arr8 gs = .agg #[.int .u16 (x0 : Int), .int .u16 (x1 : Int), .int .u16 (x2 : Int), .int .u16 (x3 : Int), .int .u16 (x4 : Int), .int .u16 (x5 : Int), .int .u16 (x6 : Int), .int .u16 (x7 : Int)] := by rw [hgs]; rfl
  obtain ⟨y0, y1, y2, y3, y4, y5, y6, y7, y8, y9, y10, y11, y12, y13, y14, y15, hbs⟩ := list16 (byL gs) (by rw [byL_len, h8])
  have HZ := addr_zeroed (w.alloc (.cells #[.int .u16 (x0 : Int), .int .u16 (x1 : Int), .int .u16 (x2 : Int), .int .u16 (x3 : Int), .int .u16 (x4 : Int), .int .u16 (x5 : Int), .int .u16 (x6 : Int), .int .u16 (x7 : Int)] 33))
  rw [heap_alloc] at HZ
  have b1 : Below w.heap.size w (w.alloc (.cells #[.int .u16 (x0 : Int), .int .u16 (x1 : Int), .int .u16 (x2 : Int), .int .u16 (x3 : Int), .int .u16 (x4 : Int), .int .u16 (x5 : Int), .int .u16 (x6 : Int), .int .u16 (x7 : Int)] 33)) := (Below.refl _ _).alloc (Nat.le_refl _) _
  have HB := Lib.hid (b1.alloc b1.size (.cells zA 25))
  have hA := (Arr8.of8 w 33 x0 x1 x2 x3 x4 x5 x6 x7).below ((Below.refl _ _).alloc (Nat.le_refl _) (.cells zA 25))
  have HE := Lib.hid hbs
  rw [ha] at HBy ⊢
  rw [hbs] at HBy
  unfold arr16 at HBy
  have HZH := Lib.hid HZ
  clear HZ b1 ha hgs hbs h8 hlt
  go_enter Tryd.func20, Tryd.ntmps20
  go_upto_region 1 with fail
  generalize ((w.alloc (.cells #[.int .u16 (x0 : Int), .int .u16 (x1 : Int), .int .u16 (x2 : Int), .int .u16 (x3 : Int), .int .u16 (x4 : Int), .int .u16 (x5 : Int), .int .u16 (x6 : Int), .int .u16 (x7 : Int)] 33)).alloc (.cells zA 25)) = W at *
  obtain ⟨c0, c1, c2, c3, c4, c5, c6, c7⟩ := hA.all
  go_wp2_with fail
  refine (HBy W).out.mono ?_
  rintro e w1 ⟨rfl, hb1⟩
  have HZ1 := Lib.hid (HZH.out.below hb1)
  have HB1 := Lib.hid (chain HB.out hb1)
  clear HZH HB hb1 HBy hA c0 c1 c2 c3 c4 c5 c6 c7
  have HLN : Hid ([y0, y1, y2, y3, y4, y5, y6, y7, y8, y9, y10, y11, y12, y13, y14, y15].length = 16) := Lib.hid rfl
  go_wp2_with (refine store_addr HZ1 _ _ HLN rfl rfl rfl rfl (fun W HW HA => ?_))
  refine bodyPost_ret (v := addrV 6 [y0, y1, y2, y3, y4, y5, y6, y7, y8, y9, y10, y11, y12, y13, y14, y15]) (results_addr Tryd.results20 rfl HA.out) rfl ⟨by rw [HE.out], by rw [HW.out]; exact below_cells (by omega) _ _ _ HB1.out⟩
end Go.Proofs.YtickghbjhiegnaaDoor
/- Two addresses, held against each other: they are equal, if their families are and all their bytes. -/
namespace Go.Proofs.YtickghbjhiegnaaDoor
open Go.RowKit
set_option linter.unusedVariables false
set_option maxRecDepth 20000

theorem run_eq_ints_at (d : Nat) (W : World) {t e : TypeId} {n : Nat} {k : IntKind} {i : TypeInfo} (ht : Tryd.prog.underlying t = some (.array n e)) (he : Tryd.prog.plainKey e = true) (hu : Tryd.prog.underlying e = some (.int k)) (hi : Tryd.prog.info? e = some i) (hc : Tryd.prog.cellsOf e = 1)
    (zs ys : List Int) (hz : zs.length = n) (hy : ys.length = n) :
    (Op.equalIn (d + 2) t (.agg (zs.map (Value.int k)).toArray) (.agg (ys.map (Value.int k)).toArray)).run Tryd.prog W = .ok (decide (zs = ys)) W := by
  rw [run_equalIn_array W (d + 1) _ _ ht hi, hc, run_eqItems_ints W d he hu zs ys _ (fun j hj => by rw [List.mem_range] at hj; omega)]
  congr 1
  rw [Bool.eq_iff_iff]
  simp only [List.all_eq_true, List.mem_range, beq_iff_eq, decide_eq_true_eq]
  constructor
  · intro h
    apply List.ext_getElem (by omega)
    intro j h1 h2
    have := h j (by omega)
    rw [List.getD_eq_getElem?_getD, List.getD_eq_getElem?_getD, List.getElem?_eq_getElem h1, List.getElem?_eq_getElem h2] at this
    exact this
  · intro h j _
    rw [h]
theorem bytes_of (xs : List Nat) : (xs.map fun n => Value.int .u8 ((n : Nat) : Int)) = (xs.map fun n : Nat => (n : Int)).map (Value.int .u8) := by simp
theorem casts_inj {xs ys : List Nat} : (xs.map fun n : Nat => (n : Int)) = (ys.map fun n : Nat => (n : Int)) ↔ xs = ys := by
  constructor
  · intro h
    exact List.map_inj_right (fun _ _ e => by exact_mod_cast e) |>.1 h
  · rintro rfl; rfl
theorem part_bytes (W : World) (f : Int) (xs : List Nat) (hx : xs.length = 16) : (part 23 (Value.int .i64 f :: xs.map fun n => Value.int .u8 ((n : Nat) : Int)).toArray 1).run Tryd.prog W = .ok (.agg (xs.map fun n => Value.int .u8 ((n : Nat) : Int)).toArray) W := by
  obtain ⟨i, hi, hs⟩ : ∃ i, Tryd.prog.info? 23 = some i ∧ i.size = 16 := ⟨_, rfl, by kernel_rfl⟩
  have h2 : (isAgg 23).run Tryd.prog W = .ok true W := by
    unfold isAgg
    rw [Sem.run_bind, run_underlying Tryd.underlying23 W]
    simp
  have h3 : (sizeOf 23).run Tryd.prog W = .ok 16 W := by simp [sizeOf, typeInfo, hi, hs]
  simp only [part, Sem.run_bind, h2, Result.andThen_ok, if_true, h3, Sem.run_pure]
  congr 2
  apply Array.ext'
  simp
  exact List.take_of_length_le (by rw [List.length_map, hx]; exact Nat.le_refl _)
theorem plainK_int : Tryd.prog.plainKey 3 = true := by kernel_rfl
theorem plainK_u8 : Tryd.prog.plainKey 5 = true := by kernel_rfl
theorem cells_u8 : Tryd.prog.cellsOf 5 = 1 := by kernel_rfl
theorem addr_fields : Tryd.prog.fieldsOf 25 = #[{ name := "Fam", type := 3, offset := 0, embedded := false, tag := "", pkgPath := "", byteOffset := 0 }, { name := "B", type := 23, offset := 1, embedded := false, tag := "", pkgPath := "", byteOffset := 8 }] := by simp only [Program.fieldsOf, Tryd.underlying25]
theorem nm1 : ("Fam" = "_") = False := by simp
theorem nm2 : ("B" = "_") = False := by simp
theorem st (d : Nat) (xs ys : Array Value) (W : World) : (Op.equalIn (d + 3) 25 (.agg xs) (.agg ys)).run Tryd.prog W = (Op.eqFields (d + 2) xs ys (Tryd.prog.fieldsOf 25).toList).run Tryd.prog W :=
  run_equalIn_struct W (d + 2) _ _ _ (by rw [addr_fields]; exact Tryd.underlying25) Tryd.stoodInHeld25
theorem part_fam (W : World) (f : Int) (xs : List Nat) : (part 3 (Value.int .i64 f :: xs.map fun n => Value.int .u8 ((n : Nat) : Int)).toArray 0).run Tryd.prog W = .ok (.int .i64 f) W := run_part_plain W plainK_int (by simp)
theorem eq_fam (d : Nat) (f g : Int) (W : World) : (Op.equalIn (d + 2) 3 (.int .i64 f) (.int .i64 g)).run Tryd.prog W = .ok (f == g) W := run_equalIn_int (P := Tryd.prog) W (d + 1) 3 .i64 .i64 f g Tryd.underlying3
theorem eq_arr16 (d : Nat) (xs ys : List Nat) (W : World) (hx : xs.length = 16) (hy : ys.length = 16) : (Op.equalIn (d + 2) 23 (.agg (xs.map fun n => Value.int .u8 ((n : Nat) : Int)).toArray) (.agg (ys.map fun n => Value.int .u8 ((n : Nat) : Int)).toArray)).run Tryd.prog W = .ok (decide (xs = ys)) W := by
  obtain ⟨i, hi⟩ : ∃ i, Tryd.prog.info? 5 = some i := ⟨_, rfl⟩
  have p6 := run_eq_ints_at d W (k := .u8) Tryd.underlying23 plainK_u8 Tryd.underlying5 hi cells_u8 (xs.map fun n : Nat => (n : Int)) (ys.map fun n : Nat => (n : Int)) (by simpa using hx) (by simpa using hy)
  rw [← bytes_of, ← bytes_of, show decide ((xs.map fun n : Nat => (n : Int)) = (ys.map fun n : Nat => (n : Int))) = decide (xs = ys) from decide_eq_decide.2 casts_inj] at p6
  exact p6
theorem two_fields (P : Program) (W : World) (D : Nat) (X Y : Array Value) (t1 t2 : TypeId) (a1 b1 a2 b2 : Value) (r1 r2 : Bool)
    (h1 : (part t1 X 0).run P W = .ok a1 W) (h2 : (part t1 Y 0).run P W = .ok b1 W) (h3 : (Op.equalIn D t1 a1 b1).run P W = .ok r1 W)
    (h4 : (part t2 X 1).run P W = .ok a2 W) (h5 : (part t2 Y 1).run P W = .ok b2 W) (h6 : (Op.equalIn D t2 a2 b2).run P W = .ok r2 W) :
    (Op.eqFields D X Y [{ name := "Fam", type := t1, offset := 0, embedded := false, tag := "", pkgPath := "", byteOffset := 0 }, { name := "B", type := t2, offset := 1, embedded := false, tag := "", pkgPath := "", byteOffset := 8 }]).run P W = .ok (r1 && r2) W := by
  simp only [Op.eqFields, ne_eq, nm1, nm2, not_false_eq_true, if_true, Sem.run_bind, h1, h2, h3, Result.andThen_ok, Sem.run_ite, h4, h5, h6, Sem.run_pure]
  cases r1 <;> cases r2 <;> rfl
theorem eq_addr_at (d : Nat) (f g : Int) (xs ys : List Nat) (W : World) (hx : xs.length = 16) (hy : ys.length = 16) : (Op.equalIn (d + 3) 25 (addrV f xs) (addrV g ys)).run Tryd.prog W = .ok (decide (f = g ∧ xs = ys)) W := by
  rw [addrV, addrV, st, addr_fields]
  refine (two_fields Tryd.prog W (d + 2) _ _ 3 23 _ _ _ _ _ _ (part_fam W f xs) (part_fam W g ys) (eq_fam d f g W) (part_bytes W f xs hx) (part_bytes W g ys hy) (eq_arr16 d xs ys W hx hy)).trans ?_
  congr 1
  by_cases h1 : f = g <;> by_cases h2 : xs = ys <;> simp [h1, h2]
theorem eq_addr (f g : Int) (xs ys : List Nat) (W : World) (hx : xs.length = 16) (hy : ys.length = 16) : (Op.equalIn 10000 25 (addrV f xs) (addrV g ys)).run Tryd.prog W = .ok (decide (f = g ∧ xs = ys)) W :=
  eq_addr_at 9997 f g xs ys W hx hy
end Go.Proofs.YtickghbjhiegnaaDoor
/- Two addresses held against each other, as a walk meets it. -/
namespace Go.Proofs.YtickghbjhiegnaaDoor
open Go.RowKit
set_option linter.unusedVariables false
set_option maxRecDepth 20000

/-- No interface lies inside an address. -/
theorem guard_addr (op : BinOp) (x y : Operand) (f g : Int) (xs ys : List Nat) (W : World) : (eqGuard op 25 x y (addrV f xs) (addrV g ys)).run Tryd.prog W = .ok () W := run_eqGuard_agg _ _ _ _ _ _ _ Tryd.eqGuardType25
theorem guard_zero (op : BinOp) (x y : Operand) (f : Int) (xs : List Nat) (W : World) : (eqGuard op 25 x y (addrV f xs) (.agg zA)).run Tryd.prog W = .ok () W := run_eqGuard_agg _ _ _ _ _ _ _ Tryd.eqGuardType25
theorem guard_arr16 (op : BinOp) (x y : Operand) (xs ys : List Nat) (W : World) : (eqGuard op 23 x y (arr16 xs) (arr16 ys)).run Tryd.prog W = .ok () W := run_eqGuard_agg _ _ _ _ _ _ _ Tryd.eqGuardType23
theorem run_eq_addr (f g : Int) (xs ys : List Nat) (W : World) (hx : xs.length = 16) (hy : ys.length = 16) : (binOp .eql 25 (addrV f xs) (addrV g ys)).run Tryd.prog W = .ok (.bool (decide (f = g ∧ xs = ys))) W := by
  have h := eq_addr f g xs ys W hx hy
  unfold addrV at h ⊢
  rw [run_eql_struct, h]
  rfl
theorem run_neq_addr (f g : Int) (xs ys : List Nat) (W : World) (hx : xs.length = 16) (hy : ys.length = 16) : (binOp .neq 25 (addrV f xs) (addrV g ys)).run Tryd.prog W = .ok (.bool (!decide (f = g ∧ xs = ys))) W := by
  have h := eq_addr f g xs ys W hx hy
  unfold addrV at h ⊢
  rw [run_neq_struct, h]
  rfl
theorem run_same_addr (f : Int) (xs : List Nat) (W : World) (hx : xs.length = 16) : (binOp .eql 25 (addrV f xs) (addrV f xs)).run Tryd.prog W = .ok (.bool true) W := by
  rw [run_eq_addr f f xs xs W hx hx, decide_eq_true ⟨rfl, rfl⟩]
theorem run_nsame_addr (f : Int) (xs : List Nat) (W : World) (hx : xs.length = 16) : (binOp .neq 25 (addrV f xs) (addrV f xs)).run Tryd.prog W = .ok (.bool false) W := by
  rw [run_neq_addr f f xs xs W hx hx, decide_eq_true ⟨rfl, rfl⟩]
  rfl
theorem run_zero_addr (f : Int) (xs : List Nat) (W : World) (hx : xs.length = 16) : (binOp .eql 25 (addrV f xs) (.agg zA)).run Tryd.prog W = .ok (.bool (decide (f = 0 ∧ xs = List.replicate 16 0))) W :=
  run_eq_addr f 0 xs (List.replicate 16 0) W hx rfl
theorem run_eq_arr16 (xs ys : List Nat) (W : World) (hx : xs.length = 16) (hy : ys.length = 16) : (binOp .eql 23 (arr16 xs) (arr16 ys)).run Tryd.prog W = .ok (.bool (decide (xs = ys))) W := by
  have h := eq_arr16 9998 xs ys W hx hy
  unfold arr16
  rw [run_eql_struct, h]
  rfl
theorem run_neq_arr16 (xs ys : List Nat) (W : World) (hx : xs.length = 16) (hy : ys.length = 16) : (binOp .neq 23 (arr16 xs) (arr16 ys)).run Tryd.prog W = .ok (.bool (!decide (xs = ys))) W := by
  have h := eq_arr16 9998 xs ys W hx hy
  unfold arr16
  rw [run_neq_struct, h]
  rfl
end Go.Proofs.YtickghbjhiegnaaDoor
/- Contracts of the reference's Map, Unmap, Good of layer 4. -/
namespace Go.Proofs.YtickghbjhiegnaaDoor
open Go.RowKit
set_option linter.unusedVariables false
set_option maxRecDepth 20000

/-- The groups of a mapped one. -/
def map8 (n : Nat) : List Nat := [0, 0, 0, 0, 0, 65535, n / 65536, n % 65536]
theorem map8_lt (n : Nat) (h : n ≤ 4294967295) : ∀ x ∈ map8 n, x < 65536 := by
  intro x hx
  simp [map8] at hx
  omega
def mapF (f : Int) : Int := if f = 4 then 6 else f
def mapB (f : Int) (bs : List Nat) : List Nat := if f = 4 then byL (map8 (fourB bs)) else bs
theorem fourB_le (bs : List Nat) (h : ∀ x ∈ bs, x < 256) : fourB bs ≤ 4294967295 := Nat.le_of_lt_succ (fourTo_lt bs h 4)
set_option maxRecDepth 100000 in
set_option maxHeartbeats 1000000 in
theorem refMap_any (f : Int) (bs : List Nat) (w : World) (h16 : bs.length = 16) (hlt : ∀ x ∈ bs, x < 256) :
    Calls Tryd.prog 26 #[addrV f bs] w fun e w' => e = .returned (addrV (mapF f) (mapB f bs)) ∧ Below w.heap.size w w' := by
  have HLT := Lib.hid hlt
  have H16 := Lib.hid h16
  obtain ⟨y0, y1, y2, y3, y4, y5, y6, y7, y8, y9, y10, y11, y12, y13, y14, y15, hbs⟩ := list16 bs h16
  have ha : addrV f bs = .agg #[.int .i64 f, .int .u8 (y0 : Int), .int .u8 (y1 : Int), .int .u8 (y2 : Int), .int .u8 (y3 : Int), .int .u8 (y4 : Int), .int .u8 (y5 : Int), .int .u8 (y6 : Int), .int .u8 (y7 : Int), .int .u8 (y8 : Int), .int .u8 (y9 : Int), .int .u8 (y10 : Int), .int .u8 (y11 : Int), .int .u8 (y12 : Int), .int .u8 (y13 : Int), .int .u8 (y14 : Int), .int .u8 (y15 : Int)] := by rw [hbs]; rfl
  have HBS := Lib.hid hbs
  by_cases h4 : f = 4
  · subst h4
    rw [show mapF 4 = 6 from rfl, show mapB 4 bs = byL (map8 (fourB bs)) from rfl, ha]
    obtain ⟨n, hn⟩ : ∃ n, fourB bs = n := ⟨_, rfl⟩
    have hn2 := fourB_le bs hlt
    rw [hn] at hn2
    rw [hn]
    have HF := fun W => Lib.hid (refFour_any 4 bs W h16 hlt)
    have HO := fun W => Lib.hid (refOf6_any (map8 n) W rfl (map8_lt n hn2))
    rw [hn] at HF
    have hA := AddrAt.new w 25 4 y0 y1 y2 y3 y4 y5 y6 y7 y8 y9 y10 y11 y12 y13 y14 y15
    rw [← hbs] at hA
    have HP2 := Lib.hid (hA.below ((Below.refl _ _).alloc (Nat.le_refl _) (.cells #[.int .i64 0, .int .u8 0, .int .u8 0, .int .u8 0, .int .u8 0, .int .u8 0, .int .u8 0, .int .u8 0, .int .u8 0, .int .u8 0, .int .u8 0, .int .u8 0, .int .u8 0, .int .u8 0, .int .u8 0, .int .u8 0, .int .u8 0] 25)))
    have hR := AddrAt.of (w.alloc (.cells #[.int .i64 4, .int .u8 (y0 : Int), .int .u8 (y1 : Int), .int .u8 (y2 : Int), .int .u8 (y3 : Int), .int .u8 (y4 : Int), .int .u8 (y5 : Int), .int .u8 (y6 : Int), .int .u8 (y7 : Int), .int .u8 (y8 : Int), .int .u8 (y9 : Int), .int .u8 (y10 : Int), .int .u8 (y11 : Int), .int .u8 (y12 : Int), .int .u8 (y13 : Int), .int .u8 (y14 : Int), .int .u8 (y15 : Int)] 25)) 25 #[.int .i64 0, .int .u8 0, .int .u8 0, .int .u8 0, .int .u8 0, .int .u8 0, .int .u8 0, .int .u8 0, .int .u8 0, .int .u8 0, .int .u8 0, .int .u8 0, .int .u8 0, .int .u8 0, .int .u8 0, .int .u8 0, .int .u8 0] 0 (List.replicate 16 0) rfl (zero_addr 0)
    have b1 : Below w.heap.size w (w.alloc (.cells #[.int .i64 4, .int .u8 (y0 : Int), .int .u8 (y1 : Int), .int .u8 (y2 : Int), .int .u8 (y3 : Int), .int .u8 (y4 : Int), .int .u8 (y5 : Int), .int .u8 (y6 : Int), .int .u8 (y7 : Int), .int .u8 (y8 : Int), .int .u8 (y9 : Int), .int .u8 (y10 : Int), .int .u8 (y11 : Int), .int .u8 (y12 : Int), .int .u8 (y13 : Int), .int .u8 (y14 : Int), .int .u8 (y15 : Int)] 25)) := (Below.refl _ _).alloc (Nat.le_refl _) _
    have b2 := b1.alloc b1.size (.cells #[.int .i64 0, .int .u8 0, .int .u8 0, .int .u8 0, .int .u8 0, .int .u8 0, .int .u8 0, .int .u8 0, .int .u8 0, .int .u8 0, .int .u8 0, .int .u8 0, .int .u8 0, .int .u8 0, .int .u8 0, .int .u8 0, .int .u8 0] 25)
    have e1 : (w.alloc (.cells #[.int .i64 4, .int .u8 (y0 : Int), .int .u8 (y1 : Int), .int .u8 (y2 : Int), .int .u8 (y3 : Int), .int .u8 (y4 : Int), .int .u8 (y5 : Int), .int .u8 (y6 : Int), .int .u8 (y7 : Int), .int .u8 (y8 : Int), .int .u8 (y9 : Int), .int .u8 (y10 : Int), .int .u8 (y11 : Int), .int .u8 (y12 : Int), .int .u8 (y13 : Int), .int .u8 (y14 : Int), .int .u8 (y15 : Int)] 25)).heap.size = w.heap.size + 1 := by simp
    rw [e1] at hR
    have q1 : ((n / 65536 : Nat) : Int) = (n : Int) / 65536 := by omega
    have q2 : ((n % 65536 : Nat) : Int) = (n : Int) % 65536 := by omega
    have q3 : IntKind.u16.wrap ((n : Int) / 65536) = (n : Int) / 65536 := by rw [IntKind.wrap_u16]; omega
    have q4 : IntKind.u16.wrap ((n : Int) % 65536) = (n : Int) % 65536 := by rw [IntKind.wrap_u16]; omega
    have HQ := Lib.hid (show arr8 (map8 n) = .agg #[.int .u16 0, .int .u16 0, .int .u16 0, .int .u16 0, .int .u16 0, .int .u16 65535, .int .u16 ((n : Int) / 65536), .int .u16 ((n : Int) % 65536)] by rw [← q1, ← q2]; rfl)
    rw [HQ.out] at HO
    have HR := Lib.hid hR
    have HB := Lib.hid b2
    clear hn ha hbs h16 hlt hA hR b1 b2 q1 q2
    go_enter Tryd.func26, Tryd.ntmps26
    go_wp2_with (refine load_addr HP2 _ rfl rfl rfl ?_)
    generalize ((w.alloc (.cells #[.int .i64 4, .int .u8 (y0 : Int), .int .u8 (y1 : Int), .int .u8 (y2 : Int), .int .u8 (y3 : Int), .int .u8 (y4 : Int), .int .u8 (y5 : Int), .int .u8 (y6 : Int), .int .u8 (y7 : Int), .int .u8 (y8 : Int), .int .u8 (y9 : Int), .int .u8 (y10 : Int), .int .u8 (y11 : Int), .int .u8 (y12 : Int), .int .u8 (y13 : Int), .int .u8 (y14 : Int), .int .u8 (y15 : Int)] 25)).alloc (.cells #[.int .i64 0, .int .u8 0, .int .u8 0, .int .u8 0, .int .u8 0, .int .u8 0, .int .u8 0, .int .u8 0, .int .u8 0, .int .u8 0, .int .u8 0, .int .u8 0, .int .u8 0, .int .u8 0, .int .u8 0, .int .u8 0, .int .u8 0] 25)) = W at *
    clear e1
    refine (HF W).out.mono ?_
    rintro e w1 ⟨rfl, hb1⟩
    go_wp2_with fail
    refine (HO w1).out.mono ?_
    rintro e w2 ⟨rfl, hb2⟩
    have HR2 := Lib.hid ((HR.out.below hb1).below hb2)
    have hbel := chain (chain HB.out hb1) hb2
    have HLN : Hid ((byL (map8 n)).length = 16) := Lib.hid (by rw [byL_len]; rfl)
    clear HR HB hb1 hb2
    go_wp2_with (refine store_addr HR2 _ _ HLN rfl rfl rfl rfl (fun W HW HA => ?_))
    refine bodyPost_ret (v := addrV 6 (byL (map8 n))) (results_addr Tryd.results26 rfl HA.out) rfl ⟨rfl, by rw [HW.out]; exact below_cells (by omega) _ _ _ hbel⟩
  · rw [show mapF f = f from if_neg h4, show mapB f bs = bs from if_neg h4]
    have hA := AddrAt.new w 25 f y0 y1 y2 y3 y4 y5 y6 y7 y8 y9 y10 y11 y12 y13 y14 y15
    rw [← hbs] at hA
    have hR := AddrAt.of (w.alloc (.cells #[.int .i64 f, .int .u8 (y0 : Int), .int .u8 (y1 : Int), .int .u8 (y2 : Int), .int .u8 (y3 : Int), .int .u8 (y4 : Int), .int .u8 (y5 : Int), .int .u8 (y6 : Int), .int .u8 (y7 : Int), .int .u8 (y8 : Int), .int .u8 (y9 : Int), .int .u8 (y10 : Int), .int .u8 (y11 : Int), .int .u8 (y12 : Int), .int .u8 (y13 : Int), .int .u8 (y14 : Int), .int .u8 (y15 : Int)] 25)) 25 #[.int .i64 0, .int .u8 0, .int .u8 0, .int .u8 0, .int .u8 0, .int .u8 0, .int .u8 0, .int .u8 0, .int .u8 0, .int .u8 0, .int .u8 0, .int .u8 0, .int .u8 0, .int .u8 0, .int .u8 0, .int .u8 0, .int .u8 0] 0 (List.replicate 16 0) rfl (zero_addr 0)
    have b1 : Below w.heap.size w (w.alloc (.cells #[.int .i64 f, .int .u8 (y0 : Int), .int .u8 (y1 : Int), .int .u8 (y2 : Int), .int .u8 (y3 : Int), .int .u8 (y4 : Int), .int .u8 (y5 : Int), .int .u8 (y6 : Int), .int .u8 (y7 : Int), .int .u8 (y8 : Int), .int .u8 (y9 : Int), .int .u8 (y10 : Int), .int .u8 (y11 : Int), .int .u8 (y12 : Int), .int .u8 (y13 : Int), .int .u8 (y14 : Int), .int .u8 (y15 : Int)] 25)) := (Below.refl _ _).alloc (Nat.le_refl _) _
    have HB := Lib.hid (b1.alloc b1.size (.cells #[.int .i64 0, .int .u8 0, .int .u8 0, .int .u8 0, .int .u8 0, .int .u8 0, .int .u8 0, .int .u8 0, .int .u8 0, .int .u8 0, .int .u8 0, .int .u8 0, .int .u8 0, .int .u8 0, .int .u8 0, .int .u8 0, .int .u8 0] 25))
    have e1 : (w.alloc (.cells #[.int .i64 f, .int .u8 (y0 : Int), .int .u8 (y1 : Int), .int .u8 (y2 : Int), .int .u8 (y3 : Int), .int .u8 (y4 : Int), .int .u8 (y5 : Int), .int .u8 (y6 : Int), .int .u8 (y7 : Int), .int .u8 (y8 : Int), .int .u8 (y9 : Int), .int .u8 (y10 : Int), .int .u8 (y11 : Int), .int .u8 (y12 : Int), .int .u8 (y13 : Int), .int .u8 (y14 : Int), .int .u8 (y15 : Int)] 25)).heap.size = w.heap.size + 1 := by simp
    rw [e1] at hR
    have HP2 := Lib.hid (hA.below ((Below.refl _ _).alloc (Nat.le_refl _) (.cells #[.int .i64 0, .int .u8 0, .int .u8 0, .int .u8 0, .int .u8 0, .int .u8 0, .int .u8 0, .int .u8 0, .int .u8 0, .int .u8 0, .int .u8 0, .int .u8 0, .int .u8 0, .int .u8 0, .int .u8 0, .int .u8 0, .int .u8 0] 25)))
    have HR2 := Lib.hid hR
    have hfam := (hA.below ((Below.refl _ _).alloc (Nat.le_refl _) (.cells #[.int .i64 0, .int .u8 0, .int .u8 0, .int .u8 0, .int .u8 0, .int .u8 0, .int .u8 0, .int .u8 0, .int .u8 0, .int .u8 0, .int .u8 0, .int .u8 0, .int .u8 0, .int .u8 0, .int .u8 0, .int .u8 0, .int .u8 0] 25))).fam
    rw [show addrV f bs = .agg #[.int .i64 f, .int .u8 (y0 : Int), .int .u8 (y1 : Int), .int .u8 (y2 : Int), .int .u8 (y3 : Int), .int .u8 (y4 : Int), .int .u8 (y5 : Int), .int .u8 (y6 : Int), .int .u8 (y7 : Int), .int .u8 (y8 : Int), .int .u8 (y9 : Int), .int .u8 (y10 : Int), .int .u8 (y11 : Int), .int .u8 (y12 : Int), .int .u8 (y13 : Int), .int .u8 (y14 : Int), .int .u8 (y15 : Int)] from ha]
    go_enter Tryd.func26, Tryd.ntmps26
    clear hR hA b1 ha hbs h16 hlt hfam
    go_upto_if 6 with fail
    generalize ((w.alloc (.cells #[.int .i64 f, .int .u8 (y0 : Int), .int .u8 (y1 : Int), .int .u8 (y2 : Int), .int .u8 (y3 : Int), .int .u8 (y4 : Int), .int .u8 (y5 : Int), .int .u8 (y6 : Int), .int .u8 (y7 : Int), .int .u8 (y8 : Int), .int .u8 (y9 : Int), .int .u8 (y10 : Int), .int .u8 (y11 : Int), .int .u8 (y12 : Int), .int .u8 (y13 : Int), .int .u8 (y14 : Int), .int .u8 (y15 : Int)] 25)).alloc (.cells #[.int .i64 0, .int .u8 0, .int .u8 0, .int .u8 0, .int .u8 0, .int .u8 0, .int .u8 0, .int .u8 0, .int .u8 0, .int .u8 0, .int .u8 0, .int .u8 0, .int .u8 0, .int .u8 0, .int .u8 0, .int .u8 0, .int .u8 0] 25)) = W at *
    clear e1
    go_wp2_with (first | refine load_addr HP2 _ rfl rfl rfl ?_ | (refine store_addr HR2 _ _ H16 rfl rfl rfl rfl (fun W HW HA => ?_)))
    refine bodyPost_ret (v := addrV f bs) (results_addr Tryd.results26 rfl HA.out) rfl ⟨?_, by rw [HW.out]; exact below_cells (by omega) _ _ _ HB.out⟩
    rw [HBS.out]; rfl
end Go.Proofs.YtickghbjhiegnaaDoor
/- Contract of the reference's Unmap of layer 4. -/
namespace Go.Proofs.YtickghbjhiegnaaDoor
open Go.RowKit
set_option linter.unusedVariables false
set_option maxRecDepth 20000

/-- Is it a mapped one? -/
def isMap (f : Int) (bs : List Nat) : Bool := f == 6 && mappedB (grL bs 8)
def unmapF (f : Int) (bs : List Nat) : Int := if isMap f bs then 4 else f
def unmapB (f : Int) (bs : List Nat) : List Nat := if isMap f bs then b4 ((grL bs 8).getD 6 0 * 65536 + (grL bs 8).getD 7 0) else bs
set_option maxRecDepth 100000 in
set_option maxHeartbeats 1000000 in
theorem refUnmap_any (f : Int) (bs : List Nat) (w : World) (h16 : bs.length = 16) (hlt : ∀ x ∈ bs, x < 256) :
    Calls Tryd.prog 27 #[addrV f bs] w fun e w' => e = .returned (addrV (unmapF f bs) (unmapB f bs)) ∧ Below w.heap.size w w' := by
  have H16 := Lib.hid h16
  have HG := fun W => Lib.hid (refGroups4_any f bs W h16 hlt)
  have hgl := grL_lt bs hlt 8
  have HM := fun W => Lib.hid (refMapped_any (grL bs 8) W (grL_len bs 8) hgl)
  obtain ⟨x0, x1, x2, x3, x4, x5, x6, x7, hgs⟩ := list8 (grL bs 8) (grL_len bs 8)
  have hg : arr8 (grL bs 8) = .agg #[.int .u16 (x0 : Int), .int .u16 (x1 : Int), .int .u16 (x2 : Int), .int .u16 (x3 : Int), .int .u16 (x4 : Int), .int .u16 (x5 : Int), .int .u16 (x6 : Int), .int .u16 (x7 : Int)] := by rw [hgs]; rfl
  have hx6 : x6 < 65536 := hgl x6 (by rw [hgs]; simp)
  have hx7 : x7 < 65536 := hgl x7 (by rw [hgs]; simp)
  obtain ⟨n, hn, en⟩ : ∃ n : Nat, x6 * 65536 + x7 = n ∧ (x6 : Int) * 65536 + (x7 : Int) = (n : Int) := ⟨_, rfl, by omega⟩
  have q1 : IntKind.u32.wrap ((x6 : Int) * 65536) = (x6 : Int) * 65536 := by rw [IntKind.wrap_u32]; omega
  have q2 : IntKind.u32.wrap (n : Int) = (n : Int) := by rw [IntKind.wrap_u32]; omega
  have HO := fun W => Lib.hid (refOf4_any n W (by omega))
  have HE1 : Hid (isMap f bs = true → unmapF f bs = 4 ∧ unmapB f bs = b4 n) := Lib.hid (fun h => ⟨if_pos h, by unfold unmapB; rw [if_pos h, hgs, ← hn]; rfl⟩)
  have HE2 : Hid (isMap f bs = false → unmapF f bs = f ∧ unmapB f bs = bs) := Lib.hid (fun h => ⟨if_neg (by rw [h]; decide), if_neg (by rw [h]; decide)⟩)
  rw [hg] at HM HG
  obtain ⟨m, hm⟩ : ∃ m, mappedB (grL bs 8) = m := ⟨_, rfl⟩
  rw [hm] at HM
  have HIM : Hid (isMap f bs = (f == 6 && m)) := Lib.hid (by rw [isMap, hm])
  clear hg hgs hgl hm hn
  obtain ⟨y0, y1, y2, y3, y4, y5, y6, y7, y8, y9, y10, y11, y12, y13, y14, y15, hbs⟩ := list16 bs h16
  have ha : addrV f bs = .agg #[.int .i64 f, .int .u8 (y0 : Int), .int .u8 (y1 : Int), .int .u8 (y2 : Int), .int .u8 (y3 : Int), .int .u8 (y4 : Int), .int .u8 (y5 : Int), .int .u8 (y6 : Int), .int .u8 (y7 : Int), .int .u8 (y8 : Int), .int .u8 (y9 : Int), .int .u8 (y10 : Int), .int .u8 (y11 : Int), .int .u8 (y12 : Int), .int .u8 (y13 : Int), .int .u8 (y14 : Int), .int .u8 (y15 : Int)] := by rw [hbs]; rfl
  have hA := AddrAt.new w 25 f y0 y1 y2 y3 y4 y5 y6 y7 y8 y9 y10 y11 y12 y13 y14 y15
  rw [← hbs] at hA
  have hR := AddrAt.of (w.alloc (.cells #[.int .i64 f, .int .u8 (y0 : Int), .int .u8 (y1 : Int), .int .u8 (y2 : Int), .int .u8 (y3 : Int), .int .u8 (y4 : Int), .int .u8 (y5 : Int), .int .u8 (y6 : Int), .int .u8 (y7 : Int), .int .u8 (y8 : Int), .int .u8 (y9 : Int), .int .u8 (y10 : Int), .int .u8 (y11 : Int), .int .u8 (y12 : Int), .int .u8 (y13 : Int), .int .u8 (y14 : Int), .int .u8 (y15 : Int)] 25)) 25 #[.int .i64 0, .int .u8 0, .int .u8 0, .int .u8 0, .int .u8 0, .int .u8 0, .int .u8 0, .int .u8 0, .int .u8 0, .int .u8 0, .int .u8 0, .int .u8 0, .int .u8 0, .int .u8 0, .int .u8 0, .int .u8 0, .int .u8 0] 0 (List.replicate 16 0) rfl (zero_addr 0)
  have b1 : Below w.heap.size w (w.alloc (.cells #[.int .i64 f, .int .u8 (y0 : Int), .int .u8 (y1 : Int), .int .u8 (y2 : Int), .int .u8 (y3 : Int), .int .u8 (y4 : Int), .int .u8 (y5 : Int), .int .u8 (y6 : Int), .int .u8 (y7 : Int), .int .u8 (y8 : Int), .int .u8 (y9 : Int), .int .u8 (y10 : Int), .int .u8 (y11 : Int), .int .u8 (y12 : Int), .int .u8 (y13 : Int), .int .u8 (y14 : Int), .int .u8 (y15 : Int)] 25)) := (Below.refl _ _).alloc (Nat.le_refl _) _
  have HB := Lib.hid (b1.alloc b1.size (.cells #[.int .i64 0, .int .u8 0, .int .u8 0, .int .u8 0, .int .u8 0, .int .u8 0, .int .u8 0, .int .u8 0, .int .u8 0, .int .u8 0, .int .u8 0, .int .u8 0, .int .u8 0, .int .u8 0, .int .u8 0, .int .u8 0, .int .u8 0] 25))
  have e1 : (w.alloc (.cells #[.int .i64 f, .int .u8 (y0 : Int), .int .u8 (y1 : Int), .int .u8 (y2 : Int), .int .u8 (y3 : Int), .int .u8 (y4 : Int), .int .u8 (y5 : Int), .int .u8 (y6 : Int), .int .u8 (y7 : Int), .int .u8 (y8 : Int), .int .u8 (y9 : Int), .int .u8 (y10 : Int), .int .u8 (y11 : Int), .int .u8 (y12 : Int), .int .u8 (y13 : Int), .int .u8 (y14 : Int), .int .u8 (y15 : Int)] 25)).heap.size = w.heap.size + 1 := by simp
  rw [e1] at hR
  have HP2 := Lib.hid (hA.below ((Below.refl _ _).alloc (Nat.le_refl _) (.cells #[.int .i64 0, .int .u8 0, .int .u8 0, .int .u8 0, .int .u8 0, .int .u8 0, .int .u8 0, .int .u8 0, .int .u8 0, .int .u8 0, .int .u8 0, .int .u8 0, .int .u8 0, .int .u8 0, .int .u8 0, .int .u8 0, .int .u8 0] 25)))
  have HR2 := Lib.hid hR
  rw [ha]
  clear hR hA b1 ha hbs h16 hlt e1
  go_enter Tryd.func27, Tryd.ntmps27
  go_wp2_with (refine load_addr HP2 _ rfl rfl rfl ?_)
  generalize ((w.alloc (.cells #[.int .i64 f, .int .u8 (y0 : Int), .int .u8 (y1 : Int), .int .u8 (y2 : Int), .int .u8 (y3 : Int), .int .u8 (y4 : Int), .int .u8 (y5 : Int), .int .u8 (y6 : Int), .int .u8 (y7 : Int), .int .u8 (y8 : Int), .int .u8 (y9 : Int), .int .u8 (y10 : Int), .int .u8 (y11 : Int), .int .u8 (y12 : Int), .int .u8 (y13 : Int), .int .u8 (y14 : Int), .int .u8 (y15 : Int)] 25)).alloc (.cells #[.int .i64 0, .int .u8 0, .int .u8 0, .int .u8 0, .int .u8 0, .int .u8 0, .int .u8 0, .int .u8 0, .int .u8 0, .int .u8 0, .int .u8 0, .int .u8 0, .int .u8 0, .int .u8 0, .int .u8 0, .int .u8 0, .int .u8 0] 25)) = W at *
  refine (HG W).out.mono ?_
  rintro e w1 ⟨rfl, hb1⟩
  have HGA := Lib.hid (Arr8.of8 w1 33 x0 x1 x2 x3 x4 x5 x6 x7)
  have ba : Below w1.heap.size w1 (w1.alloc (.cells #[.int .u16 (x0 : Int), .int .u16 (x1 : Int), .int .u16 (x2 : Int), .int .u16 (x3 : Int), .int .u16 (x4 : Int), .int .u16 (x5 : Int), .int .u16 (x6 : Int), .int .u16 (x7 : Int)] 33)) := (Below.refl _ _).alloc (Nat.le_refl _) _
  have HP3 := Lib.hid ((HP2.out.below hb1).below ba)
  have HR3 := Lib.hid ((HR2.out.below hb1).below ba)
  have HB3 := Lib.hid (chain (chain HB.out hb1) ba)
  clear HP2 HR2 HB hb1 ba HG
  go_wp2_with fail
  generalize hC : w1.heap.size = C at *
  generalize (w1.alloc (.cells #[.int .u16 (x0 : Int), .int .u16 (x1 : Int), .int .u16 (x2 : Int), .int .u16 (x3 : Int), .int .u16 (x4 : Int), .int .u16 (x5 : Int), .int .u16 (x6 : Int), .int .u16 (x7 : Int)] 33)) = W1 at *
  refine (HM W1).out.mono ?_
  rintro e w2 ⟨rfl, hb2⟩
  have HGA2 := Lib.hid (HGA.out.below hb2)
  have HP4 := Lib.hid (HP3.out.below hb2)
  have HR4 := Lib.hid (HR3.out.below hb2)
  have HB4 := Lib.hid (chain HB3.out hb2)
  clear HGA HP3 HR3 HB3 hb2 HM hC
  have hfam := HP4.out.fam
  obtain ⟨c0, c1, c2, c3, c4, c5, c6, c7⟩ := HGA2.out.all
  clear c0 c1 c2 c3 c4 c5
  have back : ∀ (hi : isMap f bs = false), unmapF f bs = f ∧ unmapB f bs = bs := HE2.out
  have HBK := Lib.hid back
  clear back
  by_cases h6 : f = 6
  · cases m with
    | true =>
      have hI : isMap f bs = true := by rw [HIM.out, h6]; rfl
      have EE := Lib.hid (HE1.out hI)
      subst h6
      clear hI HBK HE1 HE2 HIM
      go_wp2_with fail
      refine (HO w2).out.mono ?_
      rintro e w3 ⟨rfl, hb3⟩
      have HR5 := Lib.hid (HR4.out.below hb3)
      have hbel := chain HB4.out hb3
      have HLN := Lib.hid (b4_len n)
      go_wp2_with (refine store_addr HR5 _ _ HLN rfl rfl rfl rfl (fun W HW HA => ?_))
      refine bodyPost_ret (v := addrV 4 (b4 n)) (results_addr Tryd.results27 rfl HA.out) rfl ⟨by rw [EE.out.1, EE.out.2], by rw [HW.out]; exact below_cells (by omega) _ _ _ hbel⟩
    | false =>
      have EE := Lib.hid (HBK.out (by rw [HIM.out]; simp))
      subst h6
      clear HBK HE1 HE2 HIM HO
      go_wp2_with (first | refine load_addr HP4 _ rfl rfl rfl ?_ | (refine store_addr HR4 _ _ H16 rfl rfl rfl rfl (fun W HW HA => ?_)))
      refine bodyPost_ret (v := addrV 6 bs) (results_addr Tryd.results27 rfl HA.out) rfl ⟨by rw [EE.out.1, EE.out.2], by rw [HW.out]; exact below_cells (by omega) _ _ _ HB4.out⟩
  · have EE := Lib.hid (HBK.out (by rw [HIM.out]; simp [h6]))
    clear HBK HE1 HE2 HIM HO
    have n6 : (f != 6) = true := by simp [h6]
    go_wp2_with (first | refine load_addr HP4 _ rfl rfl rfl ?_ | (refine store_addr HR4 _ _ H16 rfl rfl rfl rfl (fun W HW HA => ?_)))
    refine bodyPost_ret (v := addrV f bs) (results_addr Tryd.results27 rfl HA.out) rfl ⟨by rw [EE.out.1, EE.out.2], by rw [HW.out]; exact below_cells (by omega) _ _ _ HB4.out⟩
end Go.Proofs.YtickghbjhiegnaaDoor
/- Contracts of the reference's Bits, Bit, May, Compare of layer 4. -/
namespace Go.Proofs.YtickghbjhiegnaaDoor
open Go.RowKit
set_option linter.unusedVariables false
set_option maxRecDepth 20000

/-- How many bits. -/
def bitsN (f : Int) : Nat := if f = 4 then 32 else if f = 6 then 128 else 0
set_option maxRecDepth 100000 in
theorem refBits_any (f : Int) (bs : List Nat) (w : World) (h16 : bs.length = 16) :
    Calls Tryd.prog 29 #[addrV f bs] w fun e w' => e = .returned (.int .i64 ((bitsN f : Nat) : Int)) ∧ Below w.heap.size w w' := by
  obtain ⟨y0, y1, y2, y3, y4, y5, y6, y7, y8, y9, y10, y11, y12, y13, y14, y15, hbs⟩ := list16 bs h16
  have ha : addrV f bs = .agg #[.int .i64 f, .int .u8 (y0 : Int), .int .u8 (y1 : Int), .int .u8 (y2 : Int), .int .u8 (y3 : Int), .int .u8 (y4 : Int), .int .u8 (y5 : Int), .int .u8 (y6 : Int), .int .u8 (y7 : Int), .int .u8 (y8 : Int), .int .u8 (y9 : Int), .int .u8 (y10 : Int), .int .u8 (y11 : Int), .int .u8 (y12 : Int), .int .u8 (y13 : Int), .int .u8 (y14 : Int), .int .u8 (y15 : Int)] := by rw [hbs]; rfl
  rw [ha]
  clear ha hbs h16
  by_cases h4 : f = 4
  · subst h4
    go_enter Tryd.func29, Tryd.ntmps29
    go_wp2_with fail
    go_ret
    exact ⟨rfl, by first | exact Below.refl _ _ | exact (Below.refl _ _).alloc (Nat.le_refl _) _⟩
  · by_cases h6 : f = 6
    · subst h6
      go_enter Tryd.func29, Tryd.ntmps29
      go_wp2_with fail
      go_ret
      exact ⟨rfl, by first | exact Below.refl _ _ | exact (Below.refl _ _).alloc (Nat.le_refl _) _⟩
    · go_enter Tryd.func29, Tryd.ntmps29
      go_wp2_with fail
      go_ret
      exact ⟨by rw [bitsN, if_neg h4, if_neg h6]; rfl, by first | exact Below.refl _ _ | exact (Below.refl _ _).alloc (Nat.le_refl _) _⟩
end Go.Proofs.YtickghbjhiegnaaDoor
/- Contract of the reference's May of layer 4. -/
namespace Go.Proofs.YtickghbjhiegnaaDoor
open Go.RowKit
set_option linter.unusedVariables false
set_option maxRecDepth 20000

/-- All zero from a place on. -/
def zeroTo (bs : List Nat) (k : Nat) : Bool := (bs.drop k).all (· == 0)
theorem zeroTo_at (bs : List Nat) (k : Nat) (h : bs.length = 16) (hk : k < 16) : zeroTo bs k = (bs.getD k 0 == 0 && zeroTo bs (k + 1)) := by
  unfold zeroTo
  rw [List.drop_eq_getElem_cons (by omega), List.all_cons, List.getD_eq_getElem?_getD, List.getElem?_eq_getElem (by omega)]
  rfl
theorem zeroTo_end (bs : List Nat) (h : bs.length = 16) : zeroTo bs 16 = true := by
  unfold zeroTo
  rw [List.drop_eq_nil_of_le (by omega)]
  rfl
def fromN (f : Int) : Nat := if f = 0 then 0 else if f = 4 then 4 else 16
/-- Which address may be. -/
def mayB (f : Int) (bs : List Nat) : Bool := zeroTo bs (fromN f) && (f == 0 || f == 4 || f == 6)
set_option maxRecDepth 100000 in
set_option maxHeartbeats 1000000 in
theorem refMay_any (f : Int) (bs : List Nat) (w : World) (h16 : bs.length = 16) :
    Calls Tryd.prog 17 #[addrV f bs] w fun e w' => e = .returned (.bool (mayB f bs)) ∧ Below w.heap.size w w' := by
  have HL := Lib.hid h16
  obtain ⟨y0, y1, y2, y3, y4, y5, y6, y7, y8, y9, y10, y11, y12, y13, y14, y15, hbs⟩ := list16 bs h16
  have ha : addrV f bs = .agg #[.int .i64 f, .int .u8 (y0 : Int), .int .u8 (y1 : Int), .int .u8 (y2 : Int), .int .u8 (y3 : Int), .int .u8 (y4 : Int), .int .u8 (y5 : Int), .int .u8 (y6 : Int), .int .u8 (y7 : Int), .int .u8 (y8 : Int), .int .u8 (y9 : Int), .int .u8 (y10 : Int), .int .u8 (y11 : Int), .int .u8 (y12 : Int), .int .u8 (y13 : Int), .int .u8 (y14 : Int), .int .u8 (y15 : Int)] := by rw [hbs]; rfl
  rw [ha]
  have hA := AddrAt.new w 25 f y0 y1 y2 y3 y4 y5 y6 y7 y8 y9 y10 y11 y12 y13 y14 y15
  rw [← hbs] at hA
  have B0 : Hid (Below w.heap.size w (w.alloc (.cells #[.int .i64 f, .int .u8 (y0 : Int), .int .u8 (y1 : Int), .int .u8 (y2 : Int), .int .u8 (y3 : Int), .int .u8 (y4 : Int), .int .u8 (y5 : Int), .int .u8 (y6 : Int), .int .u8 (y7 : Int), .int .u8 (y8 : Int), .int .u8 (y9 : Int), .int .u8 (y10 : Int), .int .u8 (y11 : Int), .int .u8 (y12 : Int), .int .u8 (y13 : Int), .int .u8 (y14 : Int), .int .u8 (y15 : Int)] 25))) := Lib.hid ((Below.refl _ _).alloc (Nat.le_refl _) _)
  have HA := Lib.hid hA
  clear ha hbs h16 hA
  by_cases h0 : f = 0
  · subst h0
    have FR : Hid (fromN 0 = 0) := Lib.hid rfl
    go_enter Tryd.func17, Tryd.ntmps17
    have hfam := HA.out.fam
    go_wp2_with fail
    generalize (w.alloc (.cells #[.int .i64 0, .int .u8 (y0 : Int), .int .u8 (y1 : Int), .int .u8 (y2 : Int), .int .u8 (y3 : Int), .int .u8 (y4 : Int), .int .u8 (y5 : Int), .int .u8 (y6 : Int), .int .u8 (y7 : Int), .int .u8 (y8 : Int), .int .u8 (y9 : Int), .int .u8 (y10 : Int), .int .u8 (y11 : Int), .int .u8 (y12 : Int), .int .u8 (y13 : Int), .int .u8 (y14 : Int), .int .u8 (y15 : Int)] 25)) = W at *
    go_loop [4] (fun i => ∃ k : Nat, 0 ≤ k ∧ k ≤ 16 ∧ i = .int .i64 (k : Int) ∧ Hid (zeroTo bs 0 = zeroTo bs k)) (fun i => 16 - (intOf i).toNat)
    case atStart => exact ⟨0, Nat.le_refl _, by decide, rfl, Lib.hid rfl⟩
    case round =>
      obtain ⟨k, hk0, hk, rfl, HK⟩ := hrel
      by_cases hk16 : k < 16
      · have hcell := HA.out.cells k hk16
        have k1 : (k : Int) < 16 := by omega
        have hz := zeroTo_at bs k HL.out hk16
        obtain ⟨y, ey⟩ : ∃ y, bs.getD k 0 = y := ⟨_, rfl⟩
        rw [ey] at hcell hz
        clear ey
        by_cases hy : y = 0
        · subst hy
          have HK2 : Hid (zeroTo bs 0 = zeroTo bs (k + 1)) := Lib.hid (by rw [HK.out, hz]; rfl)
          clear hz
          go_wp2_with fail
          go_round
          case rel => exact ⟨k + 1, by omega, by omega, by go_num, HK2⟩
          case measure => simp [intOf]; omega
        · have HK2 : Hid (zeroTo bs 0 = false) := Lib.hid (by rw [HK.out, hz]; simp [hy])
          clear hz
          have hy2 : ((y : Int) != 0) = true := by simp; omega
          go_wp2_with fail
          go_ret
          exact ⟨by rw [mayB, show fromN 0 = 0 from FR.out, HK2.out]; rfl, B0.out⟩
      · obtain rfl : k = 16 := by omega
        have HK2 : Hid (zeroTo bs 0 = true) := Lib.hid (by rw [HK.out]; exact zeroTo_end bs HL.out)
        go_wp2_with fail
        go_ret
        exact ⟨by rw [mayB, show fromN 0 = 0 from FR.out, HK2.out]; rfl, B0.out⟩
  by_cases h4 : f = 4
  · subst h4
    have FR : Hid (fromN 4 = 4) := Lib.hid rfl
    go_enter Tryd.func17, Tryd.ntmps17
    have hfam := HA.out.fam
    go_wp2_with fail
    generalize (w.alloc (.cells #[.int .i64 4, .int .u8 (y0 : Int), .int .u8 (y1 : Int), .int .u8 (y2 : Int), .int .u8 (y3 : Int), .int .u8 (y4 : Int), .int .u8 (y5 : Int), .int .u8 (y6 : Int), .int .u8 (y7 : Int), .int .u8 (y8 : Int), .int .u8 (y9 : Int), .int .u8 (y10 : Int), .int .u8 (y11 : Int), .int .u8 (y12 : Int), .int .u8 (y13 : Int), .int .u8 (y14 : Int), .int .u8 (y15 : Int)] 25)) = W at *
    go_loop [4] (fun i => ∃ k : Nat, 4 ≤ k ∧ k ≤ 16 ∧ i = .int .i64 (k : Int) ∧ Hid (zeroTo bs 4 = zeroTo bs k)) (fun i => 16 - (intOf i).toNat)
    case atStart => exact ⟨4, Nat.le_refl _, by decide, rfl, Lib.hid rfl⟩
    case round =>
      obtain ⟨k, hk0, hk, rfl, HK⟩ := hrel
      by_cases hk16 : k < 16
      · have hcell := HA.out.cells k hk16
        have k1 : (k : Int) < 16 := by omega
        have hz := zeroTo_at bs k HL.out hk16
        obtain ⟨y, ey⟩ : ∃ y, bs.getD k 0 = y := ⟨_, rfl⟩
        rw [ey] at hcell hz
        clear ey
        by_cases hy : y = 0
        · subst hy
          have HK2 : Hid (zeroTo bs 4 = zeroTo bs (k + 1)) := Lib.hid (by rw [HK.out, hz]; rfl)
          clear hz
          go_wp2_with fail
          go_round
          case rel => exact ⟨k + 1, by omega, by omega, by go_num, HK2⟩
          case measure => simp [intOf]; omega
        · have HK2 : Hid (zeroTo bs 4 = false) := Lib.hid (by rw [HK.out, hz]; simp [hy])
          clear hz
          have hy2 : ((y : Int) != 0) = true := by simp; omega
          go_wp2_with fail
          go_ret
          exact ⟨by rw [mayB, show fromN 4 = 4 from FR.out, HK2.out]; rfl, B0.out⟩
      · obtain rfl : k = 16 := by omega
        have HK2 : Hid (zeroTo bs 4 = true) := Lib.hid (by rw [HK.out]; exact zeroTo_end bs HL.out)
        go_wp2_with fail
        go_ret
        exact ⟨by rw [mayB, show fromN 4 = 4 from FR.out, HK2.out]; rfl, B0.out⟩
  · have FR : Hid (fromN f = 16) := Lib.hid (by unfold fromN; rw [if_neg h0, if_neg h4])
    have g0 : (f == 0) = false := by simp [h0]
    have g4 : (f == 4) = false := by simp [h4]
    go_enter Tryd.func17, Tryd.ntmps17
    have hfam := HA.out.fam
    go_wp2_with fail
    generalize (w.alloc (.cells #[.int .i64 f, .int .u8 (y0 : Int), .int .u8 (y1 : Int), .int .u8 (y2 : Int), .int .u8 (y3 : Int), .int .u8 (y4 : Int), .int .u8 (y5 : Int), .int .u8 (y6 : Int), .int .u8 (y7 : Int), .int .u8 (y8 : Int), .int .u8 (y9 : Int), .int .u8 (y10 : Int), .int .u8 (y11 : Int), .int .u8 (y12 : Int), .int .u8 (y13 : Int), .int .u8 (y14 : Int), .int .u8 (y15 : Int)] 25)) = W at *
    go_loop [4] (fun i => ∃ k : Nat, 16 ≤ k ∧ k ≤ 16 ∧ i = .int .i64 (k : Int) ∧ Hid (zeroTo bs 16 = zeroTo bs k)) (fun i => 16 - (intOf i).toNat)
    case atStart => exact ⟨16, Nat.le_refl _, by decide, rfl, Lib.hid rfl⟩
    case round =>
      obtain ⟨k, hk0, hk, rfl, HK⟩ := hrel
      by_cases hk16 : k < 16
      · exact absurd hk16 (by omega)
      · obtain rfl : k = 16 := by omega
        have HK2 : Hid (zeroTo bs 16 = true) := Lib.hid (by rw [HK.out]; exact zeroTo_end bs HL.out)
        go_wp2_with fail
        go_ret
        exact ⟨by rw [mayB, show fromN f = 16 from FR.out, HK2.out]; simp [g0, g4], B0.out⟩
end Go.Proofs.YtickghbjhiegnaaDoor
/- Contract of addr.May. -/
namespace Go.Proofs.YtickghbjhiegnaaDoor
open Go.RowKit
set_option linter.unusedVariables false
set_option maxRecDepth 20000

theorem fourB_le' (bs : List Nat) (h : ∀ x ∈ bs, x < 256) : fourB bs ≤ 4294967295 := by
  have := fourTo_lt bs h 4
  have e : (256 : Nat) ^ 4 = 4294967296 := by decide
  unfold fourB
  omega
theorem may4 (bs : List Nat) (h16 : bs.length = 16) (hlt : ∀ x ∈ bs, x < 256) : decide ((4 : Int) = 4 ∧ bs = b4 (fourB bs)) = mayB 4 bs := by
  obtain ⟨y0, y1, y2, y3, y4, y5, y6, y7, y8, y9, y10, y11, y12, y13, y14, y15, rfl⟩ := list16 bs h16
  simp at hlt
  rw [b4_eq, ← fourB_eq]
  have e : mayB 4 [y0, y1, y2, y3, y4, y5, y6, y7, y8, y9, y10, y11, y12, y13, y14, y15] = decide (y4 = 0 ∧ y5 = 0 ∧ y6 = 0 ∧ y7 = 0 ∧ y8 = 0 ∧ y9 = 0 ∧ y10 = 0 ∧ y11 = 0 ∧ y12 = 0 ∧ y13 = 0 ∧ y14 = 0 ∧ y15 = 0) := by
    rw [Bool.eq_iff_iff]
    simp [mayB, zeroTo, fromN]
  rw [e]
  refine decide_eq_decide.2 ?_
  simp
  omega
theorem may6 (bs : List Nat) (h16 : bs.length = 16) : mayB 6 bs = true := by
  unfold mayB
  rw [show fromN 6 = 16 from rfl, zeroTo_end bs h16]
  rfl
theorem mayElse (f : Int) (bs : List Nat) (h16 : bs.length = 16) (h4 : f ≠ 4) (h6 : f ≠ 6) : decide (f = 0 ∧ bs = List.replicate 16 0) = mayB f bs := by
  by_cases h0 : f = 0
  · subst h0
    obtain ⟨y0, y1, y2, y3, y4, y5, y6, y7, y8, y9, y10, y11, y12, y13, y14, y15, rfl⟩ := list16 bs h16
    rw [Bool.eq_iff_iff]
    simp [mayB, zeroTo, fromN]
  · rw [decide_eq_false (fun h => h0 h.1)]
    unfold mayB
    simp [h0, h4, h6]
set_option maxRecDepth 100000 in
set_option maxHeartbeats 1000000 in
theorem addrMay_any (f : Int) (bs : List Nat) (w : World) (h16 : bs.length = 16) (hlt : ∀ x ∈ bs, x < 256) :
    Calls Tryd.prog 12 #[addrV f bs] w fun e w' => e = .returned (.bool (mayB f bs)) ∧ Below w.heap.size w w' := by
  obtain ⟨cs, ecs, HA, HB⟩ := addr_boxed f bs w h16
  rw [ecs]
  have HLT := Lib.hid hlt
  clear ecs hlt
  have H16 := Lib.hid h16
  clear h16
  go_enter Tryd.func12, Tryd.ntmps12
  go_upto_region 1 with fail
  generalize (w.alloc (.cells cs 25)) = W at *
  have hfam := HA.out.fam
  by_cases h4 : f = 4
  · subst h4
    have HE := Lib.hid (may4 bs H16.out HLT.out)
    have gd := guard_addr
    have q1 := fun W => run_eq_addr 4 4 bs (b4 (fourB bs)) W H16.out (b4_len _)
    rw [HE.out] at q1
    obtain ⟨L, hL⟩ : ∃ L, [(w.heap.size, 0, addrL 4 bs)] = L := ⟨_, rfl⟩
    have HK := Lib.hid (show HeldR L w W by rw [← hL]; exact (HeldR.nil HB.out).addr HA.out)
    have M1 := Lib.hid (show InA L w.heap.size 4 bs from ⟨by rw [← hL]; simp, H16.out⟩)
    have HF : ∀ w', HeldR L w w' → Hid (Calls Tryd.prog 22 #[addrV 4 bs] w' fun e w'' => e = .returned (.int .u32 ((fourB bs : Nat) : Int)) ∧ Below w'.heap.size w' w'') := fun w' _ => Lib.hid (addrFour_any 4 bs w' H16.out HLT.out)
    have HO : ∀ w', HeldR L w w' → Hid (Calls Tryd.prog 18 #[.int .u32 ((fourB bs : Nat) : Int)] w' fun e w'' => e = .returned (addrV 4 (b4 (fourB bs))) ∧ Below w'.heap.size w' w'') := fun w' _ => Lib.hid (addrOf4_any (fourB bs) w' (fourB_le' bs HLT.out))
    clear hL
    generalize b4 (fourB bs) = ys at *
    generalize fourB bs = n at *
    go_wp2_with fail
    refine wp_region_noPanic ?_
    refine wp_region_held_drew (S := HeldR L w) (by kernel_rfl) HK.out.drew (fun hHeld => ?_)
    refine wpAnyH_take (i := 0) rfl (by kernel_rfl) (by kernel_rfl) (by kernel_rfl) (fun _ _ _ h => h) (yields_addr M1 (by rfl) _ rfl rfl) (by assumption) ?_
    try simp only [Act.put, List.getElem_toArray, List.getElem_cons_zero, List.setIfInBounds_toArray, List.set_cons_zero, List.set_cons_succ]
    refine wpAnyH_take (i := 1) rfl (by kernel_rfl) (by kernel_rfl) (by kernel_rfl) (fun _ _ _ h => h) (yields_addr M1 (by rfl) _ rfl rfl) (by assumption) ?_
    try simp only [Act.put, List.getElem_toArray, List.getElem_cons_zero, List.getElem_cons_succ, List.setIfInBounds_toArray, List.set_cons_zero, List.set_cons_succ]
    refine wpAnyH_ready (rs := [2]) (by kernel_rfl) (by simp) ?_
    refine AllReadyH.cons rfl (fun K hK => ?_) AllReadyH.nil
    go_simp
    refine (Calls.heldR (HF _ (by assumption)).out (by assumption)).mono ?_
    rintro e wr2 ⟨rfl, hS2⟩
    go_wp2_with fail
    refine hK.out _ _ hS2 (fun hHeld => ?_)
    clear hK K
    try simp only [Act.put, List.getElem_toArray, List.getElem_cons_zero, List.getElem_cons_succ, List.setIfInBounds_toArray, List.set_cons_zero, List.set_cons_succ]
    refine wpAnyH_ready (rs := [3]) (by kernel_rfl) (by simp) ?_
    refine AllReadyH.cons rfl (fun K hK => ?_) AllReadyH.nil
    go_simp
    refine (Calls.heldR (HO _ (by assumption)).out (by assumption)).mono ?_
    rintro e wr3 ⟨rfl, hS3⟩
    go_wp2_with fail
    refine hK.out _ _ hS3 (fun hHeld => ?_)
    clear hK K
    try simp only [Act.put, List.getElem_toArray, List.getElem_cons_zero, List.getElem_cons_succ, List.setIfInBounds_toArray, List.set_cons_zero, List.set_cons_succ]
    refine wpAnyH_take (i := 4) (v := ?_) rfl (by kernel_rfl) (by kernel_rfl) (by kernel_rfl) (fun _ _ _ h => h) (Or.inl ⟨by rfl, ?_⟩) (by assumption) ?_
    rotate_left
    · (intro w hSw; go_simp; try (with_reducible rfl))
    try simp only [Act.put, List.getElem_toArray, List.getElem_cons_zero, List.getElem_cons_succ, List.setIfInBounds_toArray, List.set_cons_zero, List.set_cons_succ]
    refine wpAnyH_take (i := 5) (v := ?_) rfl (by kernel_rfl) (by kernel_rfl) (by kernel_rfl) (fun _ _ _ h => h) (Or.inl ⟨by rfl, ?_⟩) (by assumption) ?_
    rotate_left
    · (intro w hSw; go_simp; try (with_reducible rfl))
    try simp only [Act.put, List.getElem_toArray, List.getElem_cons_zero, List.getElem_cons_succ, List.setIfInBounds_toArray, List.set_cons_zero, List.set_cons_succ]
    refine wpAnyH_done (by kernel_rfl) ?_ _
    refine NoPanic.normal ?_
    go_wp2_with fail
    go_ret
    exact ⟨rfl, hHeld.bel⟩
  · by_cases h6 : f = 6
    · subst h6
      have HE := Lib.hid (may6 bs H16.out)
      go_wp2_with fail
      go_ret
      exact ⟨by rw [HE.out]; rfl, HB.out⟩
    · have g4 : (f == 4) = false := by simp [h4]
      have g6 : (f == 6) = false := by simp [h6]
      have HE := Lib.hid (mayElse f bs H16.out h4 h6)
      have gd := guard_zero
      have q1 := fun W => run_zero_addr f bs W H16.out
      rw [HE.out] at q1
      go_wp2_with (refine load_addr_g HA _ rfl rfl rfl ?_)
      go_ret
      exact ⟨rfl, HB.out⟩
end Go.Proofs.YtickghbjhiegnaaDoor
/- Contracts of addr.Map, addr.Unmap. -/
namespace Go.Proofs.YtickghbjhiegnaaDoor
open Go.RowKit
set_option linter.unusedVariables false
set_option maxRecDepth 20000

theorem mapL_len (n : Nat) : (mapL n).length = 16 := rfl
theorem map_map8 (n : Nat) (hn : n ≤ 4294967295) : byL (map8 n) = mapL n := by
  unfold map8 byL mapL
  simp
  omega
set_option maxRecDepth 100000 in
set_option maxHeartbeats 1000000 in
theorem addrMap_any (f : Int) (bs : List Nat) (w : World) (h16 : bs.length = 16) (hlt : ∀ x ∈ bs, x < 256) :
    Calls Tryd.prog 24 #[addrV f bs] w fun e w' => e = .returned (addrV (mapF f) (mapB f bs)) ∧ Below w.heap.size w w' := by
  obtain ⟨cs, ecs, HA, HB⟩ := addr_boxed f bs w h16
  have HZ := addr_zeroed (w.alloc (.cells cs 25))
  rw [heap_alloc] at HZ
  have HR := Lib.hid HZ
  have HA1 := Lib.hid (HA.out.alloc (.cells zA 25))
  have HB1 := Lib.hid (HB.out.alloc HB.out.size (.cells zA 25))
  rw [ecs]
  have HLT := Lib.hid hlt
  have H16 := Lib.hid h16
  clear ecs hlt h16 HZ HA HB
  go_enter Tryd.func24, Tryd.ntmps24
  go_upto_region 1 with fail
  generalize ((w.alloc (.cells cs 25)).alloc (.cells zA 25)) = W at *
  have hfam := HA1.out.fam
  by_cases h4 : f = 4
  · subst h4
    have HE : Hid (mapF 4 = 6 ∧ mapB 4 bs = mapL (fourB bs)) := Lib.hid ⟨rfl, (show mapB 4 bs = byL (map8 (fourB bs)) from rfl).trans (map_map8 _ (fourB_le' bs HLT.out))⟩
    have HF := Lib.hid (addrFour_any 4 bs W H16.out HLT.out)
    have HM := fun w' => Lib.hid (addrMapped_any (fourB bs) w' (fourB_le' bs HLT.out))
    have HLN := Lib.hid (mapL_len (fourB bs))
    obtain ⟨y0, y1, y2, y3, y4, y5, y6, y7, y8, y9, y10, y11, y12, y13, y14, y15, hy⟩ := list16 (mapL (fourB bs)) (mapL_len _)
    rw [hy] at HE HM HLN
    unfold arr16 at HM
    clear hy
    generalize fourB bs = n at *
    go_wp2_with (refine load_addr_g HA1 _ rfl rfl rfl ?_)
    refine HF.out.mono ?_
    rintro e w1 ⟨rfl, hb1⟩
    go_wp2_with fail
    refine (HM w1).out.mono ?_
    rintro e w2 ⟨rfl, hb2⟩
    have HR2 := Lib.hid ((HR.out.below hb1).below hb2)
    have hbel := chain (chain HB1.out hb1) hb2
    clear HR HB1 hb1 hb2 HF HM
    go_wp2_with (refine store_addr HR2 _ _ HLN rfl rfl rfl rfl (fun W HW HA => ?_))
    refine bodyPost_ret (v := addrV 6 [y0, y1, y2, y3, y4, y5, y6, y7, y8, y9, y10, y11, y12, y13, y14, y15]) (results_addr Tryd.results24 rfl HA.out) rfl ⟨by rw [HE.out.1, HE.out.2], by rw [HW.out]; exact below_cells (by omega) _ _ _ hbel⟩
  · have HE : Hid (mapF f = f ∧ mapB f bs = bs) := Lib.hid ⟨if_neg h4, if_neg h4⟩
    have n4 : (f != 4) = true := by simp [h4]
    go_wp2_with (first | refine load_addr_g HA1 _ rfl rfl rfl ?_ | (refine store_addr HR _ _ H16 rfl rfl rfl rfl (fun W HW HA => ?_)))
    refine bodyPost_ret (v := addrV f bs) (results_addr Tryd.results24 rfl HA.out) rfl ⟨by rw [HE.out.1, HE.out.2], by rw [HW.out]; exact below_cells (by omega) _ _ _ HB1.out⟩
end Go.Proofs.YtickghbjhiegnaaDoor
/- Contract of addr.Unmap. -/
namespace Go.Proofs.YtickghbjhiegnaaDoor
open Go.RowKit
set_option linter.unusedVariables false
set_option maxRecDepth 20000

/-- The number of the last four bytes. -/
def last4 (bs : List Nat) : Nat := ((bs.getD 12 0 * 256 + bs.getD 13 0) * 256 + bs.getD 14 0) * 256 + bs.getD 15 0
theorem last4_le (bs : List Nat) (h : ∀ x ∈ bs, x < 256) : last4 bs ≤ 4294967295 := by
  have h0 := byte_lt h 12
  have h1 := byte_lt h 13
  have h2 := byte_lt h 14
  have h3 := byte_lt h 15
  unfold last4
  omega
theorem last4_gr (bs : List Nat) : (grL bs 8).getD 6 0 * 65536 + (grL bs 8).getD 7 0 = last4 bs := by
  simp [grL, last4]
  omega
theorem mapped_mapL (bs : List Nat) (h16 : bs.length = 16) (hlt : ∀ x ∈ bs, x < 256) : decide (bs = mapL (last4 bs)) = mappedB (grL bs 8) := by
  obtain ⟨y0, y1, y2, y3, y4, y5, y6, y7, y8, y9, y10, y11, y12, y13, y14, y15, rfl⟩ := list16 bs h16
  simp at hlt
  rw [Bool.eq_iff_iff]
  simp [mapL, last4, grL, mappedB, zer]
  omega
set_option maxRecDepth 100000 in
set_option maxHeartbeats 1000000 in
theorem addrUnmap_any (f : Int) (bs : List Nat) (w : World) (h16 : bs.length = 16) (hlt : ∀ x ∈ bs, x < 256) :
    Calls Tryd.prog 25 #[addrV f bs] w fun e w' => e = .returned (addrV (unmapF f bs) (unmapB f bs)) ∧ Below w.heap.size w w' := by
  obtain ⟨cs, ecs, HA, HB⟩ := addr_boxed f bs w h16
  have HZ := addr_zeroed (w.alloc (.cells cs 25))
  rw [heap_alloc] at HZ
  have HR := Lib.hid HZ
  have HA1 := Lib.hid (HA.out.alloc (.cells zA 25))
  have HB1 := Lib.hid (HB.out.alloc HB.out.size (.cells zA 25))
  rw [ecs]
  have HO := fun W => Lib.hid (of_any (bs.getD 12 0) (bs.getD 13 0) (bs.getD 14 0) (bs.getD 15 0) W (byte_lt hlt 12) (byte_lt hlt 13) (byte_lt hlt 14) (byte_lt hlt 15))
  rw [show ((bs.getD 12 0 * 256 + bs.getD 13 0) * 256 + bs.getD 14 0) * 256 + bs.getD 15 0 = last4 bs from rfl] at HO
  have HQ := Lib.hid (mapped_mapL bs h16 hlt)
  have HN := Lib.hid (last4_gr bs)
  have HLE := Lib.hid (last4_le bs hlt)
  have HLT := Lib.hid hlt
  have H16 := Lib.hid h16
  generalize last4 bs = n at *
  clear ecs hlt h16 HZ HA HB
  go_enter Tryd.func25, Tryd.ntmps25
  go_upto_region 1 with fail
  generalize ((w.alloc (.cells cs 25)).alloc (.cells zA 25)) = W at *
  have c0 : W.cell? ⟨w.heap.size, 13, none⟩ = some (.int .u8 ((bs.getD 12 0 : Nat) : Int)) := HA1.out.cells 12 (by decide)
  have c1 : W.cell? ⟨w.heap.size, 14, none⟩ = some (.int .u8 ((bs.getD 13 0 : Nat) : Int)) := HA1.out.cells 13 (by decide)
  have c2 : W.cell? ⟨w.heap.size, 15, none⟩ = some (.int .u8 ((bs.getD 14 0 : Nat) : Int)) := HA1.out.cells 14 (by decide)
  have c3 : W.cell? ⟨w.heap.size, 16, none⟩ = some (.int .u8 ((bs.getD 15 0 : Nat) : Int)) := HA1.out.cells 15 (by decide)
  generalize bs.getD 12 0 = a at *
  generalize bs.getD 13 0 = b at *
  generalize bs.getD 14 0 = c at *
  generalize bs.getD 15 0 = d at *
  unfold arr4 at HO
  go_wp2_with fail
  refine (HO W).out.mono ?_
  rintro e w1 ⟨rfl, hb1⟩
  have HA2 := Lib.hid (HA1.out.below hb1)
  have HR2 := Lib.hid (HR.out.below hb1)
  have HB2 := Lib.hid (chain HB1.out hb1)
  clear HA1 HR HB1 hb1 HO c0 c1 c2 c3
  go_wp2_with fail
  obtain ⟨L, hL⟩ : ∃ L, [(w.heap.size, 0, addrL f bs), (w.heap.size, 1, bs.map fun n => Value.int .u8 ((n : Nat) : Int))] = L := ⟨_, rfl⟩
  have HK := Lib.hid (show HeldR L w1 w1 by rw [← hL]; exact ((HeldR.nil (Below.refl _ _)).cons HA2.out.b16.range HA2.out.lt).addr HA2.out)
  have MA : InA L w.heap.size f bs := ⟨by rw [← hL]; simp, H16.out⟩
  have M0 := Lib.hid (famR MA w1)
  have M1 := Lib.hid (show InB L w.heap.size 1 bs from ⟨by rw [← hL]; simp, H16.out⟩)
  clear hL MA
  refine wp_region_noPanic ?_
  by_cases h6 : f = 6
  · subst h6
    have HC : ∀ w', HeldR L w1 w' → Hid (Calls Tryd.prog 47 #[.int .u32 (n : Int)] w' fun e w'' => e = .returned (arr16 (mapL n)) ∧ Below w'.heap.size w' w'') := fun w' _ => Lib.hid (addrMapped_any n w' HLE.out)
    have q1 := fun W => run_neq_arr16 bs (mapL n) W H16.out rfl
    have gd := guard_arr16
    rw [HQ.out] at q1
    cases hm : mappedB (grL bs 8) with
    | true =>
      rw [hm] at q1
      have q2 : ∀ W, (binOp .neq 23 (arr16 bs) (arr16 (mapL n))).run Tryd.prog W = .ok (.bool false) W := q1
      have HE : Hid (unmapF 6 bs = 4 ∧ unmapB 6 bs = b4 n) := Lib.hid ⟨by unfold unmapF isMap; rw [hm]; rfl, by unfold unmapB isMap; rw [hm, HN.out]; rfl⟩
      clear q1 hm
      refine wp_region_held_drew (S := HeldR L w1) (by kernel_rfl) HK.out.drew (fun hHeld => ?_)
      refine wpAnyH_take (i := 0) (v := ?_) rfl (by kernel_rfl) (by kernel_rfl) (by kernel_rfl) (fun _ _ _ h => h) (Or.inl ⟨by rfl, ?_⟩) (by assumption) ?_
      rotate_left
      · (intro w hSw; go_simp; try (with_reducible rfl))
      try simp only [Act.put, List.getElem_toArray, List.getElem_cons_zero, List.setIfInBounds_toArray, List.set_cons_zero, List.set_cons_succ]
      refine wpAnyH_take (i := 1) (v := ?_) rfl (by kernel_rfl) (by kernel_rfl) (by kernel_rfl) (fun _ _ _ h => h) (Or.inl ⟨by rfl, ?_⟩) (by assumption) ?_
      rotate_left
      · (intro w hSw; have hc0 := M0.out w hSw; go_simp; try (with_reducible rfl))
      try simp only [Act.put, List.getElem_toArray, List.getElem_cons_zero, List.getElem_cons_succ, List.setIfInBounds_toArray, List.set_cons_zero, List.set_cons_succ]
      refine wpAnyH_take (i := 2) (v := ?_) rfl (by kernel_rfl) (by kernel_rfl) (by kernel_rfl) (fun _ _ _ h => h) (Or.inl ⟨by rfl, ?_⟩) (by assumption) ?_
      rotate_left
      · (intro w hSw; go_simp; try (with_reducible rfl))
      try simp only [Act.put, List.getElem_toArray, List.getElem_cons_zero, List.getElem_cons_succ, List.setIfInBounds_toArray, List.set_cons_zero, List.set_cons_succ]
      refine wpAnyH_take (i := 3) (v := ?_) rfl (by kernel_rfl) (by kernel_rfl) (by kernel_rfl) (fun _ _ _ h => h) (Or.inl ⟨by rfl, ?_⟩) (by assumption) ?_
      rotate_left
      · (intro w hSw; go_simp; try (with_reducible rfl))
      try simp only [Act.put, List.getElem_toArray, List.getElem_cons_zero, List.getElem_cons_succ, List.setIfInBounds_toArray, List.set_cons_zero, List.set_cons_succ]
      refine wpAnyH_take (i := 4) (v := ?_) rfl (by kernel_rfl) (by kernel_rfl) (by kernel_rfl) (fun _ _ _ h => h) (Or.inl ⟨by rfl, ?_⟩) (by assumption) ?_
      rotate_left
      · (intro w hSw; go_simp; try (with_reducible rfl))
      try simp only [Act.put, List.getElem_toArray, List.getElem_cons_zero, List.getElem_cons_succ, List.setIfInBounds_toArray, List.set_cons_zero, List.set_cons_succ]
      refine wpAnyH_take (i := 5) rfl (by kernel_rfl) (by kernel_rfl) (by kernel_rfl) (fun _ _ _ h => h) (yields_b16 M1 (by rfl) _ rfl rfl) (by assumption) ?_
      try simp only [Act.put, List.getElem_toArray, List.getElem_cons_zero, List.getElem_cons_succ, List.setIfInBounds_toArray, List.set_cons_zero, List.set_cons_succ]
      refine wpAnyH_take (i := 6) (v := ?_) rfl (by kernel_rfl) (by kernel_rfl) (by kernel_rfl) (fun _ _ _ h => h) (Or.inl ⟨by rfl, ?_⟩) (by assumption) ?_
      rotate_left
      · (intro w hSw; go_simp; try (with_reducible rfl))
      try simp only [Act.put, List.getElem_toArray, List.getElem_cons_zero, List.getElem_cons_succ, List.setIfInBounds_toArray, List.set_cons_zero, List.set_cons_succ]
      refine wpAnyH_ready (rs := [7]) (by kernel_rfl) (by simp) ?_
      refine AllReadyH.cons rfl (fun K hK => ?_) AllReadyH.nil
      go_simp
      refine (Calls.heldR (HC _ (by assumption)).out (by assumption)).mono ?_
      rintro e wr7 ⟨rfl, hS7⟩
      go_wp2_with fail
      refine hK.out _ _ hS7 (fun hHeld => ?_)
      clear hK K
      try simp only [Act.put, List.getElem_toArray, List.getElem_cons_zero, List.getElem_cons_succ, List.setIfInBounds_toArray, List.set_cons_zero, List.set_cons_succ]
      refine wpAnyH_take (i := 8) (v := ?_) rfl (by kernel_rfl) (by kernel_rfl) (by kernel_rfl) (fun _ _ _ h => h) (Or.inl ⟨by rfl, ?_⟩) (by assumption) ?_
      rotate_left
      · (intro w hSw; go_simp; try (with_reducible rfl))
      try simp only [Act.put, List.getElem_toArray, List.getElem_cons_zero, List.getElem_cons_succ, List.setIfInBounds_toArray, List.set_cons_zero, List.set_cons_succ]
      refine wpAnyH_take (i := 9) (v := ?_) rfl (by kernel_rfl) (by kernel_rfl) (by kernel_rfl) (fun _ _ _ h => h) (Or.inl ⟨by rfl, ?_⟩) (by assumption) ?_
      rotate_left
      · (intro w hSw; go_simp; try (with_reducible rfl))
      try simp only [Act.put, List.getElem_toArray, List.getElem_cons_zero, List.getElem_cons_succ, List.setIfInBounds_toArray, List.set_cons_zero, List.set_cons_succ]
      refine wpAnyH_done (by kernel_rfl) ?_ _
      refine NoPanic.normal ?_
      have HR3 := Lib.hid (HR2.out.below hHeld.bel)
      have HB3 := Lib.hid (chain HB2.out hHeld.bel)
      go_wp2_with fail
      refine (addrOf4_any n _ HLE.out).mono ?_
      rintro e w5 ⟨rfl, hb5⟩
      have HR4 := Lib.hid (HR3.out.below hb5)
      have HB4 := Lib.hid (chain HB3.out hb5)
      have HLN := Lib.hid (b4_len n)
      go_wp2_with (refine store_addr HR4 _ _ HLN rfl rfl rfl rfl (fun W HW HA => ?_))
      refine bodyPost_ret (v := addrV 4 (b4 n)) (results_addr Tryd.results25 rfl HA.out) rfl ⟨by rw [HE.out.1, HE.out.2], by rw [HW.out]; exact below_cells (by omega) _ _ _ HB4.out⟩
    | false =>
      rw [hm] at q1
      have q2 : ∀ W, (binOp .neq 23 (arr16 bs) (arr16 (mapL n))).run Tryd.prog W = .ok (.bool true) W := q1
      have HE : Hid (unmapF 6 bs = 6 ∧ unmapB 6 bs = bs) := Lib.hid ⟨by unfold unmapF isMap; rw [hm]; rfl, by unfold unmapB isMap; rw [hm]; rfl⟩
      clear q1 hm
      refine wp_region_held_drew (S := HeldR L w1) (by kernel_rfl) HK.out.drew (fun hHeld => ?_)
      refine wpAnyH_take (i := 0) (v := ?_) rfl (by kernel_rfl) (by kernel_rfl) (by kernel_rfl) (fun _ _ _ h => h) (Or.inl ⟨by rfl, ?_⟩) (by assumption) ?_
      rotate_left
      · (intro w hSw; go_simp; try (with_reducible rfl))
      try simp only [Act.put, List.getElem_toArray, List.getElem_cons_zero, List.setIfInBounds_toArray, List.set_cons_zero, List.set_cons_succ]
      refine wpAnyH_take (i := 1) (v := ?_) rfl (by kernel_rfl) (by kernel_rfl) (by kernel_rfl) (fun _ _ _ h => h) (Or.inl ⟨by rfl, ?_⟩) (by assumption) ?_
      rotate_left
      · (intro w hSw; have hc0 := M0.out w hSw; go_simp; try (with_reducible rfl))
      try simp only [Act.put, List.getElem_toArray, List.getElem_cons_zero, List.getElem_cons_succ, List.setIfInBounds_toArray, List.set_cons_zero, List.set_cons_succ]
      refine wpAnyH_take (i := 2) (v := ?_) rfl (by kernel_rfl) (by kernel_rfl) (by kernel_rfl) (fun _ _ _ h => h) (Or.inl ⟨by rfl, ?_⟩) (by assumption) ?_
      rotate_left
      · (intro w hSw; go_simp; try (with_reducible rfl))
      try simp only [Act.put, List.getElem_toArray, List.getElem_cons_zero, List.getElem_cons_succ, List.setIfInBounds_toArray, List.set_cons_zero, List.set_cons_succ]
      refine wpAnyH_take (i := 3) (v := ?_) rfl (by kernel_rfl) (by kernel_rfl) (by kernel_rfl) (fun _ _ _ h => h) (Or.inl ⟨by rfl, ?_⟩) (by assumption) ?_
      rotate_left
      · (intro w hSw; go_simp; try (with_reducible rfl))
      try simp only [Act.put, List.getElem_toArray, List.getElem_cons_zero, List.getElem_cons_succ, List.setIfInBounds_toArray, List.set_cons_zero, List.set_cons_succ]
      refine wpAnyH_take (i := 4) (v := ?_) rfl (by kernel_rfl) (by kernel_rfl) (by kernel_rfl) (fun _ _ _ h => h) (Or.inl ⟨by rfl, ?_⟩) (by assumption) ?_
      rotate_left
      · (intro w hSw; go_simp; try (with_reducible rfl))
      try simp only [Act.put, List.getElem_toArray, List.getElem_cons_zero, List.getElem_cons_succ, List.setIfInBounds_toArray, List.set_cons_zero, List.set_cons_succ]
      refine wpAnyH_take (i := 5) rfl (by kernel_rfl) (by kernel_rfl) (by kernel_rfl) (fun _ _ _ h => h) (yields_b16 M1 (by rfl) _ rfl rfl) (by assumption) ?_
      try simp only [Act.put, List.getElem_toArray, List.getElem_cons_zero, List.getElem_cons_succ, List.setIfInBounds_toArray, List.set_cons_zero, List.set_cons_succ]
      refine wpAnyH_take (i := 6) (v := ?_) rfl (by kernel_rfl) (by kernel_rfl) (by kernel_rfl) (fun _ _ _ h => h) (Or.inl ⟨by rfl, ?_⟩) (by assumption) ?_
      rotate_left
      · (intro w hSw; go_simp; try (with_reducible rfl))
      try simp only [Act.put, List.getElem_toArray, List.getElem_cons_zero, List.getElem_cons_succ, List.setIfInBounds_toArray, List.set_cons_zero, List.set_cons_succ]
      refine wpAnyH_ready (rs := [7]) (by kernel_rfl) (by simp) ?_
      refine AllReadyH.cons rfl (fun K hK => ?_) AllReadyH.nil
      go_simp
      refine (Calls.heldR (HC _ (by assumption)).out (by assumption)).mono ?_
      rintro e wr7 ⟨rfl, hS7⟩
      go_wp2_with fail
      refine hK.out _ _ hS7 (fun hHeld => ?_)
      clear hK K
      try simp only [Act.put, List.getElem_toArray, List.getElem_cons_zero, List.getElem_cons_succ, List.setIfInBounds_toArray, List.set_cons_zero, List.set_cons_succ]
      refine wpAnyH_take (i := 8) (v := ?_) rfl (by kernel_rfl) (by kernel_rfl) (by kernel_rfl) (fun _ _ _ h => h) (Or.inl ⟨by rfl, ?_⟩) (by assumption) ?_
      rotate_left
      · (intro w hSw; go_simp; try (with_reducible rfl))
      try simp only [Act.put, List.getElem_toArray, List.getElem_cons_zero, List.getElem_cons_succ, List.setIfInBounds_toArray, List.set_cons_zero, List.set_cons_succ]
      refine wpAnyH_take (i := 9) (v := ?_) rfl (by kernel_rfl) (by kernel_rfl) (by kernel_rfl) (fun _ _ _ h => h) (Or.inl ⟨by rfl, ?_⟩) (by assumption) ?_
      rotate_left
      · (intro w hSw; go_simp; try (with_reducible rfl))
      try simp only [Act.put, List.getElem_toArray, List.getElem_cons_zero, List.getElem_cons_succ, List.setIfInBounds_toArray, List.set_cons_zero, List.set_cons_succ]
      refine wpAnyH_done (by kernel_rfl) ?_ _
      refine NoPanic.normal ?_
      have HR3 := Lib.hid (HR2.out.below hHeld.bel)
      have HA3 := Lib.hid (HA2.out.below hHeld.bel)
      have HB3 := Lib.hid (chain HB2.out hHeld.bel)
      go_wp2_with (first | refine load_addr_g HA3 _ rfl rfl rfl ?_ | (refine store_addr HR3 _ _ H16 rfl rfl rfl rfl (fun W HW HA => ?_)))
      refine bodyPost_ret (v := addrV 6 bs) (results_addr Tryd.results25 rfl HA.out) rfl ⟨by rw [HE.out.1, HE.out.2], by rw [HW.out]; exact below_cells (by omega) _ _ _ HB3.out⟩
  · have n6 : (f != 6) = true := by simp [h6]
    have HE : Hid (unmapF f bs = f ∧ unmapB f bs = bs) := Lib.hid ⟨by unfold unmapF isMap; simp [h6], by unfold unmapB isMap; simp [h6]⟩
    refine wp_region_held_drew (S := HeldR L w1) (by kernel_rfl) HK.out.drew (fun hHeld => ?_)
    refine wpAnyH_take (i := 0) (v := ?_) rfl (by kernel_rfl) (by kernel_rfl) (by kernel_rfl) (fun _ _ _ h => h) (Or.inl ⟨by rfl, ?_⟩) (by assumption) ?_
    rotate_left
    · (intro w hSw; go_simp; try (with_reducible rfl))
    try simp only [Act.put, List.getElem_toArray, List.getElem_cons_zero, List.setIfInBounds_toArray, List.set_cons_zero, List.set_cons_succ]
    refine wpAnyH_take (i := 1) (v := ?_) rfl (by kernel_rfl) (by kernel_rfl) (by kernel_rfl) (fun _ _ _ h => h) (Or.inl ⟨by rfl, ?_⟩) (by assumption) ?_
    rotate_left
    · (intro w hSw; have hc0 := M0.out w hSw; go_simp; try (with_reducible rfl))
    try simp only [Act.put, List.getElem_toArray, List.getElem_cons_zero, List.getElem_cons_succ, List.setIfInBounds_toArray, List.set_cons_zero, List.set_cons_succ]
    refine wpAnyH_take (i := 2) (v := ?_) rfl (by kernel_rfl) (by kernel_rfl) (by kernel_rfl) (fun _ _ _ h => h) (Or.inl ⟨by rfl, ?_⟩) (by assumption) ?_
    rotate_left
    · (intro w hSw; go_simp; try (with_reducible rfl))
    try simp only [Act.put, List.getElem_toArray, List.getElem_cons_zero, List.getElem_cons_succ, List.setIfInBounds_toArray, List.set_cons_zero, List.set_cons_succ]
    refine wpAnyH_take (i := 3) (v := ?_) rfl (by kernel_rfl) (by kernel_rfl) (by kernel_rfl) (fun _ _ _ h => h) (Or.inl ⟨by rfl, ?_⟩) (by assumption) ?_
    rotate_left
    · (intro w hSw; go_simp; try (with_reducible rfl))
    try simp only [Act.put, List.getElem_toArray, List.getElem_cons_zero, List.getElem_cons_succ, List.setIfInBounds_toArray, List.set_cons_zero, List.set_cons_succ]
    refine wpAnyH_take (i := 4) (v := undef) rfl (by kernel_rfl) (by kernel_rfl) (by kernel_rfl) (fun _ _ _ h => h) (Or.inr ⟨by rfl, rfl⟩) (by assumption) ?_
    try simp only [Act.put, List.getElem_toArray, List.getElem_cons_zero, List.getElem_cons_succ, List.setIfInBounds_toArray, List.set_cons_zero, List.set_cons_succ]
    refine wpAnyH_take (i := 5) (v := undef) rfl (by kernel_rfl) (by kernel_rfl) (by kernel_rfl) (fun _ _ _ h => h) (Or.inr ⟨by rfl, rfl⟩) (by assumption) ?_
    try simp only [Act.put, List.getElem_toArray, List.getElem_cons_zero, List.getElem_cons_succ, List.setIfInBounds_toArray, List.set_cons_zero, List.set_cons_succ]
    refine wpAnyH_take (i := 6) (v := undef) rfl (by kernel_rfl) (by kernel_rfl) (by kernel_rfl) (fun _ _ _ h => h) (Or.inr ⟨by rfl, rfl⟩) (by assumption) ?_
    try simp only [Act.put, List.getElem_toArray, List.getElem_cons_zero, List.getElem_cons_succ, List.setIfInBounds_toArray, List.set_cons_zero, List.set_cons_succ]
    refine wpAnyH_take (i := 7) (v := undef) rfl (by kernel_rfl) (by kernel_rfl) (by kernel_rfl) (fun _ _ _ h => h) (Or.inr ⟨by rfl, rfl⟩) (by assumption) ?_
    try simp only [Act.put, List.getElem_toArray, List.getElem_cons_zero, List.getElem_cons_succ, List.setIfInBounds_toArray, List.set_cons_zero, List.set_cons_succ]
    refine wpAnyH_take (i := 8) (v := undef) rfl (by kernel_rfl) (by kernel_rfl) (by kernel_rfl) (fun _ _ _ h => h) (Or.inr ⟨by rfl, rfl⟩) (by assumption) ?_
    try simp only [Act.put, List.getElem_toArray, List.getElem_cons_zero, List.getElem_cons_succ, List.setIfInBounds_toArray, List.set_cons_zero, List.set_cons_succ]
    refine wpAnyH_take (i := 9) (v := ?_) rfl (by kernel_rfl) (by kernel_rfl) (by kernel_rfl) (fun _ _ _ h => h) (Or.inl ⟨by rfl, ?_⟩) (by assumption) ?_
    rotate_left
    · (intro w hSw; go_simp; try (with_reducible rfl))
    try simp only [Act.put, List.getElem_toArray, List.getElem_cons_zero, List.getElem_cons_succ, List.setIfInBounds_toArray, List.set_cons_zero, List.set_cons_succ]
    refine wpAnyH_done (by kernel_rfl) ?_ _
    refine NoPanic.normal ?_
    have HR3 := Lib.hid (HR2.out.below hHeld.bel)
    have HA3 := Lib.hid (HA2.out.below hHeld.bel)
    have HB3 := Lib.hid (chain HB2.out hHeld.bel)
    go_wp2_with (first | refine load_addr_g HA3 _ rfl rfl rfl ?_ | (refine store_addr HR3 _ _ H16 rfl rfl rfl rfl (fun W HW HA => ?_)))
    refine bodyPost_ret (v := addrV f bs) (results_addr Tryd.results25 rfl HA.out) rfl ⟨by rw [HE.out.1, HE.out.2], by rw [HW.out]; exact below_cells (by omega) _ _ _ HB3.out⟩
end Go.Proofs.YtickghbjhiegnaaDoor
