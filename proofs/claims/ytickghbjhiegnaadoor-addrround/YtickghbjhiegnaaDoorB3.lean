/- Texts that belong together, one behind the other: RefAddrOf, Decimals, Prints, HexParts, Pieces, RefSixPrint, RefSixRow, Hexes, EqArr, SixRun, SixPrint. -/
import Derived.Test.YtickghbjhiegnaaDoorB2
import Derived.Test.YtickghbjhiegnaaDoorShelf
import Derived.Deep.RegionHeld3
import Derived.Lib.LaidTab
import Derived.Test.YtickghbjhiegnaaDoorRows
import Derived.WalkKit
import Derived.ChangeKeysEq
import Derived.WalkSmall
/- Contracts of the reference's Of4 and Of6 of layer 4. -/
namespace Go.Proofs.YtickghbjhiegnaaDoor
open Go.RowKit
set_option linter.unusedVariables false
set_option maxRecDepth 20000

theorem Arr8.of8 (w : World) (t : TypeId) (x0 x1 x2 x3 x4 x5 x6 x7 : Nat) : Arr8 (w.alloc (.cells #[.int .u16 (x0 : Int), .int .u16 (x1 : Int), .int .u16 (x2 : Int), .int .u16 (x3 : Int), .int .u16 (x4 : Int), .int .u16 (x5 : Int), .int .u16 (x6 : Int), .int .u16 (x7 : Int)] t)) w.heap.size [x0, x1, x2, x3, x4, x5, x6, x7] := by
  refine ⟨rfl, by simp, ?_, fun j _ => World.frozen?_alloc_new _ _ _ _⟩
  intro j hj
  have : j = 0 ∨ j = 1 ∨ j = 2 ∨ j = 3 ∨ j = 4 ∨ j = 5 ∨ j = 6 ∨ j = 7 := by omega
  rcases this with rfl | rfl | rfl | rfl | rfl | rfl | rfl | rfl <;> simp [World.cell?_alloc_new]

/-- What Of4 has laid behind k rounds. -/
def lo4 (n : Nat) : Nat → List Nat
  | 0 => List.replicate 16 0
  | k + 1 => (lo4 n k).set (3 - k) (n / 256 ^ k % 256)
def b4 (n : Nat) : List Nat := lo4 n 4
theorem b4_eq (n : Nat) : b4 n = [n / 16777216 % 256, n / 65536 % 256, n / 256 % 256, n % 256, 0, 0, 0, 0, 0, 0, 0, 0, 0, 0, 0, 0] := by
  simp [b4, lo4]
theorem b4_len (n : Nat) : (b4 n).length = 16 := by rw [b4_eq]; rfl
theorem zero_addr (f : Int) : (#[.int .i64 f, .int .u8 0, .int .u8 0, .int .u8 0, .int .u8 0, .int .u8 0, .int .u8 0, .int .u8 0, .int .u8 0, .int .u8 0, .int .u8 0, .int .u8 0, .int .u8 0, .int .u8 0, .int .u8 0, .int .u8 0, .int .u8 0] : Array Value).toList = Value.int .i64 f :: (List.replicate 16 0).map fun n => Value.int .u8 ((n : Nat) : Int) := rfl
set_option maxRecDepth 100000 in
set_option maxHeartbeats 2000000 in
theorem refOf4_any (n : Nat) (w : World) (hn : n ≤ 4294967295) :
    Calls Tryd.prog 19 #[.int .u32 (n : Int)] w fun e w' => e = .returned (addrV 4 (b4 n)) ∧ Below w.heap.size w w' := by
  have hR := AddrAt.of w 25 #[.int .i64 0, .int .u8 0, .int .u8 0, .int .u8 0, .int .u8 0, .int .u8 0, .int .u8 0, .int .u8 0, .int .u8 0, .int .u8 0, .int .u8 0, .int .u8 0, .int .u8 0, .int .u8 0, .int .u8 0, .int .u8 0, .int .u8 0] 0 (List.replicate 16 0) rfl (zero_addr 0)
  have hP := AddrAt.of (w.alloc (.cells #[.int .i64 0, .int .u8 0, .int .u8 0, .int .u8 0, .int .u8 0, .int .u8 0, .int .u8 0, .int .u8 0, .int .u8 0, .int .u8 0, .int .u8 0, .int .u8 0, .int .u8 0, .int .u8 0, .int .u8 0, .int .u8 0, .int .u8 0] 25)) 25 #[.int .i64 4, .int .u8 0, .int .u8 0, .int .u8 0, .int .u8 0, .int .u8 0, .int .u8 0, .int .u8 0, .int .u8 0, .int .u8 0, .int .u8 0, .int .u8 0, .int .u8 0, .int .u8 0, .int .u8 0, .int .u8 0, .int .u8 0] 4 (List.replicate 16 0) rfl (zero_addr 4)
  have b1 : Below w.heap.size w (w.alloc (.cells #[.int .i64 0, .int .u8 0, .int .u8 0, .int .u8 0, .int .u8 0, .int .u8 0, .int .u8 0, .int .u8 0, .int .u8 0, .int .u8 0, .int .u8 0, .int .u8 0, .int .u8 0, .int .u8 0, .int .u8 0, .int .u8 0, .int .u8 0] 25)) := (Below.refl _ _).alloc (Nat.le_refl _) _
  have b2 := b1.alloc b1.size (.cells #[.int .i64 4, .int .u8 0, .int .u8 0, .int .u8 0, .int .u8 0, .int .u8 0, .int .u8 0, .int .u8 0, .int .u8 0, .int .u8 0, .int .u8 0, .int .u8 0, .int .u8 0, .int .u8 0, .int .u8 0, .int .u8 0, .int .u8 0] 25)
  have hR2 := hR.below ((Below.refl _ _).alloc (Nat.le_refl _) (.cells #[.int .i64 4, .int .u8 0, .int .u8 0, .int .u8 0, .int .u8 0, .int .u8 0, .int .u8 0, .int .u8 0, .int .u8 0, .int .u8 0, .int .u8 0, .int .u8 0, .int .u8 0, .int .u8 0, .int .u8 0, .int .u8 0, .int .u8 0] 25))
  have e1 : (w.alloc (.cells #[.int .i64 0, .int .u8 0, .int .u8 0, .int .u8 0, .int .u8 0, .int .u8 0, .int .u8 0, .int .u8 0, .int .u8 0, .int .u8 0, .int .u8 0, .int .u8 0, .int .u8 0, .int .u8 0, .int .u8 0, .int .u8 0, .int .u8 0] 25)).heap.size = w.heap.size + 1 := by simp
  rw [e1] at hP
  clear hR b1
  go_enter Tryd.func19, Tryd.ntmps19
  go_wp2_with fail
  generalize ((w.alloc (.cells #[.int .i64 0, .int .u8 0, .int .u8 0, .int .u8 0, .int .u8 0, .int .u8 0, .int .u8 0, .int .u8 0, .int .u8 0, .int .u8 0, .int .u8 0, .int .u8 0, .int .u8 0, .int .u8 0, .int .u8 0, .int .u8 0, .int .u8 0] 25)).alloc (.cells #[.int .i64 4, .int .u8 0, .int .u8 0, .int .u8 0, .int .u8 0, .int .u8 0, .int .u8 0, .int .u8 0, .int .u8 0, .int .u8 0, .int .u8 0, .int .u8 0, .int .u8 0, .int .u8 0, .int .u8 0, .int .u8 0, .int .u8 0] 25)) = W at *
  clear e1
  have HR := Lib.hid hR2
  have HP := Lib.hid hP
  clear hR2 hP
  go_loopw [0, 4] (fun t i wr => ∃ (k X : Nat) (l : List Nat), k ≤ 4 ∧ i = .int .i64 ((3 : Int) - (k : Int)) ∧ t = .int .u32 (X : Int) ∧ X ≤ 4294967295 ∧ Hid (X = n / 256 ^ k) ∧ Hid (AddrAt wr w.heap.size 0 (List.replicate 16 0)) ∧ Hid (AddrAt wr (w.heap.size + 1) 4 l) ∧ Hid (l = lo4 n k) ∧ Below w.heap.size w wr) (fun _ i _ => ((intOf i) + 1).toNat)
  case atStart => exact ⟨0, n, _, by decide, rfl, rfl, hn, Lib.hid (by simp), HR, HP, Lib.hid rfl, b2⟩
  case round =>
    obtain ⟨k, X, l, hk, rfl, rfl, hX, HX, HR2, HP2, HL, hbel⟩ := hrel
    by_cases hk4 : k < 4
    · obtain ⟨j, hj, ej⟩ : ∃ j : Nat, 3 - k = j ∧ (3 : Int) - (k : Int) = (j : Int) := ⟨_, rfl, by omega⟩
      have hp0 := HP2.out.cells j (by omega)
      have hl0 := HP2.out.live (1 + j) (by omega)
      obtain ⟨m, hm, em⟩ : ∃ m : Nat, X % 256 = m ∧ (X : Int) % 256 = (m : Int) := ⟨_, rfl, by omega⟩
      have wm : IntKind.u8.wrap (m : Int) = (m : Int) := by rw [IntKind.wrap_u8]; omega
      have hj16 : (j : Int) < 16 := by omega
      have HS := Lib.hid (HP2.out.set (i := j) (by omega) m)
      have HE : Hid (l.set j m = lo4 n (k + 1)) := Lib.hid (by rw [HL.out, lo4, hj, ← hm, HX.out])
      have HX2 : Hid (X / 256 = n / 256 ^ (k + 1)) := Lib.hid (by rw [HX.out, Nat.pow_succ, Nat.div_div_eq_div_mul])
      have hjk : j + k = 3 := by omega
      generalize l.getD j 0 = o0 at hp0
      clear hj hm
      go_wp2_with fail
      go_roundw
      case rel => exact ⟨k + 1, X / 256, l.set j m, by omega, by congr 1; omega, by first | rfl | (congr 1; omega), by omega, HX2, Lib.hid (HR2.out.other (by omega) _), HS, HE, hbel.setCell (p := ⟨w.heap.size + 1, 1 + j, none⟩) (by show w.heap.size ≤ w.heap.size + 1; omega) _⟩
      case measure => simp [intOf]; omega
    · obtain rfl : k = 4 := by omega
      have hll : l = b4 n := HL.out
      subst hll
      have HLN : Hid ((b4 n).length = 16) := Lib.hid HP2.out.len
      go_wp2_with (first | refine load_addr HP2 _ rfl rfl rfl ?_ | (refine store_addr HR2 _ _ HLN rfl rfl rfl rfl (fun W HW HA => ?_)))
      refine bodyPost_ret (v := addrV 4 (b4 n)) (results_addr Tryd.results19 rfl HA.out) rfl ⟨rfl, by rw [HW.out]; exact below_cells (by omega) _ _ _ hbel⟩

set_option maxRecDepth 100000 in
set_option maxHeartbeats 2000000 in
theorem refOf6_any (gs : List Nat) (w : World) (h8 : gs.length = 8) (hlt : ∀ x ∈ gs, x < 65536) :
    Calls Tryd.prog 21 #[arr8 gs] w fun e w' => e = .returned (addrV 6 (byL gs)) ∧ Below w.heap.size w w' := by
  obtain ⟨x0, x1, x2, x3, x4, x5, x6, x7, hgs⟩ := list8 gs h8
  have ha : arr8 gs = .agg #[.int .u16 (x0 : Int), .int .u16 (x1 : Int), .int .u16 (x2 : Int), .int .u16 (x3 : Int), .int .u16 (x4 : Int), .int .u16 (x5 : Int), .int .u16 (x6 : Int), .int .u16 (x7 : Int)] := by rw [hgs]; rfl
  have hA := Arr8.of8 w 33 x0 x1 x2 x3 x4 x5 x6 x7
  rw [← hgs] at hA
  have b1 : Below w.heap.size w (w.alloc (.cells #[.int .u16 (x0 : Int), .int .u16 (x1 : Int), .int .u16 (x2 : Int), .int .u16 (x3 : Int), .int .u16 (x4 : Int), .int .u16 (x5 : Int), .int .u16 (x6 : Int), .int .u16 (x7 : Int)] 33)) := (Below.refl _ _).alloc (Nat.le_refl _) _
  have b2 := b1.alloc b1.size (.cells #[.int .i64 0, .int .u8 0, .int .u8 0, .int .u8 0, .int .u8 0, .int .u8 0, .int .u8 0, .int .u8 0, .int .u8 0, .int .u8 0, .int .u8 0, .int .u8 0, .int .u8 0, .int .u8 0, .int .u8 0, .int .u8 0, .int .u8 0] 25)
  have b3 := b2.alloc b2.size (.cells #[.int .i64 6, .int .u8 0, .int .u8 0, .int .u8 0, .int .u8 0, .int .u8 0, .int .u8 0, .int .u8 0, .int .u8 0, .int .u8 0, .int .u8 0, .int .u8 0, .int .u8 0, .int .u8 0, .int .u8 0, .int .u8 0, .int .u8 0] 25)
  have hR := AddrAt.of (w.alloc (.cells #[.int .u16 (x0 : Int), .int .u16 (x1 : Int), .int .u16 (x2 : Int), .int .u16 (x3 : Int), .int .u16 (x4 : Int), .int .u16 (x5 : Int), .int .u16 (x6 : Int), .int .u16 (x7 : Int)] 33)) 25 #[.int .i64 0, .int .u8 0, .int .u8 0, .int .u8 0, .int .u8 0, .int .u8 0, .int .u8 0, .int .u8 0, .int .u8 0, .int .u8 0, .int .u8 0, .int .u8 0, .int .u8 0, .int .u8 0, .int .u8 0, .int .u8 0, .int .u8 0] 0 (List.replicate 16 0) rfl (zero_addr 0)
  have hP := AddrAt.of ((w.alloc (.cells #[.int .u16 (x0 : Int), .int .u16 (x1 : Int), .int .u16 (x2 : Int), .int .u16 (x3 : Int), .int .u16 (x4 : Int), .int .u16 (x5 : Int), .int .u16 (x6 : Int), .int .u16 (x7 : Int)] 33)).alloc (.cells #[.int .i64 0, .int .u8 0, .int .u8 0, .int .u8 0, .int .u8 0, .int .u8 0, .int .u8 0, .int .u8 0, .int .u8 0, .int .u8 0, .int .u8 0, .int .u8 0, .int .u8 0, .int .u8 0, .int .u8 0, .int .u8 0, .int .u8 0] 25)) 25 #[.int .i64 6, .int .u8 0, .int .u8 0, .int .u8 0, .int .u8 0, .int .u8 0, .int .u8 0, .int .u8 0, .int .u8 0, .int .u8 0, .int .u8 0, .int .u8 0, .int .u8 0, .int .u8 0, .int .u8 0, .int .u8 0, .int .u8 0] 6 (List.replicate 16 0) rfl (zero_addr 6)
  have hA2 := (hA.below ((Below.refl _ _).alloc (Nat.le_refl _) (.cells #[.int .i64 0, .int .u8 0, .int .u8 0, .int .u8 0, .int .u8 0, .int .u8 0, .int .u8 0, .int .u8 0, .int .u8 0, .int .u8 0, .int .u8 0, .int .u8 0, .int .u8 0, .int .u8 0, .int .u8 0, .int .u8 0, .int .u8 0] 25))).below ((Below.refl _ _).alloc (Nat.le_refl _) (.cells #[.int .i64 6, .int .u8 0, .int .u8 0, .int .u8 0, .int .u8 0, .int .u8 0, .int .u8 0, .int .u8 0, .int .u8 0, .int .u8 0, .int .u8 0, .int .u8 0, .int .u8 0, .int .u8 0, .int .u8 0, .int .u8 0, .int .u8 0] 25))
  have hR2 := hR.below ((Below.refl _ _).alloc (Nat.le_refl _) (.cells #[.int .i64 6, .int .u8 0, .int .u8 0, .int .u8 0, .int .u8 0, .int .u8 0, .int .u8 0, .int .u8 0, .int .u8 0, .int .u8 0, .int .u8 0, .int .u8 0, .int .u8 0, .int .u8 0, .int .u8 0, .int .u8 0, .int .u8 0] 25))
  have e1 : (w.alloc (.cells #[.int .u16 (x0 : Int), .int .u16 (x1 : Int), .int .u16 (x2 : Int), .int .u16 (x3 : Int), .int .u16 (x4 : Int), .int .u16 (x5 : Int), .int .u16 (x6 : Int), .int .u16 (x7 : Int)] 33)).heap.size = w.heap.size + 1 := by simp
  have e2 : ((w.alloc (.cells #[.int .u16 (x0 : Int), .int .u16 (x1 : Int), .int .u16 (x2 : Int), .int .u16 (x3 : Int), .int .u16 (x4 : Int), .int .u16 (x5 : Int), .int .u16 (x6 : Int), .int .u16 (x7 : Int)] 33)).alloc (.cells #[.int .i64 0, .int .u8 0, .int .u8 0, .int .u8 0, .int .u8 0, .int .u8 0, .int .u8 0, .int .u8 0, .int .u8 0, .int .u8 0, .int .u8 0, .int .u8 0, .int .u8 0, .int .u8 0, .int .u8 0, .int .u8 0, .int .u8 0] 25)).heap.size = w.heap.size + 1 + 1 := by simp
  rw [e1] at hR2
  rw [e2] at hP
  rw [ha]
  have H8 := Lib.hid h8
  have HLT := Lib.hid hlt
  clear ha hgs h8 hlt hA hR b1 b2
  go_enter Tryd.func21, Tryd.ntmps21
  go_wp2_with fail
  generalize (((w.alloc (.cells #[.int .u16 (x0 : Int), .int .u16 (x1 : Int), .int .u16 (x2 : Int), .int .u16 (x3 : Int), .int .u16 (x4 : Int), .int .u16 (x5 : Int), .int .u16 (x6 : Int), .int .u16 (x7 : Int)] 33)).alloc (.cells #[.int .i64 0, .int .u8 0, .int .u8 0, .int .u8 0, .int .u8 0, .int .u8 0, .int .u8 0, .int .u8 0, .int .u8 0, .int .u8 0, .int .u8 0, .int .u8 0, .int .u8 0, .int .u8 0, .int .u8 0, .int .u8 0, .int .u8 0] 25)).alloc (.cells #[.int .i64 6, .int .u8 0, .int .u8 0, .int .u8 0, .int .u8 0, .int .u8 0, .int .u8 0, .int .u8 0, .int .u8 0, .int .u8 0, .int .u8 0, .int .u8 0, .int .u8 0, .int .u8 0, .int .u8 0, .int .u8 0, .int .u8 0] 25)) = W at *
  clear e1 e2
  have HA := Lib.hid hA2
  have HR := Lib.hid hR2
  have HP := Lib.hid hP
  clear hA2 hR2 hP
  go_loopw [4] (fun i wr => ∃ (k : Nat) (l : List Nat), k ≤ 8 ∧ i = .int .i64 k ∧ Hid (Arr8 wr w.heap.size gs) ∧ Hid (AddrAt wr (w.heap.size + 1) 0 (List.replicate 16 0)) ∧ Hid (AddrAt wr (w.heap.size + 1 + 1) 6 l) ∧ Hid (l = byL (gs.take k) ++ List.replicate (16 - 2 * k) 0) ∧ Below w.heap.size w wr) (fun i _ => 8 - (intOf i).toNat)
  case atStart => exact ⟨0, _, by decide, rfl, HA, HR, HP, Lib.hid rfl, b3⟩
  case round =>
    obtain ⟨k, l, hk, rfl, HA2, HR2, HP2, HL, hbel⟩ := hrel
    by_cases hk8 : k < 8
    · have hcell := HA2.out.cells k hk8
      have hx : gs.getD k 0 < 65536 := by
        rw [List.getD_eq_getElem?_getD, List.getElem?_eq_getElem (by rw [H8.out]; exact hk8)]
        exact HLT.out _ (List.getElem_mem _)
      have et : gs.take (k + 1) = gs.take k ++ [gs.getD k 0] := by
        rw [List.take_add_one, List.getD_eq_getElem?_getD, List.getElem?_eq_getElem (by rw [H8.out]; exact hk8)]; rfl
      obtain ⟨x, ex⟩ : ∃ x, gs.getD k 0 = x := ⟨_, rfl⟩
      rw [ex] at hcell hx et
      obtain ⟨c, hc, ec⟩ : ∃ c : Nat, 2 * k = c ∧ (2 : Int) * (k : Int) = (c : Int) := ⟨_, rfl, by omega⟩
      obtain ⟨hi, hhi, ehi⟩ : ∃ hi : Nat, x / 256 = hi ∧ (x : Int) / 256 = (hi : Int) := ⟨_, rfl, by omega⟩
      obtain ⟨lo, hlo, elo⟩ : ∃ lo : Nat, x % 256 = lo ∧ (x : Int) % 256 = (lo : Int) := ⟨_, rfl, by omega⟩
      have whi : IntKind.u8.wrap (hi : Int) = (hi : Int) := by rw [IntKind.wrap_u8]; omega
      have wlo : IntKind.u8.wrap (lo : Int) = (lo : Int) := by rw [IntKind.wrap_u8]; omega
      have hc15 : c + 1 < 16 := by omega
      have c1 : (c : Int) < 16 := by omega
      have c2 : (c : Int) + 1 < 16 := by omega
      have k1 : (k : Int) < 8 := by omega
      have hp0 := HP2.out.cells c (by omega)
      have hl0 := HP2.out.live (1 + c) (by omega)
      have hcell2 := (HA2.out.other (B' := w.heap.size + 1 + 1) (k := 1 + c) (by omega) (.int .u8 (hi : Int))).cells k hk8
      rw [ex] at hcell2
      have HP3 := Lib.hid (HP2.out.set (i := c) (by omega) hi)
      have hp1 := HP3.out.cells (c + 1) (by omega)
      have hl1 := HP3.out.live (1 + (c + 1)) (by omega)
      have HS := Lib.hid (HP3.out.set (i := c + 1) (by omega) lo)
      have HE : Hid (((l.set c hi).set (c + 1) lo) = byL (gs.take (k + 1)) ++ List.replicate (16 - 2 * (k + 1)) 0) := Lib.hid (by
        rw [HL.out, et, byL_snoc, ← hc, ← hhi, ← hlo]
        exact set_two _ k _ _ hk8 (by rw [byL_len, List.length_take, H8.out]; omega))
      generalize l.getD c 0 = o0 at hp0
      generalize (l.set c hi).getD (c + 1) 0 = o1 at hp1
      clear ex et hc hhi hlo
      go_wp2_with fail
      go_roundw
      case rel => exact ⟨k + 1, (l.set c hi).set (c + 1) lo, by omega, by go_num, Lib.hid ((HA2.out.other (by omega) _).other (by omega) _), Lib.hid ((HR2.out.other (by omega) _).other (by omega) _), HS, HE, (hbel.setCell (p := ⟨w.heap.size + 1 + 1, 1 + c, none⟩) (by show w.heap.size ≤ w.heap.size + 1 + 1; omega) _).setCell (p := ⟨w.heap.size + 1 + 1, 1 + (c + 1), none⟩) (by show w.heap.size ≤ w.heap.size + 1 + 1; omega) _⟩
      case measure => simp [intOf]; omega
    · obtain rfl : k = 8 := by omega
      have hll : l = byL gs := by rw [HL.out, List.take_of_length_le (by rw [H8.out]; exact Nat.le_refl _)]; simp
      subst hll
      have HLN : Hid ((byL gs).length = 16) := Lib.hid HP2.out.len
      go_wp2_with (first | refine load_addr HP2 _ rfl rfl rfl ?_ | (refine store_addr HR2 _ _ HLN rfl rfl rfl rfl (fun W HW HA => ?_)))
      refine bodyPost_ret (v := addrV 6 (byL gs)) (results_addr Tryd.results21 rfl HA.out) rfl ⟨rfl, by rw [HW.out]; exact below_cells (by omega) _ _ _ hbel⟩
end Go.Proofs.YtickghbjhiegnaaDoor
/- The contract of text.Decimal: a number's decimal digits, by strconv's own. -/
namespace Go.Proofs.YtickghbjhiegnaaDoor
open Go.RowKit
set_option linter.unusedVariables false
set_option maxRecDepth 20000

theorem below_grow (w : World) (k : Nat) (os : Array Obj) : Below w.heap.size w (Sort.grow (w.drewN k) os) :=
  ⟨rfl, rfl, rfl, by
    show w.heap.size ≤ (w.heap ++ os).size
    simp, fun j hj => by
    show (w.heap ++ os)[j]? = w.heap[j]?
    rw [Array.getElem?_append_left hj]⟩

set_option maxHeartbeats 400000 in
theorem decimal_any (n : Int) (w : World) (h0 : -9223372036854775808 ≤ n) (h1 : n ≤ 9223372036854775807) (htab : Lib.TabIs Tryd.prog w "internal/strconv.uint64pow10" .u64 Lib.pow10Tab) :
    Calls Tryd.prog 60 #[.int .i64 n] w fun e w' => e = .returned (.string ⟨(Lib.itoa n).toArray⟩) ∧ Below w.heap.size w w' := by
  have HT := Lib.hid htab
  clear htab
  go_enter Tryd.func60, Tryd.ntmps60
  go_wp2_with fail
  refine (Tryd.strconv_Itoa n h0 h1 _ HT.out).mono ?_
  rintro e w1 ⟨rfl, k, os, rfl⟩
  go_wp2_with fail
  go_ret
  exact ⟨rfl, below_grow _ _ _⟩

end Go.Proofs.YtickghbjhiegnaaDoor
/- Contracts of four.Bytes and four.Print: an address's bytes and its text. -/
namespace Go.Proofs.YtickghbjhiegnaaDoor
open Go.RowKit
set_option linter.unusedVariables false
set_option maxRecDepth 20000

set_option maxRecDepth 100000 in
set_option maxHeartbeats 1000000 in
theorem bytes_any (a b c d n : Nat) (w : World) (ha : a < 256) (hb : b < 256) (hc : c < 256) (hd : d < 256) (hn : n = num4 a b c d) :
    Calls Tryd.prog 44 #[.int .u32 (n : Int)] w fun e w' => e = .returned (arr4 a b c d) ∧ Below w.heap.size w w' := by
  unfold num4 at hn
  have hle : n ≤ 4294967295 := by omega
  have e1 : (n : Int) / 16777216 = (a : Int) := by omega
  have e2 : (n : Int) / 65536 % 256 = (b : Int) := by omega
  have e3 : (n : Int) / 256 % 256 = (c : Int) := by omega
  have e4 : (n : Int) % 256 = (d : Int) := by omega
  clear hn
  go_enter Tryd.func44, Tryd.ntmps44
  go_wp2
  refine bodyPost_ret (v := arr4 a b c d) (by simp [results, Tryd.results44, go_sem, arr4, e2, e3, e4]) rfl ⟨rfl, ?_⟩
  exact (Below.refl _ _).alloc (Nat.le_refl _) _
/-- The address's text, byte by byte. -/
def prT (a b c d : Nat) : Nat → List UInt8
  | 0 => []
  | 1 => dec a
  | 2 => dec a ++ 46 :: dec b
  | 3 => dec a ++ 46 :: (dec b ++ 46 :: dec c)
  | _ => dec a ++ 46 :: (dec b ++ 46 :: (dec c ++ 46 :: dec d))
theorem decimal_nat (u : Nat) (w : World) (h : u ≤ 9223372036854775807) (htab : Lib.TabIs Tryd.prog w "internal/strconv.uint64pow10" .u64 Lib.pow10Tab) :
    Calls Tryd.prog 60 #[.int .i64 (u : Int)] w fun e w' => e = .returned (.string (ofL (dec u))) ∧ Below w.heap.size w w' := by
  have := decimal_any (u : Int) w (by omega) (by omega) htab
  rw [show Lib.itoa (u : Int) = Lib.decDigits u from Lib.itoa_nonneg u] at this
  exact this
set_option maxRecDepth 100000 in
set_option maxHeartbeats 4000000 in
theorem print_any (a b c d n : Nat) (w : World) (ha : a < 256) (hb : b < 256) (hc : c < 256) (hd : d < 256) (hn : n = num4 a b c d)
    (htab : ∀ w', Below w.heap.size w w' → Lib.TabIs Tryd.prog w' "internal/strconv.uint64pow10" .u64 Lib.pow10Tab) :
    Calls Tryd.prog 38 #[.int .u32 (n : Int)] w fun e w' => e = .returned (.string (text4 a b c d)) ∧ Below w.heap.size w w' := by
  have HT := Lib.hid htab
  have HN := Lib.hid hn
  clear htab hn
  have i0 : ∀ w : World, (Instr.index 54 (.agg #[.int .u8 (a : Int), .int .u8 (b : Int), .int .u8 (c : Int), .int .u8 (d : Int)]) (.int .i64 0)).run Tryd.prog w = .ok (.int .u8 (a : Int)) w := fun _ => by kernel_rfl
  have i1 : ∀ w : World, (Instr.index 54 (.agg #[.int .u8 (a : Int), .int .u8 (b : Int), .int .u8 (c : Int), .int .u8 (d : Int)]) (.int .i64 1)).run Tryd.prog w = .ok (.int .u8 (b : Int)) w := fun _ => by kernel_rfl
  have i2 : ∀ w : World, (Instr.index 54 (.agg #[.int .u8 (a : Int), .int .u8 (b : Int), .int .u8 (c : Int), .int .u8 (d : Int)]) (.int .i64 2)).run Tryd.prog w = .ok (.int .u8 (c : Int)) w := fun _ => by kernel_rfl
  have i3 : ∀ w : World, (Instr.index 54 (.agg #[.int .u8 (a : Int), .int .u8 (b : Int), .int .u8 (c : Int), .int .u8 (d : Int)]) (.int .i64 3)).run Tryd.prog w = .ok (.int .u8 (d : Int)) w := fun _ => by kernel_rfl
  go_enter Tryd.func38, Tryd.ntmps38
  go_wp2_with fail
  refine (bytes_any a b c d n _ ha hb hc hd HN.out).mono ?_
  rintro e w1 ⟨rfl, hb1⟩
  unfold arr4
  go_wp2_with fail
  go_loopw [3, 8] (fun s i wr => ∃ (k : Nat) (S : ByteArray), k ≤ 4 ∧ i = .int .i64 k ∧ s = .string S ∧ S.size ≤ 22 * k ∧ Hid (S.data.toList = prT a b c d k) ∧ Below w.heap.size w wr) (fun _ i _ => 4 - (intOf i).toNat)
  case atStart => exact ⟨0, _, by decide, rfl, rfl, by decide, Lib.hid rfl, hb1⟩
  case round =>
    obtain ⟨k, S, hk, rfl, rfl, hS, HS, hbel⟩ := hrel
    have hk5 : k = 0 ∨ k = 1 ∨ k = 2 ∨ k = 3 ∨ k = 4 := by omega
    rcases hk5 with rfl | rfl | rfl | rfl | rfl
    · have hl := dec_small a ha
      have hlz := ofL_size (dec a)
      go_wp2_with fail
      refine (decimal_nat a _ (by omega) (HT.out _ hbel)).mono ?_
      rintro e w2 ⟨rfl, hb2⟩
      generalize hD : ofL (dec a) = D at *
      have HD := Lib.hid hD
      clear hD
      have hDz : D.size ≤ 21 := by omega
      go_wp2_with fail
      go_roundw
      case rel => exact ⟨1, _, by decide, rfl, rfl, by simp [ByteArray.size_append] <;> (try show _ + 1 + _ ≤ _) <;> omega, Lib.hid (by rw [← HD.out]; simp only [data_append, ofL_data, HS.out]; simp [prT]), chain hbel hb2⟩
      case measure => simp [intOf]
    · have hl := dec_small b hb
      have hlz := ofL_size (dec b)
      go_wp2_with fail
      refine (decimal_nat b _ (by omega) (HT.out _ hbel)).mono ?_
      rintro e w2 ⟨rfl, hb2⟩
      generalize hD : ofL (dec b) = D at *
      have HD := Lib.hid hD
      clear hD
      have hDz : D.size ≤ 21 := by omega
      go_wp2_with fail
      go_roundw
      case rel => exact ⟨2, _, by decide, rfl, rfl, by simp [ByteArray.size_append] <;> (try show _ + 1 + _ ≤ _) <;> omega, Lib.hid (by rw [← HD.out]; simp only [data_append, ofL_data, HS.out]; simp [prT]), chain hbel hb2⟩
      case measure => simp [intOf]
    · have hl := dec_small c hc
      have hlz := ofL_size (dec c)
      go_wp2_with fail
      refine (decimal_nat c _ (by omega) (HT.out _ hbel)).mono ?_
      rintro e w2 ⟨rfl, hb2⟩
      generalize hD : ofL (dec c) = D at *
      have HD := Lib.hid hD
      clear hD
      have hDz : D.size ≤ 21 := by omega
      go_wp2_with fail
      go_roundw
      case rel => exact ⟨3, _, by decide, rfl, rfl, by simp [ByteArray.size_append] <;> (try show _ + 1 + _ ≤ _) <;> omega, Lib.hid (by rw [← HD.out]; simp only [data_append, ofL_data, HS.out]; simp [prT]), chain hbel hb2⟩
      case measure => simp [intOf]
    · have hl := dec_small d hd
      have hlz := ofL_size (dec d)
      go_wp2_with fail
      refine (decimal_nat d _ (by omega) (HT.out _ hbel)).mono ?_
      rintro e w2 ⟨rfl, hb2⟩
      generalize hD : ofL (dec d) = D at *
      have HD := Lib.hid hD
      clear hD
      have hDz : D.size ≤ 21 := by omega
      go_wp2_with fail
      go_roundw
      case rel => exact ⟨4, _, by decide, rfl, rfl, by simp [ByteArray.size_append] <;> (try show _ + 1 + _ ≤ _) <;> omega, Lib.hid (by rw [← HD.out]; simp only [data_append, ofL_data, HS.out]; simp [prT]), chain hbel hb2⟩
      case measure => simp [intOf]
    · go_wp2_with fail
      go_ret
      exact ⟨str_ret (by rw [HS.out]; unfold text4; rw [ofL_data]; rfl), hbel⟩

theorem of_num (a b c d n : Nat) (w : World) (ha : a < 256) (hb : b < 256) (hc : c < 256) (hd : d < 256) (hn : n = num4 a b c d) :
    Calls Tryd.prog 46 #[arr4 a b c d] w fun e w' => e = .returned (.int .u32 (n : Int)) ∧ Below w.heap.size w w' := by
  have := of_any a b c d w ha hb hc hd
  rw [show ((a * 256 + b) * 256 + c) * 256 + d = n from hn.symm] at this
  exact this
theorem strict_at (s : ByteArray) (r : Option Nat) (w : World) (hs : s.size ≤ 1000000) (hr : strictB s = r) :
    Calls Tryd.prog 34 #[.string s] w fun e w' => e = .returned (strictRet r) ∧ Below w.heap.size w w' := by
  have := strict_any s w hs
  rw [hr] at this
  exact this
end Go.Proofs.YtickghbjhiegnaaDoor
/- Numbers' digits of the bases 16 and 8, as parts of loose texts; plain facts. -/
namespace Go.Proofs.YtickghbjhiegnaaDoor
open Go.RowKit
set_option linter.unusedVariables false
set_option maxRecDepth 20000

def hexc (d : Nat) : UInt8 := if d < 10 then UInt8.ofNat (48 + d) else UInt8.ofNat (87 + d)
theorem hexc_nat (d : Nat) (h : d < 16) : (hexc d).toNat = if d < 10 then 48 + d else 87 + d := by
  unfold hexc
  split
  · rw [UInt8.toNat_ofNat', Nat.mod_eq_of_lt (by omega)]
  · rw [UInt8.toNat_ofNat', Nat.mod_eq_of_lt (by omega)]
theorem digC_hexc (d : Nat) (h : d < 16) : digC (hexc d).toNat = d := by
  rw [hexc_nat d h]
  unfold digC
  by_cases h1 : d < 10
  · rw [if_pos h1, if_pos (by omega)]; omega
  · rw [if_neg h1, if_neg (by omega), if_pos (by omega)]; omega
/-- The lowest i digits of n. -/
def hexL (n b : Nat) : Nat → List UInt8
  | 0 => []
  | i + 1 => hexc (n / b ^ i % b) :: hexL n b i
theorem hexL_length (n b : Nat) : ∀ i, (hexL n b i).length = i
  | 0 => rfl
  | i + 1 => by rw [hexL, List.length_cons, hexL_length n b i]
theorem hexL_mem (n b : Nat) (hb0 : 0 < b) (hb : b ≤ 16) : ∀ i, ∀ c ∈ hexL n b i, c.toNat ≠ 46 ∧ c.toNat ≠ 120 ∧ c.toNat ≠ 88
  | 0 => by simp [hexL]
  | i + 1 => by
    intro c hc
    rw [hexL] at hc
    rcases List.mem_cons.1 hc with h | h
    · rw [h]
      have := Nat.mod_lt (n / b ^ i) hb0
      rw [hexc_nat _ (by omega)]
      split <;> omega
    · exact hexL_mem n b hb0 hb i c h
theorem hexL_read (n b : Nat) (hb0 : 0 < b) (hb : b ≤ 16) : ∀ i x, x ≤ 4294967296 → readL b x (hexL n b i) = some (min (x * b ^ i + n % b ^ i) 4294967296)
  | 0, x, hx => by
    simp [hexL, readL, Nat.mod_one]
    omega
  | i + 1, x, hx => by
    have hd := Nat.mod_lt (n / b ^ i) hb0
    have hp : 0 < b ^ i := Nat.pow_pos hb0
    rw [hexL, readL, digC_hexc _ (by omega), if_neg (by omega), hexL_read n b hb0 hb i _ (Nat.min_le_right _ _)]
    have e : n % b ^ (i + 1) = n / b ^ i % b * b ^ i + n % b ^ i := by
      rw [Nat.pow_succ, Nat.mod_mul, Nat.mul_comm (n / b ^ i % b), Nat.add_comm]
    have e2 : x * b ^ (i + 1) + n % b ^ (i + 1) = (x * b + n / b ^ i % b) * b ^ i + n % b ^ i := by
      rw [e, Nat.pow_succ, Nat.add_mul, Nat.mul_comm (b ^ i) b, ← Nat.mul_assoc, Nat.add_assoc]
    rw [e2]
    generalize x * b + n / b ^ i % b = y
    generalize n % b ^ i = z
    congr 1
    by_cases hy : y ≤ 4294967296
    · rw [Nat.min_eq_left hy]
    · rw [Nat.min_eq_right (by omega : 4294967296 ≤ y)]
      have h1 : 4294967296 * 1 ≤ 4294967296 * b ^ i := Nat.mul_le_mul_left _ hp
      have h2 : 4294967296 * b ^ i ≤ y * b ^ i := Nat.mul_le_mul_right _ (by omega)
      omega
theorem looseHex (n : Nat) (hn : n < 8589934592) : looseB (ofL (48 :: 120 :: hexL n 16 12)) = if 4294967296 ≤ n then (0, 1) else (n, 2) := by
  have hp : partB (ofL (48 :: 120 :: hexL n 16 12)) = some (min n 4294967296) := by
    rw [partB_hex, hexL_read n 16 (by decide) (by decide) _ _ (by decide)]
    simp
    omega
  have hd : ∀ c ∈ (48 :: 120 :: hexL n 16 12 : List UInt8), c.toNat ≠ 46 := by
    intro c hc
    rcases List.mem_cons.1 hc with h | h
    · rw [h]; decide
    · rcases List.mem_cons.1 h with h | h
      · rw [h]; decide
      · exact (hexL_mem n 16 (by decide) (by decide) 12 c h).1
  rw [looseB_parts (lparts1 _ hd (by simp)) (by simpa using hp), joinP1 _ _ hp]
  by_cases h : 4294967296 ≤ n
  · rw [if_pos (by omega), if_pos h]
  · rw [if_neg (by omega), if_neg h, Nat.min_eq_left (by omega)]
theorem looseOct (n : Nat) (hn : n < 8589934592) : looseB (ofL (48 :: hexL n 8 12)) = if 4294967296 ≤ n then (0, 1) else (n, 2) := by
  have hm := hexL_mem n 8 (by decide) (by decide) 12
  have hp : partB (ofL (48 :: hexL n 8 12)) = some (min n 4294967296) := by
    have e := hexL_read n 8 (by decide) (by decide) 12 0 (by decide)
    rw [hexL] at hm e ⊢
    rw [partB_oct _ _ (hm _ (by simp)).2.1 (hm _ (by simp)).2.2, e]
    simp
    omega
  have hd : ∀ c ∈ (48 :: hexL n 8 12 : List UInt8), c.toNat ≠ 46 := by
    intro c hc
    rcases List.mem_cons.1 hc with h | h
    · rw [h]; decide
    · exact (hm c h).1
  rw [looseB_parts (lparts1 _ hd (by simp)) (by simpa using hp), joinP1 _ _ hp]
  by_cases h : 4294967296 ≤ n
  · rw [if_pos (by omega), if_pos h]
  · rw [if_neg (by omega), if_neg h, Nat.min_eq_left (by omega)]
def hexS : ByteArray := { data := #[48, 49, 50, 51, 52, 53, 54, 55, 56, 57, 97, 98, 99, 100, 101, 102] }
def octS : ByteArray := { data := #[48, 49, 50, 51, 52, 53, 54, 55] }
theorem hexS_at (d : Nat) (h : d < 16) (h2 : d < hexS.size) : (hexS[d]).toNat = (hexc d).toNat := by
  have hd : d = 0 ∨ d = 1 ∨ d = 2 ∨ d = 3 ∨ d = 4 ∨ d = 5 ∨ d = 6 ∨ d = 7 ∨ d = 8 ∨ d = 9 ∨ d = 10 ∨ d = 11 ∨ d = 12 ∨ d = 13 ∨ d = 14 ∨ d = 15 := by omega
  rcases hd with rfl | rfl | rfl | rfl | rfl | rfl | rfl | rfl | rfl | rfl | rfl | rfl | rfl | rfl | rfl | rfl <;> rfl
theorem octS_at (d : Nat) (h : d < 8) (h2 : d < octS.size) : (octS[d]).toNat = (hexc d).toNat := by
  have hd : d = 0 ∨ d = 1 ∨ d = 2 ∨ d = 3 ∨ d = 4 ∨ d = 5 ∨ d = 6 ∨ d = 7 := by omega
  rcases hd with rfl | rfl | rfl | rfl | rfl | rfl | rfl | rfl <;> rfl
theorem hexS_get (d : Nat) (h : d < 16) : ∃ c : UInt8, c = hexc d ∧ ∀ h2, ({ data := #[48, 49, 50, 51, 52, 53, 54, 55, 56, 57, 97, 98, 99, 100, 101, 102] } : ByteArray)[d]'h2 = c :=
  ⟨_, rfl, fun h2 => UInt8.toNat_inj.1 (hexS_at d h h2)⟩
theorem octS_get (d : Nat) (h : d < 8) : ∃ c : UInt8, c = hexc d ∧ ∀ h2, ({ data := #[48, 49, 50, 51, 52, 53, 54, 55] } : ByteArray)[d]'h2 = c :=
  ⟨_, rfl, fun h2 => UInt8.toNat_inj.1 (octS_at d h h2)⟩
theorem one_u8 (c : UInt8) (W : World) :
    (convert 62 9 (.slice (some ⟨W.heap.size, 0, none⟩) 1 1)).run Tryd.prog (W.alloc (.cells #[.int .u8 (c.toNat : Int)] 5)) = .ok (.string { data := #[c] }) (W.alloc (.cells #[.int .u8 (c.toNat : Int)] 5)) := by
  have := one_byte c.toNat c.toNat_lt W
  rwa [UInt8.ofNat_toNat] at this
theorem one_u8_next (c : UInt8) (W : World) (o : Obj) :
    (convert 62 9 (.slice (some ⟨W.heap.size + 1, 0, none⟩) 1 1)).run Tryd.prog ((W.alloc o).alloc (.cells #[.int .u8 (c.toNat : Int)] 5)) = .ok (.string { data := #[c] }) ((W.alloc o).alloc (.cells #[.int .u8 (c.toNat : Int)] 5)) := by
  have := one_u8 c (W.alloc o)
  rwa [show (W.alloc o).heap.size = W.heap.size + 1 by simp] at this
end Go.Proofs.YtickghbjhiegnaaDoor
/- Contracts of the functions that cut a text: blank, Trim, the reference's Split, Join; and that the pieces joined are the text. -/
namespace Go.Proofs.YtickghbjhiegnaaDoor
open Go.RowKit
set_option linter.unusedVariables false
set_option maxRecDepth 20000

def blankC (n : Nat) : Bool := decide (n = 32) || decide (n = 9)

/-- The byte at a place, or 0. -/
def byteAt (s : ByteArray) (k : Nat) : Nat := (s.data.toList.getD k 0).toNat
theorem byteAt_eq (s : ByteArray) (k : Nat) (h : k < s.size) : byteAt s k = (s[k]).toNat := by
  unfold byteAt
  rw [List.getD_eq_getElem?_getD, List.getElem?_eq_getElem (by simpa using h)]; rfl
/-- From k on, past blanks. -/
def skip (s : ByteArray) : Nat → Nat → Nat
  | 0, k => k
  | n + 1, k => if k < s.size ∧ blankC (byteAt s k) = true then skip s n (k + 1) else k
def lead (s : ByteArray) : Nat := skip s s.size 0
/-- From k back, past blanks, not below f. -/
def back (s : ByteArray) (f : Nat) : Nat → Nat
  | 0 => 0
  | k + 1 => if f < k + 1 ∧ blankC (byteAt s k) = true then back s f k else k + 1
def trimB (s : ByteArray) : ByteArray := s.extract (lead s) (back s (lead s) s.size)
theorem skip_le (s : ByteArray) : ∀ n k, k ≤ s.size → k ≤ skip s n k ∧ skip s n k ≤ s.size
  | 0, k, h => ⟨Nat.le_refl _, h⟩
  | n + 1, k, h => by
    unfold skip
    split
    · rename_i hh
      have := skip_le s n (k + 1) (by omega)
      omega
    · omega
theorem skip_stop (s : ByteArray) : ∀ n k, s.size ≤ k + n → skip s n k < s.size → blankC (byteAt s (skip s n k)) = false
  | 0, k, h, hlt => by unfold skip at hlt; omega
  | n + 1, k, h, hlt => by
    by_cases hh : k < s.size ∧ blankC (byteAt s k) = true
    · have e : skip s (n + 1) k = skip s n (k + 1) := by rw [skip, if_pos hh]
      rw [e] at hlt ⊢
      exact skip_stop s n (k + 1) (by omega) hlt
    · have e : skip s (n + 1) k = k := by rw [skip, if_neg hh]
      rw [e] at hlt ⊢
      cases hb : blankC (byteAt s k) with
      | false => rfl
      | true => exact absurd ⟨hlt, hb⟩ hh
theorem back_le (s : ByteArray) (f : Nat) : ∀ k, f ≤ k → f ≤ back s f k ∧ back s f k ≤ k
  | 0, h => ⟨h, Nat.le_refl _⟩
  | k + 1, h => by
    unfold back
    split
    · rename_i hh
      have := back_le s f k (by omega)
      omega
    · omega
theorem back_stop (s : ByteArray) (f : Nat) : ∀ k, f < back s f k → blankC (byteAt s (back s f k - 1)) = false
  | 0, h => by unfold back at h; omega
  | k + 1, h => by
    by_cases hh : f < k + 1 ∧ blankC (byteAt s k) = true
    · have e : back s f (k + 1) = back s f k := by rw [back, if_pos hh]
      rw [e] at h ⊢
      exact back_stop s f k h
    · have e : back s f (k + 1) = k + 1 := by rw [back, if_neg hh]
      rw [e] at h ⊢
      cases hb : blankC (byteAt s k) with
      | false => exact hb
      | true => exact absurd ⟨h, hb⟩ hh
theorem lead_le (s : ByteArray) : lead s ≤ s.size := (skip_le s s.size 0 (Nat.zero_le _)).2
theorem byteAt_extract (s : ByteArray) (f t j : Nat) (h : f + j < t) (ht : t ≤ s.size) : byteAt (s.extract f t) j = byteAt s (f + j) := by
  unfold byteAt
  rw [data_extract]
  simp only [List.getD_eq_getElem?_getD]
  rw [List.getElem?_take_of_lt (by omega), List.getElem?_drop]
theorem lead_zero (s : ByteArray) (h : s.size = 0 ∨ blankC (byteAt s 0) = false) : lead s = 0 := by
  unfold lead
  cases hs : s.size with
  | zero => rfl
  | succ n =>
    rw [skip, if_neg]
    rcases h with h | h
    · omega
    · simp [h]
theorem back_full (s : ByteArray) (k : Nat) (h : k = 0 ∨ blankC (byteAt s (k - 1)) = false) : back s 0 k = k := by
  cases k with
  | zero => rfl
  | succ k =>
    rw [back, if_neg]
    rcases h with h | h
    · omega
    · simp at h; simp [h]
theorem trim_trim (s : ByteArray) : trimB (trimB s) = trimB s := by
  have h1 := lead_le s
  have h2 := back_le s (lead s) s.size h1
  have hz : (trimB s).size = back s (lead s) s.size - lead s := by
    unfold trimB
    simp
    omega
  have hl : lead (trimB s) = 0 := by
    apply lead_zero
    by_cases h0 : (trimB s).size = 0
    · exact .inl h0
    · right
      unfold trimB
      rw [byteAt_extract _ _ _ _ (by omega) (by omega)]
      exact skip_stop s s.size 0 (by omega) (by show lead s < s.size; omega)
  have hb : back (trimB s) 0 (trimB s).size = (trimB s).size := by
    apply back_full
    by_cases h0 : (trimB s).size = 0
    · exact .inl h0
    · right
      have e : byteAt (trimB s) ((trimB s).size - 1) = byteAt s (back s (lead s) s.size - 1) := by
        rw [hz]
        unfold trimB
        rw [byteAt_extract _ _ _ _ (by omega) (by omega)]
        congr 1
        omega
      rw [e]
      exact back_stop s (lead s) s.size (by omega)
  have e : trimB (trimB s) = (trimB s).extract (lead (trimB s)) (back (trimB s) (lead (trimB s)) (trimB s).size) := rfl
  rw [e, hl, hb]
  apply bytes_ext
  rw [data_extract]
  simp only [List.drop_zero, Nat.sub_zero]
  exact List.take_of_length_le (by simp)
theorem skip_step (s : ByteArray) (k : Nat) (h : k < s.size) (hb : blankC (s[k]).toNat = true) : skip s (s.size - k) k = skip s (s.size - (k + 1)) (k + 1) := by
  rw [show s.size - k = (s.size - (k + 1)) + 1 by omega, skip, if_pos ⟨h, by rw [byteAt_eq s k h]; exact hb⟩]
theorem skip_out (s : ByteArray) (k : Nat) (h : ¬ k < s.size ∨ ∃ hk : k < s.size, blankC (s[k]).toNat = false) : skip s (s.size - k) k = k := by
  cases hn : s.size - k with
  | zero => rfl
  | succ n =>
    rw [skip, if_neg]
    rintro ⟨h1, h2⟩
    rcases h with h | ⟨hk, h⟩
    · exact h h1
    · rw [byteAt_eq s k hk, h] at h2
      cases h2
theorem back_step (s : ByteArray) (f t : Nat) (h : f < t + 1) (hk : t < s.size) (hb : blankC (s[t]).toNat = true) : back s f (t + 1) = back s f t := by
  rw [back, if_pos ⟨h, by rw [byteAt_eq s t hk]; exact hb⟩]
theorem back_out (s : ByteArray) (f t : Nat) (hf : f ≤ t) (h : ¬ f < t ∨ ∃ hk : t - 1 < s.size, blankC (s[t - 1]).toNat = false) : back s f t = t := by
  cases t with
  | zero => rfl
  | succ t =>
    rw [back, if_neg]
    rintro ⟨h1, h2⟩
    rcases h with h | ⟨hk, h⟩
    · exact h h1
    · have hk' : t < s.size := by simpa using hk
      rw [byteAt_eq s t hk'] at h2
      have h' : blankC (s[t]).toNat = false := by simpa using h
      rw [h'] at h2
      cases h2

/-- The first k texts with another one between. -/
def joinTo (xs : List ByteArray) (sep : ByteArray) : Nat → ByteArray
  | 0 => { data := #[] }
  | k + 1 => (if 0 < k then joinTo xs sep k ++ sep else joinTo xs sep k) ++ xs.getD k { data := #[] }
theorem joinTo_mono (xs : List ByteArray) (sep : ByteArray) (k : Nat) : ∀ m, (joinTo xs sep k).size ≤ (joinTo xs sep (k + m)).size
  | 0 => Nat.le_refl _
  | m + 1 => by
    have := joinTo_mono xs sep k m
    rw [← Nat.add_assoc, joinTo, ByteArray.size_append]
    split
    · rw [ByteArray.size_append]; omega
    · omega
theorem joinTo_piece (xs : List ByteArray) (sep : ByteArray) (k : Nat) : (xs.getD k { data := #[] }).size ≤ (joinTo xs sep (k + 1)).size := by
  rw [joinTo, ByteArray.size_append]; omega

set_option maxHeartbeats 400000 in
theorem join_any (g n c : Nat) (xs : List ByteArray) (sep : ByteArray) (w : World) (hn : xs.length = n) (hle : n ≤ 1000000) (hsep : sep.size ≤ 1000)
    (hall : (joinTo xs sep n).size ≤ 1000000) (hg : ∀ i (hi : i < xs.length), w.cell? ⟨g, i, none⟩ = some (.string xs[i])) :
    Calls Tryd.prog 78 #[.slice (some ⟨g, 0, none⟩) n c, .string sep] w fun e w' => e = .returned (.string (joinTo xs sep n)) ∧ w = w' := by
  have HG := Lib.hid hg
  have HN := Lib.hid hn
  clear hg hn
  go_enter Tryd.func78, Tryd.ntmps78
  go_wp2
  go_loop [5, 6] (fun t i => ∃ k : Nat, k ≤ n ∧ i = .int .i64 k ∧ t = .string (joinTo xs sep k)) (fun _ i => n - (intOf i).toNat)
  case atStart => exact ⟨0, Nat.zero_le _, rfl, rfl⟩
  case round =>
    obtain ⟨k, hk, rfl, rfl⟩ := hrel
    by_cases hlt : k < n
    · have hk' : k < xs.length := by rw [HN.out]; exact hlt
      have hx : xs.getD k { data := #[] } = xs[k] := by rw [List.getD_eq_getElem?_getD, List.getElem?_eq_getElem hk']; rfl
      have hm := joinTo_mono xs sep (k + 1) (n - (k + 1))
      rw [show k + 1 + (n - (k + 1)) = n by omega] at hm
      have hp := joinTo_piece xs sep k
      have hm0 := joinTo_mono xs sep k 1
      rw [hx] at hp
      have HJ : Hid (joinTo xs sep (k + 1) = (if 0 < k then joinTo xs sep k ++ sep else joinTo xs sep k) ++ xs[k]) := by rw [← hx]; exact Lib.hid rfl
      have c1 := HG.out k hk'
      have z1 : (xs[k]).size ≤ 1000000 := by omega
      have z2 : (joinTo xs sep k).size ≤ 1000000 := by omega
      clear hx hm hp hm0
      generalize xs[k] = x at *
      generalize joinTo xs sep k = t at *
      by_cases h0 : 0 < k
      · go_wp2
        go_round
        case rel => exact ⟨k + 1, by omega, by go_num, by rw [HJ.out, if_pos h0]⟩
        case measure => simp [intOf]; omega
      · go_wp2
        go_round
        case rel => exact ⟨k + 1, by omega, by go_num, by rw [HJ.out, if_neg h0]⟩
        case measure => simp [intOf]; omega
    · obtain rfl : k = n := by omega
      go_wp2
      go_ret
      exact ⟨rfl, rfl⟩

/-- All of them. -/
def joinB (xs : List ByteArray) (sep : ByteArray) : ByteArray := joinTo xs sep xs.length
theorem joinTo_front (xs : List ByteArray) (sep x : ByteArray) : ∀ k, k ≤ xs.length → joinTo (xs ++ [x]) sep k = joinTo xs sep k
  | 0, _ => rfl
  | k + 1, h => by
    have e : (xs ++ [x]).getD k { data := #[] } = xs.getD k { data := #[] } := by
      simp only [List.getD_eq_getElem?_getD]
      rw [List.getElem?_append_left (by omega)]
    rw [joinTo, joinTo, joinTo_front xs sep x k (by omega), e]
theorem joinB_snoc (xs : List ByteArray) (sep x : ByteArray) : joinB (xs ++ [x]) sep = (if 0 < xs.length then joinB xs sep ++ sep else joinB xs sep) ++ x := by
  have e : (xs ++ [x]).getD xs.length { data := #[] } = x := by simp [List.getD_eq_getElem?_getD]
  unfold joinB
  rw [List.length_append, List.length_singleton, joinTo, joinTo_front xs sep x xs.length (Nat.le_refl _), e]
theorem take_more (l : List UInt8) (f k : Nat) (h : f ≤ k) : l.take f ++ (l.drop f).take (k - f) = l.take k := by
  rw [← List.take_add, Nat.add_sub_cancel' h]
theorem sp_join (s : ByteArray) (sep : Nat) (hsep : sep < 256) : ∀ k, k ≤ s.size →
    ((sp s sep k).1 = [] ∧ (sp s sep k).2 = 0) ∨ (0 < (sp s sep k).1.length ∧ (joinB (sp s sep k).1 { data := #[UInt8.ofNat sep] }).data.toList ++ [UInt8.ofNat sep] = s.data.toList.take (sp s sep k).2)
  | 0, _ => .inl ⟨rfl, rfl⟩
  | k + 1, h => by
    have ih := sp_join s sep hsep k (by omega)
    have hle := sp_le s sep k
    by_cases hit : (s[k]).toNat = sep
    · rw [sp_hit s sep k (by omega) hit]
      right
      refine ⟨by simp, ?_⟩
      have hlast : s.data.toList.take (k + 1) = s.data.toList.take k ++ [UInt8.ofNat sep] := by
        rw [List.take_succ_eq_append_getElem (by simp; omega)]
        congr 2
        rw [← hit]
        exact (UInt8.ofNat_toNat).symm
      rw [joinB_snoc, data_append, data_extract, hlast]
      congr 1
      rcases ih with ⟨h1, h2⟩ | ⟨h1, h2⟩
      · rw [h1, h2]
        simp [joinB, joinTo]
      · rw [if_pos h1, data_append]
        show (_ ++ [UInt8.ofNat sep]) ++ _ = _
        rw [h2, take_more _ _ _ hle.1]
    · rw [sp_miss s sep k (by omega) hit]
      exact ih
theorem pieces_join (s : ByteArray) (sep : Nat) (hsep : sep < 256) : joinB (pieces s sep) { data := #[UInt8.ofNat sep] } = s := by
  have hle := sp_le s sep s.size
  apply bytes_ext
  unfold pieces
  rw [joinB_snoc, data_append, data_extract]
  have hall : s.data.toList.take s.size = s.data.toList := List.take_of_length_le (by simp)
  rcases sp_join s sep hsep s.size (Nat.le_refl _) with ⟨h1, h2⟩ | ⟨h1, h2⟩
  · rw [h1, h2]
    simp [joinB, joinTo]
    exact hall
  · rw [if_pos h1, data_append]
    show (_ ++ [UInt8.ofNat sep]) ++ _ = _
    rw [h2, take_more _ _ _ hle.1, hall]
end Go.Proofs.YtickghbjhiegnaaDoor
/- Contracts of the reference's Run, Mapped, group, row of layer 3. -/
namespace Go.Proofs.YtickghbjhiegnaaDoor
open Go.RowKit
set_option linter.unusedVariables false
set_option maxRecDepth 20000

/-- A group's digits. -/
def groupL (n : Nat) : List UInt8 := if n < 16 then [hexc n] else groupL (n / 16) ++ [hexc (n % 16)]
termination_by n
decreasing_by omega
theorem groupL_one {n : Nat} (h : n < 16) : groupL n = [hexc n] := by rw [groupL, if_pos h]
theorem groupL_more {n : Nat} (h : ¬ n < 16) : groupL n = groupL (n / 16) ++ [hexc (n % 16)] := by rw [groupL, if_neg h]
theorem groupL_length (n : Nat) (h : n < 65536) : 0 < (groupL n).length ∧ (groupL n).length ≤ 4 := by
  by_cases h1 : n < 16
  · rw [groupL_one h1]; simp
  · by_cases h2 : n / 16 < 16
    · rw [groupL_more h1, groupL_one h2]; simp
    · by_cases h3 : n / 16 / 16 < 16
      · rw [groupL_more h1, groupL_more h2, groupL_one h3]; simp
      · rw [groupL_more h1, groupL_more h2, groupL_more h3, groupL_one (by omega)]; simp
theorem hexS_cut (d : Nat) (h : d < 16) : ∃ D : ByteArray, D = ofL [hexc d] ∧ ({ data := #[48, 49, 50, 51, 52, 53, 54, 55, 56, 57, 97, 98, 99, 100, 101, 102] } : ByteArray).extract d (d + 1) = D := by
  refine ⟨_, rfl, ?_⟩
  have hd : d = 0 ∨ d = 1 ∨ d = 2 ∨ d = 3 ∨ d = 4 ∨ d = 5 ∨ d = 6 ∨ d = 7 ∨ d = 8 ∨ d = 9 ∨ d = 10 ∨ d = 11 ∨ d = 12 ∨ d = 13 ∨ d = 14 ∨ d = 15 := by omega
  rcases hd with rfl | rfl | rfl | rfl | rfl | rfl | rfl | rfl | rfl | rfl | rfl | rfl | rfl | rfl | rfl | rfl <;> decide

set_option maxHeartbeats 1000000 in
theorem refGroup_any (n : Nat) : ∀ (w : World), n < 65536 →
    Calls Tryd.prog 77 #[.int .u16 (n : Int)] w fun e w' => e = .returned (.string (ofL (groupL n))) ∧ w = w' := by
  induction n using Nat.strongRecOn with
  | _ n ih =>
    intro w hn
    obtain ⟨d, hd, ed, hd2⟩ : ∃ d : Nat, d < 16 ∧ (n : Int) % 16 = (d : Int) ∧ n % 16 = d := ⟨n % 16, by omega, by omega, rfl⟩
    obtain ⟨D, hD, hcut⟩ := hexS_cut d hd
    have hDz : D.size = 1 := by rw [hD, ofL_size]; rfl
    have HD := Lib.hid hD
    have HD2 := Lib.hid hd2
    have hw1 : IntKind.u16.wrap ((d : Int) + 1) = (d : Int) + 1 := by rw [IntKind.wrap_u16]; omega
    clear hD hd2
    by_cases h : n < 16
    · have HG := Lib.hid (groupL_one h)
      clear ih
      go_enter Tryd.func77, Tryd.ntmps77
      go_wp2_with fail
      go_ret
      exact ⟨str_ret (by rw [HG.out, ofL_data, HD.out, ofL_data, ← HD2.out, Nat.mod_eq_of_lt h]), rfl⟩
    · have HG := Lib.hid (groupL_more h)
      obtain ⟨m, em, hm⟩ : ∃ m : Nat, (n : Int) / 16 = (m : Int) ∧ n / 16 = m := ⟨n / 16, by omega, rfl⟩
      have HI := Lib.hid (ih m (by omega))
      have HM := Lib.hid hm
      have hml : m < 65536 := by omega
      have hmz := (groupL_length m hml).2
      have hmz2 := ofL_size (groupL m)
      clear ih hm
      go_enter Tryd.func77, Tryd.ntmps77
      go_wp2_with fail
      refine (HI.out _ hml).mono ?_
      rintro e w' ⟨rfl, rfl⟩
      generalize hE : ofL (groupL m) = E at *
      have HE := Lib.hid hE
      have hEz : E.size ≤ 4 := by omega
      clear hE hmz2
      go_wp2_with fail
      go_ret
      exact ⟨str_ret (by rw [HG.out, ofL_data, data_append, ← HE.out, ofL_data, HD.out, ofL_data, HM.out, HD2.out]), rfl⟩

theorem Arr8.new (w : World) (t : TypeId) (x0 x1 x2 x3 x4 x5 x6 x7 : Nat) : Arr8 (w.alloc (.cells #[.int .u16 (x0 : Int), .int .u16 (x1 : Int), .int .u16 (x2 : Int), .int .u16 (x3 : Int), .int .u16 (x4 : Int), .int .u16 (x5 : Int), .int .u16 (x6 : Int), .int .u16 (x7 : Int)] t)) w.heap.size [x0, x1, x2, x3, x4, x5, x6, x7] := by
  refine ⟨rfl, by simp, ?_, ?_⟩
  · intro j hj
    have : j = 0 ∨ j = 1 ∨ j = 2 ∨ j = 3 ∨ j = 4 ∨ j = 5 ∨ j = 6 ∨ j = 7 := by omega
    rcases this with rfl | rfl | rfl | rfl | rfl | rfl | rfl | rfl <;> simp [World.cell?_alloc_new]
  · intro j hj
    exact World.frozen?_alloc_new _ _ _ _
theorem arr8_eq (x0 x1 x2 x3 x4 x5 x6 x7 : Nat) : arr8 [x0, x1, x2, x3, x4, x5, x6, x7] = .agg #[.int .u16 (x0 : Int), .int .u16 (x1 : Int), .int .u16 (x2 : Int), .int .u16 (x3 : Int), .int .u16 (x4 : Int), .int .u16 (x5 : Int), .int .u16 (x6 : Int), .int .u16 (x7 : Int)] := rfl

/-- The first k groups are 0. -/
def zer (gs : List Nat) : Nat → Bool
  | 0 => true
  | k + 1 => zer gs k && decide (gs.getD k 0 = 0)
theorem zer_false (gs : List Nat) (k : Nat) (h : zer gs k = false) : ∀ m, zer gs (k + m) = false
  | 0 => h
  | m + 1 => by rw [← Nat.add_assoc, zer, zer_false gs k h m]; rfl
def mappedB (gs : List Nat) : Bool := zer gs 5 && decide (gs.getD 5 0 = 65535)

set_option maxHeartbeats 1000000 in
theorem refMapped_any (gs : List Nat) (w : World) (h8 : gs.length = 8) (hlt : ∀ x ∈ gs, x < 65536) :
    Calls Tryd.prog 48 #[arr8 gs] w fun e w' => e = .returned (.bool (mappedB gs)) ∧ Below w.heap.size w w' := by
  obtain ⟨x0, x1, x2, x3, x4, x5, x6, x7, hgs⟩ := list8 gs h8
  have hA := Arr8.new w 33 x0 x1 x2 x3 x4 x5 x6 x7
  have hb : Below w.heap.size w (w.alloc (.cells #[.int .u16 (x0 : Int), .int .u16 (x1 : Int), .int .u16 (x2 : Int), .int .u16 (x3 : Int), .int .u16 (x4 : Int), .int .u16 (x5 : Int), .int .u16 (x6 : Int), .int .u16 (x7 : Int)] 33)) := (Below.refl _ _).alloc (Nat.le_refl _) _
  rw [← hgs] at hA
  rw [show arr8 gs = .agg #[.int .u16 (x0 : Int), .int .u16 (x1 : Int), .int .u16 (x2 : Int), .int .u16 (x3 : Int), .int .u16 (x4 : Int), .int .u16 (x5 : Int), .int .u16 (x6 : Int), .int .u16 (x7 : Int)] by rw [hgs]; rfl]
  clear hgs
  go_enter Tryd.func48, Tryd.ntmps48
  go_wp2_with fail
  generalize w.alloc (.cells #[.int .u16 (x0 : Int), .int .u16 (x1 : Int), .int .u16 (x2 : Int), .int .u16 (x3 : Int), .int .u16 (x4 : Int), .int .u16 (x5 : Int), .int .u16 (x6 : Int), .int .u16 (x7 : Int)] 33) = W at *
  have HA := Lib.hid hA
  clear hA
  go_loop [3] (fun i => ∃ k : Nat, k ≤ 5 ∧ i = .int .i64 k ∧ Hid (zer gs k = true)) (fun i => 5 - (intOf i).toNat)
  case atStart => exact ⟨0, by decide, rfl, Lib.hid rfl⟩
  case round =>
    obtain ⟨k, hk, rfl, HK⟩ := hrel
    by_cases hk5 : k < 5
    · have hcell := HA.out.cells k (by omega)
      obtain ⟨x, ex⟩ : ∃ x, gs.getD k 0 = x := ⟨_, rfl⟩
      rw [ex] at hcell
      have HX := Lib.hid ex
      clear ex
      by_cases h0 : x = 0
      · have HT : Hid (zer gs (k + 1) = true) := Lib.hid (by rw [zer, HK.out, HX.out, h0]; rfl)
        have hx0 : ((x : Int) != 0) = false := by simp; omega
        clear h0
        go_wp2_with fail
        go_round
        case rel => exact ⟨k + 1, by omega, by go_num, HT⟩
        case measure => simp [intOf]; omega
      · have HT : Hid (zer gs 5 = false) := Lib.hid (by
          have := zer_false gs (k + 1) (by rw [zer, HK.out, HX.out]; simp [h0]) (5 - (k + 1))
          rwa [show k + 1 + (5 - (k + 1)) = 5 by omega] at this)
        have hx0 : ((x : Int) != 0) = true := by simp; omega
        clear h0
        go_wp2_with fail
        go_ret
        exact ⟨bool_ret (by unfold mappedB; rw [HT.out]; rfl), hb⟩
    · obtain rfl : k = 5 := by omega
      have hcell := HA.out.cells 5 (by decide)
      obtain ⟨x, ex⟩ : ∃ x, gs.getD 5 0 = x := ⟨_, rfl⟩
      rw [ex] at hcell
      have HX := Lib.hid ex
      clear ex
      go_wp2_with fail
      go_ret
      exact ⟨bool_ret (by unfold mappedB; rw [HK.out, HX.out, Bool.true_and, Bool.eq_iff_iff]; simp; omega), hb⟩

/-- How many groups are 0 from the i-th on. -/
def zl (gs : List Nat) : Nat → Nat → Nat
  | 0, _ => 0
  | f + 1, i => if gs.getD i 0 = 0 then zl gs f (i + 1) + 1 else 0
def zrun (gs : List Nat) (i : Nat) : Nat := zl gs (8 - i) i
theorem zl_le (gs : List Nat) : ∀ f i, zl gs f i ≤ f
  | 0, _ => Nat.le_refl _
  | f + 1, i => by
    rw [zl]
    split
    · have := zl_le gs f (i + 1); omega
    · omega
theorem zrun_le (gs : List Nat) (i : Nat) : zrun gs i ≤ 8 - i := zl_le gs _ _
theorem zrun_zero {gs : List Nat} {i : Nat} (h : i < 8) (h0 : gs.getD i 0 = 0) : zrun gs i = zrun gs (i + 1) + 1 := by
  unfold zrun
  rw [show 8 - i = (8 - (i + 1)) + 1 by omega, zl, if_pos h0]
theorem zrun_stop {gs : List Nat} {i : Nat} (h : ¬ i < 8 ∨ ¬ gs.getD i 0 = 0) : zrun gs i = 0 := by
  unfold zrun
  by_cases h8 : i < 8
  · rw [show 8 - i = (8 - (i + 1)) + 1 by omega, zl, if_neg (by rcases h with h | h; omega; exact h)]
  · rw [show 8 - i = 0 by omega, zl]
/-- The first of the longest rows of two zeros or more, among those that begin in the first k places. -/
def runTo (gs : List Nat) : Nat → Nat × Nat
  | 0 => (0, 0)
  | k + 1 => if 2 ≤ zrun gs k ∧ (runTo gs k).2 < zrun gs k then (k, zrun gs k) else runTo gs k
def runB (gs : List Nat) : Nat × Nat := runTo gs 8
theorem runTo_le (gs : List Nat) : ∀ k, k ≤ 8 → (runTo gs k).1 + (runTo gs k).2 ≤ 8
  | 0, _ => by simp [runTo]
  | k + 1, h => by
    rw [runTo]
    split
    · have := zrun_le gs k; simp only; omega
    · exact runTo_le gs k (by omega)
def runRet (p : Nat × Nat) : Value := .tuple #[.int .i64 ((p.1 : Nat) : Int), .int .i64 ((p.2 : Nat) : Int)]
theorem run_ret {o p : Nat × Nat} (h : o = p) : Ending.returned (runRet o) = .returned (runRet p) := by rw [h]

set_option maxRecDepth 100000 in
set_option maxHeartbeats 2000000 in
theorem refRun_any (gs : List Nat) (w : World) (h8 : gs.length = 8) (hlt : ∀ x ∈ gs, x < 65536) :
    Calls Tryd.prog 65 #[arr8 gs] w fun e w' => e = .returned (runRet (runB gs)) ∧ Below w.heap.size w w' := by
  obtain ⟨x0, x1, x2, x3, x4, x5, x6, x7, hgs⟩ := list8 gs h8
  have hA := Arr8.new w 33 x0 x1 x2 x3 x4 x5 x6 x7
  have hb : Below w.heap.size w (w.alloc (.cells #[.int .u16 (x0 : Int), .int .u16 (x1 : Int), .int .u16 (x2 : Int), .int .u16 (x3 : Int), .int .u16 (x4 : Int), .int .u16 (x5 : Int), .int .u16 (x6 : Int), .int .u16 (x7 : Int)] 33)) := (Below.refl _ _).alloc (Nat.le_refl _) _
  rw [← hgs] at hA
  rw [show arr8 gs = .agg #[.int .u16 (x0 : Int), .int .u16 (x1 : Int), .int .u16 (x2 : Int), .int .u16 (x3 : Int), .int .u16 (x4 : Int), .int .u16 (x5 : Int), .int .u16 (x6 : Int), .int .u16 (x7 : Int)] by rw [hgs]; rfl]
  clear hgs
  go_enter Tryd.func65, Tryd.ntmps65
  go_wp2_with fail
  generalize w.alloc (.cells #[.int .u16 (x0 : Int), .int .u16 (x1 : Int), .int .u16 (x2 : Int), .int .u16 (x3 : Int), .int .u16 (x4 : Int), .int .u16 (x5 : Int), .int .u16 (x6 : Int), .int .u16 (x7 : Int)] 33) = W at *
  have HA := Lib.hid hA
  clear hA
  go_loop [4, 5, 6] (fun a m i => ∃ k A M : Nat, k ≤ 8 ∧ i = .int .i64 k ∧ a = .int .i64 (A : Int) ∧ m = .int .i64 (M : Int) ∧ A + M ≤ 8 ∧ Hid (runTo gs k = (A, M))) (fun _ _ i => 8 - (intOf i).toNat)
  case atStart => exact ⟨0, 0, 0, by decide, rfl, rfl, rfl, by decide, Lib.hid rfl⟩
  case round =>
    obtain ⟨k, A, M, hk, rfl, rfl, rfl, hAM, HK⟩ := hrel
    by_cases hk8 : k < 8
    · go_wp2_with fail
      go_loop [7] (fun n => ∃ z : Nat, k + z ≤ 8 ∧ n = .int .i64 (z : Int) ∧ Hid (zrun gs k = z + zrun gs (k + z))) (fun n => 8 - k - (intOf n).toNat)
      case atStart => exact ⟨0, by omega, rfl, Lib.hid (by rw [Nat.zero_add, Nat.add_zero])⟩
      case round =>
        obtain ⟨z, hz, rfl, HZ⟩ := hrel
        by_cases hlt8 : k + z < 8
        · have hcell := HA.out.cells (k + z) hlt8
          obtain ⟨x, ex⟩ : ∃ x, gs.getD (k + z) 0 = x := ⟨_, rfl⟩
          rw [ex] at hcell
          have HX := Lib.hid ex
          clear ex
          have hlti : (k : Int) + (z : Int) < 8 := by omega
          by_cases h0 : x = 0
          · have HT : Hid (zrun gs k = (z + 1) + zrun gs (k + (z + 1))) := Lib.hid (by rw [HZ.out, zrun_zero hlt8 (by rw [HX.out]; exact h0), Nat.add_assoc]; omega)
            have hx0 : ((x : Int) == 0) = true := by simp; omega
            clear h0
            go_wp2_with fail
            go_round
            case rel => exact ⟨z + 1, by omega, by go_num, HT⟩
            case measure => simp [intOf]; omega
          · have HZ2 : Hid (zrun gs k = z) := Lib.hid (by rw [HZ.out, zrun_stop (.inr (by rw [HX.out]; exact h0)), Nat.add_zero])
            have hx0 : ((x : Int) == 0) = false := by simp; omega
            clear h0
            have hz8 : z ≤ 8 := by omega
            by_cases h2 : 2 ≤ z
            · by_cases hM : M < z
              · have HT : Hid (runTo gs (k + 1) = (k, z)) := Lib.hid (by rw [runTo, HZ2.out, HK.out]; simp only [if_pos (show 2 ≤ z ∧ M < z from ⟨h2, hM⟩)])
                go_wp2_with fail
                go_round
                case rel => exact ⟨k + 1, k, z, by omega, by go_num, rfl, rfl, by omega, HT⟩
                case measure => simp [intOf]; omega
              · have HT : Hid (runTo gs (k + 1) = (A, M)) := Lib.hid (by rw [runTo, HZ2.out, HK.out]; simp only [if_neg (show ¬ (2 ≤ z ∧ M < z) from fun h => hM h.2)])
                go_wp2_with fail
                go_round
                case rel => exact ⟨k + 1, A, M, by omega, by go_num, rfl, rfl, by omega, HT⟩
                case measure => simp [intOf]; omega
            · have HT : Hid (runTo gs (k + 1) = (A, M)) := Lib.hid (by rw [runTo, HZ2.out, HK.out]; simp only [if_neg (show ¬ (2 ≤ z ∧ M < z) from fun h => h2 h.1)])
              go_wp2_with fail
              go_round
              case rel => exact ⟨k + 1, A, M, by omega, by go_num, rfl, rfl, by omega, HT⟩
              case measure => simp [intOf]; omega
        · have HZ2 : Hid (zrun gs k = z) := Lib.hid (by rw [HZ.out, zrun_stop (.inl hlt8), Nat.add_zero])
          have hlti : ¬ (k : Int) + (z : Int) < 8 := by omega
          have hz8 : z ≤ 8 := by omega
          by_cases h2 : 2 ≤ z
          · by_cases hM : M < z
            · have HT : Hid (runTo gs (k + 1) = (k, z)) := Lib.hid (by rw [runTo, HZ2.out, HK.out]; simp only [if_pos (show 2 ≤ z ∧ M < z from ⟨h2, hM⟩)])
              go_wp2_with fail
              go_round
              case rel => exact ⟨k + 1, k, z, by omega, by go_num, rfl, rfl, by omega, HT⟩
              case measure => simp [intOf]; omega
            · have HT : Hid (runTo gs (k + 1) = (A, M)) := Lib.hid (by rw [runTo, HZ2.out, HK.out]; simp only [if_neg (show ¬ (2 ≤ z ∧ M < z) from fun h => hM h.2)])
              go_wp2_with fail
              go_round
              case rel => exact ⟨k + 1, A, M, by omega, by go_num, rfl, rfl, by omega, HT⟩
              case measure => simp [intOf]; omega
          · have HT : Hid (runTo gs (k + 1) = (A, M)) := Lib.hid (by rw [runTo, HZ2.out, HK.out]; simp only [if_neg (show ¬ (2 ≤ z ∧ M < z) from fun h => h2 h.1)])
            go_wp2_with fail
            go_round
            case rel => exact ⟨k + 1, A, M, by omega, by go_num, rfl, rfl, by omega, HT⟩
            case measure => simp [intOf]; omega
    · obtain rfl : k = 8 := by omega
      go_wp2_with fail
      go_ret2
      exact ⟨run_ret (o := (A, M)) (by unfold runB; rw [HK.out]), hb⟩
end Go.Proofs.YtickghbjhiegnaaDoor
/- Contracts of the reference's row and Print of layer 3. -/
namespace Go.Proofs.YtickghbjhiegnaaDoor
open Go.RowKit
set_option linter.unusedVariables false
set_option maxRecDepth 20000

/-- A group's text. -/
def gS (n : Nat) : ByteArray := ofL (groupL n)
theorem gS_size (n : Nat) (h : n < 65536) : (gS n).size ≤ 4 := by
  unfold gS
  rw [ofL_size]
  exact (groupL_length n h).2
/-- Groups with colons between. -/
def rowS (l : List Nat) : ByteArray := joinTo (l.map gS) { data := #[58] } l.length
theorem joinTo_small (l : List Nat) (h : ∀ x ∈ l, x < 65536) : ∀ k, (joinTo (l.map gS) { data := #[58] } k).size ≤ 5 * k
  | 0 => Nat.le_refl _
  | k + 1 => by
    have ih := joinTo_small l h k
    have hx : ((l.map gS).getD k { data := #[] }).size ≤ 4 := by
      rw [List.getD_eq_getElem?_getD]
      cases hk : (l.map gS)[k]? with
      | none => exact Nat.zero_le _
      | some p =>
        rw [List.getElem?_map] at hk
        cases hl : l[k]? with
        | none => rw [hl] at hk; cases hk
        | some x =>
          rw [hl] at hk
          have := Option.some.inj hk
          subst this
          exact gS_size x (h x (List.mem_of_getElem? hl))
    rw [joinTo]
    split
    · rw [ByteArray.size_append, ByteArray.size_append]
      show _ + 1 + _ ≤ _
      omega
    · rw [ByteArray.size_append]
      omega
theorem rowS_small (l : List Nat) (h : ∀ x ∈ l, x < 65536) : (rowS l).size ≤ 5 * l.length := joinTo_small l h _

theorem own_rows {w : World} {B : Nat} {v : Value} {l : List ByteArray} (h : w.ownsRow B 9 1 v l.length (l.map Value.string)) :
    (v = .slice none 0 0 ∧ l.length = 0) ∨ ∃ g cap, v = .slice (some ⟨g, 0, none⟩) l.length cap ∧ StrRow w g l.length cap l := by
  have hh := h
  rcases h.2 with ⟨rfl, h0⟩ | ⟨g, cap, cur, rfl, hB, hg, h1, h2, _⟩
  · exact .inl ⟨rfl, h0⟩
  · refine .inr ⟨g, cap, rfl, rfl, h1, h2, ?_, fun i hi => ?_⟩
    · rcases Nat.lt_or_ge g w.heap.size with h | h
      · exact h
      · rw [Array.getElem?_eq_none h] at hg; cases hg
    · rw [own_cells hh i hi, List.getD_eq_getElem?_getD, List.getElem?_eq_getElem hi]
      rfl
set_option maxHeartbeats 400000 in
theorem refJoin_nil (sep : ByteArray) (w : World) : Calls Tryd.prog 78 #[.slice none 0 0, .string sep] w fun e w' => e = .returned (.string { data := #[] }) ∧ w = w' := by
  go_enter Tryd.func78, Tryd.ntmps78
  go_wp2
  refine wp_loop_rounds 1 ?_
  rw [rounds_succ]
  go_wp2
  go_ret
  exact ⟨rfl, rfl⟩

set_option maxRecDepth 100000 in
set_option maxHeartbeats 2000000 in
theorem refRow_any (l : List Nat) (G o n c : Nat) (w : World) (hn : l.length = n) (h8 : n ≤ 8) (hc : n ≤ c) (hcm : c ≤ 8) (hlt : ∀ x ∈ l, x < 65536) (hG : G < w.heap.size)
    (hcells : ∀ j, j < n → w.cell? ⟨G, o + j, none⟩ = some (.int .u16 ((l.getD j 0 : Nat) : Int))) :
    Calls Tryd.prog 66 #[.slice (some ⟨G, o, none⟩) n c] w fun e w' => e = .returned (.string (rowS l)) ∧ Below w.heap.size w w' := by
  obtain ⟨i0, hi0, hz0, hz1, hz2⟩ := info_parts Tryd.infoString
  have HC := Lib.hid hcells
  have HN := Lib.hid hn
  have HL := Lib.hid hlt
  clear hcells hn hlt
  go_enter Tryd.func66, Tryd.ntmps66
  go_wp2_with fail
  go_loopw [3, 4] (fun v i wr => ∃ k : Nat, k ≤ n ∧ i = .int .i64 k ∧ wr.ownsRow w.heap.size 9 1 v ((l.take k).map gS).length (((l.take k).map gS).map Value.string) ∧ Below w.heap.size w wr) (fun _ i _ => n - (intOf i).toNat)
  case atStart => exact ⟨0, Nat.zero_le _, rfl, World.ownsRow_nil _ _ _ _, Below.refl _ _⟩
  case round =>
    obtain ⟨k, hk, rfl, hown, hbel⟩ := hrel
    by_cases hkn : k < n
    · have hcell : wr.cell? ⟨G, o + k, none⟩ = some (.int .u16 ((l.getD k 0 : Nat) : Int)) := by rw [hbel.cell (p := ⟨G, o + k, none⟩) hG]; exact HC.out k hkn
      have hx : l.getD k 0 < 65536 := by
        rw [List.getD_eq_getElem?_getD, List.getElem?_eq_getElem (by rw [HN.out]; exact hkn)]
        exact HL.out _ (List.getElem_mem _)
      have et : (l.take (k + 1)).map gS = (l.take k).map gS ++ [gS (l.getD k 0)] := by
        have e : l.take (k + 1) = l.take k ++ [l.getD k 0] := by
          rw [List.take_add_one, List.getD_eq_getElem?_getD, List.getElem?_eq_getElem (by rw [HN.out]; exact hkn)]; rfl
        rw [e, List.map_append]
        rfl
      have hTl : ((l.take k).map gS).length ≤ 8 := by
        simp
        omega
      have HT := Lib.hid et
      obtain ⟨x, ex⟩ : ∃ x, l.getD k 0 = x := ⟨_, rfl⟩
      rw [ex] at hcell hx HT
      clear ex et
      generalize (l.take k).map gS = T at *
      have hsz := hbel.size
      go_wp2_with fail
      refine (refGroup_any x _ hx).mono ?_
      rintro e w1 ⟨rfl, rfl⟩
      go_wp2_with (at_builtin; refine wpList_append_own _ rfl (.tmp 11) (.tmp 17) 63 rfl w.heap.size 9 i0 _ 1 16 Tryd.underlying63 hi0 hz0 hz1 hz2 rfl (by decide) _ _ _ rfl (hown.alloc _) ⟨wr.heap.size, 0, none⟩ 1 1 [.string (ofL (groupL x))] rfl rfl ?c1 ?c2 ?c3 ?c4 ?c5 ?_)
      case c1 => exact cell_one_new _ _ _
      case c2 => intro u hu; simp at hu; subst hu; rfl
      case c3 => unfold maxLen; omega
      case c4 => omega
      case c5 => simp; omega
      intro v' w2 hown' hgrow _
      have R := own_snoc hown' hgrow hown hbel
      clear hown' hgrow hown hbel
      go_wp2_with fail
      go_roundw
      case rel => exact ⟨k + 1, by omega, by go_num, by rw [HT.out]; exact R.1, R.2⟩
      case measure => simp [intOf]; omega
    · obtain rfl : k = n := by omega
      rw [List.take_of_length_le (by rw [HN.out]; exact Nat.le_refl _)] at hown
      have hlen : (l.map gS).length = k := by rw [List.length_map, HN.out]
      have hsmall := joinTo_small l HL.out k
      have HR : Hid (rowS l = joinTo (l.map gS) { data := #[58] } k) := Lib.hid (by unfold rowS; rw [HN.out])
      generalize l.map gS = xs at *
      have hv := own_rows hown
      rw [hlen] at hv
      rcases hv with ⟨rfl, h0⟩ | ⟨g, cap, rfl, hrow⟩
      · have hx : xs = [] := List.eq_nil_of_length_eq_zero (by omega)
        have HR2 : Hid (rowS l = { data := #[] }) := Lib.hid (by rw [HR.out, hx, h0]; rfl)
        clear hown hlen hx h0 hsmall HR
        go_wp2_with fail
        refine (refJoin_nil _ _).mono ?_
        rintro e w1 ⟨rfl, rfl⟩
        go_wp2_with fail
        go_ret
        exact ⟨by rw [HR2.out]; rfl, hbel⟩
      · have hrc := hrow.cap
        have hrm := hrow.capm
        unfold maxLen at hrm
        have HRow := Lib.hid hrow
        have HLen := Lib.hid hlen
        clear hown hlen hrow
        go_wp2_with fail
        refine (join_any g k cap xs _ _ HLen.out (by omega) ?_ ?_ ?_).mono ?_
        · show 1 ≤ 1000; decide
        · exact Nat.le_trans hsmall (by omega)
        · intro i hi
          have := HRow.out.cells i (by rw [← HLen.out]; exact hi)
          rw [this, List.getD_eq_getElem?_getD, List.getElem?_eq_getElem hi]
          rfl
        rintro e w1 ⟨rfl, rfl⟩
        have HR2 : Hid (rowS l = joinTo xs { data := #[58] } k) := HR
        go_wp2_with fail
        go_ret
        exact ⟨by rw [HR2.out]; rfl, hbel⟩

/-- What a part of the groups is printed as. -/
def RowFact (gs : List Nat) (o n c : Nat) (X : ByteArray) : Prop :=
  n ≤ c ∧ c ≤ 8 ∧ ∃ l : List Nat, l.length = n ∧ rowS l = X ∧ (∀ x ∈ l, x < 65536) ∧ ∀ j, j < n → o + j < 8 ∧ gs.getD (o + j) 0 = l.getD j 0
theorem row_held {gs : List Nat} (B o n c : Nat) (X : ByteArray) (W w : World) (h : Hid (RowFact gs o n c X)) (hA : Hid (Arr8 w B gs ∧ Below W.heap.size W w)) :
    Calls Tryd.prog 66 #[.slice (some ⟨B, o, none⟩) n c] w fun e w' => e = .returned (.string X) ∧ Hid (Arr8 w' B gs ∧ Below W.heap.size W w') := by
  obtain ⟨h1, h2, l, h3, rfl, h4, h5⟩ := h.out
  obtain ⟨hA1, hA2⟩ := hA.out
  refine (refRow_any l B o n c w h3 (by omega) h1 h2 h4 hA1.lt (fun j hj => ?_)).mono ?_
  · rw [hA1.cells (o + j) (h5 j hj).1, (h5 j hj).2]
  · rintro e w' ⟨rfl, hb⟩
    exact ⟨rfl, Lib.hid ⟨hA1.below hb, chain hA2 hb⟩⟩
/-- The printed text. -/
def printB (gs : List Nat) : ByteArray :=
  if mappedB gs then ofL [58, 58, 102, 102, 102, 102, 58] ++ text4 (gs.getD 6 0 / 256) (gs.getD 6 0 % 256) (gs.getD 7 0 / 256) (gs.getD 7 0 % 256) else
  if (runB gs).2 = 0 then rowS gs else rowS (gs.take (runB gs).1) ++ ofL [58, 58] ++ rowS (gs.drop ((runB gs).1 + (runB gs).2))

set_option maxRecDepth 100000 in
set_option maxHeartbeats 4000000 in
theorem refPrint6_any (gs : List Nat) (w : World) (h8 : gs.length = 8) (hlt : ∀ x ∈ gs, x < 65536) :
    Calls Tryd.prog 42 #[arr8 gs] w fun e w' => e = .returned (.string (printB gs)) ∧ Below w.heap.size w w' := by
  have hlt2 := hlt
  obtain ⟨x0, x1, x2, x3, x4, x5, x6, x7, hgs⟩ := list8 gs h8
  have hA := Arr8.new w 33 x0 x1 x2 x3 x4 x5 x6 x7
  have hb : Below w.heap.size w (w.alloc (.cells #[.int .u16 (x0 : Int), .int .u16 (x1 : Int), .int .u16 (x2 : Int), .int .u16 (x3 : Int), .int .u16 (x4 : Int), .int .u16 (x5 : Int), .int .u16 (x6 : Int), .int .u16 (x7 : Int)] 33)) := (Below.refl _ _).alloc (Nat.le_refl _) _
  have ha : arr8 gs = .agg #[.int .u16 (x0 : Int), .int .u16 (x1 : Int), .int .u16 (x2 : Int), .int .u16 (x3 : Int), .int .u16 (x4 : Int), .int .u16 (x5 : Int), .int .u16 (x6 : Int), .int .u16 (x7 : Int)] := by rw [hgs]; rfl
  have HM := Lib.hid (fun w => refMapped_any gs w h8 hlt)
  have HRn := Lib.hid (fun w => refRun_any gs w h8 hlt)
  rw [ha] at HM HRn
  rw [ha]
  go_enter Tryd.func42, Tryd.ntmps42
  go_wp2_with fail
  generalize w.alloc (.cells #[.int .u16 (x0 : Int), .int .u16 (x1 : Int), .int .u16 (x2 : Int), .int .u16 (x3 : Int), .int .u16 (x4 : Int), .int .u16 (x5 : Int), .int .u16 (x6 : Int), .int .u16 (x7 : Int)] 33) = W at *
  refine (HM.out _).mono ?_
  rintro e w1 ⟨rfl, hb1⟩
  have hA1 := hA.below hb1
  obtain ⟨c0, c1, c2, c3, c4, c5, c6, c7⟩ := hA1.all
  have HA := Lib.hid hA1
  clear hA hA1
  have hx6 : x6 < 65536 := hlt x6 (by rw [hgs]; simp)
  have hx7 : x7 < 65536 := hlt x7 (by rw [hgs]; simp)
  have HG := Lib.hid hgs
  have HLT := Lib.hid hlt
  have H8 := Lib.hid h8
  have b1 := chain hb hb1
  clear hlt hlt2 hgs h8 ha
  cases hm : mappedB gs with
  | true =>
    have HP : Hid (printB gs = ofL [58, 58, 102, 102, 102, 102, 58] ++ text4 (x6 / 256) (x6 % 256) (x7 / 256) (x7 % 256)) := Lib.hid (by unfold printB; rw [hm, if_pos rfl, HG.out]; rfl)
    obtain ⟨N, hN, eN⟩ : ∃ N : Nat, N = num4 (x6 / 256) (x6 % 256) (x7 / 256) (x7 % 256) ∧ (x6 : Int) * 65536 + (x7 : Int) = (N : Int) := ⟨_, rfl, by unfold num4; omega⟩
    have hNl : N ≤ 4294967295 := by omega
    have q1 : IntKind.u32.wrap ((x6 : Int) * 65536) = (x6 : Int) * 65536 := by rw [IntKind.wrap_u32]; omega
    have q2 : IntKind.u32.wrap (N : Int) = (N : Int) := by rw [IntKind.wrap_u32]; omega
    have HC := Lib.hid (fun w => refPrint_any (x6 / 256) (x6 % 256) (x7 / 256) (x7 % 256) N w (by omega) (by omega) (by omega) (by omega) hN)
    have hz := text4_size (x6 / 256) (x6 % 256) (x7 / 256) (x7 % 256) (by omega) (by omega) (by omega) (by omega)
    generalize text4 (x6 / 256) (x6 % 256) (x7 / 256) (x7 % 256) = T at *
    clear hm hN
    go_wp2_with fail
    refine (HC.out _).mono ?_
    rintro e w2 ⟨rfl, hb2⟩
    go_wp2_with fail
    go_ret
    exact ⟨str_ret (by rw [HP.out]; rfl), chain b1 hb2⟩
  | false =>
    have HM0 := Lib.hid hm
    clear hm
    have hrl := runTo_le gs 8 (Nat.le_refl _)
    obtain ⟨⟨A, M⟩, hAM⟩ : ∃ p, runB gs = p := ⟨_, rfl⟩
    rw [hAM] at HRn
    have hAM2 : A + M ≤ 8 := by
      have e : runTo gs 8 = (A, M) := hAM
      rw [e] at hrl
      exact hrl
    have HAM := Lib.hid hAM
    clear hrl hAM
    go_wp2_with fail
    refine (HRn.out _).mono ?_
    rintro e w2 ⟨rfl, hb2⟩
    have hA2 := HA.out.below hb2
    rw [← HG.out] at hA2
    have HA2 := Lib.hid hA2
    have b2 := chain b1 hb2
    clear hA2 c0 c1 c2 c3 c4 c5 c6 c7 HA
    unfold runRet
    by_cases hM : M = 0
    · have HP : Hid (printB gs = rowS gs) := Lib.hid (by unfold printB; rw [HM0.out, HAM.out]; simp [hM])
      have hMb : ((M : Int) == 0) = true := by simp; omega
      clear hM
      go_wp2_with fail
      refine (refRow_any gs w.heap.size 0 8 8 _ H8.out (by decide) (by decide) (by decide) HLT.out HA2.out.lt ?_).mono ?_
      · intro j hj
        rw [Nat.zero_add]
        exact HA2.out.cells j hj
      rintro e w3 ⟨rfl, hb3⟩
      go_wp2_with fail
      go_ret
      exact ⟨by rw [HP.out]; rfl, chain b2 hb3⟩
    · have HP : Hid (printB gs = rowS (gs.take A) ++ ofL [58, 58] ++ rowS (gs.drop (A + M))) := Lib.hid (by unfold printB; rw [HM0.out, HAM.out]; simp [hM])
      have hMb : ((M : Int) == 0) = false := by simp; omega
      obtain ⟨K, hK, eK⟩ : ∃ K : Nat, A + M = K ∧ (A : Int) + (M : Int) = (K : Int) := ⟨_, rfl, by omega⟩
      have hK8 : K ≤ 8 := by omega
      have hA8 : A ≤ 8 := by omega
      rw [hK] at HP
      clear hM hK hAM2
      have a0 : (0 : Int) ≤ (A : Int) := by omega
      have a1 : (A : Int) ≤ 8 := by omega
      have k0 : (0 : Int) ≤ (K : Int) := by omega
      have k1 : (K : Int) ≤ 8 := by omega
      have kw : IntKind.i64.wrap (K : Int) = (K : Int) := by rw [IntKind.wrap_i64]; omega
      obtain ⟨X, hX⟩ : ∃ X, rowS (gs.take A) = X := ⟨_, rfl⟩
      obtain ⟨Y, hY⟩ : ∃ Y, rowS (gs.drop K) = Y := ⟨_, rfl⟩
      have hXz : X.size ≤ 40 := by
        rw [← hX]
        have h1 := rowS_small (gs.take A) (fun x hx => HLT.out x (List.mem_of_mem_take hx))
        have h2 : (gs.take A).length ≤ 8 := by simp; omega
        omega
      have hYz : Y.size ≤ 40 := by
        rw [← hY]
        have h1 := rowS_small (gs.drop K) (fun x hx => HLT.out x (List.mem_of_mem_drop hx))
        have h2 : (gs.drop K).length ≤ 8 := by have := H8.out; simp; omega
        omega
      rw [hX, hY] at HP
      have F1 : Hid (RowFact gs 0 A 8 X) := Lib.hid ⟨hA8, Nat.le_refl _, gs.take A, by have := H8.out; simp; omega, hX, fun x hx => HLT.out x (List.mem_of_mem_take hx), fun j hj => ⟨by omega, by
        rw [Nat.zero_add, List.getD_eq_getElem?_getD, List.getD_eq_getElem?_getD, List.getElem?_take, if_pos hj]⟩⟩
      have F2 : ∀ o, (K < 8 → o = K) → RowFact gs o (8 - K) (8 - K) Y := fun o ho => ⟨Nat.le_refl _, by omega, gs.drop K, by rw [List.length_drop, H8.out], hY, fun x hx => HLT.out x (List.mem_of_mem_drop hx), fun j hj => ⟨by rw [ho (by omega)]; omega, by
        rw [ho (by omega), List.getD_eq_getElem?_getD, List.getD_eq_getElem?_getD, List.getElem?_drop]⟩⟩
      have hA3 : Hid (Arr8 w2.drew w.heap.size gs ∧ Below w.heap.size w w2.drew) := Lib.hid ⟨HA2.out.below (Below.refl _ _).drew, b2.drew⟩
      clear hX hY
      by_cases hKe : K = 8
      · have F3 : Hid (RowFact gs 0 0 0 Y) := Lib.hid (by
          have := F2 0 (by omega)
          rwa [hKe] at this)
        subst hKe
        clear F2 kw
        have kw8 : IntKind.i64.wrap (8 : Int) = 8 := by rw [IntKind.wrap_i64]; rfl
        go_wp2_with fail
        go_region_with (first
          | (go_at_call 66; refine (row_held (gs := gs) _ _ _ _ _ _ _ (by with_reducible assumption) (by with_reducible assumption)).mono ?_; rintro e w3 ⟨rfl, hA4⟩))
        all_goals
          go_wp2_with fail
          go_ret
          exact ⟨str_ret (by rw [HP.out]; rfl), hA4.out.2⟩
      · have F3 : Hid (RowFact gs K (8 - K) (8 - K) Y) := Lib.hid (F2 K (fun _ => rfl))
        have hKn : ¬ 8 = K := fun h => hKe h.symm
        clear F2
        go_wp2_with fail
        go_region_with (first
          | (go_at_call 66; refine (row_held (gs := gs) _ _ _ _ _ _ _ (by with_reducible assumption) (by with_reducible assumption)).mono ?_; rintro e w3 ⟨rfl, hA4⟩))
        all_goals
          go_wp2_with fail
          go_ret
          exact ⟨str_ret (by rw [HP.out]; rfl), hA4.out.2⟩
end Go.Proofs.YtickghbjhiegnaaDoor
/- Contracts of strconv.FormatUint at base 16, and of six.digits: a group's digits. -/
namespace Go.Proofs.YtickghbjhiegnaaDoor
open Go.RowKit
set_option linter.unusedVariables false
set_option maxRecDepth 20000

/-- The table of math/bits that tells 16's zeros holds its 4. -/
def BruIs (w : World) : Prop := w.cell? ⟨3, 15, none⟩ = some (.int .u8 4)
theorem BruIs.below {w w' : World} (h : BruIs w) (hb : Below w.heap.size w w') : BruIs w' := by
  unfold BruIs at *
  have hlt : 3 < w.heap.size := by
    rcases Nat.lt_or_ge 3 w.heap.size with h2 | h2
    · exact h2
    · simp [World.cell?, Array.getElem?_eq_none h2] at h
  rw [hb.cell (p := ⟨3, 15, none⟩) hlt]
  exact h

set_option maxHeartbeats 400000 in
theorem tz64_16 (w : World) (h : BruIs w) :
    Calls Tryd.prog 102 #[.int .u64 16] w fun e w' => e = .returned (.int .i64 4) ∧ w = w' := by
  have hc : w.cell? ⟨3, 15, none⟩ = some (.int .u8 4) := h
  clear h
  have hx : IntKind.u64.wrap (bits BinOp.and IntKind.u64 16 (IntKind.u64.wrap (-16)) * 285870213051353865) / 288230376151711744 = 15 := by decide +kernel
  go_enter Tryd.func102, Tryd.ntmps102
  go_wp2
  go_ret
  exact ⟨rfl, rfl⟩
set_option maxHeartbeats 400000 in
theorem tz_16 (w : World) (h : BruIs w) :
    Calls Tryd.prog 100 #[.int .u64 16] w fun e w' => e = .returned (.int .i64 4) ∧ w = w' := by
  go_enter Tryd.func100, Tryd.ntmps100
  go_wp2_with fail
  refine (tz64_16 _ h).mono ?_
  rintro e w' ⟨rfl, rfl⟩
  go_wp2_with fail
  go_ret
  exact ⟨rfl, rfl⟩
set_option maxHeartbeats 400000 in
theorem pow_16 (w : World) :
    Calls Tryd.prog 99 #[.int .i64 16] w fun e w' => e = .returned (.bool true) ∧ w = w' := by
  go_enter Tryd.func99, Tryd.ntmps99
  go_wp2
  go_ret
  exact ⟨rfl, rfl⟩
/-- An array of n integers of kind k lies at B. -/
structure ArrI (k : IntKind) (n : Nat) (w : World) (B : Nat) (l : List Nat) : Prop where
  len : l.length = n
  lt : B < w.heap.size
  cells : ∀ j, j < n → w.cell? ⟨B, j, none⟩ = some (.int k ((l.getD j 0 : Nat) : Int))
  live : ∀ j, j < n → w.frozen? ⟨B, j, none⟩ = false
theorem ArrI.below {k : IntKind} {n : Nat} {w w' : World} {B : Nat} {l : List Nat} (h : ArrI k n w B l) (hb : Below w.heap.size w w') : ArrI k n w' B l :=
  ⟨h.len, Nat.lt_of_lt_of_le h.lt hb.size, fun j hj => by rw [hb.cell (p := ⟨B, j, none⟩) h.lt]; exact h.cells j hj, fun j hj => by rw [hb.frozen (p := ⟨B, j, none⟩) h.lt]; exact h.live j hj⟩
theorem ArrI.set {k : IntKind} {n : Nat} {w : World} {B i : Nat} {l : List Nat} (h : ArrI k n w B l) (hi : i < n) (v : Nat) : ArrI k n (w.setCell ⟨B, i, none⟩ (.int k ((v : Nat) : Int))) B (l.set i v) := by
  refine ⟨by simp [h.len], by simpa using h.lt, ?_, ?_⟩
  · intro j hj
    by_cases e : j = i
    · subst e
      rw [World.cell?_setCell_same _ _ _ (h.cells j hj), List.getD_eq_getElem?_getD, List.getElem?_set_self (by rw [h.len]; exact hj)]
      rfl
    · rw [World.cell?_setCell_other _ _ _ _ (by intro h2; injection h2 with _ h3 _; exact e h3.symm), h.cells j hj, List.getD_eq_getElem?_getD, List.getD_eq_getElem?_getD, List.getElem?_set_ne (by omega)]
  · intro j hj
    rw [World.frozen?_setCell]
    exact h.live j hj
theorem ArrI.other {k : IntKind} {n : Nat} {w : World} {B B' i : Nat} {l : List Nat} (h : ArrI k n w B l) (hB : B' ≠ B) (u : Value) : ArrI k n (w.setCell ⟨B', i, none⟩ u) B l := by
  refine ⟨h.len, by simpa using h.lt, ?_, ?_⟩
  · intro j hj
    rw [World.cell?_setCell_other _ _ _ _ (by intro h2; injection h2 with h3 _ _; exact hB h3)]
    exact h.cells j hj
  · intro j hj
    rw [World.frozen?_setCell]
    exact h.live j hj
theorem ArrI.of {k : IntKind} {n : Nat} (w : World) (cs : Array Value) (t : TypeId) (l : List Nat) (h : cs.toList = l.map fun x => Value.int k ((x : Nat) : Int)) (hn : l.length = n) : ArrI k n (w.alloc (.cells cs t)) w.heap.size l := by
  refine ⟨hn, by simp, ?_, ?_⟩
  · intro j hj
    have e : cs[j]? = (l.map fun x => Value.int k ((x : Nat) : Int))[j]? := by rw [← h]; simp
    rw [World.cell?_alloc_new, e, List.getElem?_map, List.getD_eq_getElem?_getD, List.getElem?_eq_getElem (by omega)]
    rfl
  · intro j hj
    exact World.frozen?_alloc_new _ _ _ _

theorem mask_16 (v : Nat) (h : v < 65536) : bits BinOp.and IntKind.u64 (v : Int) 15 = ((v % 16 : Nat) : Int) := by
  have := bits_mask .u64 16 (by decide) (fun n h0 h1 => by rw [IntKind.wrap_u64]; omega) 4 (by decide) (v : Int) (by omega) (by omega)
  rw [show ((2 : Int) ^ 4 - 1) = 15 by decide, show ((2 : Int) ^ 4) = 16 by decide] at this
  rw [this]
  omega
theorem zeros65 : Tryd.zeroCells106.toList = (List.replicate 65 0).map fun x => Value.int .u8 ((x : Nat) : Int) := by kernel_rfl
theorem alnum_at (d : Nat) (h : d < 16) : ∃ x : Nat, (hexc d).toNat = x ∧ ∀ hh, ((({ data := #[48, 49, 50, 51, 52, 53, 54, 55, 56, 57, 97, 98, 99, 100, 101, 102, 103, 104, 105, 106, 107, 108, 109, 110, 111, 112, 113, 114, 115, 116, 117, 118, 119, 120, 121, 122] } : ByteArray)[d]'hh).toNat) = x := by
  refine ⟨_, rfl, ?_⟩
  have hd : d = 0 ∨ d = 1 ∨ d = 2 ∨ d = 3 ∨ d = 4 ∨ d = 5 ∨ d = 6 ∨ d = 7 ∨ d = 8 ∨ d = 9 ∨ d = 10 ∨ d = 11 ∨ d = 12 ∨ d = 13 ∨ d = 14 ∨ d = 15 := by omega
  rcases hd with rfl | rfl | rfl | rfl | rfl | rfl | rfl | rfl | rfl | rfl | rfl | rfl | rfl | rfl | rfl | rfl <;> (intro hh; rfl)
theorem drop_set (l : List Nat) (q x : Nat) (T : List UInt8) (hq : q < l.length) (h : l.drop (q + 1) = T.map fun c => c.toNat) : (l.set q x).drop q = x :: T.map fun c => c.toNat := by
  rw [List.drop_eq_getElem_cons (by simpa using hq), List.drop_set_of_lt (by omega), h]
  simp

set_option maxRecDepth 100000 in
set_option maxHeartbeats 2000000 in
theorem formatBits_16 (n : Nat) (w : World) (hn : n < 65536) (h : BruIs w) :
    Calls Tryd.prog 93 #[.slice none 0 0, .int .u64 (n : Int), .int .i64 16, .bool false, .bool false] w fun e w' => e = .returned (.tuple #[.slice none 0 0, .string (gS n)]) ∧ Below w.heap.size w w' := by
  have hA := ArrI.of w Tryd.zeroCells106 106 (List.replicate 65 0) zeros65 (n := 65) (by decide)
  have b0 : Below w.heap.size w (w.alloc (.cells Tryd.zeroCells106 106)) := (Below.refl _ _).alloc (Nat.le_refl _) _
  have hB := h.below b0
  clear h
  go_enter Tryd.func93, Tryd.ntmps93
  go_wp2_with fail
  generalize w.alloc (.cells Tryd.zeroCells106 106) = W at *
  have HA := Lib.hid hA
  have HB := Lib.hid hB
  clear hA hB
  refine (pow_16 _).mono ?_
  rintro e w' ⟨rfl, rfl⟩
  go_wp2_with fail
  refine (tz_16 _ HB.out).mono ?_
  rintro e w' ⟨rfl, rfl⟩
  go_wp2_with fail
  go_loopw [1, 13] (fun u i wr => ∃ (v k q : Nat) (l : List Nat) (T : List UInt8), v < 65536 ∧ q + 1 + k = 65 ∧ T.length = k ∧ k ≤ 3 ∧ u = .int .u64 (v : Int) ∧ i = .int .i64 ((q : Int) + 1) ∧ Hid (ArrI .u8 65 wr w.heap.size l) ∧ Below w.heap.size w wr ∧ Hid (l.drop (q + 1) = T.map fun c => c.toNat) ∧ Hid (groupL n = groupL v ++ T)) (fun u _ _ => (intOf u).toNat)
  case atStart => exact ⟨n, 0, 64, List.replicate 65 0, [], hn, rfl, rfl, by decide, rfl, rfl, HA, b0, Lib.hid (by rfl), Lib.hid (by simp)⟩
  case round =>
    obtain ⟨v, k, q, l, T, hv, hq, hT, hk3, rfl, rfl, HAr, hbel, HD, HG⟩ := hrel
    have hgc := HAr.out.cells q (by omega)
    have hgl := HAr.out.live q (by omega)
    have q0 : (0 : Int) ≤ (q : Int) := by omega
    have q1 : (q : Int) ≤ 65 := by omega
    have q2 : ¬ 65 = q := by omega
    by_cases h16 : v < 16
    · have hv16 : (v : Int) < 16 := by omega
      obtain ⟨x, hx, ha⟩ := alnum_at v h16
      have hset := HAr.out.set (i := q) (by omega) x
      have hcv : (convert 62 9 (.slice (some ⟨w.heap.size, q, none⟩) (65 - q) (65 - q))).run Tryd.prog (wr.setCell ⟨w.heap.size, q, none⟩ (.int .u8 (x : Int))) = .ok (.string (gS n)) (wr.setCell ⟨w.heap.size, q, none⟩ (.int .u8 (x : Int))) := by
        have e0 : groupL n = hexc v :: T := by rw [HG.out, groupL_one h16]; rfl
        have hl : 65 - q = (groupL n).length := by rw [e0, List.length_cons]; omega
        rw [hl]
        refine run_convert_bytes_back (P := Tryd.prog) _ 62 9 5 ⟨w.heap.size, q, none⟩ _ (groupL n) Tryd.underlying62 Tryd.underlying5 Tryd.underlying9 (fun j hj => ?_)
        have e1 : (⟨w.heap.size, q, none⟩ : Addr).add j = ⟨w.heap.size, q + j, none⟩ := by
          unfold Addr.add
          split <;> simp_all
        rw [e1, hset.cells (q + j) (by omega)]
        have e2 := drop_set l q x T (by rw [HAr.out.len]; omega) HD.out
        have e3 : (l.set q x).getD (q + j) 0 = ((l.set q x).drop q).getD j 0 := by
          rw [List.getD_eq_getElem?_getD, List.getD_eq_getElem?_getD, List.getElem?_drop]
        rw [e3, e2]
        have e4 : x :: (T.map fun c => c.toNat) = (groupL n).map fun c => c.toNat := by rw [e0, List.map_cons, hx]
        rw [e4, List.getD_eq_getElem?_getD, List.getElem?_map, List.getElem?_eq_getElem hj]
        rfl
      have hb2 := hbel.setCell (p := ⟨w.heap.size, q, none⟩) (Nat.le_refl _) (.int .u8 (x : Int))
      clear hset
      go_wp2_with fail
      go_ret2
      exact ⟨rfl, hb2⟩
    · have hm := mask_16 v hv
      obtain ⟨d, ed⟩ : ∃ d, v % 16 = d := ⟨_, rfl⟩
      have hd : d < 16 := by omega
      have hi16 : (16 : Int) ≤ (v : Int) := by omega
      rw [ed] at hm
      obtain ⟨x, hx, ha⟩ := alnum_at d hd
      have e0 : groupL n = groupL (v / 16) ++ hexc d :: T := by rw [HG.out, groupL_more h16, ed]; simp
      have hl4 := (groupL_length n hn).2
      have hl1 := (groupL_length (v / 16) (by omega)).1
      rw [e0, List.length_append, List.length_cons] at hl4
      have HS := Lib.hid (HAr.out.set (i := q) (by omega) x)
      have HE := Lib.hid e0
      have HX := Lib.hid hx
      have HDv := Lib.hid ed
      clear e0 hx ed
      go_wp2_with fail
      go_roundw
      case rel => exact ⟨v / 16, k + 1, q - 1, l.set q x, hexc d :: T, by omega, by omega, by simp [hT], by omega, by first | rfl | (congr 1; omega), by congr 1; omega, HS, hbel.setCell (p := ⟨w.heap.size, q, none⟩) (Nat.le_refl _) _, Lib.hid (by
        rw [show q - 1 + 1 = q by omega, drop_set l q x T (by rw [HAr.out.len]; omega) HD.out, List.map_cons, HX.out]), HE⟩
      case measure => simp [intOf]; omega

set_option maxHeartbeats 1000000 in
theorem fmtUint_16 (n : Nat) (w : World) (hn : n < 65536) (h : BruIs w) :
    Calls Tryd.prog 84 #[.int .u64 (n : Int), .int .i64 16] w fun e w' => e = .returned (.string (gS n)) ∧ Below w.heap.size w w' := by
  have HB := Lib.hid h
  clear h
  go_enter Tryd.func84, Tryd.ntmps84
  go_wp2_with fail
  refine (formatBits_16 n _ hn HB.out).mono ?_
  rintro e w1 ⟨rfl, hb⟩
  go_wp2_with fail
  go_ret
  exact ⟨rfl, hb⟩
set_option maxHeartbeats 1000000 in
theorem formatUint_16 (n : Nat) (w : World) (hn : n < 65536) (h : BruIs w) :
    Calls Tryd.prog 81 #[.int .u64 (n : Int), .int .i64 16] w fun e w' => e = .returned (.string (gS n)) ∧ Below w.heap.size w w' := by
  have HB := Lib.hid h
  clear h
  go_enter Tryd.func81, Tryd.ntmps81
  go_wp2_with fail
  refine (fmtUint_16 n _ hn HB.out).mono ?_
  rintro e w1 ⟨rfl, hb⟩
  go_wp2_with fail
  go_ret
  exact ⟨rfl, hb⟩
set_option maxHeartbeats 1000000 in
theorem digits_any (n : Nat) (w : World) (hn : n < 65536) (h : BruIs w) :
    Calls Tryd.prog 73 #[.int .u16 (n : Int)] w fun e w' => e = .returned (.string (gS n)) ∧ Below w.heap.size w w' := by
  have HB := Lib.hid h
  clear h
  go_enter Tryd.func73, Tryd.ntmps73
  go_wp2_with fail
  refine (formatUint_16 n _ hn HB.out).mono ?_
  rintro e w1 ⟨rfl, hb⟩
  go_wp2_with fail
  go_ret
  exact ⟨rfl, hb⟩
end Go.Proofs.YtickghbjhiegnaaDoor
/- Two arrays of integers, held against each other: they are equal, if all their numbers are. -/
namespace Go.Proofs.YtickghbjhiegnaaDoor
open Go.RowKit
set_option linter.unusedVariables false
set_option maxRecDepth 20000

theorem run_eqItems_ints (W : World) (d : Nat) {e : TypeId} {k : IntKind} (he : Tryd.prog.plainKey e = true) (hu : Tryd.prog.underlying e = some (.int k)) (zs ys : List Int) : ∀ (is : List Nat), (∀ i ∈ is, i < zs.length ∧ i < ys.length) →
    (Op.eqItems (d + 1) e 1 (zs.map (Value.int k)).toArray (ys.map (Value.int k)).toArray is).run Tryd.prog W = .ok (is.all fun i => zs.getD i 0 == ys.getD i 0) W
  | [], _ => by simp [Op.eqItems]
  | i :: is, h => by
    have hi := h i (by simp)
    have p1 : (part e (zs.map (Value.int k)).toArray (i * 1)).run Tryd.prog W = .ok (.int k (zs.getD i 0)) W := run_part_plain W he (by simp [hi.1])
    have p2 : (part e (ys.map (Value.int k)).toArray (i * 1)).run Tryd.prog W = .ok (.int k (ys.getD i 0)) W := run_part_plain W he (by simp [hi.2])
    have p3 := run_equalIn_int (P := Tryd.prog) W d e k k (zs.getD i 0) (ys.getD i 0) hu
    have ih := run_eqItems_ints W d he hu zs ys is (fun j hj => h j (by simp [hj]))
    simp only [Op.eqItems, Sem.run_bind, p1, p2, p3, Result.andThen_ok, List.all_cons]
    cases zs.getD i 0 == ys.getD i 0 with
    | false => simp
    | true => simpa using ih
theorem run_eq_ints (W : World) {t e : TypeId} {n : Nat} {k : IntKind} {i : TypeInfo} (ht : Tryd.prog.underlying t = some (.array n e)) (he : Tryd.prog.plainKey e = true) (hu : Tryd.prog.underlying e = some (.int k)) (hi : Tryd.prog.info? e = some i) (hc : Tryd.prog.cellsOf e = 1)
    (zs ys : List Int) (hz : zs.length = n) (hy : ys.length = n) :
    (Op.equalIn 10000 t (.agg (zs.map (Value.int k)).toArray) (.agg (ys.map (Value.int k)).toArray)).run Tryd.prog W = .ok (decide (zs = ys)) W := by
  rw [run_equalIn_array W 9999 _ _ ht hi, hc, run_eqItems_ints W 9998 he hu zs ys _ (fun j hj => by rw [List.mem_range] at hj; omega)]
  congr 1
  rw [Bool.eq_iff_iff]
  simp only [List.all_eq_true, List.mem_range, beq_iff_eq, decide_eq_true_eq]
  constructor
  · intro h
    apply List.ext_getElem (by omega)
    intro j h1 h2
    have := h j (by omega)
    rw [List.getD_eq_getElem?_getD, List.getD_eq_getElem?_getD, List.getElem?_eq_getElem h1, List.getElem?_eq_getElem h2] at this
    exact this
  · intro h j _
    rw [h]
theorem eq4_true (a b c d : Nat) (W : World) : (Op.equalIn 10000 54 (.agg #[.int .u8 (a : Int), .int .u8 (b : Int), .int .u8 (c : Int), .int .u8 (d : Int)]) (.agg #[.int .u8 (a : Int), .int .u8 (b : Int), .int .u8 (c : Int), .int .u8 (d : Int)])).run Tryd.prog W = .ok true W := by
  obtain ⟨i, hi⟩ : ∃ i, Tryd.prog.info? 5 = some i := ⟨_, rfl⟩
  have := run_eq_ints W (k := .u8) Tryd.underlying54 (by kernel_rfl) Tryd.underlying5 hi (by kernel_rfl) [(a : Int), b, c, d] [(a : Int), b, c, d] rfl rfl
  rw [show decide ([(a : Int), b, c, d] = [(a : Int), b, c, d]) = true by simp] at this
  exact this
theorem eq4_false (a b c d a' b' c' d' : Nat) (h : ¬ (a = a' ∧ b = b' ∧ c = c' ∧ d = d')) (W : World) : (Op.equalIn 10000 54 (.agg #[.int .u8 (a : Int), .int .u8 (b : Int), .int .u8 (c : Int), .int .u8 (d : Int)]) (.agg #[.int .u8 (a' : Int), .int .u8 (b' : Int), .int .u8 (c' : Int), .int .u8 (d' : Int)])).run Tryd.prog W = .ok false W := by
  obtain ⟨i, hi⟩ : ∃ i, Tryd.prog.info? 5 = some i := ⟨_, rfl⟩
  have := run_eq_ints W (k := .u8) Tryd.underlying54 (by kernel_rfl) Tryd.underlying5 hi (by kernel_rfl) [(a : Int), b, c, d] [(a' : Int), b', c', d'] rfl rfl
  rw [show decide ([(a : Int), b, c, d] = [(a' : Int), b', c', d']) = false by
    rw [decide_eq_false_iff_not]
    intro e
    simp only [List.cons.injEq, Int.natCast_inj, and_true] at e
    exact h e] at this
  exact this
theorem eq8_true (x0 x1 x2 x3 x4 x5 x6 x7 : Nat) (W : World) : (Op.equalIn 10000 33 (.agg #[.int .u16 (x0 : Int), .int .u16 (x1 : Int), .int .u16 (x2 : Int), .int .u16 (x3 : Int), .int .u16 (x4 : Int), .int .u16 (x5 : Int), .int .u16 (x6 : Int), .int .u16 (x7 : Int)]) (.agg #[.int .u16 (x0 : Int), .int .u16 (x1 : Int), .int .u16 (x2 : Int), .int .u16 (x3 : Int), .int .u16 (x4 : Int), .int .u16 (x5 : Int), .int .u16 (x6 : Int), .int .u16 (x7 : Int)])).run Tryd.prog W = .ok true W := by
  obtain ⟨i, hi⟩ : ∃ i, Tryd.prog.info? 32 = some i := ⟨_, rfl⟩
  have := run_eq_ints W (k := .u16) Tryd.underlying33 (by kernel_rfl) Tryd.underlying32 hi (by kernel_rfl) [(x0 : Int), x1, x2, x3, x4, x5, x6, x7] [(x0 : Int), x1, x2, x3, x4, x5, x6, x7] rfl rfl
  rw [show decide ([(x0 : Int), x1, x2, x3, x4, x5, x6, x7] = [(x0 : Int), x1, x2, x3, x4, x5, x6, x7]) = true by simp] at this
  exact this
end Go.Proofs.YtickghbjhiegnaaDoor
/- Contracts of six.Run, six.mapped and six.printed. -/
namespace Go.Proofs.YtickghbjhiegnaaDoor
open Go.RowKit
set_option linter.unusedVariables false
set_option maxRecDepth 20000

/-- What the landed Run holds behind k groups: where the longest row begins, how long it is, how many zeros stand last. -/
def ownTo (gs : List Nat) : Nat → Nat × Nat × Nat
  | 0 => (0, 0, 0)
  | k + 1 => if gs.getD k 0 = 0 then (if (ownTo gs k).2.1 < (ownTo gs k).2.2 + 1 then (k - (ownTo gs k).2.2, (ownTo gs k).2.2 + 1, (ownTo gs k).2.2 + 1) else ((ownTo gs k).1, (ownTo gs k).2.1, (ownTo gs k).2.2 + 1)) else ((ownTo gs k).1, (ownTo gs k).2.1, 0)
def ownRun (gs : List Nat) : Nat × Nat := if (ownTo gs 8).2.1 < 2 then (0, 0) else ((ownTo gs 8).1, (ownTo gs 8).2.1)
theorem zl_congr {gs hs : List Nat} (h : ∀ i, gs.getD i 0 = 0 ↔ hs.getD i 0 = 0) : ∀ f i, zl gs f i = zl hs f i
  | 0, _ => rfl
  | f + 1, i => by
    rw [zl, zl, zl_congr h f (i + 1)]
    by_cases h0 : gs.getD i 0 = 0
    · rw [if_pos h0, if_pos ((h i).1 h0)]
    · rw [if_neg h0, if_neg (fun h1 => h0 ((h i).2 h1))]
theorem runTo_congr {gs hs : List Nat} (h : ∀ i, gs.getD i 0 = 0 ↔ hs.getD i 0 = 0) : ∀ k, runTo gs k = runTo hs k
  | 0 => rfl
  | k + 1 => by
    have e : zrun gs k = zrun hs k := zl_congr h _ _
    rw [runTo, runTo, runTo_congr h k, e]
theorem ownTo_congr {gs hs : List Nat} (h : ∀ i, gs.getD i 0 = 0 ↔ hs.getD i 0 = 0) : ∀ k, ownTo gs k = ownTo hs k
  | 0 => rfl
  | k + 1 => by
    rw [ownTo, ownTo, ownTo_congr h k]
    by_cases h0 : gs.getD k 0 = 0
    · rw [if_pos h0, if_pos ((h k).1 h0)]
    · rw [if_neg h0, if_neg (fun h1 => h0 ((h k).2 h1))]
def bit (b : Bool) : Nat := if b then 0 else 1
theorem run_bits : ∀ b0 b1 b2 b3 b4 b5 b6 b7 : Bool, ownRun [bit b0, bit b1, bit b2, bit b3, bit b4, bit b5, bit b6, bit b7] = runB [bit b0, bit b1, bit b2, bit b3, bit b4, bit b5, bit b6, bit b7] := by decide +kernel
theorem own_run (gs : List Nat) (h8 : gs.length = 8) : ownRun gs = runB gs := by
  obtain ⟨x0, x1, x2, x3, x4, x5, x6, x7, rfl⟩ := list8 gs h8
  have hb : ∀ x : Nat, x = 0 ↔ bit (decide (x = 0)) = 0 := by
    intro x
    unfold bit
    by_cases h : x = 0
    · simp [h]
    · simp [h]
  have h : ∀ i, [x0, x1, x2, x3, x4, x5, x6, x7].getD i 0 = 0 ↔ [bit (decide (x0 = 0)), bit (decide (x1 = 0)), bit (decide (x2 = 0)), bit (decide (x3 = 0)), bit (decide (x4 = 0)), bit (decide (x5 = 0)), bit (decide (x6 = 0)), bit (decide (x7 = 0))].getD i 0 = 0 := by
    intro i
    match i with
    | 0 => exact hb x0
    | 1 => exact hb x1
    | 2 => exact hb x2
    | 3 => exact hb x3
    | 4 => exact hb x4
    | 5 => exact hb x5
    | 6 => exact hb x6
    | 7 => exact hb x7
    | i + 8 => exact Iff.rfl
  unfold ownRun runB
  rw [ownTo_congr h, runTo_congr h]
  exact run_bits _ _ _ _ _ _ _ _
theorem own_ret {gs : List Nat} {A M N : Nat} (h8 : gs.length = 8) (h : ownTo gs 8 = (A, M, N)) : runB gs = if M < 2 then (0, 0) else (A, M) := by
  rw [← own_run gs h8]
  unfold ownRun
  rw [h]

set_option maxRecDepth 100000 in
set_option maxHeartbeats 2000000 in
theorem sixRun_any (gs : List Nat) (w : World) (h8 : gs.length = 8) (hlt : ∀ x ∈ gs, x < 65536) :
    Calls Tryd.prog 62 #[arr8 gs] w fun e w' => e = .returned (runRet (runB gs)) ∧ Below w.heap.size w w' := by
  have H8 := Lib.hid h8
  obtain ⟨x0, x1, x2, x3, x4, x5, x6, x7, hgs⟩ := list8 gs h8
  have hA := Arr8.new w 33 x0 x1 x2 x3 x4 x5 x6 x7
  have hb : Below w.heap.size w (w.alloc (.cells #[.int .u16 (x0 : Int), .int .u16 (x1 : Int), .int .u16 (x2 : Int), .int .u16 (x3 : Int), .int .u16 (x4 : Int), .int .u16 (x5 : Int), .int .u16 (x6 : Int), .int .u16 (x7 : Int)] 33)) := (Below.refl _ _).alloc (Nat.le_refl _) _
  rw [← hgs] at hA
  rw [show arr8 gs = .agg #[.int .u16 (x0 : Int), .int .u16 (x1 : Int), .int .u16 (x2 : Int), .int .u16 (x3 : Int), .int .u16 (x4 : Int), .int .u16 (x5 : Int), .int .u16 (x6 : Int), .int .u16 (x7 : Int)] by rw [hgs]; rfl]
  clear hgs hlt h8
  go_enter Tryd.func62, Tryd.ntmps62
  go_wp2_with fail
  generalize w.alloc (.cells #[.int .u16 (x0 : Int), .int .u16 (x1 : Int), .int .u16 (x2 : Int), .int .u16 (x3 : Int), .int .u16 (x4 : Int), .int .u16 (x5 : Int), .int .u16 (x6 : Int), .int .u16 (x7 : Int)] 33) = W at *
  have HA := Lib.hid hA
  clear hA
  go_loop [4, 5, 6, 8] (fun a m n i => ∃ k A M N : Nat, k ≤ 8 ∧ i = .int .i64 k ∧ a = .int .i64 (A : Int) ∧ m = .int .i64 (M : Int) ∧ n = .int .i64 (N : Int) ∧ A ≤ 8 ∧ M ≤ 8 ∧ N ≤ k ∧ Hid (ownTo gs k = (A, M, N))) (fun _ _ _ i => 8 - (intOf i).toNat)
  case atStart => exact ⟨0, 0, 0, 0, by decide, rfl, rfl, rfl, rfl, by decide, by decide, by decide, Lib.hid rfl⟩
  case round =>
    obtain ⟨k, A, M, N, hk, rfl, rfl, rfl, rfl, hA8, hM8, hN8, HK⟩ := hrel
    by_cases hk8 : k < 8
    · have hcell := HA.out.cells k hk8
      obtain ⟨x, ex⟩ : ∃ x, gs.getD k 0 = x := ⟨_, rfl⟩
      rw [ex] at hcell
      have HX := Lib.hid ex
      clear ex
      by_cases h0 : x = 0
      · have hx0 : ((x : Int) != 0) = false := by simp; omega
        by_cases hM : M < N + 1
        · have HT : Hid (ownTo gs (k + 1) = (k - N, N + 1, N + 1)) := Lib.hid (by rw [ownTo, HX.out, if_pos h0, HK.out]; simp only [if_pos hM])
          clear h0
          go_wp2_with fail
          go_round
          case rel => exact ⟨k + 1, k - N, N + 1, N + 1, by omega, by go_num, by congr 1; omega, by go_num, by go_num, by omega, by omega, by omega, HT⟩
          case measure => simp [intOf]; omega
        · have HT : Hid (ownTo gs (k + 1) = (A, M, N + 1)) := Lib.hid (by rw [ownTo, HX.out, if_pos h0, HK.out]; simp only [if_neg hM])
          clear h0
          go_wp2_with fail
          go_round
          case rel => exact ⟨k + 1, A, M, N + 1, by omega, by go_num, rfl, rfl, by go_num, by omega, by omega, by omega, HT⟩
          case measure => simp [intOf]; omega
      · have hx0 : ((x : Int) != 0) = true := by simp; omega
        have HT : Hid (ownTo gs (k + 1) = (A, M, 0)) := Lib.hid (by rw [ownTo, HX.out, if_neg h0, HK.out])
        clear h0
        go_wp2_with fail
        go_round
        case rel => exact ⟨k + 1, A, M, 0, by omega, by go_num, rfl, rfl, rfl, by omega, by omega, by omega, HT⟩
        case measure => simp [intOf]; omega
    · obtain rfl : k = 8 := by omega
      by_cases hM2 : M < 2
      · have HR : Hid (runB gs = (0, 0)) := Lib.hid (by rw [own_ret H8.out HK.out, if_pos hM2])
        go_wp2_with fail
        go_ret2
        exact ⟨run_ret (o := (0, 0)) HR.out.symm, hb⟩
      · have HR : Hid (runB gs = (A, M)) := Lib.hid (by rw [own_ret H8.out HK.out, if_neg hM2])
        go_wp2_with fail
        go_ret2
        exact ⟨run_ret (o := (A, M)) HR.out.symm, hb⟩

theorem eq8_mapped (x0 x1 x2 x3 x4 x5 x6 x7 : Nat) (W : World) : (Op.equalIn 10000 33 (.agg #[.int .u16 (x0 : Int), .int .u16 (x1 : Int), .int .u16 (x2 : Int), .int .u16 (x3 : Int), .int .u16 (x4 : Int), .int .u16 (x5 : Int), .int .u16 (x6 : Int), .int .u16 (x7 : Int)]) (.agg #[.int .u16 0, .int .u16 0, .int .u16 0, .int .u16 0, .int .u16 0, .int .u16 65535, .int .u16 (x6 : Int), .int .u16 (x7 : Int)])).run Tryd.prog W = .ok (mappedB [x0, x1, x2, x3, x4, x5, x6, x7]) W := by
  obtain ⟨i, hi⟩ : ∃ i, Tryd.prog.info? 32 = some i := ⟨_, rfl⟩
  have := run_eq_ints W (k := .u16) Tryd.underlying33 (by kernel_rfl) Tryd.underlying32 hi (by kernel_rfl) [(x0 : Int), x1, x2, x3, x4, x5, x6, x7] [(0 : Int), 0, 0, 0, 0, 65535, x6, x7] rfl rfl
  rw [show decide ([(x0 : Int), x1, x2, x3, x4, x5, x6, x7] = [(0 : Int), 0, 0, 0, 0, 65535, x6, x7]) = mappedB [x0, x1, x2, x3, x4, x5, x6, x7] by
    rw [Bool.eq_iff_iff]
    simp [mappedB, zer]
    omega] at this
  exact this
set_option maxHeartbeats 1000000 in
theorem mapped_any (gs : List Nat) (w : World) (h8 : gs.length = 8) (hlt : ∀ x ∈ gs, x < 65536) :
    Calls Tryd.prog 61 #[arr8 gs] w fun e w' => e = .returned (.bool (mappedB gs)) ∧ Below w.heap.size w w' := by
  obtain ⟨x0, x1, x2, x3, x4, x5, x6, x7, rfl⟩ := list8 gs h8
  have q := eq8_mapped x0 x1 x2 x3 x4 x5 x6 x7
  have hb : Below w.heap.size w (w.alloc (.cells #[.int .u16 (x0 : Int), .int .u16 (x1 : Int), .int .u16 (x2 : Int), .int .u16 (x3 : Int), .int .u16 (x4 : Int), .int .u16 (x5 : Int), .int .u16 (x6 : Int), .int .u16 (x7 : Int)] 33)) := (Below.refl _ _).alloc (Nat.le_refl _) _
  rw [arr8_eq]
  generalize mappedB [x0, x1, x2, x3, x4, x5, x6, x7] = m at *
  clear hlt h8
  go_enter Tryd.func61, Tryd.ntmps61
  go_wp2_with fail
  go_ret
  exact ⟨rfl, hb⟩

set_option maxRecDepth 100000 in
set_option maxHeartbeats 2000000 in
theorem printed_any (gs : List Nat) (F T : Nat) (w : World) (h8 : gs.length = 8) (hlt : ∀ x ∈ gs, x < 65536) (hF : F ≤ T) (hT : T ≤ 8) (hbru : BruIs w) :
    Calls Tryd.prog 63 #[arr8 gs, .int .i64 (F : Int), .int .i64 (T : Int)] w fun e w' => e = .returned (.string (rowS ((gs.drop F).take (T - F)))) ∧ Below w.heap.size w w' := by
  have H8 := Lib.hid h8
  have HLT := Lib.hid hlt
  obtain ⟨x0, x1, x2, x3, x4, x5, x6, x7, hgs⟩ := list8 gs h8
  have hA := Arr8.new w 33 x0 x1 x2 x3 x4 x5 x6 x7
  have hb : Below w.heap.size w (w.alloc (.cells #[.int .u16 (x0 : Int), .int .u16 (x1 : Int), .int .u16 (x2 : Int), .int .u16 (x3 : Int), .int .u16 (x4 : Int), .int .u16 (x5 : Int), .int .u16 (x6 : Int), .int .u16 (x7 : Int)] 33)) := (Below.refl _ _).alloc (Nat.le_refl _) _
  have HB := Lib.hid (hbru.below hb)
  rw [← hgs] at hA
  rw [show arr8 gs = .agg #[.int .u16 (x0 : Int), .int .u16 (x1 : Int), .int .u16 (x2 : Int), .int .u16 (x3 : Int), .int .u16 (x4 : Int), .int .u16 (x5 : Int), .int .u16 (x6 : Int), .int .u16 (x7 : Int)] by rw [hgs]; rfl]
  clear hgs hlt h8 hbru
  obtain ⟨L, hL⟩ : ∃ L, (gs.drop F).take (T - F) = L := ⟨_, rfl⟩
  have hLn : L.length = T - F := by rw [← hL]; simp [H8.out]; omega
  have hLt : ∀ x ∈ L, x < 65536 := fun x hx => HLT.out x (List.mem_of_mem_drop (List.mem_of_mem_take (by rw [hL]; exact hx)))
  rw [hL]
  have HL := Lib.hid hL
  have HLn := Lib.hid hLn
  have HLt := Lib.hid hLt
  clear hL hLn hLt
  obtain ⟨n, hn, en⟩ : ∃ n : Nat, T - F = n ∧ (T : Int) - (F : Int) = (n : Int) := ⟨_, rfl, by omega⟩
  have hnw : IntKind.i64.wrap (n : Int) = (n : Int) := by rw [IntKind.wrap_i64]; omega
  have hn8 : n ≤ 8 := by omega
  have hFn : F + n ≤ 8 := by omega
  rw [hn] at HLn
  clear hn
  go_enter Tryd.func63, Tryd.ntmps63
  go_wp2_with fail
  generalize w.alloc (.cells #[.int .u16 (x0 : Int), .int .u16 (x1 : Int), .int .u16 (x2 : Int), .int .u16 (x3 : Int), .int .u16 (x4 : Int), .int .u16 (x5 : Int), .int .u16 (x6 : Int), .int .u16 (x7 : Int)] 33) = W at *
  have HA := Lib.hid hA
  clear hA
  go_loopw [7, 12] (fun t i wr => ∃ k : Nat, k ≤ n ∧ i = .int .i64 k ∧ t = .string (joinTo (L.map gS) { data := #[58] } k) ∧ Below W.heap.size W wr) (fun _ i _ => n - (intOf i).toNat)
  case atStart => exact ⟨0, Nat.zero_le _, rfl, rfl, Below.refl _ _⟩
  case round =>
    obtain ⟨k, hk, rfl, rfl, hbel⟩ := hrel
    by_cases hkn : k < n
    · have hcell := (HA.out.below hbel).cells (F + k) (by omega)
      have hx : gs.getD (F + k) 0 < 65536 := by
        rw [List.getD_eq_getElem?_getD, List.getElem?_eq_getElem (by rw [H8.out]; omega)]
        exact HLT.out _ (List.getElem_mem _)
      have hLk : L.getD k 0 = gs.getD (F + k) 0 := by
        rw [← HL.out, List.getD_eq_getElem?_getD, List.getD_eq_getElem?_getD, List.getElem?_take, if_pos (by omega), List.getElem?_drop]
      obtain ⟨x, ex⟩ : ∃ x, gs.getD (F + k) 0 = x := ⟨_, rfl⟩
      rw [ex] at hcell hx hLk
      clear ex
      have hmap : (L.map gS).getD k { data := #[] } = gS x := by
        rw [List.getD_eq_getElem?_getD, List.getElem?_map, List.getElem?_eq_getElem (by rw [HLn.out]; exact hkn)]
        rw [List.getD_eq_getElem?_getD, List.getElem?_eq_getElem (by rw [HLn.out]; exact hkn)] at hLk
        rw [← hLk]
        rfl
      have hsz := joinTo_small L HLt.out k
      have hg4 := gS_size x hx
      have HJ : Hid (joinTo (L.map gS) { data := #[58] } (k + 1) = (if 0 < k then joinTo (L.map gS) { data := #[58] } k ++ { data := #[58] } else joinTo (L.map gS) { data := #[58] } k) ++ gS x) := Lib.hid (by rw [joinTo, hmap])
      clear hmap hLk
      have hFk : (F : Int) + (k : Int) < 8 := by omega
      have hbr := Lib.hid (HB.out.below hbel)
      generalize joinTo (L.map gS) { data := #[58] } k = J at *
      by_cases h0 : 0 < k
      · rw [if_pos h0] at HJ
        go_wp2_with fail
        refine (digits_any x _ hx hbr.out).mono ?_
        rintro e w2 ⟨rfl, hb2⟩
        generalize gS x = G at *
        go_wp2_with fail
        go_roundw
        case rel => exact ⟨k + 1, by omega, by go_num, by rw [HJ.out], chain hbel hb2⟩
        case measure => simp [intOf]; omega
      · rw [if_neg h0] at HJ
        have hk0 : ¬ (0 : Int) < (k : Int) := by omega
        go_wp2_with fail
        refine (digits_any x _ hx hbr.out).mono ?_
        rintro e w2 ⟨rfl, hb2⟩
        generalize gS x = G at *
        go_wp2_with fail
        go_roundw
        case rel => exact ⟨k + 1, by omega, by go_num, by rw [HJ.out], chain hbel hb2⟩
        case measure => simp [intOf]; omega
    · obtain rfl : k = n := by omega
      have HR : Hid (rowS L = joinTo (L.map gS) { data := #[58] } k) := Lib.hid (by unfold rowS; rw [HLn.out])
      go_wp2_with fail
      go_ret
      exact ⟨by rw [HR.out]; rfl, chain hb hbel⟩
end Go.Proofs.YtickghbjhiegnaaDoor
/- The contract of six.Print. -/
namespace Go.Proofs.YtickghbjhiegnaaDoor
open Go.RowKit
set_option linter.unusedVariables false
set_option maxRecDepth 20000

/-- What the walks ask of the library's own variables: the table of powers of ten, 16's zeros, some number at MaxLen. -/
structure Tabs (w : World) : Prop where
  pow : Lib.TabIs Tryd.prog w "internal/strconv.uint64pow10" .u64 Lib.pow10Tab
  bru : BruIs w
  max : ∃ m, w.cell? ⟨0, 0, none⟩ = some (.int .i64 m)
theorem gPow10 : Tryd.prog.globalNamed "internal/strconv.uint64pow10" = some 1 := by kernel_rfl
theorem cell_lt {w : World} {g o : Nat} {v : Value} (h : w.cell? ⟨g, o, none⟩ = some v) : g < w.heap.size := by
  rcases Nat.lt_or_ge g w.heap.size with h2 | h2
  · exact h2
  · simp [World.cell?, Array.getElem?_eq_none h2] at h
theorem Tabs.below {w w' : World} (h : Tabs w) (hb : Below w.heap.size w w') : Tabs w' := by
  refine ⟨?_, h.bru.below hb, ?_⟩
  · have hc := h.pow.cell gPow10 0 (by rw [Lib.pow10Tab_length]; decide)
    exact var?_below hb gPow10 (cell_lt hc) h.pow
  · obtain ⟨m, hm⟩ := h.max
    exact ⟨m, by rw [hb.cell (p := ⟨0, 0, none⟩) (cell_lt hm)]; exact hm⟩

/-- What a part of the groups is printed as. -/
def PartFact (gs : List Nat) (f t : Int) (X : ByteArray) : Prop := ∃ F T : Nat, f = (F : Int) ∧ t = (T : Int) ∧ gs.length = 8 ∧ (∀ x ∈ gs, x < 65536) ∧ F ≤ T ∧ T ≤ 8 ∧ rowS ((gs.drop F).take (T - F)) = X
theorem part_held {gs hs : List Nat} {B : Nat} (v : Value) (f t : Int) (X : ByteArray) (W w : World) (hv : Hid (arr8 gs = v)) (h : Hid (PartFact gs f t X)) (hA : Hid (Tabs w ∧ Below W.heap.size W w ∧ Arr8 w B hs)) :
    Calls Tryd.prog 63 #[v, .int .i64 f, .int .i64 t] w fun e w' => e = .returned (.string X) ∧ Hid (Tabs w' ∧ Below W.heap.size W w' ∧ Arr8 w' B hs) := by
  obtain rfl := hv.out
  obtain ⟨F, T, rfl, rfl, h1, h2, h3, h4, rfl⟩ := h.out
  refine (printed_any gs F T w h1 h2 h3 h4 hA.out.1.bru).mono ?_
  rintro e w' ⟨rfl, hb⟩
  exact ⟨rfl, Lib.hid ⟨hA.out.1.below hb, chain hA.out.2.1 hb, hA.out.2.2.below hb⟩⟩

set_option maxRecDepth 100000 in
set_option maxHeartbeats 4000000 in
theorem sixPrint_any (gs : List Nat) (w : World) (h8 : gs.length = 8) (hlt : ∀ x ∈ gs, x < 65536) (ht : Tabs w) :
    Calls Tryd.prog 39 #[arr8 gs] w fun e w' => e = .returned (.string (printB gs)) ∧ Below w.heap.size w w' := by
  have hlt2 := hlt
  obtain ⟨x0, x1, x2, x3, x4, x5, x6, x7, hgs⟩ := list8 gs h8
  have hA := Arr8.new w 33 x0 x1 x2 x3 x4 x5 x6 x7
  have hb : Below w.heap.size w (w.alloc (.cells #[.int .u16 (x0 : Int), .int .u16 (x1 : Int), .int .u16 (x2 : Int), .int .u16 (x3 : Int), .int .u16 (x4 : Int), .int .u16 (x5 : Int), .int .u16 (x6 : Int), .int .u16 (x7 : Int)] 33)) := (Below.refl _ _).alloc (Nat.le_refl _) _
  have ha : arr8 gs = .agg #[.int .u16 (x0 : Int), .int .u16 (x1 : Int), .int .u16 (x2 : Int), .int .u16 (x3 : Int), .int .u16 (x4 : Int), .int .u16 (x5 : Int), .int .u16 (x6 : Int), .int .u16 (x7 : Int)] := by rw [hgs]; rfl
  have HT := Lib.hid ht
  have HM := Lib.hid (fun w => mapped_any gs w h8 hlt)
  have HRn := Lib.hid (fun w => sixRun_any gs w h8 hlt)
  have HV := Lib.hid ha
  rw [ha] at HM HRn
  rw [ha]
  go_enter Tryd.func39, Tryd.ntmps39
  go_wp2_with fail
  generalize w.alloc (.cells #[.int .u16 (x0 : Int), .int .u16 (x1 : Int), .int .u16 (x2 : Int), .int .u16 (x3 : Int), .int .u16 (x4 : Int), .int .u16 (x5 : Int), .int .u16 (x6 : Int), .int .u16 (x7 : Int)] 33) = W at *
  refine (HM.out _).mono ?_
  rintro e w1 ⟨rfl, hb1⟩
  have hA1 := hA.below hb1
  obtain ⟨c0, c1, c2, c3, c4, c5, c6, c7⟩ := hA1.all
  have HA := Lib.hid hA1
  clear hA hA1
  have hx6 : x6 < 65536 := hlt x6 (by rw [hgs]; simp)
  have hx7 : x7 < 65536 := hlt x7 (by rw [hgs]; simp)
  have HG := Lib.hid hgs
  have HLT := Lib.hid hlt
  have H8 := Lib.hid h8
  have b1 := chain hb hb1
  clear hlt hlt2 hgs h8 ha ht
  cases hm : mappedB gs with
  | true =>
    have HP : Hid (printB gs = ofL [58, 58, 102, 102, 102, 102, 58] ++ text4 (x6 / 256) (x6 % 256) (x7 / 256) (x7 % 256)) := Lib.hid (by unfold printB; rw [hm, if_pos rfl, HG.out]; rfl)
    obtain ⟨N, hN, eN⟩ : ∃ N : Nat, N = num4 (x6 / 256) (x6 % 256) (x7 / 256) (x7 % 256) ∧ (x6 : Int) * 65536 + (x7 : Int) = (N : Int) := ⟨_, rfl, by unfold num4; omega⟩
    have hNl : N ≤ 4294967295 := by omega
    have q1 : IntKind.u32.wrap ((x6 : Int) * 65536) = (x6 : Int) * 65536 := by rw [IntKind.wrap_u32]; omega
    have q2 : bits .or .u32 ((x6 : Int) * 65536) (x7 : Int) = (N : Int) := by
      rw [bits_join .u32 32 (by decide) (fun n h0 h1 => by rw [IntKind.wrap_u32]; omega) 16 ((x6 : Int) * 65536) x7 (by omega) (by omega) (by omega) (by omega) (by omega) (by omega)]
      omega
    have HC := Lib.hid (fun w h => print_any (x6 / 256) (x6 % 256) (x7 / 256) (x7 % 256) N w (by omega) (by omega) (by omega) (by omega) hN h)
    have hz := text4_size (x6 / 256) (x6 % 256) (x7 / 256) (x7 % 256) (by omega) (by omega) (by omega) (by omega)
    generalize text4 (x6 / 256) (x6 % 256) (x7 / 256) (x7 % 256) = T at *
    clear hm hN
    go_wp2_with fail
    refine (HC.out _ (fun w' hb' => (HT.out.below (chain b1 hb')).pow)).mono ?_
    rintro e w2 ⟨rfl, hb2⟩
    go_wp2_with fail
    go_ret
    exact ⟨str_ret (by rw [HP.out]; rfl), chain b1 hb2⟩
  | false =>
    have HM0 := Lib.hid hm
    clear hm
    have hrl := runTo_le gs 8 (Nat.le_refl _)
    obtain ⟨⟨A, M⟩, hAM⟩ : ∃ p, runB gs = p := ⟨_, rfl⟩
    rw [hAM] at HRn
    have hAM2 : A + M ≤ 8 := by
      have e : runTo gs 8 = (A, M) := hAM
      rw [e] at hrl
      exact hrl
    have HAM := Lib.hid hAM
    clear hrl hAM
    go_wp2_with fail
    refine (HRn.out _).mono ?_
    rintro e w2 ⟨rfl, hb2⟩
    have hA2 := HA.out.below hb2
    have b2 := chain b1 hb2
    have HT2 := Lib.hid (HT.out.below b2)
    clear c0 c1 c2 c3 c4 c5 c6 c7 HA
    obtain ⟨c0, c1, c2, c3, c4, c5, c6, c7⟩ := hA2.all
    have HA2 := Lib.hid hA2
    clear hA2
    unfold runRet
    by_cases hM : M = 0
    · have HP : Hid (printB gs = rowS ((gs.drop 0).take (8 - 0))) := Lib.hid (by unfold printB; rw [HM0.out, HAM.out]; simp [hM]; rw [List.take_of_length_le (by rw [H8.out]; exact Nat.le_refl _)])
      have hMb : ((M : Int) == 0) = true := by simp; omega
      clear hM
      go_wp2_with fail
      have HQ := Lib.hid (printed_any gs 0 8 w2 H8.out HLT.out (by decide) (by decide) HT2.out.bru)
      rw [HV.out] at HQ
      refine HQ.out.mono ?_
      rintro e w3 ⟨rfl, hb3⟩
      go_wp2_with fail
      go_ret
      exact ⟨by rw [HP.out]; rfl, chain b2 hb3⟩
    · have HP : Hid (printB gs = rowS (gs.take A) ++ ofL [58, 58] ++ rowS (gs.drop (A + M))) := Lib.hid (by unfold printB; rw [HM0.out, HAM.out]; simp [hM])
      have hMb : ((M : Int) == 0) = false := by simp; omega
      obtain ⟨K, hK, eK⟩ : ∃ K : Nat, A + M = K ∧ (A : Int) + (M : Int) = (K : Int) := ⟨_, rfl, by omega⟩
      have hK8 : K ≤ 8 := by omega
      have hA8 : A ≤ 8 := by omega
      rw [hK] at HP
      clear hM hK hAM2
      have kw : IntKind.i64.wrap (K : Int) = (K : Int) := by rw [IntKind.wrap_i64]; omega
      obtain ⟨X, hX⟩ : ∃ X, rowS (gs.take A) = X := ⟨_, rfl⟩
      obtain ⟨Y, hY⟩ : ∃ Y, rowS (gs.drop K) = Y := ⟨_, rfl⟩
      have hXz : X.size ≤ 40 := by
        rw [← hX]
        have h1 := rowS_small (gs.take A) (fun x hx => HLT.out x (List.mem_of_mem_take hx))
        have h2 : (gs.take A).length ≤ 8 := by simp; omega
        omega
      have hYz : Y.size ≤ 40 := by
        rw [← hY]
        have h1 := rowS_small (gs.drop K) (fun x hx => HLT.out x (List.mem_of_mem_drop hx))
        have h2 : (gs.drop K).length ≤ 8 := by have := H8.out; simp; omega
        omega
      rw [hX, hY] at HP
      have F1 : Hid (PartFact gs 0 (A : Int) X) := Lib.hid ⟨0, A, rfl, rfl, H8.out, HLT.out, Nat.zero_le _, hA8, by rw [List.drop_zero, Nat.sub_zero]; exact hX⟩
      have F2 : Hid (PartFact gs (K : Int) 8 Y) := Lib.hid ⟨K, 8, rfl, rfl, H8.out, HLT.out, hK8, Nat.le_refl _, by rw [List.take_of_length_le (by have := H8.out; simp; omega)]; exact hY⟩
      have hA3 : Hid (Tabs w2.drew ∧ Below w.heap.size w w2.drew ∧ Arr8 w2.drew w.heap.size [x0, x1, x2, x3, x4, x5, x6, x7]) := Lib.hid ⟨HT2.out.below (Below.refl _ _).drew, b2.drew, HA2.out.below (Below.refl _ _).drew⟩
      clear hX hY
      go_wp2_with fail
      go_region_with (first
        | (go_at_call 63; refine (part_held (gs := gs) (hs := [x0, x1, x2, x3, x4, x5, x6, x7]) (B := w.heap.size) _ _ _ _ _ _ (by with_reducible assumption) (by with_reducible assumption) (by with_reducible assumption)).mono ?_; rintro e w3 ⟨rfl, hA4⟩; obtain ⟨k0, k1, k2, k3, k4, k5, k6, k7⟩ := hA4.out.2.2.all))
      all_goals
        go_wp2_with fail
        go_ret
        exact ⟨str_ret (by rw [HP.out]; rfl), hA4.out.2.1⟩
end Go.Proofs.YtickghbjhiegnaaDoor
