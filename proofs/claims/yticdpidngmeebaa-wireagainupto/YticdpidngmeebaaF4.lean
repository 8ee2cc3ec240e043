/- Texts that belong together, one behind the other: RefAddrOf, RefAddrMap, RefAddrGood, RefAddrCompare, AddrCompare, AddrGood, Parts, Loose, DecParts, RefPrints, WirAddr, LabOwn, WirMay, WirRecs, WirMayM, LabWr, LabWrOps, LabNote. -/
import Derived.Test.YticdpidngmeebaaF3
import Derived.Deep.Cut
import Derived.Lib.BytesEntry
import Derived.Lib.Bytealg
import Derived.Deep.QuietTactic
import Derived.BigQuiet
import Derived.Maps.OwnSet
import Derived.WalkArith
import Derived.Lib.SliceRun
/- Contracts of the reference's Of4 and Of6 of layer 4. -/
namespace Go.Proofs.Yticdpidngmeebaa
open Go.RowKit
set_option linter.unusedVariables false
set_option maxRecDepth 20000

/-- Eight groups in a block (where the dump holds 92). -/
theorem Arr8.of8 (w : World) (t : TypeId) (x0 x1 x2 x3 x4 x5 x6 x7 : Nat) : Arr8 (w.alloc (.cells #[.int .u16 (x0 : Int), .int .u16 (x1 : Int), .int .u16 (x2 : Int), .int .u16 (x3 : Int), .int .u16 (x4 : Int), .int .u16 (x5 : Int), .int .u16 (x6 : Int), .int .u16 (x7 : Int)] t)) w.heap.size [x0, x1, x2, x3, x4, x5, x6, x7] := by
  refine ⟨rfl, by simp, ?_, fun j _ => World.frozen?_alloc_new _ _ _ _⟩
  intro j hj
  have : j = 0 ∨ j = 1 ∨ j = 2 ∨ j = 3 ∨ j = 4 ∨ j = 5 ∨ j = 6 ∨ j = 7 := by omega
  rcases this with rfl | rfl | rfl | rfl | rfl | rfl | rfl | rfl <;> simp [World.cell?_alloc_new]

/-- What Of4 has laid behind k rounds. -/
def lo4 (n : Nat) : Nat → List Nat
  | 0 => List.replicate 16 0
  | k + 1 => (lo4 n k).set (3 - k) (n / 256 ^ k % 256)
def b4 (n : Nat) : List Nat := lo4 n 4
theorem b4_eq (n : Nat) : b4 n = [n / 16777216 % 256, n / 65536 % 256, n / 256 % 256, n % 256, 0, 0, 0, 0, 0, 0, 0, 0, 0, 0, 0, 0] := by
  simp [b4, lo4]
theorem b4_len (n : Nat) : (b4 n).length = 16 := by rw [b4_eq]; rfl
theorem zero_addr (f : Int) : (#[.int .i64 f, .int .u8 0, .int .u8 0, .int .u8 0, .int .u8 0, .int .u8 0, .int .u8 0, .int .u8 0, .int .u8 0, .int .u8 0, .int .u8 0, .int .u8 0, .int .u8 0, .int .u8 0, .int .u8 0, .int .u8 0, .int .u8 0] : Array Value).toList = Value.int .i64 f :: (List.replicate 16 0).map fun n => Value.int .u8 ((n : Nat) : Int) := rfl
set_option maxRecDepth 100000 in
set_option maxHeartbeats 2000000 in
theorem refOf4_any (n : Nat) (w : World) (hn : n ≤ 4294967295) :
    Calls Try.prog 75 #[.int .u32 (n : Int)] w fun e w' => e = .returned (addrV 4 (b4 n)) ∧ Below w.heap.size w w' := by
  have hR := AddrAt.of w 40 #[.int .i64 0, .int .u8 0, .int .u8 0, .int .u8 0, .int .u8 0, .int .u8 0, .int .u8 0, .int .u8 0, .int .u8 0, .int .u8 0, .int .u8 0, .int .u8 0, .int .u8 0, .int .u8 0, .int .u8 0, .int .u8 0, .int .u8 0] 0 (List.replicate 16 0) rfl (zero_addr 0)
  have hP := AddrAt.of (w.alloc (.cells #[.int .i64 0, .int .u8 0, .int .u8 0, .int .u8 0, .int .u8 0, .int .u8 0, .int .u8 0, .int .u8 0, .int .u8 0, .int .u8 0, .int .u8 0, .int .u8 0, .int .u8 0, .int .u8 0, .int .u8 0, .int .u8 0, .int .u8 0] 40)) 40 #[.int .i64 4, .int .u8 0, .int .u8 0, .int .u8 0, .int .u8 0, .int .u8 0, .int .u8 0, .int .u8 0, .int .u8 0, .int .u8 0, .int .u8 0, .int .u8 0, .int .u8 0, .int .u8 0, .int .u8 0, .int .u8 0, .int .u8 0] 4 (List.replicate 16 0) rfl (zero_addr 4)
  have b1 : Below w.heap.size w (w.alloc (.cells #[.int .i64 0, .int .u8 0, .int .u8 0, .int .u8 0, .int .u8 0, .int .u8 0, .int .u8 0, .int .u8 0, .int .u8 0, .int .u8 0, .int .u8 0, .int .u8 0, .int .u8 0, .int .u8 0, .int .u8 0, .int .u8 0, .int .u8 0] 40)) := (Below.refl _ _).alloc (Nat.le_refl _) _
  have b2 := b1.alloc b1.size (.cells #[.int .i64 4, .int .u8 0, .int .u8 0, .int .u8 0, .int .u8 0, .int .u8 0, .int .u8 0, .int .u8 0, .int .u8 0, .int .u8 0, .int .u8 0, .int .u8 0, .int .u8 0, .int .u8 0, .int .u8 0, .int .u8 0, .int .u8 0] 40)
  have hR2 := hR.below ((Below.refl _ _).alloc (Nat.le_refl _) (.cells #[.int .i64 4, .int .u8 0, .int .u8 0, .int .u8 0, .int .u8 0, .int .u8 0, .int .u8 0, .int .u8 0, .int .u8 0, .int .u8 0, .int .u8 0, .int .u8 0, .int .u8 0, .int .u8 0, .int .u8 0, .int .u8 0, .int .u8 0] 40))
  have e1 : (w.alloc (.cells #[.int .i64 0, .int .u8 0, .int .u8 0, .int .u8 0, .int .u8 0, .int .u8 0, .int .u8 0, .int .u8 0, .int .u8 0, .int .u8 0, .int .u8 0, .int .u8 0, .int .u8 0, .int .u8 0, .int .u8 0, .int .u8 0, .int .u8 0] 40)).heap.size = w.heap.size + 1 := by simp
  rw [e1] at hP
  clear hR b1
  go_enter Try.func75, Try.ntmps75
  go_wp2_with fail
  generalize ((w.alloc (.cells #[.int .i64 0, .int .u8 0, .int .u8 0, .int .u8 0, .int .u8 0, .int .u8 0, .int .u8 0, .int .u8 0, .int .u8 0, .int .u8 0, .int .u8 0, .int .u8 0, .int .u8 0, .int .u8 0, .int .u8 0, .int .u8 0, .int .u8 0] 40)).alloc (.cells #[.int .i64 4, .int .u8 0, .int .u8 0, .int .u8 0, .int .u8 0, .int .u8 0, .int .u8 0, .int .u8 0, .int .u8 0, .int .u8 0, .int .u8 0, .int .u8 0, .int .u8 0, .int .u8 0, .int .u8 0, .int .u8 0, .int .u8 0] 40)) = W at *
  clear e1
  have HR := Lib.hid hR2
  have HP := Lib.hid hP
  clear hR2 hP
  go_loopw [0, 4] (fun t i wr => ∃ (k X : Nat) (l : List Nat), k ≤ 4 ∧ i = .int .i64 ((3 : Int) - (k : Int)) ∧ t = .int .u32 (X : Int) ∧ X ≤ 4294967295 ∧ Hid (X = n / 256 ^ k) ∧ Hid (AddrAt wr w.heap.size 0 (List.replicate 16 0)) ∧ Hid (AddrAt wr (w.heap.size + 1) 4 l) ∧ Hid (l = lo4 n k) ∧ Below w.heap.size w wr) (fun _ i _ => ((intOf i) + 1).toNat)
  case atStart => exact ⟨0, n, _, by decide, rfl, rfl, hn, Lib.hid (by simp), HR, HP, Lib.hid rfl, b2⟩
  case round =>
    obtain ⟨k, X, l, hk, rfl, rfl, hX, HX, HR2, HP2, HL, hbel⟩ := hrel
    by_cases hk4 : k < 4
    · obtain ⟨j, hj, ej⟩ : ∃ j : Nat, 3 - k = j ∧ (3 : Int) - (k : Int) = (j : Int) := ⟨_, rfl, by omega⟩
      have hp0 := HP2.out.cells j (by omega)
      have hl0 := HP2.out.live (1 + j) (by omega)
      obtain ⟨m, hm, em⟩ : ∃ m : Nat, X % 256 = m ∧ (X : Int) % 256 = (m : Int) := ⟨_, rfl, by omega⟩
      have wm : IntKind.u8.wrap (m : Int) = (m : Int) := by rw [IntKind.wrap_u8]; omega
      have hj16 : (j : Int) < 16 := by omega
      have HS := Lib.hid (HP2.out.set (i := j) (by omega) m)
      have HE : Hid (l.set j m = lo4 n (k + 1)) := Lib.hid (by rw [HL.out, lo4, hj, ← hm, HX.out])
      have HX2 : Hid (X / 256 = n / 256 ^ (k + 1)) := Lib.hid (by rw [HX.out, Nat.pow_succ, Nat.div_div_eq_div_mul])
      have hjk : j + k = 3 := by omega
      generalize l.getD j 0 = o0 at hp0
      clear hj hm
      go_wp2_with fail
      go_roundw
      case rel => exact ⟨k + 1, X / 256, l.set j m, by omega, by congr 1; omega, by first | rfl | (congr 1; omega), by omega, HX2, Lib.hid (HR2.out.other (by omega) _), HS, HE, hbel.setCell (p := ⟨w.heap.size + 1, 1 + j, none⟩) (by show w.heap.size ≤ w.heap.size + 1; omega) _⟩
      case measure => simp [intOf]; omega
    · obtain rfl : k = 4 := by omega
      have hll : l = b4 n := HL.out
      subst hll
      have HLN : Hid ((b4 n).length = 16) := Lib.hid HP2.out.len
      go_wp2_with (first | refine load_addr HP2 _ rfl rfl rfl ?_ | (refine store_addr HR2 _ _ HLN rfl rfl rfl rfl (fun W HW HA => ?_)))
      refine bodyPost_ret (v := addrV 4 (b4 n)) (results_addr Try.results75 rfl HA.out) rfl ⟨rfl, by rw [HW.out]; exact below_cells (by omega) _ _ _ hbel⟩

set_option maxRecDepth 100000 in
set_option maxHeartbeats 2000000 in
theorem refOf6_any (gs : List Nat) (w : World) (h8 : gs.length = 8) (hlt : ∀ x ∈ gs, x < 65536) :
    Calls Try.prog 92 #[arr8 gs] w fun e w' => e = .returned (addrV 6 (byL gs)) ∧ Below w.heap.size w w' := by
  obtain ⟨x0, x1, x2, x3, x4, x5, x6, x7, hgs⟩ := list8 gs h8
  have ha : arr8 gs = .agg #[.int .u16 (x0 : Int), .int .u16 (x1 : Int), .int .u16 (x2 : Int), .int .u16 (x3 : Int), .int .u16 (x4 : Int), .int .u16 (x5 : Int), .int .u16 (x6 : Int), .int .u16 (x7 : Int)] := by rw [hgs]; rfl
  have hA := Arr8.of8 w 140 x0 x1 x2 x3 x4 x5 x6 x7
  rw [← hgs] at hA
  have b1 : Below w.heap.size w (w.alloc (.cells #[.int .u16 (x0 : Int), .int .u16 (x1 : Int), .int .u16 (x2 : Int), .int .u16 (x3 : Int), .int .u16 (x4 : Int), .int .u16 (x5 : Int), .int .u16 (x6 : Int), .int .u16 (x7 : Int)] 140)) := (Below.refl _ _).alloc (Nat.le_refl _) _
  have b2 := b1.alloc b1.size (.cells #[.int .i64 0, .int .u8 0, .int .u8 0, .int .u8 0, .int .u8 0, .int .u8 0, .int .u8 0, .int .u8 0, .int .u8 0, .int .u8 0, .int .u8 0, .int .u8 0, .int .u8 0, .int .u8 0, .int .u8 0, .int .u8 0, .int .u8 0] 40)
  have b3 := b2.alloc b2.size (.cells #[.int .i64 6, .int .u8 0, .int .u8 0, .int .u8 0, .int .u8 0, .int .u8 0, .int .u8 0, .int .u8 0, .int .u8 0, .int .u8 0, .int .u8 0, .int .u8 0, .int .u8 0, .int .u8 0, .int .u8 0, .int .u8 0, .int .u8 0] 40)
  have hR := AddrAt.of (w.alloc (.cells #[.int .u16 (x0 : Int), .int .u16 (x1 : Int), .int .u16 (x2 : Int), .int .u16 (x3 : Int), .int .u16 (x4 : Int), .int .u16 (x5 : Int), .int .u16 (x6 : Int), .int .u16 (x7 : Int)] 140)) 40 #[.int .i64 0, .int .u8 0, .int .u8 0, .int .u8 0, .int .u8 0, .int .u8 0, .int .u8 0, .int .u8 0, .int .u8 0, .int .u8 0, .int .u8 0, .int .u8 0, .int .u8 0, .int .u8 0, .int .u8 0, .int .u8 0, .int .u8 0] 0 (List.replicate 16 0) rfl (zero_addr 0)
  have hP := AddrAt.of ((w.alloc (.cells #[.int .u16 (x0 : Int), .int .u16 (x1 : Int), .int .u16 (x2 : Int), .int .u16 (x3 : Int), .int .u16 (x4 : Int), .int .u16 (x5 : Int), .int .u16 (x6 : Int), .int .u16 (x7 : Int)] 140)).alloc (.cells #[.int .i64 0, .int .u8 0, .int .u8 0, .int .u8 0, .int .u8 0, .int .u8 0, .int .u8 0, .int .u8 0, .int .u8 0, .int .u8 0, .int .u8 0, .int .u8 0, .int .u8 0, .int .u8 0, .int .u8 0, .int .u8 0, .int .u8 0] 40)) 40 #[.int .i64 6, .int .u8 0, .int .u8 0, .int .u8 0, .int .u8 0, .int .u8 0, .int .u8 0, .int .u8 0, .int .u8 0, .int .u8 0, .int .u8 0, .int .u8 0, .int .u8 0, .int .u8 0, .int .u8 0, .int .u8 0, .int .u8 0] 6 (List.replicate 16 0) rfl (zero_addr 6)
  have hA2 := (hA.below ((Below.refl _ _).alloc (Nat.le_refl _) (.cells #[.int .i64 0, .int .u8 0, .int .u8 0, .int .u8 0, .int .u8 0, .int .u8 0, .int .u8 0, .int .u8 0, .int .u8 0, .int .u8 0, .int .u8 0, .int .u8 0, .int .u8 0, .int .u8 0, .int .u8 0, .int .u8 0, .int .u8 0] 40))).below ((Below.refl _ _).alloc (Nat.le_refl _) (.cells #[.int .i64 6, .int .u8 0, .int .u8 0, .int .u8 0, .int .u8 0, .int .u8 0, .int .u8 0, .int .u8 0, .int .u8 0, .int .u8 0, .int .u8 0, .int .u8 0, .int .u8 0, .int .u8 0, .int .u8 0, .int .u8 0, .int .u8 0] 40))
  have hR2 := hR.below ((Below.refl _ _).alloc (Nat.le_refl _) (.cells #[.int .i64 6, .int .u8 0, .int .u8 0, .int .u8 0, .int .u8 0, .int .u8 0, .int .u8 0, .int .u8 0, .int .u8 0, .int .u8 0, .int .u8 0, .int .u8 0, .int .u8 0, .int .u8 0, .int .u8 0, .int .u8 0, .int .u8 0] 40))
  have e1 : (w.alloc (.cells #[.int .u16 (x0 : Int), .int .u16 (x1 : Int), .int .u16 (x2 : Int), .int .u16 (x3 : Int), .int .u16 (x4 : Int), .int .u16 (x5 : Int), .int .u16 (x6 : Int), .int .u16 (x7 : Int)] 140)).heap.size = w.heap.size + 1 := by simp
  have e2 : ((w.alloc (.cells #[.int .u16 (x0 : Int), .int .u16 (x1 : Int), .int .u16 (x2 : Int), .int .u16 (x3 : Int), .int .u16 (x4 : Int), .int .u16 (x5 : Int), .int .u16 (x6 : Int), .int .u16 (x7 : Int)] 140)).alloc (.cells #[.int .i64 0, .int .u8 0, .int .u8 0, .int .u8 0, .int .u8 0, .int .u8 0, .int .u8 0, .int .u8 0, .int .u8 0, .int .u8 0, .int .u8 0, .int .u8 0, .int .u8 0, .int .u8 0, .int .u8 0, .int .u8 0, .int .u8 0] 40)).heap.size = w.heap.size + 1 + 1 := by simp
  rw [e1] at hR2
  rw [e2] at hP
  rw [ha]
  have H8 := Lib.hid h8
  have HLT := Lib.hid hlt
  clear ha hgs h8 hlt hA hR b1 b2
  go_enter Try.func92, Try.ntmps92
  go_wp2_with fail
  generalize (((w.alloc (.cells #[.int .u16 (x0 : Int), .int .u16 (x1 : Int), .int .u16 (x2 : Int), .int .u16 (x3 : Int), .int .u16 (x4 : Int), .int .u16 (x5 : Int), .int .u16 (x6 : Int), .int .u16 (x7 : Int)] 140)).alloc (.cells #[.int .i64 0, .int .u8 0, .int .u8 0, .int .u8 0, .int .u8 0, .int .u8 0, .int .u8 0, .int .u8 0, .int .u8 0, .int .u8 0, .int .u8 0, .int .u8 0, .int .u8 0, .int .u8 0, .int .u8 0, .int .u8 0, .int .u8 0] 40)).alloc (.cells #[.int .i64 6, .int .u8 0, .int .u8 0, .int .u8 0, .int .u8 0, .int .u8 0, .int .u8 0, .int .u8 0, .int .u8 0, .int .u8 0, .int .u8 0, .int .u8 0, .int .u8 0, .int .u8 0, .int .u8 0, .int .u8 0, .int .u8 0] 40)) = W at *
  clear e1 e2
  have HA := Lib.hid hA2
  have HR := Lib.hid hR2
  have HP := Lib.hid hP
  clear hA2 hR2 hP
  go_loopw [4] (fun i wr => ∃ (k : Nat) (l : List Nat), k ≤ 8 ∧ i = .int .i64 k ∧ Hid (Arr8 wr w.heap.size gs) ∧ Hid (AddrAt wr (w.heap.size + 1) 0 (List.replicate 16 0)) ∧ Hid (AddrAt wr (w.heap.size + 1 + 1) 6 l) ∧ Hid (l = byL (gs.take k) ++ List.replicate (16 - 2 * k) 0) ∧ Below w.heap.size w wr) (fun i _ => 8 - (intOf i).toNat)
  case atStart => exact ⟨0, _, by decide, rfl, HA, HR, HP, Lib.hid rfl, b3⟩
  case round =>
    obtain ⟨k, l, hk, rfl, HA2, HR2, HP2, HL, hbel⟩ := hrel
    by_cases hk8 : k < 8
    · have hcell := HA2.out.cells k hk8
      have hx : gs.getD k 0 < 65536 := by
        rw [List.getD_eq_getElem?_getD, List.getElem?_eq_getElem (by rw [H8.out]; exact hk8)]
        exact HLT.out _ (List.getElem_mem _)
      have et : gs.take (k + 1) = gs.take k ++ [gs.getD k 0] := by
        rw [List.take_add_one, List.getD_eq_getElem?_getD, List.getElem?_eq_getElem (by rw [H8.out]; exact hk8)]; rfl
      obtain ⟨x, ex⟩ : ∃ x, gs.getD k 0 = x := ⟨_, rfl⟩
      rw [ex] at hcell hx et
      obtain ⟨c, hc, ec⟩ : ∃ c : Nat, 2 * k = c ∧ (2 : Int) * (k : Int) = (c : Int) := ⟨_, rfl, by omega⟩
      obtain ⟨hi, hhi, ehi⟩ : ∃ hi : Nat, x / 256 = hi ∧ (x : Int) / 256 = (hi : Int) := ⟨_, rfl, by omega⟩
      obtain ⟨lo, hlo, elo⟩ : ∃ lo : Nat, x % 256 = lo ∧ (x : Int) % 256 = (lo : Int) := ⟨_, rfl, by omega⟩
      have whi : IntKind.u8.wrap (hi : Int) = (hi : Int) := by rw [IntKind.wrap_u8]; omega
      have wlo : IntKind.u8.wrap (lo : Int) = (lo : Int) := by rw [IntKind.wrap_u8]; omega
      have hc15 : c + 1 < 16 := by omega
      have c1 : (c : Int) < 16 := by omega
      have c2 : (c : Int) + 1 < 16 := by omega
      have k1 : (k : Int) < 8 := by omega
      have hp0 := HP2.out.cells c (by omega)
      have hl0 := HP2.out.live (1 + c) (by omega)
      have hcell2 := (HA2.out.other (B' := w.heap.size + 1 + 1) (k := 1 + c) (by omega) (.int .u8 (hi : Int))).cells k hk8
      rw [ex] at hcell2
      have HP3 := Lib.hid (HP2.out.set (i := c) (by omega) hi)
      have hp1 := HP3.out.cells (c + 1) (by omega)
      have hl1 := HP3.out.live (1 + (c + 1)) (by omega)
      have HS := Lib.hid (HP3.out.set (i := c + 1) (by omega) lo)
      have HE : Hid (((l.set c hi).set (c + 1) lo) = byL (gs.take (k + 1)) ++ List.replicate (16 - 2 * (k + 1)) 0) := Lib.hid (by
        rw [HL.out, et, byL_snoc, ← hc, ← hhi, ← hlo]
        exact set_two _ k _ _ hk8 (by rw [byL_len, List.length_take, H8.out]; omega))
      generalize l.getD c 0 = o0 at hp0
      generalize (l.set c hi).getD (c + 1) 0 = o1 at hp1
      clear ex et hc hhi hlo
      go_wp2_with fail
      go_roundw
      case rel => exact ⟨k + 1, (l.set c hi).set (c + 1) lo, by omega, by go_num, Lib.hid ((HA2.out.other (by omega) _).other (by omega) _), Lib.hid ((HR2.out.other (by omega) _).other (by omega) _), HS, HE, (hbel.setCell (p := ⟨w.heap.size + 1 + 1, 1 + c, none⟩) (by show w.heap.size ≤ w.heap.size + 1 + 1; omega) _).setCell (p := ⟨w.heap.size + 1 + 1, 1 + (c + 1), none⟩) (by show w.heap.size ≤ w.heap.size + 1 + 1; omega) _⟩
      case measure => simp [intOf]; omega
    · obtain rfl : k = 8 := by omega
      have hll : l = byL gs := by rw [HL.out, List.take_of_length_le (by rw [H8.out]; exact Nat.le_refl _)]; simp
      subst hll
      have HLN : Hid ((byL gs).length = 16) := Lib.hid HP2.out.len
      go_wp2_with (first | refine load_addr HP2 _ rfl rfl rfl ?_ | (refine store_addr HR2 _ _ HLN rfl rfl rfl rfl (fun W HW HA => ?_)))
      refine bodyPost_ret (v := addrV 6 (byL gs)) (results_addr Try.results92 rfl HA.out) rfl ⟨rfl, by rw [HW.out]; exact below_cells (by omega) _ _ _ hbel⟩
end Go.Proofs.Yticdpidngmeebaa
/- Contracts of the reference's Map, Unmap, Good of layer 4. -/
namespace Go.Proofs.Yticdpidngmeebaa
open Go.RowKit
set_option linter.unusedVariables false
set_option maxRecDepth 20000

/-- The groups of a mapped one. -/
def map8 (n : Nat) : List Nat := [0, 0, 0, 0, 0, 65535, n / 65536, n % 65536]
theorem map8_lt (n : Nat) (h : n ≤ 4294967295) : ∀ x ∈ map8 n, x < 65536 := by
  intro x hx
  simp [map8] at hx
  omega
def mapF (f : Int) : Int := if f = 4 then 6 else f
def mapB (f : Int) (bs : List Nat) : List Nat := if f = 4 then byL (map8 (fourB bs)) else bs
theorem fourB_le (bs : List Nat) (h : ∀ x ∈ bs, x < 256) : fourB bs ≤ 4294967295 := Nat.le_of_lt_succ (fourTo_lt bs h 4)
set_option maxRecDepth 100000 in
set_option maxHeartbeats 1000000 in
theorem refMap_any (f : Int) (bs : List Nat) (w : World) (h16 : bs.length = 16) (hlt : ∀ x ∈ bs, x < 256) :
    Calls Try.prog 77 #[addrV f bs] w fun e w' => e = .returned (addrV (mapF f) (mapB f bs)) ∧ Below w.heap.size w w' := by
  have HLT := Lib.hid hlt
  have H16 := Lib.hid h16
  obtain ⟨y0, y1, y2, y3, y4, y5, y6, y7, y8, y9, y10, y11, y12, y13, y14, y15, hbs⟩ := list16 bs h16
  have ha : addrV f bs = .agg #[.int .i64 f, .int .u8 (y0 : Int), .int .u8 (y1 : Int), .int .u8 (y2 : Int), .int .u8 (y3 : Int), .int .u8 (y4 : Int), .int .u8 (y5 : Int), .int .u8 (y6 : Int), .int .u8 (y7 : Int), .int .u8 (y8 : Int), .int .u8 (y9 : Int), .int .u8 (y10 : Int), .int .u8 (y11 : Int), .int .u8 (y12 : Int), .int .u8 (y13 : Int), .int .u8 (y14 : Int), .int .u8 (y15 : Int)] := by rw [hbs]; rfl
  have HBS := Lib.hid hbs
  by_cases h4 : f = 4
  · subst h4
    rw [show mapF 4 = 6 from rfl, show mapB 4 bs = byL (map8 (fourB bs)) from rfl, ha]
    obtain ⟨n, hn⟩ : ∃ n, fourB bs = n := ⟨_, rfl⟩
    have hn2 := fourB_le bs hlt
    rw [hn] at hn2
    rw [hn]
    have HF := fun W => Lib.hid (refFour_any 4 bs W h16 hlt)
    have HO := fun W => Lib.hid (refOf6_any (map8 n) W rfl (map8_lt n hn2))
    rw [hn] at HF
    have hA := AddrAt.new w 40 4 y0 y1 y2 y3 y4 y5 y6 y7 y8 y9 y10 y11 y12 y13 y14 y15
    rw [← hbs] at hA
    have HP2 := Lib.hid (hA.below ((Below.refl _ _).alloc (Nat.le_refl _) (.cells #[.int .i64 0, .int .u8 0, .int .u8 0, .int .u8 0, .int .u8 0, .int .u8 0, .int .u8 0, .int .u8 0, .int .u8 0, .int .u8 0, .int .u8 0, .int .u8 0, .int .u8 0, .int .u8 0, .int .u8 0, .int .u8 0, .int .u8 0] 40)))
    have hR := AddrAt.of (w.alloc (.cells #[.int .i64 4, .int .u8 (y0 : Int), .int .u8 (y1 : Int), .int .u8 (y2 : Int), .int .u8 (y3 : Int), .int .u8 (y4 : Int), .int .u8 (y5 : Int), .int .u8 (y6 : Int), .int .u8 (y7 : Int), .int .u8 (y8 : Int), .int .u8 (y9 : Int), .int .u8 (y10 : Int), .int .u8 (y11 : Int), .int .u8 (y12 : Int), .int .u8 (y13 : Int), .int .u8 (y14 : Int), .int .u8 (y15 : Int)] 40)) 40 #[.int .i64 0, .int .u8 0, .int .u8 0, .int .u8 0, .int .u8 0, .int .u8 0, .int .u8 0, .int .u8 0, .int .u8 0, .int .u8 0, .int .u8 0, .int .u8 0, .int .u8 0, .int .u8 0, .int .u8 0, .int .u8 0, .int .u8 0] 0 (List.replicate 16 0) rfl (zero_addr 0)
    have b1 : Below w.heap.size w (w.alloc (.cells #[.int .i64 4, .int .u8 (y0 : Int), .int .u8 (y1 : Int), .int .u8 (y2 : Int), .int .u8 (y3 : Int), .int .u8 (y4 : Int), .int .u8 (y5 : Int), .int .u8 (y6 : Int), .int .u8 (y7 : Int), .int .u8 (y8 : Int), .int .u8 (y9 : Int), .int .u8 (y10 : Int), .int .u8 (y11 : Int), .int .u8 (y12 : Int), .int .u8 (y13 : Int), .int .u8 (y14 : Int), .int .u8 (y15 : Int)] 40)) := (Below.refl _ _).alloc (Nat.le_refl _) _
    have b2 := b1.alloc b1.size (.cells #[.int .i64 0, .int .u8 0, .int .u8 0, .int .u8 0, .int .u8 0, .int .u8 0, .int .u8 0, .int .u8 0, .int .u8 0, .int .u8 0, .int .u8 0, .int .u8 0, .int .u8 0, .int .u8 0, .int .u8 0, .int .u8 0, .int .u8 0] 40)
    have e1 : (w.alloc (.cells #[.int .i64 4, .int .u8 (y0 : Int), .int .u8 (y1 : Int), .int .u8 (y2 : Int), .int .u8 (y3 : Int), .int .u8 (y4 : Int), .int .u8 (y5 : Int), .int .u8 (y6 : Int), .int .u8 (y7 : Int), .int .u8 (y8 : Int), .int .u8 (y9 : Int), .int .u8 (y10 : Int), .int .u8 (y11 : Int), .int .u8 (y12 : Int), .int .u8 (y13 : Int), .int .u8 (y14 : Int), .int .u8 (y15 : Int)] 40)).heap.size = w.heap.size + 1 := by simp
    rw [e1] at hR
    have q1 : ((n / 65536 : Nat) : Int) = (n : Int) / 65536 := by omega
    have q2 : ((n % 65536 : Nat) : Int) = (n : Int) % 65536 := by omega
    have q3 : IntKind.u16.wrap ((n : Int) / 65536) = (n : Int) / 65536 := by rw [IntKind.wrap_u16]; omega
    have q4 : IntKind.u16.wrap ((n : Int) % 65536) = (n : Int) % 65536 := by rw [IntKind.wrap_u16]; omega
    have HQ := Lib.hid (show arr8 (map8 n) = .agg #[.int .u16 0, .int .u16 0, .int .u16 0, .int .u16 0, .int .u16 0, .int .u16 65535, .int .u16 ((n : Int) / 65536), .int .u16 ((n : Int) % 65536)] by rw [← q1, ← q2]; rfl)
    rw [HQ.out] at HO
    have HR := Lib.hid hR
    have HB := Lib.hid b2
    clear hn ha hbs h16 hlt hA hR b1 b2 q1 q2
    go_enter Try.func77, Try.ntmps77
    go_wp2_with (refine load_addr HP2 _ rfl rfl rfl ?_)
    generalize ((w.alloc (.cells #[.int .i64 4, .int .u8 (y0 : Int), .int .u8 (y1 : Int), .int .u8 (y2 : Int), .int .u8 (y3 : Int), .int .u8 (y4 : Int), .int .u8 (y5 : Int), .int .u8 (y6 : Int), .int .u8 (y7 : Int), .int .u8 (y8 : Int), .int .u8 (y9 : Int), .int .u8 (y10 : Int), .int .u8 (y11 : Int), .int .u8 (y12 : Int), .int .u8 (y13 : Int), .int .u8 (y14 : Int), .int .u8 (y15 : Int)] 40)).alloc (.cells #[.int .i64 0, .int .u8 0, .int .u8 0, .int .u8 0, .int .u8 0, .int .u8 0, .int .u8 0, .int .u8 0, .int .u8 0, .int .u8 0, .int .u8 0, .int .u8 0, .int .u8 0, .int .u8 0, .int .u8 0, .int .u8 0, .int .u8 0] 40)) = W at *
    clear e1
    refine (HF W).out.mono ?_
    rintro e w1 ⟨rfl, hb1⟩
    go_wp2_with fail
    refine (HO w1).out.mono ?_
    rintro e w2 ⟨rfl, hb2⟩
    have HR2 := Lib.hid ((HR.out.below hb1).below hb2)
    have hbel := chain (chain HB.out hb1) hb2
    have HLN : Hid ((byL (map8 n)).length = 16) := Lib.hid (by rw [byL_len]; rfl)
    clear HR HB hb1 hb2
    go_wp2_with (refine store_addr HR2 _ _ HLN rfl rfl rfl rfl (fun W HW HA => ?_))
    refine bodyPost_ret (v := addrV 6 (byL (map8 n))) (results_addr Try.results77 rfl HA.out) rfl ⟨rfl, by rw [HW.out]; exact below_cells (by omega) _ _ _ hbel⟩
  · rw [show mapF f = f from if_neg h4, show mapB f bs = bs from if_neg h4]
    have hA := AddrAt.new w 40 f y0 y1 y2 y3 y4 y5 y6 y7 y8 y9 y10 y11 y12 y13 y14 y15
    rw [← hbs] at hA
    have hR := AddrAt.of (w.alloc (.cells #[.int .i64 f, .int .u8 (y0 : Int), .int .u8 (y1 : Int), .int .u8 (y2 : Int), .int .u8 (y3 : Int), .int .u8 (y4 : Int), .int .u8 (y5 : Int), .int .u8 (y6 : Int), .int .u8 (y7 : Int), .int .u8 (y8 : Int), .int .u8 (y9 : Int), .int .u8 (y10 : Int), .int .u8 (y11 : Int), .int .u8 (y12 : Int), .int .u8 (y13 : Int), .int .u8 (y14 : Int), .int .u8 (y15 : Int)] 40)) 40 #[.int .i64 0, .int .u8 0, .int .u8 0, .int .u8 0, .int .u8 0, .int .u8 0, .int .u8 0, .int .u8 0, .int .u8 0, .int .u8 0, .int .u8 0, .int .u8 0, .int .u8 0, .int .u8 0, .int .u8 0, .int .u8 0, .int .u8 0] 0 (List.replicate 16 0) rfl (zero_addr 0)
    have b1 : Below w.heap.size w (w.alloc (.cells #[.int .i64 f, .int .u8 (y0 : Int), .int .u8 (y1 : Int), .int .u8 (y2 : Int), .int .u8 (y3 : Int), .int .u8 (y4 : Int), .int .u8 (y5 : Int), .int .u8 (y6 : Int), .int .u8 (y7 : Int), .int .u8 (y8 : Int), .int .u8 (y9 : Int), .int .u8 (y10 : Int), .int .u8 (y11 : Int), .int .u8 (y12 : Int), .int .u8 (y13 : Int), .int .u8 (y14 : Int), .int .u8 (y15 : Int)] 40)) := (Below.refl _ _).alloc (Nat.le_refl _) _
    have HB := Lib.hid (b1.alloc b1.size (.cells #[.int .i64 0, .int .u8 0, .int .u8 0, .int .u8 0, .int .u8 0, .int .u8 0, .int .u8 0, .int .u8 0, .int .u8 0, .int .u8 0, .int .u8 0, .int .u8 0, .int .u8 0, .int .u8 0, .int .u8 0, .int .u8 0, .int .u8 0] 40))
    have e1 : (w.alloc (.cells #[.int .i64 f, .int .u8 (y0 : Int), .int .u8 (y1 : Int), .int .u8 (y2 : Int), .int .u8 (y3 : Int), .int .u8 (y4 : Int), .int .u8 (y5 : Int), .int .u8 (y6 : Int), .int .u8 (y7 : Int), .int .u8 (y8 : Int), .int .u8 (y9 : Int), .int .u8 (y10 : Int), .int .u8 (y11 : Int), .int .u8 (y12 : Int), .int .u8 (y13 : Int), .int .u8 (y14 : Int), .int .u8 (y15 : Int)] 40)).heap.size = w.heap.size + 1 := by simp
    rw [e1] at hR
    have HP2 := Lib.hid (hA.below ((Below.refl _ _).alloc (Nat.le_refl _) (.cells #[.int .i64 0, .int .u8 0, .int .u8 0, .int .u8 0, .int .u8 0, .int .u8 0, .int .u8 0, .int .u8 0, .int .u8 0, .int .u8 0, .int .u8 0, .int .u8 0, .int .u8 0, .int .u8 0, .int .u8 0, .int .u8 0, .int .u8 0] 40)))
    have HR2 := Lib.hid hR
    have hfam := (hA.below ((Below.refl _ _).alloc (Nat.le_refl _) (.cells #[.int .i64 0, .int .u8 0, .int .u8 0, .int .u8 0, .int .u8 0, .int .u8 0, .int .u8 0, .int .u8 0, .int .u8 0, .int .u8 0, .int .u8 0, .int .u8 0, .int .u8 0, .int .u8 0, .int .u8 0, .int .u8 0, .int .u8 0] 40))).fam
    rw [show addrV f bs = .agg #[.int .i64 f, .int .u8 (y0 : Int), .int .u8 (y1 : Int), .int .u8 (y2 : Int), .int .u8 (y3 : Int), .int .u8 (y4 : Int), .int .u8 (y5 : Int), .int .u8 (y6 : Int), .int .u8 (y7 : Int), .int .u8 (y8 : Int), .int .u8 (y9 : Int), .int .u8 (y10 : Int), .int .u8 (y11 : Int), .int .u8 (y12 : Int), .int .u8 (y13 : Int), .int .u8 (y14 : Int), .int .u8 (y15 : Int)] from ha]
    go_enter Try.func77, Try.ntmps77
    clear hR hA b1 ha hbs h16 hlt hfam
    go_upto_if 6 with fail
    generalize ((w.alloc (.cells #[.int .i64 f, .int .u8 (y0 : Int), .int .u8 (y1 : Int), .int .u8 (y2 : Int), .int .u8 (y3 : Int), .int .u8 (y4 : Int), .int .u8 (y5 : Int), .int .u8 (y6 : Int), .int .u8 (y7 : Int), .int .u8 (y8 : Int), .int .u8 (y9 : Int), .int .u8 (y10 : Int), .int .u8 (y11 : Int), .int .u8 (y12 : Int), .int .u8 (y13 : Int), .int .u8 (y14 : Int), .int .u8 (y15 : Int)] 40)).alloc (.cells #[.int .i64 0, .int .u8 0, .int .u8 0, .int .u8 0, .int .u8 0, .int .u8 0, .int .u8 0, .int .u8 0, .int .u8 0, .int .u8 0, .int .u8 0, .int .u8 0, .int .u8 0, .int .u8 0, .int .u8 0, .int .u8 0, .int .u8 0] 40)) = W at *
    clear e1
    go_wp2_with (first | refine load_addr HP2 _ rfl rfl rfl ?_ | (refine store_addr HR2 _ _ H16 rfl rfl rfl rfl (fun W HW HA => ?_)))
    refine bodyPost_ret (v := addrV f bs) (results_addr Try.results77 rfl HA.out) rfl ⟨?_, by rw [HW.out]; exact below_cells (by omega) _ _ _ HB.out⟩
    rw [HBS.out]; rfl
end Go.Proofs.Yticdpidngmeebaa
/- Contract of the reference's Good of layer 4. -/
namespace Go.Proofs.Yticdpidngmeebaa
open Go.RowKit
set_option linter.unusedVariables false
set_option maxRecDepth 20000

def goodF (f : Int) : Int := if f.tmod 2 = 0 then 4 else 6
def goodB (f : Int) (bs : List Nat) : List Nat := if f.tmod 2 = 0 then b4 (fourB bs) else bs
theorem tmod_two (f : Int) : f.tmod 2 = 0 ∨ f.tmod 2 = 1 ∨ f.tmod 2 = -1 := by have := Int.tmod_two_eq f; omega
set_option maxRecDepth 100000 in
set_option maxHeartbeats 1000000 in
theorem refGood_any (f : Int) (bs : List Nat) (w : World) (h16 : bs.length = 16) (hlt : ∀ x ∈ bs, x < 256) :
    Calls Try.prog 74 #[addrV f bs] w fun e w' => e = .returned (addrV (goodF f) (goodB f bs)) ∧ Below w.heap.size w w' := by
  have H16 := Lib.hid h16
  have HF := fun W => Lib.hid (refFour_any f bs W h16 hlt)
  have HO := fun W => Lib.hid (refOf4_any (fourB bs) W (fourB_le bs hlt))
  obtain ⟨y0, y1, y2, y3, y4, y5, y6, y7, y8, y9, y10, y11, y12, y13, y14, y15, hbs⟩ := list16 bs h16
  have ha : addrV f bs = .agg #[.int .i64 f, .int .u8 (y0 : Int), .int .u8 (y1 : Int), .int .u8 (y2 : Int), .int .u8 (y3 : Int), .int .u8 (y4 : Int), .int .u8 (y5 : Int), .int .u8 (y6 : Int), .int .u8 (y7 : Int), .int .u8 (y8 : Int), .int .u8 (y9 : Int), .int .u8 (y10 : Int), .int .u8 (y11 : Int), .int .u8 (y12 : Int), .int .u8 (y13 : Int), .int .u8 (y14 : Int), .int .u8 (y15 : Int)] := by rw [hbs]; rfl
  have hA := AddrAt.new w 40 f y0 y1 y2 y3 y4 y5 y6 y7 y8 y9 y10 y11 y12 y13 y14 y15
  rw [← hbs] at hA
  have hR := AddrAt.of (w.alloc (.cells #[.int .i64 f, .int .u8 (y0 : Int), .int .u8 (y1 : Int), .int .u8 (y2 : Int), .int .u8 (y3 : Int), .int .u8 (y4 : Int), .int .u8 (y5 : Int), .int .u8 (y6 : Int), .int .u8 (y7 : Int), .int .u8 (y8 : Int), .int .u8 (y9 : Int), .int .u8 (y10 : Int), .int .u8 (y11 : Int), .int .u8 (y12 : Int), .int .u8 (y13 : Int), .int .u8 (y14 : Int), .int .u8 (y15 : Int)] 40)) 40 #[.int .i64 0, .int .u8 0, .int .u8 0, .int .u8 0, .int .u8 0, .int .u8 0, .int .u8 0, .int .u8 0, .int .u8 0, .int .u8 0, .int .u8 0, .int .u8 0, .int .u8 0, .int .u8 0, .int .u8 0, .int .u8 0, .int .u8 0] 0 (List.replicate 16 0) rfl (zero_addr 0)
  have b1 : Below w.heap.size w (w.alloc (.cells #[.int .i64 f, .int .u8 (y0 : Int), .int .u8 (y1 : Int), .int .u8 (y2 : Int), .int .u8 (y3 : Int), .int .u8 (y4 : Int), .int .u8 (y5 : Int), .int .u8 (y6 : Int), .int .u8 (y7 : Int), .int .u8 (y8 : Int), .int .u8 (y9 : Int), .int .u8 (y10 : Int), .int .u8 (y11 : Int), .int .u8 (y12 : Int), .int .u8 (y13 : Int), .int .u8 (y14 : Int), .int .u8 (y15 : Int)] 40)) := (Below.refl _ _).alloc (Nat.le_refl _) _
  have HB := Lib.hid (b1.alloc b1.size (.cells #[.int .i64 0, .int .u8 0, .int .u8 0, .int .u8 0, .int .u8 0, .int .u8 0, .int .u8 0, .int .u8 0, .int .u8 0, .int .u8 0, .int .u8 0, .int .u8 0, .int .u8 0, .int .u8 0, .int .u8 0, .int .u8 0, .int .u8 0] 40))
  have e1 : (w.alloc (.cells #[.int .i64 f, .int .u8 (y0 : Int), .int .u8 (y1 : Int), .int .u8 (y2 : Int), .int .u8 (y3 : Int), .int .u8 (y4 : Int), .int .u8 (y5 : Int), .int .u8 (y6 : Int), .int .u8 (y7 : Int), .int .u8 (y8 : Int), .int .u8 (y9 : Int), .int .u8 (y10 : Int), .int .u8 (y11 : Int), .int .u8 (y12 : Int), .int .u8 (y13 : Int), .int .u8 (y14 : Int), .int .u8 (y15 : Int)] 40)).heap.size = w.heap.size + 1 := by simp
  rw [e1] at hR
  have HP2 := Lib.hid (hA.below ((Below.refl _ _).alloc (Nat.le_refl _) (.cells #[.int .i64 0, .int .u8 0, .int .u8 0, .int .u8 0, .int .u8 0, .int .u8 0, .int .u8 0, .int .u8 0, .int .u8 0, .int .u8 0, .int .u8 0, .int .u8 0, .int .u8 0, .int .u8 0, .int .u8 0, .int .u8 0, .int .u8 0] 40)))
  have HR2 := Lib.hid hR
  rw [ha]
  clear hR hA b1 ha hbs h16 hlt e1
  by_cases h2 : f.tmod 2 = 0
  · rw [show goodF f = 4 from if_pos h2, show goodB f bs = b4 (fourB bs) from if_pos h2]
    go_enter Try.func74, Try.ntmps74
    go_upto_if 6 with fail
    generalize ((w.alloc (.cells #[.int .i64 f, .int .u8 (y0 : Int), .int .u8 (y1 : Int), .int .u8 (y2 : Int), .int .u8 (y3 : Int), .int .u8 (y4 : Int), .int .u8 (y5 : Int), .int .u8 (y6 : Int), .int .u8 (y7 : Int), .int .u8 (y8 : Int), .int .u8 (y9 : Int), .int .u8 (y10 : Int), .int .u8 (y11 : Int), .int .u8 (y12 : Int), .int .u8 (y13 : Int), .int .u8 (y14 : Int), .int .u8 (y15 : Int)] 40)).alloc (.cells #[.int .i64 0, .int .u8 0, .int .u8 0, .int .u8 0, .int .u8 0, .int .u8 0, .int .u8 0, .int .u8 0, .int .u8 0, .int .u8 0, .int .u8 0, .int .u8 0, .int .u8 0, .int .u8 0, .int .u8 0, .int .u8 0, .int .u8 0] 40)) = W at *
    go_wp2_with (refine load_addr HP2 _ rfl rfl rfl ?_)
    refine (HF W).out.mono ?_
    rintro e w1 ⟨rfl, hb1⟩
    go_wp2_with fail
    refine (HO w1).out.mono ?_
    rintro e w2 ⟨rfl, hb2⟩
    have HR3 := Lib.hid ((HR2.out.below hb1).below hb2)
    have hbel := chain (chain HB.out hb1) hb2
    have HLN := Lib.hid (b4_len (fourB bs))
    clear HR2 HB hb1 hb2 HP2
    go_wp2_with (refine store_addr HR3 _ _ HLN rfl rfl rfl rfl (fun W HW HA => ?_))
    refine bodyPost_ret (v := addrV 4 (b4 (fourB bs))) (results_addr Try.results74 rfl HA.out) rfl ⟨rfl, by rw [HW.out]; exact below_cells (by omega) _ _ _ hbel⟩
  · rw [show goodF f = 6 from if_neg h2, show goodB f bs = bs from if_neg h2]
    have h3 : f.tmod 2 = 1 ∨ f.tmod 2 = -1 := (tmod_two f).resolve_left h2
    clear h2 HF HO
    rcases h3 with h3 | h3
    · go_enter Try.func74, Try.ntmps74
      go_upto_if 6 with fail
      generalize ((w.alloc (.cells #[.int .i64 f, .int .u8 (y0 : Int), .int .u8 (y1 : Int), .int .u8 (y2 : Int), .int .u8 (y3 : Int), .int .u8 (y4 : Int), .int .u8 (y5 : Int), .int .u8 (y6 : Int), .int .u8 (y7 : Int), .int .u8 (y8 : Int), .int .u8 (y9 : Int), .int .u8 (y10 : Int), .int .u8 (y11 : Int), .int .u8 (y12 : Int), .int .u8 (y13 : Int), .int .u8 (y14 : Int), .int .u8 (y15 : Int)] 40)).alloc (.cells #[.int .i64 0, .int .u8 0, .int .u8 0, .int .u8 0, .int .u8 0, .int .u8 0, .int .u8 0, .int .u8 0, .int .u8 0, .int .u8 0, .int .u8 0, .int .u8 0, .int .u8 0, .int .u8 0, .int .u8 0, .int .u8 0, .int .u8 0] 40)) = W at *
      have hfam := HP2.out.fam
      have hl0 := HP2.out.live 0 (by decide)
      have HP3 := Lib.hid (HP2.out.setFam 6)
      have HR3 := Lib.hid (HR2.out.other (G' := w.heap.size) (i := 0) (by omega) (.int .i64 6))
      have hbel := HB.out.setCell (p := ⟨w.heap.size, 0, none⟩) (Nat.le_refl _) (.int .i64 6)
      go_wp2_with (first | refine load_addr HP3 _ rfl rfl rfl ?_ | (refine store_addr HR3 _ _ H16 rfl rfl rfl rfl (fun W HW HA => ?_)))
      refine bodyPost_ret (v := addrV 6 bs) (results_addr Try.results74 rfl HA.out) rfl ⟨rfl, by rw [HW.out]; exact below_cells (by omega) _ _ _ hbel⟩
    · go_enter Try.func74, Try.ntmps74
      go_upto_if 6 with fail
      generalize ((w.alloc (.cells #[.int .i64 f, .int .u8 (y0 : Int), .int .u8 (y1 : Int), .int .u8 (y2 : Int), .int .u8 (y3 : Int), .int .u8 (y4 : Int), .int .u8 (y5 : Int), .int .u8 (y6 : Int), .int .u8 (y7 : Int), .int .u8 (y8 : Int), .int .u8 (y9 : Int), .int .u8 (y10 : Int), .int .u8 (y11 : Int), .int .u8 (y12 : Int), .int .u8 (y13 : Int), .int .u8 (y14 : Int), .int .u8 (y15 : Int)] 40)).alloc (.cells #[.int .i64 0, .int .u8 0, .int .u8 0, .int .u8 0, .int .u8 0, .int .u8 0, .int .u8 0, .int .u8 0, .int .u8 0, .int .u8 0, .int .u8 0, .int .u8 0, .int .u8 0, .int .u8 0, .int .u8 0, .int .u8 0, .int .u8 0] 40)) = W at *
      have hfam := HP2.out.fam
      have hl0 := HP2.out.live 0 (by decide)
      have HP3 := Lib.hid (HP2.out.setFam 6)
      have HR3 := Lib.hid (HR2.out.other (G' := w.heap.size) (i := 0) (by omega) (.int .i64 6))
      have hbel := HB.out.setCell (p := ⟨w.heap.size, 0, none⟩) (Nat.le_refl _) (.int .i64 6)
      go_wp2_with (first | refine load_addr HP3 _ rfl rfl rfl ?_ | (refine store_addr HR3 _ _ H16 rfl rfl rfl rfl (fun W HW HA => ?_)))
      refine bodyPost_ret (v := addrV 6 bs) (results_addr Try.results74 rfl HA.out) rfl ⟨rfl, by rw [HW.out]; exact below_cells (by omega) _ _ _ hbel⟩
end Go.Proofs.Yticdpidngmeebaa
/- Contract of the reference's Compare of layer 4. -/
namespace Go.Proofs.Yticdpidngmeebaa
open Go.RowKit
set_option linter.unusedVariables false
set_option maxRecDepth 20000

/-- Which of two rows of bytes comes first. -/
def cmpL : List Nat → List Nat → Int
  | x :: xs, y :: ys => if x < y then -1 else if y < x then 1 else cmpL xs ys
  | _, _ => 0
/-- The row of addresses. -/
def cmpA (f : Int) (xs : List Nat) (g : Int) (ys : List Nat) : Int := if f = g then cmpL xs ys else if f < g then -1 else 1
end Go.Proofs.Yticdpidngmeebaa
/- Contracts of cmp.Compare at ints, bytes.Compare at two rows of sixteen bytes, addr.Compare. -/
namespace Go.Proofs.Yticdpidngmeebaa
open Go.RowKit
set_option linter.unusedVariables false
set_option maxRecDepth 20000

/-- Which of two numbers comes first. -/
def sgn3 (x y : Int) : Int := if x < y then -1 else if y < x then 1 else 0
end Go.Proofs.Yticdpidngmeebaa
/- Plain facts on addresses that may be, and on their row. -/
namespace Go.Proofs.Yticdpidngmeebaa
open Go.RowKit
set_option linter.unusedVariables false
set_option maxRecDepth 20000

theorem fourB_eq (bs : List Nat) : ((bs.getD 0 0 * 256 + bs.getD 1 0) * 256 + bs.getD 2 0) * 256 + bs.getD 3 0 = fourB bs := by
  simp [fourB, fourTo]
theorem fourB_le' (bs : List Nat) (h : ∀ x ∈ bs, x < 256) : fourB bs ≤ 4294967295 := by
  have := fourTo_lt bs h 4
  have e : (256 : Nat) ^ 4 = 4294967296 := by decide
  unfold fourB
  omega
theorem may4 (bs : List Nat) (h16 : bs.length = 16) (hlt : ∀ x ∈ bs, x < 256) : decide ((4 : Int) = 4 ∧ bs = b4 (fourB bs)) = mayB 4 bs := by
  obtain ⟨y0, y1, y2, y3, y4, y5, y6, y7, y8, y9, y10, y11, y12, y13, y14, y15, rfl⟩ := list16 bs h16
  simp at hlt
  rw [b4_eq, ← fourB_eq]
  have e : mayB 4 [y0, y1, y2, y3, y4, y5, y6, y7, y8, y9, y10, y11, y12, y13, y14, y15] = decide (y4 = 0 ∧ y5 = 0 ∧ y6 = 0 ∧ y7 = 0 ∧ y8 = 0 ∧ y9 = 0 ∧ y10 = 0 ∧ y11 = 0 ∧ y12 = 0 ∧ y13 = 0 ∧ y14 = 0 ∧ y15 = 0) := by
    rw [Bool.eq_iff_iff]
    simp [mayB, zeroTo, fromN]
  rw [e]
  refine decide_eq_decide.2 ?_
  simp
  omega
theorem may6 (bs : List Nat) (h16 : bs.length = 16) : mayB 6 bs = true := by
  unfold mayB
  rw [show fromN 6 = 16 from rfl, zeroTo_end bs h16]
  rfl
theorem mayElse (f : Int) (bs : List Nat) (h16 : bs.length = 16) (h4 : f ≠ 4) (h6 : f ≠ 6) : decide (f = 0 ∧ bs = List.replicate 16 0) = mayB f bs := by
  by_cases h0 : f = 0
  · subst h0
    obtain ⟨y0, y1, y2, y3, y4, y5, y6, y7, y8, y9, y10, y11, y12, y13, y14, y15, rfl⟩ := list16 bs h16
    rw [Bool.eq_iff_iff]
    simp [mayB, zeroTo, fromN]
  · rw [decide_eq_false (fun h => h0 h.1)]
    unfold mayB
    simp [h0, h4, h6]
theorem fourB_b4 (n : Nat) (hn : n ≤ 4294967295) : fourB (b4 n) = n := by
  rw [b4_eq, ← fourB_eq]
  simp
  omega
theorem b4_lt (n : Nat) : ∀ x ∈ b4 n, x < 256 := by
  rw [b4_eq]
  simp
  omega
/-- An address that may be, and is none of none. -/
inductive GoodA : Int → List Nat → Prop
  | four (n : Nat) (hn : n ≤ 4294967295) : GoodA 4 (b4 n)
  | six (bs : List Nat) (h16 : bs.length = 16) (hlt : ∀ x ∈ bs, x < 256) : GoodA 6 bs
theorem good_is (f : Int) (bs : List Nat) (h16 : bs.length = 16) (hlt : ∀ x ∈ bs, x < 256) : GoodA (goodF f) (goodB f bs) := by
  unfold goodF goodB
  by_cases h : f.tmod 2 = 0
  · rw [if_pos h, if_pos h]; exact .four _ (fourB_le' bs hlt)
  · rw [if_neg h, if_neg h]; exact .six bs h16 hlt
theorem GoodA.len {f : Int} {bs : List Nat} (h : GoodA f bs) : bs.length = 16 := by cases h <;> first | exact b4_len _ | assumption
theorem GoodA.lt {f : Int} {bs : List Nat} (h : GoodA f bs) : ∀ x ∈ bs, x < 256 := by cases h <;> first | exact b4_lt _ | assumption
theorem GoodA.may {f : Int} {bs : List Nat} (h : GoodA f bs) : mayB f bs = true := by
  cases h with
  | four n hn => rw [← may4 _ (b4_len n) (b4_lt n), fourB_b4 n hn, decide_eq_true ⟨rfl, rfl⟩]
  | six _ h16 hlt => exact may6 _ h16
end Go.Proofs.Yticdpidngmeebaa
/- Contracts of four.howRead, number, endsInNumber, and of the reference's Part: a part's number. -/
namespace Go.Proofs.Yticdpidngmeebaa
open Go.RowKit
set_option linter.unusedVariables false
set_option maxRecDepth 20000

/-- A part's number. -/
def partB (p : ByteArray) : Option Nat :=
  if p.size = 0 then none else
  if 1 < p.size ∧ byteOf p 0 = 48 ∧ (byteOf p 1 = 120 ∨ byteOf p 1 = 88) then readF (p.extract 2 p.size) 16 else
  if 1 < p.size ∧ byteOf p 0 = 48 then readF (p.extract 1 p.size) 8 else readF p 10
/-- Whether a text whose last part this is ends in a number. -/
def endsB (p : ByteArray) : Bool := decide (0 < p.size) && ((readF p 10).isSome || (partB p).isSome)

end Go.Proofs.Yticdpidngmeebaa
/- Contracts of four.looseParts, join, Loose: the address of a loose text. -/
namespace Go.Proofs.Yticdpidngmeebaa
open Go.RowKit
set_option linter.unusedVariables false
set_option maxRecDepth 20000

/-- The parts of a loose text. -/
def lparts (s : ByteArray) : List ByteArray :=
  if 1 < (pieces s 46).length ∧ ((pieces s 46).getD ((pieces s 46).length - 1) ⟨#[]⟩).size = 0 then (pieces s 46).take ((pieces s 46).length - 1) else pieces s 46
/-- The number of the first k parts, each one byte. -/
def outTo (l : List ByteArray) : Nat → Option Nat
  | 0 => some 0
  | k + 1 => match outTo l k with
    | none => none
    | some m => match partB (l.getD k ⟨#[]⟩) with
      | none => none
      | some n => if 255 < n then none else some (m * 256 + n)
/-- How many numbers a last part may have, behind k others. -/
def roomB (k : Nat) : Nat := 256 ^ (4 - k)
/-- The parts' address. -/
def joinP (l : List ByteArray) : Option Nat :=
  if 4 < l.length then none else
  match outTo l (l.length - 1) with
  | none => none
  | some m => match partB (l.getD (l.length - 1) ⟨#[]⟩) with
    | none => none
    | some n => if roomB (l.length - 1) ≤ n then none else some (m * roomB (l.length - 1) + n)
def joinRet (o : Option Nat) : Value := .tuple #[.int .u32 ((o.getD 0 : Nat) : Int), .bool o.isSome]
/-- A loose text's address and kind. -/
def looseB (s : ByteArray) : Nat × Nat :=
  if endsB ((lparts s).getD ((lparts s).length - 1) ⟨#[]⟩) then
    match joinP (lparts s) with
    | none => (0, 1)
    | some a => (a, 2)
  else (0, 0)
def looseRet (r : Nat × Nat) : Value := .tuple #[.int .u32 ((r.1 : Nat) : Int), .int .i64 ((r.2 : Nat) : Int)]
end Go.Proofs.Yticdpidngmeebaa
/- What numbers' digits are as parts of loose and of strict texts; plain facts, and four.Loose's contract at texts put together of such. -/
namespace Go.Proofs.Yticdpidngmeebaa
open Go.RowKit
set_option linter.unusedVariables false
set_option maxRecDepth 20000

/-- Digits read one by one, 2^32 at most. -/
def readL (b : Nat) : Nat → List UInt8 → Option Nat
  | n, [] => some n
  | n, c :: l => if b ≤ digC c.toNat then none else readL b (min (n * b + digC c.toNat) 4294967296) l
abbrev dec (u : Nat) : List UInt8 := Lib.decDigits u
end Go.Proofs.Yticdpidngmeebaa
/- An address of 32 bits, its text, and the contract of the reference's Print. -/
namespace Go.Proofs.Yticdpidngmeebaa
open Go.RowKit
set_option linter.unusedVariables false
set_option maxRecDepth 20000

/-- The number of four bytes. -/
def num4 (a b c d : Nat) : Nat := ((a * 256 + b) * 256 + c) * 256 + d
def prR (a b c d : Nat) : Nat → List UInt8
  | 0 => []
  | 1 => dec d
  | 2 => dec c ++ 46 :: dec d
  | 3 => dec b ++ 46 :: (dec c ++ 46 :: dec d)
  | _ => dec a ++ 46 :: (dec b ++ 46 :: (dec c ++ 46 :: dec d))
def text4 (a b c d : Nat) : ByteArray := ofL (dec a ++ 46 :: (dec b ++ 46 :: (dec c ++ 46 :: dec d)))
end Go.Proofs.Yticdpidngmeebaa
/- Contracts of the landed addr.Four, Of4, May and four.Bytes, for a seat that prints nothing (the texts of AddrFour, AddrMay, Prints). -/
namespace Go.Proofs.Yticdpidngmeebaa
open Go.RowKit
set_option linter.unusedVariables false
set_option maxRecDepth 20000

set_option maxRecDepth 100000 in
set_option maxHeartbeats 1000000 in
theorem bytes_any (a b c d n : Nat) (w : World) (ha : a < 256) (hb : b < 256) (hc : c < 256) (hd : d < 256) (hn : n = num4 a b c d) :
    Calls Try.prog 98 #[.int .u32 (n : Int)] w fun e w' => e = .returned (arr4 a b c d) ∧ Below w.heap.size w w' := by
  unfold num4 at hn
  have hle : n ≤ 4294967295 := by omega
  have e1 : (n : Int) / 16777216 = (a : Int) := by omega
  have e2 : (n : Int) / 65536 % 256 = (b : Int) := by omega
  have e3 : (n : Int) / 256 % 256 = (c : Int) := by omega
  have e4 : (n : Int) % 256 = (d : Int) := by omega
  clear hn
  go_enter Try.func98, Try.ntmps98
  go_wp2
  refine bodyPost_ret (v := arr4 a b c d) (by simp [results, Try.results98, go_sem, arr4, e2, e3, e4]) rfl ⟨rfl, ?_⟩
  exact (Below.refl _ _).alloc (Nat.le_refl _) _
set_option maxRecDepth 100000 in
set_option maxHeartbeats 1000000 in
theorem addrFour_any (f : Int) (bs : List Nat) (w : World) (h16 : bs.length = 16) (hlt : ∀ x ∈ bs, x < 256) :
    Calls Try.prog 95 #[addrV f bs] w fun e w' => e = .returned (.int .u32 ((fourB bs : Nat) : Int)) ∧ Below w.heap.size w w' := by
  obtain ⟨cs, ecs, HA, HB⟩ := addr_boxed f bs w h16
  rw [ecs]
  have HO := fun W => Lib.hid (of_any (bs.getD 0 0) (bs.getD 1 0) (bs.getD 2 0) (bs.getD 3 0) W (byte_lt hlt 0) (byte_lt hlt 1) (byte_lt hlt 2) (byte_lt hlt 3))
  rw [fourB_eq] at HO
  generalize fourB bs = n at *
  clear ecs h16 hlt
  go_enter Try.func95, Try.ntmps95
  go_upto_region 1 with fail
  generalize (w.alloc (.cells cs 40)) = W at *
  have c0 : W.cell? ⟨w.heap.size, 1, none⟩ = some (.int .u8 ((bs.getD 0 0 : Nat) : Int)) := HA.out.cells 0 (by decide)
  have c1 : W.cell? ⟨w.heap.size, 2, none⟩ = some (.int .u8 ((bs.getD 1 0 : Nat) : Int)) := HA.out.cells 1 (by decide)
  have c2 : W.cell? ⟨w.heap.size, 3, none⟩ = some (.int .u8 ((bs.getD 2 0 : Nat) : Int)) := HA.out.cells 2 (by decide)
  have c3 : W.cell? ⟨w.heap.size, 4, none⟩ = some (.int .u8 ((bs.getD 3 0 : Nat) : Int)) := HA.out.cells 3 (by decide)
  generalize bs.getD 0 0 = a at *
  generalize bs.getD 1 0 = b at *
  generalize bs.getD 2 0 = c at *
  generalize bs.getD 3 0 = d at *
  unfold arr4 at HO
  go_wp2_with fail
  refine (HO W).out.mono ?_
  rintro e w1 ⟨rfl, hb1⟩
  go_wp2_with fail
  go_ret
  exact ⟨rfl, chain HB.out hb1⟩

set_option maxRecDepth 100000 in
set_option maxHeartbeats 1000000 in
theorem addrOf4_any (n : Nat) (w : World) (hn : n ≤ 4294967295) :
    Calls Try.prog 94 #[.int .u32 (n : Int)] w fun e w' => e = .returned (addrV 4 (b4 n)) ∧ Below w.heap.size w w' := by
  have HE := Lib.hid (b4_eq n)
  have HBy := fun W => Lib.hid (bytes_any (n / 16777216 % 256) (n / 65536 % 256) (n / 256 % 256) (n % 256) n W (by omega) (by omega) (by omega) (by omega) (by unfold num4; omega))
  have HZ := Lib.hid (addr_zeroed w)
  have HB : Hid (Below w.heap.size w (w.alloc (.cells zA 40))) := Lib.hid ((Below.refl _ _).alloc (Nat.le_refl _) _)
  generalize n / 16777216 % 256 = a at *
  generalize n / 65536 % 256 = b at *
  generalize n / 256 % 256 = c at *
  generalize n % 256 = d at *
  unfold arr4 at HBy
  go_enter Try.func94, Try.ntmps94
  go_upto_region 1 with fail
  generalize (w.alloc (.cells zA 40)) = W at *
  go_wp2_with fail
  refine (HBy W).out.mono ?_
  rintro e w1 ⟨rfl, hb1⟩
  have HZ1 := Lib.hid ((HZ.out.below hb1).alloc (.cells #[.int .u8 (a : Int), .int .u8 (b : Int), .int .u8 (c : Int), .int .u8 (d : Int)] 143))
  have HB1 := Lib.hid (chain (chain HB.out hb1) ((Below.refl w1.heap.size w1).alloc (Nat.le_refl _) (.cells #[.int .u8 (a : Int), .int .u8 (b : Int), .int .u8 (c : Int), .int .u8 (d : Int)] 143)))
  clear HZ HB hb1 HBy
  have HLN : Hid ([a, b, c, d, 0, 0, 0, 0, 0, 0, 0, 0, 0, 0, 0, 0].length = 16) := Lib.hid rfl
  go_wp2_with (refine store_addr HZ1 _ _ HLN rfl rfl rfl rfl (fun W HW HA => ?_))
  refine bodyPost_ret (v := addrV 4 [a, b, c, d, 0, 0, 0, 0, 0, 0, 0, 0, 0, 0, 0, 0]) (results_addr Try.results94 rfl HA.out) rfl ⟨by rw [HE.out], by rw [HW.out]; exact below_cells (Nat.le_refl _) _ _ _ HB1.out⟩
set_option maxRecDepth 100000 in
set_option maxHeartbeats 1000000 in
theorem addrMay_any (f : Int) (bs : List Nat) (w : World) (h16 : bs.length = 16) (hlt : ∀ x ∈ bs, x < 256) :
    Calls Try.prog 83 #[addrV f bs] w fun e w' => e = .returned (.bool (mayB f bs)) ∧ Below w.heap.size w w' := by
  obtain ⟨cs, ecs, HA, HB⟩ := addr_boxed f bs w h16
  rw [ecs]
  have HLT := Lib.hid hlt
  clear ecs hlt
  have H16 := Lib.hid h16
  clear h16
  go_enter Try.func83, Try.ntmps83
  go_upto_region 1 with fail
  generalize (w.alloc (.cells cs 40)) = W at *
  have hfam := HA.out.fam
  by_cases h4 : f = 4
  · subst h4
    have HE := Lib.hid (may4 bs H16.out HLT.out)
    have gd := guard_addr
    have q1 := fun W => run_eq_addr 4 4 bs (b4 (fourB bs)) W H16.out (b4_len _)
    rw [HE.out] at q1
    obtain ⟨L, hL⟩ : ∃ L, [(w.heap.size, 0, addrL 4 bs)] = L := ⟨_, rfl⟩
    have HK := Lib.hid (show HeldR L w W by rw [← hL]; exact (HeldR.nil HB.out).addr HA.out)
    have M1 := Lib.hid (show InA L w.heap.size 4 bs from ⟨by rw [← hL]; simp, H16.out⟩)
    have HF : ∀ w', HeldR L w w' → Hid (Calls Try.prog 95 #[addrV 4 bs] w' fun e w'' => e = .returned (.int .u32 ((fourB bs : Nat) : Int)) ∧ Below w'.heap.size w' w'') := fun w' _ => Lib.hid (addrFour_any 4 bs w' H16.out HLT.out)
    have HO : ∀ w', HeldR L w w' → Hid (Calls Try.prog 94 #[.int .u32 ((fourB bs : Nat) : Int)] w' fun e w'' => e = .returned (addrV 4 (b4 (fourB bs))) ∧ Below w'.heap.size w' w'') := fun w' _ => Lib.hid (addrOf4_any (fourB bs) w' (fourB_le' bs HLT.out))
    clear hL
    generalize b4 (fourB bs) = ys at *
    generalize fourB bs = n at *
    go_wp2_with fail
    refine wp_region_noPanic ?_
    refine wp_region_held_drew (S := HeldR L w) (by kernel_rfl) HK.out.drew (fun hHeld => ?_)
    refine wpAnyH_take (i := 0) rfl (by kernel_rfl) (by kernel_rfl) (by kernel_rfl) (fun _ _ _ h => h) (yields_addr M1 (by rfl) _ rfl rfl) (by assumption) ?_
    try simp only [Act.put, List.getElem_toArray, List.getElem_cons_zero, List.setIfInBounds_toArray, List.set_cons_zero, List.set_cons_succ]
    refine wpAnyH_take (i := 1) rfl (by kernel_rfl) (by kernel_rfl) (by kernel_rfl) (fun _ _ _ h => h) (yields_addr M1 (by rfl) _ rfl rfl) (by assumption) ?_
    try simp only [Act.put, List.getElem_toArray, List.getElem_cons_zero, List.getElem_cons_succ, List.setIfInBounds_toArray, List.set_cons_zero, List.set_cons_succ]
    refine wpAnyH_ready (rs := [2]) (by kernel_rfl) (by simp) ?_
    refine AllReadyH.cons rfl (fun K hK => ?_) AllReadyH.nil
    go_simp
    refine (Calls.heldR (HF _ (by assumption)).out (by assumption)).mono ?_
    rintro e wr2 ⟨rfl, hS2⟩
    go_wp2_with fail
    refine hK.out _ _ hS2 (fun hHeld => ?_)
    clear hK K
    try simp only [Act.put, List.getElem_toArray, List.getElem_cons_zero, List.getElem_cons_succ, List.setIfInBounds_toArray, List.set_cons_zero, List.set_cons_succ]
    refine wpAnyH_ready (rs := [3]) (by kernel_rfl) (by simp) ?_
    refine AllReadyH.cons rfl (fun K hK => ?_) AllReadyH.nil
    go_simp
    refine (Calls.heldR (HO _ (by assumption)).out (by assumption)).mono ?_
    rintro e wr3 ⟨rfl, hS3⟩
    go_wp2_with fail
    refine hK.out _ _ hS3 (fun hHeld => ?_)
    clear hK K
    try simp only [Act.put, List.getElem_toArray, List.getElem_cons_zero, List.getElem_cons_succ, List.setIfInBounds_toArray, List.set_cons_zero, List.set_cons_succ]
    refine wpAnyH_take (i := 4) (v := ?_) rfl (by kernel_rfl) (by kernel_rfl) (by kernel_rfl) (fun _ _ _ h => h) (Or.inl ⟨by rfl, ?_⟩) (by assumption) ?_
    rotate_left
    · (intro w hSw; go_simp; try (with_reducible rfl))
    try simp only [Act.put, List.getElem_toArray, List.getElem_cons_zero, List.getElem_cons_succ, List.setIfInBounds_toArray, List.set_cons_zero, List.set_cons_succ]
    refine wpAnyH_take (i := 5) (v := ?_) rfl (by kernel_rfl) (by kernel_rfl) (by kernel_rfl) (fun _ _ _ h => h) (Or.inl ⟨by rfl, ?_⟩) (by assumption) ?_
    rotate_left
    · (intro w hSw; go_simp; try (with_reducible rfl))
    try simp only [Act.put, List.getElem_toArray, List.getElem_cons_zero, List.getElem_cons_succ, List.setIfInBounds_toArray, List.set_cons_zero, List.set_cons_succ]
    refine wpAnyH_done (by kernel_rfl) ?_ _
    refine NoPanic.normal ?_
    go_wp2_with fail
    go_ret
    exact ⟨rfl, hHeld.bel⟩
  · by_cases h6 : f = 6
    · subst h6
      have HE := Lib.hid (may6 bs H16.out)
      go_wp2_with fail
      go_ret
      exact ⟨by rw [HE.out]; rfl, HB.out⟩
    · have g4 : (f == 4) = false := by simp [h4]
      have g6 : (f == 6) = false := by simp [h6]
      have HE := Lib.hid (mayElse f bs H16.out h4 h6)
      have gd := guard_zero
      have q1 := fun W => run_zero_addr f bs W H16.out
      rw [HE.out] at q1
      go_wp2_with (refine load_addr_g HA _ rfl rfl rfl ?_)
      go_ret
      exact ⟨rfl, HB.out⟩
end Go.Proofs.Yticdpidngmeebaa
/- Contracts of the landed label: Labels, May; placeOf; few of the laws. -/
namespace Go.Proofs.Yticdpidngmeebaa
open Go.RowKit
set_option linter.unusedVariables false
set_option maxRecDepth 20000

set_option maxRecDepth 100000 in
theorem labels_any (s : ByteArray) (w : World) (hs : s.size ≤ 2000000) :
    Calls Try.prog 63 #[.string s] w fun e w' => ∃ a c, e = .returned (.slice a (labelsB s).length c) ∧ RowS w' a c (labelsB s) ∧ Below w.heap.size w w' := by
  by_cases h0 : s.size = 0
  · have he := isEmpty_true s h0
    have HE : Hid (labelsB s = []) := Lib.hid (by unfold labelsB; rw [if_pos h0])
    rw [HE.out]
    clear hs h0
    go_enter Try.func63, Try.ntmps63
    go_wp2_with fail
    go_ret
    exact ⟨none, 0, rfl, .inl ⟨rfl, rfl, rfl⟩, Below.refl _ _⟩
  · have he := isEmpty_false s (by omega)
    have HE : Hid (labelsB s = pieces s 46) := Lib.hid (by unfold labelsB; rw [if_neg h0])
    have HSP := Lib.hid (split_row s 46 w hs)
    rw [HE.out]
    generalize pieces s 46 = l at *
    clear hs h0 HE
    go_enter Try.func63, Try.ntmps63
    go_wp2_with fail
    refine HSP.out.mono ?_
    rintro e w1 ⟨g, c, rfl, hg, hr, hb⟩
    have HR := Lib.hid hr
    have HB := Lib.hid hb
    clear hr hb hg HSP
    go_wp2_with fail
    go_ret
    exact ⟨_, _, rfl, .inr ⟨g, rfl, HR.out⟩, HB.out⟩
set_option maxRecDepth 100000 in
set_option maxHeartbeats 2000000 in
theorem may_any (s : ByteArray) (w : World) (hs : s.size ≤ 2000000) :
    Calls Try.prog 38 #[.string s] w fun e w' => e = .returned (.bool (mayN s)) ∧ Below w.heap.size w w' := by
  have HM := Lib.hid (may_is s)
  have HLA := Lib.hid (labels_any s w hs)
  have hsm : ∀ p ∈ labelsB s, p.size ≤ 2000000 := fun p hp => Nat.le_trans (labels_small s p hp) (by omega)
  have hln := labels_len s
  generalize mayN s = m at *
  generalize labelsB s = l at *
  by_cases h253 : 253 < s.size
  · have hd0 : decide (253 < (s.size : Int)) = true := decide_eq_true (by omega)
    have hd0n : decide (253 < s.size) = true := decide_eq_true h253
    have EM : m = false := by rw [HM.out]; exact decide_eq_false (fun h => by omega)
    subst EM
    clear HLA hsm HM
    go_enter Try.func38, Try.ntmps38
    go_wp2_with fail
    go_ret
    exact ⟨rfl, Below.refl _ _⟩
  · have hd0 : decide (253 < (s.size : Int)) = false := decide_eq_false (by omega)
    have hd0n : decide (253 < s.size) = false := decide_eq_false h253
    have HM2 : Hid (m = decide (∀ k, k < l.length → 1 ≤ (l.getD k ⟨#[]⟩).size ∧ (l.getD k ⟨#[]⟩).size ≤ 63)) := Lib.hid (by
      rw [HM.out]
      exact decide_eq_decide.2 ⟨fun h => h.2, fun h => ⟨by omega, h⟩⟩)
    have HSM := Lib.hid hsm
    clear hsm HM
    obtain ⟨N, hN⟩ : ∃ N, l.length = N := ⟨_, rfl⟩
    have HN := Lib.hid hN
    rw [hN] at hln HLA HM2
    clear hN
    go_enter Try.func38, Try.ntmps38
    go_wp2_with fail
    refine HLA.out.mono ?_
    rintro e w1 ⟨a, c, rfl, hr, hb⟩
    have HR := Lib.hid hr
    have HB := Lib.hid hb
    clear hr hb HLA
    go_wp2_with fail
    go_loop [11] (fun i => ∃ k : Nat, k ≤ N ∧ i = .int .i64 (k : Int) ∧ Hid (∀ j, j < k → 1 ≤ (l.getD j ⟨#[]⟩).size ∧ (l.getD j ⟨#[]⟩).size ≤ 63)) (fun i => N - (intOf i).toNat)
    case atStart => exact ⟨0, Nat.zero_le _, rfl, Lib.hid (fun j hj => absurd hj (by omega))⟩
    case round =>
      obtain ⟨k, hk, rfl, HO⟩ := hrel
      by_cases hkN : k < N
      · have hd : decide ((k : Int) < (N : Int)) = true := decide_eq_true (by omega)
        have hdn : decide (k < N) = true := decide_eq_true (by omega)
        rcases HR.out with ⟨_, _, h0⟩ | ⟨g, rfl, h⟩
        · have := HN.out; rw [h0] at this; simp at this; omega
        have hc := h.cells k (by rw [HN.out]; exact hkN)
        have hz := getD_small HSM.out k
        have HO2 : Hid (1 ≤ (l.getD k ⟨#[]⟩).size ∧ (l.getD k ⟨#[]⟩).size ≤ 63 → ∀ j, j < k + 1 → 1 ≤ (l.getD j ⟨#[]⟩).size ∧ (l.getD j ⟨#[]⟩).size ≤ 63) := Lib.hid (fun hp j hj => by
          by_cases h : j < k
          · exact HO.out j h
          · obtain rfl : j = k := by omega
            exact hp)
        have HF : Hid (¬ (1 ≤ (l.getD k ⟨#[]⟩).size ∧ (l.getD k ⟨#[]⟩).size ≤ 63) → m = false) := Lib.hid (fun hp => by
          rw [HM2.out]
          exact decide_eq_false (fun h => hp (h k hkN)))
        generalize l.getD k ⟨#[]⟩ = p at *
        have hb1 : (0 : Int) ≤ (k : Int) := by omega
        have hb2 : (k : Int) < (N : Int) := by omega
        clear h
        by_cases h1 : p.size < 1
        · have hd1 : decide ((p.size : Int) < 1) = true := decide_eq_true (by omega)
          have hd1n : decide (p.size < 1) = true := decide_eq_true (by omega)
          have ES := HF.out (fun h => absurd h.1 (by omega))
          subst ES
          clear HO2 HF HM2
          go_wp2_with fail
          go_ret
          exact ⟨rfl, HB.out⟩
        · have hd1 : decide ((p.size : Int) < 1) = false := decide_eq_false (by omega)
          have hd1n : decide (p.size < 1) = false := decide_eq_false (by omega)
          by_cases h2 : 63 < p.size
          · have hd2 : decide (63 < (p.size : Int)) = true := decide_eq_true (by omega)
            have hd2n : decide (63 < p.size) = true := decide_eq_true (by omega)
            have ES := HF.out (fun h => absurd h.2 (by omega))
            subst ES
            clear HO2 HF HM2
            go_wp2_with fail
            go_ret
            exact ⟨rfl, HB.out⟩
          · have hd2 : decide (63 < (p.size : Int)) = false := decide_eq_false (by omega)
            have hd2n : decide (63 < p.size) = false := decide_eq_false (by omega)
            have HO3 := Lib.hid (HO2.out (by omega))
            clear HO2 HF HO
            go_wp2_with fail
            go_round
            case rel => exact ⟨k + 1, by omega, by go_num, HO3⟩
            case measure => simp [intOf]; omega
      · obtain rfl : k = N := by omega
        have hd : decide ((k : Int) < (k : Int)) = false := by simp
        have EM : m = true := by rw [HM2.out]; exact decide_eq_true HO.out
        subst EM
        clear HM2
        go_wp2_with fail
        go_ret
        exact ⟨rfl, HB.out⟩
end Go.Proofs.Yticdpidngmeebaa
/- Contracts of the landed wire's mayNumbers, mayData, mayRecords (walks/WirMay.py prints this text). -/
namespace Go.Proofs.Yticdpidngmeebaa
open Go.RowKit
set_option linter.unusedVariables false
set_option maxRecDepth 20000

def ints9 (l : List Int) : List Value := l.map fun z => Value.int .i64 z
theorem mayNums_any (l : List Int) (g c : Nat) (w : World) (hc : ∀ j u, (ints9 l)[j]? = some u → w.cell? ⟨g, j, none⟩ = some u) (hl : l.length ≤ 1000) :
    Calls Try.prog 37 #[.slice (some ⟨g, 0, none⟩) l.length c] w fun e w' => e = .returned (.bool (l.all wordN)) ∧ w' = w := by
  obtain ⟨R, hR⟩ : ∃ R, l.all wordN = R := ⟨_, rfl⟩
  have HAL := Lib.hid hR
  rw [hR]
  obtain ⟨N, hN⟩ : ∃ N, l.length = N := ⟨_, rfl⟩
  have HN := Lib.hid hN
  have HC := Lib.hid hc
  rw [hN] at hl ⊢
  clear hR hN hc
  go_enter Try.func37, Try.ntmps37
  go_wp2_with fail
  go_loop [7] (fun i => ∃ k : Nat, k ≤ N ∧ i = .int .i64 (k : Int) ∧ Hid (∀ j (h : j < l.length), j < k → wordN l[j] = true)) (fun i => N - (intOf i).toNat)
  case atStart => exact ⟨0, Nat.zero_le _, rfl, Lib.hid (fun j _ h => absurd h (by omega))⟩
  case round =>
    obtain ⟨k, hk, rfl, HO⟩ := hrel
    by_cases hkN : k < N
    · have hd : decide ((k : Int) < (N : Int)) = true := decide_eq_true (by omega)
      have hdn : decide (k < N) = true := decide_eq_true hkN
      have hkD : k < l.length := by rw [HN.out]; exact hkN
      have hcell := HC.out k (.int .i64 l[k]) (by unfold ints9; rw [List.getElem?_map, List.getElem?_eq_getElem hkD]; rfl)
      have HO2 : Hid (wordN l[k] = true → ∀ j (h : j < l.length), j < k + 1 → wordN l[j] = true) := Lib.hid (fun e j h hj => by
        by_cases h2 : j < k
        · exact HO.out j h h2
        · obtain rfl : j = k := by omega
          exact e)
      have HF : Hid (wordN l[k] = false → R = false) := Lib.hid (fun e => by
        rw [← HAL.out, List.all_eq_false]
        exact ⟨l[k], List.getElem_mem hkD, by rw [e]; decide⟩)
      generalize l[k] = z at *
      have hb1 : (0 : Int) ≤ (k : Int) := by omega
      have hb2 : (k : Int) < (N : Int) := by omega
      clear HO
      by_cases h0 : z < 0
      · have hd0 : decide (z < 0) = true := decide_eq_true h0
        have ER := HF.out (decide_eq_false (by omega))
        subst ER
        clear HO2 HF
        go_wp2_with fail
        go_ret
        exact ⟨rfl, rfl⟩
      · have hd0 : decide (z < 0) = false := decide_eq_false h0
        by_cases h1 : 65535 < z
        · have hd1 : decide (65535 < z) = true := decide_eq_true h1
          have ER := HF.out (decide_eq_false (by omega))
          subst ER
          clear HO2 HF
          go_wp2_with fail
          go_ret
          exact ⟨rfl, rfl⟩
        · have hd1 : decide (65535 < z) = false := decide_eq_false h1
          have HO3 := Lib.hid (HO2.out (decide_eq_true (by omega)))
          clear HO2 HF
          go_wp2_with fail
          go_round
          case rel => exact ⟨k + 1, by omega, by go_num, HO3⟩
          case measure => simp [intOf]; omega
    · obtain rfl : k = N := by omega
      have hd : decide ((k : Int) < (k : Int)) = false := by simp
      have ER : R = true := by
        rw [← HAL.out, List.all_eq_true]
        intro r hr
        obtain ⟨j, hj, rfl⟩ := List.getElem_of_mem hr
        exact HO.out j hj (by rw [← HN.out]; exact hj)
      subst ER
      clear HO
      go_wp2_with fail
      go_ret
      exact ⟨rfl, rfl⟩
theorem mayNums2 (a b : Int) (w : World) : Calls Try.prog 37 #[.slice (some ⟨w.heap.size, 0, none⟩) 2 2] (w.alloc (.cells #[.int .i64 a, .int .i64 b] 3)) fun e w' => e = .returned (.bool (wordN a && wordN b)) ∧ w' = w.alloc (.cells #[.int .i64 a, .int .i64 b] 3) := by
  have := mayNums_any [a, b] w.heap.size 2 (w.alloc (.cells #[.int .i64 a, .int .i64 b] 3)) (fun j u hu => cells_new8 w [.int .i64 a, .int .i64 b] 3 j u hu) (by simp)
  simpa using this
/-- What mayData asks. -/
def mayD (r : Rec) : Bool :=
  if r.ty = 1 then decide (r.f = 4) && mayB r.f r.b && decide (r.tg.size = 0) && decide (r.da.size = 0)
  else if r.ty = 28 then decide (r.f = 6) && mayB r.f r.b && decide (r.tg.size = 0) && decide (r.da.size = 0)
  else if r.ty = 5 then decide (r.f = 0 ∧ r.b = zB) && mayN r.tg && decide (r.da.size = 0)
  else decide (r.f = 0 ∧ r.b = zB) && decide (r.tg.size = 0) && decide (r.da.size ≤ 65535)
theorem mayR_is (r : Rec) : mayR r = (mayN r.name && (wordN r.ty && wordN r.cl) && decide (0 ≤ r.ttl) && decide (r.ttl ≤ 2147483647) && mayD r) := by
  unfold mayR headR bodyR mayD
  generalize mayN r.name = a
  generalize mayN r.tg = b
  generalize mayB r.f r.b = c
  generalize wordN r.ty = d
  generalize wordN r.cl = e
  by_cases h1 : r.ty = 1
  · simp only [if_pos h1]
    by_cases h4 : r.da.size = 0
    · have : decide (r.da.size ≤ 65535) = true := decide_eq_true (by omega)
      rw [this]
      cases a <;> cases c <;> cases d <;> cases e <;> simp
    · simp [h4]
  · simp only [if_neg h1]
    by_cases h2 : r.ty = 28
    · simp only [if_pos h2]
      by_cases h4 : r.da.size = 0
      · have : decide (r.da.size ≤ 65535) = true := decide_eq_true (by omega)
        rw [this]
        cases a <;> cases c <;> cases d <;> cases e <;> simp
      · simp [h4]
    · simp only [if_neg h2]
      by_cases h3 : r.ty = 5
      · simp only [if_pos h3]
        by_cases h4 : r.da.size = 0
        · have : decide (r.da.size ≤ 65535) = true := decide_eq_true (by omega)
          rw [this]
          cases a <;> cases b <;> cases d <;> cases e <;> simp
        · simp [h4]
      · simp only [if_neg h3]
        generalize decide (r.da.size ≤ 65535) = g
        cases a <;> cases g <;> cases d <;> cases e <;> simp
set_option maxRecDepth 100000 in
set_option maxHeartbeats 4000000 in
theorem mayData_any (r : Rec) (w : World) (hf : Fit r) (ht : r.tg.size ≤ 1900000) :
    Calls Try.prog 64 #[recV r] w fun e w' => e = .returned (.bool (mayD r)) ∧ Below w.heap.size w w' := by
  have h16 := hf.1
  have hlt := hf.2.1
  have hd : r.da.size ≤ maxLen := hf.2.2.2.2.2.2.2.2
  have HBR : Hid (mayD r = if r.ty = 1 then decide (r.f = 4) && mayB r.f r.b && decide (r.tg.size = 0) && decide (r.da.size = 0) else if r.ty = 28 then decide (r.f = 6) && mayB r.f r.b && decide (r.tg.size = 0) && decide (r.da.size = 0) else if r.ty = 5 then decide (r.f = 0 ∧ r.b = zB) && mayN r.tg && decide (r.da.size = 0) else decide (r.f = 0 ∧ r.b = zB) && decide (r.tg.size = 0) && decide (r.da.size ≤ 65535)) := Lib.hid rfl
  obtain ⟨cs, ecs, HR, HB⟩ := rec_boxed r w h16
  rw [ecs]
  have HMT := fun W => Lib.hid (may_any r.tg W (by omega))
  have HMA := fun W => Lib.hid (addrMay_any r.f r.b W h16 hlt)
  have H16 := Lib.hid h16
  have gd := guard_zero
  have q := fun W => run_zero_addr r.f r.b W h16
  have hdm : r.da.size ≤ 9223372036854775807 := by unfold maxLen at hd; omega
  generalize mayD r = R at *
  obtain ⟨nm, ty, cl, ttl, f, b, tg, da⟩ := r
  simp only at HBR HMT HMA H16 q hdm
  have hzz : decide (f = 0 ∧ b = List.replicate 16 0) = decide (f = 0 ∧ b = zB) := rfl
  rw [hzz] at q
  generalize mayN tg = m2 at *
  generalize mayB f b = m3 at *
  generalize decide (f = 0 ∧ b = zB) = z3 at *
  clear ecs h16 hf ht hd hzz hlt
  go_enter Try.func64, Try.ntmps64
  go_upto_region 1 with fail
  generalize w.alloc (.cells cs 42) = W at *
  obtain ⟨G, hG⟩ : ∃ G, w.heap.size = G := ⟨_, rfl⟩
  try rw [hG] at HR
  try rw [hG]
  have c1 := HR.out.ty
  have c4 := HR.out.fam
  have c5 := HR.out.tg
  have c6 := HR.out.da
  have HRA := Lib.hid HR.out.addr
  simp only [Nat.zero_add] at c1 c4 c5 c6 HRA
  by_cases t1 : ty = 1
  · have tbt1 : (ty == 1) = true := by rw [t1]; rfl
    rw [if_pos t1] at HBR
    clear t1
    by_cases h2 : f = 4
    · have hd2 : decide (f = 4) = true := decide_eq_true h2
      rw [hd2] at HBR
      have he2 : (f == 4) = true := by rw [h2]; rfl
      clear h2
      go_wp2_with (refine load_addr_o H16 HRA _ rfl rfl rfl ?_)
      refine (HMA _).out.mono ?_
      rintro e w1 ⟨rfl, hb1⟩
      replace HR := Lib.hid (HR.out.below hb1)
      replace HB := Lib.hid (chain HB.out hb1)
      clear hb1 c1 c4 c5 c6 HRA
      have c1 := HR.out.ty
      have c4 := HR.out.fam
      have c5 := HR.out.tg
      have c6 := HR.out.da
      have HRA := Lib.hid HR.out.addr
      simp only [Nat.zero_add] at c1 c4 c5 c6 HRA
      cases m3 with
      | false =>
        have ER : R = false := by rw [HBR.out]; simp
        subst ER
        clear HBR
        go_wp2_with (refine load_addr_o H16 HRA _ rfl rfl rfl ?_)
        go_ret
        exact ⟨rfl, HB.out⟩
      | true =>
        by_cases h3 : tg.size = 0
        · have hdh3 : decide (tg.size = 0) = true := decide_eq_true h3
          rw [hdh3] at HBR
          have heh3 := isEmpty_true tg h3
          by_cases h4 : da.size = 0
          · have hdh4 : decide (da.size = 0) = true := decide_eq_true h4
            rw [hdh4] at HBR
            have heh4 := isEmpty_true da h4
            have ER : R = true := by rw [HBR.out]; rfl
            subst ER
            clear HBR
            go_wp2_with (refine load_addr_o H16 HRA _ rfl rfl rfl ?_)
            go_ret
            exact ⟨rfl, HB.out⟩
          · have hdh4 : decide (da.size = 0) = false := decide_eq_false h4
            rw [hdh4] at HBR
            have heh4 := isEmpty_false da (by omega)
            have ER : R = false := by rw [HBR.out]; simp
            subst ER
            clear HBR
            go_wp2_with (refine load_addr_o H16 HRA _ rfl rfl rfl ?_)
            go_ret
            exact ⟨rfl, HB.out⟩
        · have hdh3 : decide (tg.size = 0) = false := decide_eq_false h3
          rw [hdh3] at HBR
          have heh3 := isEmpty_false tg (by omega)
          have ER : R = false := by rw [HBR.out]; simp
          subst ER
          clear HBR
          go_wp2_with (refine load_addr_o H16 HRA _ rfl rfl rfl ?_)
          go_ret
          exact ⟨rfl, HB.out⟩
    · have hd2 : decide (f = 4) = false := decide_eq_false h2
      rw [hd2] at HBR
      have he2 : (f == 4) = false := by rw [beq_eq_false_iff_ne]; exact h2
      have ER : R = false := by rw [HBR.out]; simp
      subst ER
      clear HBR
      go_wp2_with (refine load_addr_o H16 HRA _ rfl rfl rfl ?_)
      go_ret
      exact ⟨rfl, HB.out⟩
  · have tbt1 : (ty == 1) = false := by rw [beq_eq_false_iff_ne]; exact t1
    rw [if_neg t1] at HBR
    clear t1
    by_cases t2 : ty = 28
    · have tbt2 : (ty == 28) = true := by rw [t2]; rfl
      rw [if_pos t2] at HBR
      clear t2
      by_cases h2 : f = 6
      · have hd2 : decide (f = 6) = true := decide_eq_true h2
        rw [hd2] at HBR
        have he2 : (f == 6) = true := by rw [h2]; rfl
        clear h2
        go_wp2_with (refine load_addr_o H16 HRA _ rfl rfl rfl ?_)
        refine (HMA _).out.mono ?_
        rintro e w1 ⟨rfl, hb1⟩
        replace HR := Lib.hid (HR.out.below hb1)
        replace HB := Lib.hid (chain HB.out hb1)
        clear hb1 c1 c4 c5 c6 HRA
        have c1 := HR.out.ty
        have c4 := HR.out.fam
        have c5 := HR.out.tg
        have c6 := HR.out.da
        have HRA := Lib.hid HR.out.addr
        simp only [Nat.zero_add] at c1 c4 c5 c6 HRA
        cases m3 with
        | false =>
          have ER : R = false := by rw [HBR.out]; simp
          subst ER
          clear HBR
          go_wp2_with (refine load_addr_o H16 HRA _ rfl rfl rfl ?_)
          go_ret
          exact ⟨rfl, HB.out⟩
        | true =>
          by_cases h3 : tg.size = 0
          · have hdh3 : decide (tg.size = 0) = true := decide_eq_true h3
            rw [hdh3] at HBR
            have heh3 := isEmpty_true tg h3
            by_cases h4 : da.size = 0
            · have hdh4 : decide (da.size = 0) = true := decide_eq_true h4
              rw [hdh4] at HBR
              have heh4 := isEmpty_true da h4
              have ER : R = true := by rw [HBR.out]; rfl
              subst ER
              clear HBR
              go_wp2_with (refine load_addr_o H16 HRA _ rfl rfl rfl ?_)
              go_ret
              exact ⟨rfl, HB.out⟩
            · have hdh4 : decide (da.size = 0) = false := decide_eq_false h4
              rw [hdh4] at HBR
              have heh4 := isEmpty_false da (by omega)
              have ER : R = false := by rw [HBR.out]; simp
              subst ER
              clear HBR
              go_wp2_with (refine load_addr_o H16 HRA _ rfl rfl rfl ?_)
              go_ret
              exact ⟨rfl, HB.out⟩
          · have hdh3 : decide (tg.size = 0) = false := decide_eq_false h3
            rw [hdh3] at HBR
            have heh3 := isEmpty_false tg (by omega)
            have ER : R = false := by rw [HBR.out]; simp
            subst ER
            clear HBR
            go_wp2_with (refine load_addr_o H16 HRA _ rfl rfl rfl ?_)
            go_ret
            exact ⟨rfl, HB.out⟩
      · have hd2 : decide (f = 6) = false := decide_eq_false h2
        rw [hd2] at HBR
        have he2 : (f == 6) = false := by rw [beq_eq_false_iff_ne]; exact h2
        have ER : R = false := by rw [HBR.out]; simp
        subst ER
        clear HBR
        go_wp2_with (refine load_addr_o H16 HRA _ rfl rfl rfl ?_)
        go_ret
        exact ⟨rfl, HB.out⟩
    · have tbt2 : (ty == 28) = false := by rw [beq_eq_false_iff_ne]; exact t2
      rw [if_neg t2] at HBR
      clear t2
      by_cases t3 : ty = 5
      · have tbt3 : (ty == 5) = true := by rw [t3]; rfl
        rw [if_pos t3] at HBR
        clear t3
        cases z3 with
        | false =>
          have ER : R = false := by rw [HBR.out]; simp
          subst ER
          clear HBR
          go_wp2_with (refine load_addr_o H16 HRA _ rfl rfl rfl ?_)
          go_ret
          exact ⟨rfl, HB.out⟩
        | true =>
          go_wp2_with (refine load_addr_o H16 HRA _ rfl rfl rfl ?_)
          refine (HMT _).out.mono ?_
          rintro e w1 ⟨rfl, hb1⟩
          replace HR := Lib.hid (HR.out.below hb1)
          replace HB := Lib.hid (chain HB.out hb1)
          clear hb1 c1 c4 c5 c6 HRA
          have c1 := HR.out.ty
          have c4 := HR.out.fam
          have c5 := HR.out.tg
          have c6 := HR.out.da
          have HRA := Lib.hid HR.out.addr
          simp only [Nat.zero_add] at c1 c4 c5 c6 HRA
          cases m2 with
          | false =>
            have ER : R = false := by rw [HBR.out]; simp
            subst ER
            clear HBR
            go_wp2_with (refine load_addr_o H16 HRA _ rfl rfl rfl ?_)
            go_ret
            exact ⟨rfl, HB.out⟩
          | true =>
            by_cases h4 : da.size = 0
            · have hdh4 : decide (da.size = 0) = true := decide_eq_true h4
              rw [hdh4] at HBR
              have heh4 := isEmpty_true da h4
              have ER : R = true := by rw [HBR.out]; rfl
              subst ER
              clear HBR
              go_wp2_with (refine load_addr_o H16 HRA _ rfl rfl rfl ?_)
              go_ret
              exact ⟨rfl, HB.out⟩
            · have hdh4 : decide (da.size = 0) = false := decide_eq_false h4
              rw [hdh4] at HBR
              have heh4 := isEmpty_false da (by omega)
              have ER : R = false := by rw [HBR.out]; simp
              subst ER
              clear HBR
              go_wp2_with (refine load_addr_o H16 HRA _ rfl rfl rfl ?_)
              go_ret
              exact ⟨rfl, HB.out⟩
      · have tbt3 : (ty == 5) = false := by rw [beq_eq_false_iff_ne]; exact t3
        rw [if_neg t3] at HBR
        clear t3
        cases z3 with
        | false =>
          have ER : R = false := by rw [HBR.out]; simp
          subst ER
          clear HBR
          go_wp2_with (refine load_addr_o H16 HRA _ rfl rfl rfl ?_)
          go_ret
          exact ⟨rfl, HB.out⟩
        | true =>
          by_cases h3 : tg.size = 0
          · have hdh3 : decide (tg.size = 0) = true := decide_eq_true h3
            rw [hdh3] at HBR
            have heh3 := isEmpty_true tg h3
            by_cases h5 : da.size ≤ 65535
            · have hd5 : decide (da.size ≤ 65535) = true := decide_eq_true h5
              rw [hd5] at HBR
              have he5 : decide ((da.size : Int) ≤ 65535) = true := decide_eq_true (by omega)
              have ER : R = true := by rw [HBR.out]; rfl
              subst ER
              clear HBR
              go_wp2_with (refine load_addr_o H16 HRA _ rfl rfl rfl ?_)
              go_ret
              exact ⟨rfl, HB.out⟩
            · have hd5 : decide (da.size ≤ 65535) = false := decide_eq_false h5
              rw [hd5] at HBR
              have he5 : decide ((da.size : Int) ≤ 65535) = false := decide_eq_false (by omega)
              have ER : R = false := by rw [HBR.out]; simp
              subst ER
              clear HBR
              go_wp2_with (refine load_addr_o H16 HRA _ rfl rfl rfl ?_)
              go_ret
              exact ⟨rfl, HB.out⟩
          · have hdh3 : decide (tg.size = 0) = false := decide_eq_false h3
            rw [hdh3] at HBR
            have heh3 := isEmpty_false tg (by omega)
            have ER : R = false := by rw [HBR.out]; simp
            subst ER
            clear HBR
            go_wp2_with (refine load_addr_o H16 HRA _ rfl rfl rfl ?_)
            go_ret
            exact ⟨rfl, HB.out⟩
end Go.Proofs.Yticdpidngmeebaa
/- Contract of the landed wire's mayRecords. -/
namespace Go.Proofs.Yticdpidngmeebaa
open Go.RowKit
set_option linter.unusedVariables false
set_option maxRecDepth 20000

set_option maxRecDepth 100000 in
set_option maxHeartbeats 4000000 in
theorem mayRecords_any (a : Option Addr) (cap : Nat) (D : List Rec) (w : World) (hD : RecsAt w a cap D) (hr : ∀ r ∈ D, Room r) (hl : D.length ≤ 1000000) :
    Calls Try.prog 39 #[.slice a D.length cap] w fun e w' => e = .returned (.bool (D.all mayR)) ∧ Below w.heap.size w w' := by
  have HD := Lib.hid hD
  have HRM := Lib.hid hr
  obtain ⟨R, hR⟩ : ∃ R, D.all mayR = R := ⟨_, rfl⟩
  have HAL := Lib.hid hR
  rw [hR]
  obtain ⟨N, hN⟩ : ∃ N, D.length = N := ⟨_, rfl⟩
  have HN := Lib.hid hN
  rw [hN] at hl ⊢
  clear hD hr hR hN
  go_enter Try.func39, Try.ntmps39
  go_wp2_with fail
  go_loopw [7] (fun i wr => ∃ k : Nat, k ≤ N ∧ i = .int .i64 (k : Int) ∧ Hid (∀ j (h : j < D.length), j < k → mayR D[j] = true) ∧ Hid (Below w.heap.size w wr)) (fun i _ => N - (intOf i).toNat)
  case atStart => exact ⟨0, Nat.zero_le _, rfl, Lib.hid (fun j _ h => absurd h (by omega)), Lib.hid (Below.refl _ _)⟩
  case round =>
    obtain ⟨k, hk, rfl, HO, HB⟩ := hrel
    by_cases hkN : k < N
    · have hd : decide ((k : Int) < (N : Int)) = true := decide_eq_true (by omega)
      have hdn : decide (k < N) = true := decide_eq_true hkN
      have hkD : k < D.length := by rw [HN.out]; exact hkN
      obtain ⟨g, o, ha, hg, hrg⟩ := (HD.out.below HB.out).at k hkD
      subst ha
      have HRG := Lib.hid hrg
      have hfit := HD.out.2.2.1 _ (List.getElem_mem hkD)
      have hroom := HRM.out _ (List.getElem_mem hkD)
      have H16 := Lib.hid hfit.1
      have HMN := fun W => Lib.hid (may_any (D[k]).name W (by have := hroom.1; omega))
      have HDA := fun W => Lib.hid (mayData_any D[k] W hfit hroom.2)
      have HNU := fun W => Lib.hid (mayNums2 (D[k]).ty (D[k]).cl W)
      have HIS := Lib.hid (mayR_is D[k])
      have HO2 : Hid (mayR D[k] = true → ∀ j (h : j < D.length), j < k + 1 → mayR D[j] = true) := Lib.hid (fun e j h hj => by
        by_cases h2 : j < k
        · exact HO.out j h h2
        · obtain rfl : j = k := by omega
          exact e)
      have HF : Hid (mayR D[k] = false → R = false) := Lib.hid (fun e => by
        rw [← HAL.out, List.all_eq_false]
        exact ⟨D[k], List.getElem_mem hkD, by rw [e]; decide⟩)
      generalize D[k] = r at *
      generalize mayR r = mr at *
      generalize mayD r = md at *
      generalize mayN r.name = m1 at *
      generalize (wordN r.ty && wordN r.cl) = m2 at *
      have hb1 : (0 : Int) ≤ (k : Int) := by omega
      have hb2 : (k : Int) < (N : Int) := by omega
      have HZ := Lib.hid (rec_zeroed wr)
      have HZB : Hid (Below wr.heap.size wr (wr.alloc (.cells zC 42))) := Lib.hid ((Below.refl _ _).alloc (Nat.le_refl _) _)
      have HLW : Hid (w.heap.size ≤ wr.heap.size) := Lib.hid HB.out.size
      clear hrg hfit hroom hg HO
      go_upto_region 4 with (first | refine load_rec H16 HRG _ rfl rfl rfl ?_ | refine store_rec HZ _ _ H16 rfl rfl rfl rfl (fun W HW HX => ?_))
      have HB2 : Hid (Below w.heap.size w W) := Lib.hid (by rw [HW.out]; exact below_cells HLW.out _ _ _ (chain HB.out HZB.out))
      generalize wr.heap.size = P at *
      clear HW HZ HZB HB HRG HLW
      have c0 := HX.out.parts.name
      go_wp2_with fail
      refine (HMN _).out.mono ?_
      rintro e w2 ⟨rfl, hbx⟩
      replace HX := Lib.hid (HX.out.below hbx)
      replace HB2 := Lib.hid (chain HB2.out hbx)
      clear hbx HMN c0
      have c1 := HX.out.parts.ty
      have c2 := HX.out.parts.cl
      simp only [Nat.zero_add] at c1 c2
      cases m1 with
      | false =>
        have ER := HF.out (by rw [HIS.out]; rfl)
        subst ER
        clear HO2 HF HIS
        go_wp2_with fail
        go_ret
        exact ⟨rfl, HB2.out⟩
      | true =>
        go_wp2_with fail
        refine (HNU _).out.mono ?_
        rintro e w3 ⟨rfl, hw3⟩
        have hbx : Below w2.heap.size w2 w3 := by rw [hw3]; exact (Below.refl _ _).alloc (Nat.le_refl _) _
        replace HX := Lib.hid (HX.out.below hbx)
        replace HB2 := Lib.hid (chain HB2.out hbx)
        clear hw3 hbx HNU c1 c2
        have c3 := HX.out.parts.ttl
        simp only [Nat.zero_add] at c3
        cases m2 with
        | false =>
          have ER := HF.out (by rw [HIS.out]; rfl)
          subst ER
          clear HO2 HF HIS
          go_wp2_with fail
          go_ret
          exact ⟨rfl, HB2.out⟩
        | true =>
          by_cases h0 : r.ttl < 0
          · have hd0 : decide (r.ttl < 0) = true := decide_eq_true h0
            have ER := HF.out (by rw [HIS.out, decide_eq_false (show ¬ 0 ≤ r.ttl by omega)]; rfl)
            subst ER
            clear HO2 HF HIS
            go_wp2_with fail
            go_ret
            exact ⟨rfl, HB2.out⟩
          · have hd0 : decide (r.ttl < 0) = false := decide_eq_false h0
            have he0 : decide (0 ≤ r.ttl) = true := decide_eq_true (by omega)
            rw [he0] at HIS
            by_cases h1 : 2147483647 < r.ttl
            · have hd1 : decide (2147483647 < r.ttl) = true := decide_eq_true h1
              have ER := HF.out (by rw [HIS.out, decide_eq_false (show ¬ r.ttl ≤ 2147483647 by omega)]; rfl)
              subst ER
              clear HO2 HF HIS
              go_wp2_with fail
              go_ret
              exact ⟨rfl, HB2.out⟩
            · have hd1 : decide (2147483647 < r.ttl) = false := decide_eq_false h1
              have he1 : decide (r.ttl ≤ 2147483647) = true := decide_eq_true (by omega)
              rw [he1] at HIS
              clear he0 he1
              go_wp2_with (refine load_recAt HX _ rfl rfl rfl ?_)
              refine (HDA _).out.mono ?_
              rintro e w4 ⟨rfl, hbx⟩
              replace HB2 := Lib.hid (chain HB2.out hbx)
              clear hbx HDA HX c3 hd0 hd1 h0 h1
              cases md with
              | false =>
                have ER := HF.out (by rw [HIS.out]; rfl)
                subst ER
                clear HO2 HF HIS
                go_wp2_with fail
                go_ret
                exact ⟨rfl, HB2.out⟩
              | true =>
                have HO3 := Lib.hid (HO2.out (by rw [HIS.out]; rfl))
                clear HO2 HF HIS
                go_wp2_with fail
                go_roundw
                case rel => exact ⟨k + 1, by omega, by go_num, HO3, HB2⟩
                case measure => simp [intOf]; omega
    · obtain rfl : k = N := by omega
      have hd : decide ((k : Int) < (k : Int)) = false := by simp
      have ER : R = true := by
        rw [← HAL.out, List.all_eq_true]
        intro r hr
        obtain ⟨j, hj, rfl⟩ := List.getElem_of_mem hr
        exact HO.out j hj (by rw [← HN.out]; exact hj)
      subst ER
      clear HO
      go_wp2_with fail
      go_ret
      exact ⟨rfl, HB.out⟩
end Go.Proofs.Yticdpidngmeebaa
/- Contract of the landed wire's May. -/
namespace Go.Proofs.Yticdpidngmeebaa
open Go.RowKit
set_option linter.unusedVariables false
set_option maxRecDepth 20000

set_option maxRecDepth 100000 in
set_option maxHeartbeats 4000000 in
theorem may9_any (m : Msg) (aq a1 a2 a3 : Option Addr) (cq c1 c2 c3 : Nat) (w : World) (hM : MsgIn w m aq a1 a2 a3 cq c1 c2 c3) (hr : RoomM m) :
    Calls Try.prog 13 #[msgV m aq a1 a2 a3 cq c1 c2 c3] w fun e w' => e = .returned (.bool (mayM m)) ∧ Below w.heap.size w w' := by
  unfold msgV
  obtain ⟨hr1, hr2, hr3, hr4, hl1, hl2, hl3, hl4⟩ := hr
  have HMI := Lib.hid hM
  have HQR := Lib.hid hr1
  have HA1 := fun W (h : MsgIn W m aq a1 a2 a3 cq c1 c2 c3) => Lib.hid (mayRecords_any a1 c1 m.an W h.an hr2 hl2)
  have HA2 := fun W (h : MsgIn W m aq a1 a2 a3 cq c1 c2 c3) => Lib.hid (mayRecords_any a2 c2 m.au W h.au hr3 hl3)
  have HA3 := fun W (h : MsgIn W m aq a1 a2 a3 cq c1 c2 c3) => Lib.hid (mayRecords_any a3 c3 m.mo W h.mo hr4 hl4)
  have HNU := fun a b W => Lib.hid (mayNums2 a b W)
  obtain ⟨R, hR⟩ : ∃ R, mayM m = R := ⟨_, rfl⟩
  have HRM : Hid (R = (m.qs.all mayQ9 && wordN m.id && wordN m.fl && m.an.all mayR && m.au.all mayR && m.mo.all mayR)) := Lib.hid hR.symm
  rw [hR]
  obtain ⟨W, hW⟩ : ∃ W, w.alloc (.cells #[.int .i64 m.id, .int .i64 m.fl, .slice aq m.qs.length cq, .slice a1 m.an.length c1, .slice a2 m.au.length c2, .slice a3 m.mo.length c3] 25) = W := ⟨_, rfl⟩
  have HB0 : Hid (Below w.heap.size w W) := Lib.hid (by rw [← hW]; exact (Below.refl _ _).alloc (Nat.le_refl _) _)
  have HBX : Hid (MBox W w.heap.size (.int .i64 m.id) (.int .i64 m.fl) (.slice aq m.qs.length cq) (.slice a1 m.an.length c1) (.slice a2 m.au.length c2) (.slice a3 m.mo.length c3)) := Lib.hid (by rw [← hW]; exact MBox.new w _ _ _ _ _ _ _)
  obtain ⟨N, hN⟩ : ∃ N, m.qs.length = N := ⟨_, rfl⟩
  have HN := Lib.hid hN
  rw [hN] at hl1 HBX hW ⊢
  generalize m.an.all mayR = r1 at *
  generalize m.au.all mayR = r2 at *
  generalize m.mo.all mayR = r3 at *
  generalize m.an.length = n1 at *
  generalize m.au.length = n2 at *
  generalize m.mo.length = n3 at *
  clear hM hr1 hr2 hr3 hr4 hR hN
  go_enter Try.func13, Try.ntmps13
  go_upto_region 1 with fail
  try rw [hW]
  clear hW
  obtain ⟨G, hG⟩ : ∃ G, w.heap.size = G := ⟨_, rfl⟩
  rw [hG] at HBX
  try rw [hG]
  have x0 := HBX.out.c0
  have x1 := HBX.out.c1
  go_wp2_with fail
  refine (HNU _ _ _).out.mono ?_
  rintro e w1 ⟨rfl, hw1⟩
  have hbx : Below W.heap.size W w1 := by rw [hw1]; exact (Below.refl _ _).alloc (Nat.le_refl _) _
  replace HB0 := Lib.hid (chain HB0.out hbx)
  replace HBX := Lib.hid (HBX.out.below hbx)
  clear hw1 hbx x0 x1
  cases hw1 : (wordN m.id && wordN m.fl) with
  | false =>
    have ER : R = false := by
      rw [HRM.out]
      revert hw1
      generalize wordN m.id = u
      generalize wordN m.fl = v
      generalize m.qs.all mayQ9 = x
      cases u <;> cases v <;> cases x <;> simp
    subst ER
    clear HRM
    go_wp2_with fail
    go_ret
    exact ⟨rfl, HB0.out⟩
  | true =>
  have HRM2 : Hid (R = (m.qs.all mayQ9 && r1 && r2 && r3)) := Lib.hid (by
    rw [HRM.out]
    revert hw1
    generalize wordN m.id = u
    generalize wordN m.fl = v
    generalize m.qs.all mayQ9 = x
    cases u <;> cases v <;> cases x <;> simp)
  clear HRM hw1
  have x2 := HBX.out.c2
  go_wp2_with fail
  clear x2
  go_loopw [15] (fun i wr => ∃ k : Nat, k ≤ N ∧ i = .int .i64 (k : Int) ∧ Hid (∀ j (h : j < m.qs.length), j < k → mayQ9 m.qs[j] = true) ∧ Hid (MBox wr G (.int .i64 m.id) (.int .i64 m.fl) (.slice aq N cq) (.slice a1 n1 c1) (.slice a2 n2 c2) (.slice a3 n3 c3)) ∧ Hid (Below w.heap.size w wr)) (fun i _ => N - (intOf i).toNat)
  case atStart => exact ⟨0, Nat.zero_le _, rfl, Lib.hid (fun j _ h => absurd h (by omega)), HBX, HB0⟩
  case round =>
    clear HBX HB0
    obtain ⟨k, hk, rfl, HO, HX, HB⟩ := hrel
    by_cases hkN : k < N
    · have hd : decide ((k : Int) < (N : Int)) = true := decide_eq_true (by omega)
      have hdn : decide (k < N) = true := decide_eq_true hkN
      have hkD : k < m.qs.length := by rw [HN.out]; exact hkN
      have hroom := HQR.out _ (List.getElem_mem hkD)
      have HMN := fun W => Lib.hid (may_any (m.qs[k]).name W (by omega))
      obtain ⟨g, o, ha, hg, z0, z1, z2⟩ := (HMI.out.qs.below HB.out).at k hkD
      subst ha
      have HO2 : Hid (mayQ9 m.qs[k] = true → ∀ j (h : j < m.qs.length), j < k + 1 → mayQ9 m.qs[j] = true) := Lib.hid (fun e j h hj => by
        by_cases h2 : j < k
        · exact HO.out j h h2
        · obtain rfl : j = k := by omega
          exact e)
      have HF : Hid (mayQ9 m.qs[k] = false → R = false) := Lib.hid (fun e => by
        rw [HRM2.out]
        have : m.qs.all mayQ9 = false := by
          rw [List.all_eq_false]
          exact ⟨m.qs[k], List.getElem_mem hkD, by rw [e]; decide⟩
        rw [this]
        rfl)
      generalize m.qs[k] = q at *
      obtain ⟨nm, ty, cl⟩ := q
      simp only at HMN z0 z1 z2
      have HQE : Hid (mayQ9 ⟨nm, ty, cl⟩ = (mayN nm && (wordN ty && wordN cl))) := Lib.hid (Bool.and_assoc _ _ _)
      generalize mayQ9 ⟨nm, ty, cl⟩ = mq at *
      generalize mayN nm = m1 at *
      have hb1 : (0 : Int) ≤ (k : Int) := by omega
      have hb2 : (k : Int) < (N : Int) := by omega
      have HVB : Hid (Below wr.heap.size wr (wr.alloc (.cells #[.string nm, .int .i64 ty, .int .i64 cl] 51))) := Lib.hid ((Below.refl _ _).alloc (Nat.le_refl _) _)
      have HVC : Hid ((wr.alloc (.cells #[.string nm, .int .i64 ty, .int .i64 cl] 51)).rangeAt wr.heap.size 0 (quL ⟨nm, ty, cl⟩)) := Lib.hid (built_new 51)
      clear hroom hg HO
      go_upto_region 6 with fail
      replace HX := Lib.hid (HX.out.below HVB.out)
      replace HB := Lib.hid (chain HB.out HVB.out)
      have HLV : Hid (wr.heap.size < (wr.alloc (.cells #[.string nm, .int .i64 ty, .int .i64 cl] 51)).heap.size) := Lib.hid (by simp)
      obtain ⟨V, hV⟩ : ∃ V, wr.alloc (.cells #[.string nm, .int .i64 ty, .int .i64 cl] 51) = V := ⟨_, rfl⟩
      rw [hV] at HX HB HVC HLV
      try rw [hV]
      generalize wr.heap.size = P at *
      clear HVB hV z0 z1 z2
      have y0 := HVC.out 0 _ rfl
      go_wp2_with fail
      refine (HMN _).out.mono ?_
      rintro e w2 ⟨rfl, hbx⟩
      replace HB := Lib.hid (chain HB.out hbx)
      replace HX := Lib.hid (HX.out.below hbx)
      have y1 := (hbx.cell (p := ⟨P, 1, none⟩) HLV.out).trans (HVC.out 1 _ rfl)
      have y2 := (hbx.cell (p := ⟨P, 2, none⟩) HLV.out).trans (HVC.out 2 _ rfl)
      clear hbx HMN y0 HVC HLV
      cases m1 with
      | false =>
        have ER := HF.out HQE.out
        subst ER
        clear HF HO2 HQE
        go_wp2_with fail
        go_ret
        exact ⟨rfl, HB.out⟩
      | true =>
        go_wp2_with fail
        refine (HNU _ _ _).out.mono ?_
        rintro e w3 ⟨rfl, hw3⟩
        have hbx : Below w2.heap.size w2 w3 := by rw [hw3]; exact (Below.refl _ _).alloc (Nat.le_refl _) _
        replace HX := Lib.hid (HX.out.below hbx)
        replace HB := Lib.hid (chain HB.out hbx)
        clear hw3 hbx y1 y2
        cases hww : (wordN ty && wordN cl) with
        | false =>
          rw [hww] at HQE
          have ER := HF.out HQE.out
          subst ER
          clear HF HO2 HQE
          go_wp2_with fail
          go_ret
          exact ⟨rfl, HB.out⟩
        | true =>
          rw [hww] at HQE
          have HO3 := Lib.hid (HO2.out HQE.out)
          clear HF HO2 HQE hww
          go_wp2_with fail
          go_roundw
          case rel => exact ⟨k + 1, by omega, by go_num, HO3, HX, HB⟩
          case measure => simp [intOf]; omega
    · obtain rfl : k = N := by omega
      have hd : decide ((k : Int) < (k : Int)) = false := by simp
      have HAL : Hid (m.qs.all mayQ9 = true) := Lib.hid (by
        rw [List.all_eq_true]
        intro r hr
        obtain ⟨j, hj, rfl⟩ := List.getElem_of_mem hr
        exact HO.out j hj (by rw [← HN.out]; exact hj))
      have ER := HRM2.out
      rw [HAL.out] at ER
      subst ER
      have x3 := HX.out.c3
      clear HO HAL HRM2
      go_wp2_with fail
      refine (HA1 _ (HMI.out.below HB.out)).out.mono ?_
      rintro e w2 ⟨rfl, hbx⟩
      replace HB := Lib.hid (chain HB.out hbx)
      replace HX := Lib.hid (HX.out.below hbx)
      clear hbx HA1 x3
      have x4 := HX.out.c4
      cases r1 with
      | false =>
        go_wp2_with fail
        go_ret
        exact ⟨rfl, HB.out⟩
      | true =>
        go_wp2_with fail
        refine (HA2 _ (HMI.out.below HB.out)).out.mono ?_
        rintro e w3 ⟨rfl, hbx⟩
        replace HB := Lib.hid (chain HB.out hbx)
        replace HX := Lib.hid (HX.out.below hbx)
        clear hbx HA2 x4
        have x5 := HX.out.c5
        cases r2 with
        | false =>
          go_wp2_with fail
          go_ret
          exact ⟨rfl, HB.out⟩
        | true =>
          go_wp2_with fail
          refine (HA3 _ (HMI.out.below HB.out)).out.mono ?_
          rintro e w4 ⟨rfl, hbx⟩
          replace HB := Lib.hid (chain HB.out hbx)
          clear hbx HA3 x5 HX
          cases r3 with
          | false =>
            go_wp2_with fail
            go_ret
            exact ⟨rfl, HB.out⟩
          | true =>
            go_wp2_with fail
            go_ret
            exact ⟨rfl, HB.out⟩
end Go.Proofs.Yticdpidngmeebaa
/- A writer of names as it lies in memory: its bytes, its map of names; kept beside other writes. -/
namespace Go.Proofs.Yticdpidngmeebaa
open Go.RowKit Go.Maps
set_option linter.unusedVariables false
set_option maxRecDepth 20000

abbrev DU := DataW Unit
def keyS (x : ByteArray) : Lit := .string x.data.toList
/-- What is kept is told. -/
def TellsM (D : DU) (ns : List ByteArray) (ats : List Nat) : Prop :=
  ∀ x : ByteArray, Maps.has D (keyS x) = (find8 ns ats x).isSome ∧ ∀ n, find8 ns ats x = some n → D.atKey (keyS x) (.lit (.int .i64 0)) = .lit (.int .i64 ((n : Nat) : Int))
/-- A map of names, which may be nil. -/
def MapAt (w : World) (B : Nat) (m : Option Nat) (ns : List ByteArray) (ats : List Nat) : Prop :=
  match m with
  | none => ns = [] ∧ ats = []
  | some b => B ≤ b ∧ ∃ n D, w.ownsMap Try.prog 9 (plainElem (H := Unit) Try.prog 3) b n D ∧ n ≤ ns.length ∧ TellsM D ns ats
theorem Try.lawS : Keyed Try.prog 9 := string_keyed Try.underlying9
theorem Try.zeroInt8 (w : World) : (zeroValue 3).run Try.prog w = .ok (.int .i64 0) w := by kernel_rfl
theorem key_is (x : ByteArray) (hx : x.size ≤ 2000000) : keyOf Try.prog 9 (.string x) = some (keyS x) := WideMaps.keyOf_string_mk (P := Try.prog) Try.underlying9 (by unfold maxLen; omega)
theorem key_lit (x : ByteArray) : WideAt.IsKeyLit (keyS x) := trivial
theorem key_inj {x y : ByteArray} (h : keyS x = keyS y) : x = y := bytes_ext (by unfold keyS at h; injection h)
theorem find8_snoc : ∀ (ns : List ByteArray) (ats : List Nat) (x : ByteArray) (n : Nat) (y : ByteArray), ats.length = ns.length → find8 (ns ++ [x]) (ats ++ [n]) y = match find8 ns ats y with | some k => some k | none => if x = y then some n else none
  | [], [], x, n, y, _ => by simp [find8]
  | [], _ :: _, _, _, _, h => by simp at h
  | _ :: _, [], _, _, _, h => by simp at h
  | p :: ns, a :: ats, x, n, y, h => by
    have ih := find8_snoc ns ats x n y (by simpa using h)
    simp only [List.cons_append, find8]
    by_cases hp : p = y
    · rw [if_pos hp, if_pos hp]
    · rw [if_neg hp, if_neg hp, ih]
/-- A name looked up. -/
theorem MapAt.look {w : World} {B : Nat} {m : Option Nat} {ns : List ByteArray} {ats : List Nat} (h : MapAt w B m ns ats) (x : ByteArray) (hx : x.size ≤ 2000000) :
    (Instr.lookup 58 (.map m) (.string x) true).run Try.prog w = .ok (.tuple #[.int .i64 (((find8 ns ats x).getD 0 : Nat) : Int), .bool (find8 ns ats x).isSome]) w := by
  cases m with
  | none =>
    obtain ⟨rfl, rfl⟩ := h
    have := Maps.look_nil (P := Try.prog) (w := w) true Try.lawS Try.underlying58 (Try.zeroInt8 w) (key_is x hx)
    rw [this]
    rfl
  | some b =>
    obtain ⟨_, n, D, ho, _, ht⟩ := h
    obtain ⟨v, ps, hr, hv⟩ := ho.look_ok Try.lawS Try.underlying58 (Try.zeroInt8 w) (plainElem_int Try.underlying3 (by decide)) (key_is x hx)
    obtain ⟨c, rfl, hc, _⟩ := plainElem_int_inv Try.underlying3 hv
    rw [hr, (ht x).1]
    have hc1 : D.atKey (keyS x) (.lit (.int .i64 0)) = .lit (.int .i64 c) := (Prod.mk.inj hc).1
    cases hf : find8 ns ats x with
    | none =>
      have hn : Maps.has D (keyS x) = false := by rw [(ht x).1, hf]; rfl
      rw [Maps.atKey_of_not_has hn] at hc1
      have : c = 0 := by injection hc1 with h; injection h with _ h; exact h.symm
      rw [this]
      rfl
    | some k =>
      rw [(ht x).2 k hf] at hc1
      have : c = ((k : Nat) : Int) := by injection hc1 with h; injection h with _ h; exact h.symm
      rw [this]
      rfl
/-- A new name kept. -/
theorem MapAt.store {w : World} {B b : Nat} {ns : List ByteArray} {ats : List Nat} (h : MapAt w B (some b) ns ats) (x : ByteArray) (n : Nat) (hx : x.size ≤ 2000000) (hn : n ≤ 2000000) (hns : ns.length ≤ 2000000) (hl : ats.length = ns.length) (hf : find8 ns ats x = none) :
    ∃ w', (Instr.mapUpdate 58 (.map (some b)) (.string x) (.int .i64 (n : Int))).run Try.prog w = .ok () w' ∧ MapAt w' B (some b) (ns ++ [x]) (ats ++ [n]) ∧ w.grownBy w' (some b) := by
  obtain ⟨hB, k, D, ho, hk, ht⟩ := h
  have wf : (Lit.int .i64 (n : Int)).wf = true := WalkArith.wf_i64 (by omega)
  obtain ⟨w', hr, ho', hg⟩ := ho.update Try.lawS Try.underlying58 (by unfold maxLen; omega) (key_is x hx) (plainElem_int (H := Unit) Try.underlying3 wf)
  refine ⟨w', hr, ⟨hB, k + 1, _, ho', by simp; omega, fun y => ?_⟩, hg⟩
  rw [find8_snoc ns ats x n y hl]
  by_cases hxy : x = y
  · subst hxy
    rw [hf, if_pos rfl]
    refine ⟨Maps.has_put_same ho.isMap (key_lit x) _, fun q hq => ?_⟩
    have : n = q := by simpa using hq
    subst this
    exact Maps.atKey_put_same ho.isMap (key_lit x) _ _
  · have hne : keyS y ≠ keyS x := fun e => hxy (key_inj e).symm
    rw [if_neg hxy, Maps.has_put_other hne, Maps.atKey_put_other hne]
    have hy := ht y
    cases hf2 : find8 ns ats y with
    | none => rw [hf2] at hy; exact hy
    | some q => rw [hf2] at hy; exact hy
theorem mapAt_made (w : World) (B : Nat) (hB : B ≤ w.heap.size) : MapAt (w.alloc (.map #[] 0)) B (some w.heap.size) [] [] :=
  ⟨hB, 0, _, World.ownsMap_made w _ _ _, Nat.le_refl _, fun x => ⟨rfl, fun n hn => by cases hn⟩⟩
theorem MapAt.kept {w w' : World} {B : Nat} {m : Option Nat} {ns : List ByteArray} {ats : List Nat} (h : MapAt w B m ns ats) (hk : ∀ b, m = some b → w'.heap[b]? = w.heap[b]?) : MapAt w' B m ns ats := by
  cases m with
  | none => exact h
  | some b =>
    obtain ⟨hB, n, D, ⟨es, cl, hb, r⟩, hn, ht⟩ := h
    exact ⟨hB, n, D, ⟨es, cl, (hk b rfl).trans hb, r⟩, hn, ht⟩
theorem MapAt.block {w : World} {B b : Nat} {ns : List ByteArray} {ats : List Nat} (h : MapAt w B (some b) ns ats) : ∃ es cl, w.heap[b]? = some (.map es cl) := by
  obtain ⟨_, n, D, ⟨es, cl, hb, _⟩, _⟩ := h
  exact ⟨es, cl, hb⟩
theorem MapAt.lt {w : World} {B b : Nat} {ns : List ByteArray} {ats : List Nat} (h : MapAt w B (some b) ns ats) : b < w.heap.size := by
  obtain ⟨_, _, hb⟩ := h.block
  exact (Array.getElem?_eq_some_iff.1 hb).1
/-- A writer at block G. -/
structure WrAt (w : World) (G B : Nat) (vB : Value) (m : Option Nat) (l : List UInt8) (ns : List ByteArray) (ats : List Nat) : Prop where
  c0 : w.cell? ⟨G, 0, none⟩ = some vB
  c1 : w.cell? ⟨G, 1, none⟩ = some (.map m)
  f0 : w.frozen? ⟨G, 0, none⟩ = false
  f1 : w.frozen? ⟨G, 1, none⟩ = false
  rb : w.ownsRow B 5 1 vB l.length (bys l)
  mp : MapAt w B m ns ats
  nb : vB.ownBlock ≠ some G
  gb : B ≤ G
def wblk (G : Nat) (vB : Value) (m : Option Nat) : List Nat := [G] ++ vB.ownBlock.toList ++ m.toList
theorem mem_wblk {G k : Nat} {vB : Value} {m : Option Nat} : k ∈ wblk G vB m ↔ k = G ∨ vB.ownBlock = some k ∨ m = some k := by simp [wblk]
section
variable {w w' : World} {G B : Nat} {vB : Value} {m : Option Nat} {l : List UInt8} {ns : List ByteArray} {ats : List Nat}
theorem WrAt.lt (h : WrAt w G B vB m l ns ats) : G < w.heap.size := World.block_lt_of_cell? w ⟨G, 0, none⟩ h.c0
theorem WrAt.mG (h : WrAt w G B vB m l ns ats) : m ≠ some G := by
  rintro rfl
  obtain ⟨es, cl, hb⟩ := h.mp.block
  have := h.c0
  simp [World.cell?, hb] at this
theorem WrAt.mB (h : WrAt w G B vB m l ns ats) (b : Nat) (hm : m = some b) : vB.ownBlock ≠ some b := by
  subst hm
  intro e
  obtain ⟨es, cl, hb⟩ := h.mp.block
  rcases h.rb.2 with ⟨rfl, _⟩ | ⟨g, cap, cur, rfl, _, e3, _⟩
  · cases e
  · cases e
    rw [e3] at hb
    cases hb
theorem WrAt.kept (h : WrAt w G B vB m l ns ats) (hk : ∀ k ∈ wblk G vB m, w'.heap[k]? = w.heap[k]?) : WrAt w' G B vB m l ns ats := by
  have hG := hk G (mem_wblk.2 (.inl rfl))
  exact ⟨(World.cell?_of_block (a := ⟨G, 0, none⟩) hG).trans h.c0, (World.cell?_of_block (a := ⟨G, 1, none⟩) hG).trans h.c1, (World.frozen?_of_block (a := ⟨G, 0, none⟩) hG).trans h.f0, (World.frozen?_of_block (a := ⟨G, 1, none⟩) hG).trans h.f1, own_kept h.rb (fun g hg => hk g (mem_wblk.2 (.inr (.inl hg)))), h.mp.kept (fun b hb => hk b (mem_wblk.2 (.inr (.inr hb)))), h.nb, h.gb⟩
theorem WrAt.blk_lt (h : WrAt w G B vB m l ns ats) : ∀ k ∈ wblk G vB m, k < w.heap.size := by
  intro k hk
  rcases mem_wblk.1 hk with rfl | e | rfl
  · exact h.lt
  · exact (h.rb.lt k e).2
  · exact h.mp.lt
theorem WrAt.blk_ge (h : WrAt w G B vB m l ns ats) : ∀ k ∈ wblk G vB m, B ≤ k := by
  intro k hk
  rcases mem_wblk.1 hk with rfl | e | rfl
  · exact h.gb
  · exact (h.rb.lt k e).1
  · exact h.mp.1
/-- Bytes put behind, the field stored. -/
theorem WrAt.put0 (h : WrAt w G B vB m l ns ats) {v' : Value} {l' : List UInt8} (hown : w'.ownsRow B 5 1 v' l'.length (bys l')) (hg : w.grownBy w' vB.ownBlock) (hf : Foot vB.ownBlock.toList v'.ownBlock.toList w w') :
    WrAt (w'.setCell ⟨G, 0, none⟩ v') G B v' m l' ns ats ∧ Foot (wblk G vB m) (wblk G v' m) w (w'.setCell ⟨G, 0, none⟩ v') := by
  have hnew : ∀ k, v'.ownBlock = some k → vB.ownBlock = some k ∨ w.heap.size ≤ k := fun k hk => (hf.new k (by rw [hk]; simp)).imp (fun e => by simpa using e) id
  have hset : ∀ k, k ≠ G → (w'.setCell ⟨G, 0, none⟩ v').heap[k]? = w'.heap[k]? := fun k hk => Below.heap_setCell w' ⟨G, 0, none⟩ v' k hk
  have hssz : (w'.setCell ⟨G, 0, none⟩ v').heap.size = w'.heap.size := by simp [World.setCell]
  have hG : w'.heap[G]? = w.heap[G]? := hg.block G h.lt (fun e => h.nb e.symm)
  have hl := h.lt
  have hnG : v'.ownBlock ≠ some G := fun e => by
    rcases hnew G e with e | e
    · exact h.nb e
    · omega
  refine ⟨⟨World.cell?_setCell_same _ _ _ ((World.cell?_of_block (a := ⟨G, 0, none⟩) hG).trans h.c0), (World.cell?_setCell_other _ _ _ _ (by intro h; injection h; omega)).trans ((World.cell?_of_block (a := ⟨G, 1, none⟩) hG).trans h.c1), by rw [World.frozen?_setCell]; exact (World.frozen?_of_block (a := ⟨G, 0, none⟩) hG).trans h.f0, by rw [World.frozen?_setCell]; exact (World.frozen?_of_block (a := ⟨G, 1, none⟩) hG).trans h.f1, own_kept hown (fun k hk => hset k (fun e => hnG (by rw [← e]; exact hk))), h.mp.kept (fun b hb => (hset b (fun e => h.mG (by rw [hb, e]))).trans (hg.block b (by subst hb; exact h.mp.lt) (fun e => h.mB b hb e.symm))), hnG, h.gb⟩, ?_⟩
  refine ⟨hg.os, hg.tape, hg.output, by rw [hssz]; exact hg.size, fun k hk hn => ?_, fun k hk => ?_⟩
  · rw [hset k (fun e => hn (mem_wblk.2 (.inl e)))]
    exact hg.block k hk (fun e => hn (mem_wblk.2 (.inr (.inl e.symm))))
  · rcases mem_wblk.1 hk with e | e | e
    · exact .inl (mem_wblk.2 (.inl e))
    · exact (hnew k e).imp (fun e => mem_wblk.2 (.inr (.inl e))) id
    · exact .inl (mem_wblk.2 (.inr (.inr e)))
/-- A name kept. -/
theorem WrAt.noted {b : Nat} {x : ByteArray} {n : Nat} (h : WrAt w G B vB (some b) l ns ats) (hm : MapAt w' B (some b) (ns ++ [x]) (ats ++ [n])) (hg : w.grownBy w' (some b)) :
    WrAt w' G B vB (some b) l (ns ++ [x]) (ats ++ [n]) ∧ Foot (wblk G vB (some b)) (wblk G vB (some b)) w w' := by
  have hG : w'.heap[G]? = w.heap[G]? := hg.block G h.lt (fun e => h.mG e.symm)
  refine ⟨⟨(World.cell?_of_block (a := ⟨G, 0, none⟩) hG).trans h.c0, (World.cell?_of_block (a := ⟨G, 1, none⟩) hG).trans h.c1, (World.frozen?_of_block (a := ⟨G, 0, none⟩) hG).trans h.f0, (World.frozen?_of_block (a := ⟨G, 1, none⟩) hG).trans h.f1, own_kept h.rb (fun g hg2 => hg.block g (h.rb.lt g hg2).2 (fun e => h.mB b rfl (by rw [hg2]; exact e))), hm, h.nb, h.gb⟩, hg.os, hg.tape, hg.output, hg.size, fun k hk hn => hg.block k hk (fun e => hn (mem_wblk.2 (.inr (.inr e.symm)))), fun k hk => .inl hk⟩
/-- The map made. -/
theorem WrAt.made (h : WrAt w G B vB none l ns ats) (hB : B ≤ w.heap.size) :
    WrAt ((w.alloc (.map #[] 0)).setCell ⟨G, 1, none⟩ (.map (some w.heap.size))) G B vB (some w.heap.size) l ns ats ∧ Foot (wblk G vB none) (wblk G vB (some w.heap.size)) w ((w.alloc (.map #[] 0)).setCell ⟨G, 1, none⟩ (.map (some w.heap.size))) := by
  obtain ⟨rfl, rfl⟩ := h.mp
  have hl := h.lt
  have hb : Below w.heap.size w (w.alloc (.map #[] 0)) := (Below.refl _ _).alloc (Nat.le_refl _) _
  have hset : ∀ k, k ≠ G → ((w.alloc (.map #[] 0)).setCell ⟨G, 1, none⟩ (.map (some w.heap.size))).heap[k]? = (w.alloc (.map #[] 0)).heap[k]? := fun k hk => Below.heap_setCell _ ⟨G, 1, none⟩ _ k hk
  have hG : (w.alloc (.map #[] 0)).heap[G]? = w.heap[G]? := hb.block G hl
  refine ⟨⟨(World.cell?_setCell_other _ _ _ _ (by intro h; injection h; omega)).trans ((World.cell?_of_block (a := ⟨G, 0, none⟩) hG).trans h.c0), World.cell?_setCell_same _ _ _ ((World.cell?_of_block (a := ⟨G, 1, none⟩) hG).trans h.c1), by rw [World.frozen?_setCell]; exact (World.frozen?_of_block (a := ⟨G, 0, none⟩) hG).trans h.f0, by rw [World.frozen?_setCell]; exact (World.frozen?_of_block (a := ⟨G, 1, none⟩) hG).trans h.f1, own_kept (own_below8 h.rb hb) (fun k hk => hset k (fun e => h.nb (by rw [← e]; exact hk))), (mapAt_made w B hB).kept (fun b hb2 => hset b (by cases hb2; omega)), h.nb, h.gb⟩, ?_⟩
  refine ⟨rfl, rfl, rfl, by simp [World.setCell], fun k hk hn => ?_, fun k hk => ?_⟩
  · rw [hset k (fun e => hn (mem_wblk.2 (.inl e)))]
    exact hb.block k hk
  · rcases mem_wblk.1 hk with e | e | e
    · exact .inl (mem_wblk.2 (.inl e))
    · exact .inl (mem_wblk.2 (.inr (.inl e)))
    · cases e; exact .inr (Nat.le_refl _)
end
end Go.Proofs.Yticdpidngmeebaa
/- Contracts of the landed writer: Len, Raw, Bytes, note. -/
namespace Go.Proofs.Yticdpidngmeebaa
open Go.RowKit Go.Maps
set_option linter.unusedVariables false
set_option maxRecDepth 20000

theorem wlen_any {w : World} {G B : Nat} {vB : Value} {m : Option Nat} {l : List UInt8} {ns : List ByteArray} {ats : List Nat} (h : WrAt w G B vB m l ns ats) :
    Calls Try.prog 58 #[.pointer (some ⟨G, 0, none⟩)] w fun e w' => e = .returned (.int .i64 (l.length : Int)) ∧ w' = w := by
  obtain ⟨a, c, rfl⟩ := own_slice h.rb
  have hc := h.c0
  clear h
  go_enter Try.func58, Try.ntmps58
  go_wp2_with fail
  go_ret
  exact ⟨rfl, rfl⟩
theorem run_build0 (w : World) : (Instr.buildSlice 27 0 #[]).run Try.prog w = .ok (.slice (some ⟨w.heap.size, 0, none⟩) 0 0) (w.alloc (.cells #[] 5)) := by
  have hu : (underlying 27).run Try.prog w = .ok _ w := run_underlying Try.underlying27 w
  have hnr : ∀ cs : Array Value, (newRow 5 cs).run Try.prog w = .ok ⟨w.heap.size, 0, none⟩ (w.alloc (.cells cs 5)) := fun cs => by simp [newRow]
  unfold Instr.buildSlice
  simp [Sem.run_bind, hu, hnr, Instr.fill]
  rw [show Array.map (fun _ => (default : Value)) (Array.range 0) = #[] from Array.eq_empty_of_size_eq_zero (by simp)]
theorem build_step0 {ops : Array Oper} {rest : List Oper} {op : Oper} {a : Act} {w : World} {Q : Exit → Act → World → Prop} (hg : op.guard = none) (ho : op.op = .buildSlice 27 0 #[])
    (h : ∀ W, Hid (W = w.alloc (.cells #[] 5)) → wpList Try.prog ops Q rest (a.put op.dst (.slice (some ⟨w.heap.size, 0, none⟩) 0 0)) W) : wpList Try.prog ops Q (op :: rest) a w := by
  refine wpList_plain hg fun K hK => ?_
  unfold Oper.wp execOp
  simp only [ho, List.map_toArray, List.map_nil, Sem.run_bind, run_build0 w, Result.andThen_ok]
  exact hK _ _ (h _ (Lib.hid rfl))
theorem own_empty (w : World) : (w.alloc (.cells #[] 5)).ownsRow w.heap.size 5 1 (.slice (some ⟨w.heap.size, 0, none⟩) 0 0) ([] : List UInt8).length (bys []) :=
  ⟨rfl, .inr ⟨w.heap.size, 0, #[], rfl, Nat.le_refl _, by show (w.heap.push _)[w.heap.size]? = _; simp, Nat.le_refl _, Nat.zero_le _, rfl, rfl⟩⟩
/-- Bytes of a row of one's own, cell by cell. -/
theorem own_bcells {w : World} {B g n c : Nat} {l : List UInt8} (h : w.ownsRow B 5 1 (.slice (some ⟨g, 0, none⟩) n c) l.length (bys l)) : ∀ j u, (bys l)[j]? = some u → w.cell? ⟨g, j, none⟩ = some u := by
  intro j u hu
  have := h.cells (g := g) rfl j u hu
  rwa [add_none] at this
set_option maxRecDepth 100000 in
theorem clone_any {w : World} {B : Nat} {v : Value} {l : List UInt8} (h : w.ownsRow B 5 1 v l.length (bys l)) (hl : l.length ≤ 2000000) :
    Calls Try.prog 81 #[v] w fun e w' => ∃ v', e = .returned v' ∧ w'.ownsRow w.heap.size 5 1 v' l.length (bys l) ∧ Below w.heap.size w w' := by
  have q : ∀ (w : World) (a : Option Addr) (n c n' c' : Nat), (binOp .eql 27 (.slice a n c) (.slice none n' c')).run Try.prog w = .ok (.bool a.isNone) w := fun w a n c n' c' => Lib.run_eql_slice_nil w _ _ a n c n' c' Try.underlying27
  rcases h.2 with ⟨h1, h2⟩ | ⟨g, cap, cur, h1, _⟩
  · obtain rfl : l = [] := List.eq_nil_of_length_eq_zero h2
    subst h1
    clear h
    go_enter Try.func81, Try.ntmps81
    go_wp2_with fail
    go_ret
    exact ⟨_, rfl, World.ownsRow_nil _ _ _ _, Below.refl _ _⟩
  · subst h1
    have hlt := (h.lt g rfl).2
    have HC := Lib.hid (own_bcells h)
    have HL := Lib.hid hl
    obtain ⟨N, hN⟩ : ∃ N, l.length = N := ⟨_, rfl⟩
    have HNN := Lib.hid hN
    rw [hN]
    have HLT := Lib.hid hlt
    clear h hl hN hlt
    go_enter Try.func81, Try.ntmps81
    go_wp2_with (first
      | (refine build_step0 rfl rfl (fun W HW => ?_); have HE : Hid (W.ownsRow w.heap.size 5 1 (.slice (some ⟨w.heap.size, 0, none⟩) 0 0) ([] : List UInt8).length (bys [])) := Lib.hid (by rw [HW.out]; exact own_empty w); have HB : Hid (Below w.heap.size w W) := Lib.hid (by rw [HW.out]; exact (Below.refl _ _).alloc (Nat.le_refl _) _); have HX : Hid (∀ j u, (bys l)[j]? = some u → W.cell? ⟨g, j, none⟩ = some u) := Lib.hid (fun j u hu => (HB.out.cell (p := ⟨g, j, none⟩) HLT.out).trans (HC.out j u hu)); have HN : Hid (([] : List UInt8).length + l.length ≤ 1000000000 ∧ w.heap.size ≤ W.heap.size) := Lib.hid ⟨by have := HL.out; simp; omega, HB.out.size⟩)
      | (at_builtin; refine wpList_plain rfl (fun K hK => wp_append_bytes (l := []) (m := l) HE HX HN _ _ rfl rfl (by rw [HNN.out]; rfl) (fun v2 w4 HOw HGw HFw => hK _ _ ?_)); obtain ⟨a2, c2, hv2⟩ := own_slice HOw.out; subst hv2))
    have hl2 : (([] : List UInt8) ++ l).length = N := by rw [List.nil_append]; exact HNN.out
    go_ret
    refine ⟨_, rfl, ?_, HB.out.grown HGw.out HB.out.size (fun k hk => by cases hk; exact Nat.le_refl _)⟩
    have := HOw.out
    rw [List.nil_append, HNN.out] at this
    rw [HNN.out] at *
    exact this
set_option maxRecDepth 100000 in
theorem wbytes_any {w : World} {G B : Nat} {vB : Value} {m : Option Nat} {l : List UInt8} {ns : List ByteArray} {ats : List Nat} (h : WrAt w G B vB m l ns ats) (hl : l.length ≤ 2000000) :
    Calls Try.prog 60 #[.pointer (some ⟨G, 0, none⟩)] w fun e w' => ∃ v', e = .returned v' ∧ w'.ownsRow w.heap.size 5 1 v' l.length (bys l) ∧ Below w.heap.size w w' := by
  have HC := Lib.hid (clone_any h.rb hl)
  obtain ⟨a, c, rfl⟩ := own_slice h.rb
  have hc := h.c0
  clear h
  go_enter Try.func60, Try.ntmps60
  go_wp2_with fail
  refine HC.out.mono ?_
  rintro e w1 ⟨v', rfl, ho, hb⟩
  have HO := Lib.hid ho
  have HB := Lib.hid hb
  clear ho hb HC hc
  go_wp2_with fail
  go_ret
  exact ⟨_, rfl, HO.out, HB.out⟩
end Go.Proofs.Yticdpidngmeebaa
/- Contract of the landed writer's note. -/
namespace Go.Proofs.Yticdpidngmeebaa
open Go.RowKit Go.Maps
set_option linter.unusedVariables false
set_option maxRecDepth 20000

/-- What note leaves. -/
def NoteRet (w : World) (G B : Nat) (vB : Value) (m : Option Nat) (l : List UInt8) (ns : List ByteArray) (ats : List Nat) (e : Ending) (w' : World) : Prop :=
  e = .returned (.tuple #[]) ∧ ∃ m', WrAt w' G B vB m' l ns ats ∧ Foot (wblk G vB m) (wblk G vB m') w w'
end Go.Proofs.Yticdpidngmeebaa
