/- Contracts of four.Bytes and four.Print: an address's bytes and its text. -/
import Derived.Test.YtkdinhgflkfbkaaDoorRefPrints
import Derived.Test.YtkdinhgflkfbkaaDoorDecimals
namespace Go.Proofs.YtkdinhgflkfbkaaDoor
open Go.RowKit
set_option linter.unusedVariables false

set_option maxRecDepth 100000 in
set_option maxHeartbeats 1000000 in
theorem bytes_any (a b c d n : Nat) (w : World) (ha : a < 256) (hb : b < 256) (hc : c < 256) (hd : d < 256) (hn : n = num4 a b c d) :
    Calls Tryd.prog 43 #[.int .u32 (n : Int)] w fun e w' => e = .returned (arr4 a b c d) ∧ Below w.heap.size w w' := by
  unfold num4 at hn
  have hle : n ≤ 4294967295 := by omega
  have e1 : (n : Int) / 16777216 = (a : Int) := by omega
  have e2 : (n : Int) / 65536 % 256 = (b : Int) := by omega
  have e3 : (n : Int) / 256 % 256 = (c : Int) := by omega
  have e4 : (n : Int) % 256 = (d : Int) := by omega
  clear hn
  go_enter Tryd.func43, Tryd.ntmps43
  go_wp2
  refine bodyPost_ret (v := arr4 a b c d) (by simp [results, Tryd.results43, go_sem, arr4, e2, e3, e4]) rfl ⟨rfl, ?_⟩
  exact (Below.refl _ _).alloc (Nat.le_refl _) _
/-- The address's text, byte by byte. -/
def prT (a b c d : Nat) : Nat → List UInt8
  | 0 => []
  | 1 => dec a
  | 2 => dec a ++ 46 :: dec b
  | 3 => dec a ++ 46 :: (dec b ++ 46 :: dec c)
  | _ => dec a ++ 46 :: (dec b ++ 46 :: (dec c ++ 46 :: dec d))
theorem decimal_nat (u : Nat) (w : World) (h : u ≤ 9223372036854775807) (htab : Lib.TabIs Tryd.prog w "internal/strconv.uint64pow10" .u64 Lib.pow10Tab) :
    Calls Tryd.prog 44 #[.int .i64 (u : Int)] w fun e w' => e = .returned (.string (ofL (dec u))) ∧ Below w.heap.size w w' := by
  have := decimal_any (u : Int) w (by omega) (by omega) htab
  rw [show Lib.itoa (u : Int) = Lib.decDigits u from Lib.itoa_nonneg u] at this
  exact this
set_option maxRecDepth 100000 in
set_option maxHeartbeats 4000000 in
theorem print_any (a b c d n : Nat) (w : World) (ha : a < 256) (hb : b < 256) (hc : c < 256) (hd : d < 256) (hn : n = num4 a b c d)
    (htab : ∀ w', Below w.heap.size w w' → Lib.TabIs Tryd.prog w' "internal/strconv.uint64pow10" .u64 Lib.pow10Tab) :
    Calls Tryd.prog 29 #[.int .u32 (n : Int)] w fun e w' => e = .returned (.string (text4 a b c d)) ∧ Below w.heap.size w w' := by
  have HT := Lib.hid htab
  have HN := Lib.hid hn
  clear htab hn
  have i0 : ∀ w : World, (Instr.index 70 (.agg #[.int .u8 (a : Int), .int .u8 (b : Int), .int .u8 (c : Int), .int .u8 (d : Int)]) (.int .i64 0)).run Tryd.prog w = .ok (.int .u8 (a : Int)) w := fun _ => by kernel_rfl
  have i1 : ∀ w : World, (Instr.index 70 (.agg #[.int .u8 (a : Int), .int .u8 (b : Int), .int .u8 (c : Int), .int .u8 (d : Int)]) (.int .i64 1)).run Tryd.prog w = .ok (.int .u8 (b : Int)) w := fun _ => by kernel_rfl
  have i2 : ∀ w : World, (Instr.index 70 (.agg #[.int .u8 (a : Int), .int .u8 (b : Int), .int .u8 (c : Int), .int .u8 (d : Int)]) (.int .i64 2)).run Tryd.prog w = .ok (.int .u8 (c : Int)) w := fun _ => by kernel_rfl
  have i3 : ∀ w : World, (Instr.index 70 (.agg #[.int .u8 (a : Int), .int .u8 (b : Int), .int .u8 (c : Int), .int .u8 (d : Int)]) (.int .i64 3)).run Tryd.prog w = .ok (.int .u8 (d : Int)) w := fun _ => by kernel_rfl
  go_enter Tryd.func29, Tryd.ntmps29
  go_wp2_with fail
  refine (bytes_any a b c d n _ ha hb hc hd HN.out).mono ?_
  rintro e w1 ⟨rfl, hb1⟩
  unfold arr4
  go_wp2_with fail
  go_loopw [3, 8] (fun s i wr => ∃ (k : Nat) (S : ByteArray), k ≤ 4 ∧ i = .int .i64 k ∧ s = .string S ∧ S.size ≤ 22 * k ∧ Hid (S.data.toList = prT a b c d k) ∧ Below w.heap.size w wr) (fun _ i _ => 4 - (intOf i).toNat)
  case atStart => exact ⟨0, _, by decide, rfl, rfl, by decide, Lib.hid rfl, hb1⟩
  case round =>
    obtain ⟨k, S, hk, rfl, rfl, hS, HS, hbel⟩ := hrel
    have hk5 : k = 0 ∨ k = 1 ∨ k = 2 ∨ k = 3 ∨ k = 4 := by omega
    rcases hk5 with rfl | rfl | rfl | rfl | rfl
    · have hl := dec_small a ha
      have hlz := ofL_size (dec a)
      go_wp2_with fail
      refine (decimal_nat a _ (by omega) (HT.out _ hbel)).mono ?_
      rintro e w2 ⟨rfl, hb2⟩
      generalize hD : ofL (dec a) = D at *
      have HD := Lib.hid hD
      clear hD
      have hDz : D.size ≤ 21 := by omega
      go_wp2_with fail
      go_roundw
      case rel => exact ⟨1, _, by decide, rfl, rfl, by simp [ByteArray.size_append] <;> (try show _ + 1 + _ ≤ _) <;> omega, Lib.hid (by rw [← HD.out]; simp only [data_append, ofL_data, HS.out]; simp [prT]), chain hbel hb2⟩
      case measure => simp [intOf]
    · have hl := dec_small b hb
      have hlz := ofL_size (dec b)
      go_wp2_with fail
      refine (decimal_nat b _ (by omega) (HT.out _ hbel)).mono ?_
      rintro e w2 ⟨rfl, hb2⟩
      generalize hD : ofL (dec b) = D at *
      have HD := Lib.hid hD
      clear hD
      have hDz : D.size ≤ 21 := by omega
      go_wp2_with fail
      go_roundw
      case rel => exact ⟨2, _, by decide, rfl, rfl, by simp [ByteArray.size_append] <;> (try show _ + 1 + _ ≤ _) <;> omega, Lib.hid (by rw [← HD.out]; simp only [data_append, ofL_data, HS.out]; simp [prT]), chain hbel hb2⟩
      case measure => simp [intOf]
    · have hl := dec_small c hc
      have hlz := ofL_size (dec c)
      go_wp2_with fail
      refine (decimal_nat c _ (by omega) (HT.out _ hbel)).mono ?_
      rintro e w2 ⟨rfl, hb2⟩
      generalize hD : ofL (dec c) = D at *
      have HD := Lib.hid hD
      clear hD
      have hDz : D.size ≤ 21 := by omega
      go_wp2_with fail
      go_roundw
      case rel => exact ⟨3, _, by decide, rfl, rfl, by simp [ByteArray.size_append] <;> (try show _ + 1 + _ ≤ _) <;> omega, Lib.hid (by rw [← HD.out]; simp only [data_append, ofL_data, HS.out]; simp [prT]), chain hbel hb2⟩
      case measure => simp [intOf]
    · have hl := dec_small d hd
      have hlz := ofL_size (dec d)
      go_wp2_with fail
      refine (decimal_nat d _ (by omega) (HT.out _ hbel)).mono ?_
      rintro e w2 ⟨rfl, hb2⟩
      generalize hD : ofL (dec d) = D at *
      have HD := Lib.hid hD
      clear hD
      have hDz : D.size ≤ 21 := by omega
      go_wp2_with fail
      go_roundw
      case rel => exact ⟨4, _, by decide, rfl, rfl, by simp [ByteArray.size_append] <;> (try show _ + 1 + _ ≤ _) <;> omega, Lib.hid (by rw [← HD.out]; simp only [data_append, ofL_data, HS.out]; simp [prT]), chain hbel hb2⟩
      case measure => simp [intOf]
    · go_wp2_with fail
      go_ret
      exact ⟨str_ret (by rw [HS.out]; unfold text4; rw [ofL_data]; rfl), hbel⟩

theorem of_num (a b c d n : Nat) (w : World) (ha : a < 256) (hb : b < 256) (hc : c < 256) (hd : d < 256) (hn : n = num4 a b c d) :
    Calls Tryd.prog 49 #[arr4 a b c d] w fun e w' => e = .returned (.int .u32 (n : Int)) ∧ Below w.heap.size w w' := by
  have := of_any a b c d w ha hb hc hd
  rw [show ((a * 256 + b) * 256 + c) * 256 + d = n from hn.symm] at this
  exact this
theorem strict_at (s : ByteArray) (r : Option Nat) (w : World) (hs : s.size ≤ 1000000) (hr : strictB s = r) :
    Calls Tryd.prog 37 #[.string s] w fun e w' => e = .returned (strictRet r) ∧ Below w.heap.size w w' := by
  have := strict_any s w hs
  rw [hr] at this
  exact this
end Go.Proofs.YtkdinhgflkfbkaaDoor
