/- Contracts of four.Bytes, four.Print and of the reference's Print: an address's bytes and its text. -/
import Derived.Test.YtebcgfgfcjgdiaaDoorDecParts
import Derived.Test.YtebcgfgfcjgdiaaDoorDecimals
namespace Go.Proofs.YtebcgfgfcjgdiaaDoor
open Go.RowKit
set_option linter.unusedVariables false

/-- The number of four bytes. -/
def num4 (a b c d : Nat) : Nat := ((a * 256 + b) * 256 + c) * 256 + d
theorem num4_ex (n : Nat) (h : n ≤ 4294967295) : ∃ a b c d : Nat, a < 256 ∧ b < 256 ∧ c < 256 ∧ d < 256 ∧ n = num4 a b c d :=
  ⟨n / 16777216, n / 65536 % 256, n / 256 % 256, n % 256, by omega, by omega, by omega, by omega, by unfold num4; omega⟩
theorem num4_inj {a b c d a' b' c' d' : Nat} (ha : a < 256) (hb : b < 256) (hc : c < 256) (hd : d < 256) (ha' : a' < 256) (hb' : b' < 256) (hc' : c' < 256) (hd' : d' < 256) (h : num4 a b c d = num4 a' b' c' d') : a = a' ∧ b = b' ∧ c = c' ∧ d = d' := by
  unfold num4 at h
  omega

set_option maxRecDepth 100000 in
set_option maxHeartbeats 1000000 in
theorem bytes_any (a b c d n : Nat) (w : World) (ha : a < 256) (hb : b < 256) (hc : c < 256) (hd : d < 256) (hn : n = num4 a b c d) :
    Calls Tryd.prog 8 #[.int .u32 (n : Int)] w fun e w' => e = .returned (arr4 a b c d) ∧ Below w.heap.size w w' := by
  unfold num4 at hn
  have hle : n ≤ 4294967295 := by omega
  have e1 : (n : Int) / 16777216 = (a : Int) := by omega
  have e2 : (n : Int) / 65536 % 256 = (b : Int) := by omega
  have e3 : (n : Int) / 256 % 256 = (c : Int) := by omega
  have e4 : (n : Int) % 256 = (d : Int) := by omega
  clear hn
  go_enter Tryd.func8, Tryd.ntmps8
  go_wp2
  refine bodyPost_ret (v := arr4 a b c d) (by simp [results, Tryd.results8, go_sem, arr4, e2, e3, e4]) rfl ⟨rfl, ?_⟩
  exact (Below.refl _ _).alloc (Nat.le_refl _) _
/-- The address's text, byte by byte. -/
def prT (a b c d : Nat) : Nat → List UInt8
  | 0 => []
  | 1 => dec a
  | 2 => dec a ++ 46 :: dec b
  | 3 => dec a ++ 46 :: (dec b ++ 46 :: dec c)
  | _ => dec a ++ 46 :: (dec b ++ 46 :: (dec c ++ 46 :: dec d))
def prR (a b c d : Nat) : Nat → List UInt8
  | 0 => []
  | 1 => dec d
  | 2 => dec c ++ 46 :: dec d
  | 3 => dec b ++ 46 :: (dec c ++ 46 :: dec d)
  | _ => dec a ++ 46 :: (dec b ++ 46 :: (dec c ++ 46 :: dec d))
def text4 (a b c d : Nat) : ByteArray := ofL (dec a ++ 46 :: (dec b ++ 46 :: (dec c ++ 46 :: dec d)))
theorem dec_small (u : Nat) (h : u < 256) : (dec u).length ≤ 21 := dec_length u (by omega)
theorem str_ret {s t : ByteArray} (h : s.data.toList = t.data.toList) : Ending.returned (.string s) = .returned (.string t) := by rw [bytes_ext h]

theorem decimal_nat (u : Nat) (w : World) (h : u ≤ 9223372036854775807) (htab : Lib.TabIs Tryd.prog w "internal/strconv.uint64pow10" .u64 Lib.pow10Tab) :
    Calls Tryd.prog 13 #[.int .i64 (u : Int)] w fun e w' => e = .returned (.string (ofL (dec u))) ∧ Below w.heap.size w w' := by
  have := decimal_any (u : Int) w (by omega) (by omega) htab
  rw [show Lib.itoa (u : Int) = Lib.decDigits u from Lib.itoa_nonneg u] at this
  exact this
theorem refDecimal_ofL (u : Nat) (w : World) (h : u ≤ 9223372036854775807) :
    Calls Tryd.prog 12 #[.int .i64 (u : Int)] w fun e w' => e = .returned (.string (ofL (dec u))) ∧ Below w.heap.size w w' := refDecimal_nat u w h

set_option maxRecDepth 100000 in
set_option maxHeartbeats 4000000 in
theorem print_any (a b c d n : Nat) (w : World) (ha : a < 256) (hb : b < 256) (hc : c < 256) (hd : d < 256) (hn : n = num4 a b c d)
    (htab : ∀ w', Below w.heap.size w w' → Lib.TabIs Tryd.prog w' "internal/strconv.uint64pow10" .u64 Lib.pow10Tab) :
    Calls Tryd.prog 5 #[.int .u32 (n : Int)] w fun e w' => e = .returned (.string (text4 a b c d)) ∧ Below w.heap.size w w' := by
  have HT := Lib.hid htab
  have HN := Lib.hid hn
  clear htab hn
  have i0 : ∀ w : World, (Instr.index 28 (.agg #[.int .u8 (a : Int), .int .u8 (b : Int), .int .u8 (c : Int), .int .u8 (d : Int)]) (.int .i64 0)).run Tryd.prog w = .ok (.int .u8 (a : Int)) w := fun _ => by kernel_rfl
  have i1 : ∀ w : World, (Instr.index 28 (.agg #[.int .u8 (a : Int), .int .u8 (b : Int), .int .u8 (c : Int), .int .u8 (d : Int)]) (.int .i64 1)).run Tryd.prog w = .ok (.int .u8 (b : Int)) w := fun _ => by kernel_rfl
  have i2 : ∀ w : World, (Instr.index 28 (.agg #[.int .u8 (a : Int), .int .u8 (b : Int), .int .u8 (c : Int), .int .u8 (d : Int)]) (.int .i64 2)).run Tryd.prog w = .ok (.int .u8 (c : Int)) w := fun _ => by kernel_rfl
  have i3 : ∀ w : World, (Instr.index 28 (.agg #[.int .u8 (a : Int), .int .u8 (b : Int), .int .u8 (c : Int), .int .u8 (d : Int)]) (.int .i64 3)).run Tryd.prog w = .ok (.int .u8 (d : Int)) w := fun _ => by kernel_rfl
  go_enter Tryd.func5, Tryd.ntmps5
  go_wp2_with fail
  refine (bytes_any a b c d n _ ha hb hc hd HN.out).mono ?_
  rintro e w1 ⟨rfl, hb1⟩
  unfold arr4
  go_wp2_with fail
  go_loopw [3, 8] (fun s i wr => ∃ (k : Nat) (S : ByteArray), k ≤ 4 ∧ i = .int .i64 k ∧ s = .string S ∧ S.size ≤ 22 * k ∧ Hid (S.data.toList = prT a b c d k) ∧ Below w.heap.size w wr) (fun _ i _ => 4 - (intOf i).toNat)
  case atStart => exact ⟨0, _, by decide, rfl, rfl, by decide, Lib.hid rfl, hb1⟩
  case round =>
    obtain ⟨k, S, hk, rfl, rfl, hS, HS, hbel⟩ := hrel
    have hk5 : k = 0 ∨ k = 1 ∨ k = 2 ∨ k = 3 ∨ k = 4 := by omega
    rcases hk5 with rfl | rfl | rfl | rfl | rfl
    · have hl := dec_small a ha
      have hlz := ofL_size (dec a)
      go_wp2_with fail
      refine (decimal_nat a _ (by omega) (HT.out _ hbel)).mono ?_
      rintro e w2 ⟨rfl, hb2⟩
      generalize hD : ofL (dec a) = D at *
      have HD := Lib.hid hD
      clear hD
      have hDz : D.size ≤ 21 := by omega
      go_wp2_with fail
      go_roundw
      case rel => exact ⟨1, _, by decide, rfl, rfl, by simp [ByteArray.size_append] <;> (try show _ + 1 + _ ≤ _) <;> omega, Lib.hid (by rw [← HD.out]; simp only [data_append, ofL_data, HS.out]; simp [prT]), chain hbel hb2⟩
      case measure => simp [intOf]
    · have hl := dec_small b hb
      have hlz := ofL_size (dec b)
      go_wp2_with fail
      refine (decimal_nat b _ (by omega) (HT.out _ hbel)).mono ?_
      rintro e w2 ⟨rfl, hb2⟩
      generalize hD : ofL (dec b) = D at *
      have HD := Lib.hid hD
      clear hD
      have hDz : D.size ≤ 21 := by omega
      go_wp2_with fail
      go_roundw
      case rel => exact ⟨2, _, by decide, rfl, rfl, by simp [ByteArray.size_append] <;> (try show _ + 1 + _ ≤ _) <;> omega, Lib.hid (by rw [← HD.out]; simp only [data_append, ofL_data, HS.out]; simp [prT]), chain hbel hb2⟩
      case measure => simp [intOf]
    · have hl := dec_small c hc
      have hlz := ofL_size (dec c)
      go_wp2_with fail
      refine (decimal_nat c _ (by omega) (HT.out _ hbel)).mono ?_
      rintro e w2 ⟨rfl, hb2⟩
      generalize hD : ofL (dec c) = D at *
      have HD := Lib.hid hD
      clear hD
      have hDz : D.size ≤ 21 := by omega
      go_wp2_with fail
      go_roundw
      case rel => exact ⟨3, _, by decide, rfl, rfl, by simp [ByteArray.size_append] <;> (try show _ + 1 + _ ≤ _) <;> omega, Lib.hid (by rw [← HD.out]; simp only [data_append, ofL_data, HS.out]; simp [prT]), chain hbel hb2⟩
      case measure => simp [intOf]
    · have hl := dec_small d hd
      have hlz := ofL_size (dec d)
      go_wp2_with fail
      refine (decimal_nat d _ (by omega) (HT.out _ hbel)).mono ?_
      rintro e w2 ⟨rfl, hb2⟩
      generalize hD : ofL (dec d) = D at *
      have HD := Lib.hid hD
      clear hD
      have hDz : D.size ≤ 21 := by omega
      go_wp2_with fail
      go_roundw
      case rel => exact ⟨4, _, by decide, rfl, rfl, by simp [ByteArray.size_append] <;> (try show _ + 1 + _ ≤ _) <;> omega, Lib.hid (by rw [← HD.out]; simp only [data_append, ofL_data, HS.out]; simp [prT]), chain hbel hb2⟩
      case measure => simp [intOf]
    · go_wp2_with fail
      go_ret
      exact ⟨str_ret (by rw [HS.out]; unfold text4; rw [ofL_data]; rfl), hbel⟩

set_option maxRecDepth 100000 in
set_option maxHeartbeats 4000000 in
theorem refPrint_any (a b c d n : Nat) (w : World) (ha : a < 256) (hb : b < 256) (hc : c < 256) (hd : d < 256) (hn : n = num4 a b c d) :
    Calls Tryd.prog 9 #[.int .u32 (n : Int)] w fun e w' => e = .returned (.string (text4 a b c d)) ∧ Below w.heap.size w w' := by
  have HN := Lib.hid hn
  have hle : n ≤ 4294967295 := by unfold num4 at hn; omega
  clear hn
  go_enter Tryd.func9, Tryd.ntmps9
  go_wp2_with fail
  go_loopw [0, 3, 4] (fun m s i wr => ∃ (k N : Nat) (S : ByteArray), k ≤ 4 ∧ i = .int .i64 k ∧ m = .int .u32 (N : Int) ∧ N ≤ 4294967295 ∧ s = .string S ∧ S.size ≤ 22 * k ∧ Hid (N = n / 256 ^ k) ∧ Hid (S.data.toList = prR a b c d k) ∧ Below w.heap.size w wr) (fun _ _ i _ => 4 - (intOf i).toNat)
  case atStart => exact ⟨0, n, _, by decide, rfl, rfl, hle, rfl, by decide, Lib.hid (by simp), Lib.hid rfl, Below.refl _ _⟩
  case round =>
    obtain ⟨k, N, S, hk, rfl, rfl, hNl, rfl, hS, HK, HS, hbel⟩ := hrel
    have hk5 : k = 0 ∨ k = 1 ∨ k = 2 ∨ k = 3 ∨ k = 4 := by omega
    rcases hk5 with rfl | rfl | rfl | rfl | rfl
    · have hl := dec_small d hd
      have hlz := ofL_size (dec d)
      have er : (N : Int) % 256 = (d : Int) := by
        have h1 := HK.out
        have h2 := HN.out
        unfold num4 at h2
        simp at h1
        omega
      go_wp2_with fail
      refine (refDecimal_ofL d _ (by omega)).mono ?_
      rintro e w2 ⟨rfl, hb2⟩
      generalize hD : ofL (dec d) = D at *
      have HD := Lib.hid hD
      clear hD
      have hDz : D.size ≤ 21 := by omega
      go_wp2_with fail
      go_roundw
      case rel => exact ⟨1, N / 256, _, by decide, rfl, by go_num, by omega, rfl, by simp [ByteArray.size_append] <;> (try show _ + (1 + _) ≤ _) <;> omega, Lib.hid (by have h1 := HK.out; simp at h1 ⊢; omega), Lib.hid (by rw [← HD.out]; simp only [data_append, ofL_data, HS.out]; simp [prR]), chain hbel hb2⟩
      case measure => simp [intOf]
    · have hl := dec_small c hc
      have hlz := ofL_size (dec c)
      have er : (N : Int) % 256 = (c : Int) := by
        have h1 := HK.out
        have h2 := HN.out
        unfold num4 at h2
        simp at h1
        omega
      go_wp2_with fail
      refine (refDecimal_ofL c _ (by omega)).mono ?_
      rintro e w2 ⟨rfl, hb2⟩
      generalize hD : ofL (dec c) = D at *
      have HD := Lib.hid hD
      clear hD
      have hDz : D.size ≤ 21 := by omega
      go_wp2_with fail
      go_roundw
      case rel => exact ⟨2, N / 256, _, by decide, rfl, by go_num, by omega, rfl, by simp [ByteArray.size_append] <;> (try show _ + (1 + _) ≤ _) <;> omega, Lib.hid (by have h1 := HK.out; simp at h1 ⊢; omega), Lib.hid (by rw [← HD.out]; simp only [data_append, ofL_data, HS.out]; simp [prR]), chain hbel hb2⟩
      case measure => simp [intOf]
    · have hl := dec_small b hb
      have hlz := ofL_size (dec b)
      have er : (N : Int) % 256 = (b : Int) := by
        have h1 := HK.out
        have h2 := HN.out
        unfold num4 at h2
        simp at h1
        omega
      go_wp2_with fail
      refine (refDecimal_ofL b _ (by omega)).mono ?_
      rintro e w2 ⟨rfl, hb2⟩
      generalize hD : ofL (dec b) = D at *
      have HD := Lib.hid hD
      clear hD
      have hDz : D.size ≤ 21 := by omega
      go_wp2_with fail
      go_roundw
      case rel => exact ⟨3, N / 256, _, by decide, rfl, by go_num, by omega, rfl, by simp [ByteArray.size_append] <;> (try show _ + (1 + _) ≤ _) <;> omega, Lib.hid (by have h1 := HK.out; simp at h1 ⊢; omega), Lib.hid (by rw [← HD.out]; simp only [data_append, ofL_data, HS.out]; simp [prR]), chain hbel hb2⟩
      case measure => simp [intOf]
    · have hl := dec_small a ha
      have hlz := ofL_size (dec a)
      have er : (N : Int) % 256 = (a : Int) := by
        have h1 := HK.out
        have h2 := HN.out
        unfold num4 at h2
        simp at h1
        omega
      go_wp2_with fail
      refine (refDecimal_ofL a _ (by omega)).mono ?_
      rintro e w2 ⟨rfl, hb2⟩
      generalize hD : ofL (dec a) = D at *
      have HD := Lib.hid hD
      clear hD
      have hDz : D.size ≤ 21 := by omega
      go_wp2_with fail
      go_roundw
      case rel => exact ⟨4, N / 256, _, by decide, rfl, by go_num, by omega, rfl, by simp [ByteArray.size_append] <;> (try show _ + (1 + _) ≤ _) <;> omega, Lib.hid (by have h1 := HK.out; simp at h1 ⊢; omega), Lib.hid (by rw [← HD.out]; simp only [data_append, ofL_data, HS.out]; simp [prR]), chain hbel hb2⟩
      case measure => simp [intOf]
    · go_wp2_with fail
      go_ret
      exact ⟨str_ret (by rw [HS.out]; unfold text4; rw [ofL_data]; rfl), hbel⟩
theorem of_num (a b c d n : Nat) (w : World) (ha : a < 256) (hb : b < 256) (hc : c < 256) (hd : d < 256) (hn : n = num4 a b c d) :
    Calls Tryd.prog 10 #[arr4 a b c d] w fun e w' => e = .returned (.int .u32 (n : Int)) ∧ Below w.heap.size w w' := by
  have := of_any a b c d w ha hb hc hd
  rw [show ((a * 256 + b) * 256 + c) * 256 + d = n from hn.symm] at this
  exact this
theorem text4_data (a b c d : Nat) : (text4 a b c d).data.toList = dec a ++ 46 :: (dec b ++ 46 :: (dec c ++ 46 :: dec d)) := ofL_data _
theorem text4_size (a b c d : Nat) (ha : a < 256) (hb : b < 256) (hc : c < 256) (hd : d < 256) : (text4 a b c d).size ≤ 90 := by
  have h1 := dec_small a ha
  have h2 := dec_small b hb
  have h3 := dec_small c hc
  have h4 := dec_small d hd
  unfold text4
  rw [ofL_size]
  simp only [dec] at *
  simp
  omega
theorem text4_strict (a b c d n : Nat) (ha : a < 256) (hb : b < 256) (hc : c < 256) (hd : d < 256) (hn : n = num4 a b c d) : strictB (text4 a b c d) = some n := by
  rw [hn]; exact strict4 a b c d ha hb hc hd
theorem text4_loose (a b c d n : Nat) (ha : a < 256) (hb : b < 256) (hc : c < 256) (hd : d < 256) (hn : n = num4 a b c d) : looseB (text4 a b c d) = (n, 2) := by
  rw [hn]; exact loose4 a b c d ha hb hc hd
theorem text4_dot (a b c d n : Nat) (X : ByteArray) (hX : X.data.toList = [46]) (ha : a < 256) (hb : b < 256) (hc : c < 256) (hd : d < 256) (hn : n = num4 a b c d) : looseB (text4 a b c d ++ X) = (n, 2) := by
  have e : text4 a b c d ++ X = ofL (dec a ++ 46 :: (dec b ++ 46 :: (dec c ++ 46 :: (dec d ++ 46 :: [])))) := eq_ofL (by
    rw [data_append, text4_data, hX]
    simp)
  rw [e, hn]
  exact loose4dot a b c d ha hb hc hd
/-- Loose, where the answer is known. -/
theorem loose_at (s : ByteArray) (r : Nat × Nat) (w : World) (hs : s.size ≤ 1000000) (hr : looseB s = r) :
    Calls Tryd.prog 7 #[.string s] w fun e w' => e = .returned (looseRet r) ∧ Below w.heap.size w w' := by
  have := loose_any s w hs
  rw [hr] at this
  exact this
theorem strict_at (s : ByteArray) (r : Option Nat) (w : World) (hs : s.size ≤ 1000000) (hr : strictB s = r) :
    Calls Tryd.prog 6 #[.string s] w fun e w' => e = .returned (strictRet r) ∧ Below w.heap.size w w' := by
  have := strict_any s w hs
  rw [hr] at this
  exact this
end Go.Proofs.YtebcgfgfcjgdiaaDoor
