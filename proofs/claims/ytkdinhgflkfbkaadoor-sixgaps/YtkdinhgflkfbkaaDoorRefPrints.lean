/- An address of 32 bits, its text, and the contract of the reference's Print. -/
import Derived.Test.YtkdinhgflkfbkaaDoorDecParts
namespace Go.Proofs.YtkdinhgflkfbkaaDoor
open Go.RowKit
set_option linter.unusedVariables false

/-- The number of four bytes. -/
def num4 (a b c d : Nat) : Nat := ((a * 256 + b) * 256 + c) * 256 + d
theorem num4_ex (n : Nat) (h : n ≤ 4294967295) : ∃ a b c d : Nat, a < 256 ∧ b < 256 ∧ c < 256 ∧ d < 256 ∧ n = num4 a b c d :=
  ⟨n / 16777216, n / 65536 % 256, n / 256 % 256, n % 256, by omega, by omega, by omega, by omega, by unfold num4; omega⟩
theorem num4_inj {a b c d a' b' c' d' : Nat} (ha : a < 256) (hb : b < 256) (hc : c < 256) (hd : d < 256) (ha' : a' < 256) (hb' : b' < 256) (hc' : c' < 256) (hd' : d' < 256) (h : num4 a b c d = num4 a' b' c' d') : a = a' ∧ b = b' ∧ c = c' ∧ d = d' := by
  unfold num4 at h
  omega

def prR (a b c d : Nat) : Nat → List UInt8
  | 0 => []
  | 1 => dec d
  | 2 => dec c ++ 46 :: dec d
  | 3 => dec b ++ 46 :: (dec c ++ 46 :: dec d)
  | _ => dec a ++ 46 :: (dec b ++ 46 :: (dec c ++ 46 :: dec d))
def text4 (a b c d : Nat) : ByteArray := ofL (dec a ++ 46 :: (dec b ++ 46 :: (dec c ++ 46 :: dec d)))
theorem dec_small (u : Nat) (h : u < 256) : (dec u).length ≤ 21 := dec_length u (by omega)
theorem str_ret {s t : ByteArray} (h : s.data.toList = t.data.toList) : Ending.returned (.string s) = .returned (.string t) := by rw [bytes_ext h]

theorem refDecimal_ofL (u : Nat) (w : World) (h : u ≤ 9223372036854775807) :
    Calls Tryd.prog 22 #[.int .i64 (u : Int)] w fun e w' => e = .returned (.string (ofL (dec u))) ∧ Below w.heap.size w w' := refDecimal_nat u w h

set_option maxRecDepth 100000 in
set_option maxHeartbeats 4000000 in
theorem refPrint_any (a b c d n : Nat) (w : World) (ha : a < 256) (hb : b < 256) (hc : c < 256) (hd : d < 256) (hn : n = num4 a b c d) :
    Calls Tryd.prog 32 #[.int .u32 (n : Int)] w fun e w' => e = .returned (.string (text4 a b c d)) ∧ Below w.heap.size w w' := by
  have HN := Lib.hid hn
  have hle : n ≤ 4294967295 := by unfold num4 at hn; omega
  clear hn
  go_enter Tryd.func32, Tryd.ntmps32
  go_wp2_with fail
  go_loopw [0, 3, 4] (fun m s i wr => ∃ (k N : Nat) (S : ByteArray), k ≤ 4 ∧ i = .int .i64 k ∧ m = .int .u32 (N : Int) ∧ N ≤ 4294967295 ∧ s = .string S ∧ S.size ≤ 22 * k ∧ Hid (N = n / 256 ^ k) ∧ Hid (S.data.toList = prR a b c d k) ∧ Below w.heap.size w wr) (fun _ _ i _ => 4 - (intOf i).toNat)
  case atStart => exact ⟨0, n, _, by decide, rfl, rfl, hle, rfl, by decide, Lib.hid (by simp), Lib.hid rfl, Below.refl _ _⟩
  case round =>
    obtain ⟨k, N, S, hk, rfl, rfl, hNl, rfl, hS, HK, HS, hbel⟩ := hrel
    have hk5 : k = 0 ∨ k = 1 ∨ k = 2 ∨ k = 3 ∨ k = 4 := by omega
    rcases hk5 with rfl | rfl | rfl | rfl | rfl
    · have hl := dec_small d hd
      have hlz := ofL_size (dec d)
      have er : (N : Int) % 256 = (d : Int) := by
        have h1 := HK.out
        have h2 := HN.out
        unfold num4 at h2
        simp at h1
        omega
      go_wp2_with fail
      refine (refDecimal_ofL d _ (by omega)).mono ?_
      rintro e w2 ⟨rfl, hb2⟩
      generalize hD : ofL (dec d) = D at *
      have HD := Lib.hid hD
      clear hD
      have hDz : D.size ≤ 21 := by omega
      go_wp2_with fail
      go_roundw
      case rel => exact ⟨1, N / 256, _, by decide, rfl, by go_num, by omega, rfl, by simp [ByteArray.size_append] <;> (try show _ + (1 + _) ≤ _) <;> omega, Lib.hid (by have h1 := HK.out; simp at h1 ⊢; omega), Lib.hid (by rw [← HD.out]; simp only [data_append, ofL_data, HS.out]; simp [prR]), chain hbel hb2⟩
      case measure => simp [intOf]
    · have hl := dec_small c hc
      have hlz := ofL_size (dec c)
      have er : (N : Int) % 256 = (c : Int) := by
        have h1 := HK.out
        have h2 := HN.out
        unfold num4 at h2
        simp at h1
        omega
      go_wp2_with fail
      refine (refDecimal_ofL c _ (by omega)).mono ?_
      rintro e w2 ⟨rfl, hb2⟩
      generalize hD : ofL (dec c) = D at *
      have HD := Lib.hid hD
      clear hD
      have hDz : D.size ≤ 21 := by omega
      go_wp2_with fail
      go_roundw
      case rel => exact ⟨2, N / 256, _, by decide, rfl, by go_num, by omega, rfl, by simp [ByteArray.size_append] <;> (try show _ + (1 + _) ≤ _) <;> omega, Lib.hid (by have h1 := HK.out; simp at h1 ⊢; omega), Lib.hid (by rw [← HD.out]; simp only [data_append, ofL_data, HS.out]; simp [prR]), chain hbel hb2⟩
      case measure => simp [intOf]
    · have hl := dec_small b hb
      have hlz := ofL_size (dec b)
      have er : (N : Int) % 256 = (b : Int) := by
        have h1 := HK.out
        have h2 := HN.out
        unfold num4 at h2
        simp at h1
        omega
      go_wp2_with fail
      refine (refDecimal_ofL b _ (by omega)).mono ?_
      rintro e w2 ⟨rfl, hb2⟩
      generalize hD : ofL (dec b) = D at *
      have HD := Lib.hid hD
      clear hD
      have hDz : D.size ≤ 21 := by omega
      go_wp2_with fail
      go_roundw
      case rel => exact ⟨3, N / 256, _, by decide, rfl, by go_num, by omega, rfl, by simp [ByteArray.size_append] <;> (try show _ + (1 + _) ≤ _) <;> omega, Lib.hid (by have h1 := HK.out; simp at h1 ⊢; omega), Lib.hid (by rw [← HD.out]; simp only [data_append, ofL_data, HS.out]; simp [prR]), chain hbel hb2⟩
      case measure => simp [intOf]
    · have hl := dec_small a ha
      have hlz := ofL_size (dec a)
      have er : (N : Int) % 256 = (a : Int) := by
        have h1 := HK.out
        have h2 := HN.out
        unfold num4 at h2
        simp at h1
        omega
      go_wp2_with fail
      refine (refDecimal_ofL a _ (by omega)).mono ?_
      rintro e w2 ⟨rfl, hb2⟩
      generalize hD : ofL (dec a) = D at *
      have HD := Lib.hid hD
      clear hD
      have hDz : D.size ≤ 21 := by omega
      go_wp2_with fail
      go_roundw
      case rel => exact ⟨4, N / 256, _, by decide, rfl, by go_num, by omega, rfl, by simp [ByteArray.size_append] <;> (try show _ + (1 + _) ≤ _) <;> omega, Lib.hid (by have h1 := HK.out; simp at h1 ⊢; omega), Lib.hid (by rw [← HD.out]; simp only [data_append, ofL_data, HS.out]; simp [prR]), chain hbel hb2⟩
      case measure => simp [intOf]
    · go_wp2_with fail
      go_ret
      exact ⟨str_ret (by rw [HS.out]; unfold text4; rw [ofL_data]; rfl), hbel⟩
theorem text4_data (a b c d : Nat) : (text4 a b c d).data.toList = dec a ++ 46 :: (dec b ++ 46 :: (dec c ++ 46 :: dec d)) := ofL_data _
theorem text4_size (a b c d : Nat) (ha : a < 256) (hb : b < 256) (hc : c < 256) (hd : d < 256) : (text4 a b c d).size ≤ 90 := by
  have h1 := dec_small a ha
  have h2 := dec_small b hb
  have h3 := dec_small c hc
  have h4 := dec_small d hd
  unfold text4
  rw [ofL_size]
  simp only [dec] at *
  simp
  omega
theorem text4_strict (a b c d n : Nat) (ha : a < 256) (hb : b < 256) (hc : c < 256) (hd : d < 256) (hn : n = num4 a b c d) : strictB (text4 a b c d) = some n := by
  rw [hn]; exact strict4 a b c d ha hb hc hd
theorem text4_loose (a b c d n : Nat) (ha : a < 256) (hb : b < 256) (hc : c < 256) (hd : d < 256) (hn : n = num4 a b c d) : looseB (text4 a b c d) = (n, 2) := by
  rw [hn]; exact loose4 a b c d ha hb hc hd
theorem text4_dot (a b c d n : Nat) (X : ByteArray) (hX : X.data.toList = [46]) (ha : a < 256) (hb : b < 256) (hc : c < 256) (hd : d < 256) (hn : n = num4 a b c d) : looseB (text4 a b c d ++ X) = (n, 2) := by
  have e : text4 a b c d ++ X = ofL (dec a ++ 46 :: (dec b ++ 46 :: (dec c ++ 46 :: (dec d ++ 46 :: [])))) := eq_ofL (by
    rw [data_append, text4_data, hX]
    simp)
  rw [e, hn]
  exact loose4dot a b c d ha hb hc hd
end Go.Proofs.YtkdinhgflkfbkaaDoor
