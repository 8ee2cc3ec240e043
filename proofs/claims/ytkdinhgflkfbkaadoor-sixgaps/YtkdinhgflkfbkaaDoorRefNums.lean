/- Contracts of the reference's digit, Number and Decimal: a number's decimal digits, and how they are read back. -/
import Derived.Test.YtkdinhgflkfbkaaDoorNumbers
import Derived.OpenShut
import Derived.Lib.ItoaLen
namespace Go.Proofs.YtkdinhgflkfbkaaDoor
open Go.RowKit
set_option linter.unusedVariables false

/-- A digit's number as the reference tells it; -1: it is none. -/
def digI (c : Nat) : Int := if digC c < 16 then (digC c : Int) else -1

set_option maxHeartbeats 1000000 in
theorem refDigit_any (c : Nat) (w : World) (hc : c < 256) :
    Calls Tryd.prog 56 #[.int .u8 (c : Int)] w fun e w' => e = .returned (.int .i64 (digI c)) ∧ w = w' := by
  have hparts : c < 48 ∨ (48 ≤ c ∧ c ≤ 57) ∨ (58 ≤ c ∧ c < 65) ∨ (65 ≤ c ∧ c ≤ 70) ∨ (71 ≤ c ∧ c < 97) ∨ (97 ≤ c ∧ c ≤ 102) ∨ 103 ≤ c := by omega
  rcases hparts with h | h | h | h | h | h | h
  · have e : digI c = -1 := by unfold digI digC; rw [if_neg (by omega : ¬ (48 ≤ c ∧ c ≤ 57)), if_neg (by omega : ¬ (97 ≤ c ∧ c ≤ 102)), if_neg (by omega : ¬ (65 ≤ c ∧ c ≤ 70))]; rfl
    rw [e]
    go_enter Tryd.func56, Tryd.ntmps56
    go_wp2
    go_ret
    exact ⟨rfl, rfl⟩
  · have e : digI c = (c : Int) - 48 := by unfold digI digC; rw [if_pos (by omega : (48 ≤ c ∧ c ≤ 57)), if_pos (by omega)]; omega
    rw [e]
    clear e
    go_enter Tryd.func56, Tryd.ntmps56
    go_wp2
    go_ret
    exact ⟨rfl, rfl⟩
  · have e : digI c = -1 := by unfold digI digC; rw [if_neg (by omega : ¬ (48 ≤ c ∧ c ≤ 57)), if_neg (by omega : ¬ (97 ≤ c ∧ c ≤ 102)), if_neg (by omega : ¬ (65 ≤ c ∧ c ≤ 70))]; rfl
    rw [e]
    go_enter Tryd.func56, Tryd.ntmps56
    go_wp2
    go_ret
    exact ⟨rfl, rfl⟩
  · have e : digI c = (c : Int) - 55 := by unfold digI digC; rw [if_neg (by omega : ¬ (48 ≤ c ∧ c ≤ 57)), if_neg (by omega : ¬ (97 ≤ c ∧ c ≤ 102)), if_pos (by omega : (65 ≤ c ∧ c ≤ 70)), if_pos (by omega)]; omega
    rw [e]
    clear e
    go_enter Tryd.func56, Tryd.ntmps56
    go_wp2
    go_ret
    exact ⟨rfl, rfl⟩
  · have e : digI c = -1 := by unfold digI digC; rw [if_neg (by omega : ¬ (48 ≤ c ∧ c ≤ 57)), if_neg (by omega : ¬ (97 ≤ c ∧ c ≤ 102)), if_neg (by omega : ¬ (65 ≤ c ∧ c ≤ 70))]; rfl
    rw [e]
    go_enter Tryd.func56, Tryd.ntmps56
    go_wp2
    go_ret
    exact ⟨rfl, rfl⟩
  · have e : digI c = (c : Int) - 87 := by unfold digI digC; rw [if_neg (by omega : ¬ (48 ≤ c ∧ c ≤ 57)), if_pos (by omega : (97 ≤ c ∧ c ≤ 102)), if_pos (by omega)]; omega
    rw [e]
    clear e
    go_enter Tryd.func56, Tryd.ntmps56
    go_wp2
    go_ret
    exact ⟨rfl, rfl⟩
  · have e : digI c = -1 := by unfold digI digC; rw [if_neg (by omega : ¬ (48 ≤ c ∧ c ≤ 57)), if_neg (by omega : ¬ (97 ≤ c ∧ c ≤ 102)), if_neg (by omega : ¬ (65 ≤ c ∧ c ≤ 70))]; rfl
    rw [e]
    go_enter Tryd.func56, Tryd.ntmps56
    go_wp2
    go_ret
    exact ⟨rfl, rfl⟩

set_option maxHeartbeats 2000000 in
theorem refNumber_8 (s : ByteArray) (w : World) (hs : s.size ≤ 1000000) :
    Calls Tryd.prog 52 #[.string s, .int .i64 8] w fun e w' => e = .returned (numRet (numB s 8)) ∧ w = w' := by
  have HN : Hid (s.size = 0 ∨ numB s 8 = numTo s 8 s.size) := by
    by_cases h0 : s.size = 0
    · exact Lib.hid (.inl h0)
    · exact Lib.hid (.inr (by unfold numB; rw [if_neg h0]))
  go_enter Tryd.func52, Tryd.ntmps52
  go_wp2
  go_loop [6, 7] (fun t i => ∃ k n : Nat, k ≤ s.size ∧ i = .int .i64 k ∧ t = .int .i64 (n : Int) ∧ Hid (numTo s 8 k = some n)) (fun _ i => s.size - (intOf i).toNat)
  case atStart => exact ⟨0, 0, Nat.zero_le _, rfl, rfl, Lib.hid rfl⟩
  case round =>
    obtain ⟨k, n, hk, rfl, rfl, HK⟩ := hrel
    have hn : n ≤ 1099511627776 := numTo_le s 8 k n HK.out
    by_cases hlt : k < s.size
    · have u1 : (s[k]).toNat < 256 := (s[k]).toNat_lt
      have HS := Lib.hid (numTo_step HK.out hlt)
      have hd := digC_le (s[k]).toNat
      go_wp2_with fail
      refine (refDigit_any _ _ u1).mono ?_
      rintro e w' ⟨rfl, rfl⟩
      unfold digI
      generalize digC (s[k]).toNat = d at *
      by_cases h16 : d < 16
      · rw [if_pos h16]
        by_cases h1 : 8 ≤ d
        · go_wp2
          go_ret2
          exact ⟨num_ret (numB_dead hlt (by rw [HS.out, if_pos h1])).symm, rfl⟩
        · by_cases h2 : 1099511627776 < n * 8 + d
          · go_wp2
            go_ret2
            exact ⟨num_ret (numB_dead hlt (by rw [HS.out, if_neg h1, if_pos (by exact h2)])).symm, rfl⟩
          · go_wp2
            go_round
            case rel => exact ⟨k + 1, n * 8 + d, by omega, by go_num, by go_num, Lib.hid (by rw [HS.out, if_neg h1, if_neg (by exact h2)])⟩
            case measure => simp [intOf]; omega
      · rw [if_neg h16]
        go_wp2
        go_ret2
        exact ⟨num_ret (numB_dead hlt (by rw [HS.out, if_pos (by omega)])).symm, rfl⟩
    · obtain rfl : k = s.size := by omega
      by_cases h0 : s.size = 0
      · have hz : numB s 8 = none := by unfold numB; rw [if_pos h0]
        have hk0 := HK.out
        rw [h0] at hk0
        have hn0 : n = 0 := by
          have : numTo s 8 0 = some 0 := rfl
          rw [this] at hk0
          exact (Option.some.inj hk0).symm
        subst hn0
        have HZ := Lib.hid hz
        clear hz hk0
        go_wp2
        go_ret2
        exact ⟨num_ret (o := none) HZ.out.symm, rfl⟩
      · have h1 : 0 < s.size := by omega
        have HE : Hid (numB s 8 = some n) := by
          rcases HN.out with h | h
          · exact absurd h h0
          · exact Lib.hid (h.trans HK.out)
        clear h0
        go_wp2
        go_ret2
        exact ⟨num_ret (o := some n) HE.out.symm, rfl⟩

set_option maxHeartbeats 2000000 in
theorem refNumber_10 (s : ByteArray) (w : World) (hs : s.size ≤ 1000000) :
    Calls Tryd.prog 52 #[.string s, .int .i64 10] w fun e w' => e = .returned (numRet (numB s 10)) ∧ w = w' := by
  have HN : Hid (s.size = 0 ∨ numB s 10 = numTo s 10 s.size) := by
    by_cases h0 : s.size = 0
    · exact Lib.hid (.inl h0)
    · exact Lib.hid (.inr (by unfold numB; rw [if_neg h0]))
  go_enter Tryd.func52, Tryd.ntmps52
  go_wp2
  go_loop [6, 7] (fun t i => ∃ k n : Nat, k ≤ s.size ∧ i = .int .i64 k ∧ t = .int .i64 (n : Int) ∧ Hid (numTo s 10 k = some n)) (fun _ i => s.size - (intOf i).toNat)
  case atStart => exact ⟨0, 0, Nat.zero_le _, rfl, rfl, Lib.hid rfl⟩
  case round =>
    obtain ⟨k, n, hk, rfl, rfl, HK⟩ := hrel
    have hn : n ≤ 1099511627776 := numTo_le s 10 k n HK.out
    by_cases hlt : k < s.size
    · have u1 : (s[k]).toNat < 256 := (s[k]).toNat_lt
      have HS := Lib.hid (numTo_step HK.out hlt)
      have hd := digC_le (s[k]).toNat
      go_wp2_with fail
      refine (refDigit_any _ _ u1).mono ?_
      rintro e w' ⟨rfl, rfl⟩
      unfold digI
      generalize digC (s[k]).toNat = d at *
      by_cases h16 : d < 16
      · rw [if_pos h16]
        by_cases h1 : 10 ≤ d
        · go_wp2
          go_ret2
          exact ⟨num_ret (numB_dead hlt (by rw [HS.out, if_pos h1])).symm, rfl⟩
        · by_cases h2 : 1099511627776 < n * 10 + d
          · go_wp2
            go_ret2
            exact ⟨num_ret (numB_dead hlt (by rw [HS.out, if_neg h1, if_pos (by exact h2)])).symm, rfl⟩
          · go_wp2
            go_round
            case rel => exact ⟨k + 1, n * 10 + d, by omega, by go_num, by go_num, Lib.hid (by rw [HS.out, if_neg h1, if_neg (by exact h2)])⟩
            case measure => simp [intOf]; omega
      · rw [if_neg h16]
        go_wp2
        go_ret2
        exact ⟨num_ret (numB_dead hlt (by rw [HS.out, if_pos (by omega)])).symm, rfl⟩
    · obtain rfl : k = s.size := by omega
      by_cases h0 : s.size = 0
      · have hz : numB s 10 = none := by unfold numB; rw [if_pos h0]
        have hk0 := HK.out
        rw [h0] at hk0
        have hn0 : n = 0 := by
          have : numTo s 10 0 = some 0 := rfl
          rw [this] at hk0
          exact (Option.some.inj hk0).symm
        subst hn0
        have HZ := Lib.hid hz
        clear hz hk0
        go_wp2
        go_ret2
        exact ⟨num_ret (o := none) HZ.out.symm, rfl⟩
      · have h1 : 0 < s.size := by omega
        have HE : Hid (numB s 10 = some n) := by
          rcases HN.out with h | h
          · exact absurd h h0
          · exact Lib.hid (h.trans HK.out)
        clear h0
        go_wp2
        go_ret2
        exact ⟨num_ret (o := some n) HE.out.symm, rfl⟩

set_option maxHeartbeats 2000000 in
theorem refNumber_16 (s : ByteArray) (w : World) (hs : s.size ≤ 1000000) :
    Calls Tryd.prog 52 #[.string s, .int .i64 16] w fun e w' => e = .returned (numRet (numB s 16)) ∧ w = w' := by
  have HN : Hid (s.size = 0 ∨ numB s 16 = numTo s 16 s.size) := by
    by_cases h0 : s.size = 0
    · exact Lib.hid (.inl h0)
    · exact Lib.hid (.inr (by unfold numB; rw [if_neg h0]))
  go_enter Tryd.func52, Tryd.ntmps52
  go_wp2
  go_loop [6, 7] (fun t i => ∃ k n : Nat, k ≤ s.size ∧ i = .int .i64 k ∧ t = .int .i64 (n : Int) ∧ Hid (numTo s 16 k = some n)) (fun _ i => s.size - (intOf i).toNat)
  case atStart => exact ⟨0, 0, Nat.zero_le _, rfl, rfl, Lib.hid rfl⟩
  case round =>
    obtain ⟨k, n, hk, rfl, rfl, HK⟩ := hrel
    have hn : n ≤ 1099511627776 := numTo_le s 16 k n HK.out
    by_cases hlt : k < s.size
    · have u1 : (s[k]).toNat < 256 := (s[k]).toNat_lt
      have HS := Lib.hid (numTo_step HK.out hlt)
      have hd := digC_le (s[k]).toNat
      go_wp2_with fail
      refine (refDigit_any _ _ u1).mono ?_
      rintro e w' ⟨rfl, rfl⟩
      unfold digI
      generalize digC (s[k]).toNat = d at *
      by_cases h16 : d < 16
      · rw [if_pos h16]
        by_cases h1 : 16 ≤ d
        · exfalso; omega
        · by_cases h2 : 1099511627776 < n * 16 + d
          · go_wp2
            go_ret2
            exact ⟨num_ret (numB_dead hlt (by rw [HS.out, if_neg h1, if_pos (by exact h2)])).symm, rfl⟩
          · go_wp2
            go_round
            case rel => exact ⟨k + 1, n * 16 + d, by omega, by go_num, by go_num, Lib.hid (by rw [HS.out, if_neg h1, if_neg (by exact h2)])⟩
            case measure => simp [intOf]; omega
      · rw [if_neg h16]
        go_wp2
        go_ret2
        exact ⟨num_ret (numB_dead hlt (by rw [HS.out, if_pos (by omega)])).symm, rfl⟩
    · obtain rfl : k = s.size := by omega
      by_cases h0 : s.size = 0
      · have hz : numB s 16 = none := by unfold numB; rw [if_pos h0]
        have hk0 := HK.out
        rw [h0] at hk0
        have hn0 : n = 0 := by
          have : numTo s 16 0 = some 0 := rfl
          rw [this] at hk0
          exact (Option.some.inj hk0).symm
        subst hn0
        have HZ := Lib.hid hz
        clear hz hk0
        go_wp2
        go_ret2
        exact ⟨num_ret (o := none) HZ.out.symm, rfl⟩
      · have h1 : 0 < s.size := by omega
        have HE : Hid (numB s 16 = some n) := by
          rcases HN.out with h | h
          · exact absurd h h0
          · exact Lib.hid (h.trans HK.out)
        clear h0
        go_wp2
        go_ret2
        exact ⟨num_ret (o := some n) HE.out.symm, rfl⟩

theorem refNumber_any (s : ByteArray) (b : Nat) (w : World) (hs : s.size ≤ 1000000) (hb : b = 8 ∨ b = 10 ∨ b = 16) :
    Calls Tryd.prog 52 #[.string s, .int .i64 (b : Int)] w fun e w' => e = .returned (numRet (numB s b)) ∧ w = w' := by
  rcases hb with rfl | rfl | rfl
  · exact refNumber_8 s w hs
  · exact refNumber_10 s w hs
  · exact refNumber_16 s w hs

/-- Texts of lists of bytes, one behind the other. -/
theorem mk_append (l m : List UInt8) : (⟨l.toArray⟩ : ByteArray) ++ ⟨m.toArray⟩ = ⟨(l ++ m).toArray⟩ := by
  apply bytes_ext
  rw [data_append]
theorem dec_length (u : Nat) (h : u ≤ 9223372036854775807) : (Lib.decDigits u).length ≤ 21 := by
  have := Lib.itoa_length_le (u : Int) (by omega) (by omega)
  unfold Lib.itoa at this
  rw [if_neg (by omega)] at this
  simpa using this

set_option maxHeartbeats 1000000 in
theorem refDecimal_nat (u : Nat) : ∀ (w : World), u ≤ 9223372036854775807 →
    Calls Tryd.prog 22 #[.int .i64 (u : Int)] w fun e w' => e = .returned (.string ⟨(Lib.decDigits u).toArray⟩) ∧ Below w.heap.size w w' := by
  induction u using Nat.strongRecOn with
  | _ u ih =>
    intro w hu
    have hone := one_byte (48 + u % 10) (by omega) w
    have e48 : ((48 + u % 10 : Nat) : Int) = 48 + (u : Int) % 10 := by omega
    rw [e48] at hone
    clear e48
    by_cases h10 : u < 10
    · have e : Lib.decDigits u = [UInt8.ofNat (48 + u % 10)] := by rw [Lib.decDigits, dif_pos h10, Nat.mod_eq_of_lt h10]
      rw [e]
      clear e ih
      generalize UInt8.ofNat (48 + u % 10) = c at hone ⊢
      go_enter Tryd.func22, Tryd.ntmps22
      go_wp2_with fail
      go_ret
      exact ⟨rfl, (Below.refl _ _).alloc (Nat.le_refl _) _⟩
    · have e : Lib.decDigits u = Lib.decDigits (u / 10) ++ [UInt8.ofNat (48 + u % 10)] := by rw [Lib.decDigits, dif_neg h10]
      have hlen := dec_length (u / 10) (by omega)
      have e10 : ((u / 10 : Nat) : Int) = (u : Int) / 10 := by omega
      have HI : Hid (∀ w, Calls Tryd.prog 22 #[.int .i64 ((u : Int) / 10)] w fun e w' => e = .returned (.string ⟨(Lib.decDigits (u / 10)).toArray⟩) ∧ Below w.heap.size w w') := by
        refine Lib.hid fun w => ?_
        have := ih (u / 10) (by omega) w (by omega)
        rw [e10] at this
        exact this
      rw [e, ← mk_append]
      clear e ih e10
      have hsz : (⟨(Lib.decDigits (u / 10)).toArray⟩ : ByteArray).size ≤ 21 := hlen
      generalize (⟨(Lib.decDigits (u / 10)).toArray⟩ : ByteArray) = t at *
      generalize UInt8.ofNat (48 + u % 10) = c at hone ⊢
      go_enter Tryd.func22, Tryd.ntmps22
      go_wp2_with fail
      refine (HI.out _).mono ?_
      rintro e w1 ⟨rfl, hb1⟩
      go_wp2_with fail
      go_ret
      exact ⟨rfl, ((Below.refl _ _).alloc (Nat.le_refl _) _).trans (hb1.mono (by simp))⟩

theorem itoa_min : (Lib.itoa (-9223372036854775808)) = [45, 57, 50, 50, 51, 51, 55, 50, 48, 51, 54, 56, 53, 52, 55, 55, 53, 56, 48, 56] := by
  unfold Lib.itoa
  rw [if_pos (by decide)]
  simp [Lib.decDigits]

set_option maxHeartbeats 1000000 in
theorem refDecimal_any (n : Int) (w : World) (h0 : -9223372036854775808 ≤ n) (h1 : n ≤ 9223372036854775807) :
    Calls Tryd.prog 22 #[.int .i64 n] w fun e w' => e = .returned (.string ⟨(Lib.itoa n).toArray⟩) ∧ Below w.heap.size w w' := by
  by_cases hn : 0 ≤ n
  · obtain ⟨u, rfl⟩ : ∃ u : Nat, n = (u : Int) := ⟨n.toNat, by omega⟩
    have e : Lib.itoa (u : Int) = Lib.decDigits u := by unfold Lib.itoa; rw [if_neg (by omega)]; rfl
    rw [e]
    exact refDecimal_nat u w (by omega)
  · by_cases hm : n < -9223372036854775807
    · obtain rfl : n = -9223372036854775808 := by omega
      rw [itoa_min]
      go_enter Tryd.func22, Tryd.ntmps22
      go_wp2_with fail
      go_ret
      exact ⟨rfl, Below.refl _ _⟩
    · obtain ⟨u, hu⟩ : ∃ u : Nat, -n = (u : Int) := ⟨(-n).toNat, by omega⟩
      have e : Lib.itoa n = [45] ++ Lib.decDigits u := by
        unfold Lib.itoa
        rw [if_pos (by omega), show n.natAbs = u by omega]
        rfl
      have hlen := dec_length u (by omega)
      rw [e, ← mk_append]
      have HI : Hid (∀ w, Calls Tryd.prog 22 #[.int .i64 (-n)] w fun e w' => e = .returned (.string ⟨(Lib.decDigits u).toArray⟩) ∧ Below w.heap.size w w') := by
        refine Lib.hid fun w => ?_
        rw [hu]
        exact refDecimal_nat u w (by omega)
      clear e hu
      have hsz : (⟨(Lib.decDigits u).toArray⟩ : ByteArray).size ≤ 21 := hlen
      generalize (⟨(Lib.decDigits u).toArray⟩ : ByteArray) = t at *
      go_enter Tryd.func22, Tryd.ntmps22
      go_wp2_with fail
      refine (HI.out _).mono ?_
      rintro e w1 ⟨rfl, hb1⟩
      go_wp2_with fail
      go_ret
      exact ⟨rfl, hb1⟩

theorem byteOf_left (s X : ByteArray) (k : Nat) (h : k < s.size) : byteOf (s ++ X) k = byteOf s k := by
  unfold byteOf
  rw [data_append]
  simp only [List.getD_eq_getElem?_getD]
  rw [List.getElem?_append_left (by simpa using h)]
theorem numTo_left (s X : ByteArray) (b : Nat) : ∀ k, k ≤ s.size → numTo (s ++ X) b k = numTo s b k
  | 0, _ => rfl
  | k + 1, h => by rw [numTo, numTo, numTo_left s X b k (by omega), byteOf_left s X k (by omega)]
theorem digC_dec (d : Nat) (h : d < 10) : digC (UInt8.ofNat (48 + d)).toNat = d := by
  rw [UInt8.toNat_ofNat', Nat.mod_eq_of_lt (by omega)]
  unfold digC
  rw [if_pos (by omega)]
  omega
/-- The digits of a number, from 0 on, are read as the number, if it is not too great. -/
theorem dec_numTo (u : Nat) : numTo ⟨(Lib.decDigits u).toArray⟩ 10 (Lib.decDigits u).length = if u ≤ most then some u else none := by
  induction u using Nat.strongRecOn with
  | _ u ih =>
    by_cases h10 : u < 10
    · have e : Lib.decDigits u = [UInt8.ofNat (48 + u)] := by rw [Lib.decDigits, dif_pos h10]
      rw [e, if_pos (by unfold most; omega)]
      have hb : byteOf ⟨[UInt8.ofNat (48 + u)].toArray⟩ 0 = (UInt8.ofNat (48 + u)).toNat := rfl
      show numTo _ 10 (0 + 1) = _
      rw [numTo, numTo, hb, digC_dec u h10]
      simp only []
      rw [if_neg (by omega), if_neg (by unfold most; omega)]
      simp
    · have e : Lib.decDigits u = Lib.decDigits (u / 10) ++ [UInt8.ofNat (48 + u % 10)] := by rw [Lib.decDigits, dif_neg h10]
      have hi := ih (u / 10) (by omega)
      rw [e, ← mk_append, List.length_append, List.length_singleton]
      have hs : (⟨(Lib.decDigits (u / 10)).toArray⟩ : ByteArray).size = (Lib.decDigits (u / 10)).length := rfl
      have hb : byteOf ((⟨(Lib.decDigits (u / 10)).toArray⟩ : ByteArray) ++ ⟨[UInt8.ofNat (48 + u % 10)].toArray⟩) (Lib.decDigits (u / 10)).length = (UInt8.ofNat (48 + u % 10)).toNat := by
        unfold byteOf
        rw [data_append, List.getD_eq_getElem?_getD, List.getElem?_append_right (by simp)]
        simp
      rw [numTo, numTo_left _ _ _ _ (by rw [hs]; exact Nat.le_refl _), hi, hb, digC_dec _ (by omega)]
      by_cases hm : u / 10 ≤ most
      · rw [if_pos hm]
        simp only []
        rw [if_neg (by omega), show u / 10 * 10 + u % 10 = u by omega]
        by_cases h2 : most < u
        · rw [if_pos h2, if_neg (by omega)]
        · rw [if_neg h2, if_pos (by omega)]
      · rw [if_neg hm, if_neg (by omega)]
theorem dec_pos (u : Nat) : 0 < (Lib.decDigits u).length := by
  rw [Lib.decDigits]
  split <;> simp
theorem num_bad0 (s : ByteArray) (b j : Nat) (hj : j < s.size) (h : b ≤ digC (byteOf s j)) : numB s b = none := by
  apply numB_dead hj
  rw [numTo]
  cases numTo s b j with
  | none => rfl
  | some n => simp only [if_pos h]
/-- What Number answers of a number's digits. -/
theorem itoa_num (n : Int) : numB ⟨(Lib.itoa n).toArray⟩ 10 = if 0 ≤ n ∧ n ≤ 1099511627776 then some n.toNat else none := by
  by_cases hn : 0 ≤ n
  · obtain ⟨u, rfl⟩ : ∃ u : Nat, n = (u : Int) := ⟨n.toNat, by omega⟩
    have e : Lib.itoa (u : Int) = Lib.decDigits u := by unfold Lib.itoa; rw [if_neg (by omega)]; rfl
    rw [e]
    unfold numB
    have hs : (⟨(Lib.decDigits u).toArray⟩ : ByteArray).size = (Lib.decDigits u).length := rfl
    have hp := dec_pos u
    rw [hs, if_neg (by omega), dec_numTo]
    by_cases h : u ≤ most
    · rw [if_pos h, if_pos (by unfold most at h; omega)]; simp
    · rw [if_neg h, if_neg (by unfold most at h; omega)]
  · rw [if_neg (by omega)]
    have e : Lib.itoa n = 45 :: Lib.decDigits n.natAbs := by unfold Lib.itoa; rw [if_pos (by omega)]
    rw [e]
    apply num_bad0 _ _ 0
    · show 0 < (45 :: Lib.decDigits n.natAbs).length
      simp
    · show 10 ≤ digC 45
      decide
end Go.Proofs.YtkdinhgflkfbkaaDoor
