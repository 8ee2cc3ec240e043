/- Contracts of the reference's Run, Mapped, group, row of layer 3. -/
import Derived.Test.YtkdinhgflkfbkaaDoorRefSixParse
import Derived.Test.YtkdinhgflkfbkaaDoorRefPrints
import Derived.Test.YtkdinhgflkfbkaaDoorHexParts
import Derived.Test.YtkdinhgflkfbkaaDoorPieces
namespace Go.Proofs.YtkdinhgflkfbkaaDoor
open Go.RowKit
set_option linter.unusedVariables false

/-- A group's digits. -/
def groupL (n : Nat) : List UInt8 := if n < 16 then [hexc n] else groupL (n / 16) ++ [hexc (n % 16)]
termination_by n
decreasing_by omega
theorem groupL_one {n : Nat} (h : n < 16) : groupL n = [hexc n] := by rw [groupL, if_pos h]
theorem groupL_more {n : Nat} (h : ¬ n < 16) : groupL n = groupL (n / 16) ++ [hexc (n % 16)] := by rw [groupL, if_neg h]
theorem groupL_length (n : Nat) (h : n < 65536) : 0 < (groupL n).length ∧ (groupL n).length ≤ 4 := by
  by_cases h1 : n < 16
  · rw [groupL_one h1]; simp
  · by_cases h2 : n / 16 < 16
    · rw [groupL_more h1, groupL_one h2]; simp
    · by_cases h3 : n / 16 / 16 < 16
      · rw [groupL_more h1, groupL_more h2, groupL_one h3]; simp
      · rw [groupL_more h1, groupL_more h2, groupL_more h3, groupL_one (by omega)]; simp
theorem hexS_cut (d : Nat) (h : d < 16) : ∃ D : ByteArray, D = ofL [hexc d] ∧ ({ data := #[48, 49, 50, 51, 52, 53, 54, 55, 56, 57, 97, 98, 99, 100, 101, 102] } : ByteArray).extract d (d + 1) = D := by
  refine ⟨_, rfl, ?_⟩
  have hd : d = 0 ∨ d = 1 ∨ d = 2 ∨ d = 3 ∨ d = 4 ∨ d = 5 ∨ d = 6 ∨ d = 7 ∨ d = 8 ∨ d = 9 ∨ d = 10 ∨ d = 11 ∨ d = 12 ∨ d = 13 ∨ d = 14 ∨ d = 15 := by omega
  rcases hd with rfl | rfl | rfl | rfl | rfl | rfl | rfl | rfl | rfl | rfl | rfl | rfl | rfl | rfl | rfl | rfl <;> decide

set_option maxHeartbeats 1000000 in
theorem refGroup_any (n : Nat) : ∀ (w : World), n < 65536 →
    Calls Tryd.prog 45 #[.int .u16 (n : Int)] w fun e w' => e = .returned (.string (ofL (groupL n))) ∧ w = w' := by
  induction n using Nat.strongRecOn with
  | _ n ih =>
    intro w hn
    obtain ⟨d, hd, ed, hd2⟩ : ∃ d : Nat, d < 16 ∧ (n : Int) % 16 = (d : Int) ∧ n % 16 = d := ⟨n % 16, by omega, by omega, rfl⟩
    obtain ⟨D, hD, hcut⟩ := hexS_cut d hd
    have hDz : D.size = 1 := by rw [hD, ofL_size]; rfl
    have HD := Lib.hid hD
    have HD2 := Lib.hid hd2
    have hw1 : IntKind.u16.wrap ((d : Int) + 1) = (d : Int) + 1 := by rw [IntKind.wrap_u16]; omega
    clear hD hd2
    by_cases h : n < 16
    · have HG := Lib.hid (groupL_one h)
      clear ih
      go_enter Tryd.func45, Tryd.ntmps45
      go_wp2_with fail
      go_ret
      exact ⟨str_ret (by rw [HG.out, ofL_data, HD.out, ofL_data, ← HD2.out, Nat.mod_eq_of_lt h]), rfl⟩
    · have HG := Lib.hid (groupL_more h)
      obtain ⟨m, em, hm⟩ : ∃ m : Nat, (n : Int) / 16 = (m : Int) ∧ n / 16 = m := ⟨n / 16, by omega, rfl⟩
      have HI := Lib.hid (ih m (by omega))
      have HM := Lib.hid hm
      have hml : m < 65536 := by omega
      have hmz := (groupL_length m hml).2
      have hmz2 := ofL_size (groupL m)
      clear ih hm
      go_enter Tryd.func45, Tryd.ntmps45
      go_wp2_with fail
      refine (HI.out _ hml).mono ?_
      rintro e w' ⟨rfl, rfl⟩
      generalize hE : ofL (groupL m) = E at *
      have HE := Lib.hid hE
      have hEz : E.size ≤ 4 := by omega
      clear hE hmz2
      go_wp2_with fail
      go_ret
      exact ⟨str_ret (by rw [HG.out, ofL_data, data_append, ← HE.out, ofL_data, HD.out, ofL_data, HM.out, HD2.out]), rfl⟩

theorem Arr8.new (w : World) (t : TypeId) (x0 x1 x2 x3 x4 x5 x6 x7 : Nat) : Arr8 (w.alloc (.cells #[.int .u16 (x0 : Int), .int .u16 (x1 : Int), .int .u16 (x2 : Int), .int .u16 (x3 : Int), .int .u16 (x4 : Int), .int .u16 (x5 : Int), .int .u16 (x6 : Int), .int .u16 (x7 : Int)] t)) w.heap.size [x0, x1, x2, x3, x4, x5, x6, x7] := by
  refine ⟨rfl, by simp, ?_, ?_⟩
  · intro j hj
    have : j = 0 ∨ j = 1 ∨ j = 2 ∨ j = 3 ∨ j = 4 ∨ j = 5 ∨ j = 6 ∨ j = 7 := by omega
    rcases this with rfl | rfl | rfl | rfl | rfl | rfl | rfl | rfl <;> simp [World.cell?_alloc_new]
  · intro j hj
    exact World.frozen?_alloc_new _ _ _ _
theorem arr8_eq (x0 x1 x2 x3 x4 x5 x6 x7 : Nat) : arr8 [x0, x1, x2, x3, x4, x5, x6, x7] = .agg #[.int .u16 (x0 : Int), .int .u16 (x1 : Int), .int .u16 (x2 : Int), .int .u16 (x3 : Int), .int .u16 (x4 : Int), .int .u16 (x5 : Int), .int .u16 (x6 : Int), .int .u16 (x7 : Int)] := rfl

/-- The first k groups are 0. -/
def zer (gs : List Nat) : Nat → Bool
  | 0 => true
  | k + 1 => zer gs k && decide (gs.getD k 0 = 0)
theorem zer_false (gs : List Nat) (k : Nat) (h : zer gs k = false) : ∀ m, zer gs (k + m) = false
  | 0 => h
  | m + 1 => by rw [← Nat.add_assoc, zer, zer_false gs k h m]; rfl
def mappedB (gs : List Nat) : Bool := zer gs 5 && decide (gs.getD 5 0 = 65535)

set_option maxHeartbeats 1000000 in
theorem refMapped_any (gs : List Nat) (w : World) (h8 : gs.length = 8) (hlt : ∀ x ∈ gs, x < 65536) :
    Calls Tryd.prog 31 #[arr8 gs] w fun e w' => e = .returned (.bool (mappedB gs)) ∧ Below w.heap.size w w' := by
  obtain ⟨x0, x1, x2, x3, x4, x5, x6, x7, hgs⟩ := list8 gs h8
  have hA := Arr8.new w 24 x0 x1 x2 x3 x4 x5 x6 x7
  have hb : Below w.heap.size w (w.alloc (.cells #[.int .u16 (x0 : Int), .int .u16 (x1 : Int), .int .u16 (x2 : Int), .int .u16 (x3 : Int), .int .u16 (x4 : Int), .int .u16 (x5 : Int), .int .u16 (x6 : Int), .int .u16 (x7 : Int)] 24)) := (Below.refl _ _).alloc (Nat.le_refl _) _
  rw [← hgs] at hA
  rw [show arr8 gs = .agg #[.int .u16 (x0 : Int), .int .u16 (x1 : Int), .int .u16 (x2 : Int), .int .u16 (x3 : Int), .int .u16 (x4 : Int), .int .u16 (x5 : Int), .int .u16 (x6 : Int), .int .u16 (x7 : Int)] by rw [hgs]; rfl]
  clear hgs
  go_enter Tryd.func31, Tryd.ntmps31
  go_wp2_with fail
  generalize w.alloc (.cells #[.int .u16 (x0 : Int), .int .u16 (x1 : Int), .int .u16 (x2 : Int), .int .u16 (x3 : Int), .int .u16 (x4 : Int), .int .u16 (x5 : Int), .int .u16 (x6 : Int), .int .u16 (x7 : Int)] 24) = W at *
  have HA := Lib.hid hA
  clear hA
  go_loop [3] (fun i => ∃ k : Nat, k ≤ 5 ∧ i = .int .i64 k ∧ Hid (zer gs k = true)) (fun i => 5 - (intOf i).toNat)
  case atStart => exact ⟨0, by decide, rfl, Lib.hid rfl⟩
  case round =>
    obtain ⟨k, hk, rfl, HK⟩ := hrel
    by_cases hk5 : k < 5
    · have hcell := HA.out.cells k (by omega)
      obtain ⟨x, ex⟩ : ∃ x, gs.getD k 0 = x := ⟨_, rfl⟩
      rw [ex] at hcell
      have HX := Lib.hid ex
      clear ex
      by_cases h0 : x = 0
      · have HT : Hid (zer gs (k + 1) = true) := Lib.hid (by rw [zer, HK.out, HX.out, h0]; rfl)
        have hx0 : ((x : Int) != 0) = false := by simp; omega
        clear h0
        go_wp2_with fail
        go_round
        case rel => exact ⟨k + 1, by omega, by go_num, HT⟩
        case measure => simp [intOf]; omega
      · have HT : Hid (zer gs 5 = false) := Lib.hid (by
          have := zer_false gs (k + 1) (by rw [zer, HK.out, HX.out]; simp [h0]) (5 - (k + 1))
          rwa [show k + 1 + (5 - (k + 1)) = 5 by omega] at this)
        have hx0 : ((x : Int) != 0) = true := by simp; omega
        clear h0
        go_wp2_with fail
        go_ret
        exact ⟨bool_ret (by unfold mappedB; rw [HT.out]; rfl), hb⟩
    · obtain rfl : k = 5 := by omega
      have hcell := HA.out.cells 5 (by decide)
      obtain ⟨x, ex⟩ : ∃ x, gs.getD 5 0 = x := ⟨_, rfl⟩
      rw [ex] at hcell
      have HX := Lib.hid ex
      clear ex
      go_wp2_with fail
      go_ret
      exact ⟨bool_ret (by unfold mappedB; rw [HK.out, HX.out, Bool.true_and, Bool.eq_iff_iff]; simp; omega), hb⟩

/-- How many groups are 0 from the i-th on. -/
def zl (gs : List Nat) : Nat → Nat → Nat
  | 0, _ => 0
  | f + 1, i => if gs.getD i 0 = 0 then zl gs f (i + 1) + 1 else 0
def zrun (gs : List Nat) (i : Nat) : Nat := zl gs (8 - i) i
theorem zl_le (gs : List Nat) : ∀ f i, zl gs f i ≤ f
  | 0, _ => Nat.le_refl _
  | f + 1, i => by
    rw [zl]
    split
    · have := zl_le gs f (i + 1); omega
    · omega
theorem zrun_le (gs : List Nat) (i : Nat) : zrun gs i ≤ 8 - i := zl_le gs _ _
theorem zrun_zero {gs : List Nat} {i : Nat} (h : i < 8) (h0 : gs.getD i 0 = 0) : zrun gs i = zrun gs (i + 1) + 1 := by
  unfold zrun
  rw [show 8 - i = (8 - (i + 1)) + 1 by omega, zl, if_pos h0]
theorem zrun_stop {gs : List Nat} {i : Nat} (h : ¬ i < 8 ∨ ¬ gs.getD i 0 = 0) : zrun gs i = 0 := by
  unfold zrun
  by_cases h8 : i < 8
  · rw [show 8 - i = (8 - (i + 1)) + 1 by omega, zl, if_neg (by rcases h with h | h; omega; exact h)]
  · rw [show 8 - i = 0 by omega, zl]
/-- The first of the longest rows of two zeros or more, among those that begin in the first k places. -/
def runTo (gs : List Nat) : Nat → Nat × Nat
  | 0 => (0, 0)
  | k + 1 => if 2 ≤ zrun gs k ∧ (runTo gs k).2 < zrun gs k then (k, zrun gs k) else runTo gs k
def runB (gs : List Nat) : Nat × Nat := runTo gs 8
theorem runTo_le (gs : List Nat) : ∀ k, k ≤ 8 → (runTo gs k).1 + (runTo gs k).2 ≤ 8
  | 0, _ => by simp [runTo]
  | k + 1, h => by
    rw [runTo]
    split
    · have := zrun_le gs k; simp only; omega
    · exact runTo_le gs k (by omega)
def runRet (p : Nat × Nat) : Value := .tuple #[.int .i64 ((p.1 : Nat) : Int), .int .i64 ((p.2 : Nat) : Int)]
theorem run_ret {o p : Nat × Nat} (h : o = p) : Ending.returned (runRet o) = .returned (runRet p) := by rw [h]

set_option maxRecDepth 100000 in
set_option maxHeartbeats 2000000 in
theorem refRun_any (gs : List Nat) (w : World) (h8 : gs.length = 8) (hlt : ∀ x ∈ gs, x < 65536) :
    Calls Tryd.prog 16 #[arr8 gs] w fun e w' => e = .returned (runRet (runB gs)) ∧ Below w.heap.size w w' := by
  obtain ⟨x0, x1, x2, x3, x4, x5, x6, x7, hgs⟩ := list8 gs h8
  have hA := Arr8.new w 24 x0 x1 x2 x3 x4 x5 x6 x7
  have hb : Below w.heap.size w (w.alloc (.cells #[.int .u16 (x0 : Int), .int .u16 (x1 : Int), .int .u16 (x2 : Int), .int .u16 (x3 : Int), .int .u16 (x4 : Int), .int .u16 (x5 : Int), .int .u16 (x6 : Int), .int .u16 (x7 : Int)] 24)) := (Below.refl _ _).alloc (Nat.le_refl _) _
  rw [← hgs] at hA
  rw [show arr8 gs = .agg #[.int .u16 (x0 : Int), .int .u16 (x1 : Int), .int .u16 (x2 : Int), .int .u16 (x3 : Int), .int .u16 (x4 : Int), .int .u16 (x5 : Int), .int .u16 (x6 : Int), .int .u16 (x7 : Int)] by rw [hgs]; rfl]
  clear hgs
  go_enter Tryd.func16, Tryd.ntmps16
  go_wp2_with fail
  generalize w.alloc (.cells #[.int .u16 (x0 : Int), .int .u16 (x1 : Int), .int .u16 (x2 : Int), .int .u16 (x3 : Int), .int .u16 (x4 : Int), .int .u16 (x5 : Int), .int .u16 (x6 : Int), .int .u16 (x7 : Int)] 24) = W at *
  have HA := Lib.hid hA
  clear hA
  go_loop [4, 5, 6] (fun a m i => ∃ k A M : Nat, k ≤ 8 ∧ i = .int .i64 k ∧ a = .int .i64 (A : Int) ∧ m = .int .i64 (M : Int) ∧ A + M ≤ 8 ∧ Hid (runTo gs k = (A, M))) (fun _ _ i => 8 - (intOf i).toNat)
  case atStart => exact ⟨0, 0, 0, by decide, rfl, rfl, rfl, by decide, Lib.hid rfl⟩
  case round =>
    obtain ⟨k, A, M, hk, rfl, rfl, rfl, hAM, HK⟩ := hrel
    by_cases hk8 : k < 8
    · go_wp2_with fail
      go_loop [7] (fun n => ∃ z : Nat, k + z ≤ 8 ∧ n = .int .i64 (z : Int) ∧ Hid (zrun gs k = z + zrun gs (k + z))) (fun n => 8 - k - (intOf n).toNat)
      case atStart => exact ⟨0, by omega, rfl, Lib.hid (by rw [Nat.zero_add, Nat.add_zero])⟩
      case round =>
        obtain ⟨z, hz, rfl, HZ⟩ := hrel
        by_cases hlt8 : k + z < 8
        · have hcell := HA.out.cells (k + z) hlt8
          obtain ⟨x, ex⟩ : ∃ x, gs.getD (k + z) 0 = x := ⟨_, rfl⟩
          rw [ex] at hcell
          have HX := Lib.hid ex
          clear ex
          have hlti : (k : Int) + (z : Int) < 8 := by omega
          by_cases h0 : x = 0
          · have HT : Hid (zrun gs k = (z + 1) + zrun gs (k + (z + 1))) := Lib.hid (by rw [HZ.out, zrun_zero hlt8 (by rw [HX.out]; exact h0), Nat.add_assoc]; omega)
            have hx0 : ((x : Int) == 0) = true := by simp; omega
            clear h0
            go_wp2_with fail
            go_round
            case rel => exact ⟨z + 1, by omega, by go_num, HT⟩
            case measure => simp [intOf]; omega
          · have HZ2 : Hid (zrun gs k = z) := Lib.hid (by rw [HZ.out, zrun_stop (.inr (by rw [HX.out]; exact h0)), Nat.add_zero])
            have hx0 : ((x : Int) == 0) = false := by simp; omega
            clear h0
            have hz8 : z ≤ 8 := by omega
            by_cases h2 : 2 ≤ z
            · by_cases hM : M < z
              · have HT : Hid (runTo gs (k + 1) = (k, z)) := Lib.hid (by rw [runTo, HZ2.out, HK.out]; simp only [if_pos (show 2 ≤ z ∧ M < z from ⟨h2, hM⟩)])
                go_wp2_with fail
                go_round
                case rel => exact ⟨k + 1, k, z, by omega, by go_num, rfl, rfl, by omega, HT⟩
                case measure => simp [intOf]; omega
              · have HT : Hid (runTo gs (k + 1) = (A, M)) := Lib.hid (by rw [runTo, HZ2.out, HK.out]; simp only [if_neg (show ¬ (2 ≤ z ∧ M < z) from fun h => hM h.2)])
                go_wp2_with fail
                go_round
                case rel => exact ⟨k + 1, A, M, by omega, by go_num, rfl, rfl, by omega, HT⟩
                case measure => simp [intOf]; omega
            · have HT : Hid (runTo gs (k + 1) = (A, M)) := Lib.hid (by rw [runTo, HZ2.out, HK.out]; simp only [if_neg (show ¬ (2 ≤ z ∧ M < z) from fun h => h2 h.1)])
              go_wp2_with fail
              go_round
              case rel => exact ⟨k + 1, A, M, by omega, by go_num, rfl, rfl, by omega, HT⟩
              case measure => simp [intOf]; omega
        · have HZ2 : Hid (zrun gs k = z) := Lib.hid (by rw [HZ.out, zrun_stop (.inl hlt8), Nat.add_zero])
          have hlti : ¬ (k : Int) + (z : Int) < 8 := by omega
          have hz8 : z ≤ 8 := by omega
          by_cases h2 : 2 ≤ z
          · by_cases hM : M < z
            · have HT : Hid (runTo gs (k + 1) = (k, z)) := Lib.hid (by rw [runTo, HZ2.out, HK.out]; simp only [if_pos (show 2 ≤ z ∧ M < z from ⟨h2, hM⟩)])
              go_wp2_with fail
              go_round
              case rel => exact ⟨k + 1, k, z, by omega, by go_num, rfl, rfl, by omega, HT⟩
              case measure => simp [intOf]; omega
            · have HT : Hid (runTo gs (k + 1) = (A, M)) := Lib.hid (by rw [runTo, HZ2.out, HK.out]; simp only [if_neg (show ¬ (2 ≤ z ∧ M < z) from fun h => hM h.2)])
              go_wp2_with fail
              go_round
              case rel => exact ⟨k + 1, A, M, by omega, by go_num, rfl, rfl, by omega, HT⟩
              case measure => simp [intOf]; omega
          · have HT : Hid (runTo gs (k + 1) = (A, M)) := Lib.hid (by rw [runTo, HZ2.out, HK.out]; simp only [if_neg (show ¬ (2 ≤ z ∧ M < z) from fun h => h2 h.1)])
            go_wp2_with fail
            go_round
            case rel => exact ⟨k + 1, A, M, by omega, by go_num, rfl, rfl, by omega, HT⟩
            case measure => simp [intOf]; omega
    · obtain rfl : k = 8 := by omega
      go_wp2_with fail
      go_ret2
      exact ⟨run_ret (o := (A, M)) (by unfold runB; rw [HK.out]), hb⟩
end Go.Proofs.YtkdinhgflkfbkaaDoor
