/- Contracts of the functions that tell a text's kind, byte by byte or rune by rune: Plain, Token, Has, tokenSign. -/
import Derived.Test.YtendlhaaehajcaaRunes
namespace Go.Proofs.Ytendlhaaehajcaa
open Go.RowKit
set_option linter.unusedVariables false

/-- Does every byte meet p? -/
def allB (p : Nat → Bool) (s : ByteArray) : Bool := s.data.toList.all fun c => p c.toNat
/-- Do the first k bytes meet p? -/
def OkTo (p : Nat → Bool) (s : ByteArray) (k : Nat) : Prop := ∀ j (hj : j < s.size), j < k → p (s[j]'hj).toNat = true
theorem okTo_zero (p : Nat → Bool) (s : ByteArray) : OkTo p s 0 := fun _ _ h => by omega
theorem okTo_succ {p : Nat → Bool} {s : ByteArray} {k : Nat} (h : OkTo p s k) (hk : k < s.size) (hp : p (s[k]'hk).toNat = true) : OkTo p s (k + 1) := by
  intro j hj hlt
  by_cases e : j = k
  · subst e; exact hp
  · exact h j hj (by omega)
theorem allB_true {p : Nat → Bool} {s : ByteArray} {k : Nat} (h : OkTo p s k) (hk : s.size ≤ k) : allB p s = true := by
  unfold allB
  rw [List.all_eq_true]
  intro c hc
  obtain ⟨j, hj, rfl⟩ := List.mem_iff_getElem.1 hc
  exact h j (by simpa using hj) (by have : j < s.size := (by simpa using hj); omega)
theorem allB_false {p : Nat → Bool} {s : ByteArray} {k : Nat} (hk : k < s.size) (hp : p (s[k]'hk).toNat = false) : allB p s = false := by
  unfold allB
  rw [List.all_eq_false]
  exact ⟨s[k]'hk, by rw [getElem_data]; exact List.getElem_mem _, by simp [hp]⟩

def plainC (n : Nat) : Bool := decide (33 ≤ n ∧ n ≤ 126)
def markC (n : Nat) : Bool := decide (n = 33 ∨ n = 35 ∨ n = 36 ∨ n = 37 ∨ n = 38 ∨ n = 39 ∨ n = 42 ∨ n = 43 ∨ n = 45 ∨ n = 46 ∨ n = 94 ∨ n = 95 ∨ n = 96 ∨ n = 124 ∨ n = 126)
def tokC (n : Nat) : Bool := decide (97 ≤ n ∧ n ≤ 122) || decide (65 ≤ n ∧ n ≤ 90) || decide (48 ≤ n ∧ n ≤ 57) || markC n
def tokB (s : ByteArray) : Bool := !s.toList.isEmpty && allB tokC s
theorem tokC_low {n : Nat} (h : tokC n = true) : 33 ≤ n ∧ n ≤ 126 := by
  unfold tokC markC at h
  simp at h
  omega
theorem tok_plain {s : ByteArray} (h : tokB s = true) : allB plainC s = true := by
  unfold tokB allB at *
  simp only [Bool.and_eq_true, List.all_eq_true] at h ⊢
  intro c hc
  have := tokC_low (h.2 c hc)
  simp [plainC]; omega

set_option maxHeartbeats 400000 in
theorem refPlain_any (s : ByteArray) (w : World) (hs : s.size ≤ 1000000) :
    Calls Try.prog 24 #[.string s] w fun e w' => e = .returned (.bool (allB plainC s)) ∧ w = w' := by
  go_enter Try.func24, Try.ntmps24
  go_wp2
  go_loop [3] (fun i => ∃ k : Nat, k ≤ s.size ∧ i = .int .i64 k ∧ OkTo plainC s k) (fun i => s.size - (intOf i).toNat)
  case atStart => exact ⟨0, Nat.zero_le _, rfl, okTo_zero _ _⟩
  case round =>
    obtain ⟨k, hk, rfl, hok⟩ := hrel
    by_cases hlt : k < s.size
    · by_cases h1 : (s[k]).toNat < 33
      · go_wp2
        go_ret
        exact ⟨bool_ret (allB_false hlt (by simp [plainC]; omega)).symm, rfl⟩
      · by_cases h2 : 126 < (s[k]).toNat
        · go_wp2
          go_ret
          exact ⟨bool_ret (allB_false hlt (by simp [plainC]; omega)).symm, rfl⟩
        · go_wp2
          go_round
          case rel => exact ⟨k + 1, by omega, by go_num, okTo_succ hok hlt (by simp [plainC]; omega)⟩
          case measure => simp [intOf]; omega
    · go_wp2
      go_ret
      exact ⟨bool_ret (allB_true hok (by omega)).symm, rfl⟩

set_option maxHeartbeats 400000 in
theorem plain_any (s : ByteArray) (w : World) (hs : s.size ≤ 1000000) :
    Calls Try.prog 23 #[.string s] w fun e w' => e = .returned (.bool (allB plainC s)) ∧ Below w.heap.size w w' := by
  go_enter Try.func23, Try.ntmps23
  go_wp2
  go_loopw [] (fun w' => ∃ (pos : Nat), w' = w.iter s pos ∧ pos ≤ s.size ∧ OkTo plainC s pos) (fun w' => s.size - w'.iterPos w.heap.size)
  case atStart => exact ⟨0, rfl, Nat.zero_le _, okTo_zero _ _⟩
  case round =>
    obtain ⟨pos, rfl, hle, hok⟩ := hrel
    by_cases hp : pos < s.size
    · by_cases h8 : (s[pos]).toNat < 128
      · have hnx : ∀ ty, (Instr.next (.pointer (some ⟨w.heap.size, 0, none⟩)) true ty).run Try.prog (w.iter s pos) = _ := fun ty => run_next_ascii w s pos ty hp h8
        by_cases h1 : (s[pos]).toNat < 33
        · go_wp2
          go_ret
          exact ⟨bool_ret (allB_false hp (by simp [plainC]; omega)).symm, below_iter _ _ _⟩
        · by_cases h2 : 126 < (s[pos]).toNat
          · go_wp2
            go_ret
            exact ⟨bool_ret (allB_false hp (by simp [plainC]; omega)).symm, below_iter _ _ _⟩
          · go_wp2
            go_roundw
            case rel => exact ⟨pos + 1, rfl, by omega, okTo_succ hok hp (by simp [plainC]; omega)⟩
            case measure => simp; omega
      · have hnx : ∀ ty, (Instr.next (.pointer (some ⟨w.heap.size, 0, none⟩)) true ty).run Try.prog (w.iter s pos) = _ := fun ty => run_next_any w s pos ty hp
        have hhi := (decode_high s pos hp (by omega)).1
        go_wp2
        go_ret
        exact ⟨bool_ret (allB_false hp (by simp [plainC]; omega)).symm, below_iter _ _ _⟩
    · have hnx : ∀ ty, (Instr.next (.pointer (some ⟨w.heap.size, 0, none⟩)) true ty).run Try.prog (w.iter s pos) = _ := fun ty => run_next_end w s pos ty hp
      go_wp2
      go_ret
      exact ⟨bool_ret (allB_true hok (by omega)).symm, below_iter _ _ _⟩

set_option maxHeartbeats 1000000 in
theorem tokenSign_any (n : Nat) (w : World) (hn : n ≤ 2147483647) :
    Calls Try.prog 31 #[.int .i32 (n : Int)] w fun e w' => e = .returned (.bool (tokC n)) ∧ w = w' := by
  go_enter Try.func31, Try.ntmps31
  go_wp2
  all_goals go_ret
  all_goals refine ⟨bool_ret ?_, rfl⟩
  all_goals (simp only [tokC, markC]; simp_all; try omega)

set_option maxHeartbeats 400000 in
theorem token_any (s : ByteArray) (w : World) (hs : s.size ≤ 1000000) :
    Calls Try.prog 21 #[.string s] w fun e w' => e = .returned (.bool (tokB s)) ∧ Below w.heap.size w w' := by
  have HT : Hid (tokB s = (!s.toList.isEmpty && allB tokC s)) := rfl
  go_enter Try.func21, Try.ntmps21
  go_wp2
  go_loopw [] (fun w' => ∃ (pos : Nat), w' = w.iter s pos ∧ pos ≤ s.size ∧ OkTo tokC s pos) (fun w' => s.size - w'.iterPos w.heap.size)
  case atStart => exact ⟨0, rfl, Nat.zero_le _, okTo_zero _ _⟩
  case round =>
    obtain ⟨pos, rfl, hle, hok⟩ := hrel
    by_cases hp : pos < s.size
    · by_cases h8 : (s[pos]).toNat < 128
      · have hnx : ∀ ty, (Instr.next (.pointer (some ⟨w.heap.size, 0, none⟩)) true ty).run Try.prog (w.iter s pos) = _ := fun ty => run_next_ascii w s pos ty hp h8
        go_wp2_with fail
        refine (tokenSign_any _ _ (by omega)).mono ?_
        rintro e w' ⟨rfl, rfl⟩
        cases ht : tokC (s[pos]).toNat with
        | true =>
          have HH := Lib.hid ht
          clear ht
          go_wp2
          go_roundw
          case rel => exact ⟨pos + 1, rfl, by omega, okTo_succ hok hp HH.out⟩
          case measure => simp; omega
        | false =>
          have HH := Lib.hid ht
          clear ht
          go_wp2
          go_ret
          exact ⟨bool_ret (by rw [HT.out, allB_false hp HH.out]; simp), below_iter _ _ _⟩
      · have hnx : ∀ ty, (Instr.next (.pointer (some ⟨w.heap.size, 0, none⟩)) true ty).run Try.prog (w.iter s pos) = _ := fun ty => run_next_any w s pos ty hp
        have hhi := (decode_high s pos hp (by omega)).1
        have hmx := decode_le s pos
        have hf : tokC (Utf8.decode s pos).1 = false := by
          cases h : tokC (Utf8.decode s pos).1 with
          | false => rfl
          | true => have := tokC_low h; omega
        have hf2 : tokC (s[pos]).toNat = false := by
          cases h : tokC (s[pos]).toNat with
          | false => rfl
          | true => have := tokC_low h; omega
        have HF := Lib.hid hf
        have HF2 := Lib.hid hf2
        clear hf hf2
        go_wp2_with fail
        refine (tokenSign_any _ _ hmx).mono ?_
        rintro e w' ⟨rfl, rfl⟩
        rw [HF.out]
        go_wp2
        go_ret
        exact ⟨bool_ret (by rw [HT.out, allB_false hp HF2.out]; simp), below_iter _ _ _⟩
    · have hnx : ∀ ty, (Instr.next (.pointer (some ⟨w.heap.size, 0, none⟩)) true ty).run Try.prog (w.iter s pos) = _ := fun ty => run_next_end w s pos ty hp
      go_wp2
      go_ret
      refine ⟨bool_ret ?_, below_iter _ _ _⟩
      rw [HT.out, allB_true hok (by omega)]
      simp

/-- Does a text have a byte? -/
def hasB (s : ByteArray) (c : Nat) : Bool := !allB (fun n => !decide (n = c)) s
theorem hasB_marks (c : Nat) : hasB { data := #[33, 35, 36, 37, 38, 39, 42, 43, 45, 46, 94, 95, 96, 124, 126] } c = markC c := by
  unfold hasB allB markC
  simp
  rw [Bool.eq_iff_iff]
  simp
  omega

set_option maxHeartbeats 400000 in
theorem has_any (s : ByteArray) (c : Nat) (w : World) (hs : s.size ≤ 1000000) :
    Calls Try.prog 32 #[.string s, .int .u8 (c : Int)] w fun e w' => e = .returned (.bool (hasB s c)) ∧ w = w' := by
  have HT : Hid (hasB s c = !allB (fun n => !decide (n = c)) s) := rfl
  go_enter Try.func32, Try.ntmps32
  go_wp2
  go_loop [5] (fun i => ∃ k : Nat, k ≤ s.size ∧ i = .int .i64 k ∧ OkTo (fun n => !decide (n = c)) s k) (fun i => s.size - (intOf i).toNat)
  case atStart => exact ⟨0, Nat.zero_le _, rfl, okTo_zero _ _⟩
  case round =>
    obtain ⟨k, hk, rfl, hok⟩ := hrel
    by_cases hlt : k < s.size
    · by_cases h1 : (s[k]).toNat = c
      · go_wp2
        go_ret
        exact ⟨bool_ret (by rw [HT.out, allB_false hlt (by simp [h1])]; rfl), rfl⟩
      · go_wp2
        go_round
        case rel => exact ⟨k + 1, by omega, by go_num, okTo_succ hok hlt (by simp [h1])⟩
        case measure => simp [intOf]; omega
    · go_wp2
      go_ret
      exact ⟨bool_ret (by rw [HT.out, allB_true hok (by omega)]; rfl), rfl⟩

set_option maxHeartbeats 1000000 in
theorem refToken_any (s : ByteArray) (w : World) (hs : s.size ≤ 1000000) :
    Calls Try.prog 22 #[.string s] w fun e w' => e = .returned (.bool (tokB s)) ∧ w = w' := by
  have HT : Hid (tokB s = (!s.toList.isEmpty && allB tokC s)) := rfl
  go_enter Try.func22, Try.ntmps22
  go_wp2
  go_loop [3] (fun i => ∃ k : Nat, k ≤ s.size ∧ i = .int .i64 k ∧ OkTo tokC s k) (fun i => s.size - (intOf i).toNat)
  case atStart => exact ⟨0, Nat.zero_le _, rfl, okTo_zero _ _⟩
  case round =>
    obtain ⟨k, hk, rfl, hok⟩ := hrel
    by_cases hlt : k < s.size
    · obtain ⟨c, hc⟩ : ∃ c, c = (s[k]).toNat := ⟨_, rfl⟩
      have hparts : c < 48 ∨ (48 ≤ c ∧ c ≤ 57) ∨ (58 ≤ c ∧ c < 65) ∨ (65 ≤ c ∧ c ≤ 90) ∨ (91 ≤ c ∧ c < 97) ∨ (97 ≤ c ∧ c ≤ 122) ∨ 123 ≤ c := by omega
      cases hm : markC c with
      | true =>
        have ht : tokC c = true := by simp [tokC, hm]
        rw [hc] at hm ht
        have HM := Lib.hid hm
        have HH := Lib.hid ht
        clear ht hm
        rcases hparts with h | h | h | h | h | h | h
        all_goals
          subst hc
          go_wp2_with fail
          refine (has_any _ _ _ (by decide)).mono ?_
          rintro e w' ⟨rfl, rfl⟩
          rw [hasB_marks, HM.out]
          go_wp2
          go_round
          case rel => exact ⟨k + 1, by omega, by go_num, okTo_succ hok hlt HH.out⟩
          case measure => simp [intOf]; omega
      | false =>
        have ht : tokC c = (decide (97 ≤ c ∧ c ≤ 122) || decide (65 ≤ c ∧ c ≤ 90) || decide (48 ≤ c ∧ c ≤ 57)) := by simp [tokC, hm]
        rw [hc] at hm ht
        have HM := Lib.hid hm
        have HH := Lib.hid ht
        clear ht hm
        rcases hparts with h | h | h | h | h | h | h
        all_goals
          subst hc
          go_wp2_with fail
          refine (has_any _ _ _ (by decide)).mono ?_
          rintro e w' ⟨rfl, rfl⟩
          rw [hasB_marks, HM.out]
          go_wp2
          all_goals first
          | (go_ret; exact ⟨bool_ret (by rw [HT.out, allB_false hlt (by rw [HH.out]; simp; omega)]; simp), rfl⟩)
          | (exfalso; simp only [Bool.not_eq_false', decide_eq_true_eq] at *; omega)
          | (go_round
             case rel => exact ⟨k + 1, by omega, by go_num, okTo_succ hok hlt (by rw [HH.out]; simp; omega)⟩
             case measure => simp [intOf]; omega)
    · go_wp2
      go_ret
      refine ⟨bool_ret ?_, rfl⟩
      rw [HT.out, allB_true hok (by omega)]
      by_cases h0 : s.size = 0
      · rw [isEmpty_true s h0]; simp [h0]
      · rw [isEmpty_false s (by omega)]; simp; omega
end Go.Proofs.Ytendlhaaehajcaa
