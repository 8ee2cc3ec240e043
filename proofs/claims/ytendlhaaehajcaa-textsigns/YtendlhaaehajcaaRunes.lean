/- Contracts of the functions of text that range over a text's runes: Signs. -/
import Derived.Test.YtendlhaaehajcaaBase
import Derived.Lib.RuneCount
import Derived.Lib.RuneCountTail
namespace Go.Proofs.Ytendlhaaehajcaa
open Go.RowKit
set_option linter.unusedVariables false

theorem below_iter (w : World) (s : ByteArray) (pos : Nat) : Below w.heap.size w (w.iter s pos) := (Below.refl _ _).alloc (Nat.le_refl _) _

set_option maxHeartbeats 400000 in
theorem signs_any (s : ByteArray) (w : World) (hs : s.size ≤ 1000000) :
    Calls Try.prog 25 #[.string s] w fun e w' => e = .returned (.int .i64 (Lib.runeCount s)) ∧ Below w.heap.size w w' := by
  go_enter Try.func25, Try.ntmps25
  go_wp2
  go_loopw [3] (fun n w' => ∃ (pos f c : Nat), w' = w.iter s pos ∧ n = .int .i64 (c : Int) ∧ c + Lib.runeCountFrom s f pos = Lib.runeCount s ∧ s.size ≤ pos + f ∧ c ≤ pos) (fun _ w' => s.size - w'.iterPos w.heap.size)
  case atStart => exact ⟨0, s.size, 0, rfl, rfl, by unfold Lib.runeCount; omega, by omega, by omega⟩
  case round =>
    obtain ⟨pos, f, c, rfl, rfl, hc, hb, hcp⟩ := hrel
    have HC := Lib.hid hc
    clear hc
    by_cases hp : pos < s.size
    · have hnx : ∀ ty, (Instr.next (.pointer (some ⟨w.heap.size, 0, none⟩)) true ty).run Try.prog (w.iter s pos) = _ := fun ty => run_next_any w s pos ty hp
      go_wp2
      have hwd := Lib.decode_width_pos s pos hp
      go_roundw
      case rel =>
        cases f with
        | zero => omega
        | succ f =>
          refine ⟨pos + (Utf8.decode s pos).2, f, c + 1, rfl, by go_num, ?_, by omega, by omega⟩
          rw [← HC.out]
          simp [Lib.runeCountFrom, hp]
          omega
      case measure =>
        simp
        omega
    · have hnx : ∀ ty, (Instr.next (.pointer (some ⟨w.heap.size, 0, none⟩)) true ty).run Try.prog (w.iter s pos) = _ := fun ty => run_next_end w s pos ty hp
      go_wp2
      go_ret
      have h := HC.out
      rw [Lib.runeCountFrom_end s f pos hp] at h
      refine ⟨?_, below_iter w s pos⟩
      rw [← h]
      simp
end Go.Proofs.Ytendlhaaehajcaa
