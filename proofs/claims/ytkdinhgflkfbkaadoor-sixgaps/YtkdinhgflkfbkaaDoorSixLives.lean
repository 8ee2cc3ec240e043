/- The document's example of layer 3 is printed as the document says. -/
import Derived.Test.YtkdinhgflkfbkaaDoorSixParseOwn
import Derived.Test.YtkdinhgflkfbkaaDoorEqArr
namespace Go.Proofs.YtkdinhgflkfbkaaDoor
open Go.RowKit
set_option linter.unusedVariables false

theorem print_example : (printB [8193, 3512, 0, 0, 1, 0, 0, 1]).data.toList = [50, 48, 48, 49, 58, 100, 98, 56, 58, 58, 49, 58, 48, 58, 48, 58, 49] := by
  have h1 : mappedB [8193, 3512, 0, 0, 1, 0, 0, 1] = false := by decide
  have h2 : runB [8193, 3512, 0, 0, 1, 0, 0, 1] = (2, 2) := by decide
  have g1 : groupL 1 = [49] := by rw [groupL_one (by decide)]; decide
  have g0 : groupL 0 = [48] := by rw [groupL_one (by decide)]; decide
  have ga : groupL 8193 = [50, 48, 48, 49] := by rw [groupL_more (by decide), groupL_more (by decide), groupL_more (by decide), groupL_one (by decide)]; decide
  have gb : groupL 3512 = [100, 98, 56] := by rw [groupL_more (by decide), groupL_more (by decide), groupL_one (by decide)]; decide
  unfold printB
  rw [h1, h2]
  simp only [Bool.false_eq_true, if_false]
  rw [if_neg (by decide), data_append, data_append, rowS_list, rowS_list, ofL_data]
  simp [rowL, g1, g0, ga, gb]
set_option maxHeartbeats 1000000 in
theorem lives3_any (w : World) (htab : Tabs w) :
    Calls Tryd.prog 13 #[] w fun e w' => e = .returned (.bool true) ∧ Below w.heap.size w w' := by
  obtain ⟨T, hT⟩ : ∃ T, printB [8193, 3512, 0, 0, 1, 0, 0, 1] = T := ⟨_, rfl⟩
  have hp := print_example
  rw [hT] at hp
  have hlist : (T.toList == [50, 48, 48, 49, 58, 100, 98, 56, 58, 58, 49, 58, 48, 58, 48, 58, 49]) = true := by rw [ByteArray.toList_eq, hp]; rfl
  have hlist2 : T.toList = [50, 48, 48, 49, 58, 100, 98, 56, 58, 58, 49, 58, 48, 58, 48, 58, 49] := by rw [ByteArray.toList_eq, hp]
  have HC := Lib.hid (sixPrint_any [8193, 3512, 0, 0, 1, 0, 0, 1] w rfl (by decide) htab)
  rw [hT] at HC
  clear htab hT hp
  go_enter Tryd.func13, Tryd.ntmps13
  go_wp2_with fail
  refine HC.out.mono ?_
  rintro e w1 ⟨rfl, hb⟩
  go_wp2_with fail
  go_ret
  exact ⟨rfl, hb⟩
end Go.Proofs.YtkdinhgflkfbkaaDoor
