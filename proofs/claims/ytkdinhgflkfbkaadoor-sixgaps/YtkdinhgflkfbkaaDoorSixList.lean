/- six.Parse at a text that is given by its bytes. -/
import Derived.Test.YtkdinhgflkfbkaaDoorSixLives
namespace Go.Proofs.YtkdinhgflkfbkaaDoor
open Go.RowKit
set_option linter.unusedVariables false

theorem sixParse_list (s : ByteArray) (l : List UInt8) (r : Option (List Nat)) (w : World) (hl : s.data.toList = l) (hs : s.size ≤ 100000) (hr : parseB (ofL l) = r) (ht : Tabs w) :
    Calls Tryd.prog 11 #[.string s] w fun e w' => e = .returned (parseRet r) ∧ Below w.heap.size w w' := by
  have := sixParse_any s w hs ht
  rw [eq_ofL hl, hr] at this
  rw [eq_ofL hl]
  exact this
end Go.Proofs.YtkdinhgflkfbkaaDoor
