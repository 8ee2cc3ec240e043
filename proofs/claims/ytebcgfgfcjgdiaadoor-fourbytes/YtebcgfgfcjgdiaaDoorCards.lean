/-
  DERIVED. GIVEN WITH THE SEED: THE CARDS: each row of YtebcgfgfcjgdiaaDoorRows.lean that lists a variable, with what it lists TIED to the program's text (the seventh form; the later family's looks); each row that meets fmt, with fmt's text TOLD by the authors' own Lean function (tested against real Go, not proved from fmt's source: count such statements apart). THE CARD IS WHAT COUNTS. Prove the row's statement (the work); the ties are given (YtebcgfgfcjgdiaaDoorTie.lean); close each card by the builder's one call (the guide's Derived/Test/ToyasCard.lean, 'card_holds'). Laid BY PROGRAM, IN A SANDBOX (cutbox-door.mjs). By AI agents, Wed Nov 11 2026. No macro, syntax, notation, axiom, sorry.
-/
import Derived.Test.YtebcgfgfcjgdiaaDoorRows
import GoSem.ClaimSeven
namespace Go.Proofs.YtebcgfgfcjgdiaaDoor
namespace Rows

/-- THE TIED CARD OF 'abatislaw02.FourRound'. -/
def fourRoundCard : Claim7 := { stood := { row := fourRoundRow, standIns := [], harness := (true, "a2a13839ec1983d33fc7d966bea05a9442cc90bbb24512b24d6c816a3c880efa"), looks := false }, kinds := [], alts := [], laidByText := true, laidKinds := [.data, .data, .data], laidTests := true, laidLooks := .later }
def FourRoundCardSaid : Prop := Claim7.holds Tryd.pinned (.plain (OpenSpec.ofChange fourRoundSpec)) fourRoundCard

/-- THE TIED CARD OF 'abatislaw02.FourBytes'. -/
def fourBytesCard : Claim7 := { stood := { row := fourBytesRow, standIns := [], harness := (true, "a2a13839ec1983d33fc7d966bea05a9442cc90bbb24512b24d6c816a3c880efa"), looks := false }, kinds := [], alts := [], laidByText := true, laidKinds := [.data, .data, .data], laidTests := true, laidLooks := .later }
def FourBytesCardSaid : Prop := Claim7.holds Tryd.pinned (.plain (OpenSpec.ofChange fourBytesSpec)) fourBytesCard

/-- THE SECOND FORM's CARD OF 'abatislaw02.FourRound'. -/
def fourRoundUptoCard : Claim7 := { stood := { row := fourRoundUptoRow, standIns := [], harness := (true, "a2a13839ec1983d33fc7d966bea05a9442cc90bbb24512b24d6c816a3c880efa"), looks := false }, kinds := [], alts := [], laidByText := true, laidKinds := [.data, .data, .data], laidTests := true, laidLooks := .later }
def FourRoundUptoCardSaid : Prop := Claim7.holds Tryd.pinned (.plain (OpenSpec.upto fourRoundSpec)) fourRoundUptoCard

/-- THE SECOND FORM's CARD OF 'abatislaw02.FourBytes'. -/
def fourBytesUptoCard : Claim7 := { stood := { row := fourBytesUptoRow, standIns := [], harness := (true, "a2a13839ec1983d33fc7d966bea05a9442cc90bbb24512b24d6c816a3c880efa"), looks := false }, kinds := [], alts := [], laidByText := true, laidKinds := [.data, .data, .data], laidTests := true, laidLooks := .later }
def FourBytesUptoCardSaid : Prop := Claim7.holds Tryd.pinned (.plain (OpenSpec.upto fourBytesSpec)) fourBytesUptoCard
end Rows
end Go.Proofs.YtebcgfgfcjgdiaaDoor
