/-
  DERIVED. GIVEN WITH THE SEED: THE CARDS: each row of YtgbajagacmfcmaaGreatDoorRows.lean that lists a variable, with what it lists TIED to the program's text (the seventh form; the later family's looks); each row that meets fmt, with fmt's text TOLD by the authors' own Lean function (tested against real Go, not proved from fmt's source: count such statements apart). THE CARD IS WHAT COUNTS. Prove the row's statement (the work); the ties are given (YtgbajagacmfcmaaGreatDoorTie.lean); close each card by the builder's one call (the guide's Derived/Test/ToyasCard.lean, 'card_holds'). Laid BY PROGRAM, IN A SANDBOX (cutbox-door.mjs). By AI agents, Wed Nov 11 2026. No macro, syntax, notation, axiom, sorry.
-/
import Derived.Test.YtgbajagacmfcmaaGreatDoorRows
import GoSem.ClaimSeven
namespace Go.Proofs.YtgbajagacmfcmaaGreatDoor
namespace Rows

/-- THE TIED CARD OF 'abatislaw07.SpaceDefault'. -/
def spaceDefaultCard : Claim7 := { stood := { row := spaceDefaultRow, standIns := [], harness := (true, "eb5d9c32b0c960fe56025ac6a3afb8481b0ebdf230f692d6194c21d99312d0f4"), looks := false }, kinds := [], alts := [], laidByText := true, laidKinds := [.data, .data, .data], laidTests := true, laidLooks := .later }
def SpaceDefaultCardSaid : Prop := Claim7.holds Tryz.pinned (.plain (OpenSpec.ofChange spaceDefaultSpec)) spaceDefaultCard

/-- THE SECOND FORM's CARD OF 'abatislaw07.SpaceDefault'. -/
def spaceDefaultUptoCard : Claim7 := { stood := { row := spaceDefaultUptoRow, standIns := [], harness := (true, "eb5d9c32b0c960fe56025ac6a3afb8481b0ebdf230f692d6194c21d99312d0f4"), looks := false }, kinds := [], alts := [], laidByText := true, laidKinds := [.data, .data, .data], laidTests := true, laidLooks := .later }
def SpaceDefaultUptoCardSaid : Prop := Claim7.holds Tryz.pinned (.plain (OpenSpec.upto spaceDefaultSpec)) spaceDefaultUptoCard
end Rows
end Go.Proofs.YtgbajagacmfcmaaGreatDoor
