/-
  No cell of these rows narrows 'for every input' (looked for: loops, veiled, ifaces, maps, wideKeys, modest, calm, conditions, laid).
  DERIVED. THE GIVEN ROWS OF THIS SEAT. 4 by the template 'for every input the law returns true; each argument reads behind the call as it read before'; 0 by the template 'total and deterministic' (their statements: YtedmkdjijhflnaaGreatTotals.lean).
  GIVEN WITH THE SEED: the statements are not yours to turn. If you find one false, say at which input.
  Laid BY PROGRAM, IN A SANDBOX (cutbox-rows.mjs): the forced cells as the released guide's own fill.sh prints them over the translation e1c76c98940df73c… (all of the seat's roots in one cut). By AI agents, Wed Nov 11 2026. No macro, syntax, notation, axiom, sorry.
-/
import Derived.Test.YtedmkdjijhflnaaGreatChecked
import GoSem.Claim
import GoSem.ClaimJoined
import GoSem.ClaimMapViews
import Derived.JoinedTies
import Derived.KernelRfl
namespace Go.Proofs.YtedmkdjijhflnaaGreat
/- THE CELL 'sum', in the pinned program and in every row, IS THE sha256 OF THE DUMP (.gsa) THAT YtedmkdjijhflnaaGreatProg.lean LOADS. Nothing in Lean hashes anything: it is a label: what it is worth is what the hold of that sum in a sandbox is worth. -/
noncomputable def Tryz.pinned : Pinned := { name := "ytedmkdjijhflnaagreat", sum := "e1c76c98940df73c7015d09695a1c4334420915a13f7c44d69fa276727b69320", checked := Tryz.checked }
namespace Rows
def none {H : Type} : Left H := { results := [], args := [] }

/-- 'abatislaw12.SolvePlays': WHATEVER THE INPUT: true; the input reads as it did. -/
def solvePlaysSpec : ChangeSpec := { name := "solvePlays", fn := fun _ => fun
  | [d1, d2] => { results := [.lit (.bool true)], args := [d1, d2] }
  | _ => none }
def solvePlaysRow : OpenClaim := { program := "ytedmkdjijhflnaagreat", sum := "e1c76c98940df73c7015d09695a1c4334420915a13f7c44d69fa276727b69320", func := "abatis/abatislaw12.SolvePlays", spec := "solvePlays", inPlace := ["internal/bytealg.IndexByteString", "internal/bytealg.IndexString", "internal/abi.NoEscape", "internal/bytealg.MakeNoZero"], unfollowed := true, recurses := true, named := ["internal/bytealg.MaxLen"], plainKeys := false, apart := false }
def SolvePlaysSaid : Prop := solvePlaysRow.holds Tryz.pinned (OpenSpec.ofChange solvePlaysSpec)

/-- ITS FALSE NEIGHBOUR: 'it returns false'. Refute it at one input. -/
def solvePlaysWrong : ChangeSpec := { name := "solvePlays", fn := fun _ => fun
  | [d1, d2] => { results := [.lit (.bool false)], args := [d1, d2] }
  | _ => none }
def SolvePlaysWrongFalsely : Prop := solvePlaysRow.holds Tryz.pinned (OpenSpec.ofChange solvePlaysWrong)

/-- 'abatislaw12.SolveEnds': WHATEVER THE INPUT: true; the input reads as it did. -/
def solveEndsSpec : ChangeSpec := { name := "solveEnds", fn := fun _ => fun
  | [d1, d2, d3] => { results := [.lit (.bool true)], args := [d1, d2, d3] }
  | _ => none }
def solveEndsRow : OpenClaim := { program := "ytedmkdjijhflnaagreat", sum := "e1c76c98940df73c7015d09695a1c4334420915a13f7c44d69fa276727b69320", func := "abatis/abatislaw12.SolveEnds", spec := "solveEnds", inPlace := ["internal/bytealg.IndexByteString", "internal/bytealg.IndexString", "internal/abi.NoEscape", "internal/bytealg.MakeNoZero"], unfollowed := true, recurses := true, named := ["internal/bytealg.MaxLen"], plainKeys := false, apart := false }
def SolveEndsSaid : Prop := solveEndsRow.holds Tryz.pinned (OpenSpec.ofChange solveEndsSpec)

/-- ITS FALSE NEIGHBOUR: 'it returns false'. Refute it at one input. -/
def solveEndsWrong : ChangeSpec := { name := "solveEnds", fn := fun _ => fun
  | [d1, d2, d3] => { results := [.lit (.bool false)], args := [d1, d2, d3] }
  | _ => none }
def SolveEndsWrongFalsely : Prop := solveEndsRow.holds Tryz.pinned (OpenSpec.ofChange solveEndsWrong)

/-- 'abatislaw12.SolveForged': WHATEVER THE INPUT: true; the input reads as it did. -/
def solveForgedSpec : ChangeSpec := { name := "solveForged", fn := fun _ => fun
  | [d1, d2, d3, d4] => { results := [.lit (.bool true)], args := [d1, d2, d3, d4] }
  | _ => none }
def solveForgedRow : OpenClaim := { program := "ytedmkdjijhflnaagreat", sum := "e1c76c98940df73c7015d09695a1c4334420915a13f7c44d69fa276727b69320", func := "abatis/abatislaw12.SolveForged", spec := "solveForged", inPlace := ["internal/bytealg.IndexByteString", "internal/bytealg.IndexString", "internal/abi.NoEscape", "internal/bytealg.MakeNoZero"], unfollowed := true, recurses := true, named := ["internal/bytealg.MaxLen"], plainKeys := false, apart := false }
def SolveForgedSaid : Prop := solveForgedRow.holds Tryz.pinned (OpenSpec.ofChange solveForgedSpec)

/-- ITS FALSE NEIGHBOUR: 'it returns false'. Refute it at one input. -/
def solveForgedWrong : ChangeSpec := { name := "solveForged", fn := fun _ => fun
  | [d1, d2, d3, d4] => { results := [.lit (.bool false)], args := [d1, d2, d3, d4] }
  | _ => none }
def SolveForgedWrongFalsely : Prop := solveForgedRow.holds Tryz.pinned (OpenSpec.ofChange solveForgedWrong)

/-- 'abatislaw12.SolveAsks': WHATEVER THE INPUT: true; the input reads as it did. -/
def solveAsksSpec : ChangeSpec := { name := "solveAsks", fn := fun _ => fun
  | [d1, d2, d3, d4] => { results := [.lit (.bool true)], args := [d1, d2, d3, d4] }
  | _ => none }
def solveAsksRow : OpenClaim := { program := "ytedmkdjijhflnaagreat", sum := "e1c76c98940df73c7015d09695a1c4334420915a13f7c44d69fa276727b69320", func := "abatis/abatislaw12.SolveAsks", spec := "solveAsks", inPlace := ["internal/bytealg.IndexByteString", "internal/bytealg.IndexString", "internal/abi.NoEscape", "internal/bytealg.MakeNoZero"], unfollowed := true, recurses := true, named := ["internal/bytealg.MaxLen"], plainKeys := false, apart := false }
def SolveAsksSaid : Prop := solveAsksRow.holds Tryz.pinned (OpenSpec.ofChange solveAsksSpec)

/-- ITS FALSE NEIGHBOUR: 'it returns false'. Refute it at one input. -/
def solveAsksWrong : ChangeSpec := { name := "solveAsks", fn := fun _ => fun
  | [d1, d2, d3, d4] => { results := [.lit (.bool false)], args := [d1, d2, d3, d4] }
  | _ => none }
def SolveAsksWrongFalsely : Prop := solveAsksRow.holds Tryz.pinned (OpenSpec.ofChange solveAsksWrong)

/- THE SECOND FORM. 'bulk': how many values and letters a reading holds, each counted each time it is reached (what is shared counts as often as it is met; a slice's spare places count too). A statement '..UptoSaid' is the law's where the arguments, and the package variables that the reading takes, are together of bulk at most 1048576: NARROWER than '..Said'. Prove '..Said' where nothing that the law and all that it calls make is longer than what came in: it says more and counts as full. Else prove '..UptoSaid'. A law counts once. -/
mutual
def uptoBulk {H : Type} : DataW H → Nat
  | .lit (.string bytes) => bytes.length + 1
  | .lit _ => 1
  | .nil => 1
  | .ptr d => uptoBulk d + 1
  | .slice elems spare => uptoBulkAll elems + uptoBulkAll spare + 1
  | .agg parts => uptoBulkAll parts + 1
  | .iface _ d => uptoBulk d + 1
  | .map entries => uptoBulkEntries entries + 1
  | .held _ => 1
def uptoBulkAll {H : Type} : List (DataW H) → Nat
  | [] => 0
  | d :: r => uptoBulk d + uptoBulkAll r
def uptoBulkEntries {H : Type} : List (Lit × DataW H) → Nat
  | [] => 0
  | x :: r => uptoBulkEntry x + uptoBulkEntries r
def uptoBulkEntry {H : Type} : Lit × DataW H → Nat
  | (.string bytes, d) => bytes.length + uptoBulk d + 1
  | (_, d) => uptoBulk d + 1
 end
def uptoSmall : (H : Type) → List (DataW H) → Bool := fun _ ds => decide (uptoBulkAll ds ≤ 1048576)
def OpenSpec.upto (s : _root_.Go.ChangeSpec) : _root_.Go.OpenSpec := { _root_.Go.OpenSpec.ofChange s with cond := some uptoSmall }

/-- 'abatislaw12.SolvePlays', WHERE WHAT IT READS IS OF BULK AT MOST 1048576: true; the input reads as it did. -/
def solvePlaysUptoRow : OpenClaim := { program := "ytedmkdjijhflnaagreat", sum := "e1c76c98940df73c7015d09695a1c4334420915a13f7c44d69fa276727b69320", func := "abatis/abatislaw12.SolvePlays", spec := "solvePlays", inPlace := ["internal/bytealg.IndexByteString", "internal/bytealg.IndexString", "internal/abi.NoEscape", "internal/bytealg.MakeNoZero"], unfollowed := true, recurses := true, named := ["internal/bytealg.MaxLen"], plainKeys := false, apart := false, narrowed := true }
def SolvePlaysUptoSaid : Prop := solvePlaysUptoRow.holds Tryz.pinned (OpenSpec.upto solvePlaysSpec)

/-- 'abatislaw12.SolveEnds', WHERE WHAT IT READS IS OF BULK AT MOST 1048576: true; the input reads as it did. -/
def solveEndsUptoRow : OpenClaim := { program := "ytedmkdjijhflnaagreat", sum := "e1c76c98940df73c7015d09695a1c4334420915a13f7c44d69fa276727b69320", func := "abatis/abatislaw12.SolveEnds", spec := "solveEnds", inPlace := ["internal/bytealg.IndexByteString", "internal/bytealg.IndexString", "internal/abi.NoEscape", "internal/bytealg.MakeNoZero"], unfollowed := true, recurses := true, named := ["internal/bytealg.MaxLen"], plainKeys := false, apart := false, narrowed := true }
def SolveEndsUptoSaid : Prop := solveEndsUptoRow.holds Tryz.pinned (OpenSpec.upto solveEndsSpec)

/-- 'abatislaw12.SolveForged', WHERE WHAT IT READS IS OF BULK AT MOST 1048576: true; the input reads as it did. -/
def solveForgedUptoRow : OpenClaim := { program := "ytedmkdjijhflnaagreat", sum := "e1c76c98940df73c7015d09695a1c4334420915a13f7c44d69fa276727b69320", func := "abatis/abatislaw12.SolveForged", spec := "solveForged", inPlace := ["internal/bytealg.IndexByteString", "internal/bytealg.IndexString", "internal/abi.NoEscape", "internal/bytealg.MakeNoZero"], unfollowed := true, recurses := true, named := ["internal/bytealg.MaxLen"], plainKeys := false, apart := false, narrowed := true }
def SolveForgedUptoSaid : Prop := solveForgedUptoRow.holds Tryz.pinned (OpenSpec.upto solveForgedSpec)

/-- 'abatislaw12.SolveAsks', WHERE WHAT IT READS IS OF BULK AT MOST 1048576: true; the input reads as it did. -/
def solveAsksUptoRow : OpenClaim := { program := "ytedmkdjijhflnaagreat", sum := "e1c76c98940df73c7015d09695a1c4334420915a13f7c44d69fa276727b69320", func := "abatis/abatislaw12.SolveAsks", spec := "solveAsks", inPlace := ["internal/bytealg.IndexByteString", "internal/bytealg.IndexString", "internal/abi.NoEscape", "internal/bytealg.MakeNoZero"], unfollowed := true, recurses := true, named := ["internal/bytealg.MaxLen"], plainKeys := false, apart := false, narrowed := true }
def SolveAsksUptoSaid : Prop := solveAsksUptoRow.holds Tryz.pinned (OpenSpec.upto solveAsksSpec)

end Rows
end Go.Proofs.YtedmkdjijhflnaaGreat
