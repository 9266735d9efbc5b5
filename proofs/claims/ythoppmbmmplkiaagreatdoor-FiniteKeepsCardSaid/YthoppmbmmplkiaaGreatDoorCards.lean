/-
  DERIVED. GIVEN WITH THE SEED: THE CARDS: each row of YthoppmbmmplkiaaGreatDoorRows.lean that lists a variable, with what it lists TIED to the program's text (the seventh form; the later family's looks); each row that meets fmt, with fmt's text TOLD by the authors' own Lean function (tested against real Go, not proved from fmt's source: count such statements apart). THE CARD IS WHAT COUNTS. Prove the row's statement (the work); the ties are given (YthoppmbmmplkiaaGreatDoorTie.lean); close each card by the builder's one call (the guide's Derived/Test/ToyasCard.lean, 'card_holds'). Laid BY PROGRAM, IN A SANDBOX (cutbox-door.mjs). By AI agents, Wed Nov 11 2026. No macro, syntax, notation, axiom, sorry.
-/
import Derived.Test.YthoppmbmmplkiaaGreatDoorRows
import GoSem.ClaimSeven
namespace Go.Proofs.YthoppmbmmplkiaaGreatDoor
namespace Rows

/-- THE TIED CARD OF 'optimalaw3.FiniteKeeps'. -/
def finiteKeepsCard : Claim7 := { stood := { row := finiteKeepsRow, standIns := [], harness := (true, "14c1ce63c75eb1e1fd2ff3519aa6bf37422e1f2fa9b0dd4caa7039dc7e74d9a5"), looks := true }, kinds := [], alts := [], laidByText := true, laidKinds := [.handle, .sentinel, .sentinel, .sentinel, .sentinel, .sentinel, .sentinel, .sentinel, .sentinel, .sentinel, .sentinel], laidTests := true, laidLooks := .later }
def FiniteKeepsCardSaid : Prop := Claim7.holds Tryz.pinned (.plain (OpenSpec.ofChange finiteKeepsSpec)) finiteKeepsCard

/-- THE SECOND FORM's CARD OF 'optimalaw3.FiniteKeeps'. -/
def finiteKeepsUptoCard : Claim7 := { stood := { row := finiteKeepsUptoRow, standIns := [], harness := (true, "14c1ce63c75eb1e1fd2ff3519aa6bf37422e1f2fa9b0dd4caa7039dc7e74d9a5"), looks := true }, kinds := [], alts := [], laidByText := true, laidKinds := [.handle, .sentinel, .sentinel, .sentinel, .sentinel, .sentinel, .sentinel, .sentinel, .sentinel, .sentinel, .sentinel], laidTests := true, laidLooks := .later }
def FiniteKeepsUptoCardSaid : Prop := Claim7.holds Tryz.pinned (.plain (OpenSpec.upto finiteKeepsSpec)) finiteKeepsUptoCard
end Rows
end Go.Proofs.YthoppmbmmplkiaaGreatDoor
