/-
  DERIVED. GIVEN WITH THE SEED: THE CARDS: each row of YtmknlbldgjaagaaDoorRows.lean that lists a variable, with what it lists TIED to the program's text (the seventh form; the later family's looks); each row that meets fmt, with fmt's text TOLD by the authors' own Lean function (tested against real Go, not proved from fmt's source: count such statements apart). THE CARD IS WHAT COUNTS. Prove the row's statement (the work); the ties are given (YtmknlbldgjaagaaDoorTie.lean); close each card by the builder's one call (the guide's Derived/Test/ToyasCard.lean, 'card_holds'). Laid BY PROGRAM, IN A SANDBOX (cutbox-door.mjs). By AI agents, Wed Nov 11 2026. No macro, syntax, notation, axiom, sorry.
-/
import Derived.Test.YtmknlbldgjaagaaDoorRows
import GoSem.ClaimSeven
namespace Go.Proofs.YtmknlbldgjaagaaDoor
namespace Rows

/-- THE TIED CARD OF 'optimalaw3.PlanSpans'. -/
def planSpansCard : Claim7 := { stood := { row := planSpansRow, standIns := [], harness := (true, "75be365c43241e2eb31454714458a4d70f8eb0d359842f1791b2d4df3613d747"), looks := true }, kinds := [], alts := [], laidByText := true, laidKinds := [.handle, .sentinel, .sentinel, .sentinel, .sentinel, .sentinel, .sentinel, .sentinel, .sentinel, .sentinel, .sentinel], laidTests := true, laidLooks := .later }
def PlanSpansCardSaid : Prop := Claim7.holds Tryd.pinned (.plain (OpenSpec.ofChange planSpansSpec)) planSpansCard

/-- THE SECOND FORM's CARD OF 'optimalaw3.PlanSpans'. -/
def planSpansUptoCard : Claim7 := { stood := { row := planSpansUptoRow, standIns := [], harness := (true, "75be365c43241e2eb31454714458a4d70f8eb0d359842f1791b2d4df3613d747"), looks := true }, kinds := [], alts := [], laidByText := true, laidKinds := [.handle, .sentinel, .sentinel, .sentinel, .sentinel, .sentinel, .sentinel, .sentinel, .sentinel, .sentinel, .sentinel], laidTests := true, laidLooks := .later }
def PlanSpansUptoCardSaid : Prop := Claim7.holds Tryd.pinned (.plain (OpenSpec.upto planSpansSpec)) planSpansUptoCard
end Rows
end Go.Proofs.YtmknlbldgjaagaaDoor
