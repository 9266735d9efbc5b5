/-
  DERIVED. GIVEN WITH THE SEED: THE CARDS: each row of YtkdobjmhammhbaaGreatDoorRows.lean that lists a variable, with what it lists TIED to the program's text (the seventh form; the later family's looks); each row that meets fmt, with fmt's text TOLD by the authors' own Lean function (tested against real Go, not proved from fmt's source: count such statements apart). THE CARD IS WHAT COUNTS. Prove the row's statement (the work); the ties are given (YtkdobjmhammhbaaGreatDoorTie.lean); close each card by the builder's one call (the guide's Derived/Test/ToyasCard.lean, 'card_holds'). Laid BY PROGRAM, IN A SANDBOX (cutbox-door.mjs). By AI agents, Wed Nov 11 2026. No macro, syntax, notation, axiom, sorry.
-/
import Derived.Test.YtkdobjmhammhbaaGreatDoorRows
import GoSem.ClaimSeven
namespace Go.Proofs.YtkdobjmhammhbaaGreatDoor
namespace Rows

/-- THE TIED CARD OF 'optimalaw3.NetsMost'. -/
def netsMostCard : Claim7 := { stood := { row := netsMostRow, standIns := [], harness := (true, "c27901d4c18163c03c1e19715e0c12d19f7e427114bb69cde749cc0c242c4646"), looks := true }, kinds := [], alts := [], laidByText := true, laidKinds := [.data, .data, .data, .handle, .sentinel, .sentinel, .sentinel, .sentinel, .sentinel, .sentinel, .sentinel, .sentinel, .sentinel, .sentinel], laidTests := true, laidLooks := .later }
def NetsMostCardSaid : Prop := Claim7.holds Tryz.pinned (.plain (OpenSpec.ofChange netsMostSpec)) netsMostCard

/-- THE TIED CARD OF 'optimalaw3.NetsChecks'. -/
def netsChecksCard : Claim7 := { stood := { row := netsChecksRow, standIns := [], harness := (true, "c27901d4c18163c03c1e19715e0c12d19f7e427114bb69cde749cc0c242c4646"), looks := true }, kinds := [], alts := [], laidByText := true, laidKinds := [.data, .handle, .sentinel, .sentinel, .sentinel, .sentinel, .sentinel, .sentinel, .sentinel, .sentinel, .sentinel, .sentinel], laidTests := true, laidLooks := .later }
def NetsChecksCardSaid : Prop := Claim7.holds Tryz.pinned (.plain (OpenSpec.ofChange netsChecksSpec)) netsChecksCard

/-- THE TIED CARD OF 'optimalaw3.PlanChecks'. -/
def planChecksCard : Claim7 := { stood := { row := planChecksRow, standIns := [], harness := (true, "c27901d4c18163c03c1e19715e0c12d19f7e427114bb69cde749cc0c242c4646"), looks := true }, kinds := [], alts := [], laidByText := true, laidKinds := [.data, .handle, .sentinel, .sentinel, .sentinel, .sentinel, .sentinel, .sentinel, .sentinel, .sentinel, .sentinel, .sentinel], laidTests := true, laidLooks := .later }
def PlanChecksCardSaid : Prop := Claim7.holds Tryz.pinned (.plain (OpenSpec.ofChange planChecksSpec)) planChecksCard

/-- THE SECOND FORM's CARD OF 'optimalaw3.NetsMost'. -/
def netsMostUptoCard : Claim7 := { stood := { row := netsMostUptoRow, standIns := [], harness := (true, "c27901d4c18163c03c1e19715e0c12d19f7e427114bb69cde749cc0c242c4646"), looks := true }, kinds := [], alts := [], laidByText := true, laidKinds := [.data, .data, .data, .handle, .sentinel, .sentinel, .sentinel, .sentinel, .sentinel, .sentinel, .sentinel, .sentinel, .sentinel, .sentinel], laidTests := true, laidLooks := .later }
def NetsMostUptoCardSaid : Prop := Claim7.holds Tryz.pinned (.plain (OpenSpec.upto netsMostSpec)) netsMostUptoCard

/-- THE SECOND FORM's CARD OF 'optimalaw3.NetsChecks'. -/
def netsChecksUptoCard : Claim7 := { stood := { row := netsChecksUptoRow, standIns := [], harness := (true, "c27901d4c18163c03c1e19715e0c12d19f7e427114bb69cde749cc0c242c4646"), looks := true }, kinds := [], alts := [], laidByText := true, laidKinds := [.data, .handle, .sentinel, .sentinel, .sentinel, .sentinel, .sentinel, .sentinel, .sentinel, .sentinel, .sentinel, .sentinel], laidTests := true, laidLooks := .later }
def NetsChecksUptoCardSaid : Prop := Claim7.holds Tryz.pinned (.plain (OpenSpec.upto netsChecksSpec)) netsChecksUptoCard

/-- THE SECOND FORM's CARD OF 'optimalaw3.PlanChecks'. -/
def planChecksUptoCard : Claim7 := { stood := { row := planChecksUptoRow, standIns := [], harness := (true, "c27901d4c18163c03c1e19715e0c12d19f7e427114bb69cde749cc0c242c4646"), looks := true }, kinds := [], alts := [], laidByText := true, laidKinds := [.data, .handle, .sentinel, .sentinel, .sentinel, .sentinel, .sentinel, .sentinel, .sentinel, .sentinel, .sentinel, .sentinel], laidTests := true, laidLooks := .later }
def PlanChecksUptoCardSaid : Prop := Claim7.holds Tryz.pinned (.plain (OpenSpec.upto planChecksSpec)) planChecksUptoCard
end Rows
end Go.Proofs.YtkdobjmhammhbaaGreatDoor
