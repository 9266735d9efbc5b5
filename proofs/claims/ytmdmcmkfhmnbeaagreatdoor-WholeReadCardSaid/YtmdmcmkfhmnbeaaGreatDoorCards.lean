/-
  DERIVED. GIVEN WITH THE SEED: THE CARDS: each row of YtmdmcmkfhmnbeaaGreatDoorRows.lean that lists a variable, with what it lists TIED to the program's text (the seventh form; the later family's looks); each row that meets fmt, with fmt's text TOLD by the authors' own Lean function (tested against real Go, not proved from fmt's source: count such statements apart). THE CARD IS WHAT COUNTS. Prove the row's statement (the work); the ties are given (YtmdmcmkfhmnbeaaGreatDoorTie.lean); close each card by the builder's one call (the guide's Derived/Test/ToyasCard.lean, 'card_holds'). Laid BY PROGRAM, IN A SANDBOX (cutbox-door.mjs). By AI agents, Wed Nov 11 2026. No macro, syntax, notation, axiom, sorry.
-/
import Derived.Test.YtmdmcmkfhmnbeaaGreatDoorRows
import GoSem.ClaimSeven
namespace Go.Proofs.YtmdmcmkfhmnbeaaGreatDoor
namespace Rows

/-- THE TIED CARD OF 'optimalaw1.WholeRead'. -/
def wholeReadCard : Claim7 := { stood := { row := wholeReadRow, standIns := [], harness := (true, "45e9bb52b0d2af2bf200ce2d37844bd1e277aa0cd82d7ef71b986dc52353ebb8"), looks := true }, kinds := [], alts := [], laidByText := true, laidKinds := [.data, .data, .data, .handle, .sentinel, .sentinel, .sentinel, .sentinel, .sentinel, .sentinel, .sentinel, .sentinel, .sentinel, .sentinel], laidTests := true, laidLooks := .later }
def WholeReadCardSaid : Prop := Claim7.holds Tryz.pinned (.plain (OpenSpec.ofChange wholeReadSpec)) wholeReadCard

/-- THE TIED CARD OF 'optimalaw1.WholeSums'. -/
def wholeSumsCard : Claim7 := { stood := { row := wholeSumsRow, standIns := [], harness := (true, "45e9bb52b0d2af2bf200ce2d37844bd1e277aa0cd82d7ef71b986dc52353ebb8"), looks := true }, kinds := [], alts := [], laidByText := true, laidKinds := [.data, .data, .data, .sentinel, .sentinel], laidTests := true, laidLooks := .later }
def WholeSumsCardSaid : Prop := Claim7.holds Tryz.pinned (.plain (OpenSpec.ofChange wholeSumsSpec)) wholeSumsCard

/-- THE SECOND FORM's CARD OF 'optimalaw1.WholeRead'. -/
def wholeReadUptoCard : Claim7 := { stood := { row := wholeReadUptoRow, standIns := [], harness := (true, "45e9bb52b0d2af2bf200ce2d37844bd1e277aa0cd82d7ef71b986dc52353ebb8"), looks := true }, kinds := [], alts := [], laidByText := true, laidKinds := [.data, .data, .data, .handle, .sentinel, .sentinel, .sentinel, .sentinel, .sentinel, .sentinel, .sentinel, .sentinel, .sentinel, .sentinel], laidTests := true, laidLooks := .later }
def WholeReadUptoCardSaid : Prop := Claim7.holds Tryz.pinned (.plain (OpenSpec.upto wholeReadSpec)) wholeReadUptoCard

/-- THE SECOND FORM's CARD OF 'optimalaw1.WholeSums'. -/
def wholeSumsUptoCard : Claim7 := { stood := { row := wholeSumsUptoRow, standIns := [], harness := (true, "45e9bb52b0d2af2bf200ce2d37844bd1e277aa0cd82d7ef71b986dc52353ebb8"), looks := true }, kinds := [], alts := [], laidByText := true, laidKinds := [.data, .data, .data, .sentinel, .sentinel], laidTests := true, laidLooks := .later }
def WholeSumsUptoCardSaid : Prop := Claim7.holds Tryz.pinned (.plain (OpenSpec.upto wholeSumsSpec)) wholeSumsUptoCard
end Rows
end Go.Proofs.YtmdmcmkfhmnbeaaGreatDoor
