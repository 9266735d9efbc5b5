/-
  DERIVED. GIVEN WITH THE SEED: THE CARDS: each row of YtmdmcmkfhmnbeaaDoorRows.lean that lists a variable, with what it lists TIED to the program's text (the seventh form; the later family's looks); each row that meets fmt, with fmt's text TOLD by the authors' own Lean function (tested against real Go, not proved from fmt's source: count such statements apart). THE CARD IS WHAT COUNTS. Prove the row's statement (the work); the ties are given (YtmdmcmkfhmnbeaaDoorTie.lean); close each card by the builder's one call (the guide's Derived/Test/ToyasCard.lean, 'card_holds'). Laid BY PROGRAM, IN A SANDBOX (cutbox-door.mjs). By AI agents, Wed Nov 11 2026. No macro, syntax, notation, axiom, sorry.
-/
import Derived.Test.YtmdmcmkfhmnbeaaDoorRows
import GoSem.ClaimSeven
namespace Go.Proofs.YtmdmcmkfhmnbeaaDoor
namespace Rows

/-- THE TIED CARD OF 'optimalaw1.Names'. -/
def namesCard : Claim7 := { stood := { row := namesRow, standIns := [], harness := (true, "3972719f62fb1f3fc830551c99bf112f46b42304aa3853adc705b74f90240ae6"), looks := true }, kinds := [], alts := [], laidByText := true, laidKinds := [.handle, .sentinel, .sentinel, .sentinel, .sentinel, .sentinel, .sentinel, .sentinel, .sentinel, .sentinel, .sentinel], laidTests := true, laidLooks := .later }
def NamesCardSaid : Prop := Claim7.holds Tryd.pinned (.plain (OpenSpec.ofChange namesSpec)) namesCard

/-- THE TIED CARD OF 'optimalaw1.WholeOf'. -/
def wholeOfCard : Claim7 := { stood := { row := wholeOfRow, standIns := [], harness := (true, "3972719f62fb1f3fc830551c99bf112f46b42304aa3853adc705b74f90240ae6"), looks := true }, kinds := [], alts := [], laidByText := true, laidKinds := [.data, .data, .data, .sentinel, .sentinel], laidTests := true, laidLooks := .later }
def WholeOfCardSaid : Prop := Claim7.holds Tryd.pinned (.plain (OpenSpec.ofChange wholeOfSpec)) wholeOfCard

/-- THE TIED CARD OF 'optimalaw1.WholeRing'. -/
def wholeRingCard : Claim7 := { stood := { row := wholeRingRow, standIns := [], harness := (true, "3972719f62fb1f3fc830551c99bf112f46b42304aa3853adc705b74f90240ae6"), looks := true }, kinds := [], alts := [], laidByText := true, laidKinds := [.data, .data, .data, .sentinel, .sentinel], laidTests := true, laidLooks := .later }
def WholeRingCardSaid : Prop := Claim7.holds Tryd.pinned (.plain (OpenSpec.ofChange wholeRingSpec)) wholeRingCard

/-- THE SECOND FORM's CARD OF 'optimalaw1.Names'. -/
def namesUptoCard : Claim7 := { stood := { row := namesUptoRow, standIns := [], harness := (true, "3972719f62fb1f3fc830551c99bf112f46b42304aa3853adc705b74f90240ae6"), looks := true }, kinds := [], alts := [], laidByText := true, laidKinds := [.handle, .sentinel, .sentinel, .sentinel, .sentinel, .sentinel, .sentinel, .sentinel, .sentinel, .sentinel, .sentinel], laidTests := true, laidLooks := .later }
def NamesUptoCardSaid : Prop := Claim7.holds Tryd.pinned (.plain (OpenSpec.upto namesSpec)) namesUptoCard

/-- THE SECOND FORM's CARD OF 'optimalaw1.WholeOf'. -/
def wholeOfUptoCard : Claim7 := { stood := { row := wholeOfUptoRow, standIns := [], harness := (true, "3972719f62fb1f3fc830551c99bf112f46b42304aa3853adc705b74f90240ae6"), looks := true }, kinds := [], alts := [], laidByText := true, laidKinds := [.data, .data, .data, .sentinel, .sentinel], laidTests := true, laidLooks := .later }
def WholeOfUptoCardSaid : Prop := Claim7.holds Tryd.pinned (.plain (OpenSpec.upto wholeOfSpec)) wholeOfUptoCard

/-- THE SECOND FORM's CARD OF 'optimalaw1.WholeRing'. -/
def wholeRingUptoCard : Claim7 := { stood := { row := wholeRingUptoRow, standIns := [], harness := (true, "3972719f62fb1f3fc830551c99bf112f46b42304aa3853adc705b74f90240ae6"), looks := true }, kinds := [], alts := [], laidByText := true, laidKinds := [.data, .data, .data, .sentinel, .sentinel], laidTests := true, laidLooks := .later }
def WholeRingUptoCardSaid : Prop := Claim7.holds Tryd.pinned (.plain (OpenSpec.upto wholeRingSpec)) wholeRingUptoCard
end Rows
end Go.Proofs.YtmdmcmkfhmnbeaaDoor
