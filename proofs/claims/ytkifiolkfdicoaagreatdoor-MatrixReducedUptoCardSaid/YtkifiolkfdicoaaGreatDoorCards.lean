/-
  DERIVED. GIVEN WITH THE SEED: THE CARDS: each row of YtkifiolkfdicoaaGreatDoorRows.lean that lists a variable, with what it lists TIED to the program's text (the seventh form; the later family's looks); each row that meets fmt, with fmt's text TOLD by the authors' own Lean function (tested against real Go, not proved from fmt's source: count such statements apart). THE CARD IS WHAT COUNTS. Prove the row's statement (the work); the ties are given (YtkifiolkfdicoaaGreatDoorTie.lean); close each card by the builder's one call (the guide's Derived/Test/ToyasCard.lean, 'card_holds'). Laid BY PROGRAM, IN A SANDBOX (cutbox-door.mjs). By AI agents, Wed Nov 11 2026. No macro, syntax, notation, axiom, sorry.
-/
import Derived.Test.YtkifiolkfdicoaaGreatDoorRows
import GoSem.ClaimSeven
namespace Go.Proofs.YtkifiolkfdicoaaGreatDoor
namespace Rows

/-- THE TIED CARD OF 'optimalaw1.WholeSums'. -/
def wholeSumsCard : Claim7 := { stood := { row := wholeSumsRow, standIns := [], harness := (true, "6b21bfd5b842ed0d4ed6075ccd4f4d8680e3df72edf84f9f7f10ca6a783281d0"), looks := true }, kinds := [], alts := [], laidByText := true, laidKinds := [.data, .data, .data, .sentinel, .sentinel], laidTests := true, laidLooks := .later }
def WholeSumsCardSaid : Prop := Claim7.holds Tryz.pinned (.plain (OpenSpec.ofChange wholeSumsSpec)) wholeSumsCard

/-- THE TIED CARD OF 'optimalaw1.RatioRead'. -/
def ratioReadCard : Claim7 := { stood := { row := ratioReadRow, standIns := [], harness := (true, "6b21bfd5b842ed0d4ed6075ccd4f4d8680e3df72edf84f9f7f10ca6a783281d0"), looks := true }, kinds := [], alts := [], laidByText := true, laidKinds := [.data, .data, .data, .handle, .sentinel, .sentinel, .sentinel, .sentinel, .sentinel, .sentinel, .sentinel, .sentinel, .sentinel, .sentinel], laidTests := true, laidLooks := .later }
def RatioReadCardSaid : Prop := Claim7.holds Tryz.pinned (.plain (OpenSpec.ofChange ratioReadSpec)) ratioReadCard

/-- THE TIED CARD OF 'optimalaw1.RatioSums'. -/
def ratioSumsCard : Claim7 := { stood := { row := ratioSumsRow, standIns := [], harness := (true, "6b21bfd5b842ed0d4ed6075ccd4f4d8680e3df72edf84f9f7f10ca6a783281d0"), looks := true }, kinds := [], alts := [], laidByText := true, laidKinds := [.data, .data, .data, .sentinel, .sentinel, .sentinel], laidTests := true, laidLooks := .later }
def RatioSumsCardSaid : Prop := Claim7.holds Tryz.pinned (.plain (OpenSpec.ofChange ratioSumsSpec)) ratioSumsCard

/-- THE TIED CARD OF 'optimalaw1.RatioOf'. -/
def ratioOfCard : Claim7 := { stood := { row := ratioOfRow, standIns := [], harness := (true, "6b21bfd5b842ed0d4ed6075ccd4f4d8680e3df72edf84f9f7f10ca6a783281d0"), looks := true }, kinds := [], alts := [], laidByText := true, laidKinds := [.data, .data, .data, .sentinel, .sentinel], laidTests := true, laidLooks := .later }
def RatioOfCardSaid : Prop := Claim7.holds Tryz.pinned (.plain (OpenSpec.ofChange ratioOfSpec)) ratioOfCard

/-- THE TIED CARD OF 'optimalaw1.RatioDecimal'. -/
def ratioDecimalCard : Claim7 := { stood := { row := ratioDecimalRow, standIns := [], harness := (true, "6b21bfd5b842ed0d4ed6075ccd4f4d8680e3df72edf84f9f7f10ca6a783281d0"), looks := true }, kinds := [], alts := [], laidByText := true, laidKinds := [.data, .data, .data, .sentinel, .sentinel, .sentinel], laidTests := true, laidLooks := .later }
def RatioDecimalCardSaid : Prop := Claim7.holds Tryz.pinned (.plain (OpenSpec.ofChange ratioDecimalSpec)) ratioDecimalCard

/-- THE TIED CARD OF 'optimalaw1.RatioSimplest'. -/
def ratioSimplestCard : Claim7 := { stood := { row := ratioSimplestRow, standIns := [], harness := (true, "6b21bfd5b842ed0d4ed6075ccd4f4d8680e3df72edf84f9f7f10ca6a783281d0"), looks := true }, kinds := [], alts := [], laidByText := true, laidKinds := [.data, .data, .data, .sentinel, .sentinel, .sentinel], laidTests := true, laidLooks := .later }
def RatioSimplestCardSaid : Prop := Claim7.holds Tryz.pinned (.plain (OpenSpec.ofChange ratioSimplestSpec)) ratioSimplestCard

/-- THE TIED CARD OF 'optimalaw1.RatioBetween'. -/
def ratioBetweenCard : Claim7 := { stood := { row := ratioBetweenRow, standIns := [], harness := (true, "6b21bfd5b842ed0d4ed6075ccd4f4d8680e3df72edf84f9f7f10ca6a783281d0"), looks := true }, kinds := [], alts := [], laidByText := true, laidKinds := [.data, .data, .data, .sentinel, .sentinel, .sentinel], laidTests := true, laidLooks := .later }
def RatioBetweenCardSaid : Prop := Claim7.holds Tryz.pinned (.plain (OpenSpec.ofChange ratioBetweenSpec)) ratioBetweenCard

/-- THE TIED CARD OF 'optimalaw1.MatrixReduced'. -/
def matrixReducedCard : Claim7 := { stood := { row := matrixReducedRow, standIns := [], harness := (true, "6b21bfd5b842ed0d4ed6075ccd4f4d8680e3df72edf84f9f7f10ca6a783281d0"), looks := true }, kinds := [], alts := [], laidByText := true, laidKinds := [.data, .data, .data, .handle, .sentinel, .sentinel, .sentinel, .sentinel, .sentinel, .sentinel, .sentinel, .sentinel, .sentinel, .sentinel], laidTests := true, laidLooks := .later }
def MatrixReducedCardSaid : Prop := Claim7.holds Tryz.pinned (.plain (OpenSpec.ofChange matrixReducedSpec)) matrixReducedCard

/-- THE TIED CARD OF 'optimalaw1.MatrixProduct'. -/
def matrixProductCard : Claim7 := { stood := { row := matrixProductRow, standIns := [], harness := (true, "6b21bfd5b842ed0d4ed6075ccd4f4d8680e3df72edf84f9f7f10ca6a783281d0"), looks := true }, kinds := [], alts := [], laidByText := true, laidKinds := [.data, .data, .data, .handle, .sentinel, .sentinel, .sentinel, .sentinel, .sentinel, .sentinel, .sentinel, .sentinel, .sentinel, .sentinel], laidTests := true, laidLooks := .later }
def MatrixProductCardSaid : Prop := Claim7.holds Tryz.pinned (.plain (OpenSpec.ofChange matrixProductSpec)) matrixProductCard

/-- THE TIED CARD OF 'optimalaw1.MatrixFactor'. -/
def matrixFactorCard : Claim7 := { stood := { row := matrixFactorRow, standIns := [], harness := (true, "6b21bfd5b842ed0d4ed6075ccd4f4d8680e3df72edf84f9f7f10ca6a783281d0"), looks := true }, kinds := [], alts := [], laidByText := true, laidKinds := [.data, .data, .data, .handle, .sentinel, .sentinel, .sentinel, .sentinel, .sentinel, .sentinel, .sentinel, .sentinel, .sentinel, .sentinel], laidTests := true, laidLooks := .later }
def MatrixFactorCardSaid : Prop := Claim7.holds Tryz.pinned (.plain (OpenSpec.ofChange matrixFactorSpec)) matrixFactorCard

/-- THE SECOND FORM's CARD OF 'optimalaw1.WholeSums'. -/
def wholeSumsUptoCard : Claim7 := { stood := { row := wholeSumsUptoRow, standIns := [], harness := (true, "6b21bfd5b842ed0d4ed6075ccd4f4d8680e3df72edf84f9f7f10ca6a783281d0"), looks := true }, kinds := [], alts := [], laidByText := true, laidKinds := [.data, .data, .data, .sentinel, .sentinel], laidTests := true, laidLooks := .later }
def WholeSumsUptoCardSaid : Prop := Claim7.holds Tryz.pinned (.plain (OpenSpec.upto wholeSumsSpec)) wholeSumsUptoCard

/-- THE SECOND FORM's CARD OF 'optimalaw1.RatioRead'. -/
def ratioReadUptoCard : Claim7 := { stood := { row := ratioReadUptoRow, standIns := [], harness := (true, "6b21bfd5b842ed0d4ed6075ccd4f4d8680e3df72edf84f9f7f10ca6a783281d0"), looks := true }, kinds := [], alts := [], laidByText := true, laidKinds := [.data, .data, .data, .handle, .sentinel, .sentinel, .sentinel, .sentinel, .sentinel, .sentinel, .sentinel, .sentinel, .sentinel, .sentinel], laidTests := true, laidLooks := .later }
def RatioReadUptoCardSaid : Prop := Claim7.holds Tryz.pinned (.plain (OpenSpec.upto ratioReadSpec)) ratioReadUptoCard

/-- THE SECOND FORM's CARD OF 'optimalaw1.RatioSums'. -/
def ratioSumsUptoCard : Claim7 := { stood := { row := ratioSumsUptoRow, standIns := [], harness := (true, "6b21bfd5b842ed0d4ed6075ccd4f4d8680e3df72edf84f9f7f10ca6a783281d0"), looks := true }, kinds := [], alts := [], laidByText := true, laidKinds := [.data, .data, .data, .sentinel, .sentinel, .sentinel], laidTests := true, laidLooks := .later }
def RatioSumsUptoCardSaid : Prop := Claim7.holds Tryz.pinned (.plain (OpenSpec.upto ratioSumsSpec)) ratioSumsUptoCard

/-- THE SECOND FORM's CARD OF 'optimalaw1.RatioOf'. -/
def ratioOfUptoCard : Claim7 := { stood := { row := ratioOfUptoRow, standIns := [], harness := (true, "6b21bfd5b842ed0d4ed6075ccd4f4d8680e3df72edf84f9f7f10ca6a783281d0"), looks := true }, kinds := [], alts := [], laidByText := true, laidKinds := [.data, .data, .data, .sentinel, .sentinel], laidTests := true, laidLooks := .later }
def RatioOfUptoCardSaid : Prop := Claim7.holds Tryz.pinned (.plain (OpenSpec.upto ratioOfSpec)) ratioOfUptoCard

/-- THE SECOND FORM's CARD OF 'optimalaw1.RatioDecimal'. -/
def ratioDecimalUptoCard : Claim7 := { stood := { row := ratioDecimalUptoRow, standIns := [], harness := (true, "6b21bfd5b842ed0d4ed6075ccd4f4d8680e3df72edf84f9f7f10ca6a783281d0"), looks := true }, kinds := [], alts := [], laidByText := true, laidKinds := [.data, .data, .data, .sentinel, .sentinel, .sentinel], laidTests := true, laidLooks := .later }
def RatioDecimalUptoCardSaid : Prop := Claim7.holds Tryz.pinned (.plain (OpenSpec.upto ratioDecimalSpec)) ratioDecimalUptoCard

/-- THE SECOND FORM's CARD OF 'optimalaw1.RatioSimplest'. -/
def ratioSimplestUptoCard : Claim7 := { stood := { row := ratioSimplestUptoRow, standIns := [], harness := (true, "6b21bfd5b842ed0d4ed6075ccd4f4d8680e3df72edf84f9f7f10ca6a783281d0"), looks := true }, kinds := [], alts := [], laidByText := true, laidKinds := [.data, .data, .data, .sentinel, .sentinel, .sentinel], laidTests := true, laidLooks := .later }
def RatioSimplestUptoCardSaid : Prop := Claim7.holds Tryz.pinned (.plain (OpenSpec.upto ratioSimplestSpec)) ratioSimplestUptoCard

/-- THE SECOND FORM's CARD OF 'optimalaw1.RatioBetween'. -/
def ratioBetweenUptoCard : Claim7 := { stood := { row := ratioBetweenUptoRow, standIns := [], harness := (true, "6b21bfd5b842ed0d4ed6075ccd4f4d8680e3df72edf84f9f7f10ca6a783281d0"), looks := true }, kinds := [], alts := [], laidByText := true, laidKinds := [.data, .data, .data, .sentinel, .sentinel, .sentinel], laidTests := true, laidLooks := .later }
def RatioBetweenUptoCardSaid : Prop := Claim7.holds Tryz.pinned (.plain (OpenSpec.upto ratioBetweenSpec)) ratioBetweenUptoCard

/-- THE SECOND FORM's CARD OF 'optimalaw1.MatrixReduced'. -/
def matrixReducedUptoCard : Claim7 := { stood := { row := matrixReducedUptoRow, standIns := [], harness := (true, "6b21bfd5b842ed0d4ed6075ccd4f4d8680e3df72edf84f9f7f10ca6a783281d0"), looks := true }, kinds := [], alts := [], laidByText := true, laidKinds := [.data, .data, .data, .handle, .sentinel, .sentinel, .sentinel, .sentinel, .sentinel, .sentinel, .sentinel, .sentinel, .sentinel, .sentinel], laidTests := true, laidLooks := .later }
def MatrixReducedUptoCardSaid : Prop := Claim7.holds Tryz.pinned (.plain (OpenSpec.upto matrixReducedSpec)) matrixReducedUptoCard

/-- THE SECOND FORM's CARD OF 'optimalaw1.MatrixProduct'. -/
def matrixProductUptoCard : Claim7 := { stood := { row := matrixProductUptoRow, standIns := [], harness := (true, "6b21bfd5b842ed0d4ed6075ccd4f4d8680e3df72edf84f9f7f10ca6a783281d0"), looks := true }, kinds := [], alts := [], laidByText := true, laidKinds := [.data, .data, .data, .handle, .sentinel, .sentinel, .sentinel, .sentinel, .sentinel, .sentinel, .sentinel, .sentinel, .sentinel, .sentinel], laidTests := true, laidLooks := .later }
def MatrixProductUptoCardSaid : Prop := Claim7.holds Tryz.pinned (.plain (OpenSpec.upto matrixProductSpec)) matrixProductUptoCard

/-- THE SECOND FORM's CARD OF 'optimalaw1.MatrixFactor'. -/
def matrixFactorUptoCard : Claim7 := { stood := { row := matrixFactorUptoRow, standIns := [], harness := (true, "6b21bfd5b842ed0d4ed6075ccd4f4d8680e3df72edf84f9f7f10ca6a783281d0"), looks := true }, kinds := [], alts := [], laidByText := true, laidKinds := [.data, .data, .data, .handle, .sentinel, .sentinel, .sentinel, .sentinel, .sentinel, .sentinel, .sentinel, .sentinel, .sentinel, .sentinel], laidTests := true, laidLooks := .later }
def MatrixFactorUptoCardSaid : Prop := Claim7.holds Tryz.pinned (.plain (OpenSpec.upto matrixFactorSpec)) matrixFactorUptoCard
end Rows
end Go.Proofs.YtkifiolkfdicoaaGreatDoor
