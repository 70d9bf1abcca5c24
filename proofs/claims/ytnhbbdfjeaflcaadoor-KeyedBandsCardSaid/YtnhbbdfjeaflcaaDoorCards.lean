/-
  DERIVED. GIVEN WITH THE SEED: THE CARDS: each row of YtnhbbdfjeaflcaaDoorRows.lean that lists a variable, with what it lists TIED to the program's text (the seventh form; the later family's looks); each row that meets fmt, with fmt's text TOLD by the authors' own Lean function (tested against real Go, not proved from fmt's source: count such statements apart). THE CARD IS WHAT COUNTS. Prove the row's statement (the work); the ties are given (YtnhbbdfjeaflcaaDoorTie.lean); close each card by the builder's one call (the guide's Derived/Test/ToyasCard.lean, 'card_holds'). Laid BY PROGRAM, IN A SANDBOX (cutbox-door.mjs). By AI agents, Wed Nov 11 2026. No macro, syntax, notation, axiom, sorry.
-/
import Derived.Test.YtnhbbdfjeaflcaaDoorRows
import GoSem.ClaimSeven
namespace Go.Proofs.YtnhbbdfjeaflcaaDoor
namespace Rows

/-- THE TIED CARD OF 'belfrylaw02.KeyedBands'. -/
def keyedBandsCard : Claim7 := { stood := { row := keyedBandsRow, standIns := [], harness := (true, "8574ebe83ae0cb33a42902b60e03419bc222c704a9e2452cb4195955ceecca0c"), looks := false }, kinds := [], alts := [], laidByText := true, laidKinds := [.data], laidTests := true, laidLooks := .later }
def KeyedBandsCardSaid : Prop := Claim7.holds Tryd.pinned (.plain (OpenSpec.ofChange keyedBandsSpec)) keyedBandsCard

/-- THE TIED CARD OF 'belfrylaw02.KeyedPeriod'. -/
def keyedPeriodCard : Claim7 := { stood := { row := keyedPeriodRow, standIns := [], harness := (true, "8574ebe83ae0cb33a42902b60e03419bc222c704a9e2452cb4195955ceecca0c"), looks := false }, kinds := [], alts := [], laidByText := true, laidKinds := [.data], laidTests := true, laidLooks := .later }
def KeyedPeriodCardSaid : Prop := Claim7.holds Tryd.pinned (.plain (OpenSpec.ofChange keyedPeriodSpec)) keyedPeriodCard

/-- THE TIED CARD OF 'belfrylaw02.KeyedPlays'. -/
def keyedPlaysCard : Claim7 := { stood := { row := keyedPlaysRow, standIns := [], harness := (true, "8574ebe83ae0cb33a42902b60e03419bc222c704a9e2452cb4195955ceecca0c"), looks := false }, kinds := [], alts := [], laidByText := true, laidKinds := [.data], laidTests := true, laidLooks := .later }
def KeyedPlaysCardSaid : Prop := Claim7.holds Tryd.pinned (.plain (OpenSpec.ofChange keyedPlaysSpec)) keyedPlaysCard

/-- THE TIED CARD OF 'belfrylaw02.KeyedSubsets'. -/
def keyedSubsetsCard : Claim7 := { stood := { row := keyedSubsetsRow, standIns := [], harness := (true, "8574ebe83ae0cb33a42902b60e03419bc222c704a9e2452cb4195955ceecca0c"), looks := false }, kinds := [], alts := [], laidByText := true, laidKinds := [.data], laidTests := true, laidLooks := .later }
def KeyedSubsetsCardSaid : Prop := Claim7.holds Tryd.pinned (.plain (OpenSpec.ofChange keyedSubsetsSpec)) keyedSubsetsCard

/-- THE TIED CARD OF 'belfrylaw02.KeyedRanges'. -/
def keyedRangesCard : Claim7 := { stood := { row := keyedRangesRow, standIns := [], harness := (true, "8574ebe83ae0cb33a42902b60e03419bc222c704a9e2452cb4195955ceecca0c"), looks := false }, kinds := [], alts := [], laidByText := true, laidKinds := [.data], laidTests := true, laidLooks := .later }
def KeyedRangesCardSaid : Prop := Claim7.holds Tryd.pinned (.plain (OpenSpec.ofChange keyedRangesSpec)) keyedRangesCard

/-- THE SECOND FORM's CARD OF 'belfrylaw02.KeyedBands'. -/
def keyedBandsUptoCard : Claim7 := { stood := { row := keyedBandsUptoRow, standIns := [], harness := (true, "8574ebe83ae0cb33a42902b60e03419bc222c704a9e2452cb4195955ceecca0c"), looks := false }, kinds := [], alts := [], laidByText := true, laidKinds := [.data], laidTests := true, laidLooks := .later }
def KeyedBandsUptoCardSaid : Prop := Claim7.holds Tryd.pinned (.plain (OpenSpec.upto keyedBandsSpec)) keyedBandsUptoCard

/-- THE SECOND FORM's CARD OF 'belfrylaw02.KeyedPeriod'. -/
def keyedPeriodUptoCard : Claim7 := { stood := { row := keyedPeriodUptoRow, standIns := [], harness := (true, "8574ebe83ae0cb33a42902b60e03419bc222c704a9e2452cb4195955ceecca0c"), looks := false }, kinds := [], alts := [], laidByText := true, laidKinds := [.data], laidTests := true, laidLooks := .later }
def KeyedPeriodUptoCardSaid : Prop := Claim7.holds Tryd.pinned (.plain (OpenSpec.upto keyedPeriodSpec)) keyedPeriodUptoCard

/-- THE SECOND FORM's CARD OF 'belfrylaw02.KeyedPlays'. -/
def keyedPlaysUptoCard : Claim7 := { stood := { row := keyedPlaysUptoRow, standIns := [], harness := (true, "8574ebe83ae0cb33a42902b60e03419bc222c704a9e2452cb4195955ceecca0c"), looks := false }, kinds := [], alts := [], laidByText := true, laidKinds := [.data], laidTests := true, laidLooks := .later }
def KeyedPlaysUptoCardSaid : Prop := Claim7.holds Tryd.pinned (.plain (OpenSpec.upto keyedPlaysSpec)) keyedPlaysUptoCard

/-- THE SECOND FORM's CARD OF 'belfrylaw02.KeyedSubsets'. -/
def keyedSubsetsUptoCard : Claim7 := { stood := { row := keyedSubsetsUptoRow, standIns := [], harness := (true, "8574ebe83ae0cb33a42902b60e03419bc222c704a9e2452cb4195955ceecca0c"), looks := false }, kinds := [], alts := [], laidByText := true, laidKinds := [.data], laidTests := true, laidLooks := .later }
def KeyedSubsetsUptoCardSaid : Prop := Claim7.holds Tryd.pinned (.plain (OpenSpec.upto keyedSubsetsSpec)) keyedSubsetsUptoCard

/-- THE SECOND FORM's CARD OF 'belfrylaw02.KeyedRanges'. -/
def keyedRangesUptoCard : Claim7 := { stood := { row := keyedRangesUptoRow, standIns := [], harness := (true, "8574ebe83ae0cb33a42902b60e03419bc222c704a9e2452cb4195955ceecca0c"), looks := false }, kinds := [], alts := [], laidByText := true, laidKinds := [.data], laidTests := true, laidLooks := .later }
def KeyedRangesUptoCardSaid : Prop := Claim7.holds Tryd.pinned (.plain (OpenSpec.upto keyedRangesSpec)) keyedRangesUptoCard
end Rows
end Go.Proofs.YtnhbbdfjeaflcaaDoor
