/-
  DERIVED. GIVEN WITH THE SEED: THE CARDS: each row of YtppkiponpjnkkaaDoorRows.lean that lists a variable, with what it lists TIED to the program's text (the seventh form; the later family's looks); each row that meets fmt, with fmt's text TOLD by the authors' own Lean function (tested against real Go, not proved from fmt's source: count such statements apart). THE CARD IS WHAT COUNTS. Prove the row's statement (the work); the ties are given (YtppkiponpjnkkaaDoorTie.lean); close each card by the builder's one call (the guide's Derived/Test/ToyasCard.lean, 'card_holds'). Laid BY PROGRAM, IN A SANDBOX (cutbox-door.mjs). By AI agents, Wed Nov 11 2026. No macro, syntax, notation, axiom, sorry.
-/
import Derived.Test.YtppkiponpjnkkaaDoorRows
import GoSem.ClaimSeven
namespace Go.Proofs.YtppkiponpjnkkaaDoor
namespace Rows

/-- THE TIED CARD OF 'belfrylaw02.KeyedPeriod'. -/
def keyedPeriodCard : Claim7 := { stood := { row := keyedPeriodRow, standIns := [], harness := (true, "666dafff95129e22d7ac48a3f7c90f432b3bd515897ff714e71f388d848a7956"), looks := false }, kinds := [], alts := [], laidByText := true, laidKinds := [.data], laidTests := true, laidLooks := .later }
def KeyedPeriodCardSaid : Prop := Claim7.holds Tryd.pinned (.plain (OpenSpec.ofChange keyedPeriodSpec)) keyedPeriodCard

/-- THE TIED CARD OF 'belfrylaw02.KeyedPlays'. -/
def keyedPlaysCard : Claim7 := { stood := { row := keyedPlaysRow, standIns := [], harness := (true, "666dafff95129e22d7ac48a3f7c90f432b3bd515897ff714e71f388d848a7956"), looks := false }, kinds := [], alts := [], laidByText := true, laidKinds := [.data], laidTests := true, laidLooks := .later }
def KeyedPlaysCardSaid : Prop := Claim7.holds Tryd.pinned (.plain (OpenSpec.ofChange keyedPlaysSpec)) keyedPlaysCard

/-- THE SECOND FORM's CARD OF 'belfrylaw02.KeyedPeriod'. -/
def keyedPeriodUptoCard : Claim7 := { stood := { row := keyedPeriodUptoRow, standIns := [], harness := (true, "666dafff95129e22d7ac48a3f7c90f432b3bd515897ff714e71f388d848a7956"), looks := false }, kinds := [], alts := [], laidByText := true, laidKinds := [.data], laidTests := true, laidLooks := .later }
def KeyedPeriodUptoCardSaid : Prop := Claim7.holds Tryd.pinned (.plain (OpenSpec.upto keyedPeriodSpec)) keyedPeriodUptoCard

/-- THE SECOND FORM's CARD OF 'belfrylaw02.KeyedPlays'. -/
def keyedPlaysUptoCard : Claim7 := { stood := { row := keyedPlaysUptoRow, standIns := [], harness := (true, "666dafff95129e22d7ac48a3f7c90f432b3bd515897ff714e71f388d848a7956"), looks := false }, kinds := [], alts := [], laidByText := true, laidKinds := [.data], laidTests := true, laidLooks := .later }
def KeyedPlaysUptoCardSaid : Prop := Claim7.holds Tryd.pinned (.plain (OpenSpec.upto keyedPlaysSpec)) keyedPlaysUptoCard
end Rows
end Go.Proofs.YtppkiponpjnkkaaDoor
