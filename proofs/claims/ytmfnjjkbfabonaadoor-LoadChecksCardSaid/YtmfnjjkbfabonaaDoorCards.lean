/-
  DERIVED. GIVEN WITH THE SEED: THE CARDS: each row of YtmfnjjkbfabonaaDoorRows.lean that lists a variable, with what it lists TIED to the program's text (the seventh form; the later family's looks); each row that meets fmt, with fmt's text TOLD by the authors' own Lean function (tested against real Go, not proved from fmt's source: count such statements apart). THE CARD IS WHAT COUNTS. Prove the row's statement (the work); the ties are given (YtmfnjjkbfabonaaDoorTie.lean); close each card by the builder's one call (the guide's Derived/Test/ToyasCard.lean, 'card_holds'). Laid BY PROGRAM, IN A SANDBOX (cutbox-door.mjs). By AI agents, Wed Nov 11 2026. No macro, syntax, notation, axiom, sorry.
-/
import Derived.Test.YtmfnjjkbfabonaaDoorRows
import GoSem.ClaimSeven
namespace Go.Proofs.YtmfnjjkbfabonaaDoor
namespace Rows

/-- THE TIED CARD OF 'belfrylaw07.LoadTakes'. -/
def loadTakesCard : Claim7 := { stood := { row := loadTakesRow, standIns := [], harness := (true, "b932ab9d065e5952366266418058b86a4dbb391eda1dff179926ea9d06a8cb60"), looks := false }, kinds := [], alts := [], laidByText := true, laidKinds := [.data], laidTests := true, laidLooks := .later }
def LoadTakesCardSaid : Prop := Claim7.holds Tryd.pinned (.plain (OpenSpec.ofChange loadTakesSpec)) loadTakesCard

/-- THE TIED CARD OF 'belfrylaw07.LoadChecks'. -/
def loadChecksCard : Claim7 := { stood := { row := loadChecksRow, standIns := [], harness := (true, "b932ab9d065e5952366266418058b86a4dbb391eda1dff179926ea9d06a8cb60"), looks := false }, kinds := [], alts := [], laidByText := true, laidKinds := [.data], laidTests := true, laidLooks := .later }
def LoadChecksCardSaid : Prop := Claim7.holds Tryd.pinned (.plain (OpenSpec.ofChange loadChecksSpec)) loadChecksCard

/-- THE TIED CARD OF 'belfrylaw07.LoadPlays'. -/
def loadPlaysCard : Claim7 := { stood := { row := loadPlaysRow, standIns := [], harness := (true, "b932ab9d065e5952366266418058b86a4dbb391eda1dff179926ea9d06a8cb60"), looks := false }, kinds := [], alts := [], laidByText := true, laidKinds := [.data], laidTests := true, laidLooks := .later }
def LoadPlaysCardSaid : Prop := Claim7.holds Tryd.pinned (.plain (OpenSpec.ofChange loadPlaysSpec)) loadPlaysCard

/-- THE TIED CARD OF 'belfrylaw07.LoadDecides'. -/
def loadDecidesCard : Claim7 := { stood := { row := loadDecidesRow, standIns := [], harness := (true, "b932ab9d065e5952366266418058b86a4dbb391eda1dff179926ea9d06a8cb60"), looks := false }, kinds := [], alts := [], laidByText := true, laidKinds := [.data], laidTests := true, laidLooks := .later }
def LoadDecidesCardSaid : Prop := Claim7.holds Tryd.pinned (.plain (OpenSpec.ofChange loadDecidesSpec)) loadDecidesCard

/-- THE TIED CARD OF 'belfrylaw07.LoadKeys'. -/
def loadKeysCard : Claim7 := { stood := { row := loadKeysRow, standIns := [], harness := (true, "b932ab9d065e5952366266418058b86a4dbb391eda1dff179926ea9d06a8cb60"), looks := false }, kinds := [], alts := [], laidByText := true, laidKinds := [.data], laidTests := true, laidLooks := .later }
def LoadKeysCardSaid : Prop := Claim7.holds Tryd.pinned (.plain (OpenSpec.ofChange loadKeysSpec)) loadKeysCard

/-- THE SECOND FORM's CARD OF 'belfrylaw07.LoadTakes'. -/
def loadTakesUptoCard : Claim7 := { stood := { row := loadTakesUptoRow, standIns := [], harness := (true, "b932ab9d065e5952366266418058b86a4dbb391eda1dff179926ea9d06a8cb60"), looks := false }, kinds := [], alts := [], laidByText := true, laidKinds := [.data], laidTests := true, laidLooks := .later }
def LoadTakesUptoCardSaid : Prop := Claim7.holds Tryd.pinned (.plain (OpenSpec.upto loadTakesSpec)) loadTakesUptoCard

/-- THE SECOND FORM's CARD OF 'belfrylaw07.LoadChecks'. -/
def loadChecksUptoCard : Claim7 := { stood := { row := loadChecksUptoRow, standIns := [], harness := (true, "b932ab9d065e5952366266418058b86a4dbb391eda1dff179926ea9d06a8cb60"), looks := false }, kinds := [], alts := [], laidByText := true, laidKinds := [.data], laidTests := true, laidLooks := .later }
def LoadChecksUptoCardSaid : Prop := Claim7.holds Tryd.pinned (.plain (OpenSpec.upto loadChecksSpec)) loadChecksUptoCard

/-- THE SECOND FORM's CARD OF 'belfrylaw07.LoadPlays'. -/
def loadPlaysUptoCard : Claim7 := { stood := { row := loadPlaysUptoRow, standIns := [], harness := (true, "b932ab9d065e5952366266418058b86a4dbb391eda1dff179926ea9d06a8cb60"), looks := false }, kinds := [], alts := [], laidByText := true, laidKinds := [.data], laidTests := true, laidLooks := .later }
def LoadPlaysUptoCardSaid : Prop := Claim7.holds Tryd.pinned (.plain (OpenSpec.upto loadPlaysSpec)) loadPlaysUptoCard

/-- THE SECOND FORM's CARD OF 'belfrylaw07.LoadDecides'. -/
def loadDecidesUptoCard : Claim7 := { stood := { row := loadDecidesUptoRow, standIns := [], harness := (true, "b932ab9d065e5952366266418058b86a4dbb391eda1dff179926ea9d06a8cb60"), looks := false }, kinds := [], alts := [], laidByText := true, laidKinds := [.data], laidTests := true, laidLooks := .later }
def LoadDecidesUptoCardSaid : Prop := Claim7.holds Tryd.pinned (.plain (OpenSpec.upto loadDecidesSpec)) loadDecidesUptoCard

/-- THE SECOND FORM's CARD OF 'belfrylaw07.LoadKeys'. -/
def loadKeysUptoCard : Claim7 := { stood := { row := loadKeysUptoRow, standIns := [], harness := (true, "b932ab9d065e5952366266418058b86a4dbb391eda1dff179926ea9d06a8cb60"), looks := false }, kinds := [], alts := [], laidByText := true, laidKinds := [.data], laidTests := true, laidLooks := .later }
def LoadKeysUptoCardSaid : Prop := Claim7.holds Tryd.pinned (.plain (OpenSpec.upto loadKeysSpec)) loadKeysUptoCard
end Rows
end Go.Proofs.YtmfnjjkbfabonaaDoor
