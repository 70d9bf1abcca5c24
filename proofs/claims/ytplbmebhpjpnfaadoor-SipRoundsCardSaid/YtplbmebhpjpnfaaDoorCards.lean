/-
  DERIVED. GIVEN WITH THE SEED: THE CARDS: each row of YtplbmebhpjpnfaaDoorRows.lean that lists a variable, with what it lists TIED to the program's text (the seventh form; the later family's looks); each row that meets fmt, with fmt's text TOLD by the authors' own Lean function (tested against real Go, not proved from fmt's source: count such statements apart). THE CARD IS WHAT COUNTS. Prove the row's statement (the work); the ties are given (YtplbmebhpjpnfaaDoorTie.lean); close each card by the builder's one call (the guide's Derived/Test/ToyasCard.lean, 'card_holds'). Laid BY PROGRAM, IN A SANDBOX (cutbox-door.mjs). By AI agents, Wed Nov 11 2026. No macro, syntax, notation, axiom, sorry.
-/
import Derived.Test.YtplbmebhpjpnfaaDoorRows
import GoSem.ClaimSeven
namespace Go.Proofs.YtplbmebhpjpnfaaDoor
namespace Rows

/-- THE TIED CARD OF 'belfrylaw01.SipPlays'. -/
def sipPlaysCard : Claim7 := { stood := { row := sipPlaysRow, standIns := [], harness := (true, "100abeaafef5379d269a4d6d0ef8d32c5eccac150fd124e25970139deabf6161"), looks := false }, kinds := [], alts := [], laidByText := true, laidKinds := [.data], laidTests := true, laidLooks := .later }
def SipPlaysCardSaid : Prop := Claim7.holds Tryd.pinned (.plain (OpenSpec.ofChange sipPlaysSpec)) sipPlaysCard

/-- THE TIED CARD OF 'belfrylaw01.SipRounds'. -/
def sipRoundsCard : Claim7 := { stood := { row := sipRoundsRow, standIns := [], harness := (true, "100abeaafef5379d269a4d6d0ef8d32c5eccac150fd124e25970139deabf6161"), looks := false }, kinds := [], alts := [], laidByText := true, laidKinds := [.data], laidTests := true, laidLooks := .later }
def SipRoundsCardSaid : Prop := Claim7.holds Tryd.pinned (.plain (OpenSpec.ofChange sipRoundsSpec)) sipRoundsCard

/-- THE TIED CARD OF 'belfrylaw01.SipTurns'. -/
def sipTurnsCard : Claim7 := { stood := { row := sipTurnsRow, standIns := [], harness := (true, "100abeaafef5379d269a4d6d0ef8d32c5eccac150fd124e25970139deabf6161"), looks := false }, kinds := [], alts := [], laidByText := true, laidKinds := [.data], laidTests := true, laidLooks := .later }
def SipTurnsCardSaid : Prop := Claim7.holds Tryd.pinned (.plain (OpenSpec.ofChange sipTurnsSpec)) sipTurnsCard

/-- THE TIED CARD OF 'belfrylaw01.SipWords'. -/
def sipWordsCard : Claim7 := { stood := { row := sipWordsRow, standIns := [], harness := (true, "100abeaafef5379d269a4d6d0ef8d32c5eccac150fd124e25970139deabf6161"), looks := false }, kinds := [], alts := [], laidByText := true, laidKinds := [.data], laidTests := true, laidLooks := .later }
def SipWordsCardSaid : Prop := Claim7.holds Tryd.pinned (.plain (OpenSpec.ofChange sipWordsSpec)) sipWordsCard

/-- THE TIED CARD OF 'belfrylaw01.SipKeys'. -/
def sipKeysCard : Claim7 := { stood := { row := sipKeysRow, standIns := [], harness := (true, "100abeaafef5379d269a4d6d0ef8d32c5eccac150fd124e25970139deabf6161"), looks := false }, kinds := [], alts := [], laidByText := true, laidKinds := [.data], laidTests := true, laidLooks := .later }
def SipKeysCardSaid : Prop := Claim7.holds Tryd.pinned (.plain (OpenSpec.ofChange sipKeysSpec)) sipKeysCard

/-- THE TIED CARD OF 'belfrylaw01.SipEnds'. -/
def sipEndsCard : Claim7 := { stood := { row := sipEndsRow, standIns := [], harness := (true, "100abeaafef5379d269a4d6d0ef8d32c5eccac150fd124e25970139deabf6161"), looks := false }, kinds := [], alts := [], laidByText := true, laidKinds := [.data], laidTests := true, laidLooks := .later }
def SipEndsCardSaid : Prop := Claim7.holds Tryd.pinned (.plain (OpenSpec.ofChange sipEndsSpec)) sipEndsCard

/-- THE SECOND FORM's CARD OF 'belfrylaw01.SipPlays'. -/
def sipPlaysUptoCard : Claim7 := { stood := { row := sipPlaysUptoRow, standIns := [], harness := (true, "100abeaafef5379d269a4d6d0ef8d32c5eccac150fd124e25970139deabf6161"), looks := false }, kinds := [], alts := [], laidByText := true, laidKinds := [.data], laidTests := true, laidLooks := .later }
def SipPlaysUptoCardSaid : Prop := Claim7.holds Tryd.pinned (.plain (OpenSpec.upto sipPlaysSpec)) sipPlaysUptoCard

/-- THE SECOND FORM's CARD OF 'belfrylaw01.SipRounds'. -/
def sipRoundsUptoCard : Claim7 := { stood := { row := sipRoundsUptoRow, standIns := [], harness := (true, "100abeaafef5379d269a4d6d0ef8d32c5eccac150fd124e25970139deabf6161"), looks := false }, kinds := [], alts := [], laidByText := true, laidKinds := [.data], laidTests := true, laidLooks := .later }
def SipRoundsUptoCardSaid : Prop := Claim7.holds Tryd.pinned (.plain (OpenSpec.upto sipRoundsSpec)) sipRoundsUptoCard

/-- THE SECOND FORM's CARD OF 'belfrylaw01.SipTurns'. -/
def sipTurnsUptoCard : Claim7 := { stood := { row := sipTurnsUptoRow, standIns := [], harness := (true, "100abeaafef5379d269a4d6d0ef8d32c5eccac150fd124e25970139deabf6161"), looks := false }, kinds := [], alts := [], laidByText := true, laidKinds := [.data], laidTests := true, laidLooks := .later }
def SipTurnsUptoCardSaid : Prop := Claim7.holds Tryd.pinned (.plain (OpenSpec.upto sipTurnsSpec)) sipTurnsUptoCard

/-- THE SECOND FORM's CARD OF 'belfrylaw01.SipWords'. -/
def sipWordsUptoCard : Claim7 := { stood := { row := sipWordsUptoRow, standIns := [], harness := (true, "100abeaafef5379d269a4d6d0ef8d32c5eccac150fd124e25970139deabf6161"), looks := false }, kinds := [], alts := [], laidByText := true, laidKinds := [.data], laidTests := true, laidLooks := .later }
def SipWordsUptoCardSaid : Prop := Claim7.holds Tryd.pinned (.plain (OpenSpec.upto sipWordsSpec)) sipWordsUptoCard

/-- THE SECOND FORM's CARD OF 'belfrylaw01.SipKeys'. -/
def sipKeysUptoCard : Claim7 := { stood := { row := sipKeysUptoRow, standIns := [], harness := (true, "100abeaafef5379d269a4d6d0ef8d32c5eccac150fd124e25970139deabf6161"), looks := false }, kinds := [], alts := [], laidByText := true, laidKinds := [.data], laidTests := true, laidLooks := .later }
def SipKeysUptoCardSaid : Prop := Claim7.holds Tryd.pinned (.plain (OpenSpec.upto sipKeysSpec)) sipKeysUptoCard

/-- THE SECOND FORM's CARD OF 'belfrylaw01.SipEnds'. -/
def sipEndsUptoCard : Claim7 := { stood := { row := sipEndsUptoRow, standIns := [], harness := (true, "100abeaafef5379d269a4d6d0ef8d32c5eccac150fd124e25970139deabf6161"), looks := false }, kinds := [], alts := [], laidByText := true, laidKinds := [.data], laidTests := true, laidLooks := .later }
def SipEndsUptoCardSaid : Prop := Claim7.holds Tryd.pinned (.plain (OpenSpec.upto sipEndsSpec)) sipEndsUptoCard
end Rows
end Go.Proofs.YtplbmebhpjpnfaaDoor
