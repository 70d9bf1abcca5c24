/-
  NARROWER THAN 'FOR EVERY INPUT', by the rows' own cells (each row's printed sentence says how): LoadTakes: laid · LoadChecks: laid · LoadPlays: laid · LoadDecides: laid · LoadKeys: laid.
  DERIVED. THE GIVEN ROWS OF THIS SEAT. 5 by the template 'for every input the law returns true; each argument reads behind the call as it read before'; 0 by the template 'total and deterministic' (their statements: YtmfnjjkbfabonaaDoorTotals.lean).
  GIVEN WITH THE SEED: the statements are not yours to turn. If you find one false, say at which input.
  Laid BY PROGRAM, IN A SANDBOX (cutbox-rows.mjs): the forced cells as the released guide's own fill.sh prints them over the translation 174ad4de2b882907… (all of the seat's roots in one cut). By AI agents, Wed Nov 11 2026. No macro, syntax, notation, axiom, sorry.
-/
import Derived.Test.YtmfnjjkbfabonaaDoorChecked
import GoSem.Claim
import GoSem.ClaimJoined
import GoSem.ClaimMapViews
import Derived.JoinedTies
import Derived.KernelRfl
namespace Go.Proofs.YtmfnjjkbfabonaaDoor
/- THE CELL 'sum', in the pinned program and in every row, IS THE sha256 OF THE DUMP (.gsa) THAT YtmfnjjkbfabonaaDoorProg.lean LOADS. Nothing in Lean hashes anything: it is a label: what it is worth is what the hold of that sum in a sandbox is worth. -/
noncomputable def Tryd.pinned : Pinned := { name := "ytmfnjjkbfabonaadoor", sum := "174ad4de2b882907042dd06b0a2c4e7ab39f774f99a046693fd76527fafc3cf0", checked := Tryd.checked }
namespace Rows
def none {H : Type} : Left H := { results := [], args := [] }

/- WHAT THE LISTED PACKAGE-LEVEL VARIABLES READ AS WHEN THE CALL BEGINS. Each datum BY PROGRAM (the guide's laid-datum.mjs) off the statement by which the dump's own 'gosem.cut.vars' lays the variable. In a bare row this is a premise. The card (YtmfnjjkbfabonaaDoorCards.lean) ties it to the program's text. -/
def laid_belfry_sip_signs {H : Type} : DataW H := .agg [.lit (.int .u64 8317987319222330741), .lit (.int .u64 7237128888997146477), .lit (.int .u64 7816392313619706465), .lit (.int .u64 8387220255154660723)]

/-- 'belfrylaw07.LoadTakes': WHATEVER THE INPUT: true; the input reads as it did. -/
def loadTakesSpec : ChangeSpec := { name := "loadTakes", fn := fun _ => fun
  | [d1, d2, d3, d4, d5] => { results := [.lit (.bool true)], args := [d1, d2, d3, d4, d5] }
  | _ => none }
def loadTakesRow : OpenClaim := { program := "ytmfnjjkbfabonaadoor", sum := "174ad4de2b882907042dd06b0a2c4e7ab39f774f99a046693fd76527fafc3cf0", func := "belfry/belfrylaw07.LoadTakes", spec := "loadTakes", inPlace := ["slices.overlaps[int]"], unfollowed := true, recurses := true, named := ["belfry/sip.signs"], apart := false, laid := [("belfry/sip.signs", laid_belfry_sip_signs)] }
def LoadTakesSaid : Prop := loadTakesRow.holds Tryd.pinned (OpenSpec.ofChange loadTakesSpec)

/-- ITS FALSE NEIGHBOUR: 'it returns false'. Refute it at one input. -/
def loadTakesWrong : ChangeSpec := { name := "loadTakes", fn := fun _ => fun
  | [d1, d2, d3, d4, d5] => { results := [.lit (.bool false)], args := [d1, d2, d3, d4, d5] }
  | _ => none }
def LoadTakesWrongFalsely : Prop := loadTakesRow.holds Tryd.pinned (OpenSpec.ofChange loadTakesWrong)

/-- 'belfrylaw07.LoadChecks': WHATEVER THE INPUT: true; the input reads as it did. -/
def loadChecksSpec : ChangeSpec := { name := "loadChecks", fn := fun _ => fun
  | [d1, d2] => { results := [.lit (.bool true)], args := [d1, d2] }
  | _ => none }
def loadChecksRow : OpenClaim := { program := "ytmfnjjkbfabonaadoor", sum := "174ad4de2b882907042dd06b0a2c4e7ab39f774f99a046693fd76527fafc3cf0", func := "belfry/belfrylaw07.LoadChecks", spec := "loadChecks", inPlace := ["slices.overlaps[int]"], unfollowed := true, recurses := true, named := ["belfry/sip.signs"], apart := false, laid := [("belfry/sip.signs", laid_belfry_sip_signs)] }
def LoadChecksSaid : Prop := loadChecksRow.holds Tryd.pinned (OpenSpec.ofChange loadChecksSpec)

/-- ITS FALSE NEIGHBOUR: 'it returns false'. Refute it at one input. -/
def loadChecksWrong : ChangeSpec := { name := "loadChecks", fn := fun _ => fun
  | [d1, d2] => { results := [.lit (.bool false)], args := [d1, d2] }
  | _ => none }
def LoadChecksWrongFalsely : Prop := loadChecksRow.holds Tryd.pinned (OpenSpec.ofChange loadChecksWrong)

/-- 'belfrylaw07.LoadPlays': WHATEVER THE INPUT: true; the input reads as it did. -/
def loadPlaysSpec : ChangeSpec := { name := "loadPlays", fn := fun _ => fun
  | [d1, d2] => { results := [.lit (.bool true)], args := [d1, d2] }
  | _ => none }
def loadPlaysRow : OpenClaim := { program := "ytmfnjjkbfabonaadoor", sum := "174ad4de2b882907042dd06b0a2c4e7ab39f774f99a046693fd76527fafc3cf0", func := "belfry/belfrylaw07.LoadPlays", spec := "loadPlays", inPlace := ["slices.overlaps[int]"], unfollowed := true, recurses := true, named := ["belfry/sip.signs"], apart := false, laid := [("belfry/sip.signs", laid_belfry_sip_signs)] }
def LoadPlaysSaid : Prop := loadPlaysRow.holds Tryd.pinned (OpenSpec.ofChange loadPlaysSpec)

/-- ITS FALSE NEIGHBOUR: 'it returns false'. Refute it at one input. -/
def loadPlaysWrong : ChangeSpec := { name := "loadPlays", fn := fun _ => fun
  | [d1, d2] => { results := [.lit (.bool false)], args := [d1, d2] }
  | _ => none }
def LoadPlaysWrongFalsely : Prop := loadPlaysRow.holds Tryd.pinned (OpenSpec.ofChange loadPlaysWrong)

/-- 'belfrylaw07.LoadDecides': WHATEVER THE INPUT: true; the input reads as it did. -/
def loadDecidesSpec : ChangeSpec := { name := "loadDecides", fn := fun _ => fun
  | [d1, d2] => { results := [.lit (.bool true)], args := [d1, d2] }
  | _ => none }
def loadDecidesRow : OpenClaim := { program := "ytmfnjjkbfabonaadoor", sum := "174ad4de2b882907042dd06b0a2c4e7ab39f774f99a046693fd76527fafc3cf0", func := "belfry/belfrylaw07.LoadDecides", spec := "loadDecides", inPlace := ["slices.overlaps[int]"], unfollowed := true, recurses := true, named := ["belfry/sip.signs"], apart := false, laid := [("belfry/sip.signs", laid_belfry_sip_signs)] }
def LoadDecidesSaid : Prop := loadDecidesRow.holds Tryd.pinned (OpenSpec.ofChange loadDecidesSpec)

/-- ITS FALSE NEIGHBOUR: 'it returns false'. Refute it at one input. -/
def loadDecidesWrong : ChangeSpec := { name := "loadDecides", fn := fun _ => fun
  | [d1, d2] => { results := [.lit (.bool false)], args := [d1, d2] }
  | _ => none }
def LoadDecidesWrongFalsely : Prop := loadDecidesRow.holds Tryd.pinned (OpenSpec.ofChange loadDecidesWrong)

/-- 'belfrylaw07.LoadKeys': WHATEVER THE INPUT: true; the input reads as it did. -/
def loadKeysSpec : ChangeSpec := { name := "loadKeys", fn := fun _ => fun
  | [d1, d2, d3] => { results := [.lit (.bool true)], args := [d1, d2, d3] }
  | _ => none }
def loadKeysRow : OpenClaim := { program := "ytmfnjjkbfabonaadoor", sum := "174ad4de2b882907042dd06b0a2c4e7ab39f774f99a046693fd76527fafc3cf0", func := "belfry/belfrylaw07.LoadKeys", spec := "loadKeys", inPlace := ["slices.overlaps[int]"], unfollowed := true, recurses := true, named := ["belfry/sip.signs"], apart := false, laid := [("belfry/sip.signs", laid_belfry_sip_signs)] }
def LoadKeysSaid : Prop := loadKeysRow.holds Tryd.pinned (OpenSpec.ofChange loadKeysSpec)

/-- ITS FALSE NEIGHBOUR: 'it returns false'. Refute it at one input. -/
def loadKeysWrong : ChangeSpec := { name := "loadKeys", fn := fun _ => fun
  | [d1, d2, d3] => { results := [.lit (.bool false)], args := [d1, d2, d3] }
  | _ => none }
def LoadKeysWrongFalsely : Prop := loadKeysRow.holds Tryd.pinned (OpenSpec.ofChange loadKeysWrong)

/- THE SECOND FORM. 'bulk': how many values and letters a reading holds, each counted each time it is reached (what is shared counts as often as it is met; a slice's spare places count too). A statement '..UptoSaid' is the law's where the arguments, and the package variables that the reading takes, are together of bulk at most 1048576: NARROWER than '..Said'. Prove '..Said' where nothing that the law and all that it calls make is longer than what came in: it says more and counts as full. Else prove '..UptoSaid'. A law counts once. -/
mutual
def uptoBulk {H : Type} : DataW H → Nat
  | .lit (.string bytes) => bytes.length + 1
  | .lit _ => 1
  | .nil => 1
  | .ptr d => uptoBulk d + 1
  | .slice elems spare => uptoBulkAll elems + uptoBulkAll spare + 1
  | .agg parts => uptoBulkAll parts + 1
  | .iface _ d => uptoBulk d + 1
  | .map entries => uptoBulkEntries entries + 1
  | .held _ => 1
def uptoBulkAll {H : Type} : List (DataW H) → Nat
  | [] => 0
  | d :: r => uptoBulk d + uptoBulkAll r
def uptoBulkEntries {H : Type} : List (Lit × DataW H) → Nat
  | [] => 0
  | x :: r => uptoBulkEntry x + uptoBulkEntries r
def uptoBulkEntry {H : Type} : Lit × DataW H → Nat
  | (.string bytes, d) => bytes.length + uptoBulk d + 1
  | (_, d) => uptoBulk d + 1
 end
def uptoSmall : (H : Type) → List (DataW H) → Bool := fun _ ds => decide (uptoBulkAll ds ≤ 1048576)
def OpenSpec.upto (s : _root_.Go.ChangeSpec) : _root_.Go.OpenSpec := { _root_.Go.OpenSpec.ofChange s with cond := some uptoSmall }

/-- 'belfrylaw07.LoadTakes', WHERE WHAT IT READS IS OF BULK AT MOST 1048576: true; the input reads as it did. -/
def loadTakesUptoRow : OpenClaim := { program := "ytmfnjjkbfabonaadoor", sum := "174ad4de2b882907042dd06b0a2c4e7ab39f774f99a046693fd76527fafc3cf0", func := "belfry/belfrylaw07.LoadTakes", spec := "loadTakes", inPlace := ["slices.overlaps[int]"], unfollowed := true, recurses := true, named := ["belfry/sip.signs"], apart := false, laid := [("belfry/sip.signs", laid_belfry_sip_signs)], narrowed := true }
def LoadTakesUptoSaid : Prop := loadTakesUptoRow.holds Tryd.pinned (OpenSpec.upto loadTakesSpec)

/-- 'belfrylaw07.LoadChecks', WHERE WHAT IT READS IS OF BULK AT MOST 1048576: true; the input reads as it did. -/
def loadChecksUptoRow : OpenClaim := { program := "ytmfnjjkbfabonaadoor", sum := "174ad4de2b882907042dd06b0a2c4e7ab39f774f99a046693fd76527fafc3cf0", func := "belfry/belfrylaw07.LoadChecks", spec := "loadChecks", inPlace := ["slices.overlaps[int]"], unfollowed := true, recurses := true, named := ["belfry/sip.signs"], apart := false, laid := [("belfry/sip.signs", laid_belfry_sip_signs)], narrowed := true }
def LoadChecksUptoSaid : Prop := loadChecksUptoRow.holds Tryd.pinned (OpenSpec.upto loadChecksSpec)

/-- 'belfrylaw07.LoadPlays', WHERE WHAT IT READS IS OF BULK AT MOST 1048576: true; the input reads as it did. -/
def loadPlaysUptoRow : OpenClaim := { program := "ytmfnjjkbfabonaadoor", sum := "174ad4de2b882907042dd06b0a2c4e7ab39f774f99a046693fd76527fafc3cf0", func := "belfry/belfrylaw07.LoadPlays", spec := "loadPlays", inPlace := ["slices.overlaps[int]"], unfollowed := true, recurses := true, named := ["belfry/sip.signs"], apart := false, laid := [("belfry/sip.signs", laid_belfry_sip_signs)], narrowed := true }
def LoadPlaysUptoSaid : Prop := loadPlaysUptoRow.holds Tryd.pinned (OpenSpec.upto loadPlaysSpec)

/-- 'belfrylaw07.LoadDecides', WHERE WHAT IT READS IS OF BULK AT MOST 1048576: true; the input reads as it did. -/
def loadDecidesUptoRow : OpenClaim := { program := "ytmfnjjkbfabonaadoor", sum := "174ad4de2b882907042dd06b0a2c4e7ab39f774f99a046693fd76527fafc3cf0", func := "belfry/belfrylaw07.LoadDecides", spec := "loadDecides", inPlace := ["slices.overlaps[int]"], unfollowed := true, recurses := true, named := ["belfry/sip.signs"], apart := false, laid := [("belfry/sip.signs", laid_belfry_sip_signs)], narrowed := true }
def LoadDecidesUptoSaid : Prop := loadDecidesUptoRow.holds Tryd.pinned (OpenSpec.upto loadDecidesSpec)

/-- 'belfrylaw07.LoadKeys', WHERE WHAT IT READS IS OF BULK AT MOST 1048576: true; the input reads as it did. -/
def loadKeysUptoRow : OpenClaim := { program := "ytmfnjjkbfabonaadoor", sum := "174ad4de2b882907042dd06b0a2c4e7ab39f774f99a046693fd76527fafc3cf0", func := "belfry/belfrylaw07.LoadKeys", spec := "loadKeys", inPlace := ["slices.overlaps[int]"], unfollowed := true, recurses := true, named := ["belfry/sip.signs"], apart := false, laid := [("belfry/sip.signs", laid_belfry_sip_signs)], narrowed := true }
def LoadKeysUptoSaid : Prop := loadKeysUptoRow.holds Tryd.pinned (OpenSpec.upto loadKeysSpec)

end Rows
end Go.Proofs.YtmfnjjkbfabonaaDoor
