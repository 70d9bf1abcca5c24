/-
  No cell of these rows narrows 'for every input' (looked for: loops, veiled, ifaces, maps, wideKeys, modest, calm, conditions, laid).
  DERIVED. THE GIVEN ROWS OF THIS SEAT. 7 by the template 'for every input the law returns true; each argument reads behind the call as it read before'; 0 by the template 'total and deterministic' (their statements: YtdimbgkjonimmaaTotals.lean).
  GIVEN WITH THE SEED: the statements are not yours to turn. If you find one false, say at which input.
  Laid BY PROGRAM, IN A SANDBOX (cutbox-rows.mjs): the forced cells as the released guide's own fill.sh prints them over the translation e5f8ece72c021302… (all of the seat's roots in one cut). By AI agents, Wed Nov 11 2026. No macro, syntax, notation, axiom, sorry.
-/
import Derived.Test.YtdimbgkjonimmaaChecked
import GoSem.Claim
import GoSem.ClaimJoined
import GoSem.ClaimMapViews
import Derived.JoinedTies
import Derived.KernelRfl
namespace Go.Proofs.Ytdimbgkjonimmaa
/- THE CELL 'sum', in the pinned program and in every row, IS THE sha256 OF THE DUMP (.gsa) THAT YtdimbgkjonimmaaProg.lean LOADS. Nothing in Lean hashes anything: it is a label: what it is worth is what the hold of that sum in a sandbox is worth. -/
noncomputable def Try.pinned : Pinned := { name := "ytdimbgkjonimmaa", sum := "e5f8ece72c0213025aefdfd41c6509fafbfe0ffec55d94edcb58d4d5e66b80c6", checked := Try.checked }
namespace Rows
def none {H : Type} : Left H := { results := [], args := [] }

/-- 'belfrylaw09.LiftBack': WHATEVER THE INPUT: true; the input reads as it did. -/
def liftBackSpec : ChangeSpec := { name := "liftBack", fn := fun _ => fun
  | [d1, d2, d3] => { results := [.lit (.bool true)], args := [d1, d2, d3] }
  | _ => none }
def liftBackRow : OpenClaim := { program := "ytdimbgkjonimmaa", sum := "e5f8ece72c0213025aefdfd41c6509fafbfe0ffec55d94edcb58d4d5e66b80c6", func := "belfry/belfrylaw09.LiftBack", spec := "liftBack", unfollowed := true, recurses := true, apart := false }
def LiftBackSaid : Prop := liftBackRow.holds Try.pinned (OpenSpec.ofChange liftBackSpec)

/-- ITS FALSE NEIGHBOUR: 'it returns false'. Refute it at one input. -/
def liftBackWrong : ChangeSpec := { name := "liftBack", fn := fun _ => fun
  | [d1, d2, d3] => { results := [.lit (.bool false)], args := [d1, d2, d3] }
  | _ => none }
def LiftBackWrongFalsely : Prop := liftBackRow.holds Try.pinned (OpenSpec.ofChange liftBackWrong)

/-- 'belfrylaw09.LiftUnlike': WHATEVER THE INPUT: true; the input reads as it did. -/
def liftUnlikeSpec : ChangeSpec := { name := "liftUnlike", fn := fun _ => fun
  | [d1, d2, d3, d4, d5] => { results := [.lit (.bool true)], args := [d1, d2, d3, d4, d5] }
  | _ => none }
def liftUnlikeRow : OpenClaim := { program := "ytdimbgkjonimmaa", sum := "e5f8ece72c0213025aefdfd41c6509fafbfe0ffec55d94edcb58d4d5e66b80c6", func := "belfry/belfrylaw09.LiftUnlike", spec := "liftUnlike", unfollowed := true, recurses := true, apart := false }
def LiftUnlikeSaid : Prop := liftUnlikeRow.holds Try.pinned (OpenSpec.ofChange liftUnlikeSpec)

/-- ITS FALSE NEIGHBOUR: 'it returns false'. Refute it at one input. -/
def liftUnlikeWrong : ChangeSpec := { name := "liftUnlike", fn := fun _ => fun
  | [d1, d2, d3, d4, d5] => { results := [.lit (.bool false)], args := [d1, d2, d3, d4, d5] }
  | _ => none }
def LiftUnlikeWrongFalsely : Prop := liftUnlikeRow.holds Try.pinned (OpenSpec.ofChange liftUnlikeWrong)

/-- 'belfrylaw09.LiftQuarters': WHATEVER THE INPUT: true; the input reads as it did. -/
def liftQuartersSpec : ChangeSpec := { name := "liftQuarters", fn := fun _ => fun
  | [d1, d2, d3] => { results := [.lit (.bool true)], args := [d1, d2, d3] }
  | _ => none }
def liftQuartersRow : OpenClaim := { program := "ytdimbgkjonimmaa", sum := "e5f8ece72c0213025aefdfd41c6509fafbfe0ffec55d94edcb58d4d5e66b80c6", func := "belfry/belfrylaw09.LiftQuarters", spec := "liftQuarters", unfollowed := true, recurses := true, apart := false }
def LiftQuartersSaid : Prop := liftQuartersRow.holds Try.pinned (OpenSpec.ofChange liftQuartersSpec)

/-- ITS FALSE NEIGHBOUR: 'it returns false'. Refute it at one input. -/
def liftQuartersWrong : ChangeSpec := { name := "liftQuarters", fn := fun _ => fun
  | [d1, d2, d3] => { results := [.lit (.bool false)], args := [d1, d2, d3] }
  | _ => none }
def LiftQuartersWrongFalsely : Prop := liftQuartersRow.holds Try.pinned (OpenSpec.ofChange liftQuartersWrong)

/-- 'belfrylaw09.LiftSize': WHATEVER THE INPUT: true; the input reads as it did. -/
def liftSizeSpec : ChangeSpec := { name := "liftSize", fn := fun _ => fun
  | [d1, d2, d3] => { results := [.lit (.bool true)], args := [d1, d2, d3] }
  | _ => none }
def liftSizeRow : OpenClaim := { program := "ytdimbgkjonimmaa", sum := "e5f8ece72c0213025aefdfd41c6509fafbfe0ffec55d94edcb58d4d5e66b80c6", func := "belfry/belfrylaw09.LiftSize", spec := "liftSize", unfollowed := true, recurses := true, apart := false }
def LiftSizeSaid : Prop := liftSizeRow.holds Try.pinned (OpenSpec.ofChange liftSizeSpec)

/-- ITS FALSE NEIGHBOUR: 'it returns false'. Refute it at one input. -/
def liftSizeWrong : ChangeSpec := { name := "liftSize", fn := fun _ => fun
  | [d1, d2, d3] => { results := [.lit (.bool false)], args := [d1, d2, d3] }
  | _ => none }
def LiftSizeWrongFalsely : Prop := liftSizeRow.holds Try.pinned (OpenSpec.ofChange liftSizeWrong)

/-- 'belfrylaw09.LiftPlays': WHATEVER THE INPUT: true; the input reads as it did. -/
def liftPlaysSpec : ChangeSpec := { name := "liftPlays", fn := fun _ => fun
  | [d1, d2, d3, d4] => { results := [.lit (.bool true)], args := [d1, d2, d3, d4] }
  | _ => none }
def liftPlaysRow : OpenClaim := { program := "ytdimbgkjonimmaa", sum := "e5f8ece72c0213025aefdfd41c6509fafbfe0ffec55d94edcb58d4d5e66b80c6", func := "belfry/belfrylaw09.LiftPlays", spec := "liftPlays", unfollowed := true, recurses := true, apart := false }
def LiftPlaysSaid : Prop := liftPlaysRow.holds Try.pinned (OpenSpec.ofChange liftPlaysSpec)

/-- ITS FALSE NEIGHBOUR: 'it returns false'. Refute it at one input. -/
def liftPlaysWrong : ChangeSpec := { name := "liftPlays", fn := fun _ => fun
  | [d1, d2, d3, d4] => { results := [.lit (.bool false)], args := [d1, d2, d3, d4] }
  | _ => none }
def LiftPlaysWrongFalsely : Prop := liftPlaysRow.holds Try.pinned (OpenSpec.ofChange liftPlaysWrong)

/-- 'belfrylaw09.LiftParts': WHATEVER THE INPUT: true; the input reads as it did. -/
def liftPartsSpec : ChangeSpec := { name := "liftParts", fn := fun _ => fun
  | [d1, d2] => { results := [.lit (.bool true)], args := [d1, d2] }
  | _ => none }
def liftPartsRow : OpenClaim := { program := "ytdimbgkjonimmaa", sum := "e5f8ece72c0213025aefdfd41c6509fafbfe0ffec55d94edcb58d4d5e66b80c6", func := "belfry/belfrylaw09.LiftParts", spec := "liftParts", unfollowed := true, recurses := true, apart := false }
def LiftPartsSaid : Prop := liftPartsRow.holds Try.pinned (OpenSpec.ofChange liftPartsSpec)

/-- ITS FALSE NEIGHBOUR: 'it returns false'. Refute it at one input. -/
def liftPartsWrong : ChangeSpec := { name := "liftParts", fn := fun _ => fun
  | [d1, d2] => { results := [.lit (.bool false)], args := [d1, d2] }
  | _ => none }
def LiftPartsWrongFalsely : Prop := liftPartsRow.holds Try.pinned (OpenSpec.ofChange liftPartsWrong)

/-- 'belfrylaw09.LiftTwice': WHATEVER THE INPUT: true; the input reads as it did. -/
def liftTwiceSpec : ChangeSpec := { name := "liftTwice", fn := fun _ => fun
  | [d1, d2, d3, d4] => { results := [.lit (.bool true)], args := [d1, d2, d3, d4] }
  | _ => none }
def liftTwiceRow : OpenClaim := { program := "ytdimbgkjonimmaa", sum := "e5f8ece72c0213025aefdfd41c6509fafbfe0ffec55d94edcb58d4d5e66b80c6", func := "belfry/belfrylaw09.LiftTwice", spec := "liftTwice", unfollowed := true, recurses := true, apart := false }
def LiftTwiceSaid : Prop := liftTwiceRow.holds Try.pinned (OpenSpec.ofChange liftTwiceSpec)

/-- ITS FALSE NEIGHBOUR: 'it returns false'. Refute it at one input. -/
def liftTwiceWrong : ChangeSpec := { name := "liftTwice", fn := fun _ => fun
  | [d1, d2, d3, d4] => { results := [.lit (.bool false)], args := [d1, d2, d3, d4] }
  | _ => none }
def LiftTwiceWrongFalsely : Prop := liftTwiceRow.holds Try.pinned (OpenSpec.ofChange liftTwiceWrong)

/- THE SECOND FORM. 'bulk': how many values and letters a reading holds, each counted each time it is reached (what is shared counts as often as it is met; a slice's spare places count too). A statement '..UptoSaid' is the law's where the arguments, and the package variables that the reading takes, are together of bulk at most 1048576: NARROWER than '..Said'. Prove '..Said' where nothing that the law and all that it calls make is longer than what came in: it says more and counts as full. Else prove '..UptoSaid'. A law counts once. -/
mutual
def uptoBulk {H : Type} : DataW H → Nat
  | .lit (.string bytes) => bytes.length + 1
  | .lit _ => 1
  | .nil => 1
  | .ptr d => uptoBulk d + 1
  | .slice elems spare => uptoBulkAll elems + uptoBulkAll spare + 1
  | .agg parts => uptoBulkAll parts + 1
  | .iface _ d => uptoBulk d + 1
  | .map entries => uptoBulkEntries entries + 1
  | .held _ => 1
def uptoBulkAll {H : Type} : List (DataW H) → Nat
  | [] => 0
  | d :: r => uptoBulk d + uptoBulkAll r
def uptoBulkEntries {H : Type} : List (Lit × DataW H) → Nat
  | [] => 0
  | x :: r => uptoBulkEntry x + uptoBulkEntries r
def uptoBulkEntry {H : Type} : Lit × DataW H → Nat
  | (.string bytes, d) => bytes.length + uptoBulk d + 1
  | (_, d) => uptoBulk d + 1
 end
def uptoSmall : (H : Type) → List (DataW H) → Bool := fun _ ds => decide (uptoBulkAll ds ≤ 1048576)
def OpenSpec.upto (s : _root_.Go.ChangeSpec) : _root_.Go.OpenSpec := { _root_.Go.OpenSpec.ofChange s with cond := some uptoSmall }

/-- 'belfrylaw09.LiftBack', WHERE WHAT IT READS IS OF BULK AT MOST 1048576: true; the input reads as it did. -/
def liftBackUptoRow : OpenClaim := { program := "ytdimbgkjonimmaa", sum := "e5f8ece72c0213025aefdfd41c6509fafbfe0ffec55d94edcb58d4d5e66b80c6", func := "belfry/belfrylaw09.LiftBack", spec := "liftBack", unfollowed := true, recurses := true, apart := false, narrowed := true }
def LiftBackUptoSaid : Prop := liftBackUptoRow.holds Try.pinned (OpenSpec.upto liftBackSpec)

/-- 'belfrylaw09.LiftUnlike', WHERE WHAT IT READS IS OF BULK AT MOST 1048576: true; the input reads as it did. -/
def liftUnlikeUptoRow : OpenClaim := { program := "ytdimbgkjonimmaa", sum := "e5f8ece72c0213025aefdfd41c6509fafbfe0ffec55d94edcb58d4d5e66b80c6", func := "belfry/belfrylaw09.LiftUnlike", spec := "liftUnlike", unfollowed := true, recurses := true, apart := false, narrowed := true }
def LiftUnlikeUptoSaid : Prop := liftUnlikeUptoRow.holds Try.pinned (OpenSpec.upto liftUnlikeSpec)

/-- 'belfrylaw09.LiftQuarters', WHERE WHAT IT READS IS OF BULK AT MOST 1048576: true; the input reads as it did. -/
def liftQuartersUptoRow : OpenClaim := { program := "ytdimbgkjonimmaa", sum := "e5f8ece72c0213025aefdfd41c6509fafbfe0ffec55d94edcb58d4d5e66b80c6", func := "belfry/belfrylaw09.LiftQuarters", spec := "liftQuarters", unfollowed := true, recurses := true, apart := false, narrowed := true }
def LiftQuartersUptoSaid : Prop := liftQuartersUptoRow.holds Try.pinned (OpenSpec.upto liftQuartersSpec)

/-- 'belfrylaw09.LiftSize', WHERE WHAT IT READS IS OF BULK AT MOST 1048576: true; the input reads as it did. -/
def liftSizeUptoRow : OpenClaim := { program := "ytdimbgkjonimmaa", sum := "e5f8ece72c0213025aefdfd41c6509fafbfe0ffec55d94edcb58d4d5e66b80c6", func := "belfry/belfrylaw09.LiftSize", spec := "liftSize", unfollowed := true, recurses := true, apart := false, narrowed := true }
def LiftSizeUptoSaid : Prop := liftSizeUptoRow.holds Try.pinned (OpenSpec.upto liftSizeSpec)

/-- 'belfrylaw09.LiftPlays', WHERE WHAT IT READS IS OF BULK AT MOST 1048576: true; the input reads as it did. -/
def liftPlaysUptoRow : OpenClaim := { program := "ytdimbgkjonimmaa", sum := "e5f8ece72c0213025aefdfd41c6509fafbfe0ffec55d94edcb58d4d5e66b80c6", func := "belfry/belfrylaw09.LiftPlays", spec := "liftPlays", unfollowed := true, recurses := true, apart := false, narrowed := true }
def LiftPlaysUptoSaid : Prop := liftPlaysUptoRow.holds Try.pinned (OpenSpec.upto liftPlaysSpec)

/-- 'belfrylaw09.LiftParts', WHERE WHAT IT READS IS OF BULK AT MOST 1048576: true; the input reads as it did. -/
def liftPartsUptoRow : OpenClaim := { program := "ytdimbgkjonimmaa", sum := "e5f8ece72c0213025aefdfd41c6509fafbfe0ffec55d94edcb58d4d5e66b80c6", func := "belfry/belfrylaw09.LiftParts", spec := "liftParts", unfollowed := true, recurses := true, apart := false, narrowed := true }
def LiftPartsUptoSaid : Prop := liftPartsUptoRow.holds Try.pinned (OpenSpec.upto liftPartsSpec)

/-- 'belfrylaw09.LiftTwice', WHERE WHAT IT READS IS OF BULK AT MOST 1048576: true; the input reads as it did. -/
def liftTwiceUptoRow : OpenClaim := { program := "ytdimbgkjonimmaa", sum := "e5f8ece72c0213025aefdfd41c6509fafbfe0ffec55d94edcb58d4d5e66b80c6", func := "belfry/belfrylaw09.LiftTwice", spec := "liftTwice", unfollowed := true, recurses := true, apart := false, narrowed := true }
def LiftTwiceUptoSaid : Prop := liftTwiceUptoRow.holds Try.pinned (OpenSpec.upto liftTwiceSpec)

end Rows
end Go.Proofs.Ytdimbgkjonimmaa
