/-
  No cell of these rows narrows 'for every input' (looked for: loops, veiled, ifaces, maps, wideKeys, modest, calm, conditions, laid).
  DERIVED. THE GIVEN ROWS OF THIS SEAT. 5 by the template 'for every input the law returns true; each argument reads behind the call as it read before'; 0 by the template 'total and deterministic' (their statements: YtdlcdbkfhajkdaaTotals.lean).
  GIVEN WITH THE SEED: the statements are not yours to turn. If you find one false, say at which input.
  Laid BY PROGRAM, IN A SANDBOX (cutbox-rows.mjs): the forced cells as the released guide's own fill.sh prints them over the translation 8d88ffbddff47452… (all of the seat's roots in one cut). By AI agents, Wed Nov 11 2026. No macro, syntax, notation, axiom, sorry.
-/
import Derived.Test.YtdlcdbkfhajkdaaChecked
import GoSem.Claim
import GoSem.ClaimJoined
import GoSem.ClaimMapViews
import Derived.JoinedTies
import Derived.KernelRfl
namespace Go.Proofs.Ytdlcdbkfhajkdaa
/- THE CELL 'sum', in the pinned program and in every row, IS THE sha256 OF THE DUMP (.gsa) THAT YtdlcdbkfhajkdaaProg.lean LOADS. Nothing in Lean hashes anything: it is a label: what it is worth is what the hold of that sum in a sandbox is worth. -/
noncomputable def Try.pinned : Pinned := { name := "ytdlcdbkfhajkdaa", sum := "8d88ffbddff47452b66f0c6ca2537037429a970a3c9100ca2d6fdd156a5bb0af", checked := Try.checked }
namespace Rows
def none {H : Type} : Left H := { results := [], args := [] }

/-- 'belfrylaw10.DctBack': WHATEVER THE INPUT: true; the input reads as it did. -/
def dctBackSpec : ChangeSpec := { name := "dctBack", fn := fun _ => fun
  | [d] => { results := [.lit (.bool true)], args := [d] }
  | _ => none }
def dctBackRow : OpenClaim := { program := "ytdlcdbkfhajkdaa", sum := "8d88ffbddff47452b66f0c6ca2537037429a970a3c9100ca2d6fdd156a5bb0af", func := "belfry/belfrylaw10.DctBack", spec := "dctBack", unfollowed := true, recurses := true, apart := false }
def DctBackSaid : Prop := dctBackRow.holds Try.pinned (OpenSpec.ofChange dctBackSpec)

/-- ITS FALSE NEIGHBOUR: 'it returns false'. Refute it at one input. -/
def dctBackWrong : ChangeSpec := { name := "dctBack", fn := fun _ => fun
  | [d] => { results := [.lit (.bool false)], args := [d] }
  | _ => none }
def DctBackWrongFalsely : Prop := dctBackRow.holds Try.pinned (OpenSpec.ofChange dctBackWrong)

/-- 'belfrylaw10.DctUnlike': WHATEVER THE INPUT: true; the input reads as it did. -/
def dctUnlikeSpec : ChangeSpec := { name := "dctUnlike", fn := fun _ => fun
  | [d1, d2] => { results := [.lit (.bool true)], args := [d1, d2] }
  | _ => none }
def dctUnlikeRow : OpenClaim := { program := "ytdlcdbkfhajkdaa", sum := "8d88ffbddff47452b66f0c6ca2537037429a970a3c9100ca2d6fdd156a5bb0af", func := "belfry/belfrylaw10.DctUnlike", spec := "dctUnlike", unfollowed := true, recurses := true, apart := false }
def DctUnlikeSaid : Prop := dctUnlikeRow.holds Try.pinned (OpenSpec.ofChange dctUnlikeSpec)

/-- ITS FALSE NEIGHBOUR: 'it returns false'. Refute it at one input. -/
def dctUnlikeWrong : ChangeSpec := { name := "dctUnlike", fn := fun _ => fun
  | [d1, d2] => { results := [.lit (.bool false)], args := [d1, d2] }
  | _ => none }
def DctUnlikeWrongFalsely : Prop := dctUnlikeRow.holds Try.pinned (OpenSpec.ofChange dctUnlikeWrong)

/-- 'belfrylaw10.DctSize': WHATEVER THE INPUT: true; the input reads as it did. -/
def dctSizeSpec : ChangeSpec := { name := "dctSize", fn := fun _ => fun
  | [d] => { results := [.lit (.bool true)], args := [d] }
  | _ => none }
def dctSizeRow : OpenClaim := { program := "ytdlcdbkfhajkdaa", sum := "8d88ffbddff47452b66f0c6ca2537037429a970a3c9100ca2d6fdd156a5bb0af", func := "belfry/belfrylaw10.DctSize", spec := "dctSize", unfollowed := true, recurses := true, apart := false }
def DctSizeSaid : Prop := dctSizeRow.holds Try.pinned (OpenSpec.ofChange dctSizeSpec)

/-- ITS FALSE NEIGHBOUR: 'it returns false'. Refute it at one input. -/
def dctSizeWrong : ChangeSpec := { name := "dctSize", fn := fun _ => fun
  | [d] => { results := [.lit (.bool false)], args := [d] }
  | _ => none }
def DctSizeWrongFalsely : Prop := dctSizeRow.holds Try.pinned (OpenSpec.ofChange dctSizeWrong)

/-- 'belfrylaw10.DctPlays': WHATEVER THE INPUT: true; the input reads as it did. -/
def dctPlaysSpec : ChangeSpec := { name := "dctPlays", fn := fun _ => fun
  | [d] => { results := [.lit (.bool true)], args := [d] }
  | _ => none }
def dctPlaysRow : OpenClaim := { program := "ytdlcdbkfhajkdaa", sum := "8d88ffbddff47452b66f0c6ca2537037429a970a3c9100ca2d6fdd156a5bb0af", func := "belfry/belfrylaw10.DctPlays", spec := "dctPlays", unfollowed := true, recurses := true, apart := false }
def DctPlaysSaid : Prop := dctPlaysRow.holds Try.pinned (OpenSpec.ofChange dctPlaysSpec)

/-- ITS FALSE NEIGHBOUR: 'it returns false'. Refute it at one input. -/
def dctPlaysWrong : ChangeSpec := { name := "dctPlays", fn := fun _ => fun
  | [d] => { results := [.lit (.bool false)], args := [d] }
  | _ => none }
def DctPlaysWrongFalsely : Prop := dctPlaysRow.holds Try.pinned (OpenSpec.ofChange dctPlaysWrong)

/-- 'belfrylaw10.DctSmall': WHATEVER THE INPUT: true; the input reads as it did. -/
def dctSmallSpec : ChangeSpec := { name := "dctSmall", fn := fun _ => fun
  | [d] => { results := [.lit (.bool true)], args := [d] }
  | _ => none }
def dctSmallRow : OpenClaim := { program := "ytdlcdbkfhajkdaa", sum := "8d88ffbddff47452b66f0c6ca2537037429a970a3c9100ca2d6fdd156a5bb0af", func := "belfry/belfrylaw10.DctSmall", spec := "dctSmall", unfollowed := true, recurses := true, apart := false }
def DctSmallSaid : Prop := dctSmallRow.holds Try.pinned (OpenSpec.ofChange dctSmallSpec)

/-- ITS FALSE NEIGHBOUR: 'it returns false'. Refute it at one input. -/
def dctSmallWrong : ChangeSpec := { name := "dctSmall", fn := fun _ => fun
  | [d] => { results := [.lit (.bool false)], args := [d] }
  | _ => none }
def DctSmallWrongFalsely : Prop := dctSmallRow.holds Try.pinned (OpenSpec.ofChange dctSmallWrong)

/- THE SECOND FORM. 'bulk': how many values and letters a reading holds, each counted each time it is reached (what is shared counts as often as it is met; a slice's spare places count too). A statement '..UptoSaid' is the law's where the arguments, and the package variables that the reading takes, are together of bulk at most 1048576: NARROWER than '..Said'. Prove '..Said' where nothing that the law and all that it calls make is longer than what came in: it says more and counts as full. Else prove '..UptoSaid'. A law counts once. -/
mutual
def uptoBulk {H : Type} : DataW H → Nat
  | .lit (.string bytes) => bytes.length + 1
  | .lit _ => 1
  | .nil => 1
  | .ptr d => uptoBulk d + 1
  | .slice elems spare => uptoBulkAll elems + uptoBulkAll spare + 1
  | .agg parts => uptoBulkAll parts + 1
  | .iface _ d => uptoBulk d + 1
  | .map entries => uptoBulkEntries entries + 1
  | .held _ => 1
def uptoBulkAll {H : Type} : List (DataW H) → Nat
  | [] => 0
  | d :: r => uptoBulk d + uptoBulkAll r
def uptoBulkEntries {H : Type} : List (Lit × DataW H) → Nat
  | [] => 0
  | x :: r => uptoBulkEntry x + uptoBulkEntries r
def uptoBulkEntry {H : Type} : Lit × DataW H → Nat
  | (.string bytes, d) => bytes.length + uptoBulk d + 1
  | (_, d) => uptoBulk d + 1
 end
def uptoSmall : (H : Type) → List (DataW H) → Bool := fun _ ds => decide (uptoBulkAll ds ≤ 1048576)
def OpenSpec.upto (s : _root_.Go.ChangeSpec) : _root_.Go.OpenSpec := { _root_.Go.OpenSpec.ofChange s with cond := some uptoSmall }

/-- 'belfrylaw10.DctBack', WHERE WHAT IT READS IS OF BULK AT MOST 1048576: true; the input reads as it did. -/
def dctBackUptoRow : OpenClaim := { program := "ytdlcdbkfhajkdaa", sum := "8d88ffbddff47452b66f0c6ca2537037429a970a3c9100ca2d6fdd156a5bb0af", func := "belfry/belfrylaw10.DctBack", spec := "dctBack", unfollowed := true, recurses := true, apart := false, narrowed := true }
def DctBackUptoSaid : Prop := dctBackUptoRow.holds Try.pinned (OpenSpec.upto dctBackSpec)

/-- 'belfrylaw10.DctUnlike', WHERE WHAT IT READS IS OF BULK AT MOST 1048576: true; the input reads as it did. -/
def dctUnlikeUptoRow : OpenClaim := { program := "ytdlcdbkfhajkdaa", sum := "8d88ffbddff47452b66f0c6ca2537037429a970a3c9100ca2d6fdd156a5bb0af", func := "belfry/belfrylaw10.DctUnlike", spec := "dctUnlike", unfollowed := true, recurses := true, apart := false, narrowed := true }
def DctUnlikeUptoSaid : Prop := dctUnlikeUptoRow.holds Try.pinned (OpenSpec.upto dctUnlikeSpec)

/-- 'belfrylaw10.DctSize', WHERE WHAT IT READS IS OF BULK AT MOST 1048576: true; the input reads as it did. -/
def dctSizeUptoRow : OpenClaim := { program := "ytdlcdbkfhajkdaa", sum := "8d88ffbddff47452b66f0c6ca2537037429a970a3c9100ca2d6fdd156a5bb0af", func := "belfry/belfrylaw10.DctSize", spec := "dctSize", unfollowed := true, recurses := true, apart := false, narrowed := true }
def DctSizeUptoSaid : Prop := dctSizeUptoRow.holds Try.pinned (OpenSpec.upto dctSizeSpec)

/-- 'belfrylaw10.DctPlays', WHERE WHAT IT READS IS OF BULK AT MOST 1048576: true; the input reads as it did. -/
def dctPlaysUptoRow : OpenClaim := { program := "ytdlcdbkfhajkdaa", sum := "8d88ffbddff47452b66f0c6ca2537037429a970a3c9100ca2d6fdd156a5bb0af", func := "belfry/belfrylaw10.DctPlays", spec := "dctPlays", unfollowed := true, recurses := true, apart := false, narrowed := true }
def DctPlaysUptoSaid : Prop := dctPlaysUptoRow.holds Try.pinned (OpenSpec.upto dctPlaysSpec)

/-- 'belfrylaw10.DctSmall', WHERE WHAT IT READS IS OF BULK AT MOST 1048576: true; the input reads as it did. -/
def dctSmallUptoRow : OpenClaim := { program := "ytdlcdbkfhajkdaa", sum := "8d88ffbddff47452b66f0c6ca2537037429a970a3c9100ca2d6fdd156a5bb0af", func := "belfry/belfrylaw10.DctSmall", spec := "dctSmall", unfollowed := true, recurses := true, apart := false, narrowed := true }
def DctSmallUptoSaid : Prop := dctSmallUptoRow.holds Try.pinned (OpenSpec.upto dctSmallSpec)

end Rows
end Go.Proofs.Ytdlcdbkfhajkdaa
