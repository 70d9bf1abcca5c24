/-
  No cell of these rows narrows 'for every input' (looked for: loops, veiled, ifaces, maps, wideKeys, modest, calm, conditions, laid).
  DERIVED. THE GIVEN ROWS OF THIS SEAT. 6 by the template 'for every input the law returns true; each argument reads behind the call as it read before'; 0 by the template 'total and deterministic' (their statements: YtdnchnhflfcdkaaTotals.lean).
  GIVEN WITH THE SEED: the statements are not yours to turn. If you find one false, say at which input.
  Laid BY PROGRAM, IN A SANDBOX (cutbox-rows.mjs): the forced cells as the released guide's own fill.sh prints them over the translation 4c204e69cdd3cbf7… (all of the seat's roots in one cut). By AI agents, Wed Nov 11 2026. No macro, syntax, notation, axiom, sorry.
-/
import Derived.Test.YtdnchnhflfcdkaaChecked
import GoSem.Claim
import GoSem.ClaimJoined
import GoSem.ClaimMapViews
import Derived.JoinedTies
import Derived.KernelRfl
namespace Go.Proofs.Ytdnchnhflfcdkaa
/- THE CELL 'sum', in the pinned program and in every row, IS THE sha256 OF THE DUMP (.gsa) THAT YtdnchnhflfcdkaaProg.lean LOADS. Nothing in Lean hashes anything: it is a label: what it is worth is what the hold of that sum in a sandbox is worth. -/
noncomputable def Try.pinned : Pinned := { name := "ytdnchnhflfcdkaa", sum := "4c204e69cdd3cbf7f075147b4f6fccc415b69a12501fa4cdc53f43db853a35df", checked := Try.checked }
namespace Rows
def none {H : Type} : Left H := { results := [], args := [] }

/-- 'belfrylaw11.LapBack': WHATEVER THE INPUT: true; the input reads as it did. -/
def lapBackSpec : ChangeSpec := { name := "lapBack", fn := fun _ => fun
  | [d] => { results := [.lit (.bool true)], args := [d] }
  | _ => none }
def lapBackRow : OpenClaim := { program := "ytdnchnhflfcdkaa", sum := "4c204e69cdd3cbf7f075147b4f6fccc415b69a12501fa4cdc53f43db853a35df", func := "belfry/belfrylaw11.LapBack", spec := "lapBack", unfollowed := true, recurses := true, apart := false }
def LapBackSaid : Prop := lapBackRow.holds Try.pinned (OpenSpec.ofChange lapBackSpec)

/-- ITS FALSE NEIGHBOUR: 'it returns false'. Refute it at one input. -/
def lapBackWrong : ChangeSpec := { name := "lapBack", fn := fun _ => fun
  | [d] => { results := [.lit (.bool false)], args := [d] }
  | _ => none }
def LapBackWrongFalsely : Prop := lapBackRow.holds Try.pinned (OpenSpec.ofChange lapBackWrong)

/-- 'belfrylaw11.LapAlone': WHATEVER THE INPUT: true; the input reads as it did. -/
def lapAloneSpec : ChangeSpec := { name := "lapAlone", fn := fun _ => fun
  | [d1, d2, d3] => { results := [.lit (.bool true)], args := [d1, d2, d3] }
  | _ => none }
def lapAloneRow : OpenClaim := { program := "ytdnchnhflfcdkaa", sum := "4c204e69cdd3cbf7f075147b4f6fccc415b69a12501fa4cdc53f43db853a35df", func := "belfry/belfrylaw11.LapAlone", spec := "lapAlone", unfollowed := true, recurses := true, apart := false }
def LapAloneSaid : Prop := lapAloneRow.holds Try.pinned (OpenSpec.ofChange lapAloneSpec)

/-- ITS FALSE NEIGHBOUR: 'it returns false'. Refute it at one input. -/
def lapAloneWrong : ChangeSpec := { name := "lapAlone", fn := fun _ => fun
  | [d1, d2, d3] => { results := [.lit (.bool false)], args := [d1, d2, d3] }
  | _ => none }
def LapAloneWrongFalsely : Prop := lapAloneRow.holds Try.pinned (OpenSpec.ofChange lapAloneWrong)

/-- 'belfrylaw11.LapSeams': WHATEVER THE INPUT: true; the input reads as it did. -/
def lapSeamsSpec : ChangeSpec := { name := "lapSeams", fn := fun _ => fun
  | [d1, d2] => { results := [.lit (.bool true)], args := [d1, d2] }
  | _ => none }
def lapSeamsRow : OpenClaim := { program := "ytdnchnhflfcdkaa", sum := "4c204e69cdd3cbf7f075147b4f6fccc415b69a12501fa4cdc53f43db853a35df", func := "belfry/belfrylaw11.LapSeams", spec := "lapSeams", unfollowed := true, recurses := true, apart := false }
def LapSeamsSaid : Prop := lapSeamsRow.holds Try.pinned (OpenSpec.ofChange lapSeamsSpec)

/-- ITS FALSE NEIGHBOUR: 'it returns false'. Refute it at one input. -/
def lapSeamsWrong : ChangeSpec := { name := "lapSeams", fn := fun _ => fun
  | [d1, d2] => { results := [.lit (.bool false)], args := [d1, d2] }
  | _ => none }
def LapSeamsWrongFalsely : Prop := lapSeamsRow.holds Try.pinned (OpenSpec.ofChange lapSeamsWrong)

/-- 'belfrylaw11.LapPlays': WHATEVER THE INPUT: true; the input reads as it did. -/
def lapPlaysSpec : ChangeSpec := { name := "lapPlays", fn := fun _ => fun
  | [d1, d2] => { results := [.lit (.bool true)], args := [d1, d2] }
  | _ => none }
def lapPlaysRow : OpenClaim := { program := "ytdnchnhflfcdkaa", sum := "4c204e69cdd3cbf7f075147b4f6fccc415b69a12501fa4cdc53f43db853a35df", func := "belfry/belfrylaw11.LapPlays", spec := "lapPlays", unfollowed := true, recurses := true, apart := false }
def LapPlaysSaid : Prop := lapPlaysRow.holds Try.pinned (OpenSpec.ofChange lapPlaysSpec)

/-- ITS FALSE NEIGHBOUR: 'it returns false'. Refute it at one input. -/
def lapPlaysWrong : ChangeSpec := { name := "lapPlays", fn := fun _ => fun
  | [d1, d2] => { results := [.lit (.bool false)], args := [d1, d2] }
  | _ => none }
def LapPlaysWrongFalsely : Prop := lapPlaysRow.holds Try.pinned (OpenSpec.ofChange lapPlaysWrong)

/-- 'belfrylaw11.LapNear': WHATEVER THE INPUT: true; the input reads as it did. -/
def lapNearSpec : ChangeSpec := { name := "lapNear", fn := fun _ => fun
  | [d1, d2, d3] => { results := [.lit (.bool true)], args := [d1, d2, d3] }
  | _ => none }
def lapNearRow : OpenClaim := { program := "ytdnchnhflfcdkaa", sum := "4c204e69cdd3cbf7f075147b4f6fccc415b69a12501fa4cdc53f43db853a35df", func := "belfry/belfrylaw11.LapNear", spec := "lapNear", unfollowed := true, recurses := true, apart := false }
def LapNearSaid : Prop := lapNearRow.holds Try.pinned (OpenSpec.ofChange lapNearSpec)

/-- ITS FALSE NEIGHBOUR: 'it returns false'. Refute it at one input. -/
def lapNearWrong : ChangeSpec := { name := "lapNear", fn := fun _ => fun
  | [d1, d2, d3] => { results := [.lit (.bool false)], args := [d1, d2, d3] }
  | _ => none }
def LapNearWrongFalsely : Prop := lapNearRow.holds Try.pinned (OpenSpec.ofChange lapNearWrong)

/-- 'belfrylaw11.LapCounts': WHATEVER THE INPUT: true; the input reads as it did. -/
def lapCountsSpec : ChangeSpec := { name := "lapCounts", fn := fun _ => fun
  | [d] => { results := [.lit (.bool true)], args := [d] }
  | _ => none }
def lapCountsRow : OpenClaim := { program := "ytdnchnhflfcdkaa", sum := "4c204e69cdd3cbf7f075147b4f6fccc415b69a12501fa4cdc53f43db853a35df", func := "belfry/belfrylaw11.LapCounts", spec := "lapCounts", unfollowed := true, recurses := true, apart := false }
def LapCountsSaid : Prop := lapCountsRow.holds Try.pinned (OpenSpec.ofChange lapCountsSpec)

/-- ITS FALSE NEIGHBOUR: 'it returns false'. Refute it at one input. -/
def lapCountsWrong : ChangeSpec := { name := "lapCounts", fn := fun _ => fun
  | [d] => { results := [.lit (.bool false)], args := [d] }
  | _ => none }
def LapCountsWrongFalsely : Prop := lapCountsRow.holds Try.pinned (OpenSpec.ofChange lapCountsWrong)

/- THE SECOND FORM. 'bulk': how many values and letters a reading holds, each counted each time it is reached (what is shared counts as often as it is met; a slice's spare places count too). A statement '..UptoSaid' is the law's where the arguments, and the package variables that the reading takes, are together of bulk at most 1048576: NARROWER than '..Said'. Prove '..Said' where nothing that the law and all that it calls make is longer than what came in: it says more and counts as full. Else prove '..UptoSaid'. A law counts once. -/
mutual
def uptoBulk {H : Type} : DataW H → Nat
  | .lit (.string bytes) => bytes.length + 1
  | .lit _ => 1
  | .nil => 1
  | .ptr d => uptoBulk d + 1
  | .slice elems spare => uptoBulkAll elems + uptoBulkAll spare + 1
  | .agg parts => uptoBulkAll parts + 1
  | .iface _ d => uptoBulk d + 1
  | .map entries => uptoBulkEntries entries + 1
  | .held _ => 1
def uptoBulkAll {H : Type} : List (DataW H) → Nat
  | [] => 0
  | d :: r => uptoBulk d + uptoBulkAll r
def uptoBulkEntries {H : Type} : List (Lit × DataW H) → Nat
  | [] => 0
  | x :: r => uptoBulkEntry x + uptoBulkEntries r
def uptoBulkEntry {H : Type} : Lit × DataW H → Nat
  | (.string bytes, d) => bytes.length + uptoBulk d + 1
  | (_, d) => uptoBulk d + 1
 end
def uptoSmall : (H : Type) → List (DataW H) → Bool := fun _ ds => decide (uptoBulkAll ds ≤ 1048576)
def OpenSpec.upto (s : _root_.Go.ChangeSpec) : _root_.Go.OpenSpec := { _root_.Go.OpenSpec.ofChange s with cond := some uptoSmall }

/-- 'belfrylaw11.LapBack', WHERE WHAT IT READS IS OF BULK AT MOST 1048576: true; the input reads as it did. -/
def lapBackUptoRow : OpenClaim := { program := "ytdnchnhflfcdkaa", sum := "4c204e69cdd3cbf7f075147b4f6fccc415b69a12501fa4cdc53f43db853a35df", func := "belfry/belfrylaw11.LapBack", spec := "lapBack", unfollowed := true, recurses := true, apart := false, narrowed := true }
def LapBackUptoSaid : Prop := lapBackUptoRow.holds Try.pinned (OpenSpec.upto lapBackSpec)

/-- 'belfrylaw11.LapAlone', WHERE WHAT IT READS IS OF BULK AT MOST 1048576: true; the input reads as it did. -/
def lapAloneUptoRow : OpenClaim := { program := "ytdnchnhflfcdkaa", sum := "4c204e69cdd3cbf7f075147b4f6fccc415b69a12501fa4cdc53f43db853a35df", func := "belfry/belfrylaw11.LapAlone", spec := "lapAlone", unfollowed := true, recurses := true, apart := false, narrowed := true }
def LapAloneUptoSaid : Prop := lapAloneUptoRow.holds Try.pinned (OpenSpec.upto lapAloneSpec)

/-- 'belfrylaw11.LapSeams', WHERE WHAT IT READS IS OF BULK AT MOST 1048576: true; the input reads as it did. -/
def lapSeamsUptoRow : OpenClaim := { program := "ytdnchnhflfcdkaa", sum := "4c204e69cdd3cbf7f075147b4f6fccc415b69a12501fa4cdc53f43db853a35df", func := "belfry/belfrylaw11.LapSeams", spec := "lapSeams", unfollowed := true, recurses := true, apart := false, narrowed := true }
def LapSeamsUptoSaid : Prop := lapSeamsUptoRow.holds Try.pinned (OpenSpec.upto lapSeamsSpec)

/-- 'belfrylaw11.LapPlays', WHERE WHAT IT READS IS OF BULK AT MOST 1048576: true; the input reads as it did. -/
def lapPlaysUptoRow : OpenClaim := { program := "ytdnchnhflfcdkaa", sum := "4c204e69cdd3cbf7f075147b4f6fccc415b69a12501fa4cdc53f43db853a35df", func := "belfry/belfrylaw11.LapPlays", spec := "lapPlays", unfollowed := true, recurses := true, apart := false, narrowed := true }
def LapPlaysUptoSaid : Prop := lapPlaysUptoRow.holds Try.pinned (OpenSpec.upto lapPlaysSpec)

/-- 'belfrylaw11.LapNear', WHERE WHAT IT READS IS OF BULK AT MOST 1048576: true; the input reads as it did. -/
def lapNearUptoRow : OpenClaim := { program := "ytdnchnhflfcdkaa", sum := "4c204e69cdd3cbf7f075147b4f6fccc415b69a12501fa4cdc53f43db853a35df", func := "belfry/belfrylaw11.LapNear", spec := "lapNear", unfollowed := true, recurses := true, apart := false, narrowed := true }
def LapNearUptoSaid : Prop := lapNearUptoRow.holds Try.pinned (OpenSpec.upto lapNearSpec)

/-- 'belfrylaw11.LapCounts', WHERE WHAT IT READS IS OF BULK AT MOST 1048576: true; the input reads as it did. -/
def lapCountsUptoRow : OpenClaim := { program := "ytdnchnhflfcdkaa", sum := "4c204e69cdd3cbf7f075147b4f6fccc415b69a12501fa4cdc53f43db853a35df", func := "belfry/belfrylaw11.LapCounts", spec := "lapCounts", unfollowed := true, recurses := true, apart := false, narrowed := true }
def LapCountsUptoSaid : Prop := lapCountsUptoRow.holds Try.pinned (OpenSpec.upto lapCountsSpec)

end Rows
end Go.Proofs.Ytdnchnhflfcdkaa
