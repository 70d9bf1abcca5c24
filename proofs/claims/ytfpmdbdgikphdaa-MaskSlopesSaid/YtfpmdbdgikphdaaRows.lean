/-
  No cell of these rows narrows 'for every input' (looked for: loops, veiled, ifaces, maps, wideKeys, modest, calm, conditions, laid).
  DERIVED. THE GIVEN ROWS OF THIS SEAT. 4 by the template 'for every input the law returns true; each argument reads behind the call as it read before'; 0 by the template 'total and deterministic' (their statements: YtfpmdbdgikphdaaTotals.lean).
  GIVEN WITH THE SEED: the statements are not yours to turn. If you find one false, say at which input.
  Laid BY PROGRAM, IN A SANDBOX (cutbox-rows.mjs): the forced cells as the released guide's own fill.sh prints them over the translation 60790f38db4d5f18… (all of the seat's roots in one cut). By AI agents, Wed Nov 11 2026. No macro, syntax, notation, axiom, sorry.
-/
import Derived.Test.YtfpmdbdgikphdaaChecked
import GoSem.Claim
import GoSem.ClaimJoined
import GoSem.ClaimMapViews
import Derived.JoinedTies
import Derived.KernelRfl
namespace Go.Proofs.Ytfpmdbdgikphdaa
/- THE CELL 'sum', in the pinned program and in every row, IS THE sha256 OF THE DUMP (.gsa) THAT YtfpmdbdgikphdaaProg.lean LOADS. Nothing in Lean hashes anything: it is a label: what it is worth is what the hold of that sum in a sandbox is worth. -/
noncomputable def Try.pinned : Pinned := { name := "ytfpmdbdgikphdaa", sum := "60790f38db4d5f18de70d03488cd246d4cac100949cecaf2e5e58f627cc39e32", checked := Try.checked }
namespace Rows
def none {H : Type} : Left H := { results := [], args := [] }

/-- 'belfrylaw17.MaskLeast': WHATEVER THE INPUT: true; the input reads as it did. -/
def maskLeastSpec : ChangeSpec := { name := "maskLeast", fn := fun _ => fun
  | [d1, d2, d3] => { results := [.lit (.bool true)], args := [d1, d2, d3] }
  | _ => none }
def maskLeastRow : OpenClaim := { program := "ytfpmdbdgikphdaa", sum := "60790f38db4d5f18de70d03488cd246d4cac100949cecaf2e5e58f627cc39e32", func := "belfry/belfrylaw17.MaskLeast", spec := "maskLeast", unfollowed := true, recurses := true, apart := false }
def MaskLeastSaid : Prop := maskLeastRow.holds Try.pinned (OpenSpec.ofChange maskLeastSpec)

/-- ITS FALSE NEIGHBOUR: 'it returns false'. Refute it at one input. -/
def maskLeastWrong : ChangeSpec := { name := "maskLeast", fn := fun _ => fun
  | [d1, d2, d3] => { results := [.lit (.bool false)], args := [d1, d2, d3] }
  | _ => none }
def MaskLeastWrongFalsely : Prop := maskLeastRow.holds Try.pinned (OpenSpec.ofChange maskLeastWrong)

/-- 'belfrylaw17.MaskBoth': WHATEVER THE INPUT: true; the input reads as it did. -/
def maskBothSpec : ChangeSpec := { name := "maskBoth", fn := fun _ => fun
  | [d1, d2, d3, d4] => { results := [.lit (.bool true)], args := [d1, d2, d3, d4] }
  | _ => none }
def maskBothRow : OpenClaim := { program := "ytfpmdbdgikphdaa", sum := "60790f38db4d5f18de70d03488cd246d4cac100949cecaf2e5e58f627cc39e32", func := "belfry/belfrylaw17.MaskBoth", spec := "maskBoth", unfollowed := true, recurses := true, apart := false }
def MaskBothSaid : Prop := maskBothRow.holds Try.pinned (OpenSpec.ofChange maskBothSpec)

/-- ITS FALSE NEIGHBOUR: 'it returns false'. Refute it at one input. -/
def maskBothWrong : ChangeSpec := { name := "maskBoth", fn := fun _ => fun
  | [d1, d2, d3, d4] => { results := [.lit (.bool false)], args := [d1, d2, d3, d4] }
  | _ => none }
def MaskBothWrongFalsely : Prop := maskBothRow.holds Try.pinned (OpenSpec.ofChange maskBothWrong)

/-- 'belfrylaw17.MaskPlays': WHATEVER THE INPUT: true; the input reads as it did. -/
def maskPlaysSpec : ChangeSpec := { name := "maskPlays", fn := fun _ => fun
  | [d1, d2, d3, d4] => { results := [.lit (.bool true)], args := [d1, d2, d3, d4] }
  | _ => none }
def maskPlaysRow : OpenClaim := { program := "ytfpmdbdgikphdaa", sum := "60790f38db4d5f18de70d03488cd246d4cac100949cecaf2e5e58f627cc39e32", func := "belfry/belfrylaw17.MaskPlays", spec := "maskPlays", unfollowed := true, recurses := true, apart := false }
def MaskPlaysSaid : Prop := maskPlaysRow.holds Try.pinned (OpenSpec.ofChange maskPlaysSpec)

/-- ITS FALSE NEIGHBOUR: 'it returns false'. Refute it at one input. -/
def maskPlaysWrong : ChangeSpec := { name := "maskPlays", fn := fun _ => fun
  | [d1, d2, d3, d4] => { results := [.lit (.bool false)], args := [d1, d2, d3, d4] }
  | _ => none }
def MaskPlaysWrongFalsely : Prop := maskPlaysRow.holds Try.pinned (OpenSpec.ofChange maskPlaysWrong)

/-- 'belfrylaw17.MaskSlopes': WHATEVER THE INPUT: true; the input reads as it did. -/
def maskSlopesSpec : ChangeSpec := { name := "maskSlopes", fn := fun _ => fun
  | [d] => { results := [.lit (.bool true)], args := [d] }
  | _ => none }
def maskSlopesRow : OpenClaim := { program := "ytfpmdbdgikphdaa", sum := "60790f38db4d5f18de70d03488cd246d4cac100949cecaf2e5e58f627cc39e32", func := "belfry/belfrylaw17.MaskSlopes", spec := "maskSlopes", unfollowed := true, recurses := true, apart := false }
def MaskSlopesSaid : Prop := maskSlopesRow.holds Try.pinned (OpenSpec.ofChange maskSlopesSpec)

/-- ITS FALSE NEIGHBOUR: 'it returns false'. Refute it at one input. -/
def maskSlopesWrong : ChangeSpec := { name := "maskSlopes", fn := fun _ => fun
  | [d] => { results := [.lit (.bool false)], args := [d] }
  | _ => none }
def MaskSlopesWrongFalsely : Prop := maskSlopesRow.holds Try.pinned (OpenSpec.ofChange maskSlopesWrong)

/- THE SECOND FORM. 'bulk': how many values and letters a reading holds, each counted each time it is reached (what is shared counts as often as it is met; a slice's spare places count too). A statement '..UptoSaid' is the law's where the arguments, and the package variables that the reading takes, are together of bulk at most 1048576: NARROWER than '..Said'. Prove '..Said' where nothing that the law and all that it calls make is longer than what came in: it says more and counts as full. Else prove '..UptoSaid'. A law counts once. -/
mutual
def uptoBulk {H : Type} : DataW H → Nat
  | .lit (.string bytes) => bytes.length + 1
  | .lit _ => 1
  | .nil => 1
  | .ptr d => uptoBulk d + 1
  | .slice elems spare => uptoBulkAll elems + uptoBulkAll spare + 1
  | .agg parts => uptoBulkAll parts + 1
  | .iface _ d => uptoBulk d + 1
  | .map entries => uptoBulkEntries entries + 1
  | .held _ => 1
def uptoBulkAll {H : Type} : List (DataW H) → Nat
  | [] => 0
  | d :: r => uptoBulk d + uptoBulkAll r
def uptoBulkEntries {H : Type} : List (Lit × DataW H) → Nat
  | [] => 0
  | x :: r => uptoBulkEntry x + uptoBulkEntries r
def uptoBulkEntry {H : Type} : Lit × DataW H → Nat
  | (.string bytes, d) => bytes.length + uptoBulk d + 1
  | (_, d) => uptoBulk d + 1
 end
def uptoSmall : (H : Type) → List (DataW H) → Bool := fun _ ds => decide (uptoBulkAll ds ≤ 1048576)
def OpenSpec.upto (s : _root_.Go.ChangeSpec) : _root_.Go.OpenSpec := { _root_.Go.OpenSpec.ofChange s with cond := some uptoSmall }

/-- 'belfrylaw17.MaskLeast', WHERE WHAT IT READS IS OF BULK AT MOST 1048576: true; the input reads as it did. -/
def maskLeastUptoRow : OpenClaim := { program := "ytfpmdbdgikphdaa", sum := "60790f38db4d5f18de70d03488cd246d4cac100949cecaf2e5e58f627cc39e32", func := "belfry/belfrylaw17.MaskLeast", spec := "maskLeast", unfollowed := true, recurses := true, apart := false, narrowed := true }
def MaskLeastUptoSaid : Prop := maskLeastUptoRow.holds Try.pinned (OpenSpec.upto maskLeastSpec)

/-- 'belfrylaw17.MaskBoth', WHERE WHAT IT READS IS OF BULK AT MOST 1048576: true; the input reads as it did. -/
def maskBothUptoRow : OpenClaim := { program := "ytfpmdbdgikphdaa", sum := "60790f38db4d5f18de70d03488cd246d4cac100949cecaf2e5e58f627cc39e32", func := "belfry/belfrylaw17.MaskBoth", spec := "maskBoth", unfollowed := true, recurses := true, apart := false, narrowed := true }
def MaskBothUptoSaid : Prop := maskBothUptoRow.holds Try.pinned (OpenSpec.upto maskBothSpec)

/-- 'belfrylaw17.MaskPlays', WHERE WHAT IT READS IS OF BULK AT MOST 1048576: true; the input reads as it did. -/
def maskPlaysUptoRow : OpenClaim := { program := "ytfpmdbdgikphdaa", sum := "60790f38db4d5f18de70d03488cd246d4cac100949cecaf2e5e58f627cc39e32", func := "belfry/belfrylaw17.MaskPlays", spec := "maskPlays", unfollowed := true, recurses := true, apart := false, narrowed := true }
def MaskPlaysUptoSaid : Prop := maskPlaysUptoRow.holds Try.pinned (OpenSpec.upto maskPlaysSpec)

/-- 'belfrylaw17.MaskSlopes', WHERE WHAT IT READS IS OF BULK AT MOST 1048576: true; the input reads as it did. -/
def maskSlopesUptoRow : OpenClaim := { program := "ytfpmdbdgikphdaa", sum := "60790f38db4d5f18de70d03488cd246d4cac100949cecaf2e5e58f627cc39e32", func := "belfry/belfrylaw17.MaskSlopes", spec := "maskSlopes", unfollowed := true, recurses := true, apart := false, narrowed := true }
def MaskSlopesUptoSaid : Prop := maskSlopesUptoRow.holds Try.pinned (OpenSpec.upto maskSlopesSpec)

end Rows
end Go.Proofs.Ytfpmdbdgikphdaa
