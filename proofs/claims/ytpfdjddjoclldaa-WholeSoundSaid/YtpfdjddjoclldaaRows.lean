/-
  No cell of these rows narrows 'for every input' (looked for: loops, veiled, ifaces, maps, wideKeys, modest, calm, conditions, laid).
  DERIVED. THE GIVEN ROWS OF THIS SEAT. 6 by the template 'for every input the law returns true; each argument reads behind the call as it read before'; 0 by the template 'total and deterministic' (their statements: YtpfdjddjoclldaaTotals.lean).
  GIVEN WITH THE SEED: the statements are not yours to turn. If you find one false, say at which input.
  Laid BY PROGRAM, IN A SANDBOX (cutbox-rows.mjs): the forced cells as the released guide's own fill.sh prints them over the translation bcb7eb22147d6a9c… (all of the seat's roots in one cut). By AI agents, Wed Nov 11 2026. No macro, syntax, notation, axiom, sorry.
-/
import Derived.Test.YtpfdjddjoclldaaChecked
import GoSem.Claim
import GoSem.ClaimJoined
import GoSem.ClaimMapViews
import Derived.JoinedTies
import Derived.KernelRfl
namespace Go.Proofs.Ytpfdjddjoclldaa
/- THE CELL 'sum', in the pinned program and in every row, IS THE sha256 OF THE DUMP (.gsa) THAT YtpfdjddjoclldaaProg.lean LOADS. Nothing in Lean hashes anything: it is a label: what it is worth is what the hold of that sum in a sandbox is worth. -/
noncomputable def Try.pinned : Pinned := { name := "ytpfdjddjoclldaa", sum := "bcb7eb22147d6a9c1edd77000383cbfb6bb967f58815cbbc1a9b4920a2ef07f9", checked := Try.checked }
namespace Rows
def none {H : Type} : Left H := { results := [], args := [] }

/-- 'belfrylaw12.MidBack': WHATEVER THE INPUT: true; the input reads as it did. -/
def midBackSpec : ChangeSpec := { name := "midBack", fn := fun _ => fun
  | [d1, d2] => { results := [.lit (.bool true)], args := [d1, d2] }
  | _ => none }
def midBackRow : OpenClaim := { program := "ytpfdjddjoclldaa", sum := "bcb7eb22147d6a9c1edd77000383cbfb6bb967f58815cbbc1a9b4920a2ef07f9", func := "belfry/belfrylaw12.MidBack", spec := "midBack", apart := false }
def MidBackSaid : Prop := midBackRow.holds Try.pinned (OpenSpec.ofChange midBackSpec)

/-- ITS FALSE NEIGHBOUR: 'it returns false'. Refute it at one input. -/
def midBackWrong : ChangeSpec := { name := "midBack", fn := fun _ => fun
  | [d1, d2] => { results := [.lit (.bool false)], args := [d1, d2] }
  | _ => none }
def MidBackWrongFalsely : Prop := midBackRow.holds Try.pinned (OpenSpec.ofChange midBackWrong)

/-- 'belfrylaw12.MidBetween': WHATEVER THE INPUT: true; the input reads as it did. -/
def midBetweenSpec : ChangeSpec := { name := "midBetween", fn := fun _ => fun
  | [d1, d2] => { results := [.lit (.bool true)], args := [d1, d2] }
  | _ => none }
def midBetweenRow : OpenClaim := { program := "ytpfdjddjoclldaa", sum := "bcb7eb22147d6a9c1edd77000383cbfb6bb967f58815cbbc1a9b4920a2ef07f9", func := "belfry/belfrylaw12.MidBetween", spec := "midBetween", apart := false }
def MidBetweenSaid : Prop := midBetweenRow.holds Try.pinned (OpenSpec.ofChange midBetweenSpec)

/-- ITS FALSE NEIGHBOUR: 'it returns false'. Refute it at one input. -/
def midBetweenWrong : ChangeSpec := { name := "midBetween", fn := fun _ => fun
  | [d1, d2] => { results := [.lit (.bool false)], args := [d1, d2] }
  | _ => none }
def MidBetweenWrongFalsely : Prop := midBetweenRow.holds Try.pinned (OpenSpec.ofChange midBetweenWrong)

/-- 'belfrylaw12.MidJoins': WHATEVER THE INPUT: true; the input reads as it did. -/
def midJoinsSpec : ChangeSpec := { name := "midJoins", fn := fun _ => fun
  | [d1, d2] => { results := [.lit (.bool true)], args := [d1, d2] }
  | _ => none }
def midJoinsRow : OpenClaim := { program := "ytpfdjddjoclldaa", sum := "bcb7eb22147d6a9c1edd77000383cbfb6bb967f58815cbbc1a9b4920a2ef07f9", func := "belfry/belfrylaw12.MidJoins", spec := "midJoins", unfollowed := true, recurses := true, apart := false }
def MidJoinsSaid : Prop := midJoinsRow.holds Try.pinned (OpenSpec.ofChange midJoinsSpec)

/-- ITS FALSE NEIGHBOUR: 'it returns false'. Refute it at one input. -/
def midJoinsWrong : ChangeSpec := { name := "midJoins", fn := fun _ => fun
  | [d1, d2] => { results := [.lit (.bool false)], args := [d1, d2] }
  | _ => none }
def MidJoinsWrongFalsely : Prop := midJoinsRow.holds Try.pinned (OpenSpec.ofChange midJoinsWrong)

/-- 'belfrylaw12.MidPlays': WHATEVER THE INPUT: true; the input reads as it did. -/
def midPlaysSpec : ChangeSpec := { name := "midPlays", fn := fun _ => fun
  | [d1, d2, d3] => { results := [.lit (.bool true)], args := [d1, d2, d3] }
  | _ => none }
def midPlaysRow : OpenClaim := { program := "ytpfdjddjoclldaa", sum := "bcb7eb22147d6a9c1edd77000383cbfb6bb967f58815cbbc1a9b4920a2ef07f9", func := "belfry/belfrylaw12.MidPlays", spec := "midPlays", unfollowed := true, recurses := true, apart := false }
def MidPlaysSaid : Prop := midPlaysRow.holds Try.pinned (OpenSpec.ofChange midPlaysSpec)

/-- ITS FALSE NEIGHBOUR: 'it returns false'. Refute it at one input. -/
def midPlaysWrong : ChangeSpec := { name := "midPlays", fn := fun _ => fun
  | [d1, d2, d3] => { results := [.lit (.bool false)], args := [d1, d2, d3] }
  | _ => none }
def MidPlaysWrongFalsely : Prop := midPlaysRow.holds Try.pinned (OpenSpec.ofChange midPlaysWrong)

/-- 'belfrylaw12.MidUnlike': WHATEVER THE INPUT: true; the input reads as it did. -/
def midUnlikeSpec : ChangeSpec := { name := "midUnlike", fn := fun _ => fun
  | [d1, d2, d3, d4] => { results := [.lit (.bool true)], args := [d1, d2, d3, d4] }
  | _ => none }
def midUnlikeRow : OpenClaim := { program := "ytpfdjddjoclldaa", sum := "bcb7eb22147d6a9c1edd77000383cbfb6bb967f58815cbbc1a9b4920a2ef07f9", func := "belfry/belfrylaw12.MidUnlike", spec := "midUnlike", apart := false }
def MidUnlikeSaid : Prop := midUnlikeRow.holds Try.pinned (OpenSpec.ofChange midUnlikeSpec)

/-- ITS FALSE NEIGHBOUR: 'it returns false'. Refute it at one input. -/
def midUnlikeWrong : ChangeSpec := { name := "midUnlike", fn := fun _ => fun
  | [d1, d2, d3, d4] => { results := [.lit (.bool false)], args := [d1, d2, d3, d4] }
  | _ => none }
def MidUnlikeWrongFalsely : Prop := midUnlikeRow.holds Try.pinned (OpenSpec.ofChange midUnlikeWrong)

/-- 'belfrytop.WholeSound': WHATEVER THE INPUT: true; the input reads as it did. -/
def wholeSoundSpec : ChangeSpec := { name := "wholeSound", fn := fun _ => fun
  | [d] => { results := [.lit (.bool true)], args := [d] }
  | _ => none }
def wholeSoundRow : OpenClaim := { program := "ytpfdjddjoclldaa", sum := "bcb7eb22147d6a9c1edd77000383cbfb6bb967f58815cbbc1a9b4920a2ef07f9", func := "belfry/belfrytop.WholeSound", spec := "wholeSound", unfollowed := true, recurses := true, apart := false }
def WholeSoundSaid : Prop := wholeSoundRow.holds Try.pinned (OpenSpec.ofChange wholeSoundSpec)

/-- ITS FALSE NEIGHBOUR: 'it returns false'. Refute it at one input. -/
def wholeSoundWrong : ChangeSpec := { name := "wholeSound", fn := fun _ => fun
  | [d] => { results := [.lit (.bool false)], args := [d] }
  | _ => none }
def WholeSoundWrongFalsely : Prop := wholeSoundRow.holds Try.pinned (OpenSpec.ofChange wholeSoundWrong)

/- THE SECOND FORM. 'bulk': how many values and letters a reading holds, each counted each time it is reached (what is shared counts as often as it is met; a slice's spare places count too). A statement '..UptoSaid' is the law's where the arguments, and the package variables that the reading takes, are together of bulk at most 1048576: NARROWER than '..Said'. Prove '..Said' where nothing that the law and all that it calls make is longer than what came in: it says more and counts as full. Else prove '..UptoSaid'. A law counts once. -/
mutual
def uptoBulk {H : Type} : DataW H → Nat
  | .lit (.string bytes) => bytes.length + 1
  | .lit _ => 1
  | .nil => 1
  | .ptr d => uptoBulk d + 1
  | .slice elems spare => uptoBulkAll elems + uptoBulkAll spare + 1
  | .agg parts => uptoBulkAll parts + 1
  | .iface _ d => uptoBulk d + 1
  | .map entries => uptoBulkEntries entries + 1
  | .held _ => 1
def uptoBulkAll {H : Type} : List (DataW H) → Nat
  | [] => 0
  | d :: r => uptoBulk d + uptoBulkAll r
def uptoBulkEntries {H : Type} : List (Lit × DataW H) → Nat
  | [] => 0
  | x :: r => uptoBulkEntry x + uptoBulkEntries r
def uptoBulkEntry {H : Type} : Lit × DataW H → Nat
  | (.string bytes, d) => bytes.length + uptoBulk d + 1
  | (_, d) => uptoBulk d + 1
 end
def uptoSmall : (H : Type) → List (DataW H) → Bool := fun _ ds => decide (uptoBulkAll ds ≤ 1048576)
def OpenSpec.upto (s : _root_.Go.ChangeSpec) : _root_.Go.OpenSpec := { _root_.Go.OpenSpec.ofChange s with cond := some uptoSmall }

/-- 'belfrylaw12.MidBack', WHERE WHAT IT READS IS OF BULK AT MOST 1048576: true; the input reads as it did. -/
def midBackUptoRow : OpenClaim := { program := "ytpfdjddjoclldaa", sum := "bcb7eb22147d6a9c1edd77000383cbfb6bb967f58815cbbc1a9b4920a2ef07f9", func := "belfry/belfrylaw12.MidBack", spec := "midBack", apart := false, narrowed := true }
def MidBackUptoSaid : Prop := midBackUptoRow.holds Try.pinned (OpenSpec.upto midBackSpec)

/-- 'belfrylaw12.MidBetween', WHERE WHAT IT READS IS OF BULK AT MOST 1048576: true; the input reads as it did. -/
def midBetweenUptoRow : OpenClaim := { program := "ytpfdjddjoclldaa", sum := "bcb7eb22147d6a9c1edd77000383cbfb6bb967f58815cbbc1a9b4920a2ef07f9", func := "belfry/belfrylaw12.MidBetween", spec := "midBetween", apart := false, narrowed := true }
def MidBetweenUptoSaid : Prop := midBetweenUptoRow.holds Try.pinned (OpenSpec.upto midBetweenSpec)

/-- 'belfrylaw12.MidJoins', WHERE WHAT IT READS IS OF BULK AT MOST 1048576: true; the input reads as it did. -/
def midJoinsUptoRow : OpenClaim := { program := "ytpfdjddjoclldaa", sum := "bcb7eb22147d6a9c1edd77000383cbfb6bb967f58815cbbc1a9b4920a2ef07f9", func := "belfry/belfrylaw12.MidJoins", spec := "midJoins", unfollowed := true, recurses := true, apart := false, narrowed := true }
def MidJoinsUptoSaid : Prop := midJoinsUptoRow.holds Try.pinned (OpenSpec.upto midJoinsSpec)

/-- 'belfrylaw12.MidPlays', WHERE WHAT IT READS IS OF BULK AT MOST 1048576: true; the input reads as it did. -/
def midPlaysUptoRow : OpenClaim := { program := "ytpfdjddjoclldaa", sum := "bcb7eb22147d6a9c1edd77000383cbfb6bb967f58815cbbc1a9b4920a2ef07f9", func := "belfry/belfrylaw12.MidPlays", spec := "midPlays", unfollowed := true, recurses := true, apart := false, narrowed := true }
def MidPlaysUptoSaid : Prop := midPlaysUptoRow.holds Try.pinned (OpenSpec.upto midPlaysSpec)

/-- 'belfrylaw12.MidUnlike', WHERE WHAT IT READS IS OF BULK AT MOST 1048576: true; the input reads as it did. -/
def midUnlikeUptoRow : OpenClaim := { program := "ytpfdjddjoclldaa", sum := "bcb7eb22147d6a9c1edd77000383cbfb6bb967f58815cbbc1a9b4920a2ef07f9", func := "belfry/belfrylaw12.MidUnlike", spec := "midUnlike", apart := false, narrowed := true }
def MidUnlikeUptoSaid : Prop := midUnlikeUptoRow.holds Try.pinned (OpenSpec.upto midUnlikeSpec)

/-- 'belfrytop.WholeSound', WHERE WHAT IT READS IS OF BULK AT MOST 1048576: true; the input reads as it did. -/
def wholeSoundUptoRow : OpenClaim := { program := "ytpfdjddjoclldaa", sum := "bcb7eb22147d6a9c1edd77000383cbfb6bb967f58815cbbc1a9b4920a2ef07f9", func := "belfry/belfrytop.WholeSound", spec := "wholeSound", unfollowed := true, recurses := true, apart := false, narrowed := true }
def WholeSoundUptoSaid : Prop := wholeSoundUptoRow.holds Try.pinned (OpenSpec.upto wholeSoundSpec)

end Rows
end Go.Proofs.Ytpfdjddjoclldaa
