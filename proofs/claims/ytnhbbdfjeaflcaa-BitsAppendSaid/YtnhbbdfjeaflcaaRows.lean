/-
  No cell of these rows narrows 'for every input' (looked for: loops, veiled, ifaces, maps, wideKeys, modest, calm, conditions, laid).
  DERIVED. THE GIVEN ROWS OF THIS SEAT. 7 by the template 'for every input the law returns true; each argument reads behind the call as it read before'; 0 by the template 'total and deterministic' (their statements: YtnhbbdfjeaflcaaTotals.lean).
  GIVEN WITH THE SEED: the statements are not yours to turn. If you find one false, say at which input.
  Laid BY PROGRAM, IN A SANDBOX (cutbox-rows.mjs): the forced cells as the released guide's own fill.sh prints them over the translation 10729419e3274852… (all of the seat's roots in one cut). By AI agents, Wed Nov 11 2026. No macro, syntax, notation, axiom, sorry.
-/
import Derived.Test.YtnhbbdfjeaflcaaChecked
import GoSem.Claim
import GoSem.ClaimJoined
import GoSem.ClaimMapViews
import Derived.JoinedTies
import Derived.KernelRfl
namespace Go.Proofs.Ytnhbbdfjeaflcaa
/- THE CELL 'sum', in the pinned program and in every row, IS THE sha256 OF THE DUMP (.gsa) THAT YtnhbbdfjeaflcaaProg.lean LOADS. Nothing in Lean hashes anything: it is a label: what it is worth is what the hold of that sum in a sandbox is worth. -/
noncomputable def Try.pinned : Pinned := { name := "ytnhbbdfjeaflcaa", sum := "10729419e32748529c76c8b2a61a8036fd81f0f08fda9286aec0d09252061bd0", checked := Try.checked }
namespace Rows
def none {H : Type} : Left H := { results := [], args := [] }

/-- 'belfrylaw03.BitsBack': WHATEVER THE INPUT: true; the input reads as it did. -/
def bitsBackSpec : ChangeSpec := { name := "bitsBack", fn := fun _ => fun
  | [d] => { results := [.lit (.bool true)], args := [d] }
  | _ => none }
def bitsBackRow : OpenClaim := { program := "ytnhbbdfjeaflcaa", sum := "10729419e32748529c76c8b2a61a8036fd81f0f08fda9286aec0d09252061bd0", func := "belfry/belfrylaw03.BitsBack", spec := "bitsBack", unfollowed := true, recurses := true, apart := false }
def BitsBackSaid : Prop := bitsBackRow.holds Try.pinned (OpenSpec.ofChange bitsBackSpec)

/-- ITS FALSE NEIGHBOUR: 'it returns false'. Refute it at one input. -/
def bitsBackWrong : ChangeSpec := { name := "bitsBack", fn := fun _ => fun
  | [d] => { results := [.lit (.bool false)], args := [d] }
  | _ => none }
def BitsBackWrongFalsely : Prop := bitsBackRow.holds Try.pinned (OpenSpec.ofChange bitsBackWrong)

/-- 'belfrylaw03.BitsParts': WHATEVER THE INPUT: true; the input reads as it did. -/
def bitsPartsSpec : ChangeSpec := { name := "bitsParts", fn := fun _ => fun
  | [d1, d2, d3] => { results := [.lit (.bool true)], args := [d1, d2, d3] }
  | _ => none }
def bitsPartsRow : OpenClaim := { program := "ytnhbbdfjeaflcaa", sum := "10729419e32748529c76c8b2a61a8036fd81f0f08fda9286aec0d09252061bd0", func := "belfry/belfrylaw03.BitsParts", spec := "bitsParts", unfollowed := true, recurses := true, apart := false }
def BitsPartsSaid : Prop := bitsPartsRow.holds Try.pinned (OpenSpec.ofChange bitsPartsSpec)

/-- ITS FALSE NEIGHBOUR: 'it returns false'. Refute it at one input. -/
def bitsPartsWrong : ChangeSpec := { name := "bitsParts", fn := fun _ => fun
  | [d1, d2, d3] => { results := [.lit (.bool false)], args := [d1, d2, d3] }
  | _ => none }
def BitsPartsWrongFalsely : Prop := bitsPartsRow.holds Try.pinned (OpenSpec.ofChange bitsPartsWrong)

/-- 'belfrylaw03.BitsLays': WHATEVER THE INPUT: true; the input reads as it did. -/
def bitsLaysSpec : ChangeSpec := { name := "bitsLays", fn := fun _ => fun
  | [d] => { results := [.lit (.bool true)], args := [d] }
  | _ => none }
def bitsLaysRow : OpenClaim := { program := "ytnhbbdfjeaflcaa", sum := "10729419e32748529c76c8b2a61a8036fd81f0f08fda9286aec0d09252061bd0", func := "belfry/belfrylaw03.BitsLays", spec := "bitsLays", unfollowed := true, recurses := true, apart := false }
def BitsLaysSaid : Prop := bitsLaysRow.holds Try.pinned (OpenSpec.ofChange bitsLaysSpec)

/-- ITS FALSE NEIGHBOUR: 'it returns false'. Refute it at one input. -/
def bitsLaysWrong : ChangeSpec := { name := "bitsLays", fn := fun _ => fun
  | [d] => { results := [.lit (.bool false)], args := [d] }
  | _ => none }
def BitsLaysWrongFalsely : Prop := bitsLaysRow.holds Try.pinned (OpenSpec.ofChange bitsLaysWrong)

/-- 'belfrylaw03.BitsReads': WHATEVER THE INPUT: true; the input reads as it did. -/
def bitsReadsSpec : ChangeSpec := { name := "bitsReads", fn := fun _ => fun
  | [d1, d2] => { results := [.lit (.bool true)], args := [d1, d2] }
  | _ => none }
def bitsReadsRow : OpenClaim := { program := "ytnhbbdfjeaflcaa", sum := "10729419e32748529c76c8b2a61a8036fd81f0f08fda9286aec0d09252061bd0", func := "belfry/belfrylaw03.BitsReads", spec := "bitsReads", unfollowed := true, recurses := true, apart := false }
def BitsReadsSaid : Prop := bitsReadsRow.holds Try.pinned (OpenSpec.ofChange bitsReadsSpec)

/-- ITS FALSE NEIGHBOUR: 'it returns false'. Refute it at one input. -/
def bitsReadsWrong : ChangeSpec := { name := "bitsReads", fn := fun _ => fun
  | [d1, d2] => { results := [.lit (.bool false)], args := [d1, d2] }
  | _ => none }
def BitsReadsWrongFalsely : Prop := bitsReadsRow.holds Try.pinned (OpenSpec.ofChange bitsReadsWrong)

/-- 'belfrylaw03.BitsNil': WHATEVER THE INPUT: true; the input reads as it did. -/
def bitsNilSpec : ChangeSpec := { name := "bitsNil", fn := fun _ => fun
  | [d] => { results := [.lit (.bool true)], args := [d] }
  | _ => none }
def bitsNilRow : OpenClaim := { program := "ytnhbbdfjeaflcaa", sum := "10729419e32748529c76c8b2a61a8036fd81f0f08fda9286aec0d09252061bd0", func := "belfry/belfrylaw03.BitsNil", spec := "bitsNil", unfollowed := true, recurses := true, apart := false }
def BitsNilSaid : Prop := bitsNilRow.holds Try.pinned (OpenSpec.ofChange bitsNilSpec)

/-- ITS FALSE NEIGHBOUR: 'it returns false'. Refute it at one input. -/
def bitsNilWrong : ChangeSpec := { name := "bitsNil", fn := fun _ => fun
  | [d] => { results := [.lit (.bool false)], args := [d] }
  | _ => none }
def BitsNilWrongFalsely : Prop := bitsNilRow.holds Try.pinned (OpenSpec.ofChange bitsNilWrong)

/-- 'belfrylaw03.BitsZeros': WHATEVER THE INPUT: true; the input reads as it did. -/
def bitsZerosSpec : ChangeSpec := { name := "bitsZeros", fn := fun _ => fun
  | [d1, d2] => { results := [.lit (.bool true)], args := [d1, d2] }
  | _ => none }
def bitsZerosRow : OpenClaim := { program := "ytnhbbdfjeaflcaa", sum := "10729419e32748529c76c8b2a61a8036fd81f0f08fda9286aec0d09252061bd0", func := "belfry/belfrylaw03.BitsZeros", spec := "bitsZeros", unfollowed := true, recurses := true, apart := false }
def BitsZerosSaid : Prop := bitsZerosRow.holds Try.pinned (OpenSpec.ofChange bitsZerosSpec)

/-- ITS FALSE NEIGHBOUR: 'it returns false'. Refute it at one input. -/
def bitsZerosWrong : ChangeSpec := { name := "bitsZeros", fn := fun _ => fun
  | [d1, d2] => { results := [.lit (.bool false)], args := [d1, d2] }
  | _ => none }
def BitsZerosWrongFalsely : Prop := bitsZerosRow.holds Try.pinned (OpenSpec.ofChange bitsZerosWrong)

/-- 'belfrylaw03.BitsAppend': WHATEVER THE INPUT: true; the input reads as it did. -/
def bitsAppendSpec : ChangeSpec := { name := "bitsAppend", fn := fun _ => fun
  | [d1, d2] => { results := [.lit (.bool true)], args := [d1, d2] }
  | _ => none }
def bitsAppendRow : OpenClaim := { program := "ytnhbbdfjeaflcaa", sum := "10729419e32748529c76c8b2a61a8036fd81f0f08fda9286aec0d09252061bd0", func := "belfry/belfrylaw03.BitsAppend", spec := "bitsAppend", unfollowed := true, recurses := true, apart := false }
def BitsAppendSaid : Prop := bitsAppendRow.holds Try.pinned (OpenSpec.ofChange bitsAppendSpec)

/-- ITS FALSE NEIGHBOUR: 'it returns false'. Refute it at one input. -/
def bitsAppendWrong : ChangeSpec := { name := "bitsAppend", fn := fun _ => fun
  | [d1, d2] => { results := [.lit (.bool false)], args := [d1, d2] }
  | _ => none }
def BitsAppendWrongFalsely : Prop := bitsAppendRow.holds Try.pinned (OpenSpec.ofChange bitsAppendWrong)

/- THE SECOND FORM. 'bulk': how many values and letters a reading holds, each counted each time it is reached (what is shared counts as often as it is met; a slice's spare places count too). A statement '..UptoSaid' is the law's where the arguments, and the package variables that the reading takes, are together of bulk at most 1048576: NARROWER than '..Said'. Prove '..Said' where nothing that the law and all that it calls make is longer than what came in: it says more and counts as full. Else prove '..UptoSaid'. A law counts once. -/
mutual
def uptoBulk {H : Type} : DataW H → Nat
  | .lit (.string bytes) => bytes.length + 1
  | .lit _ => 1
  | .nil => 1
  | .ptr d => uptoBulk d + 1
  | .slice elems spare => uptoBulkAll elems + uptoBulkAll spare + 1
  | .agg parts => uptoBulkAll parts + 1
  | .iface _ d => uptoBulk d + 1
  | .map entries => uptoBulkEntries entries + 1
  | .held _ => 1
def uptoBulkAll {H : Type} : List (DataW H) → Nat
  | [] => 0
  | d :: r => uptoBulk d + uptoBulkAll r
def uptoBulkEntries {H : Type} : List (Lit × DataW H) → Nat
  | [] => 0
  | x :: r => uptoBulkEntry x + uptoBulkEntries r
def uptoBulkEntry {H : Type} : Lit × DataW H → Nat
  | (.string bytes, d) => bytes.length + uptoBulk d + 1
  | (_, d) => uptoBulk d + 1
 end
def uptoSmall : (H : Type) → List (DataW H) → Bool := fun _ ds => decide (uptoBulkAll ds ≤ 1048576)
def OpenSpec.upto (s : _root_.Go.ChangeSpec) : _root_.Go.OpenSpec := { _root_.Go.OpenSpec.ofChange s with cond := some uptoSmall }

/-- 'belfrylaw03.BitsBack', WHERE WHAT IT READS IS OF BULK AT MOST 1048576: true; the input reads as it did. -/
def bitsBackUptoRow : OpenClaim := { program := "ytnhbbdfjeaflcaa", sum := "10729419e32748529c76c8b2a61a8036fd81f0f08fda9286aec0d09252061bd0", func := "belfry/belfrylaw03.BitsBack", spec := "bitsBack", unfollowed := true, recurses := true, apart := false, narrowed := true }
def BitsBackUptoSaid : Prop := bitsBackUptoRow.holds Try.pinned (OpenSpec.upto bitsBackSpec)

/-- 'belfrylaw03.BitsParts', WHERE WHAT IT READS IS OF BULK AT MOST 1048576: true; the input reads as it did. -/
def bitsPartsUptoRow : OpenClaim := { program := "ytnhbbdfjeaflcaa", sum := "10729419e32748529c76c8b2a61a8036fd81f0f08fda9286aec0d09252061bd0", func := "belfry/belfrylaw03.BitsParts", spec := "bitsParts", unfollowed := true, recurses := true, apart := false, narrowed := true }
def BitsPartsUptoSaid : Prop := bitsPartsUptoRow.holds Try.pinned (OpenSpec.upto bitsPartsSpec)

/-- 'belfrylaw03.BitsLays', WHERE WHAT IT READS IS OF BULK AT MOST 1048576: true; the input reads as it did. -/
def bitsLaysUptoRow : OpenClaim := { program := "ytnhbbdfjeaflcaa", sum := "10729419e32748529c76c8b2a61a8036fd81f0f08fda9286aec0d09252061bd0", func := "belfry/belfrylaw03.BitsLays", spec := "bitsLays", unfollowed := true, recurses := true, apart := false, narrowed := true }
def BitsLaysUptoSaid : Prop := bitsLaysUptoRow.holds Try.pinned (OpenSpec.upto bitsLaysSpec)

/-- 'belfrylaw03.BitsReads', WHERE WHAT IT READS IS OF BULK AT MOST 1048576: true; the input reads as it did. -/
def bitsReadsUptoRow : OpenClaim := { program := "ytnhbbdfjeaflcaa", sum := "10729419e32748529c76c8b2a61a8036fd81f0f08fda9286aec0d09252061bd0", func := "belfry/belfrylaw03.BitsReads", spec := "bitsReads", unfollowed := true, recurses := true, apart := false, narrowed := true }
def BitsReadsUptoSaid : Prop := bitsReadsUptoRow.holds Try.pinned (OpenSpec.upto bitsReadsSpec)

/-- 'belfrylaw03.BitsNil', WHERE WHAT IT READS IS OF BULK AT MOST 1048576: true; the input reads as it did. -/
def bitsNilUptoRow : OpenClaim := { program := "ytnhbbdfjeaflcaa", sum := "10729419e32748529c76c8b2a61a8036fd81f0f08fda9286aec0d09252061bd0", func := "belfry/belfrylaw03.BitsNil", spec := "bitsNil", unfollowed := true, recurses := true, apart := false, narrowed := true }
def BitsNilUptoSaid : Prop := bitsNilUptoRow.holds Try.pinned (OpenSpec.upto bitsNilSpec)

/-- 'belfrylaw03.BitsZeros', WHERE WHAT IT READS IS OF BULK AT MOST 1048576: true; the input reads as it did. -/
def bitsZerosUptoRow : OpenClaim := { program := "ytnhbbdfjeaflcaa", sum := "10729419e32748529c76c8b2a61a8036fd81f0f08fda9286aec0d09252061bd0", func := "belfry/belfrylaw03.BitsZeros", spec := "bitsZeros", unfollowed := true, recurses := true, apart := false, narrowed := true }
def BitsZerosUptoSaid : Prop := bitsZerosUptoRow.holds Try.pinned (OpenSpec.upto bitsZerosSpec)

/-- 'belfrylaw03.BitsAppend', WHERE WHAT IT READS IS OF BULK AT MOST 1048576: true; the input reads as it did. -/
def bitsAppendUptoRow : OpenClaim := { program := "ytnhbbdfjeaflcaa", sum := "10729419e32748529c76c8b2a61a8036fd81f0f08fda9286aec0d09252061bd0", func := "belfry/belfrylaw03.BitsAppend", spec := "bitsAppend", unfollowed := true, recurses := true, apart := false, narrowed := true }
def BitsAppendUptoSaid : Prop := bitsAppendUptoRow.holds Try.pinned (OpenSpec.upto bitsAppendSpec)

end Rows
end Go.Proofs.Ytnhbbdfjeaflcaa
