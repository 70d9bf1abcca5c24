/-
  No cell of these rows narrows 'for every input' (looked for: loops, veiled, ifaces, maps, wideKeys, modest, calm, conditions, laid).
  DERIVED. THE GIVEN ROWS OF THIS SEAT. 6 by the template 'for every input the law returns true; each argument reads behind the call as it read before'; 0 by the template 'total and deterministic' (their statements: YtjdiecpbjajkiaaTotals.lean).
  GIVEN WITH THE SEED: the statements are not yours to turn. If you find one false, say at which input.
  Laid BY PROGRAM, IN A SANDBOX (cutbox-rows.mjs): the forced cells as the released guide's own fill.sh prints them over the translation 5ee7f67c031a0014… (all of the seat's roots in one cut). By AI agents, Wed Nov 11 2026. No macro, syntax, notation, axiom, sorry.
-/
import Derived.Test.YtjdiecpbjajkiaaChecked
import GoSem.Claim
import GoSem.ClaimJoined
import GoSem.ClaimMapViews
import Derived.JoinedTies
import Derived.KernelRfl
namespace Go.Proofs.Ytjdiecpbjajkiaa
/- THE CELL 'sum', in the pinned program and in every row, IS THE sha256 OF THE DUMP (.gsa) THAT YtjdiecpbjajkiaaProg.lean LOADS. Nothing in Lean hashes anything: it is a label: what it is worth is what the hold of that sum in a sandbox is worth. -/
noncomputable def Try.pinned : Pinned := { name := "ytjdiecpbjajkiaa", sum := "5ee7f67c031a0014641da029ac43de948f8348712b75ea4c18d3dd46230a8369", checked := Try.checked }
namespace Rows
def none {H : Type} : Left H := { results := [], args := [] }

/-- 'belfrylaw13.PvqBack': WHATEVER THE INPUT: true; the input reads as it did. -/
def pvqBackSpec : ChangeSpec := { name := "pvqBack", fn := fun _ => fun
  | [d1, d2, d3, d4] => { results := [.lit (.bool true)], args := [d1, d2, d3, d4] }
  | _ => none }
def pvqBackRow : OpenClaim := { program := "ytjdiecpbjajkiaa", sum := "5ee7f67c031a0014641da029ac43de948f8348712b75ea4c18d3dd46230a8369", func := "belfry/belfrylaw13.PvqBack", spec := "pvqBack", unfollowed := true, recurses := true, apart := false }
def PvqBackSaid : Prop := pvqBackRow.holds Try.pinned (OpenSpec.ofChange pvqBackSpec)

/-- ITS FALSE NEIGHBOUR: 'it returns false'. Refute it at one input. -/
def pvqBackWrong : ChangeSpec := { name := "pvqBack", fn := fun _ => fun
  | [d1, d2, d3, d4] => { results := [.lit (.bool false)], args := [d1, d2, d3, d4] }
  | _ => none }
def PvqBackWrongFalsely : Prop := pvqBackRow.holds Try.pinned (OpenSpec.ofChange pvqBackWrong)

/-- 'belfrylaw13.PvqOrder': WHATEVER THE INPUT: true; the input reads as it did. -/
def pvqOrderSpec : ChangeSpec := { name := "pvqOrder", fn := fun _ => fun
  | [d1, d2, d3, d4] => { results := [.lit (.bool true)], args := [d1, d2, d3, d4] }
  | _ => none }
def pvqOrderRow : OpenClaim := { program := "ytjdiecpbjajkiaa", sum := "5ee7f67c031a0014641da029ac43de948f8348712b75ea4c18d3dd46230a8369", func := "belfry/belfrylaw13.PvqOrder", spec := "pvqOrder", unfollowed := true, recurses := true, apart := false }
def PvqOrderSaid : Prop := pvqOrderRow.holds Try.pinned (OpenSpec.ofChange pvqOrderSpec)

/-- ITS FALSE NEIGHBOUR: 'it returns false'. Refute it at one input. -/
def pvqOrderWrong : ChangeSpec := { name := "pvqOrder", fn := fun _ => fun
  | [d1, d2, d3, d4] => { results := [.lit (.bool false)], args := [d1, d2, d3, d4] }
  | _ => none }
def PvqOrderWrongFalsely : Prop := pvqOrderRow.holds Try.pinned (OpenSpec.ofChange pvqOrderWrong)

/-- 'belfrylaw13.PvqAll': WHATEVER THE INPUT: true; the input reads as it did. -/
def pvqAllSpec : ChangeSpec := { name := "pvqAll", fn := fun _ => fun
  | [d1, d2] => { results := [.lit (.bool true)], args := [d1, d2] }
  | _ => none }
def pvqAllRow : OpenClaim := { program := "ytjdiecpbjajkiaa", sum := "5ee7f67c031a0014641da029ac43de948f8348712b75ea4c18d3dd46230a8369", func := "belfry/belfrylaw13.PvqAll", spec := "pvqAll", unfollowed := true, recurses := true, apart := false }
def PvqAllSaid : Prop := pvqAllRow.holds Try.pinned (OpenSpec.ofChange pvqAllSpec)

/-- ITS FALSE NEIGHBOUR: 'it returns false'. Refute it at one input. -/
def pvqAllWrong : ChangeSpec := { name := "pvqAll", fn := fun _ => fun
  | [d1, d2] => { results := [.lit (.bool false)], args := [d1, d2] }
  | _ => none }
def PvqAllWrongFalsely : Prop := pvqAllRow.holds Try.pinned (OpenSpec.ofChange pvqAllWrong)

/-- 'belfrylaw13.PvqPlays': WHATEVER THE INPUT: true; the input reads as it did. -/
def pvqPlaysSpec : ChangeSpec := { name := "pvqPlays", fn := fun _ => fun
  | [d1, d2, d3, d4] => { results := [.lit (.bool true)], args := [d1, d2, d3, d4] }
  | _ => none }
def pvqPlaysRow : OpenClaim := { program := "ytjdiecpbjajkiaa", sum := "5ee7f67c031a0014641da029ac43de948f8348712b75ea4c18d3dd46230a8369", func := "belfry/belfrylaw13.PvqPlays", spec := "pvqPlays", unfollowed := true, recurses := true, apart := false }
def PvqPlaysSaid : Prop := pvqPlaysRow.holds Try.pinned (OpenSpec.ofChange pvqPlaysSpec)

/-- ITS FALSE NEIGHBOUR: 'it returns false'. Refute it at one input. -/
def pvqPlaysWrong : ChangeSpec := { name := "pvqPlays", fn := fun _ => fun
  | [d1, d2, d3, d4] => { results := [.lit (.bool false)], args := [d1, d2, d3, d4] }
  | _ => none }
def PvqPlaysWrongFalsely : Prop := pvqPlaysRow.holds Try.pinned (OpenSpec.ofChange pvqPlaysWrong)

/-- 'belfrylaw13.PvqCounts': WHATEVER THE INPUT: true; the input reads as it did. -/
def pvqCountsSpec : ChangeSpec := { name := "pvqCounts", fn := fun _ => fun
  | [d1, d2] => { results := [.lit (.bool true)], args := [d1, d2] }
  | _ => none }
def pvqCountsRow : OpenClaim := { program := "ytjdiecpbjajkiaa", sum := "5ee7f67c031a0014641da029ac43de948f8348712b75ea4c18d3dd46230a8369", func := "belfry/belfrylaw13.PvqCounts", spec := "pvqCounts", unfollowed := true, recurses := true, apart := false }
def PvqCountsSaid : Prop := pvqCountsRow.holds Try.pinned (OpenSpec.ofChange pvqCountsSpec)

/-- ITS FALSE NEIGHBOUR: 'it returns false'. Refute it at one input. -/
def pvqCountsWrong : ChangeSpec := { name := "pvqCounts", fn := fun _ => fun
  | [d1, d2] => { results := [.lit (.bool false)], args := [d1, d2] }
  | _ => none }
def PvqCountsWrongFalsely : Prop := pvqCountsRow.holds Try.pinned (OpenSpec.ofChange pvqCountsWrong)

/-- 'belfrylaw13.PvqSplit': WHATEVER THE INPUT: true; the input reads as it did. -/
def pvqSplitSpec : ChangeSpec := { name := "pvqSplit", fn := fun _ => fun
  | [d1, d2, d3] => { results := [.lit (.bool true)], args := [d1, d2, d3] }
  | _ => none }
def pvqSplitRow : OpenClaim := { program := "ytjdiecpbjajkiaa", sum := "5ee7f67c031a0014641da029ac43de948f8348712b75ea4c18d3dd46230a8369", func := "belfry/belfrylaw13.PvqSplit", spec := "pvqSplit", unfollowed := true, recurses := true, apart := false }
def PvqSplitSaid : Prop := pvqSplitRow.holds Try.pinned (OpenSpec.ofChange pvqSplitSpec)

/-- ITS FALSE NEIGHBOUR: 'it returns false'. Refute it at one input. -/
def pvqSplitWrong : ChangeSpec := { name := "pvqSplit", fn := fun _ => fun
  | [d1, d2, d3] => { results := [.lit (.bool false)], args := [d1, d2, d3] }
  | _ => none }
def PvqSplitWrongFalsely : Prop := pvqSplitRow.holds Try.pinned (OpenSpec.ofChange pvqSplitWrong)

/- THE SECOND FORM. 'bulk': how many values and letters a reading holds, each counted each time it is reached (what is shared counts as often as it is met; a slice's spare places count too). A statement '..UptoSaid' is the law's where the arguments, and the package variables that the reading takes, are together of bulk at most 1048576: NARROWER than '..Said'. Prove '..Said' where nothing that the law and all that it calls make is longer than what came in: it says more and counts as full. Else prove '..UptoSaid'. A law counts once. -/
mutual
def uptoBulk {H : Type} : DataW H → Nat
  | .lit (.string bytes) => bytes.length + 1
  | .lit _ => 1
  | .nil => 1
  | .ptr d => uptoBulk d + 1
  | .slice elems spare => uptoBulkAll elems + uptoBulkAll spare + 1
  | .agg parts => uptoBulkAll parts + 1
  | .iface _ d => uptoBulk d + 1
  | .map entries => uptoBulkEntries entries + 1
  | .held _ => 1
def uptoBulkAll {H : Type} : List (DataW H) → Nat
  | [] => 0
  | d :: r => uptoBulk d + uptoBulkAll r
def uptoBulkEntries {H : Type} : List (Lit × DataW H) → Nat
  | [] => 0
  | x :: r => uptoBulkEntry x + uptoBulkEntries r
def uptoBulkEntry {H : Type} : Lit × DataW H → Nat
  | (.string bytes, d) => bytes.length + uptoBulk d + 1
  | (_, d) => uptoBulk d + 1
 end
def uptoSmall : (H : Type) → List (DataW H) → Bool := fun _ ds => decide (uptoBulkAll ds ≤ 1048576)
def OpenSpec.upto (s : _root_.Go.ChangeSpec) : _root_.Go.OpenSpec := { _root_.Go.OpenSpec.ofChange s with cond := some uptoSmall }

/-- 'belfrylaw13.PvqBack', WHERE WHAT IT READS IS OF BULK AT MOST 1048576: true; the input reads as it did. -/
def pvqBackUptoRow : OpenClaim := { program := "ytjdiecpbjajkiaa", sum := "5ee7f67c031a0014641da029ac43de948f8348712b75ea4c18d3dd46230a8369", func := "belfry/belfrylaw13.PvqBack", spec := "pvqBack", unfollowed := true, recurses := true, apart := false, narrowed := true }
def PvqBackUptoSaid : Prop := pvqBackUptoRow.holds Try.pinned (OpenSpec.upto pvqBackSpec)

/-- 'belfrylaw13.PvqOrder', WHERE WHAT IT READS IS OF BULK AT MOST 1048576: true; the input reads as it did. -/
def pvqOrderUptoRow : OpenClaim := { program := "ytjdiecpbjajkiaa", sum := "5ee7f67c031a0014641da029ac43de948f8348712b75ea4c18d3dd46230a8369", func := "belfry/belfrylaw13.PvqOrder", spec := "pvqOrder", unfollowed := true, recurses := true, apart := false, narrowed := true }
def PvqOrderUptoSaid : Prop := pvqOrderUptoRow.holds Try.pinned (OpenSpec.upto pvqOrderSpec)

/-- 'belfrylaw13.PvqAll', WHERE WHAT IT READS IS OF BULK AT MOST 1048576: true; the input reads as it did. -/
def pvqAllUptoRow : OpenClaim := { program := "ytjdiecpbjajkiaa", sum := "5ee7f67c031a0014641da029ac43de948f8348712b75ea4c18d3dd46230a8369", func := "belfry/belfrylaw13.PvqAll", spec := "pvqAll", unfollowed := true, recurses := true, apart := false, narrowed := true }
def PvqAllUptoSaid : Prop := pvqAllUptoRow.holds Try.pinned (OpenSpec.upto pvqAllSpec)

/-- 'belfrylaw13.PvqPlays', WHERE WHAT IT READS IS OF BULK AT MOST 1048576: true; the input reads as it did. -/
def pvqPlaysUptoRow : OpenClaim := { program := "ytjdiecpbjajkiaa", sum := "5ee7f67c031a0014641da029ac43de948f8348712b75ea4c18d3dd46230a8369", func := "belfry/belfrylaw13.PvqPlays", spec := "pvqPlays", unfollowed := true, recurses := true, apart := false, narrowed := true }
def PvqPlaysUptoSaid : Prop := pvqPlaysUptoRow.holds Try.pinned (OpenSpec.upto pvqPlaysSpec)

/-- 'belfrylaw13.PvqCounts', WHERE WHAT IT READS IS OF BULK AT MOST 1048576: true; the input reads as it did. -/
def pvqCountsUptoRow : OpenClaim := { program := "ytjdiecpbjajkiaa", sum := "5ee7f67c031a0014641da029ac43de948f8348712b75ea4c18d3dd46230a8369", func := "belfry/belfrylaw13.PvqCounts", spec := "pvqCounts", unfollowed := true, recurses := true, apart := false, narrowed := true }
def PvqCountsUptoSaid : Prop := pvqCountsUptoRow.holds Try.pinned (OpenSpec.upto pvqCountsSpec)

/-- 'belfrylaw13.PvqSplit', WHERE WHAT IT READS IS OF BULK AT MOST 1048576: true; the input reads as it did. -/
def pvqSplitUptoRow : OpenClaim := { program := "ytjdiecpbjajkiaa", sum := "5ee7f67c031a0014641da029ac43de948f8348712b75ea4c18d3dd46230a8369", func := "belfry/belfrylaw13.PvqSplit", spec := "pvqSplit", unfollowed := true, recurses := true, apart := false, narrowed := true }
def PvqSplitUptoSaid : Prop := pvqSplitUptoRow.holds Try.pinned (OpenSpec.upto pvqSplitSpec)

end Rows
end Go.Proofs.Ytjdiecpbjajkiaa
