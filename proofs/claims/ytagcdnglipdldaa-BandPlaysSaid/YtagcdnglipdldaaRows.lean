/-
  No cell of these rows narrows 'for every input' (looked for: loops, veiled, ifaces, maps, wideKeys, modest, calm, conditions, laid).
  DERIVED. THE GIVEN ROWS OF THIS SEAT. 5 by the template 'for every input the law returns true; each argument reads behind the call as it read before'; 0 by the template 'total and deterministic' (their statements: YtagcdnglipdldaaTotals.lean).
  GIVEN WITH THE SEED: the statements are not yours to turn. If you find one false, say at which input.
  Laid BY PROGRAM, IN A SANDBOX (cutbox-rows.mjs): the forced cells as the released guide's own fill.sh prints them over the translation d7b01d7688f15c66… (all of the seat's roots in one cut). By AI agents, Wed Nov 11 2026. No macro, syntax, notation, axiom, sorry.
-/
import Derived.Test.YtagcdnglipdldaaChecked
import GoSem.Claim
import GoSem.ClaimJoined
import GoSem.ClaimMapViews
import Derived.JoinedTies
import Derived.KernelRfl
namespace Go.Proofs.Ytagcdnglipdldaa
/- THE CELL 'sum', in the pinned program and in every row, IS THE sha256 OF THE DUMP (.gsa) THAT YtagcdnglipdldaaProg.lean LOADS. Nothing in Lean hashes anything: it is a label: what it is worth is what the hold of that sum in a sandbox is worth. -/
noncomputable def Try.pinned : Pinned := { name := "ytagcdnglipdldaa", sum := "d7b01d7688f15c668e44220b222176538b2a8b5c5dae372b1454f9128bd933d2", checked := Try.checked }
namespace Rows
def none {H : Type} : Left H := { results := [], args := [] }

/-- 'belfrylaw16.BandPuts': WHATEVER THE INPUT: true; the input reads as it did. -/
def bandPutsSpec : ChangeSpec := { name := "bandPuts", fn := fun _ => fun
  | [d1, d2, d3] => { results := [.lit (.bool true)], args := [d1, d2, d3] }
  | _ => none }
def bandPutsRow : OpenClaim := { program := "ytagcdnglipdldaa", sum := "d7b01d7688f15c668e44220b222176538b2a8b5c5dae372b1454f9128bd933d2", func := "belfry/belfrylaw16.BandPuts", spec := "bandPuts", unfollowed := true, recurses := true, apart := false }
def BandPutsSaid : Prop := bandPutsRow.holds Try.pinned (OpenSpec.ofChange bandPutsSpec)

/-- ITS FALSE NEIGHBOUR: 'it returns false'. Refute it at one input. -/
def bandPutsWrong : ChangeSpec := { name := "bandPuts", fn := fun _ => fun
  | [d1, d2, d3] => { results := [.lit (.bool false)], args := [d1, d2, d3] }
  | _ => none }
def BandPutsWrongFalsely : Prop := bandPutsRow.holds Try.pinned (OpenSpec.ofChange bandPutsWrong)

/-- 'belfrylaw16.BandLoud': WHATEVER THE INPUT: true; the input reads as it did. -/
def bandLoudSpec : ChangeSpec := { name := "bandLoud", fn := fun _ => fun
  | [d] => { results := [.lit (.bool true)], args := [d] }
  | _ => none }
def bandLoudRow : OpenClaim := { program := "ytagcdnglipdldaa", sum := "d7b01d7688f15c668e44220b222176538b2a8b5c5dae372b1454f9128bd933d2", func := "belfry/belfrylaw16.BandLoud", spec := "bandLoud", unfollowed := true, recurses := true, apart := false }
def BandLoudSaid : Prop := bandLoudRow.holds Try.pinned (OpenSpec.ofChange bandLoudSpec)

/-- ITS FALSE NEIGHBOUR: 'it returns false'. Refute it at one input. -/
def bandLoudWrong : ChangeSpec := { name := "bandLoud", fn := fun _ => fun
  | [d] => { results := [.lit (.bool false)], args := [d] }
  | _ => none }
def BandLoudWrongFalsely : Prop := bandLoudRow.holds Try.pinned (OpenSpec.ofChange bandLoudWrong)

/-- 'belfrylaw16.BandPlays': WHATEVER THE INPUT: true; the input reads as it did. -/
def bandPlaysSpec : ChangeSpec := { name := "bandPlays", fn := fun _ => fun
  | [d1, d2] => { results := [.lit (.bool true)], args := [d1, d2] }
  | _ => none }
def bandPlaysRow : OpenClaim := { program := "ytagcdnglipdldaa", sum := "d7b01d7688f15c668e44220b222176538b2a8b5c5dae372b1454f9128bd933d2", func := "belfry/belfrylaw16.BandPlays", spec := "bandPlays", unfollowed := true, recurses := true, apart := false }
def BandPlaysSaid : Prop := bandPlaysRow.holds Try.pinned (OpenSpec.ofChange bandPlaysSpec)

/-- ITS FALSE NEIGHBOUR: 'it returns false'. Refute it at one input. -/
def bandPlaysWrong : ChangeSpec := { name := "bandPlays", fn := fun _ => fun
  | [d1, d2] => { results := [.lit (.bool false)], args := [d1, d2] }
  | _ => none }
def BandPlaysWrongFalsely : Prop := bandPlaysRow.holds Try.pinned (OpenSpec.ofChange bandPlaysWrong)

/-- 'belfrylaw16.BandDoubles': WHATEVER THE INPUT: true; the input reads as it did. -/
def bandDoublesSpec : ChangeSpec := { name := "bandDoubles", fn := fun _ => fun
  | [d] => { results := [.lit (.bool true)], args := [d] }
  | _ => none }
def bandDoublesRow : OpenClaim := { program := "ytagcdnglipdldaa", sum := "d7b01d7688f15c668e44220b222176538b2a8b5c5dae372b1454f9128bd933d2", func := "belfry/belfrylaw16.BandDoubles", spec := "bandDoubles", unfollowed := true, recurses := true, apart := false }
def BandDoublesSaid : Prop := bandDoublesRow.holds Try.pinned (OpenSpec.ofChange bandDoublesSpec)

/-- ITS FALSE NEIGHBOUR: 'it returns false'. Refute it at one input. -/
def bandDoublesWrong : ChangeSpec := { name := "bandDoubles", fn := fun _ => fun
  | [d] => { results := [.lit (.bool false)], args := [d] }
  | _ => none }
def BandDoublesWrongFalsely : Prop := bandDoublesRow.holds Try.pinned (OpenSpec.ofChange bandDoublesWrong)

/-- 'belfrylaw16.BandClamps': WHATEVER THE INPUT: true; the input reads as it did. -/
def bandClampsSpec : ChangeSpec := { name := "bandClamps", fn := fun _ => fun
  | [d] => { results := [.lit (.bool true)], args := [d] }
  | _ => none }
def bandClampsRow : OpenClaim := { program := "ytagcdnglipdldaa", sum := "d7b01d7688f15c668e44220b222176538b2a8b5c5dae372b1454f9128bd933d2", func := "belfry/belfrylaw16.BandClamps", spec := "bandClamps", unfollowed := true, recurses := true, apart := false }
def BandClampsSaid : Prop := bandClampsRow.holds Try.pinned (OpenSpec.ofChange bandClampsSpec)

/-- ITS FALSE NEIGHBOUR: 'it returns false'. Refute it at one input. -/
def bandClampsWrong : ChangeSpec := { name := "bandClamps", fn := fun _ => fun
  | [d] => { results := [.lit (.bool false)], args := [d] }
  | _ => none }
def BandClampsWrongFalsely : Prop := bandClampsRow.holds Try.pinned (OpenSpec.ofChange bandClampsWrong)

/- THE SECOND FORM. 'bulk': how many values and letters a reading holds, each counted each time it is reached (what is shared counts as often as it is met; a slice's spare places count too). A statement '..UptoSaid' is the law's where the arguments, and the package variables that the reading takes, are together of bulk at most 1048576: NARROWER than '..Said'. Prove '..Said' where nothing that the law and all that it calls make is longer than what came in: it says more and counts as full. Else prove '..UptoSaid'. A law counts once. -/
mutual
def uptoBulk {H : Type} : DataW H → Nat
  | .lit (.string bytes) => bytes.length + 1
  | .lit _ => 1
  | .nil => 1
  | .ptr d => uptoBulk d + 1
  | .slice elems spare => uptoBulkAll elems + uptoBulkAll spare + 1
  | .agg parts => uptoBulkAll parts + 1
  | .iface _ d => uptoBulk d + 1
  | .map entries => uptoBulkEntries entries + 1
  | .held _ => 1
def uptoBulkAll {H : Type} : List (DataW H) → Nat
  | [] => 0
  | d :: r => uptoBulk d + uptoBulkAll r
def uptoBulkEntries {H : Type} : List (Lit × DataW H) → Nat
  | [] => 0
  | x :: r => uptoBulkEntry x + uptoBulkEntries r
def uptoBulkEntry {H : Type} : Lit × DataW H → Nat
  | (.string bytes, d) => bytes.length + uptoBulk d + 1
  | (_, d) => uptoBulk d + 1
 end
def uptoSmall : (H : Type) → List (DataW H) → Bool := fun _ ds => decide (uptoBulkAll ds ≤ 1048576)
def OpenSpec.upto (s : _root_.Go.ChangeSpec) : _root_.Go.OpenSpec := { _root_.Go.OpenSpec.ofChange s with cond := some uptoSmall }

/-- 'belfrylaw16.BandPuts', WHERE WHAT IT READS IS OF BULK AT MOST 1048576: true; the input reads as it did. -/
def bandPutsUptoRow : OpenClaim := { program := "ytagcdnglipdldaa", sum := "d7b01d7688f15c668e44220b222176538b2a8b5c5dae372b1454f9128bd933d2", func := "belfry/belfrylaw16.BandPuts", spec := "bandPuts", unfollowed := true, recurses := true, apart := false, narrowed := true }
def BandPutsUptoSaid : Prop := bandPutsUptoRow.holds Try.pinned (OpenSpec.upto bandPutsSpec)

/-- 'belfrylaw16.BandLoud', WHERE WHAT IT READS IS OF BULK AT MOST 1048576: true; the input reads as it did. -/
def bandLoudUptoRow : OpenClaim := { program := "ytagcdnglipdldaa", sum := "d7b01d7688f15c668e44220b222176538b2a8b5c5dae372b1454f9128bd933d2", func := "belfry/belfrylaw16.BandLoud", spec := "bandLoud", unfollowed := true, recurses := true, apart := false, narrowed := true }
def BandLoudUptoSaid : Prop := bandLoudUptoRow.holds Try.pinned (OpenSpec.upto bandLoudSpec)

/-- 'belfrylaw16.BandPlays', WHERE WHAT IT READS IS OF BULK AT MOST 1048576: true; the input reads as it did. -/
def bandPlaysUptoRow : OpenClaim := { program := "ytagcdnglipdldaa", sum := "d7b01d7688f15c668e44220b222176538b2a8b5c5dae372b1454f9128bd933d2", func := "belfry/belfrylaw16.BandPlays", spec := "bandPlays", unfollowed := true, recurses := true, apart := false, narrowed := true }
def BandPlaysUptoSaid : Prop := bandPlaysUptoRow.holds Try.pinned (OpenSpec.upto bandPlaysSpec)

/-- 'belfrylaw16.BandDoubles', WHERE WHAT IT READS IS OF BULK AT MOST 1048576: true; the input reads as it did. -/
def bandDoublesUptoRow : OpenClaim := { program := "ytagcdnglipdldaa", sum := "d7b01d7688f15c668e44220b222176538b2a8b5c5dae372b1454f9128bd933d2", func := "belfry/belfrylaw16.BandDoubles", spec := "bandDoubles", unfollowed := true, recurses := true, apart := false, narrowed := true }
def BandDoublesUptoSaid : Prop := bandDoublesUptoRow.holds Try.pinned (OpenSpec.upto bandDoublesSpec)

/-- 'belfrylaw16.BandClamps', WHERE WHAT IT READS IS OF BULK AT MOST 1048576: true; the input reads as it did. -/
def bandClampsUptoRow : OpenClaim := { program := "ytagcdnglipdldaa", sum := "d7b01d7688f15c668e44220b222176538b2a8b5c5dae372b1454f9128bd933d2", func := "belfry/belfrylaw16.BandClamps", spec := "bandClamps", unfollowed := true, recurses := true, apart := false, narrowed := true }
def BandClampsUptoSaid : Prop := bandClampsUptoRow.holds Try.pinned (OpenSpec.upto bandClampsSpec)

end Rows
end Go.Proofs.Ytagcdnglipdldaa
