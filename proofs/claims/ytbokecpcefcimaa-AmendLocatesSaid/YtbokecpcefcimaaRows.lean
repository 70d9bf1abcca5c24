/-
  No cell of these rows narrows 'for every input' (looked for: loops, veiled, ifaces, maps, wideKeys, modest, calm, conditions, laid).
  DERIVED. THE GIVEN ROWS OF THIS SEAT. 6 by the template 'for every input the law returns true; each argument reads behind the call as it read before'; 0 by the template 'total and deterministic' (their statements: YtbokecpcefcimaaTotals.lean).
  GIVEN WITH THE SEED: the statements are not yours to turn. If you find one false, say at which input.
  Laid BY PROGRAM, IN A SANDBOX (cutbox-rows.mjs): the forced cells as the released guide's own fill.sh prints them over the translation f2685ef658eaf0ab… (all of the seat's roots in one cut). By AI agents, Wed Nov 11 2026. No macro, syntax, notation, axiom, sorry.
-/
import Derived.Test.YtbokecpcefcimaaChecked
import GoSem.Claim
import GoSem.ClaimJoined
import GoSem.ClaimMapViews
import Derived.JoinedTies
import Derived.KernelRfl
namespace Go.Proofs.Ytbokecpcefcimaa
/- THE CELL 'sum', in the pinned program and in every row, IS THE sha256 OF THE DUMP (.gsa) THAT YtbokecpcefcimaaProg.lean LOADS. Nothing in Lean hashes anything: it is a label: what it is worth is what the hold of that sum in a sandbox is worth. -/
noncomputable def Try.pinned : Pinned := { name := "ytbokecpcefcimaa", sum := "f2685ef658eaf0abb67aafe822c889d91d728f50ea9185a6fe0eeec7062450a6", checked := Try.checked }
namespace Rows
def none {H : Type} : Left H := { results := [], args := [] }

/-- 'belfrylaw06.AmendReach': WHATEVER THE INPUT: true; the input reads as it did. -/
def amendReachSpec : ChangeSpec := { name := "amendReach", fn := fun _ => fun
  | [d1, d2, d3] => { results := [.lit (.bool true)], args := [d1, d2, d3] }
  | _ => none }
def amendReachRow : OpenClaim := { program := "ytbokecpcefcimaa", sum := "f2685ef658eaf0abb67aafe822c889d91d728f50ea9185a6fe0eeec7062450a6", func := "belfry/belfrylaw06.AmendReach", spec := "amendReach", inPlace := ["slices.overlaps[int]"], unfollowed := true, recurses := true, apart := false }
def AmendReachSaid : Prop := amendReachRow.holds Try.pinned (OpenSpec.ofChange amendReachSpec)

/-- ITS FALSE NEIGHBOUR: 'it returns false'. Refute it at one input. -/
def amendReachWrong : ChangeSpec := { name := "amendReach", fn := fun _ => fun
  | [d1, d2, d3] => { results := [.lit (.bool false)], args := [d1, d2, d3] }
  | _ => none }
def AmendReachWrongFalsely : Prop := amendReachRow.holds Try.pinned (OpenSpec.ofChange amendReachWrong)

/-- 'belfrylaw06.AmendOnly': WHATEVER THE INPUT: true; the input reads as it did. -/
def amendOnlySpec : ChangeSpec := { name := "amendOnly", fn := fun _ => fun
  | [d1, d2] => { results := [.lit (.bool true)], args := [d1, d2] }
  | _ => none }
def amendOnlyRow : OpenClaim := { program := "ytbokecpcefcimaa", sum := "f2685ef658eaf0abb67aafe822c889d91d728f50ea9185a6fe0eeec7062450a6", func := "belfry/belfrylaw06.AmendOnly", spec := "amendOnly", inPlace := ["slices.overlaps[int]"], unfollowed := true, recurses := true, apart := false }
def AmendOnlySaid : Prop := amendOnlyRow.holds Try.pinned (OpenSpec.ofChange amendOnlySpec)

/-- ITS FALSE NEIGHBOUR: 'it returns false'. Refute it at one input. -/
def amendOnlyWrong : ChangeSpec := { name := "amendOnly", fn := fun _ => fun
  | [d1, d2] => { results := [.lit (.bool false)], args := [d1, d2] }
  | _ => none }
def AmendOnlyWrongFalsely : Prop := amendOnlyRow.holds Try.pinned (OpenSpec.ofChange amendOnlyWrong)

/-- 'belfrylaw06.AmendHoles': WHATEVER THE INPUT: true; the input reads as it did. -/
def amendHolesSpec : ChangeSpec := { name := "amendHoles", fn := fun _ => fun
  | [d1, d2, d3, d4] => { results := [.lit (.bool true)], args := [d1, d2, d3, d4] }
  | _ => none }
def amendHolesRow : OpenClaim := { program := "ytbokecpcefcimaa", sum := "f2685ef658eaf0abb67aafe822c889d91d728f50ea9185a6fe0eeec7062450a6", func := "belfry/belfrylaw06.AmendHoles", spec := "amendHoles", inPlace := ["slices.overlaps[int]"], unfollowed := true, recurses := true, apart := false }
def AmendHolesSaid : Prop := amendHolesRow.holds Try.pinned (OpenSpec.ofChange amendHolesSpec)

/-- ITS FALSE NEIGHBOUR: 'it returns false'. Refute it at one input. -/
def amendHolesWrong : ChangeSpec := { name := "amendHoles", fn := fun _ => fun
  | [d1, d2, d3, d4] => { results := [.lit (.bool false)], args := [d1, d2, d3, d4] }
  | _ => none }
def AmendHolesWrongFalsely : Prop := amendHolesRow.holds Try.pinned (OpenSpec.ofChange amendHolesWrong)

/-- 'belfrylaw06.AmendLocates': WHATEVER THE INPUT: true; the input reads as it did. -/
def amendLocatesSpec : ChangeSpec := { name := "amendLocates", fn := fun _ => fun
  | [d1, d2] => { results := [.lit (.bool true)], args := [d1, d2] }
  | _ => none }
def amendLocatesRow : OpenClaim := { program := "ytbokecpcefcimaa", sum := "f2685ef658eaf0abb67aafe822c889d91d728f50ea9185a6fe0eeec7062450a6", func := "belfry/belfrylaw06.AmendLocates", spec := "amendLocates", inPlace := ["slices.overlaps[int]"], unfollowed := true, recurses := true, apart := false }
def AmendLocatesSaid : Prop := amendLocatesRow.holds Try.pinned (OpenSpec.ofChange amendLocatesSpec)

/-- ITS FALSE NEIGHBOUR: 'it returns false'. Refute it at one input. -/
def amendLocatesWrong : ChangeSpec := { name := "amendLocates", fn := fun _ => fun
  | [d1, d2] => { results := [.lit (.bool false)], args := [d1, d2] }
  | _ => none }
def AmendLocatesWrongFalsely : Prop := amendLocatesRow.holds Try.pinned (OpenSpec.ofChange amendLocatesWrong)

/-- 'belfrylaw06.AmendFar': WHATEVER THE INPUT: true; the input reads as it did. -/
def amendFarSpec : ChangeSpec := { name := "amendFar", fn := fun _ => fun
  | [d1, d2, d3, d4] => { results := [.lit (.bool true)], args := [d1, d2, d3, d4] }
  | _ => none }
def amendFarRow : OpenClaim := { program := "ytbokecpcefcimaa", sum := "f2685ef658eaf0abb67aafe822c889d91d728f50ea9185a6fe0eeec7062450a6", func := "belfry/belfrylaw06.AmendFar", spec := "amendFar", inPlace := ["slices.overlaps[int]"], unfollowed := true, recurses := true, apart := false }
def AmendFarSaid : Prop := amendFarRow.holds Try.pinned (OpenSpec.ofChange amendFarSpec)

/-- ITS FALSE NEIGHBOUR: 'it returns false'. Refute it at one input. -/
def amendFarWrong : ChangeSpec := { name := "amendFar", fn := fun _ => fun
  | [d1, d2, d3, d4] => { results := [.lit (.bool false)], args := [d1, d2, d3, d4] }
  | _ => none }
def AmendFarWrongFalsely : Prop := amendFarRow.holds Try.pinned (OpenSpec.ofChange amendFarWrong)

/-- 'belfrylaw06.AmendClean': WHATEVER THE INPUT: true; the input reads as it did. -/
def amendCleanSpec : ChangeSpec := { name := "amendClean", fn := fun _ => fun
  | [d1, d2] => { results := [.lit (.bool true)], args := [d1, d2] }
  | _ => none }
def amendCleanRow : OpenClaim := { program := "ytbokecpcefcimaa", sum := "f2685ef658eaf0abb67aafe822c889d91d728f50ea9185a6fe0eeec7062450a6", func := "belfry/belfrylaw06.AmendClean", spec := "amendClean", inPlace := ["slices.overlaps[int]"], unfollowed := true, recurses := true, apart := false }
def AmendCleanSaid : Prop := amendCleanRow.holds Try.pinned (OpenSpec.ofChange amendCleanSpec)

/-- ITS FALSE NEIGHBOUR: 'it returns false'. Refute it at one input. -/
def amendCleanWrong : ChangeSpec := { name := "amendClean", fn := fun _ => fun
  | [d1, d2] => { results := [.lit (.bool false)], args := [d1, d2] }
  | _ => none }
def AmendCleanWrongFalsely : Prop := amendCleanRow.holds Try.pinned (OpenSpec.ofChange amendCleanWrong)

/- THE SECOND FORM. 'bulk': how many values and letters a reading holds, each counted each time it is reached (what is shared counts as often as it is met; a slice's spare places count too). A statement '..UptoSaid' is the law's where the arguments, and the package variables that the reading takes, are together of bulk at most 1048576: NARROWER than '..Said'. Prove '..Said' where nothing that the law and all that it calls make is longer than what came in: it says more and counts as full. Else prove '..UptoSaid'. A law counts once. -/
mutual
def uptoBulk {H : Type} : DataW H → Nat
  | .lit (.string bytes) => bytes.length + 1
  | .lit _ => 1
  | .nil => 1
  | .ptr d => uptoBulk d + 1
  | .slice elems spare => uptoBulkAll elems + uptoBulkAll spare + 1
  | .agg parts => uptoBulkAll parts + 1
  | .iface _ d => uptoBulk d + 1
  | .map entries => uptoBulkEntries entries + 1
  | .held _ => 1
def uptoBulkAll {H : Type} : List (DataW H) → Nat
  | [] => 0
  | d :: r => uptoBulk d + uptoBulkAll r
def uptoBulkEntries {H : Type} : List (Lit × DataW H) → Nat
  | [] => 0
  | x :: r => uptoBulkEntry x + uptoBulkEntries r
def uptoBulkEntry {H : Type} : Lit × DataW H → Nat
  | (.string bytes, d) => bytes.length + uptoBulk d + 1
  | (_, d) => uptoBulk d + 1
 end
def uptoSmall : (H : Type) → List (DataW H) → Bool := fun _ ds => decide (uptoBulkAll ds ≤ 1048576)
def OpenSpec.upto (s : _root_.Go.ChangeSpec) : _root_.Go.OpenSpec := { _root_.Go.OpenSpec.ofChange s with cond := some uptoSmall }

/-- 'belfrylaw06.AmendReach', WHERE WHAT IT READS IS OF BULK AT MOST 1048576: true; the input reads as it did. -/
def amendReachUptoRow : OpenClaim := { program := "ytbokecpcefcimaa", sum := "f2685ef658eaf0abb67aafe822c889d91d728f50ea9185a6fe0eeec7062450a6", func := "belfry/belfrylaw06.AmendReach", spec := "amendReach", inPlace := ["slices.overlaps[int]"], unfollowed := true, recurses := true, apart := false, narrowed := true }
def AmendReachUptoSaid : Prop := amendReachUptoRow.holds Try.pinned (OpenSpec.upto amendReachSpec)

/-- 'belfrylaw06.AmendOnly', WHERE WHAT IT READS IS OF BULK AT MOST 1048576: true; the input reads as it did. -/
def amendOnlyUptoRow : OpenClaim := { program := "ytbokecpcefcimaa", sum := "f2685ef658eaf0abb67aafe822c889d91d728f50ea9185a6fe0eeec7062450a6", func := "belfry/belfrylaw06.AmendOnly", spec := "amendOnly", inPlace := ["slices.overlaps[int]"], unfollowed := true, recurses := true, apart := false, narrowed := true }
def AmendOnlyUptoSaid : Prop := amendOnlyUptoRow.holds Try.pinned (OpenSpec.upto amendOnlySpec)

/-- 'belfrylaw06.AmendHoles', WHERE WHAT IT READS IS OF BULK AT MOST 1048576: true; the input reads as it did. -/
def amendHolesUptoRow : OpenClaim := { program := "ytbokecpcefcimaa", sum := "f2685ef658eaf0abb67aafe822c889d91d728f50ea9185a6fe0eeec7062450a6", func := "belfry/belfrylaw06.AmendHoles", spec := "amendHoles", inPlace := ["slices.overlaps[int]"], unfollowed := true, recurses := true, apart := false, narrowed := true }
def AmendHolesUptoSaid : Prop := amendHolesUptoRow.holds Try.pinned (OpenSpec.upto amendHolesSpec)

/-- 'belfrylaw06.AmendLocates', WHERE WHAT IT READS IS OF BULK AT MOST 1048576: true; the input reads as it did. -/
def amendLocatesUptoRow : OpenClaim := { program := "ytbokecpcefcimaa", sum := "f2685ef658eaf0abb67aafe822c889d91d728f50ea9185a6fe0eeec7062450a6", func := "belfry/belfrylaw06.AmendLocates", spec := "amendLocates", inPlace := ["slices.overlaps[int]"], unfollowed := true, recurses := true, apart := false, narrowed := true }
def AmendLocatesUptoSaid : Prop := amendLocatesUptoRow.holds Try.pinned (OpenSpec.upto amendLocatesSpec)

/-- 'belfrylaw06.AmendFar', WHERE WHAT IT READS IS OF BULK AT MOST 1048576: true; the input reads as it did. -/
def amendFarUptoRow : OpenClaim := { program := "ytbokecpcefcimaa", sum := "f2685ef658eaf0abb67aafe822c889d91d728f50ea9185a6fe0eeec7062450a6", func := "belfry/belfrylaw06.AmendFar", spec := "amendFar", inPlace := ["slices.overlaps[int]"], unfollowed := true, recurses := true, apart := false, narrowed := true }
def AmendFarUptoSaid : Prop := amendFarUptoRow.holds Try.pinned (OpenSpec.upto amendFarSpec)

/-- 'belfrylaw06.AmendClean', WHERE WHAT IT READS IS OF BULK AT MOST 1048576: true; the input reads as it did. -/
def amendCleanUptoRow : OpenClaim := { program := "ytbokecpcefcimaa", sum := "f2685ef658eaf0abb67aafe822c889d91d728f50ea9185a6fe0eeec7062450a6", func := "belfry/belfrylaw06.AmendClean", spec := "amendClean", inPlace := ["slices.overlaps[int]"], unfollowed := true, recurses := true, apart := false, narrowed := true }
def AmendCleanUptoSaid : Prop := amendCleanUptoRow.holds Try.pinned (OpenSpec.upto amendCleanSpec)

end Rows
end Go.Proofs.Ytbokecpcefcimaa
