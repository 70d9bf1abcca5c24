/-
  No cell of these rows narrows 'for every input' (looked for: loops, veiled, ifaces, maps, wideKeys, modest, calm, conditions, laid).
  DERIVED. THE GIVEN ROWS OF THIS SEAT. 3 by the template 'for every input the law returns true; each argument reads behind the call as it read before'; 0 by the template 'total and deterministic' (their statements: YtalbcimnnihmnaaTotals.lean).
  GIVEN WITH THE SEED: the statements are not yours to turn. If you find one false, say at which input.
  Laid BY PROGRAM, IN A SANDBOX (cutbox-rows.mjs): the forced cells as the released guide's own fill.sh prints them over the translation d00ec4d42e8623e6… (all of the seat's roots in one cut). By AI agents, Wed Nov 11 2026. No macro, syntax, notation, axiom, sorry.
-/
import Derived.Test.YtalbcimnnihmnaaChecked
import GoSem.Claim
import GoSem.ClaimJoined
import GoSem.ClaimMapViews
import Derived.JoinedTies
import Derived.KernelRfl
namespace Go.Proofs.Ytalbcimnnihmnaa
/- THE CELL 'sum', in the pinned program and in every row, IS THE sha256 OF THE DUMP (.gsa) THAT YtalbcimnnihmnaaProg.lean LOADS. Nothing in Lean hashes anything: it is a label: what it is worth is what the hold of that sum in a sandbox is worth. -/
noncomputable def Try.pinned : Pinned := { name := "ytalbcimnnihmnaa", sum := "d00ec4d42e8623e669c4b0b9d87d166d8f7dec7633328abfb6d01cc2e8e4a97e", checked := Try.checked }
namespace Rows
def none {H : Type} : Left H := { results := [], args := [] }

/-- 'belfrylaw20.CodeNearest': WHATEVER THE INPUT: true; the input reads as it did. -/
def codeNearestSpec : ChangeSpec := { name := "codeNearest", fn := fun _ => fun
  | [d1, d2, d3] => { results := [.lit (.bool true)], args := [d1, d2, d3] }
  | _ => none }
def codeNearestRow : OpenClaim := { program := "ytalbcimnnihmnaa", sum := "d00ec4d42e8623e669c4b0b9d87d166d8f7dec7633328abfb6d01cc2e8e4a97e", func := "belfry/belfrylaw20.CodeNearest", spec := "codeNearest", unfollowed := true, recurses := true, apart := false }
def CodeNearestSaid : Prop := codeNearestRow.holds Try.pinned (OpenSpec.ofChange codeNearestSpec)

/-- ITS FALSE NEIGHBOUR: 'it returns false'. Refute it at one input. -/
def codeNearestWrong : ChangeSpec := { name := "codeNearest", fn := fun _ => fun
  | [d1, d2, d3] => { results := [.lit (.bool false)], args := [d1, d2, d3] }
  | _ => none }
def CodeNearestWrongFalsely : Prop := codeNearestRow.holds Try.pinned (OpenSpec.ofChange codeNearestWrong)

/-- 'belfrylaw20.CodeLoud': WHATEVER THE INPUT: true; the input reads as it did. -/
def codeLoudSpec : ChangeSpec := { name := "codeLoud", fn := fun _ => fun
  | [d1, d2] => { results := [.lit (.bool true)], args := [d1, d2] }
  | _ => none }
def codeLoudRow : OpenClaim := { program := "ytalbcimnnihmnaa", sum := "d00ec4d42e8623e669c4b0b9d87d166d8f7dec7633328abfb6d01cc2e8e4a97e", func := "belfry/belfrylaw20.CodeLoud", spec := "codeLoud", unfollowed := true, recurses := true, apart := false }
def CodeLoudSaid : Prop := codeLoudRow.holds Try.pinned (OpenSpec.ofChange codeLoudSpec)

/-- ITS FALSE NEIGHBOUR: 'it returns false'. Refute it at one input. -/
def codeLoudWrong : ChangeSpec := { name := "codeLoud", fn := fun _ => fun
  | [d1, d2] => { results := [.lit (.bool false)], args := [d1, d2] }
  | _ => none }
def CodeLoudWrongFalsely : Prop := codeLoudRow.holds Try.pinned (OpenSpec.ofChange codeLoudWrong)

/-- 'belfrylaw20.CodeClamps': WHATEVER THE INPUT: true; the input reads as it did. -/
def codeClampsSpec : ChangeSpec := { name := "codeClamps", fn := fun _ => fun
  | [d1, d2] => { results := [.lit (.bool true)], args := [d1, d2] }
  | _ => none }
def codeClampsRow : OpenClaim := { program := "ytalbcimnnihmnaa", sum := "d00ec4d42e8623e669c4b0b9d87d166d8f7dec7633328abfb6d01cc2e8e4a97e", func := "belfry/belfrylaw20.CodeClamps", spec := "codeClamps", unfollowed := true, recurses := true, apart := false }
def CodeClampsSaid : Prop := codeClampsRow.holds Try.pinned (OpenSpec.ofChange codeClampsSpec)

/-- ITS FALSE NEIGHBOUR: 'it returns false'. Refute it at one input. -/
def codeClampsWrong : ChangeSpec := { name := "codeClamps", fn := fun _ => fun
  | [d1, d2] => { results := [.lit (.bool false)], args := [d1, d2] }
  | _ => none }
def CodeClampsWrongFalsely : Prop := codeClampsRow.holds Try.pinned (OpenSpec.ofChange codeClampsWrong)

/- THE SECOND FORM. 'bulk': how many values and letters a reading holds, each counted each time it is reached (what is shared counts as often as it is met; a slice's spare places count too). A statement '..UptoSaid' is the law's where the arguments, and the package variables that the reading takes, are together of bulk at most 1048576: NARROWER than '..Said'. Prove '..Said' where nothing that the law and all that it calls make is longer than what came in: it says more and counts as full. Else prove '..UptoSaid'. A law counts once. -/
mutual
def uptoBulk {H : Type} : DataW H → Nat
  | .lit (.string bytes) => bytes.length + 1
  | .lit _ => 1
  | .nil => 1
  | .ptr d => uptoBulk d + 1
  | .slice elems spare => uptoBulkAll elems + uptoBulkAll spare + 1
  | .agg parts => uptoBulkAll parts + 1
  | .iface _ d => uptoBulk d + 1
  | .map entries => uptoBulkEntries entries + 1
  | .held _ => 1
def uptoBulkAll {H : Type} : List (DataW H) → Nat
  | [] => 0
  | d :: r => uptoBulk d + uptoBulkAll r
def uptoBulkEntries {H : Type} : List (Lit × DataW H) → Nat
  | [] => 0
  | x :: r => uptoBulkEntry x + uptoBulkEntries r
def uptoBulkEntry {H : Type} : Lit × DataW H → Nat
  | (.string bytes, d) => bytes.length + uptoBulk d + 1
  | (_, d) => uptoBulk d + 1
 end
def uptoSmall : (H : Type) → List (DataW H) → Bool := fun _ ds => decide (uptoBulkAll ds ≤ 1048576)
def OpenSpec.upto (s : _root_.Go.ChangeSpec) : _root_.Go.OpenSpec := { _root_.Go.OpenSpec.ofChange s with cond := some uptoSmall }

/-- 'belfrylaw20.CodeNearest', WHERE WHAT IT READS IS OF BULK AT MOST 1048576: true; the input reads as it did. -/
def codeNearestUptoRow : OpenClaim := { program := "ytalbcimnnihmnaa", sum := "d00ec4d42e8623e669c4b0b9d87d166d8f7dec7633328abfb6d01cc2e8e4a97e", func := "belfry/belfrylaw20.CodeNearest", spec := "codeNearest", unfollowed := true, recurses := true, apart := false, narrowed := true }
def CodeNearestUptoSaid : Prop := codeNearestUptoRow.holds Try.pinned (OpenSpec.upto codeNearestSpec)

/-- 'belfrylaw20.CodeLoud', WHERE WHAT IT READS IS OF BULK AT MOST 1048576: true; the input reads as it did. -/
def codeLoudUptoRow : OpenClaim := { program := "ytalbcimnnihmnaa", sum := "d00ec4d42e8623e669c4b0b9d87d166d8f7dec7633328abfb6d01cc2e8e4a97e", func := "belfry/belfrylaw20.CodeLoud", spec := "codeLoud", unfollowed := true, recurses := true, apart := false, narrowed := true }
def CodeLoudUptoSaid : Prop := codeLoudUptoRow.holds Try.pinned (OpenSpec.upto codeLoudSpec)

/-- 'belfrylaw20.CodeClamps', WHERE WHAT IT READS IS OF BULK AT MOST 1048576: true; the input reads as it did. -/
def codeClampsUptoRow : OpenClaim := { program := "ytalbcimnnihmnaa", sum := "d00ec4d42e8623e669c4b0b9d87d166d8f7dec7633328abfb6d01cc2e8e4a97e", func := "belfry/belfrylaw20.CodeClamps", spec := "codeClamps", unfollowed := true, recurses := true, apart := false, narrowed := true }
def CodeClampsUptoSaid : Prop := codeClampsUptoRow.holds Try.pinned (OpenSpec.upto codeClampsSpec)

end Rows
end Go.Proofs.Ytalbcimnnihmnaa
