/-
  No cell of these rows narrows 'for every input' (looked for: loops, veiled, ifaces, maps, wideKeys, modest, calm, conditions, laid).
  DERIVED. THE GIVEN ROWS OF THIS SEAT. 6 by the template 'for every input the law returns true; each argument reads behind the call as it read before'; 0 by the template 'total and deterministic' (their statements: YtfkgkchlfkdglaaTotals.lean).
  GIVEN WITH THE SEED: the statements are not yours to turn. If you find one false, say at which input.
  Laid BY PROGRAM, IN A SANDBOX (cutbox-rows.mjs): the forced cells as the released guide's own fill.sh prints them over the translation 5e8ea5f8fef90994… (all of the seat's roots in one cut). By AI agents, Wed Nov 11 2026. No macro, syntax, notation, axiom, sorry.
-/
import Derived.Test.YtfkgkchlfkdglaaChecked
import GoSem.Claim
import GoSem.ClaimJoined
import GoSem.ClaimMapViews
import Derived.JoinedTies
import Derived.KernelRfl
namespace Go.Proofs.Ytfkgkchlfkdglaa
/- THE CELL 'sum', in the pinned program and in every row, IS THE sha256 OF THE DUMP (.gsa) THAT YtfkgkchlfkdglaaProg.lean LOADS. Nothing in Lean hashes anything: it is a label: what it is worth is what the hold of that sum in a sandbox is worth. -/
noncomputable def Try.pinned : Pinned := { name := "ytfkgkchlfkdglaa", sum := "5e8ea5f8fef90994c4b0971d8c884ea2b3f9acf11fc6f7eab2ee92b9a70e11cd", checked := Try.checked }
namespace Rows
def none {H : Type} : Left H := { results := [], args := [] }

/-- 'belfrylaw08.TrigRoot': WHATEVER THE INPUT: true; the input reads as it did. -/
def trigRootSpec : ChangeSpec := { name := "trigRoot", fn := fun _ => fun
  | [d] => { results := [.lit (.bool true)], args := [d] }
  | _ => none }
def trigRootRow : OpenClaim := { program := "ytfkgkchlfkdglaa", sum := "5e8ea5f8fef90994c4b0971d8c884ea2b3f9acf11fc6f7eab2ee92b9a70e11cd", func := "belfry/belfrylaw08.TrigRoot", spec := "trigRoot", apart := false }
def TrigRootSaid : Prop := trigRootRow.holds Try.pinned (OpenSpec.ofChange trigRootSpec)

/-- ITS FALSE NEIGHBOUR: 'it returns false'. Refute it at one input. -/
def trigRootWrong : ChangeSpec := { name := "trigRoot", fn := fun _ => fun
  | [d] => { results := [.lit (.bool false)], args := [d] }
  | _ => none }
def TrigRootWrongFalsely : Prop := trigRootRow.holds Try.pinned (OpenSpec.ofChange trigRootWrong)

/-- 'belfrylaw08.TrigRises': WHATEVER THE INPUT: true; the input reads as it did. -/
def trigRisesSpec : ChangeSpec := { name := "trigRises", fn := fun _ => fun
  | [d] => { results := [.lit (.bool true)], args := [d] }
  | _ => none }
def trigRisesRow : OpenClaim := { program := "ytfkgkchlfkdglaa", sum := "5e8ea5f8fef90994c4b0971d8c884ea2b3f9acf11fc6f7eab2ee92b9a70e11cd", func := "belfry/belfrylaw08.TrigRises", spec := "trigRises", apart := false }
def TrigRisesSaid : Prop := trigRisesRow.holds Try.pinned (OpenSpec.ofChange trigRisesSpec)

/-- ITS FALSE NEIGHBOUR: 'it returns false'. Refute it at one input. -/
def trigRisesWrong : ChangeSpec := { name := "trigRises", fn := fun _ => fun
  | [d] => { results := [.lit (.bool false)], args := [d] }
  | _ => none }
def TrigRisesWrongFalsely : Prop := trigRisesRow.holds Try.pinned (OpenSpec.ofChange trigRisesWrong)

/-- 'belfrylaw08.TrigClose': WHATEVER THE INPUT: true; the input reads as it did. -/
def trigCloseSpec : ChangeSpec := { name := "trigClose", fn := fun _ => fun
  | [d] => { results := [.lit (.bool true)], args := [d] }
  | _ => none }
def trigCloseRow : OpenClaim := { program := "ytfkgkchlfkdglaa", sum := "5e8ea5f8fef90994c4b0971d8c884ea2b3f9acf11fc6f7eab2ee92b9a70e11cd", func := "belfry/belfrylaw08.TrigClose", spec := "trigClose", apart := false }
def TrigCloseSaid : Prop := trigCloseRow.holds Try.pinned (OpenSpec.ofChange trigCloseSpec)

/-- ITS FALSE NEIGHBOUR: 'it returns false'. Refute it at one input. -/
def trigCloseWrong : ChangeSpec := { name := "trigClose", fn := fun _ => fun
  | [d] => { results := [.lit (.bool false)], args := [d] }
  | _ => none }
def TrigCloseWrongFalsely : Prop := trigCloseRow.holds Try.pinned (OpenSpec.ofChange trigCloseWrong)

/-- 'belfrylaw08.TrigTurns': WHATEVER THE INPUT: true; the input reads as it did. -/
def trigTurnsSpec : ChangeSpec := { name := "trigTurns", fn := fun _ => fun
  | [d] => { results := [.lit (.bool true)], args := [d] }
  | _ => none }
def trigTurnsRow : OpenClaim := { program := "ytfkgkchlfkdglaa", sum := "5e8ea5f8fef90994c4b0971d8c884ea2b3f9acf11fc6f7eab2ee92b9a70e11cd", func := "belfry/belfrylaw08.TrigTurns", spec := "trigTurns", apart := false }
def TrigTurnsSaid : Prop := trigTurnsRow.holds Try.pinned (OpenSpec.ofChange trigTurnsSpec)

/-- ITS FALSE NEIGHBOUR: 'it returns false'. Refute it at one input. -/
def trigTurnsWrong : ChangeSpec := { name := "trigTurns", fn := fun _ => fun
  | [d] => { results := [.lit (.bool false)], args := [d] }
  | _ => none }
def TrigTurnsWrongFalsely : Prop := trigTurnsRow.holds Try.pinned (OpenSpec.ofChange trigTurnsWrong)

/-- 'belfrylaw08.TrigPlays': WHATEVER THE INPUT: true; the input reads as it did. -/
def trigPlaysSpec : ChangeSpec := { name := "trigPlays", fn := fun _ => fun
  | [d1, d2] => { results := [.lit (.bool true)], args := [d1, d2] }
  | _ => none }
def trigPlaysRow : OpenClaim := { program := "ytfkgkchlfkdglaa", sum := "5e8ea5f8fef90994c4b0971d8c884ea2b3f9acf11fc6f7eab2ee92b9a70e11cd", func := "belfry/belfrylaw08.TrigPlays", spec := "trigPlays", apart := false }
def TrigPlaysSaid : Prop := trigPlaysRow.holds Try.pinned (OpenSpec.ofChange trigPlaysSpec)

/-- ITS FALSE NEIGHBOUR: 'it returns false'. Refute it at one input. -/
def trigPlaysWrong : ChangeSpec := { name := "trigPlays", fn := fun _ => fun
  | [d1, d2] => { results := [.lit (.bool false)], args := [d1, d2] }
  | _ => none }
def TrigPlaysWrongFalsely : Prop := trigPlaysRow.holds Try.pinned (OpenSpec.ofChange trigPlaysWrong)

/-- 'belfrylaw08.TrigSums': WHATEVER THE INPUT: true; the input reads as it did. -/
def trigSumsSpec : ChangeSpec := { name := "trigSums", fn := fun _ => fun
  | [d1, d2] => { results := [.lit (.bool true)], args := [d1, d2] }
  | _ => none }
def trigSumsRow : OpenClaim := { program := "ytfkgkchlfkdglaa", sum := "5e8ea5f8fef90994c4b0971d8c884ea2b3f9acf11fc6f7eab2ee92b9a70e11cd", func := "belfry/belfrylaw08.TrigSums", spec := "trigSums", apart := false }
def TrigSumsSaid : Prop := trigSumsRow.holds Try.pinned (OpenSpec.ofChange trigSumsSpec)

/-- ITS FALSE NEIGHBOUR: 'it returns false'. Refute it at one input. -/
def trigSumsWrong : ChangeSpec := { name := "trigSums", fn := fun _ => fun
  | [d1, d2] => { results := [.lit (.bool false)], args := [d1, d2] }
  | _ => none }
def TrigSumsWrongFalsely : Prop := trigSumsRow.holds Try.pinned (OpenSpec.ofChange trigSumsWrong)

/- THE SECOND FORM. 'bulk': how many values and letters a reading holds, each counted each time it is reached (what is shared counts as often as it is met; a slice's spare places count too). A statement '..UptoSaid' is the law's where the arguments, and the package variables that the reading takes, are together of bulk at most 1048576: NARROWER than '..Said'. Prove '..Said' where nothing that the law and all that it calls make is longer than what came in: it says more and counts as full. Else prove '..UptoSaid'. A law counts once. -/
mutual
def uptoBulk {H : Type} : DataW H → Nat
  | .lit (.string bytes) => bytes.length + 1
  | .lit _ => 1
  | .nil => 1
  | .ptr d => uptoBulk d + 1
  | .slice elems spare => uptoBulkAll elems + uptoBulkAll spare + 1
  | .agg parts => uptoBulkAll parts + 1
  | .iface _ d => uptoBulk d + 1
  | .map entries => uptoBulkEntries entries + 1
  | .held _ => 1
def uptoBulkAll {H : Type} : List (DataW H) → Nat
  | [] => 0
  | d :: r => uptoBulk d + uptoBulkAll r
def uptoBulkEntries {H : Type} : List (Lit × DataW H) → Nat
  | [] => 0
  | x :: r => uptoBulkEntry x + uptoBulkEntries r
def uptoBulkEntry {H : Type} : Lit × DataW H → Nat
  | (.string bytes, d) => bytes.length + uptoBulk d + 1
  | (_, d) => uptoBulk d + 1
 end
def uptoSmall : (H : Type) → List (DataW H) → Bool := fun _ ds => decide (uptoBulkAll ds ≤ 1048576)
def OpenSpec.upto (s : _root_.Go.ChangeSpec) : _root_.Go.OpenSpec := { _root_.Go.OpenSpec.ofChange s with cond := some uptoSmall }

/-- 'belfrylaw08.TrigRoot', WHERE WHAT IT READS IS OF BULK AT MOST 1048576: true; the input reads as it did. -/
def trigRootUptoRow : OpenClaim := { program := "ytfkgkchlfkdglaa", sum := "5e8ea5f8fef90994c4b0971d8c884ea2b3f9acf11fc6f7eab2ee92b9a70e11cd", func := "belfry/belfrylaw08.TrigRoot", spec := "trigRoot", apart := false, narrowed := true }
def TrigRootUptoSaid : Prop := trigRootUptoRow.holds Try.pinned (OpenSpec.upto trigRootSpec)

/-- 'belfrylaw08.TrigRises', WHERE WHAT IT READS IS OF BULK AT MOST 1048576: true; the input reads as it did. -/
def trigRisesUptoRow : OpenClaim := { program := "ytfkgkchlfkdglaa", sum := "5e8ea5f8fef90994c4b0971d8c884ea2b3f9acf11fc6f7eab2ee92b9a70e11cd", func := "belfry/belfrylaw08.TrigRises", spec := "trigRises", apart := false, narrowed := true }
def TrigRisesUptoSaid : Prop := trigRisesUptoRow.holds Try.pinned (OpenSpec.upto trigRisesSpec)

/-- 'belfrylaw08.TrigClose', WHERE WHAT IT READS IS OF BULK AT MOST 1048576: true; the input reads as it did. -/
def trigCloseUptoRow : OpenClaim := { program := "ytfkgkchlfkdglaa", sum := "5e8ea5f8fef90994c4b0971d8c884ea2b3f9acf11fc6f7eab2ee92b9a70e11cd", func := "belfry/belfrylaw08.TrigClose", spec := "trigClose", apart := false, narrowed := true }
def TrigCloseUptoSaid : Prop := trigCloseUptoRow.holds Try.pinned (OpenSpec.upto trigCloseSpec)

/-- 'belfrylaw08.TrigTurns', WHERE WHAT IT READS IS OF BULK AT MOST 1048576: true; the input reads as it did. -/
def trigTurnsUptoRow : OpenClaim := { program := "ytfkgkchlfkdglaa", sum := "5e8ea5f8fef90994c4b0971d8c884ea2b3f9acf11fc6f7eab2ee92b9a70e11cd", func := "belfry/belfrylaw08.TrigTurns", spec := "trigTurns", apart := false, narrowed := true }
def TrigTurnsUptoSaid : Prop := trigTurnsUptoRow.holds Try.pinned (OpenSpec.upto trigTurnsSpec)

/-- 'belfrylaw08.TrigPlays', WHERE WHAT IT READS IS OF BULK AT MOST 1048576: true; the input reads as it did. -/
def trigPlaysUptoRow : OpenClaim := { program := "ytfkgkchlfkdglaa", sum := "5e8ea5f8fef90994c4b0971d8c884ea2b3f9acf11fc6f7eab2ee92b9a70e11cd", func := "belfry/belfrylaw08.TrigPlays", spec := "trigPlays", apart := false, narrowed := true }
def TrigPlaysUptoSaid : Prop := trigPlaysUptoRow.holds Try.pinned (OpenSpec.upto trigPlaysSpec)

/-- 'belfrylaw08.TrigSums', WHERE WHAT IT READS IS OF BULK AT MOST 1048576: true; the input reads as it did. -/
def trigSumsUptoRow : OpenClaim := { program := "ytfkgkchlfkdglaa", sum := "5e8ea5f8fef90994c4b0971d8c884ea2b3f9acf11fc6f7eab2ee92b9a70e11cd", func := "belfry/belfrylaw08.TrigSums", spec := "trigSums", apart := false, narrowed := true }
def TrigSumsUptoSaid : Prop := trigSumsUptoRow.holds Try.pinned (OpenSpec.upto trigSumsSpec)

end Rows
end Go.Proofs.Ytfkgkchlfkdglaa
