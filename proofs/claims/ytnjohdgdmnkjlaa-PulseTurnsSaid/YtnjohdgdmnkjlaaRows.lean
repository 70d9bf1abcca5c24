/-
  No cell of these rows narrows 'for every input' (looked for: loops, veiled, ifaces, maps, wideKeys, modest, calm, conditions, laid).
  DERIVED. THE GIVEN ROWS OF THIS SEAT. 4 by the template 'for every input the law returns true; each argument reads behind the call as it read before'; 0 by the template 'total and deterministic' (their statements: YtnjohdgdmnkjlaaTotals.lean).
  GIVEN WITH THE SEED: the statements are not yours to turn. If you find one false, say at which input.
  Laid BY PROGRAM, IN A SANDBOX (cutbox-rows.mjs): the forced cells as the released guide's own fill.sh prints them over the translation e2f03583ba4f0450… (all of the seat's roots in one cut). By AI agents, Wed Nov 11 2026. No macro, syntax, notation, axiom, sorry.
-/
import Derived.Test.YtnjohdgdmnkjlaaChecked
import GoSem.Claim
import GoSem.ClaimJoined
import GoSem.ClaimMapViews
import Derived.JoinedTies
import Derived.KernelRfl
namespace Go.Proofs.Ytnjohdgdmnkjlaa
/- THE CELL 'sum', in the pinned program and in every row, IS THE sha256 OF THE DUMP (.gsa) THAT YtnjohdgdmnkjlaaProg.lean LOADS. Nothing in Lean hashes anything: it is a label: what it is worth is what the hold of that sum in a sandbox is worth. -/
noncomputable def Try.pinned : Pinned := { name := "ytnjohdgdmnkjlaa", sum := "e2f03583ba4f04507e95043231a8b126128431ce370dc558c75d189550108110", checked := Try.checked }
namespace Rows
def none {H : Type} : Left H := { results := [], args := [] }

/-- 'belfrylaw14.PulseLeast': WHATEVER THE INPUT: true; the input reads as it did. -/
def pulseLeastSpec : ChangeSpec := { name := "pulseLeast", fn := fun _ => fun
  | [d1, d2, d3, d4] => { results := [.lit (.bool true)], args := [d1, d2, d3, d4] }
  | _ => none }
def pulseLeastRow : OpenClaim := { program := "ytnjohdgdmnkjlaa", sum := "e2f03583ba4f04507e95043231a8b126128431ce370dc558c75d189550108110", func := "belfry/belfrylaw14.PulseLeast", spec := "pulseLeast", unfollowed := true, recurses := true, apart := false }
def PulseLeastSaid : Prop := pulseLeastRow.holds Try.pinned (OpenSpec.ofChange pulseLeastSpec)

/-- ITS FALSE NEIGHBOUR: 'it returns false'. Refute it at one input. -/
def pulseLeastWrong : ChangeSpec := { name := "pulseLeast", fn := fun _ => fun
  | [d1, d2, d3, d4] => { results := [.lit (.bool false)], args := [d1, d2, d3, d4] }
  | _ => none }
def PulseLeastWrongFalsely : Prop := pulseLeastRow.holds Try.pinned (OpenSpec.ofChange pulseLeastWrong)

/-- 'belfrylaw14.PulseAll': WHATEVER THE INPUT: true; the input reads as it did. -/
def pulseAllSpec : ChangeSpec := { name := "pulseAll", fn := fun _ => fun
  | [d1, d2, d3] => { results := [.lit (.bool true)], args := [d1, d2, d3] }
  | _ => none }
def pulseAllRow : OpenClaim := { program := "ytnjohdgdmnkjlaa", sum := "e2f03583ba4f04507e95043231a8b126128431ce370dc558c75d189550108110", func := "belfry/belfrylaw14.PulseAll", spec := "pulseAll", unfollowed := true, recurses := true, apart := false }
def PulseAllSaid : Prop := pulseAllRow.holds Try.pinned (OpenSpec.ofChange pulseAllSpec)

/-- ITS FALSE NEIGHBOUR: 'it returns false'. Refute it at one input. -/
def pulseAllWrong : ChangeSpec := { name := "pulseAll", fn := fun _ => fun
  | [d1, d2, d3] => { results := [.lit (.bool false)], args := [d1, d2, d3] }
  | _ => none }
def PulseAllWrongFalsely : Prop := pulseAllRow.holds Try.pinned (OpenSpec.ofChange pulseAllWrong)

/-- 'belfrylaw14.PulseExact': WHATEVER THE INPUT: true; the input reads as it did. -/
def pulseExactSpec : ChangeSpec := { name := "pulseExact", fn := fun _ => fun
  | [d1, d2, d3] => { results := [.lit (.bool true)], args := [d1, d2, d3] }
  | _ => none }
def pulseExactRow : OpenClaim := { program := "ytnjohdgdmnkjlaa", sum := "e2f03583ba4f04507e95043231a8b126128431ce370dc558c75d189550108110", func := "belfry/belfrylaw14.PulseExact", spec := "pulseExact", unfollowed := true, recurses := true, apart := false }
def PulseExactSaid : Prop := pulseExactRow.holds Try.pinned (OpenSpec.ofChange pulseExactSpec)

/-- ITS FALSE NEIGHBOUR: 'it returns false'. Refute it at one input. -/
def pulseExactWrong : ChangeSpec := { name := "pulseExact", fn := fun _ => fun
  | [d1, d2, d3] => { results := [.lit (.bool false)], args := [d1, d2, d3] }
  | _ => none }
def PulseExactWrongFalsely : Prop := pulseExactRow.holds Try.pinned (OpenSpec.ofChange pulseExactWrong)

/-- 'belfrylaw14.PulseTurns': WHATEVER THE INPUT: true; the input reads as it did. -/
def pulseTurnsSpec : ChangeSpec := { name := "pulseTurns", fn := fun _ => fun
  | [d1, d2, d3] => { results := [.lit (.bool true)], args := [d1, d2, d3] }
  | _ => none }
def pulseTurnsRow : OpenClaim := { program := "ytnjohdgdmnkjlaa", sum := "e2f03583ba4f04507e95043231a8b126128431ce370dc558c75d189550108110", func := "belfry/belfrylaw14.PulseTurns", spec := "pulseTurns", unfollowed := true, recurses := true, apart := false }
def PulseTurnsSaid : Prop := pulseTurnsRow.holds Try.pinned (OpenSpec.ofChange pulseTurnsSpec)

/-- ITS FALSE NEIGHBOUR: 'it returns false'. Refute it at one input. -/
def pulseTurnsWrong : ChangeSpec := { name := "pulseTurns", fn := fun _ => fun
  | [d1, d2, d3] => { results := [.lit (.bool false)], args := [d1, d2, d3] }
  | _ => none }
def PulseTurnsWrongFalsely : Prop := pulseTurnsRow.holds Try.pinned (OpenSpec.ofChange pulseTurnsWrong)

/- THE SECOND FORM. 'bulk': how many values and letters a reading holds, each counted each time it is reached (what is shared counts as often as it is met; a slice's spare places count too). A statement '..UptoSaid' is the law's where the arguments, and the package variables that the reading takes, are together of bulk at most 1048576: NARROWER than '..Said'. Prove '..Said' where nothing that the law and all that it calls make is longer than what came in: it says more and counts as full. Else prove '..UptoSaid'. A law counts once. -/
mutual
def uptoBulk {H : Type} : DataW H → Nat
  | .lit (.string bytes) => bytes.length + 1
  | .lit _ => 1
  | .nil => 1
  | .ptr d => uptoBulk d + 1
  | .slice elems spare => uptoBulkAll elems + uptoBulkAll spare + 1
  | .agg parts => uptoBulkAll parts + 1
  | .iface _ d => uptoBulk d + 1
  | .map entries => uptoBulkEntries entries + 1
  | .held _ => 1
def uptoBulkAll {H : Type} : List (DataW H) → Nat
  | [] => 0
  | d :: r => uptoBulk d + uptoBulkAll r
def uptoBulkEntries {H : Type} : List (Lit × DataW H) → Nat
  | [] => 0
  | x :: r => uptoBulkEntry x + uptoBulkEntries r
def uptoBulkEntry {H : Type} : Lit × DataW H → Nat
  | (.string bytes, d) => bytes.length + uptoBulk d + 1
  | (_, d) => uptoBulk d + 1
 end
def uptoSmall : (H : Type) → List (DataW H) → Bool := fun _ ds => decide (uptoBulkAll ds ≤ 1048576)
def OpenSpec.upto (s : _root_.Go.ChangeSpec) : _root_.Go.OpenSpec := { _root_.Go.OpenSpec.ofChange s with cond := some uptoSmall }

/-- 'belfrylaw14.PulseLeast', WHERE WHAT IT READS IS OF BULK AT MOST 1048576: true; the input reads as it did. -/
def pulseLeastUptoRow : OpenClaim := { program := "ytnjohdgdmnkjlaa", sum := "e2f03583ba4f04507e95043231a8b126128431ce370dc558c75d189550108110", func := "belfry/belfrylaw14.PulseLeast", spec := "pulseLeast", unfollowed := true, recurses := true, apart := false, narrowed := true }
def PulseLeastUptoSaid : Prop := pulseLeastUptoRow.holds Try.pinned (OpenSpec.upto pulseLeastSpec)

/-- 'belfrylaw14.PulseAll', WHERE WHAT IT READS IS OF BULK AT MOST 1048576: true; the input reads as it did. -/
def pulseAllUptoRow : OpenClaim := { program := "ytnjohdgdmnkjlaa", sum := "e2f03583ba4f04507e95043231a8b126128431ce370dc558c75d189550108110", func := "belfry/belfrylaw14.PulseAll", spec := "pulseAll", unfollowed := true, recurses := true, apart := false, narrowed := true }
def PulseAllUptoSaid : Prop := pulseAllUptoRow.holds Try.pinned (OpenSpec.upto pulseAllSpec)

/-- 'belfrylaw14.PulseExact', WHERE WHAT IT READS IS OF BULK AT MOST 1048576: true; the input reads as it did. -/
def pulseExactUptoRow : OpenClaim := { program := "ytnjohdgdmnkjlaa", sum := "e2f03583ba4f04507e95043231a8b126128431ce370dc558c75d189550108110", func := "belfry/belfrylaw14.PulseExact", spec := "pulseExact", unfollowed := true, recurses := true, apart := false, narrowed := true }
def PulseExactUptoSaid : Prop := pulseExactUptoRow.holds Try.pinned (OpenSpec.upto pulseExactSpec)

/-- 'belfrylaw14.PulseTurns', WHERE WHAT IT READS IS OF BULK AT MOST 1048576: true; the input reads as it did. -/
def pulseTurnsUptoRow : OpenClaim := { program := "ytnjohdgdmnkjlaa", sum := "e2f03583ba4f04507e95043231a8b126128431ce370dc558c75d189550108110", func := "belfry/belfrylaw14.PulseTurns", spec := "pulseTurns", unfollowed := true, recurses := true, apart := false, narrowed := true }
def PulseTurnsUptoSaid : Prop := pulseTurnsUptoRow.holds Try.pinned (OpenSpec.upto pulseTurnsSpec)

end Rows
end Go.Proofs.Ytnjohdgdmnkjlaa
