/-
  NARROWER THAN 'FOR EVERY INPUT', by the rows' own cells (each row's printed sentence says how): KeyedPeriod: laid · KeyedPlays: laid.
  DERIVED. THE GIVEN ROWS OF THIS SEAT. 2 by the template 'for every input the law returns true; each argument reads behind the call as it read before'; 0 by the template 'total and deterministic' (their statements: YtppkiponpjnkkaaDoorTotals.lean).
  GIVEN WITH THE SEED: the statements are not yours to turn. If you find one false, say at which input.
  Laid BY PROGRAM, IN A SANDBOX (cutbox-rows.mjs): the forced cells as the released guide's own fill.sh prints them over the translation 5dded4277a5ea636… (all of the seat's roots in one cut). By AI agents, Wed Nov 11 2026. No macro, syntax, notation, axiom, sorry.
-/
import Derived.Test.YtppkiponpjnkkaaDoorChecked
import GoSem.Claim
import GoSem.ClaimJoined
import GoSem.ClaimMapViews
import Derived.JoinedTies
import Derived.KernelRfl
namespace Go.Proofs.YtppkiponpjnkkaaDoor
/- THE CELL 'sum', in the pinned program and in every row, IS THE sha256 OF THE DUMP (.gsa) THAT YtppkiponpjnkkaaDoorProg.lean LOADS. Nothing in Lean hashes anything: it is a label: what it is worth is what the hold of that sum in a sandbox is worth. -/
noncomputable def Tryd.pinned : Pinned := { name := "ytppkiponpjnkkaadoor", sum := "5dded4277a5ea63645be233ba21fc4e191fe5c0616632b731a71d259e31574a1", checked := Tryd.checked }
namespace Rows
def none {H : Type} : Left H := { results := [], args := [] }

/- WHAT THE LISTED PACKAGE-LEVEL VARIABLES READ AS WHEN THE CALL BEGINS. Each datum BY PROGRAM (the guide's laid-datum.mjs) off the statement by which the dump's own 'gosem.cut.vars' lays the variable. In a bare row this is a premise. The card (YtppkiponpjnkkaaDoorCards.lean) ties it to the program's text. -/
def laid_belfry_sip_signs {H : Type} : DataW H := .agg [.lit (.int .u64 8317987319222330741), .lit (.int .u64 7237128888997146477), .lit (.int .u64 7816392313619706465), .lit (.int .u64 8387220255154660723)]

/-- 'belfrylaw02.KeyedPeriod': WHATEVER THE INPUT: true; the input reads as it did. -/
def keyedPeriodSpec : ChangeSpec := { name := "keyedPeriod", fn := fun _ => fun
  | [d1, d2, d3, d4, d5] => { results := [.lit (.bool true)], args := [d1, d2, d3, d4, d5] }
  | _ => none }
def keyedPeriodRow : OpenClaim := { program := "ytppkiponpjnkkaadoor", sum := "5dded4277a5ea63645be233ba21fc4e191fe5c0616632b731a71d259e31574a1", func := "belfry/belfrylaw02.KeyedPeriod", spec := "keyedPeriod", unfollowed := true, recurses := true, named := ["belfry/sip.signs"], apart := false, laid := [("belfry/sip.signs", laid_belfry_sip_signs)] }
def KeyedPeriodSaid : Prop := keyedPeriodRow.holds Tryd.pinned (OpenSpec.ofChange keyedPeriodSpec)

/-- ITS FALSE NEIGHBOUR: 'it returns false'. Refute it at one input. -/
def keyedPeriodWrong : ChangeSpec := { name := "keyedPeriod", fn := fun _ => fun
  | [d1, d2, d3, d4, d5] => { results := [.lit (.bool false)], args := [d1, d2, d3, d4, d5] }
  | _ => none }
def KeyedPeriodWrongFalsely : Prop := keyedPeriodRow.holds Tryd.pinned (OpenSpec.ofChange keyedPeriodWrong)

/-- 'belfrylaw02.KeyedPlays': WHATEVER THE INPUT: true; the input reads as it did. -/
def keyedPlaysSpec : ChangeSpec := { name := "keyedPlays", fn := fun _ => fun
  | [d1, d2, d3, d4, d5, d6] => { results := [.lit (.bool true)], args := [d1, d2, d3, d4, d5, d6] }
  | _ => none }
def keyedPlaysRow : OpenClaim := { program := "ytppkiponpjnkkaadoor", sum := "5dded4277a5ea63645be233ba21fc4e191fe5c0616632b731a71d259e31574a1", func := "belfry/belfrylaw02.KeyedPlays", spec := "keyedPlays", unfollowed := true, recurses := true, named := ["belfry/sip.signs"], apart := false, laid := [("belfry/sip.signs", laid_belfry_sip_signs)] }
def KeyedPlaysSaid : Prop := keyedPlaysRow.holds Tryd.pinned (OpenSpec.ofChange keyedPlaysSpec)

/-- ITS FALSE NEIGHBOUR: 'it returns false'. Refute it at one input. -/
def keyedPlaysWrong : ChangeSpec := { name := "keyedPlays", fn := fun _ => fun
  | [d1, d2, d3, d4, d5, d6] => { results := [.lit (.bool false)], args := [d1, d2, d3, d4, d5, d6] }
  | _ => none }
def KeyedPlaysWrongFalsely : Prop := keyedPlaysRow.holds Tryd.pinned (OpenSpec.ofChange keyedPlaysWrong)

/- THE SECOND FORM. 'bulk': how many values and letters a reading holds, each counted each time it is reached (what is shared counts as often as it is met; a slice's spare places count too). A statement '..UptoSaid' is the law's where the arguments, and the package variables that the reading takes, are together of bulk at most 1048576: NARROWER than '..Said'. Prove '..Said' where nothing that the law and all that it calls make is longer than what came in: it says more and counts as full. Else prove '..UptoSaid'. A law counts once. -/
mutual
def uptoBulk {H : Type} : DataW H → Nat
  | .lit (.string bytes) => bytes.length + 1
  | .lit _ => 1
  | .nil => 1
  | .ptr d => uptoBulk d + 1
  | .slice elems spare => uptoBulkAll elems + uptoBulkAll spare + 1
  | .agg parts => uptoBulkAll parts + 1
  | .iface _ d => uptoBulk d + 1
  | .map entries => uptoBulkEntries entries + 1
  | .held _ => 1
def uptoBulkAll {H : Type} : List (DataW H) → Nat
  | [] => 0
  | d :: r => uptoBulk d + uptoBulkAll r
def uptoBulkEntries {H : Type} : List (Lit × DataW H) → Nat
  | [] => 0
  | x :: r => uptoBulkEntry x + uptoBulkEntries r
def uptoBulkEntry {H : Type} : Lit × DataW H → Nat
  | (.string bytes, d) => bytes.length + uptoBulk d + 1
  | (_, d) => uptoBulk d + 1
 end
def uptoSmall : (H : Type) → List (DataW H) → Bool := fun _ ds => decide (uptoBulkAll ds ≤ 1048576)
def OpenSpec.upto (s : _root_.Go.ChangeSpec) : _root_.Go.OpenSpec := { _root_.Go.OpenSpec.ofChange s with cond := some uptoSmall }

/-- 'belfrylaw02.KeyedPeriod', WHERE WHAT IT READS IS OF BULK AT MOST 1048576: true; the input reads as it did. -/
def keyedPeriodUptoRow : OpenClaim := { program := "ytppkiponpjnkkaadoor", sum := "5dded4277a5ea63645be233ba21fc4e191fe5c0616632b731a71d259e31574a1", func := "belfry/belfrylaw02.KeyedPeriod", spec := "keyedPeriod", unfollowed := true, recurses := true, named := ["belfry/sip.signs"], apart := false, laid := [("belfry/sip.signs", laid_belfry_sip_signs)], narrowed := true }
def KeyedPeriodUptoSaid : Prop := keyedPeriodUptoRow.holds Tryd.pinned (OpenSpec.upto keyedPeriodSpec)

/-- 'belfrylaw02.KeyedPlays', WHERE WHAT IT READS IS OF BULK AT MOST 1048576: true; the input reads as it did. -/
def keyedPlaysUptoRow : OpenClaim := { program := "ytppkiponpjnkkaadoor", sum := "5dded4277a5ea63645be233ba21fc4e191fe5c0616632b731a71d259e31574a1", func := "belfry/belfrylaw02.KeyedPlays", spec := "keyedPlays", unfollowed := true, recurses := true, named := ["belfry/sip.signs"], apart := false, laid := [("belfry/sip.signs", laid_belfry_sip_signs)], narrowed := true }
def KeyedPlaysUptoSaid : Prop := keyedPlaysUptoRow.holds Tryd.pinned (OpenSpec.upto keyedPlaysSpec)

end Rows
end Go.Proofs.YtppkiponpjnkkaaDoor
