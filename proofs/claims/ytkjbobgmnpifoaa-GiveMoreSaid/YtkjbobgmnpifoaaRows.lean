/-
  No cell of these rows narrows 'for every input' (looked for: loops, veiled, ifaces, maps, wideKeys, modest, calm, conditions, laid).
  DERIVED. THE GIVEN ROWS OF THIS SEAT. 4 by the template 'for every input the law returns true; each argument reads behind the call as it read before'; 0 by the template 'total and deterministic' (their statements: YtkjbobgmnpifoaaTotals.lean).
  GIVEN WITH THE SEED: the statements are not yours to turn. If you find one false, say at which input.
  Laid BY PROGRAM, IN A SANDBOX (cutbox-rows.mjs): the forced cells as the released guide's own fill.sh prints them over the translation a945095e704f663a… (all of the seat's roots in one cut). By AI agents, Wed Nov 11 2026. No macro, syntax, notation, axiom, sorry.
-/
import Derived.Test.YtkjbobgmnpifoaaChecked
import GoSem.Claim
import GoSem.ClaimJoined
import GoSem.ClaimMapViews
import Derived.JoinedTies
import Derived.KernelRfl
namespace Go.Proofs.Ytkjbobgmnpifoaa
/- THE CELL 'sum', in the pinned program and in every row, IS THE sha256 OF THE DUMP (.gsa) THAT YtkjbobgmnpifoaaProg.lean LOADS. Nothing in Lean hashes anything: it is a label: what it is worth is what the hold of that sum in a sandbox is worth. -/
noncomputable def Try.pinned : Pinned := { name := "ytkjbobgmnpifoaa", sum := "a945095e704f663af48d850402719186d3b798b90ab2bb3eefb88093e6b65d27", checked := Try.checked }
namespace Rows
def none {H : Type} : Left H := { results := [], args := [] }

/-- 'belfrylaw18.GiveFits': WHATEVER THE INPUT: true; the input reads as it did. -/
def giveFitsSpec : ChangeSpec := { name := "giveFits", fn := fun _ => fun
  | [d1, d2] => { results := [.lit (.bool true)], args := [d1, d2] }
  | _ => none }
def giveFitsRow : OpenClaim := { program := "ytkjbobgmnpifoaa", sum := "a945095e704f663af48d850402719186d3b798b90ab2bb3eefb88093e6b65d27", func := "belfry/belfrylaw18.GiveFits", spec := "giveFits", unfollowed := true, recurses := true, apart := false }
def GiveFitsSaid : Prop := giveFitsRow.holds Try.pinned (OpenSpec.ofChange giveFitsSpec)

/-- ITS FALSE NEIGHBOUR: 'it returns false'. Refute it at one input. -/
def giveFitsWrong : ChangeSpec := { name := "giveFits", fn := fun _ => fun
  | [d1, d2] => { results := [.lit (.bool false)], args := [d1, d2] }
  | _ => none }
def GiveFitsWrongFalsely : Prop := giveFitsRow.holds Try.pinned (OpenSpec.ofChange giveFitsWrong)

/-- 'belfrylaw18.GiveLouder': WHATEVER THE INPUT: true; the input reads as it did. -/
def giveLouderSpec : ChangeSpec := { name := "giveLouder", fn := fun _ => fun
  | [d1, d2, d3] => { results := [.lit (.bool true)], args := [d1, d2, d3] }
  | _ => none }
def giveLouderRow : OpenClaim := { program := "ytkjbobgmnpifoaa", sum := "a945095e704f663af48d850402719186d3b798b90ab2bb3eefb88093e6b65d27", func := "belfry/belfrylaw18.GiveLouder", spec := "giveLouder", unfollowed := true, recurses := true, apart := false }
def GiveLouderSaid : Prop := giveLouderRow.holds Try.pinned (OpenSpec.ofChange giveLouderSpec)

/-- ITS FALSE NEIGHBOUR: 'it returns false'. Refute it at one input. -/
def giveLouderWrong : ChangeSpec := { name := "giveLouder", fn := fun _ => fun
  | [d1, d2, d3] => { results := [.lit (.bool false)], args := [d1, d2, d3] }
  | _ => none }
def GiveLouderWrongFalsely : Prop := giveLouderRow.holds Try.pinned (OpenSpec.ofChange giveLouderWrong)

/-- 'belfrylaw18.GivePlays': WHATEVER THE INPUT: true; the input reads as it did. -/
def givePlaysSpec : ChangeSpec := { name := "givePlays", fn := fun _ => fun
  | [d1, d2, d3] => { results := [.lit (.bool true)], args := [d1, d2, d3] }
  | _ => none }
def givePlaysRow : OpenClaim := { program := "ytkjbobgmnpifoaa", sum := "a945095e704f663af48d850402719186d3b798b90ab2bb3eefb88093e6b65d27", func := "belfry/belfrylaw18.GivePlays", spec := "givePlays", unfollowed := true, recurses := true, apart := false }
def GivePlaysSaid : Prop := givePlaysRow.holds Try.pinned (OpenSpec.ofChange givePlaysSpec)

/-- ITS FALSE NEIGHBOUR: 'it returns false'. Refute it at one input. -/
def givePlaysWrong : ChangeSpec := { name := "givePlays", fn := fun _ => fun
  | [d1, d2, d3] => { results := [.lit (.bool false)], args := [d1, d2, d3] }
  | _ => none }
def GivePlaysWrongFalsely : Prop := givePlaysRow.holds Try.pinned (OpenSpec.ofChange givePlaysWrong)

/-- 'belfrylaw18.GiveMore': WHATEVER THE INPUT: true; the input reads as it did. -/
def giveMoreSpec : ChangeSpec := { name := "giveMore", fn := fun _ => fun
  | [d1, d2] => { results := [.lit (.bool true)], args := [d1, d2] }
  | _ => none }
def giveMoreRow : OpenClaim := { program := "ytkjbobgmnpifoaa", sum := "a945095e704f663af48d850402719186d3b798b90ab2bb3eefb88093e6b65d27", func := "belfry/belfrylaw18.GiveMore", spec := "giveMore", unfollowed := true, recurses := true, apart := false }
def GiveMoreSaid : Prop := giveMoreRow.holds Try.pinned (OpenSpec.ofChange giveMoreSpec)

/-- ITS FALSE NEIGHBOUR: 'it returns false'. Refute it at one input. -/
def giveMoreWrong : ChangeSpec := { name := "giveMore", fn := fun _ => fun
  | [d1, d2] => { results := [.lit (.bool false)], args := [d1, d2] }
  | _ => none }
def GiveMoreWrongFalsely : Prop := giveMoreRow.holds Try.pinned (OpenSpec.ofChange giveMoreWrong)

/- THE SECOND FORM. 'bulk': how many values and letters a reading holds, each counted each time it is reached (what is shared counts as often as it is met; a slice's spare places count too). A statement '..UptoSaid' is the law's where the arguments, and the package variables that the reading takes, are together of bulk at most 1048576: NARROWER than '..Said'. Prove '..Said' where nothing that the law and all that it calls make is longer than what came in: it says more and counts as full. Else prove '..UptoSaid'. A law counts once. -/
mutual
def uptoBulk {H : Type} : DataW H → Nat
  | .lit (.string bytes) => bytes.length + 1
  | .lit _ => 1
  | .nil => 1
  | .ptr d => uptoBulk d + 1
  | .slice elems spare => uptoBulkAll elems + uptoBulkAll spare + 1
  | .agg parts => uptoBulkAll parts + 1
  | .iface _ d => uptoBulk d + 1
  | .map entries => uptoBulkEntries entries + 1
  | .held _ => 1
def uptoBulkAll {H : Type} : List (DataW H) → Nat
  | [] => 0
  | d :: r => uptoBulk d + uptoBulkAll r
def uptoBulkEntries {H : Type} : List (Lit × DataW H) → Nat
  | [] => 0
  | x :: r => uptoBulkEntry x + uptoBulkEntries r
def uptoBulkEntry {H : Type} : Lit × DataW H → Nat
  | (.string bytes, d) => bytes.length + uptoBulk d + 1
  | (_, d) => uptoBulk d + 1
 end
def uptoSmall : (H : Type) → List (DataW H) → Bool := fun _ ds => decide (uptoBulkAll ds ≤ 1048576)
def OpenSpec.upto (s : _root_.Go.ChangeSpec) : _root_.Go.OpenSpec := { _root_.Go.OpenSpec.ofChange s with cond := some uptoSmall }

/-- 'belfrylaw18.GiveFits', WHERE WHAT IT READS IS OF BULK AT MOST 1048576: true; the input reads as it did. -/
def giveFitsUptoRow : OpenClaim := { program := "ytkjbobgmnpifoaa", sum := "a945095e704f663af48d850402719186d3b798b90ab2bb3eefb88093e6b65d27", func := "belfry/belfrylaw18.GiveFits", spec := "giveFits", unfollowed := true, recurses := true, apart := false, narrowed := true }
def GiveFitsUptoSaid : Prop := giveFitsUptoRow.holds Try.pinned (OpenSpec.upto giveFitsSpec)

/-- 'belfrylaw18.GiveLouder', WHERE WHAT IT READS IS OF BULK AT MOST 1048576: true; the input reads as it did. -/
def giveLouderUptoRow : OpenClaim := { program := "ytkjbobgmnpifoaa", sum := "a945095e704f663af48d850402719186d3b798b90ab2bb3eefb88093e6b65d27", func := "belfry/belfrylaw18.GiveLouder", spec := "giveLouder", unfollowed := true, recurses := true, apart := false, narrowed := true }
def GiveLouderUptoSaid : Prop := giveLouderUptoRow.holds Try.pinned (OpenSpec.upto giveLouderSpec)

/-- 'belfrylaw18.GivePlays', WHERE WHAT IT READS IS OF BULK AT MOST 1048576: true; the input reads as it did. -/
def givePlaysUptoRow : OpenClaim := { program := "ytkjbobgmnpifoaa", sum := "a945095e704f663af48d850402719186d3b798b90ab2bb3eefb88093e6b65d27", func := "belfry/belfrylaw18.GivePlays", spec := "givePlays", unfollowed := true, recurses := true, apart := false, narrowed := true }
def GivePlaysUptoSaid : Prop := givePlaysUptoRow.holds Try.pinned (OpenSpec.upto givePlaysSpec)

/-- 'belfrylaw18.GiveMore', WHERE WHAT IT READS IS OF BULK AT MOST 1048576: true; the input reads as it did. -/
def giveMoreUptoRow : OpenClaim := { program := "ytkjbobgmnpifoaa", sum := "a945095e704f663af48d850402719186d3b798b90ab2bb3eefb88093e6b65d27", func := "belfry/belfrylaw18.GiveMore", spec := "giveMore", unfollowed := true, recurses := true, apart := false, narrowed := true }
def GiveMoreUptoSaid : Prop := giveMoreUptoRow.holds Try.pinned (OpenSpec.upto giveMoreSpec)

end Rows
end Go.Proofs.Ytkjbobgmnpifoaa
