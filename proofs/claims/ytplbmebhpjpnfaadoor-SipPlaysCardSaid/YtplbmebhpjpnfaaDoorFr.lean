/-
  What the rows of layer 1 share: that the signs lie where the program's text lays them, out of the rows' own condition; a start that meets it. No conditions.
-/
import Derived.Test.YtplbmebhpjpnfaaDoorRows
import Derived.Test.YtplbmebhpjpnfaaDoorWd
import Derived.ProofKit
import Derived.LaidMore
import Derived.OpenShut
import Derived.ShutString
import Derived.Stop.Joined
import Derived.Lib.LaidTab
namespace Go.Proofs.YtplbmebhpjpnfaaDoor
open Go.ChangeShapes Go.WideShapes Go.ChangeAt Go.RowKit
open M

theorem own : ownKnob Tryd.prog.godebug = none := by kernel_rfl

def laidL : List (String × DataW Unit) := Rows.sipTurnsRow.laid
def signsName : String := match laidL with | x :: _ => x.1 | [] => ""
theorem gSigns : Tryd.prog.globalNamed signsName = some 0 := by kernel_rfl
theorem tSigns : (Tryd.prog.globals[0]?).map (·.type) = some 30 := by kernel_rfl
theorem cells27 : Tryd.prog.cellsOf 27 = 1 := by kernel_rfl
theorem cells30 : Tryd.prog.cellsOf 30 = 4 := by kernel_rfl

theorem signs_of {W : World} (h : laidMetH Tryd.prog laidL W) : Signs W := by
  rw [MakeChecks.laidMetH_plain _ _ _ (by kernel_rfl)] at h
  have h' : laidMet Tryd.prog ((signsName, Lib.tabData .u64 [8317987319222330741, 7237128888997146477, 7816392313619706465, 8387220255154660723]) :: []) W := h
  have hT := Lib.tabIs_of_head gSigns tSigns Tryd.underlying30 Tryd.underlying27 cells27 cells30 h'
  have e0 := un_lit 8317987319222330741 (by decide)
  have e1 := un_lit 7237128888997146477 (by decide)
  have e2 := un_lit 7816392313619706465 (by decide)
  have e3 := un_lit 8387220255154660723 (by decide)
  refine ⟨?_, ?_, ?_, ?_⟩
  · rw [e0]; exact hT.cell gSigns 0 (by decide)
  · rw [e1]; exact hT.cell gSigns 1 (by decide)
  · rw [e2]; exact hT.cell gSigns 2 (by decide)
  · rw [e3]; exact hT.cell gSigns 3 (by decide)

/-- The door's own heap meets the condition. -/
theorem door_met (os : Os) (args : Array Value) : laidMetH Tryd.prog laidL ((World.doorLaid Tryd.prog 400 os).forCall (fun _ _ => 0) ⟨#[], args, []⟩).memory :=
  laidMetH_of_parts3 (fuel := 8) (laidMet_of_run' 8 (by kernel_rfl) (by kernel_rfl)) (by kernel_rfl) (by kernel_rfl)

theorem word_of_wf {n : Int} (h : (Lit.int .u64 n).wf = true) : ∃ x, n = un x := by
  have := Go.bounds_u64 h
  exact ⟨_, un_of n this.1 (by omega)⟩
end Go.Proofs.YtplbmebhpjpnfaaDoor
