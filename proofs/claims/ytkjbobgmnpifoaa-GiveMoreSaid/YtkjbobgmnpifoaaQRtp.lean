/-
  Plain facts of layer 17: whether steps are right, whether numbers are small. No program is named here. No conditions but those that each fact names.
-/
import Derived.Test.YtkjbobgmnpifoaaQTi
import Derived.Test.YtkjbobgmnpifoaaQBh
namespace Go.Proofs.Ytkjbobgmnpifoaa
open Go.RowKit
open M
/-- Are all steps right? -/
def rt17 (l : List Int) : Bool := (List.range 8).all fun j => decide (0 ≤ l.getD j 0 ∧ l.getD j 0 ≤ 15)
/-- Is none of four too great? -/
def sm17 (l : List Int) : Bool := (List.range 4).all fun j => decide (-1048576 ≤ l.getD j 0 ∧ l.getD j 0 ≤ 1048576)
theorem rt_iff (l : List Int) : rt17 l = true ↔ ∀ j, j < 8 → 0 ≤ l.getD j 0 ∧ l.getD j 0 ≤ 15 := by
  unfold rt17
  rw [List.all_eq_true]
  exact ⟨fun h j hj => of_decide_eq_true (h j (List.mem_range.2 hj)), fun h j hj => decide_eq_true (h j (List.mem_range.1 hj))⟩
theorem sm_iff (l : List Int) : sm17 l = true ↔ ∀ j, j < 4 → -1048576 ≤ l.getD j 0 ∧ l.getD j 0 ≤ 1048576 := by
  unfold sm17
  rw [List.all_eq_true]
  exact ⟨fun h j hj => of_decide_eq_true (h j (List.mem_range.2 hj)), fun h j hj => decide_eq_true (h j (List.mem_range.1 hj))⟩
theorem b_no {b : Bool} {P : Prop} (h : b = true ↔ P) (k : ¬ P) : b = false := by
  cases b
  · rfl
  · exact absurd (h.1 rfl) k
end Go.Proofs.Ytkjbobgmnpifoaa
