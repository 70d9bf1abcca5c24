/-
  Lists of ints as they lie, cell by cell. No conditions.
-/
import Derived.Test.YtkjbobgmnpifoaaQBh
namespace Go.Proofs.Ytkjbobgmnpifoaa
open Go.RowKit
open M
/-- A list of ints, as it lies. -/
def iCells (l : List Int) : Array Value := (l.map fun x => Value.int .i64 x).toArray
theorem iCells_size (l : List Int) : (iCells l).size = l.length := by simp [iCells]
theorem iCells_get (l : List Int) (i : Nat) (h : i < l.length) : (iCells l)[i]? = some (.int .i64 (l.getD i 0)) := by
  simp [iCells, List.getD_eq_getElem?_getD, h]
theorem iCells_set (l : List Int) (i : Nat) (x : Int) : (iCells l).setIfInBounds i (.int .i64 x) = iCells (l.set i x) := by
  simp [iCells, List.map_set]
theorem iCells_one (l : List Int) : (iCells l).all (·.oneCell') = true := by
  simp [iCells, Value.oneCell']
theorem i_at {w : World} {g : Nat} {l : List Int} {t : TypeId} (h : Row w g t (iCells l)) (i : Nat) (hi : i < l.length) : w.cell? ⟨g, i, none⟩ = some (.int .i64 (l.getD i 0)) :=
  (cell_of_row w g i (iCells l) t (0, 0) h).trans (iCells_get l i hi)
end Go.Proofs.Ytkjbobgmnpifoaa
