/-
  Numbers as values. No conditions but those that each fact names.
-/
import Derived.Test.YtkjbobgmnpifoaaQBh
namespace Go.Proofs.Ytkjbobgmnpifoaa
open Go.RowKit
open M
/-- Numbers as values. -/
def iV (l : List Int) : List Value := l.map fun x => Value.int .i64 x
theorem iV_len (l : List Int) : (iV l).length = l.length := by simp [iV]
theorem iV_get (l : List Int) (i : Nat) (h : i < l.length) : (iV l)[i]? = some (.int .i64 (l.getD i 0)) := by
  simp [iV, List.getD_eq_getElem?_getD, h]
theorem iV_one (l : List Int) : ∀ u ∈ iV l, u.oneCell' = true := by
  intro u hu
  obtain ⟨x, _, rfl⟩ := List.mem_map.1 hu
  rfl
theorem iV_app (l m : List Int) : iV (l ++ m) = iV l ++ iV m := by simp [iV]
theorem take_snoc (l : List Int) (k : Nat) (h : k < l.length) : l.take (k + 1) = l.take k ++ [l.getD k 0] := by
  rw [List.take_add_one, List.getD_eq_getElem?_getD, List.getElem?_eq_getElem h]
  rfl
theorem iV_snoc (l : List Int) (k : Nat) (h : k < l.length) : iV (l.take (k + 1)) = iV (l.take k) ++ [.int .i64 (l.getD k 0)] := by
  rw [take_snoc l k h, iV_app]
  rfl
end Go.Proofs.Ytkjbobgmnpifoaa
