/-
  Pulses of a list, plain: parts of it, how many at most. No conditions but those that each fact names.
-/
import Derived.Test.YtkjbobgmnpifoaaQY1
namespace Go.Proofs.Ytkjbobgmnpifoaa
open Go.RowKit
open M
theorem pl_app (l m : List Int) : pl13 (l ++ m) = pl13 l + pl13 m := by
  induction l with
  | nil => simp [pl13]
  | cons x r ih => rw [List.cons_append]; show x.natAbs + _ = x.natAbs + _ + _; rw [ih]; omega
theorem pl_take (l : List Int) (k : Nat) (h : k < l.length) : pl13 (l.take (k + 1)) = pl13 (l.take k) + (l.getD k 0).natAbs := by
  rw [List.take_add_one, List.getD_eq_getElem?_getD, List.getElem?_eq_getElem h, pl_app]
  rfl
theorem pl_one (l : List Int) (k : Nat) (h : k < l.length) : (l.getD k 0).natAbs ≤ pl13 l := by
  have h1 := pl_take l k h
  have h2 := pl_app (l.take (k + 1)) (l.drop (k + 1))
  rw [List.take_append_drop] at h2
  omega
/-- How many pulses, as Pulses tells. -/
def pu13 (l : List Int) : Nat := if l.length ≤ 8 then min (pl13 l) 13 else 13
theorem pu_far (l : List Int) (k : Nat) (h : k < l.length) (h2 : l.getD k 0 < -12 ∨ l.getD k 0 > 12) : pu13 l = 13 := by
  have := pl_one l k h
  unfold pu13
  split <;> omega
theorem pu_long (l : List Int) (h : 8 < l.length) : pu13 l = 13 := if_neg (by omega)
theorem pu_in (l : List Int) (h : l.length ≤ 8) : pu13 l = min (pl13 l) 13 := if_pos h
end Go.Proofs.Ytkjbobgmnpifoaa
