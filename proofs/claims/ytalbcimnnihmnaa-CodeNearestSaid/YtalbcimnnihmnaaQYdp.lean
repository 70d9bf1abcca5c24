/-
  pvq's Index, plain: what is left of a list behind p numbers; numbers that a walk wraps; a box's cell. No conditions but those that each fact names.
-/
import Derived.Test.YtalbcimnnihmnaaQS11
import Derived.Test.YtalbcimnnihmnaaQS5
import Derived.Deep.WholeRow
namespace Go.Proofs.Ytalbcimnnihmnaa
open Go.RowKit
open M
theorem drop_one (l : List Int) (p : Nat) (h : p < l.length) : l.drop p = l.getD p 0 :: l.drop (p + 1) := by
  rw [List.drop_eq_getElem_cons h, List.getD_eq_getElem?_getD, List.getElem?_eq_getElem h]
  rfl
theorem pl_drop (l : List Int) (p : Nat) (h : p < l.length) : pl13 (l.drop p) = (l.getD p 0).natAbs + pl13 (l.drop (p + 1)) := by
  rw [drop_one l p h]; rfl
theorem ix_drop (l : List Int) (p : Nat) (h : p < l.length) : ix13 (l.drop p) = ah (cn13 (l.length - 1 - p)) (pl13 (l.drop p)) (rk (l.getD p 0)) + ix13 (l.drop (p + 1)) := by
  rw [pl_drop l p h, drop_one l p h]
  show ah (cn13 (l.drop (p + 1)).length) _ _ + _ = _
  rw [List.length_drop, show l.length - (p + 1) = l.length - 1 - p by omega]
theorem pl_dropped (l : List Int) (p : Nat) : pl13 (l.drop p) ≤ pl13 l := by
  have h := pl_app (l.take p) (l.drop p)
  rw [List.take_append_drop] at h
  omega
theorem ix_le (a b : Nat) (h : a ≤ b) : (a : Int) ≤ (b : Int) := Int.ofNat_le.2 h
theorem ix_big (l : List Int) (h : l.length ≤ 8) (hp : pl13 l ≤ 12) : (ix13 l : Int) ≤ 152587890625 := by
  have h1 := ix_lt l
  exact Int.le_trans (ix_le _ _ (Nat.le_of_lt h1)) (cn_big _ _ h hp)
theorem unr_eq (r : Nat) (x : Int) : unr r = x ↔ r = rk x := by
  constructor
  · intro h; rw [← h, rk_unr]
  · intro h; rw [h, unr_rk]
theorem ah_one_more (f : Nat → Nat) (k r : Nat) : (ah f k (r + 1) : Int) = (ah f k r : Int) + (f (k - sz r) : Int) := Int.natCast_add _ _
theorem box_cell13 (w : World) (v : Value) (t : TypeId) : (w.alloc (.cells #[v] t)).cell? ⟨w.heap.size, 0, none⟩ = some v :=
  (cell_of_row _ _ 0 _ _ (0, 0) (row_new w _ rfl #[v] t)).trans rfl
theorem wi_sub (a b c : Nat) (h : a = b + c) (ha : a ≤ 1000000) : IntKind.i64.wrap ((a : Int) - (b : Int)) = (c : Int) := by rw [IntKind.wrap_i64]; omega
theorem wi_eq (x y : Int) (h : x = y) (h1 : 0 ≤ y) (h2 : y ≤ 152587890625) : IntKind.i64.wrap x = y := by subst h; rw [IntKind.wrap_i64]; omega
theorem wi_add (a b c : Nat) (h : c = a + b) (ha : c ≤ 152587890625) : IntKind.i64.wrap ((a : Int) + (b : Int)) = (c : Int) := by rw [IntKind.wrap_i64]; omega
/-- What Index answers. -/
def ixI (l : List Int) : Int := if 12 < pu13 l then 0 else (ix13 l : Int)
def ixE (l : List Int) : Int := if 12 < pu13 l then 7 else 0
end Go.Proofs.Ytalbcimnnihmnaa
