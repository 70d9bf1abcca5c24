/-
  A row stays, when another one is laid and filled; == of eight ints. No conditions but those that each fact names.
-/
import Derived.Test.YtkjbobgmnpifoaaQSde
namespace Go.Proofs.Ytkjbobgmnpifoaa
open Go.RowKit
open M
/-- A row stays, when another one is laid and filled. -/
theorem row_laid {W : World} {g : Nat} {t : TypeId} {cs : Array Value} (h : Row W g t cs) (o : Obj) (ds : Array Value) : Row ((W.alloc o).setRow W.heap.size ds) g t cs :=
  (setRow_other _ _ _ _ (Nat.ne_of_lt (Row.lt h))).trans (Row.alloc h _)
theorem below_laid {w W : World} (h : Below w.heap.size w W) (o : Obj) (ds : Array Value) : Below w.heap.size w ((W.alloc o).setRow W.heap.size ds) :=
  below_setRow (h.alloc h.size o) h.size ds
theorem eight_eq (a b : List Int) (ha : a.length = 8) (hb : b.length = 8) (w : World) :
    (Op.equalIn 10000 22 (.agg (iCells a)) (.agg (iCells b))).run Try.prog w = .ok (a == b) w := by
  obtain ⟨i, hi⟩ := int_infoS
  rw [show (10000 : Nat) = 9998 + 1 + 1 from rfl, run_equalIn_array w (9998 + 1) _ _ Try.underlying22 hi, ints_itemsS 9998 a b w (by omega) _ (fun j hj => by have := List.mem_range.1 hj; omega), all_sameS a b (by omega) 8 ha.symm]
end Go.Proofs.Ytkjbobgmnpifoaa
