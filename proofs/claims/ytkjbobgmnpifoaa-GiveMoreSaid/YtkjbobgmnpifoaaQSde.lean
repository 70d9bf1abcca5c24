/-
  Eight steps by value (api.Side): how they lie, their zero value, that == tells whether two are the same, their index. No conditions but those that each fact names. (Bne has the like under other names.)
-/
import Derived.Test.YtkjbobgmnpifoaaQSvi
namespace Go.Proofs.Ytkjbobgmnpifoaa
open Go.RowKit
open M
/-- Eight zeros. -/
def zs8 : List Int := List.replicate 8 0
theorem zs8_length : zs8.length = 8 := by unfold zs8; rw [List.length_replicate]
theorem sds_info : (Try.prog.info? 36).map (fun i => (i.zero, i.size)) = some (some (.agg (iCells zs8)), 8) := by kernel_rfl
theorem sds_zero (w : World) : (zeroValue 36).run Try.prog w = .ok (.agg (iCells zs8)) w := (zero_of_info sds_info).1 w
theorem sds_size (l : List Int) (h : l.length = 8) : (Try.prog.info? 36).map (·.size) = some (iCells l).size := by
  rw [iCells_size, h]; exact (zero_of_info sds_info).2
theorem i8_info : (Try.prog.info? 22).map (fun i => (i.zero, i.size)) = some (some (.agg (iCells zs8)), 8) := by kernel_rfl
theorem i8_zero (w : World) : (zeroValue 22).run Try.prog w = .ok (.agg (iCells zs8)) w := (zero_of_info i8_info).1 w
theorem i8_size (l : List Int) (h : l.length = 8) : (Try.prog.info? 22).map (·.size) = some (iCells l).size := by
  rw [iCells_size, h]; exact (zero_of_info i8_info).2
theorem sds_same (l m : List Int) (h : l.length = 8) (k : m.length = 8) : (iCells l).size = (iCells m).size := by
  rw [iCells_size, iCells_size, h, k]
theorem sds_eq (a b : List Int) (ha : a.length = 8) (hb : b.length = 8) (w : World) :
    (Op.equalIn 10000 36 (.agg (iCells a)) (.agg (iCells b))).run Try.prog w = .ok (a == b) w := by
  obtain ⟨i, hi⟩ := int_infoS
  rw [show (10000 : Nat) = 9998 + 1 + 1 from rfl, run_equalIn_array w (9998 + 1) _ _ Try.underlying36 hi, ints_itemsS 9998 a b w (by omega) _ (fun j hj => by have := List.mem_range.1 hj; omega), all_sameS a b (by omega) 8 ha.symm]
end Go.Proofs.Ytkjbobgmnpifoaa
