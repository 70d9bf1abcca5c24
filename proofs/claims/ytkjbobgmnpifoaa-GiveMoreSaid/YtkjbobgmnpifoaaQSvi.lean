/-
  Ints by value, one behind the other: that == tells whether two lists of them are the same. No conditions but those that each fact names.
-/
import Derived.Test.YtkjbobgmnpifoaaQDi
import Derived.Test.YtkjbobgmnpifoaaQBh
import Derived.Deep.WholeRow
import Derived.DeepKeys
namespace Go.Proofs.Ytkjbobgmnpifoaa
open Go.RowKit
open M
theorem int_isS : (Try.prog.info? 3).isSome = true := by kernel_rfl
theorem int_infoS : ∃ i, Try.prog.info? 3 = some i := by
  cases h : Try.prog.info? 3 with
  | some i => exact ⟨i, rfl⟩
  | none =>
    have := int_isS
    rw [h] at this; cases this
theorem plain_intS : Try.prog.plainKey 3 = true := by kernel_rfl
theorem cells_intS : Try.prog.cellsOf 3 = 1 := by kernel_rfl
theorem ints_itemsS (d : Nat) (a b : List Int) (w : World) (hl : a.length = b.length) : ∀ is : List Nat, (∀ i ∈ is, i < a.length) →
    (Op.eqItems (d + 1) 3 (Try.prog.cellsOf 3) (iCells a) (iCells b) is).run Try.prog w = .ok (is.all fun i => a.getD i 0 == b.getD i 0) w
  | [], _ => by simp [Op.eqItems]
  | i :: is, h => by
    have ih := ints_itemsS d a b w hl is fun j hj => h j (List.mem_cons_of_mem _ hj)
    have hi := h i (List.mem_cons_self ..)
    have p1 := run_part_plain w plain_intS (iCells_get a i hi)
    have p2 := run_part_plain w plain_intS (iCells_get b i (by omega))
    rw [cells_intS] at ih ⊢
    simp only [Op.eqItems, Sem.run_bind, Nat.mul_one, p1, p2, Result.andThen_ok, run_equalIn_int w d 3 .i64 .i64 _ _ Try.underlying3, List.all_cons]
    cases a.getD i 0 == b.getD i 0
    · simp
    · simpa using ih
theorem all_sameS (a b : List Int) (h : a.length = b.length) (n : Nat) (hn : n = a.length) : ((List.range n).all fun i => a.getD i 0 == b.getD i 0) = (a == b) := by
  subst hn
  rw [Bool.eq_iff_iff, List.all_eq_true, beq_iff_eq]
  constructor
  · intro k
    apply List.ext_getElem h
    intro i h1 h2
    have := k i (List.mem_range.2 h1)
    rw [List.getD_eq_getElem?_getD, List.getD_eq_getElem?_getD, List.getElem?_eq_getElem h1, List.getElem?_eq_getElem h2] at this
    simpa using this
  · rintro rfl i _
    simp
end Go.Proofs.Ytkjbobgmnpifoaa
