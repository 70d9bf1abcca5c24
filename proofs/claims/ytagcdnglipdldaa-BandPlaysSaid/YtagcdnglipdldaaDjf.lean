/-
  Frames by value: how they lie, their zero value, that == tells whether they are the same. No conditions.
-/
import Derived.Test.YtagcdnglipdldaaDi
import Derived.Test.YtagcdnglipdldaaBh
import Derived.Deep.WholeRow
import Derived.DeepKeys
namespace Go.Proofs.Ytagcdnglipdldaa
open Go.RowKit
open M
/-- Frame of nothing; wheel of nothing. -/
def f0 : List Int := List.replicate 32 0
theorem f0_length : f0.length = 32 := by unfold f0; rw [List.length_replicate]
theorem frame_info : (Try.prog.info? 25).map (fun i => (i.zero, i.size)) = some (some (.agg (iCells f0)), 32) := by kernel_rfl
theorem nums_info : (Try.prog.info? 22).map (fun i => (i.zero, i.size)) = some (some (.agg (iCells f0)), 32) := by kernel_rfl
theorem frame_zero (w : World) : (zeroValue 25).run Try.prog w = .ok (.agg (iCells f0)) w := (zero_of_info frame_info).1 w
theorem nums_zero (w : World) : (zeroValue 22).run Try.prog w = .ok (.agg (iCells f0)) w := (zero_of_info nums_info).1 w
theorem frame_size (l : List Int) (h : l.length = 32) : (Try.prog.info? 25).map (·.size) = some (iCells l).size := by
  rw [iCells_size, h]; exact (zero_of_info frame_info).2
theorem nums_size (l : List Int) (h : l.length = 32) : (Try.prog.info? 22).map (·.size) = some (iCells l).size := by
  rw [iCells_size, h]; exact (zero_of_info nums_info).2
theorem frame_same (l m : List Int) (h : l.length = 32) (k : m.length = 32) : (iCells l).size = (iCells m).size := by
  rw [iCells_size, iCells_size, h, k]
theorem int_is : (Try.prog.info? 3).isSome = true := by kernel_rfl
theorem int_info32 : ∃ i, Try.prog.info? 3 = some i := by
  cases h : Try.prog.info? 3 with
  | some i => exact ⟨i, rfl⟩
  | none =>
    have := int_is
    rw [h] at this; cases this
theorem plain_int : Try.prog.plainKey 3 = true := by kernel_rfl
theorem cells_int : Try.prog.cellsOf 3 = 1 := by kernel_rfl
theorem ints_items (d : Nat) (a b : List Int) (w : World) (hl : a.length = b.length) : ∀ is : List Nat, (∀ i ∈ is, i < a.length) →
    (Op.eqItems (d + 1) 3 (Try.prog.cellsOf 3) (iCells a) (iCells b) is).run Try.prog w = .ok (is.all fun i => a.getD i 0 == b.getD i 0) w
  | [], _ => by simp [Op.eqItems]
  | i :: is, h => by
    have ih := ints_items d a b w hl is fun j hj => h j (List.mem_cons_of_mem _ hj)
    have hi := h i (List.mem_cons_self ..)
    have p1 := run_part_plain w plain_int (iCells_get a i hi)
    have p2 := run_part_plain w plain_int (iCells_get b i (by omega))
    rw [cells_int] at ih ⊢
    simp only [Op.eqItems, Sem.run_bind, Nat.mul_one, p1, p2, Result.andThen_ok, run_equalIn_int w d 3 .i64 .i64 _ _ Try.underlying3, List.all_cons]
    cases a.getD i 0 == b.getD i 0
    · simp
    · simpa using ih
theorem all_same (a b : List Int) (h : a.length = b.length) (n : Nat) (hn : n = a.length) : ((List.range n).all fun i => a.getD i 0 == b.getD i 0) = (a == b) := by
  subst hn
  rw [Bool.eq_iff_iff, List.all_eq_true, beq_iff_eq]
  constructor
  · intro k
    apply List.ext_getElem h
    intro i h1 h2
    have := k i (List.mem_range.2 h1)
    rw [List.getD_eq_getElem?_getD, List.getD_eq_getElem?_getD, List.getElem?_eq_getElem h1, List.getElem?_eq_getElem h2] at this
    simpa using this
  · rintro rfl i _
    simp
theorem frame_eq (a b : List Int) (ha : a.length = 32) (hb : b.length = 32) (w : World) :
    (Op.equalIn 10000 25 (.agg (iCells a)) (.agg (iCells b))).run Try.prog w = .ok (a == b) w := by
  obtain ⟨i, hi⟩ := int_info32
  rw [show (10000 : Nat) = 9998 + 1 + 1 from rfl, run_equalIn_array w (9998 + 1) _ _ Try.underlying25 hi, ints_items 9998 a b w (by omega) _ (fun j hj => by have := List.mem_range.1 hj; omega), all_same a b (by omega) 32 ha.symm]
theorem index_frame (l : List Int) (hl : l.length = 32) (k : Nat) (hk : k < 32) (w : World) :
    (Instr.index 25 (.agg (iCells l)) (.int .i64 k)).run Try.prog w = .ok (.int .i64 (l.getD k 0)) w := by
  obtain ⟨i, hi, _, _, _⟩ := info_parts int_info
  have c := iCells_get l k (by omega)
  simp [Instr.index, run_underlying Try.underlying25, asIntOf, hk, run_sizeOf w hi, cells_int, c, go_sem]
end Go.Proofs.Ytagcdnglipdldaa
