/-
  Words of 127 bits by value: how they lie, that == tells whether they are the same, the zero values of layer 5's arrays. No conditions.
-/
import Derived.Test.YtbokecpcefcimaaFi
import Derived.Test.YtbokecpcefcimaaFv
import Derived.Test.YtbokecpcefcimaaHg
import Derived.Deep.WholeRow
import Derived.DeepKeys
namespace Go.Proofs.Ytbokecpcefcimaa
open Go.RowKit
open M

def boolCells (l : List Bool) : Array Value := (l.map fun x => Value.bool x).toArray
theorem boolCells_size (l : List Bool) : (boolCells l).size = l.length := by simp [boolCells]
theorem boolCells_get (l : List Bool) (i : Nat) (h : i < l.length) : (boolCells l)[i]? = some (.bool (l.getD i false)) := by
  simp [boolCells, h]
theorem boolCells_set (l : List Bool) (i : Nat) (x : Bool) : (boolCells l).setIfInBounds i (.bool x) = boolCells (l.set i x) := by
  simp [boolCells, List.map_set]
theorem boolCells_one (l : List Bool) : (boolCells l).all (·.oneCell') = true := by
  simp [boolCells, Value.oneCell']
theorem natCells_one (l : List Nat) : (natCells l).all (·.oneCell') = true := by
  simp [natCells, Value.oneCell']
theorem word_at {w : World} {g : Nat} {l : List Bool} {t : TypeId} (h : Row w g t (boolCells l)) (i : Nat) (hi : i < l.length) : w.cell? ⟨g, i, none⟩ = some (.bool (l.getD i false)) :=
  (cell_of_row _ _ _ _ _ _ h).trans (boolCells_get l i hi)
theorem nat_at {w : World} {g : Nat} {l : List Nat} {t : TypeId} (h : Row w g t (natCells l)) (i : Nat) (hi : i < l.length) : w.cell? ⟨g, i, none⟩ = some (.int .i64 (l.getD i 0 : Nat)) :=
  (cell_of_row _ _ _ _ _ _ h).trans (natCells_get l i hi)
/-- No bit. -/
def w0 : List Bool := List.replicate 127 false
theorem w0_length : w0.length = 127 := by unfold w0; rw [List.length_replicate]
/-- None of the 128 met. -/
def m0 : List Bool := List.replicate 128 false
theorem m0_length : m0.length = 128 := by unfold m0; rw [List.length_replicate]
/-- 127 numbers, all 0. -/
def n0 : List Nat := List.replicate 127 0
theorem n0_length : n0.length = 127 := by unfold n0; rw [List.length_replicate]

theorem word_zero_info : (Try.prog.info? 32).map (fun i => (i.zero, i.size)) = some (some (.agg (boolCells w0)), 127) := by kernel_rfl
theorem arr_zero_info : (Try.prog.info? 25).map (fun i => (i.zero, i.size)) = some (some (.agg (boolCells w0)), 127) := by kernel_rfl
theorem met_zero_info : (Try.prog.info? 68).map (fun i => (i.zero, i.size)) = some (some (.agg (boolCells m0)), 128) := by kernel_rfl
theorem num_zero_info : (Try.prog.info? 47).map (fun i => (i.zero, i.size)) = some (some (.agg (natCells n0)), 127) := by kernel_rfl
theorem word_zero (w : World) : (zeroValue 32).run Try.prog w = .ok (.agg (boolCells w0)) w := (zero_of_info word_zero_info).1 w
theorem arr_zero (w : World) : (zeroValue 25).run Try.prog w = .ok (.agg (boolCells w0)) w := (zero_of_info arr_zero_info).1 w
theorem met_zero (w : World) : (zeroValue 68).run Try.prog w = .ok (.agg (boolCells m0)) w := (zero_of_info met_zero_info).1 w
theorem num_zero (w : World) : (zeroValue 47).run Try.prog w = .ok (.agg (natCells n0)) w := (zero_of_info num_zero_info).1 w
theorem word_size (l : List Bool) (h : l.length = 127) : (Try.prog.info? 32).map (·.size) = some (boolCells l).size := by
  rw [boolCells_size, h]; exact (zero_of_info word_zero_info).2
theorem arr_size (l : List Bool) (h : l.length = 127) : (Try.prog.info? 25).map (·.size) = some (boolCells l).size := by
  rw [boolCells_size, h]; exact (zero_of_info arr_zero_info).2

theorem store_word (w : World) (l : List Bool) (h : l.length = 127) : (storeCells ⟨w.heap.size, 0, none⟩ (boolCells l).toList 0).run Try.prog (w.alloc (.cells (boolCells w0) 32)) = .ok () (w.alloc (.cells (boolCells l) 32)) :=
  run_storeCells_new w _ _ _ (word_size l h) (by rw [boolCells_size, boolCells_size, h, w0_length]) (boolCells_one l)
theorem store_arr (w : World) (l : List Bool) (h : l.length = 127) : (storeCells ⟨w.heap.size, 0, none⟩ (boolCells l).toList 0).run Try.prog (w.alloc (.cells (boolCells w0) 25)) = .ok () (w.alloc (.cells (boolCells l) 25)) :=
  run_storeCells_new w _ _ _ (arr_size l h) (by rw [boolCells_size, boolCells_size, h, w0_length]) (boolCells_one l)
/-- A whole array is read in a statement that draws its order and changes nothing that was there. -/
theorem quiet_load_row {P : Program} {C : World → Prop} {a : Act} {o : Oper} {K : Act → Prop} (ty : TypeId) (x : Operand) (ho : o.op = .load ty x) (g : Nat) (hx : a.eval x = .pointer (some ⟨g, 0, none⟩)) (t : TypeId) (cs : Array Value) (fr : Nat × Nat) (d : TypeDesc)
    (hC : ∀ w, C w → w.heap[g]? = some (.cells cs t fr)) (hu : P.underlying ty = some d) (hd : (match d with | .struct _ | .array _ _ => true | _ => false) = true) (hi : (P.info? ty).map (·.size) = some cs.size)
    (hk : K (a.put o.dst (.agg cs))) : o.quiet P a C K :=
  ⟨_, fun w hw => by
    unfold Oper.quietAt execOp
    simp only [ho, hx, Instr.loadAt, Instr.sureAddr, Sem.run_bind, Sem.run_pure, Result.andThen_ok, run_loadVar_row w g t ty cs fr d (hC w hw) hu hd hi]
    exact ⟨rfl, rfl⟩, hk⟩
theorem plain_bool : Try.prog.plainKey 4 = true := by kernel_rfl
theorem cells_bool : Try.prog.cellsOf 4 = 1 := by kernel_rfl
theorem bools_items (d : Nat) (a b : List Bool) (w : World) (hl : a.length = b.length) : ∀ is : List Nat, (∀ i ∈ is, i < a.length) →
    (Op.eqItems (d + 1) 4 (Try.prog.cellsOf 4) (boolCells a) (boolCells b) is).run Try.prog w = .ok (is.all fun i => a.getD i false == b.getD i false) w
  | [], _ => by simp [Op.eqItems]
  | i :: is, h => by
    have ih := bools_items d a b w hl is fun j hj => h j (List.mem_cons_of_mem _ hj)
    have hi := h i (List.mem_cons_self ..)
    have p1 := run_part_plain w plain_bool (boolCells_get a i hi)
    have p2 := run_part_plain w plain_bool (boolCells_get b i (by omega))
    rw [cells_bool] at ih ⊢
    simp only [Op.eqItems, Sem.run_bind, Nat.mul_one, p1, p2, Result.andThen_ok, run_equalIn_bool w d 4 _ _ Try.underlying4, List.all_cons]
    cases a.getD i false == b.getD i false
    · simp
    · simpa using ih
theorem all_range (a b : List Bool) (h : a.length = b.length) (n : Nat) (hn : n = a.length) : ((List.range n).all fun i => a.getD i false == b.getD i false) = (a == b) := by
  subst hn
  rw [Bool.eq_iff_iff, List.all_eq_true, beq_iff_eq]
  constructor
  · intro k
    apply List.ext_getElem h
    intro i h1 h2
    have := k i (List.mem_range.2 h1)
    rw [List.getD_eq_getElem?_getD, List.getD_eq_getElem?_getD, List.getElem?_eq_getElem h1, List.getElem?_eq_getElem h2] at this
    simpa using this
  · rintro rfl i _
    simp
theorem word_info? : ∃ i, Try.prog.info? 4 = some i := by
  cases h : Try.prog.info? 4 with
  | some i => exact ⟨i, rfl⟩
  | none =>
    have : (Try.prog.info? 4).isSome = true := by kernel_rfl
    rw [h] at this; cases this
theorem word_eq (a b : List Bool) (ha : a.length = 127) (hb : b.length = 127) (w : World) :
    (Op.equalIn 10000 32 (.agg (boolCells a)) (.agg (boolCells b))).run Try.prog w = .ok (a == b) w := by
  obtain ⟨i, hi⟩ := word_info?
  rw [show (10000 : Nat) = 9998 + 1 + 1 from rfl, run_equalIn_array w (9998 + 1) _ _ Try.underlying32 hi, bools_items 9998 a b w (by omega) _ (fun j hj => by have := List.mem_range.1 hj; omega), all_range a b (by omega) 127 ha.symm]
end Go.Proofs.Ytbokecpcefcimaa
