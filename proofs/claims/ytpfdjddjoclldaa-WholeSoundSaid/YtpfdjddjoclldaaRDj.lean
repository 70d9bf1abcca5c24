/-
  Frames by value: how they lie, their zero value, that == tells whether they are the same; which frames are held. No conditions.
-/
import Derived.Test.YtpfdjddjoclldaaRB1
import Derived.Test.YtpfdjddjoclldaaRM2
import Derived.Deep.WholeRow
import Derived.DeepKeys
namespace Go.Proofs.Ytpfdjddjoclldaa
open Go.RowKit
open M
/-- Frame of nothing; wheel of nothing. -/
def f0 : List Int := List.replicate 32 0
theorem f0_length : f0.length = 32 := by unfold f0; rw [List.length_replicate]
theorem frame_info : (Try.prog.info? 52).map (fun i => (i.zero, i.size)) = some (some (.agg (iCells f0)), 32) := by kernel_rfl
theorem nums_info : (Try.prog.info? 51).map (fun i => (i.zero, i.size)) = some (some (.agg (iCells f0)), 32) := by kernel_rfl
theorem frame_zero (w : World) : (zeroValue 52).run Try.prog w = .ok (.agg (iCells f0)) w := (zero_of_info frame_info).1 w
theorem nums_zero (w : World) : (zeroValue 51).run Try.prog w = .ok (.agg (iCells f0)) w := (zero_of_info nums_info).1 w
theorem frame_size (l : List Int) (h : l.length = 32) : (Try.prog.info? 52).map (·.size) = some (iCells l).size := by
  rw [iCells_size, h]; exact (zero_of_info frame_info).2
theorem nums_size (l : List Int) (h : l.length = 32) : (Try.prog.info? 51).map (·.size) = some (iCells l).size := by
  rw [iCells_size, h]; exact (zero_of_info nums_info).2
theorem frame_same (l m : List Int) (h : l.length = 32) (k : m.length = 32) : (iCells l).size = (iCells m).size := by
  rw [iCells_size, iCells_size, h, k]
theorem int_is : (Try.prog.info? 3).isSome = true := by kernel_rfl
theorem int_info32 : ∃ i, Try.prog.info? 3 = some i := by
  cases h : Try.prog.info? 3 with
  | some i => exact ⟨i, rfl⟩
  | none =>
    have := int_is
    rw [h] at this; cases this
theorem plain_int : Try.prog.plainKey 3 = true := by kernel_rfl
theorem cells_int : Try.prog.cellsOf 3 = 1 := by kernel_rfl
theorem ints_items (d : Nat) (a b : List Int) (w : World) (hl : a.length = b.length) : ∀ is : List Nat, (∀ i ∈ is, i < a.length) →
    (Op.eqItems (d + 1) 3 (Try.prog.cellsOf 3) (iCells a) (iCells b) is).run Try.prog w = .ok (is.all fun i => a.getD i 0 == b.getD i 0) w
  | [], _ => by simp [Op.eqItems]
  | i :: is, h => by
    have ih := ints_items d a b w hl is fun j hj => h j (List.mem_cons_of_mem _ hj)
    have hi := h i (List.mem_cons_self ..)
    have p1 := run_part_plain w plain_int (iCells_get a i hi)
    have p2 := run_part_plain w plain_int (iCells_get b i (by omega))
    rw [cells_int] at ih ⊢
    simp only [Op.eqItems, Sem.run_bind, Nat.mul_one, p1, p2, Result.andThen_ok, run_equalIn_int w d 3 .i64 .i64 _ _ Try.underlying3, List.all_cons]
    cases a.getD i 0 == b.getD i 0
    · simp
    · simpa using ih
theorem all_same (a b : List Int) (h : a.length = b.length) (n : Nat) (hn : n = a.length) : ((List.range n).all fun i => a.getD i 0 == b.getD i 0) = (a == b) := by
  subst hn
  rw [Bool.eq_iff_iff, List.all_eq_true, beq_iff_eq]
  constructor
  · intro k
    apply List.ext_getElem h
    intro i h1 h2
    have := k i (List.mem_range.2 h1)
    rw [List.getD_eq_getElem?_getD, List.getD_eq_getElem?_getD, List.getElem?_eq_getElem h1, List.getElem?_eq_getElem h2] at this
    simpa using this
  · rintro rfl i _
    simp
theorem frame_eq (a b : List Int) (ha : a.length = 32) (hb : b.length = 32) (w : World) :
    (Op.equalIn 10000 52 (.agg (iCells a)) (.agg (iCells b))).run Try.prog w = .ok (a == b) w := by
  obtain ⟨i, hi⟩ := int_info32
  rw [show (10000 : Nat) = 9998 + 1 + 1 from rfl, run_equalIn_array w (9998 + 1) _ _ Try.underlying52 hi, ints_items 9998 a b w (by omega) _ (fun j hj => by have := List.mem_range.1 hj; omega), all_same a b (by omega) 32 ha.symm]
theorem index_frame (l : List Int) (hl : l.length = 32) (k : Nat) (hk : k < 32) (w : World) :
    (Instr.index 52 (.agg (iCells l)) (.int .i64 k)).run Try.prog w = .ok (.int .i64 (l.getD k 0)) w := by
  obtain ⟨i, hi, _, _, _⟩ := info_parts int_info
  have c := iCells_get l k (by omega)
  simp [Instr.index, run_underlying Try.underlying52, asIntOf, hk, run_sizeOf w hi, cells_int, c, go_sem]
/-- Whether a frame is held. -/
def hldB (f : List Int) : Bool := f.all fun x => decide (-1073741824 ≤ x ∧ x ≤ 1073741824)
theorem hldB_yes (f : List Int) (h : f.length = 32) (k : hldB f = true) : Hld f :=
  ⟨h, fun x hx => by have := List.all_eq_true.1 k x hx; simpa using this⟩
theorem Hld.yes {f : List Int} (h : Hld f) : hldB f = true := List.all_eq_true.2 fun x hx => by simpa using h.2 x hx
theorem hldB_full (f : List Int) (h : f.length = 32) (k : ∀ i, i < 32 → -1073741824 ≤ f.getD i 0 ∧ f.getD i 0 ≤ 1073741824) : hldB f = true := by
  refine List.all_eq_true.2 fun x hx => ?_
  obtain ⟨i, hi, rfl⟩ := List.getElem_of_mem hx
  have := k i (by omega)
  rw [List.getD_eq_getElem?_getD, List.getElem?_eq_getElem hi] at this
  simpa using this
theorem hldB_no (f : List Int) (h : f.length = 32) (i : Nat) (k : ¬ (-1073741824 ≤ f.getD i 0 ∧ f.getD i 0 ≤ 1073741824)) : hldB f = false := by
  rw [Bool.eq_false_iff]
  intro e
  exact k ((hldB_yes f h e).at i)
set_option maxRecDepth 100000 in
theorem dheld_any (f : List Int) (w : World) (hf : f.length = 32) :
    Calls Try.prog 39 #[.agg (iCells f)] w fun e w' => e = .returned (.bool (hldB f)) ∧ Below w.heap.size w w' := by
  have HR0 : Hid (Row (w.alloc (.cells (iCells f) 52)) w.heap.size 52 (iCells f)) := heap_alloc_new _ _
  have HB0 : Hid (Below w.heap.size w (w.alloc (.cells (iCells f) 52))) := (Below.refl _ _).alloc (Nat.le_refl _) _
  have HSZ := Lib.hid (frame_size f hf)
  have HF := Lib.hid hf
  clear hf
  go_enter Try.func39, Try.ntmps39
  go_wp2_with (refine wpList_load_row rfl 52 (.tmp 1) rfl w.heap.size rfl 52 (iCells f) (0, 0) _ HR0.out Try.underlying52 rfl HSZ.out ?_)
  clear HR0
  generalize w.alloc (.cells (iCells f) 52) = w1 at *
  go_loop [6] (fun i => ∃ k : Nat, k ≤ 32 ∧ i = .int .i64 k ∧ ∀ j, j < k → -1073741824 ≤ f.getD j 0 ∧ f.getD j 0 ≤ 1073741824) (fun i => 32 - (intOf i).toNat)
  case atStart => exact ⟨0, by omega, rfl, fun j hj => by omega⟩
  case round =>
    obtain ⟨k, hk, rfl, hall⟩ := hrel
    have HA := Lib.hid hall
    clear hall
    rcases Nat.lt_or_ge k 32 with hlt | hge
    · have hix := index_frame f HF.out k hlt
      have HN := Lib.hid (hldB_no f HF.out k)
      have HST : Hid ((-1073741824 ≤ f.getD k 0 ∧ f.getD k 0 ≤ 1073741824) → ∀ j, j < k + 1 → -1073741824 ≤ f.getD j 0 ∧ f.getD j 0 ≤ 1073741824) := fun h j hj => by
        rcases Nat.lt_or_ge j k with hl | hg
        · exact HA.out j hl
        · obtain rfl : j = k := by omega
          exact h
      obtain ⟨x, hx⟩ : ∃ x, f.getD k 0 = x := ⟨_, rfl⟩
      rw [hx] at hix HN HST
      clear hx hk
      by_cases h1 : x < -1073741824
      · go_wp2_with fail
        go_ret
        exact ⟨by rw [HN.out (by omega)]; rfl, HB0.out⟩
      · by_cases h2 : x > 1073741824
        · go_wp2_with fail
          go_ret
          exact ⟨by rw [HN.out (by omega)]; rfl, HB0.out⟩
        · go_wp2_with fail
          go_round
          case rel => exact ⟨k + 1, hlt, by go_num, HST.out (by omega)⟩
          case measure => simp [intOf] <;> omega
    · obtain rfl : k = 32 := by omega
      have HT := Lib.hid (hldB_full f HF.out HA.out)
      clear hk hge HA
      go_wp2_with fail
      go_ret
      exact ⟨by rw [HT.out]; rfl, HB0.out⟩
end Go.Proofs.Ytpfdjddjoclldaa
