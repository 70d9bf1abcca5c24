/-
  band's Steps, Right and Clamp. Conditions: a frame of 32 numbers; eight steps.
-/
import Derived.Test.YtagcdnglipdldaaBnc
import Derived.Test.YtagcdnglipdldaaBnd
namespace Go.Proofs.Ytagcdnglipdldaa
open Go.RowKit
open M
/-- Eight zeros. -/
def z8 : List Int := List.replicate 8 0
theorem z8_length : z8.length = 8 := by unfold z8; rw [List.length_replicate]
theorem side_info : (Try.prog.info? 33).map (fun i => (i.zero, i.size)) = some (some (.agg (iCells z8)), 8) := by kernel_rfl
theorem side_zero (w : World) : (zeroValue 33).run Try.prog w = .ok (.agg (iCells z8)) w := (zero_of_info side_info).1 w
theorem side_size (l : List Int) (h : l.length = 8) : (Try.prog.info? 33).map (·.size) = some (iCells l).size := by
  rw [iCells_size, h]; exact (zero_of_info side_info).2
theorem eight_info : (Try.prog.info? 32).map (fun i => (i.zero, i.size)) = some (some (.agg (iCells z8)), 8) := by kernel_rfl
theorem eight_size (l : List Int) (h : l.length = 8) : (Try.prog.info? 32).map (·.size) = some (iCells l).size := by
  rw [iCells_size, h]; exact (zero_of_info eight_info).2
theorem side_same (l m : List Int) (h : l.length = 8) (k : m.length = 8) : (iCells l).size = (iCells m).size := by
  rw [iCells_size, iCells_size, h, k]
theorem index_side (l : List Int) (hl : l.length = 8) (k : Nat) (hk : k < 8) (w : World) :
    (Instr.index 33 (.agg (iCells l)) (.int .i64 k)).run Try.prog w = .ok (.int .i64 (l.getD k 0)) w := by
  obtain ⟨i, hi, _, _, _⟩ := info_parts int_info
  have c := iCells_get l k (by omega)
  simp [Instr.index, run_underlying Try.underlying33, asIntOf, hk, run_sizeOf w hi, cells_int, c, go_sem]
/-- A band's step. -/
def sp16 (f : List Int) (b : Nat) : Int := (stp (gm16 (bd16 f b)) : Nat)
theorem sp16_bd (f : List Int) (b : Nat) : 0 ≤ sp16 f b ∧ sp16 f b ≤ 15 := by
  have := stp_le (gm16 (bd16 f b))
  unfold sp16; omega
/-- All bands' steps. -/
def sts (f : List Int) : List Int := (List.range 8).map (sp16 f)
theorem sts_len (f : List Int) : (sts f).length = 8 := by simp [sts]
theorem sts_get (f : List Int) (b : Nat) (h : b < 8) : (sts f).getD b 0 = sp16 f b := by
  unfold sts
  rw [List.getD_eq_getElem?_getD, List.getElem?_map, List.getElem?_range h]
  rfl
theorem list_eq16 (n : Nat) (l m : List Int) (hl : l.length = n) (hm : m.length = n) (h : ∀ j, j < n → l.getD j 0 = m.getD j 0) : l = m := by
  apply List.ext_getElem (by omega)
  intro i h1 h2
  have := h i (by omega)
  rw [List.getD_eq_getElem?_getD, List.getD_eq_getElem?_getD, List.getElem?_eq_getElem h1, List.getElem?_eq_getElem h2] at this
  exact this
theorem set_get16 (l : List Int) (k j : Nat) (x : Int) (hk : k < l.length) : (l.set k x).getD j 0 = if k = j then x else l.getD j 0 := by
  rw [List.getD_eq_getElem?_getD, List.getElem?_set]
  by_cases h : k = j
  · subst h; rw [if_pos rfl, if_pos hk, if_pos rfl]; rfl
  · rw [if_neg h, if_neg h, ← List.getD_eq_getElem?_getD]
set_option maxRecDepth 100000 in
set_option maxHeartbeats 1000000 in
theorem right_any (l : List Int) (w : World) (hl : l.length = 8) :
    Calls Try.prog 18 #[.agg (iCells l)] w fun e w' => e = .returned (.bool (l.all isp)) ∧ Below w.heap.size w w' := by
  have HR : Hid (Row (w.alloc (.cells (iCells l) 33)) w.heap.size 33 (iCells l)) := heap_alloc_new _ _
  have HB : Hid (Below w.heap.size w (w.alloc (.cells (iCells l) 33))) := (Below.refl _ _).alloc (Nat.le_refl _) _
  have HL := Lib.hid hl
  have HSZ := Lib.hid (side_size l hl)
  have HIS := fun n w => isstep_any n w
  have HNO : Hid (∀ k, k < 8 → isp (l.getD k 0) = false → l.all isp = false) := Lib.hid fun k hk h => by
    rw [Bool.eq_false_iff]
    intro e
    have := List.all_eq_true.1 e (l.getD k 0) (by rw [List.getD_eq_getElem?_getD, List.getElem?_eq_getElem (by omega)]; exact List.getElem_mem _)
    rw [h] at this; cases this
  have HYES : Hid ((∀ j, j < 8 → isp (l.getD j 0) = true) → l.all isp = true) := Lib.hid fun h => by
    rw [List.all_eq_true]
    intro x hx
    obtain ⟨i, hi, rfl⟩ := List.getElem_of_mem hx
    have := h i (by omega)
    rw [List.getD_eq_getElem?_getD, List.getElem?_eq_getElem hi] at this
    exact this
  generalize l.all isp = R at *
  clear hl
  go_enter Try.func18, Try.ntmps18
  go_wp2_with (refine wpList_load_row rfl 33 (.tmp 1) rfl w.heap.size rfl 33 (iCells l) (0, 0) _ HR.out Try.underlying33 rfl HSZ.out ?_)
  clear HR
  generalize w.alloc (.cells (iCells l) 33) = w1 at *
  go_loop [6] (fun ii => ∃ k : Nat, k ≤ 8 ∧ ii = .int .i64 k ∧ ∀ j, j < k → isp (l.getD j 0) = true) (fun ii => 8 - (intOf ii).toNat)
  case atStart => exact ⟨0, by omega, rfl, fun j hj => by omega⟩
  case round =>
    obtain ⟨k, hk, rfl, hall⟩ := hrel
    have HA := Lib.hid hall
    clear hall
    rcases Nat.lt_or_ge k 8 with hlt | hge
    · have hix := index_side l HL.out k hlt
      have HN := Lib.hid (HNO.out k hlt)
      have HST : Hid (isp (l.getD k 0) = true → ∀ j, j < k + 1 → isp (l.getD j 0) = true) := Lib.hid fun h j hj => by
        rcases Nat.lt_or_ge j k with hl | hg
        · exact HA.out j hl
        · obtain rfl : j = k := by omega
          exact h
      obtain ⟨x, hx⟩ : ∃ x, l.getD k 0 = x := ⟨_, rfl⟩
      rw [hx] at hix HN HST
      clear hx hk
      go_wp2_with fail
      refine (HIS x _).mono ?_
      rintro e w2 ⟨rfl, rfl⟩
      cases hb : isp x
      · go_wp2_with fail
        go_ret
        exact ⟨by rw [HN.out hb]; rfl, HB.out⟩
      · go_wp2_with fail
        go_round
        case rel => exact ⟨k + 1, hlt, by go_num, HST.out hb⟩
        case measure => simp [intOf] <;> omega
    · obtain rfl : k = 8 := by omega
      have HT := Lib.hid (HYES.out HA.out)
      clear hk hge HA
      go_wp2_with fail
      go_ret
      exact ⟨by rw [HT.out]; rfl, HB.out⟩
/-- A number brought into its range. -/
def cl16 (x : Int) : Int := max (-1048576) (min x 1048576)
theorem max16 (x : Int) (w : World) : (Builtin.max_ #[3, 3] 3 #[.int .i64 x, .int .i64 (-1048576)]).run Try.prog w = .ok (.int .i64 (max x (-1048576))) w := by
  have e : (if -1048576 > x then (-1048576 : Int) else x) = max x (-1048576) := by split <;> omega
  simp [Builtin.max_, Builtin.max2]
  try omega
theorem min16 (x : Int) (w : World) : (Builtin.min_ #[3, 3] 3 #[.int .i64 (max x (-1048576)), .int .i64 1048576]).run Try.prog w = .ok (.int .i64 (cl16 x)) w := by
  unfold cl16
  simp [Builtin.min_, Builtin.min2]
  try omega
end Go.Proofs.Ytagcdnglipdldaa
