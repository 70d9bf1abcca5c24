/-
  band's Right, for layers that call no other part of band. Conditions: eight steps.
-/
import Derived.Test.YtkjbobgmnpifoaaQSde
import Derived.Test.YtkjbobgmnpifoaaQRtp
namespace Go.Proofs.Ytkjbobgmnpifoaa
open Go.RowKit
open M
/-- Whether a step may be. -/
def isq (n : Int) : Bool := decide (0 ≤ n ∧ n ≤ 15)
theorem isstep_anyR (n : Int) (w : World) : Calls Try.prog 26 #[.int .i64 n] w fun e w' => e = .returned (.bool (isq n)) ∧ w' = w := by
  by_cases h1 : n < 0
  · have e : isq n = false := decide_eq_false (by omega)
    have h2 : ¬ n ≥ 0 := by omega
    rw [e]
    clear e
    go_enter Try.func26, Try.ntmps26
    go_wp2
    go_ret
    exact ⟨rfl, rfl⟩
  · by_cases h2 : n ≤ 15
    · have e : isq n = true := decide_eq_true (by omega)
      have h3 : n ≥ 0 := by omega
      rw [e]
      clear e
      go_enter Try.func26, Try.ntmps26
      go_wp2
      go_ret
      exact ⟨rfl, rfl⟩
    · have e : isq n = false := decide_eq_false (by omega)
      have h3 : n ≥ 0 := by omega
      rw [e]
      clear e
      go_enter Try.func26, Try.ntmps26
      go_wp2
      go_ret
      exact ⟨rfl, rfl⟩
theorem index_sds (l : List Int) (hl : l.length = 8) (k : Nat) (hk : k < 8) (w : World) :
    (Instr.index 36 (.agg (iCells l)) (.int .i64 k)).run Try.prog w = .ok (.int .i64 (l.getD k 0)) w := by
  obtain ⟨i, hi, _, _, _⟩ := info_parts int_info
  have c := iCells_get l k (by omega)
  simp [Instr.index, run_underlying Try.underlying36, asIntOf, hk, run_sizeOf w hi, (show Try.prog.cellsOf 3 = 1 by kernel_rfl), c, go_sem]
set_option maxRecDepth 100000 in
set_option maxHeartbeats 1000000 in
theorem right17_any (l : List Int) (w : World) (hl : l.length = 8) :
    Calls Try.prog 16 #[.agg (iCells l)] w fun e w' => e = .returned (.bool (rt17 l)) ∧ Below w.heap.size w w' := by
  have HR : Hid (Row (w.alloc (.cells (iCells l) 36)) w.heap.size 36 (iCells l)) := heap_alloc_new _ _
  have HB : Hid (Below w.heap.size w (w.alloc (.cells (iCells l) 36))) := (Below.refl _ _).alloc (Nat.le_refl _) _
  have HL := Lib.hid hl
  have HSZ := Lib.hid (sds_size l hl)
  have HIS := fun n w => isstep_anyR n w
  have HNO : Hid (∀ k, k < 8 → isq (l.getD k 0) = false → rt17 l = false) := Lib.hid fun k hk h => b_no (rt_iff l) fun g => by
    have := g k hk
    rw [isq, decide_eq_false_iff_not] at h
    exact h this
  have HYES : Hid ((∀ j, j < 8 → isq (l.getD j 0) = true) → rt17 l = true) := Lib.hid fun h => (rt_iff l).2 fun j hj => of_decide_eq_true (h j hj)
  generalize rt17 l = R at *
  clear hl
  go_enter Try.func16, Try.ntmps16
  go_wp2_with (refine wpList_load_row rfl 36 (.tmp 1) rfl w.heap.size rfl 36 (iCells l) (0, 0) _ HR.out Try.underlying36 rfl HSZ.out ?_)
  clear HR
  generalize w.alloc (.cells (iCells l) 36) = w1 at *
  go_loop [6] (fun ii => ∃ k : Nat, k ≤ 8 ∧ ii = .int .i64 k ∧ ∀ j, j < k → isq (l.getD j 0) = true) (fun ii => 8 - (intOf ii).toNat)
  case atStart => exact ⟨0, by omega, rfl, fun j hj => by omega⟩
  case round =>
    obtain ⟨k, hk, rfl, hall⟩ := hrel
    have HA := Lib.hid hall
    clear hall
    rcases Nat.lt_or_ge k 8 with hlt | hge
    · have hix := index_sds l HL.out k hlt
      have HN := Lib.hid (HNO.out k hlt)
      have HST : Hid (isq (l.getD k 0) = true → ∀ j, j < k + 1 → isq (l.getD j 0) = true) := Lib.hid fun h j hj => by
        rcases Nat.lt_or_ge j k with hl | hg
        · exact HA.out j hl
        · obtain rfl : j = k := by omega
          exact h
      obtain ⟨x, hx⟩ : ∃ x, l.getD k 0 = x := ⟨_, rfl⟩
      rw [hx] at hix HN HST
      clear hx hk
      go_wp2_with fail
      refine (HIS x _).mono ?_
      rintro e w2 ⟨rfl, rfl⟩
      cases hb : isq x
      · go_wp2_with fail
        go_ret
        exact ⟨by rw [HN.out hb]; rfl, HB.out⟩
      · go_wp2_with fail
        go_round
        case rel => exact ⟨k + 1, hlt, by go_num, HST.out hb⟩
        case measure => simp [intOf] <;> omega
    · obtain rfl : k = 8 := by omega
      have HT := Lib.hid (HYES.out HA.out)
      clear hk hge HA
      go_wp2_with fail
      go_ret
      exact ⟨by rw [HT.out]; rfl, HB.out⟩
end Go.Proofs.Ytkjbobgmnpifoaa
