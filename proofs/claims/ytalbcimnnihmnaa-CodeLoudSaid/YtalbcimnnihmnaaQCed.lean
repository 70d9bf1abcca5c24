/-
  Layer 20: code's isSoft and Silent. Conditions: a frame's 32 numbers, a shape's 40.
-/
import Derived.Test.YtalbcimnnihmnaaQS17
import Derived.Test.YtalbcimnnihmnaaQS10
import Derived.Test.YtalbcimnnihmnaaQS14
import Derived.Test.YtalbcimnnihmnaaQS13
namespace Go.Proofs.Ytalbcimnnihmnaa
open Go.RowKit
open M
/-- Is no number of a frame above 12? -/
def so20 (f : List Int) : Bool := (List.range 32).all fun p => decide (-12 ≤ f.getD p 0 ∧ f.getD p 0 ≤ 12)
set_option maxRecDepth 100000 in
theorem issoft_any (f : List Int) (w : World) (hf : f.length = 32) :
    Calls Try.prog 28 #[.agg (iCells f)] w fun e w' => e = .returned (.bool (so20 f)) ∧ Below w.heap.size w w' := by
  have HR : Hid (Row (w.alloc (.cells (iCells f) 43)) w.heap.size 43 (iCells f)) := Lib.hid (heap_alloc_new _ _)
  have HB : Hid (Below w.heap.size w (w.alloc (.cells (iCells f) 43))) := Lib.hid ((Below.refl _ _).alloc (Nat.le_refl _) _)
  have HSF := Lib.hid (fra_size f hf)
  have HIX := Lib.hid fun k hk w => index_frame f hf k hk w
  have HNO : Hid (∀ k, k < 32 → ¬ (-12 ≤ f.getD k 0 ∧ f.getD k 0 ≤ 12) → so20 f = false) := Lib.hid fun k hk h => by
    unfold so20
    rw [List.all_eq_false]
    exact ⟨k, List.mem_range.2 hk, by simpa using h⟩
  have HYES : Hid ((∀ k, k < 32 → -12 ≤ f.getD k 0 ∧ f.getD k 0 ≤ 12) → so20 f = true) := Lib.hid fun h => by
    unfold so20
    rw [List.all_eq_true]
    exact fun k hk => by simpa using h k (List.mem_range.1 hk)
  generalize so20 f = R at *
  clear hf
  go_enter Try.func28, Try.ntmps28
  go_wp2_with (refine wpList_load_row rfl 43 (.tmp 1) rfl w.heap.size rfl 43 (iCells f) (0, 0) _ HR.out Try.underlying43 rfl HSF.out ?_)
  go_loop [6] (fun i => ∃ (k : Nat), k ≤ 32 ∧ i = .int .i64 k ∧ ∀ j, j < k → -12 ≤ f.getD j 0 ∧ f.getD j 0 ≤ 12) (fun i => 32 - (intOf i).toNat)
  case atStart => exact ⟨0, by omega, rfl, fun j hj => by omega⟩
  case round =>
    obtain ⟨k, hk, rfl, hall⟩ := hrel
    have HA := Lib.hid hall
    rcases Nat.lt_or_ge k 32 with hlt | hge
    · have hix := HIX.out k hlt
      have HK := Lib.hid hlt
      have hkI : (k : Int) < 32 := by omega
      obtain ⟨x, hxx⟩ : ∃ x, f.getD k 0 = x := ⟨_, rfl⟩
      have HX := Lib.hid fun _ : Unit => hxx
      rw [hxx] at hix
      clear hxx hlt hk hall
      by_cases h1 : x < -12
      · have HN := Lib.hid (HNO.out k HK.out (by rw [HX.out ()]; omega))
        go_wp2_with fail
        go_ret
        exact ⟨by rw [HN.out]; rfl, HB.out⟩
      · by_cases h2 : x > 12
        · have HN := Lib.hid (HNO.out k HK.out (by rw [HX.out ()]; omega))
          go_wp2_with fail
          go_ret
          exact ⟨by rw [HN.out]; rfl, HB.out⟩
        · go_wp2_with fail
          go_round
          case rel => exact ⟨k + 1, HK.out, by go_num, fun j hj => by
            rcases Nat.lt_or_ge j k with h | h
            · exact HA.out j h
            · obtain rfl : j = k := by omega
              rw [HX.out ()]
              omega⟩
          case measure =>
            have := HK.out
            simp [intOf] <;> omega
    · obtain rfl : k = 32 := by omega
      have HN := Lib.hid (HYES.out HA.out)
      clear hk hge hall
      go_wp2_with fail
      go_ret
      exact ⟨by rw [HN.out]; rfl, HB.out⟩
theorem si_steps (l : List Int) : ((List.range 8).all fun b => decide (l.getD b 0 = 0)) = (sds l == zs8) := by
  rw [Bool.eq_iff_iff, List.all_eq_true, beq_iff_eq]
  constructor
  · intro h
    unfold sds
    refine Eq.symm (tm_ext zs8 8 _ zs8_length fun i hi => ?_)
    have := of_decide_eq_true (h i (List.mem_range.2 hi))
    rw [Nat.zero_add, this]
    rcases (show i = 0 ∨ i = 1 ∨ i = 2 ∨ i = 3 ∨ i = 4 ∨ i = 5 ∨ i = 6 ∨ i = 7 by omega) with rfl | rfl | rfl | rfl | rfl | rfl | rfl | rfl <;> rfl
  · intro h b hb
    have hb := List.mem_range.1 hb
    refine decide_eq_true ?_
    have e : (sds l).getD b 0 = l.getD b 0 := by unfold sds; rw [pto_getD _ _ _ _ hb, Nat.zero_add]
    rw [← e, h]
    rcases (show b = 0 ∨ b = 1 ∨ b = 2 ∨ b = 3 ∨ b = 4 ∨ b = 5 ∨ b = 6 ∨ b = 7 by omega) with rfl | rfl | rfl | rfl | rfl | rfl | rfl | rfl <;> rfl
theorem si_soft (l : List Int) : ((List.range 32).all fun p => decide (-12 ≤ co20 l p ∧ co20 l p ≤ 12)) = so20 (cf20 l) := by
  unfold so20
  rw [Bool.eq_iff_iff, List.all_eq_true, List.all_eq_true]
  constructor
  · intro h p hp
    rw [cf20_getD l p (List.mem_range.1 hp)]
    exact h p hp
  · intro h p hp
    have := h p hp
    rw [cf20_getD l p (List.mem_range.1 hp)] at this
    exact this
theorem side8c : (Try.prog.info? 27).map (·.size) = some 8 := by kernel_rfl
set_option maxRecDepth 100000 in
set_option maxHeartbeats 1000000 in
theorem silent20_any (l : List Int) (w : World) (hl : l.length = 40) :
    Calls Try.prog 13 #[.agg (iCells l)] w fun e w' => e = .returned (.bool (si20 l)) ∧ Below w.heap.size w w' := by
  have hz := sds_zero
  have HR : Hid (Row (w.alloc (.cells (iCells l) 32)) w.heap.size 32 (iCells l)) := Lib.hid (heap_alloc_new _ _)
  have HB : Hid (Below w.heap.size w (w.alloc (.cells (iCells l) 32))) := Lib.hid ((Below.refl _ _).alloc (Nat.le_refl _) _)
  have HCO := Lib.hid fun w => coefs20_any l w hl
  have HSO := Lib.hid fun w => issoft_any (cf20 l) w (cp20_len _ _)
  have HSS := Lib.hid (s40_size l hl)
  have HSL := Lib.hid (show 0 + 8 ≤ l.length by omega)
  have HEQ : Hid (∀ w, (Op.equalIn 10000 27 (.agg (iCells (sds l))) (.agg (iCells zs8))).run Try.prog w = .ok (sds l == zs8) w) := Lib.hid fun w => sds_eq (sds l) zs8 (pto_len _ _ _) zs8_length w
  have HSI : Hid (si20 l = ((sds l == zs8) && so20 (cf20 l))) := Lib.hid (by unfold si20; rw [si_steps, si_soft])
  have HSD : Hid (pto l 0 8 = sds l) := Lib.hid rfl
  rw [HSI.out]
  clear hl
  generalize so20 (cf20 l) = S at *
  cases hs : (sds l == zs8) with
  | false =>
    rw [hs] at HEQ
    have hEQ := HEQ.out
    clear hs
    rw [Bool.false_and]
    go_enter Try.func13, Try.ntmps13
    go_wp2_with (refine g_load_pto (by rfl) 27 (.tmp 3) rfl w.heap.size 0 8 rfl 32 l _ HR.out HSL.out Try.underlying27 rfl side8c ?_; rw [HSD.out])
    go_ret
    exact ⟨rfl, HB.out⟩
  | true =>
    rw [hs] at HEQ
    have hEQ := HEQ.out
    clear hs
    rw [Bool.true_and]
    go_enter Try.func13, Try.ntmps13
    go_wp2_with (first
      | (refine g_load_pto (by rfl) 27 (.tmp 3) rfl w.heap.size 0 8 rfl 32 l _ HR.out HSL.out Try.underlying27 rfl side8c ?_; rw [HSD.out])
      | (refine g_load_row (by rfl) 32 (.tmp 1) rfl w.heap.size rfl 32 (iCells l) (0, 0) _ HR.out Try.underlying32 rfl HSS.out ?_))
    refine (HCO.out _).mono ?_
    rintro e w2 ⟨rfl, hb⟩
    have HB := Lib.hid (HB.out.trans (hb.mono HB.out.size))
    clear hb
    go_wp2_with fail
    refine (HSO.out _).mono ?_
    rintro e w3 ⟨rfl, hb⟩
    have HB := Lib.hid (HB.out.trans (hb.mono HB.out.size))
    clear hb
    go_wp2_with fail
    go_ret
    exact ⟨rfl, HB.out⟩
end Go.Proofs.Ytalbcimnnihmnaa
