/-
  BandClamps: a frame brought into its range twice is that once; one within it stays; its steps may be. Conditions: 32 ints.
-/
import Derived.Test.YtagcdnglipdldaaBnf
import Derived.Test.YtagcdnglipdldaaBng
import Derived.Test.YtagcdnglipdldaaDr
namespace Go.Proofs.Ytagcdnglipdldaa
open Go.RowKit
open M
theorem cl16_twice (x : Int) : cl16 (cl16 x) = cl16 x := by unfold cl16; omega
theorem clm_twice (f : List Int) : clm (clm f) = clm f := by
  unfold clm
  rw [List.map_map]
  congr 1
  funext x
  exact cl16_twice x
/-- Whether the first k are within their range. -/
def wi16 (f : List Int) : Nat → Bool
  | 0 => true
  | k + 1 => wi16 f k && decide (-1048576 ≤ f.getD k 0 ∧ f.getD k 0 ≤ 1048576)
theorem wi16_iff (f : List Int) : ∀ k, wi16 f k = true ↔ ∀ j, j < k → -1048576 ≤ f.getD j 0 ∧ f.getD j 0 ≤ 1048576
  | 0 => by simp [wi16]
  | k + 1 => by
    have ih := wi16_iff f k
    simp only [wi16, Bool.and_eq_true, decide_eq_true_eq]
    rw [ih]
    constructor
    · rintro ⟨h1, h2⟩ j hj
      rcases Nat.lt_or_ge j k with hl | hg
      · exact h1 j hl
      · obtain rfl : j = k := by omega
        exact h2
    · intro h
      exact ⟨fun j hj => h j (by omega), h k (by omega)⟩
theorem wi16_full (f : List Int) (hf : f.length = 32) : wi16 f 32 = (clm f == f) := by
  rw [Bool.eq_iff_iff, wi16_iff, beq_iff_eq]
  constructor
  · intro h
    refine list_eq16 32 _ _ (clm_len f hf) hf fun j hj => ?_
    have := h j hj
    rw [clm_get f j (by omega)]
    unfold cl16; omega
  · intro h j hj
    have := clm_get f j (by omega)
    rw [h] at this
    rw [this]
    unfold cl16; omega
theorem sts_right (f : List Int) : (sts f).all isp = true := by
  rw [List.all_eq_true]
  intro x hx
  unfold sts at hx
  obtain ⟨b, _, rfl⟩ := List.mem_map.1 hx
  have := sp16_bd f b
  exact decide_eq_true (by omega)
set_option maxRecDepth 100000 in
set_option maxHeartbeats 1000000 in
theorem clamps_law (f : List Int) (w : World) (hf : f.length = 32) :
    Calls Try.prog 7 #[.agg (iCells f)] w fun e w' => e = .returned (.bool true) ∧ Below w.heap.size w w' := by
  have HF := Lib.hid hf
  have HSF := Lib.hid (nums_size f hf)
  have HAL := Lib.hid (clm_len f hf)
  have HSA := Lib.hid (frame_size (clm f) (clm_len f hf))
  have HSS := Lib.hid (frame_same f0 (clm f) f0_length (clm_len f hf))
  have HA1 : Hid (∀ w, Calls Try.prog 14 #[.agg (iCells f)] w fun e w' => e = .returned (.agg (iCells (clm f))) ∧ Below w.heap.size w w') := Lib.hid fun w => clamp_any f w hf
  have HA2 : Hid (∀ w, Calls Try.prog 14 #[.agg (iCells (clm f))] w fun e w' => e = .returned (.agg (iCells (clm f))) ∧ Below w.heap.size w w') := Lib.hid fun w => by
    have := clamp_any (clm f) w (clm_len f hf)
    rw [clm_twice] at this
    exact this
  have HST : Hid (∀ w, Calls Try.prog 13 #[.agg (iCells f)] w fun e w' => e = .returned (.agg (iCells (sts f))) ∧ Below w.heap.size w w') := Lib.hid fun w => steps16_any f w hf
  have HRT : Hid (∀ w, Calls Try.prog 18 #[.agg (iCells (sts f))] w fun e w' => e = .returned (.bool true) ∧ Below w.heap.size w w') := Lib.hid fun w => by
    have := right_any (sts f) w (sts_len f)
    rw [sts_right] at this
    exact this
  have HQ1 : Hid (∀ w, (Op.equalIn 10000 25 (.agg (iCells (clm f))) (.agg (iCells (clm f)))).run Try.prog w = .ok true w) := Lib.hid fun w => by
    rw [frame_eq _ _ (clm_len f hf) (clm_len f hf), beq_self_eq_true]
  have HQ2 : Hid (∀ w, (Op.equalIn 10000 25 (.agg (iCells (clm f))) (.agg (iCells f))).run Try.prog w = .ok (wi16 f 32) w) := Lib.hid fun w => by
    rw [frame_eq _ _ (clm_len f hf) hf, wi16_full f hf]
  generalize clm f = a at *
  generalize sts f = s at *
  obtain ⟨g, hg⟩ : ∃ g, w.heap.size = g := ⟨_, rfl⟩
  have HR : Hid (Row (w.alloc (.cells (iCells f) 22)) g 22 (iCells f)) := Lib.hid (hg ▸ heap_alloc_new _ _)
  have HB : Hid (Below g w (w.alloc (.cells (iCells f) 22))) := Lib.hid ((Below.refl _ _).alloc (by omega) _)
  have HG := Lib.hid hg
  clear hf
  rw [hg]
  clear hg
  go_enter Try.func7, Try.ntmps7
  go_wp2_with fail
  rw [HG.out]
  generalize w.alloc (.cells (iCells f) 22) = w1 at *
  refine (awake16_any _).mono ?_
  rintro e w2 ⟨rfl, hb2⟩
  have HR2 := Lib.hid (Row.box HR.out hb2)
  have HB2 := Lib.hid (HB.out.trans (hb2.mono (Nat.le_of_lt (Row.lt HR.out))))
  clear HR HB hb2
  go_wp2_with (refine wpList_load_row rfl 22 (.tmp 1) rfl g rfl 22 (iCells f) (0, 0) _ HR2.out Try.underlying22 rfl HSF.out ?_)
  refine (HA1.out _).mono ?_
  rintro e w3 ⟨rfl, hb3⟩
  have HR3 := Lib.hid (Row.box HR2.out hb3)
  have HB3 := Lib.hid (HB2.out.trans (hb3.mono (Nat.le_of_lt (Row.lt HR2.out))))
  clear HR2 HB2 hb3
  have hgs : g < w3.heap.size := Row.lt HR3.out
  have H0 : Hid (Row (w3.alloc (.cells (iCells f0) 25)) w3.heap.size 25 (iCells f0)) := heap_alloc_new _ _
  have HR4 := Lib.hid (Row.far (Row.alloc HR3.out (.cells (iCells f0) 25)) (p := ⟨w3.heap.size, 0, none⟩) (Nat.ne_of_lt hgs) (.int .i64 0))
  have HR5 : Hid (Row ((w3.alloc (.cells (iCells f0) 25)).setRow w3.heap.size (iCells a)) g 22 (iCells f)) := Lib.hid ((setRow_other _ _ _ _ (Nat.ne_of_lt hgs)).trans (Row.alloc HR3.out _))
  have HA5 : Hid (Row ((w3.alloc (.cells (iCells f0) 25)).setRow w3.heap.size (iCells a)) w3.heap.size 25 (iCells a)) := Lib.hid (Row.setRow H0.out _)
  have HB5 : Hid (Below g w ((w3.alloc (.cells (iCells f0) 25)).setRow w3.heap.size (iCells a))) := Lib.hid (below_setRow (HB3.out.alloc (Nat.le_of_lt hgs) _) (Nat.le_of_lt hgs) _)
  have hz := frame_zero
  clear HR3 HB3 HR4 hgs
  go_wp2_with (refine wpList_store_row rfl 25 (.tmp 3) (.tmp 9) rfl w3.heap.size (iCells a) rfl rfl 25 (iCells f0) H0.out HSA.out HSS.out (iCells_one a) ?_)
  clear H0 hz
  generalize (w3.alloc (.cells (iCells f0) 25)).setRow w3.heap.size (iCells a) = w5 at *
  obtain ⟨h, hh⟩ : ∃ h, w3.heap.size = h := ⟨_, rfl⟩
  rw [hh] at HA5
  rw [hh]
  clear hh HA1
  go_loop [4, 5] (fun ww ii => ∃ k : Nat, k ≤ 32 ∧ ii = .int .i64 k ∧ ww = .bool (wi16 f k)) (fun _ ii => 32 - (intOf ii).toNat)
  case atStart => exact ⟨0, by omega, rfl, rfl⟩
  case round =>
    obtain ⟨k, hk, rfl, rfl⟩ := hrel
    rcases Nat.lt_or_ge k 32 with hlt | hge
    · have HK := Lib.hid hlt
      have hkI : (k : Int) < 32 := by omega
      have c0 := i_at HR5.out k (by rw [HF.out]; exact hlt)
      have HW : Hid (wi16 f (k + 1) = (wi16 f k && decide (-1048576 ≤ f.getD k 0 ∧ f.getD k 0 ≤ 1048576))) := Lib.hid rfl
      obtain ⟨x, hx⟩ : ∃ x, f.getD k 0 = x := ⟨_, rfl⟩
      rw [hx] at c0 HW
      generalize wi16 f k = b at *
      clear hk hlt hx
      cases b
      · go_wp2_with fail
        go_round
        case rel => exact ⟨k + 1, HK.out, by go_num, by rw [HW.out]; rfl⟩
        case measure =>
          have := HK.out
          simp [intOf] <;> omega
      · by_cases h1 : x ≥ -1048576
        · by_cases h2 : x ≤ 1048576
          · have e : decide (-1048576 ≤ x ∧ x ≤ 1048576) = true := decide_eq_true (by omega)
            rw [e] at HW
            clear e
            go_wp2_with fail
            go_round
            case rel => exact ⟨k + 1, HK.out, by go_num, by rw [HW.out]; rfl⟩
            case measure =>
              have := HK.out
              simp [intOf] <;> omega
          · have e : decide (-1048576 ≤ x ∧ x ≤ 1048576) = false := decide_eq_false (by omega)
            rw [e] at HW
            clear e
            go_wp2_with fail
            go_round
            case rel => exact ⟨k + 1, HK.out, by go_num, by rw [HW.out]; rfl⟩
            case measure =>
              have := HK.out
              simp [intOf] <;> omega
        · have e : decide (-1048576 ≤ x ∧ x ≤ 1048576) = false := decide_eq_false (by omega)
          rw [e] at HW
          clear e
          go_wp2_with fail
          go_round
          case rel => exact ⟨k + 1, HK.out, by go_num, by rw [HW.out]; rfl⟩
          case measure =>
            have := HK.out
            simp [intOf] <;> omega
    · obtain rfl : k = 32 := by omega
      have hq1 := HQ1.out
      have hq2 := HQ2.out
      obtain ⟨b, hb⟩ : ∃ b, wi16 f 32 = b := ⟨_, rfl⟩
      rw [hb] at hq2
      rw [hb]
      have hbb : (b == b) = true := beq_self_eq_true b
      have HC1 : Hid (∀ W : World, (∃ p : Regrown, W = Sort.grow (redrawn w5 p.d) p.os) → W.heap[g]? = some (.cells (iCells f) 22 (0, 0))) := by
        rintro W ⟨p, rfl⟩
        exact HR5.out.below (below_regrown w5 p.d p.os) HR5.out.lt
      have HC2 : Hid (∀ W : World, (∃ p : Regrown, W = Sort.grow (redrawn w5 p.d) p.os) → W.heap[h]? = some (.cells (iCells a) 25 (0, 0))) := by
        rintro W ⟨p, rfl⟩
        exact HA5.out.below (below_regrown w5 p.d p.os) HA5.out.lt
      have K1 : Hid (∀ d os, Calls Try.prog 14 #[.agg (iCells a)] (Sort.grow (redrawn w5 d) os) fun e w'' => e = .returned (.agg (iCells a)) ∧ ∃ p : Regrown, w'' = Sort.grow (redrawn w5 p.d) p.os) :=
        Lib.hid fun d os => Calls.regrown_of (HA2.out _)
      have K2 : Hid (∀ d os, Calls Try.prog 13 #[.agg (iCells f)] (Sort.grow (redrawn w5 d) os) fun e w'' => e = .returned (.agg (iCells s)) ∧ ∃ p : Regrown, w'' = Sort.grow (redrawn w5 p.d) p.os) :=
        Lib.hid fun d os => Calls.regrown_of (HST.out _)
      have K3 : Hid (∀ d os, Calls Try.prog 18 #[.agg (iCells s)] (Sort.grow (redrawn w5 d) os) fun e w'' => e = .returned (.bool true) ∧ ∃ p : Regrown, w'' = Sort.grow (redrawn w5 p.d) p.os) :=
        Lib.hid fun d os => Calls.regrown_of (HRT.out _)
      clear HA2 HST HRT HQ1 HQ2 hk hge hb HSS
      go_wp2_with fail
      refine wp_region_quiet_below (by kernel_rfl) (by kernel_rfl) ?_
      repeat (first
        | (go_big_quiet_want; refine q_load_row 25 (.tmp 3) rfl h rfl 25 (iCells a) (0, 0) _ HC2.out Try.underlying25 rfl HSA.out ?_; go_big_quiet_on; simp only [Act.put, List.setIfInBounds_toArray, List.set_cons_zero, List.set_cons_succ])
        | (go_big_quiet_want; refine q_load_row 22 (.tmp 1) rfl g rfl 22 (iCells f) (0, 0) _ HC1.out Try.underlying22 rfl HSF.out ?_; go_big_quiet_on; simp only [Act.put, List.setIfInBounds_toArray, List.set_cons_zero, List.set_cons_succ])
        | go_big_quiet_step (first | (go_at_call 14; exact K1.out _ _) | (go_at_call 13; exact K2.out _ _) | (go_at_call 18; exact K3.out _ _)))
      refine wpQuiet_nil ?_
      intro _ hw'
      obtain ⟨⟨dq, osq⟩, hw''⟩ := hw'
      subst hw''
      have hbx := below_regrown w5 dq osq
      have HBX := Lib.hid (HB5.out.trans (hbx.mono (Nat.le_of_lt (Row.lt HR5.out))))
      clear K1 K2 K3 HC1 HC2 hbx
      generalize Sort.grow (redrawn w5 dq) osq = w6 at *
      go_wp2_with fail
      go_ret
      exact ⟨rfl, HBX.out⟩
end Go.Proofs.Ytagcdnglipdldaa
