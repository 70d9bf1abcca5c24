/-
  Promises 10.1 and 10.2, DctBack: Back undoes Waves, and Waves Back. Conditions: a frame of 32 ints.
-/
import Derived.Test.YtdlcdbkfhajkdaaDq
import Derived.Lib.QuietBelow
import Derived.Deep.Cut
namespace Go.Proofs.Ytdlcdbkfhajkdaa
open Go.RowKit
open M
theorem wav_held (f : List Int) : Hld (wav (hd24 f 32)) := held_of (M := 134217984) (wav_len _) (by omega) (wav_small _ (hd24_len f 32) 16777216 (by omega) (hd24_bd f 32))
theorem wbk_held (f : List Int) : Hld (wbk (hd24 f 32)) := held_of (M := 134217984) (wbk_len _) (by omega) (wbk_small _ (hd24_len f 32) 16777216 (by omega) (hd24_bd f 32))
set_option maxRecDepth 100000 in
set_option maxHeartbeats 2000000 in
theorem back_law (f : List Int) (w : World) (hf : f.length = 32) :
    Calls Try.prog 3 #[.agg (iCells f)] w fun e w' => e = .returned (.bool true) ∧ Below w.heap.size w w' := by
  have HB_0 : Hid (Below w.heap.size w (w.alloc (.cells (iCells f) 22))) := (Below.refl _ _).alloc (Nat.le_refl _) _
  have HK_0 : Hid (Row (w.alloc (.cells (iCells f) 22)) w.heap.size 22 (iCells f)) := heap_alloc_new _ _
  have HSN := Lib.hid (nums_size f hf)
  have HX0 := Lib.hid (hd24_held f)
  have HLH := Lib.hid fun W => lheld_any f W hf
  have HAW := Lib.hid fun W => lawake_any W
  have HSX := Lib.hid (frame_size (hd24 f 32) (hd24_len f 32))
  have HSS := Lib.hid (frame_same f0 (hd24 f 32) f0_length (hd24_len f 32))
  have HW1 : Hid (∀ W, Calls Try.prog 11 #[.agg (iCells (hd24 f 32))] W fun e w' => e = .returned (.agg (iCells (wav (hd24 f 32)))) ∧ Below W.heap.size W w') := fun W => waves_in _ W HX0.out
  have HB1 : Hid (∀ W, Calls Try.prog 10 #[.agg (iCells (wav (hd24 f 32)))] W fun e w' => e = .returned (.agg (iCells (hd24 f 32))) ∧ Below W.heap.size W w') := fun W => by
    have := wback_in (wav (hd24 f 32)) W (wav_held f)
    rw [wbk_wav _ (hd24_len f 32)] at this
    exact this
  have HB2 : Hid (∀ W, Calls Try.prog 10 #[.agg (iCells (hd24 f 32))] W fun e w' => e = .returned (.agg (iCells (wbk (hd24 f 32)))) ∧ Below W.heap.size W w') := fun W => wback_in _ W HX0.out
  have HW2 : Hid (∀ W, Calls Try.prog 11 #[.agg (iCells (wbk (hd24 f 32)))] W fun e w' => e = .returned (.agg (iCells (hd24 f 32))) ∧ Below W.heap.size W w') := fun W => by
    have := waves_in (wbk (hd24 f 32)) W (wbk_held f)
    rw [wav_wbk _ (hd24_len f 32)] at this
    exact this
  have HH : Hid (∀ W, Calls Try.prog 12 #[.agg (iCells (hd24 f 32))] W fun e w' => e = .returned (.bool true) ∧ Below W.heap.size W w') := fun W => by
    have := dheld_any (hd24 f 32) W (hd24_len f 32)
    rw [Hld.yes HX0.out] at this
    exact this
  have hq1 := frame_eq (hd24 f 32) (hd24 f 32) (hd24_len f 32) (hd24_len f 32)
  rw [beq_self_eq_true] at hq1
  have HQ1 := Lib.hid hq1
  have hz := fun w => frame_zero w
  clear hf hq1 HX0
  generalize wav (hd24 f 32) = A at *
  generalize wbk (hd24 f 32) = B at *
  generalize hd24 f 32 = X at *
  go_enter Try.func3, Try.ntmps3
  go_wp2_with (first
      | (refine wpList_load_row rfl 22 (.tmp 1) rfl w.heap.size rfl 22 (iCells f) (0, 0) _ HK_0.out Try.underlying22 rfl HSN.out ?_))
  generalize w.alloc (.cells (iCells f) 22) = w0 at *
  refine (HLH.out _).mono ?_
  rintro e w1 ⟨rfl, hb⟩
  have R1_1 := Lib.hid (HK_0.out.box hb)
  have HB_1 := Lib.hid (HB_0.out.trans (hb.mono HB_0.out.size))
  clear hb HK_0 HB_0
  have H0 : Hid (Row (w1.alloc (.cells (iCells f0) 23)) w1.heap.size 23 (iCells f0)) := heap_alloc_new _ _
  go_upto_region 2 with (first
      | (refine wpList_store_row rfl 23 (.tmp 3) (.tmp 5) rfl w1.heap.size (iCells X) rfl rfl 23 (iCells f0) H0.out HSX.out HSS.out (iCells_one _) ?_)
      | (refine wpList_load_row rfl 22 (.tmp 1) rfl w.heap.size rfl 22 (iCells f) (0, 0) _ R1_1.out Try.underlying22 rfl HSN.out ?_))
  have hgs := HB_1.out.size
  have hbs : Below w1.heap.size w1 ((w1.alloc (.cells (iCells f0) 23)).setRow w1.heap.size (iCells X)) := below_setRow ((Below.refl _ _).alloc (Nat.le_refl _) _) (Nat.le_refl _) _
  have R1_2 := Lib.hid (R1_1.out.box hbs)
  have R3_2 : Hid (Row ((w1.alloc (.cells (iCells f0) 23)).setRow w1.heap.size (iCells X)) w1.heap.size 23 (iCells X)) := Row.setRow H0.out _
  have HB_2 : Hid (Below w.heap.size w ((w1.alloc (.cells (iCells f0) 23)).setRow w1.heap.size (iCells X))) := Lib.hid (HB_1.out.trans (hbs.mono hgs))
  clear H0 R1_1 HB_1 hbs hgs
  generalize ((w1.alloc (.cells (iCells f0) 23)).setRow w1.heap.size (iCells X)) = w2 at *
  generalize w1.heap.size = g3 at *
  have hq1 := HQ1.out
  have HC3 : Hid (∀ W : World, (∃ p : Regrown, W = Sort.grow (redrawn w2 p.d) p.os) → W.heap[g3]? = some (.cells (iCells X) 23 (0, 0))) := by
    rintro W ⟨p, rfl⟩
    exact R3_2.out.below (below_regrown w2 p.d p.os) R3_2.out.lt
  have KC0 : Hid (∀ d os, Calls Try.prog 9 #[] (Sort.grow (redrawn w2 d) os) fun e w'' => e = .returned (.bool true) ∧ ∃ p : Regrown, w'' = Sort.grow (redrawn w2 p.d) p.os) :=
    fun d os => Calls.regrown_of (HAW.out _)
  have KC1 : Hid (∀ d os, Calls Try.prog 11 #[.agg (iCells X)] (Sort.grow (redrawn w2 d) os) fun e w'' => e = .returned (.agg (iCells A)) ∧ ∃ p : Regrown, w'' = Sort.grow (redrawn w2 p.d) p.os) :=
    fun d os => Calls.regrown_of (HW1.out _)
  have KC2 : Hid (∀ d os, Calls Try.prog 10 #[.agg (iCells A)] (Sort.grow (redrawn w2 d) os) fun e w'' => e = .returned (.agg (iCells X)) ∧ ∃ p : Regrown, w'' = Sort.grow (redrawn w2 p.d) p.os) :=
    fun d os => Calls.regrown_of (HB1.out _)
  have KC3 : Hid (∀ d os, Calls Try.prog 10 #[.agg (iCells X)] (Sort.grow (redrawn w2 d) os) fun e w'' => e = .returned (.agg (iCells B)) ∧ ∃ p : Regrown, w'' = Sort.grow (redrawn w2 p.d) p.os) :=
    fun d os => Calls.regrown_of (HB2.out _)
  have KC4 : Hid (∀ d os, Calls Try.prog 11 #[.agg (iCells B)] (Sort.grow (redrawn w2 d) os) fun e w'' => e = .returned (.agg (iCells X)) ∧ ∃ p : Regrown, w'' = Sort.grow (redrawn w2 p.d) p.os) :=
    fun d os => Calls.regrown_of (HW2.out _)
  have KC5 : Hid (∀ d os, Calls Try.prog 12 #[.agg (iCells X)] (Sort.grow (redrawn w2 d) os) fun e w'' => e = .returned (.bool true) ∧ ∃ p : Regrown, w'' = Sort.grow (redrawn w2 p.d) p.os) :=
    fun d os => Calls.regrown_of (HH.out _)
  go_wp2_with fail
  refine wp_region_quiet_below (by kernel_rfl) (by kernel_rfl) ?_
  repeat (first
    | (refine BigFrame.wpQuiet_want (by rfl) (fun K hK => ?_); refine q_load_row 23 (.tmp 3) rfl g3 rfl 23 (iCells X) (0, 0) _ HC3.out Try.underlying23 rfl HSX.out ?_; refine hK _ ?_; clear hK K; simp only [Act.put, List.setIfInBounds_toArray, List.set_cons_zero, List.set_cons_succ])
    | quiet_step (fail))
  quiet_step (first | (go_at_call 9; exact KC0.out _ _))
  repeat (first
    | (refine BigFrame.wpQuiet_want (by rfl) (fun K hK => ?_); refine q_load_row 23 (.tmp 3) rfl g3 rfl 23 (iCells X) (0, 0) _ HC3.out Try.underlying23 rfl HSX.out ?_; refine hK _ ?_; clear hK K; simp only [Act.put, List.setIfInBounds_toArray, List.set_cons_zero, List.set_cons_succ])
    | quiet_step (fail))
  quiet_step (first | (go_at_call 11; exact KC1.out _ _))
  repeat (first
    | (refine BigFrame.wpQuiet_want (by rfl) (fun K hK => ?_); refine q_load_row 23 (.tmp 3) rfl g3 rfl 23 (iCells X) (0, 0) _ HC3.out Try.underlying23 rfl HSX.out ?_; refine hK _ ?_; clear hK K; simp only [Act.put, List.setIfInBounds_toArray, List.set_cons_zero, List.set_cons_succ])
    | quiet_step (fail))
  quiet_step (first | (go_at_call 10; exact KC2.out _ _))
  repeat (first
    | (refine BigFrame.wpQuiet_want (by rfl) (fun K hK => ?_); refine q_load_row 23 (.tmp 3) rfl g3 rfl 23 (iCells X) (0, 0) _ HC3.out Try.underlying23 rfl HSX.out ?_; refine hK _ ?_; clear hK K; simp only [Act.put, List.setIfInBounds_toArray, List.set_cons_zero, List.set_cons_succ])
    | quiet_step (fail))
  quiet_step (first | (go_at_call 10; exact KC3.out _ _))
  repeat (first
    | (refine BigFrame.wpQuiet_want (by rfl) (fun K hK => ?_); refine q_load_row 23 (.tmp 3) rfl g3 rfl 23 (iCells X) (0, 0) _ HC3.out Try.underlying23 rfl HSX.out ?_; refine hK _ ?_; clear hK K; simp only [Act.put, List.setIfInBounds_toArray, List.set_cons_zero, List.set_cons_succ])
    | quiet_step (fail))
  quiet_step (first | (go_at_call 11; exact KC4.out _ _))
  repeat (first
    | (refine BigFrame.wpQuiet_want (by rfl) (fun K hK => ?_); refine q_load_row 23 (.tmp 3) rfl g3 rfl 23 (iCells X) (0, 0) _ HC3.out Try.underlying23 rfl HSX.out ?_; refine hK _ ?_; clear hK K; simp only [Act.put, List.setIfInBounds_toArray, List.set_cons_zero, List.set_cons_succ])
    | quiet_step (fail))
  quiet_step (first | (go_at_call 12; exact KC5.out _ _))
  repeat (first
    | (refine BigFrame.wpQuiet_want (by rfl) (fun K hK => ?_); refine q_load_row 23 (.tmp 3) rfl g3 rfl 23 (iCells X) (0, 0) _ HC3.out Try.underlying23 rfl HSX.out ?_; refine hK _ ?_; clear hK K; simp only [Act.put, List.setIfInBounds_toArray, List.set_cons_zero, List.set_cons_succ])
    | quiet_step (fail))
  refine wpQuiet_nil ?_
  intro _ hw'
  obtain ⟨⟨dq, osq⟩, hw''⟩ := hw'
  subst hw''
  have hb := below_regrown w2 dq osq
  have R1_3 := Lib.hid (R1_2.out.box hb)
  have R3_3 := Lib.hid (R3_2.out.box hb)
  have HB_3 := Lib.hid (HB_2.out.trans (hb.mono HB_2.out.size))
  clear hb R1_2 R3_2 HB_2
  clear HC3 KC0 KC1 KC2 KC3 KC4 KC5
  generalize Sort.grow (redrawn w2 dq) osq = w3 at *
  go_wp2
  go_ret
  exact ⟨rfl, HB_3.out⟩
end Go.Proofs.Ytdlcdbkfhajkdaa
