/-
  Layer 10's laws: the document's example, and a way back. No conditions.
-/
import Derived.Test.YtdlcdbkfhajkdaaDn
import Derived.Test.YtdlcdbkfhajkdaaDo
import Derived.Test.YtdlcdbkfhajkdaaDp
import Derived.Test.YtdlcdbkfhajkdaaDr
import Derived.Lib.QuietBelow
import Derived.Deep.Cut
namespace Go.Proofs.Ytdlcdbkfhajkdaa
open Go.RowKit
open M
/-- The document's example. -/
def fe : List Int := f0.set 5 1000
theorem fe_length : fe.length = 32 := rfl
theorem wav_f0 : wav f0 = f0 := by decide +kernel
theorem wav_fe : (wav fe == fe) = false := by decide +kernel
theorem held_of {f : List Int} {M : Int} (hl : f.length = 32) (hM : M ≤ 1073741824) (h : ∀ x ∈ f, -M ≤ x ∧ x ≤ M) : Hld f := ⟨hl, fun x hx => by have := h x hx; omega⟩
theorem held_f0 : Hld f0 := hldB_yes f0 rfl (by decide +kernel)
theorem held_fe : Hld fe := hldB_yes fe rfl (by decide +kernel)
theorem held_wfe : Hld (wav fe) := hldB_yes _ (wav_len fe) (by decide +kernel)
theorem store_fe (w : World) : (storeCells ⟨w.heap.size, 0, none⟩ ((iCells f0).toList.set 5 (.int .i64 1000)) 0).run Try.prog (w.alloc (.cells (iCells f0) 23)) = .ok () (w.alloc (.cells (iCells fe) 23)) := by
  rw [show (iCells f0).toList.set 5 (.int .i64 1000) = (iCells fe).toList from rfl]
  exact run_storeCells_new w _ _ _ (frame_size fe fe_length) (frame_same f0 fe f0_length fe_length) (iCells_one fe)
set_option maxRecDepth 100000 in
set_option maxHeartbeats 2000000 in
theorem lawake_any (w : World) :
    Calls Try.prog 9 #[] w fun e w' => e = .returned (.bool true) ∧ Below w.heap.size w w' := by
  have HSE := Lib.hid (frame_size fe fe_length)
  have HE : Hid (Row (w.alloc (.cells (iCells fe) 23)) w.heap.size 23 (iCells fe)) := heap_alloc_new _ _
  have HB_1 : Hid (Below w.heap.size w (w.alloc (.cells (iCells fe) 23))) := (Below.refl _ _).alloc (Nat.le_refl _) _
  have HWZ : Hid (∀ W, Calls Try.prog 11 #[.agg (iCells f0)] W fun e w' => e = .returned (.agg (iCells f0)) ∧ Below W.heap.size W w') := fun W => by
    have := waves_in f0 W held_f0
    rw [wav_f0] at this
    exact this
  have HWE := Lib.hid fun W => waves_in fe W held_fe
  have HBE : Hid (∀ W, Calls Try.prog 10 #[.agg (iCells (wav fe))] W fun e w' => e = .returned (.agg (iCells fe)) ∧ Below W.heap.size W w') := fun W => by
    have := wback_in (wav fe) W held_wfe
    rw [wbk_wav fe fe_length] at this
    exact this
  have hq1 := frame_eq f0 f0 f0_length f0_length
  rw [beq_self_eq_true] at hq1
  have hq2 := frame_eq (wav fe) fe (wav_len fe) fe_length
  rw [wav_fe] at hq2
  have hq3 := frame_eq fe fe fe_length fe_length
  rw [beq_self_eq_true] at hq3
  have HQ1 := Lib.hid hq1
  have HQ2 := Lib.hid hq2
  have HQ3 := Lib.hid hq3
  clear hq1 hq2 hq3
  generalize wav fe = V at *
  have hz := fun w => frame_zero w
  have hs32 : (iCells f0).size = 32 := rfl
  have hst := store_fe w
  go_enter Try.func9, Try.ntmps9
  go_wp2_with fail
  clear hst hs32
  generalize w.alloc (.cells (iCells fe) 23) = w1 at *
  have hq1 := HQ1.out
  have hq2 := HQ2.out
  have hq3 := HQ3.out
  have HC1 : Hid (∀ W : World, (∃ p : Regrown, W = Sort.grow (redrawn w1 p.d) p.os) → W.heap[w.heap.size]? = some (.cells (iCells fe) 23 (0, 0))) := by
    rintro W ⟨p, rfl⟩
    exact HE.out.below (below_regrown w1 p.d p.os) HE.out.lt
  have KC0 : Hid (∀ d os, Calls Try.prog 11 #[.agg (iCells f0)] (Sort.grow (redrawn w1 d) os) fun e w'' => e = .returned (.agg (iCells f0)) ∧ ∃ p : Regrown, w'' = Sort.grow (redrawn w1 p.d) p.os) :=
    fun d os => Calls.regrown_of (HWZ.out _)
  have KC1 : Hid (∀ d os, Calls Try.prog 11 #[.agg (iCells fe)] (Sort.grow (redrawn w1 d) os) fun e w'' => e = .returned (.agg (iCells V)) ∧ ∃ p : Regrown, w'' = Sort.grow (redrawn w1 p.d) p.os) :=
    fun d os => Calls.regrown_of (HWE.out _)
  have KC2 : Hid (∀ d os, Calls Try.prog 11 #[.agg (iCells fe)] (Sort.grow (redrawn w1 d) os) fun e w'' => e = .returned (.agg (iCells V)) ∧ ∃ p : Regrown, w'' = Sort.grow (redrawn w1 p.d) p.os) :=
    fun d os => Calls.regrown_of (HWE.out _)
  have KC3 : Hid (∀ d os, Calls Try.prog 10 #[.agg (iCells V)] (Sort.grow (redrawn w1 d) os) fun e w'' => e = .returned (.agg (iCells fe)) ∧ ∃ p : Regrown, w'' = Sort.grow (redrawn w1 p.d) p.os) :=
    fun d os => Calls.regrown_of (HBE.out _)
  go_wp2_with fail
  refine wp_region_quiet_below (by kernel_rfl) (by kernel_rfl) ?_
  repeat (first
    | (refine BigFrame.wpQuiet_want (by rfl) (fun K hK => ?_); refine q_load_row 23 (.tmp 1) rfl w.heap.size rfl 23 (iCells fe) (0, 0) _ HC1.out Try.underlying23 rfl HSE.out ?_; refine hK _ ?_; clear hK K; simp only [Act.put, List.setIfInBounds_toArray, List.set_cons_zero, List.set_cons_succ])
    | quiet_step (fail))
  quiet_step (first | (go_at_call 11; exact KC0.out _ _))
  repeat (first
    | (refine BigFrame.wpQuiet_want (by rfl) (fun K hK => ?_); refine q_load_row 23 (.tmp 1) rfl w.heap.size rfl 23 (iCells fe) (0, 0) _ HC1.out Try.underlying23 rfl HSE.out ?_; refine hK _ ?_; clear hK K; simp only [Act.put, List.setIfInBounds_toArray, List.set_cons_zero, List.set_cons_succ])
    | quiet_step (fail))
  quiet_step (first | (go_at_call 11; exact KC1.out _ _))
  repeat (first
    | (refine BigFrame.wpQuiet_want (by rfl) (fun K hK => ?_); refine q_load_row 23 (.tmp 1) rfl w.heap.size rfl 23 (iCells fe) (0, 0) _ HC1.out Try.underlying23 rfl HSE.out ?_; refine hK _ ?_; clear hK K; simp only [Act.put, List.setIfInBounds_toArray, List.set_cons_zero, List.set_cons_succ])
    | quiet_step (fail))
  quiet_step (first | (go_at_call 11; exact KC2.out _ _))
  repeat (first
    | (refine BigFrame.wpQuiet_want (by rfl) (fun K hK => ?_); refine q_load_row 23 (.tmp 1) rfl w.heap.size rfl 23 (iCells fe) (0, 0) _ HC1.out Try.underlying23 rfl HSE.out ?_; refine hK _ ?_; clear hK K; simp only [Act.put, List.setIfInBounds_toArray, List.set_cons_zero, List.set_cons_succ])
    | quiet_step (fail))
  quiet_step (first | (go_at_call 10; exact KC3.out _ _))
  repeat (first
    | (refine BigFrame.wpQuiet_want (by rfl) (fun K hK => ?_); refine q_load_row 23 (.tmp 1) rfl w.heap.size rfl 23 (iCells fe) (0, 0) _ HC1.out Try.underlying23 rfl HSE.out ?_; refine hK _ ?_; clear hK K; simp only [Act.put, List.setIfInBounds_toArray, List.set_cons_zero, List.set_cons_succ])
    | quiet_step (fail))
  refine wpQuiet_nil ?_
  intro _ hw'
  obtain ⟨⟨dq, osq⟩, hw''⟩ := hw'
  subst hw''
  have hb := below_regrown w1 dq osq
  have R1_2 := Lib.hid (HE.out.box hb)
  have HB_2 := Lib.hid (HB_1.out.trans (hb.mono HB_1.out.size))
  clear hb HE HB_1
  clear HC1 KC0 KC1 KC2 KC3
  generalize Sort.grow (redrawn w1 dq) osq = w2 at *
  go_wp2
  go_ret
  exact ⟨rfl, HB_2.out⟩
end Go.Proofs.Ytdlcdbkfhajkdaa
