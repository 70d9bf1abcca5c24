/-
  Promise 10.1, DctPlays, given what the reference answers: the waves of any frame are the document's; one that isn't held stays. Conditions: a frame of 32 ints.
-/
import Derived.Test.YtdlcdbkfhajkdaaDq
import Derived.Test.YtdlcdbkfhajkdaaDk
import Derived.Test.YtdlcdbkfhajkdaaDn
import Derived.Test.YtdlcdbkfhajkdaaDo
import Derived.Lib.QuietBelow
import Derived.Deep.Cut
namespace Go.Proofs.Ytdlcdbkfhajkdaa
open Go.RowKit
open M
/-- The first n numbers are held. -/
def hpre (f : List Int) (n : Nat) : Bool := (f.take n).all fun x => decide (-1073741824 ≤ x ∧ x ≤ 1073741824)
theorem hpre_step (f : List Int) (n : Nat) (h : n < f.length) : hpre f (n + 1) = (hpre f n && decide (-1073741824 ≤ f.getD n 0 ∧ f.getD n 0 ≤ 1073741824)) := by
  unfold hpre
  rw [List.take_add_one, List.all_append, List.getElem?_eq_getElem h, List.getD_eq_getElem?_getD, List.getElem?_eq_getElem h]
  simp
theorem hpre_full (f : List Int) (h : f.length = 32) : hpre f 32 = hldB f := by
  unfold hpre hldB
  rw [List.take_of_length_le (by omega)]
set_option maxRecDepth 100000 in
set_option maxHeartbeats 2000000 in
theorem plays_of (f : List Int) (w : World) (hf : f.length = 32)
    (hr : Hld f → ∀ W, Calls Try.prog 16 #[.agg (iCells f)] W fun e w' => e = .returned (.agg (iCells (wav f))) ∧ Below W.heap.size W w') :
    Calls Try.prog 6 #[.agg (iCells f)] w fun e w' => e = .returned (.bool true) ∧ Below w.heap.size w w' := by
  have HB_0 : Hid (Below w.heap.size w (w.alloc (.cells (iCells f) 22))) := (Below.refl _ _).alloc (Nat.le_refl _) _
  have HK_0 : Hid (Row (w.alloc (.cells (iCells f) 22)) w.heap.size 22 (iCells f)) := heap_alloc_new _ _
  have HSN := Lib.hid (nums_size f hf)
  have HAW := Lib.hid fun W => lawake_any W
  have HSX := Lib.hid (frame_size f hf)
  have HSS := Lib.hid (frame_same f0 f f0_length hf)
  have HHE := Lib.hid fun W => dheld_any f W hf
  have HOUT := Lib.hid fun (h : hldB f = false) W => waves_out f W hf h
  have HBUT := Lib.hid fun (h : hldB f = false) W => wback_out f W hf h
  have HIN := Lib.hid fun (h : hldB f = true) W => waves_in f W (hldB_yes f hf h)
  have HRE := Lib.hid fun (h : hldB f = true) => hr (hldB_yes f hf h)
  have hq1 := frame_eq f f hf hf
  rw [beq_self_eq_true] at hq1
  have hq2 := frame_eq (wav f) (wav f) (wav_len f) (wav_len f)
  rw [beq_self_eq_true] at hq2
  have HQ1 := Lib.hid hq1
  have HQ2 := Lib.hid hq2
  have HF := Lib.hid hf
  have hz := fun w => frame_zero w
  clear hq1 hq2 hf hr
  go_enter Try.func6, Try.ntmps6
  go_wp2_with (first
      | (refine wpList_load_row rfl 22 (.tmp 1) rfl w.heap.size rfl 22 (iCells f) (0, 0) _ HK_0.out Try.underlying22 rfl HSN.out ?_))
  generalize w.alloc (.cells (iCells f) 22) = w0 at *
  refine (HAW.out _).mono ?_
  rintro e w1 ⟨rfl, hb⟩
  have R1_1 := Lib.hid (HK_0.out.box hb)
  have HB_1 := Lib.hid (HB_0.out.trans (hb.mono HB_0.out.size))
  clear hb HK_0 HB_0
  clear HAW
  go_wp2_with fail
  go_loopw [3] (fun ii wr => ∃ n : Nat, n ≤ 16 ∧ ii = .int .i64 n ∧ w1 = wr) (fun ii _ => 16 - (intOf ii).toNat)
  case atStart => exact ⟨0, by omega, rfl, rfl⟩
  case round =>
    obtain ⟨n, hn, rfl, rfl⟩ := hrel
    rcases Nat.lt_or_ge n 16 with hlt | hge
    · have hfl := flp_lt n
      have HFF := Lib.hid (flp_flp n hlt)
      go_wp2_with fail
      refine (flip_any n _ hlt).mono ?_
      rintro e w' ⟨rfl, rfl⟩
      obtain ⟨m, hm⟩ : ∃ m, flp n = m := ⟨_, rfl⟩
      have HM := Lib.hid hm
      rw [hm] at hfl
      rw [hm]
      clear hm
      go_wp2_with fail
      refine (rflip_any n _ hlt).mono ?_
      rintro e w' ⟨rfl, rfl⟩
      rw [HM.out]
      go_wp2_with fail
      refine (flip_any n _ hlt).mono ?_
      rintro e w' ⟨rfl, rfl⟩
      rw [HM.out]
      go_wp2_with fail
      refine (flip_any m _ hfl).mono ?_
      rintro e w' ⟨rfl, rfl⟩
      rw [show flp m = n by rw [← HM.out]; exact HFF.out]
      go_wp2_with fail
      go_roundw
      case rel => exact ⟨n + 1, hlt, by go_num, by trivial⟩
      case measure => simp [intOf] <;> omega
    · obtain rfl : n = 16 := by omega
      clear hn hge
      rw [show ((16 : Nat) : Int) = 16 from rfl]
      have H0 : Hid (Row (w1.alloc (.cells (iCells f0) 23)) w1.heap.size 23 (iCells f0)) := heap_alloc_new _ _
      go_upto_region 9 with (first
          | (refine wpList_store_row rfl 23 (.tmp 4) (.tmp 25) rfl w1.heap.size (iCells f) rfl rfl 23 (iCells f0) H0.out HSX.out HSS.out (iCells_one _) ?_)
          | (refine wpList_load_row rfl 22 (.tmp 1) rfl w.heap.size rfl 22 (iCells f) (0, 0) _ R1_1.out Try.underlying22 rfl HSN.out ?_))
      have hgs := HB_1.out.size
      have hbs : Below w1.heap.size w1 ((w1.alloc (.cells (iCells f0) 23)).setRow w1.heap.size (iCells f)) := below_setRow ((Below.refl _ _).alloc (Nat.le_refl _) _) (Nat.le_refl _) _
      have R1_2 := Lib.hid (R1_1.out.box hbs)
      have R4_2 : Hid (Row ((w1.alloc (.cells (iCells f0) 23)).setRow w1.heap.size (iCells f)) w1.heap.size 23 (iCells f)) := Row.setRow H0.out _
      have HB_2 : Hid (Below w.heap.size w ((w1.alloc (.cells (iCells f0) 23)).setRow w1.heap.size (iCells f))) := Lib.hid (HB_1.out.trans (hbs.mono hgs))
      clear H0 R1_1 HB_1 hbs hgs
      generalize ((w1.alloc (.cells (iCells f0) 23)).setRow w1.heap.size (iCells f)) = w2 at *
      generalize w1.heap.size = g4 at *
      go_wp2_with fail
      go_loopw [5, 6] (fun hh ii wr => ∃ n : Nat, n ≤ 32 ∧ hh = .bool (hpre f n) ∧ ii = .int .i64 n ∧ w2 = wr) (fun _ ii _ => 32 - (intOf ii).toNat)
      case atStart => exact ⟨0, by omega, rfl, rfl, rfl⟩
      case round =>
        obtain ⟨n, hn, rfl, rfl, rfl⟩ := hrel
        rcases Nat.lt_or_ge n 32 with hlt | hge
        · have e1 := i_at R1_2.out n (by rw [HF.out]; exact hlt)
          have hst := hpre_step f n (by rw [HF.out]; exact hlt)
          have hnI : (n : Int) < 32 := by omega
          obtain ⟨x, hx⟩ : ∃ x, f.getD n 0 = x := ⟨_, rfl⟩
          obtain ⟨b, hb⟩ : ∃ b, hpre f n = b := ⟨_, rfl⟩
          rw [hx] at e1 hst
          rw [hb] at hst
          rw [hb]
          have HST := Lib.hid hst
          clear hst hx hb hn
          cases b
          · go_wp2_with fail
            go_roundw
            case rel => exact ⟨n + 1, hlt, by rw [HST.out]; rfl, by go_num, by trivial⟩
            case measure => simp [intOf] <;> omega
          · rcases Int.lt_or_le x (-1073741824) with h1 | h1
            · have hd1 : decide (-1073741824 ≤ x) = false := by rw [decide_eq_false_iff_not]; omega
              go_wp2_with fail
              go_roundw
              case rel => exact ⟨n + 1, hlt, by rw [HST.out]; congr 1; simp; omega, by go_num, by trivial⟩
              case measure => simp [intOf] <;> omega
            · rcases Int.lt_or_le 1073741824 x with h2 | h2
              · have hd2 : decide (x ≤ 1073741824) = false := by rw [decide_eq_false_iff_not]; omega
                go_wp2_with fail
                go_roundw
                case rel => exact ⟨n + 1, hlt, by rw [HST.out]; congr 1; simp; omega, by go_num, by trivial⟩
                case measure => simp [intOf] <;> omega
              · go_wp2_with fail
                go_roundw
                case rel => exact ⟨n + 1, hlt, by rw [HST.out]; congr 1; simp; omega, by go_num, by trivial⟩
                case measure => simp [intOf] <;> omega
        · obtain rfl : n = 32 := by omega
          clear hn hge
          rw [show ((32 : Nat) : Int) = 32 from rfl, hpre_full f HF.out]
          obtain ⟨b, hb⟩ : ∃ b, hldB f = b := ⟨_, rfl⟩
          have HH : Hid (∀ W, Calls Try.prog 12 #[.agg (iCells f)] W fun e w' => e = .returned (.bool b) ∧ Below W.heap.size W w') := fun W => by
            have := HHE.out W
            rw [hb] at this
            exact this
          rw [hb]
          clear HHE HF
          cases b
          · have HE := Lib.hid hb
            clear hb HIN HRE HQ2
            have hq1 := HQ1.out
            go_wp2_with (first
                | (refine wpList_load_row rfl 23 (.tmp 4) rfl g4 rfl 23 (iCells f) (0, 0) _ R4_2.out Try.underlying23 rfl HSX.out ?_))
            refine (HH.out _).mono ?_
            rintro e w3 ⟨rfl, hb⟩
            have R1_3 := Lib.hid (R1_2.out.box hb)
            have R4_3 := Lib.hid (R4_2.out.box hb)
            have HB_3 := Lib.hid (HB_2.out.trans (hb.mono HB_2.out.size))
            clear hb R1_2 R4_2 HB_2
            go_wp2_with fail
            have HC4 : Hid (∀ W : World, (∃ p : Regrown, W = Sort.grow (redrawn w3 p.d) p.os) → W.heap[g4]? = some (.cells (iCells f) 23 (0, 0))) := by
              rintro W ⟨p, rfl⟩
              exact R4_3.out.below (below_regrown w3 p.d p.os) R4_3.out.lt
            have KC0 : Hid (∀ d os, Calls Try.prog 11 #[.agg (iCells f)] (Sort.grow (redrawn w3 d) os) fun e w'' => e = .returned (.agg (iCells f)) ∧ ∃ p : Regrown, w'' = Sort.grow (redrawn w3 p.d) p.os) :=
              fun d os => Calls.regrown_of (HOUT.out HE.out _)
            have KC1 : Hid (∀ d os, Calls Try.prog 10 #[.agg (iCells f)] (Sort.grow (redrawn w3 d) os) fun e w'' => e = .returned (.agg (iCells f)) ∧ ∃ p : Regrown, w'' = Sort.grow (redrawn w3 p.d) p.os) :=
              fun d os => Calls.regrown_of (HBUT.out HE.out _)
            go_wp2_with fail
            refine wp_region_quiet_below (by kernel_rfl) (by kernel_rfl) ?_
            repeat (first
              | (refine BigFrame.wpQuiet_want (by rfl) (fun K hK => ?_); refine q_load_row 23 (.tmp 4) rfl g4 rfl 23 (iCells f) (0, 0) _ HC4.out Try.underlying23 rfl HSX.out ?_; refine hK _ ?_; clear hK K; simp only [Act.put, List.setIfInBounds_toArray, List.set_cons_zero, List.set_cons_succ])
              | quiet_step (fail))
            quiet_step (first | (go_at_call 11; exact KC0.out _ _))
            repeat (first
              | (refine BigFrame.wpQuiet_want (by rfl) (fun K hK => ?_); refine q_load_row 23 (.tmp 4) rfl g4 rfl 23 (iCells f) (0, 0) _ HC4.out Try.underlying23 rfl HSX.out ?_; refine hK _ ?_; clear hK K; simp only [Act.put, List.setIfInBounds_toArray, List.set_cons_zero, List.set_cons_succ])
              | quiet_step (fail))
            quiet_step (first | (go_at_call 10; exact KC1.out _ _))
            repeat (first
              | (refine BigFrame.wpQuiet_want (by rfl) (fun K hK => ?_); refine q_load_row 23 (.tmp 4) rfl g4 rfl 23 (iCells f) (0, 0) _ HC4.out Try.underlying23 rfl HSX.out ?_; refine hK _ ?_; clear hK K; simp only [Act.put, List.setIfInBounds_toArray, List.set_cons_zero, List.set_cons_succ])
              | quiet_step (fail))
            refine wpQuiet_nil ?_
            intro _ hw'
            obtain ⟨⟨dq, osq⟩, hw''⟩ := hw'
            subst hw''
            have hb := below_regrown w3 dq osq
            have R1_4 := Lib.hid (R1_3.out.box hb)
            have R4_4 := Lib.hid (R4_3.out.box hb)
            have HB_4 := Lib.hid (HB_3.out.trans (hb.mono HB_3.out.size))
            clear hb R1_3 R4_3 HB_3
            clear HC4 KC0 KC1
            generalize Sort.grow (redrawn w3 dq) osq = w4 at *
            go_wp2
            go_ret
            exact ⟨rfl, HB_4.out⟩
          · have HIN := Lib.hid (HIN.out hb)
            have HRE := Lib.hid (HRE.out hb)
            clear hb HOUT HBUT HQ1
            generalize wav f = V at *
            have hq1 := HQ2.out
            go_wp2_with (first
                | (refine wpList_load_row rfl 23 (.tmp 4) rfl g4 rfl 23 (iCells f) (0, 0) _ R4_2.out Try.underlying23 rfl HSX.out ?_))
            refine (HH.out _).mono ?_
            rintro e w3 ⟨rfl, hb⟩
            have R1_3 := Lib.hid (R1_2.out.box hb)
            have R4_3 := Lib.hid (R4_2.out.box hb)
            have HB_3 := Lib.hid (HB_2.out.trans (hb.mono HB_2.out.size))
            clear hb R1_2 R4_2 HB_2
            go_wp2_with fail
            have HC4 : Hid (∀ W : World, (∃ p : Regrown, W = Sort.grow (redrawn w3 p.d) p.os) → W.heap[g4]? = some (.cells (iCells f) 23 (0, 0))) := by
              rintro W ⟨p, rfl⟩
              exact R4_3.out.below (below_regrown w3 p.d p.os) R4_3.out.lt
            have HC1 : Hid (∀ W : World, (∃ p : Regrown, W = Sort.grow (redrawn w3 p.d) p.os) → W.heap[w.heap.size]? = some (.cells (iCells f) 22 (0, 0))) := by
              rintro W ⟨p, rfl⟩
              exact R1_3.out.below (below_regrown w3 p.d p.os) R1_3.out.lt
            have KC0 : Hid (∀ d os, Calls Try.prog 11 #[.agg (iCells f)] (Sort.grow (redrawn w3 d) os) fun e w'' => e = .returned (.agg (iCells V)) ∧ ∃ p : Regrown, w'' = Sort.grow (redrawn w3 p.d) p.os) :=
              fun d os => Calls.regrown_of (HIN.out _)
            have KC1 : Hid (∀ d os, Calls Try.prog 16 #[.agg (iCells f)] (Sort.grow (redrawn w3 d) os) fun e w'' => e = .returned (.agg (iCells V)) ∧ ∃ p : Regrown, w'' = Sort.grow (redrawn w3 p.d) p.os) :=
              fun d os => Calls.regrown_of (HRE.out _)
            go_wp2_with fail
            refine wp_region_quiet_below (by kernel_rfl) (by kernel_rfl) ?_
            repeat (first
              | (refine BigFrame.wpQuiet_want (by rfl) (fun K hK => ?_); refine q_load_row 23 (.tmp 4) rfl g4 rfl 23 (iCells f) (0, 0) _ HC4.out Try.underlying23 rfl HSX.out ?_; refine hK _ ?_; clear hK K; simp only [Act.put, List.setIfInBounds_toArray, List.set_cons_zero, List.set_cons_succ])
              | (refine BigFrame.wpQuiet_want (by rfl) (fun K hK => ?_); refine q_load_row 22 (.tmp 1) rfl w.heap.size rfl 22 (iCells f) (0, 0) _ HC1.out Try.underlying22 rfl HSN.out ?_; refine hK _ ?_; clear hK K; simp only [Act.put, List.setIfInBounds_toArray, List.set_cons_zero, List.set_cons_succ])
              | quiet_step (fail))
            quiet_step (first | (go_at_call 11; exact KC0.out _ _))
            repeat (first
              | (refine BigFrame.wpQuiet_want (by rfl) (fun K hK => ?_); refine q_load_row 23 (.tmp 4) rfl g4 rfl 23 (iCells f) (0, 0) _ HC4.out Try.underlying23 rfl HSX.out ?_; refine hK _ ?_; clear hK K; simp only [Act.put, List.setIfInBounds_toArray, List.set_cons_zero, List.set_cons_succ])
              | (refine BigFrame.wpQuiet_want (by rfl) (fun K hK => ?_); refine q_load_row 22 (.tmp 1) rfl w.heap.size rfl 22 (iCells f) (0, 0) _ HC1.out Try.underlying22 rfl HSN.out ?_; refine hK _ ?_; clear hK K; simp only [Act.put, List.setIfInBounds_toArray, List.set_cons_zero, List.set_cons_succ])
              | quiet_step (fail))
            quiet_step (first | (go_at_call 16; exact KC1.out _ _))
            repeat (first
              | (refine BigFrame.wpQuiet_want (by rfl) (fun K hK => ?_); refine q_load_row 23 (.tmp 4) rfl g4 rfl 23 (iCells f) (0, 0) _ HC4.out Try.underlying23 rfl HSX.out ?_; refine hK _ ?_; clear hK K; simp only [Act.put, List.setIfInBounds_toArray, List.set_cons_zero, List.set_cons_succ])
              | (refine BigFrame.wpQuiet_want (by rfl) (fun K hK => ?_); refine q_load_row 22 (.tmp 1) rfl w.heap.size rfl 22 (iCells f) (0, 0) _ HC1.out Try.underlying22 rfl HSN.out ?_; refine hK _ ?_; clear hK K; simp only [Act.put, List.setIfInBounds_toArray, List.set_cons_zero, List.set_cons_succ])
              | quiet_step (fail))
            refine wpQuiet_nil ?_
            intro _ hw'
            obtain ⟨⟨dq, osq⟩, hw''⟩ := hw'
            subst hw''
            have hb := below_regrown w3 dq osq
            have R1_4 := Lib.hid (R1_3.out.box hb)
            have R4_4 := Lib.hid (R4_3.out.box hb)
            have HB_4 := Lib.hid (HB_3.out.trans (hb.mono HB_3.out.size))
            clear hb R1_3 R4_3 HB_3
            clear HC4 HC1 KC0 KC1
            generalize Sort.grow (redrawn w3 dq) osq = w4 at *
            go_wp2
            go_ret
            exact ⟨rfl, HB_4.out⟩
end Go.Proofs.Ytdlcdbkfhajkdaa
