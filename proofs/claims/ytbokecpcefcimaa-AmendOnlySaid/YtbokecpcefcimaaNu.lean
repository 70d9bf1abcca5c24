/-
  The walk of the law AmendOnly. Condition: words have 127 bits.
-/
import Derived.Test.YtbokecpcefcimaaNo
import Derived.Test.YtbokecpcefcimaaJc
import Derived.Test.YtbokecpcefcimaaIw
namespace Go.Proofs.Ytbokecpcefcimaa
open Go.RowKit
open M
attribute [local go_sem] un_beq un_bne un_xor

set_option maxRecDepth 100000 in
set_option maxHeartbeats 4000000 in
theorem only_any (l h : List Bool) (w : World) (hll : l.length = 127) (hlh : h.length = 127) :
    Calls Try.prog 4 #[.agg (boolCells l), .agg (boolCells h)] w fun e w' => e = .returned (.bool true) ∧ Below w.heap.size w w' := by
  have H2_0 : Hid (Row ((w.alloc (.cells (boolCells l) 25)).alloc (.cells (boolCells h) 25)) w.heap.size 25 (boolCells l)) := heap_alloc2_old _ _ _
  have H3_0 : Hid (Row ((w.alloc (.cells (boolCells l) 25)).alloc (.cells (boolCells h) 25)) (w.heap.size + 1) 25 (boolCells h)) := heap_alloc2_new _ _ _
  have HB_0 : Hid (Below w.heap.size w ((w.alloc (.cells (boolCells l) 25)).alloc (.cells (boolCells h) 25))) := ((Below.refl _ _).alloc (Nat.le_refl _) _).alloc (by simp) _
  have HCT := Lib.hid (fun j (hj : j < 127) => count_take h j (by rw [hlh]; exact hj))
  have HCE : Hid ((h.take 127).count true = h.count true) := by unfold Hid; rw [← hlh, List.take_length]
  have HCM : Hid (∀ j, (h.take j).count true ≤ 127) := fun j => by
    have h1 := count_le (h.take j)
    rw [List.length_take] at h1
    omega
  have HFH := Lib.hid (fun c => far_holes l h c hlh)
  have HCC := Lib.hid (fun W => count_any h W hlh)
  have HLl := Lib.hid (hll)
  have HSlW := Lib.hid fun _ : Unit => word_size l HLl.out
  have HSlA := Lib.hid fun _ : Unit => arr_size l HLl.out
  have HLh := Lib.hid (hlh)
  have HShW := Lib.hid fun _ : Unit => word_size h HLh.out
  have HShA := Lib.hid fun _ : Unit => arr_size h HLh.out
  clear hll hlh
  go_enter Try.func4, Try.ntmps4
  go_wp2_with fail
  refine (awake_any _).mono ?_
  rintro e w1 ⟨rfl, hb⟩
  have H2_1 := Lib.hid (H2_0.out.box hb)
  have H3_1 := Lib.hid (H3_0.out.box hb)
  have HB_1 := Lib.hid (HB_0.out.trans (hb.mono HB_0.out.size))
  clear hb H2_0 H3_0 HB_0
  go_wp2_with (first
      | (refine wpList_load_row rfl 25 (.tmp 2) rfl w.heap.size rfl 25 (boolCells l) (0, 0) _ H2_1.out Try.underlying25 rfl (HSlA.out ()) ?_)
      | (refine wpList_load_row rfl 25 (.tmp 3) rfl (w.heap.size + 1) rfl 25 (boolCells h) (0, 0) _ H3_1.out Try.underlying25 rfl (HShA.out ()) ?_))
  refine (amend_any l h _ HLl.out HLh.out).mono ?_
  rintro e w2 ⟨y, n, rfl, ham, hb⟩
  have H2_2 := Lib.hid (H2_1.out.box hb)
  have H3_2 := Lib.hid (H3_1.out.box hb)
  have HB_2 := Lib.hid (HB_1.out.trans (hb.mono HB_1.out.size))
  clear hb H2_1 H3_1 HB_1
  have HA := Lib.hid ham
  clear ham
  go_wp2
  go_loopw [7, 8] (fun c i wr => ∃ j : Nat, j ≤ 127 ∧ i = .int .i64 (j : Nat) ∧ c = .int .i64 ((h.take j).count true : Nat) ∧ Row wr w.heap.size 25 (boolCells l) ∧ Row wr (w.heap.size + 1) 25 (boolCells h) ∧ Below w.heap.size w wr) (fun _ i _ => 127 - (intOf i).toNat)
  case atStart => exact ⟨0, by omega, rfl, rfl, H2_2.out, H3_2.out, HB_2.out⟩
  case round =>
    clear H2_2 H3_2 HB_2
    obtain ⟨j, hj, rfl, rfl, q1, q2, q3⟩ := hrel
    have H2 := Lib.hid q1
    have H3 := Lib.hid q2
    have HB := Lib.hid q3
    clear q1 q2 q3
    by_cases hlt : j < 127
    · have c0 := word_at H3.out j (by rw [HLh.out]; exact hlt)
      have HN := Lib.hid (HCT.out j hlt)
      have hcm := HCM.out j
      obtain ⟨p, hp⟩ : ∃ p, h.getD j false = p := ⟨_, rfl⟩
      rw [hp] at c0 HN
      obtain ⟨d, hd⟩ : ∃ d, (h.take j).count true = d := ⟨_, rfl⟩
      rw [hd] at HN hcm ⊢
      clear hp hd
      cases p
      all_goals
        go_wp2
        go_roundw
        case rel => exact ⟨j + 1, by omega, by go_num, by rw [HN.out]; simp, H2.out, H3.out, HB.out⟩
        case measure => simp [intOf] <;> omega
    · obtain rfl : j = 127 := by omega
      rw [HCE.out]
      have H2_w := H2
      have H3_w := H3
      have HB_w := HB
      clear H2 H3 HB HCT HCM hlt hj
      go_wp2_with (first
          | (refine wpList_load_row rfl 25 (.tmp 3) rfl (w.heap.size + 1) rfl 25 (boolCells h) (0, 0) _ H3_w.out Try.underlying25 rfl (HShA.out ()) ?_))
      refine (HCC.out _).mono ?_
      rintro e w51 ⟨rfl, hb⟩
      have H2_51 := Lib.hid (H2_w.out.box hb)
      have H3_51 := Lib.hid (H3_w.out.box hb)
      have HB_51 := Lib.hid (HB_w.out.trans (hb.mono HB_w.out.size))
      clear hb H2_w H3_w HB_w
      have hcl := HLh.out ▸ count_le h
      obtain ⟨d, hd⟩ : ∃ d, h.count true = d := ⟨_, rfl⟩
      rw [hd] at hcl HFH ⊢
      clear hd HCE HCC
      rcases HA.out with ⟨rfl, hy⟩ | ⟨rfl, rfl, hy⟩
      · have hfh := HFH.out (cwd y)
        have hd2 : ¬ (20 < (d : Int)) := by omega
        have hd3 : ¬ ((d : Int) > 20) := by omega
        clear hfh HFH HA
        have hcb := cwd_cw y
        have HEb := Lib.hid (encode_any y)
        have HFb := Lib.hid (encode_ref y)
        have HXb : Hid (Unit → cwd y = cwd y) := fun _ => rfl
        have hlb := cwd_length y
        obtain ⟨b, hb⟩ : ∃ l, cwd y = l := ⟨_, rfl⟩
        rw [hb] at HEb HFb hlb
        clear HXb
        have HXb := Lib.hid fun _ : Unit => hb
        clear hb
        have HFY : Hid (farN l h b 127 ≤ 20) := by rw [← HXb.out ()]; exact hy
        have hib : isCw b = true := by rw [isCw_iff, ← HXb.out ()]; exact hcb
        have HNB := Lib.hid (fun W => near_any l h b W HLl.out HLh.out hlb)
        have HRB := Lib.hid (fun W => far_any l h b W HLl.out HLh.out hlb)
        rw [hib, Bool.and_true] at HNB
        obtain ⟨B, hB⟩ : ∃ n, farN l h b 127 = n := ⟨_, rfl⟩
        rw [hB] at HNB HRB HFY
        have hB2 := HFY.out
        rw [show decide (B ≤ 20) = true by rw [decide_eq_true_iff]; exact hB2] at HNB
        have hB3 : (B : Int) ≤ 20 := by omega
        clear hy hcb hib hB hlb HFY
        go_wp2
        generalize hwr : w51 = wr at *
        clear hwr
        have HC2 : Hid (∀ W : World, (∃ p : Regrown, W = Sort.grow (redrawn wr p.d) p.os) → W.heap[w.heap.size]? = some (.cells (boolCells l) 25 (0, 0))) := by
          rintro W ⟨p, rfl⟩
          exact H2_51.out.below (below_regrown wr p.d p.os) H2_51.out.lt
        have HC3 : Hid (∀ W : World, (∃ p : Regrown, W = Sort.grow (redrawn wr p.d) p.os) → W.heap[(w.heap.size + 1)]? = some (.cells (boolCells h) 25 (0, 0))) := by
          rintro W ⟨p, rfl⟩
          exact H3_51.out.below (below_regrown wr p.d p.os) H3_51.out.lt
        have KE : Hid (∀ d os, Calls Try.prog 17 #[.int .u64 (un y)] (Sort.grow (redrawn wr d) os) fun e w'' => e = .returned (.agg (boolCells b)) ∧ ∃ p : Regrown, w'' = Sort.grow (redrawn wr p.d) p.os) :=
          fun d os => Calls.regrown_of (HEb.out _)
        have KN : Hid (∀ d os, Calls Try.prog 16 #[.agg (boolCells l), .agg (boolCells h), .agg (boolCells b)] (Sort.grow (redrawn wr d) os) fun e w'' => e = .returned (.bool true) ∧ ∃ p : Regrown, w'' = Sort.grow (redrawn wr p.d) p.os) :=
          fun d os => Calls.regrown_of (HNB.out _)
        have KR : Hid (∀ d os, Calls Try.prog 10 #[.int .u64 (un y)] (Sort.grow (redrawn wr d) os) fun e w'' => e = .returned (.agg (boolCells b)) ∧ ∃ p : Regrown, w'' = Sort.grow (redrawn wr p.d) p.os) :=
          fun d os => Calls.regrown_of (HFb.out _)
        have KF : Hid (∀ d os, Calls Try.prog 14 #[.agg (boolCells l), .agg (boolCells h), .agg (boolCells b)] (Sort.grow (redrawn wr d) os) fun e w'' => e = .returned (.int .i64 (B : Nat)) ∧ ∃ p : Regrown, w'' = Sort.grow (redrawn wr p.d) p.os) :=
          fun d os => Calls.regrown_of (HRB.out _)
        go_wp2_with fail
        refine wp_region_quiet_below (by kernel_rfl) (by kernel_rfl) ?_
        refine BigFrame.wpQuiet_want (by rfl) (fun K hK => ?_)
        refine quiet_load_row 25 (.tmp 2) rfl w.heap.size rfl 25 (boolCells l) (0, 0) _ HC2.out Try.underlying25 rfl (HSlA.out ()) ?_
        refine hK _ ?_
        clear hK K
        simp only [Act.put, List.setIfInBounds_toArray, List.set_cons_zero, List.set_cons_succ]
        refine BigFrame.wpQuiet_want (by rfl) (fun K hK => ?_)
        refine quiet_load_row 25 (.tmp 3) rfl (w.heap.size + 1) rfl 25 (boolCells h) (0, 0) _ HC3.out Try.underlying25 rfl (HShA.out ()) ?_
        refine hK _ ?_
        clear hK K
        simp only [Act.put, List.setIfInBounds_toArray, List.set_cons_zero, List.set_cons_succ]
        quiet_step (fail)
        quiet_step (first | (go_at_call 17; exact KE.out _ _))
        quiet_step (first | (go_at_call 16; exact KN.out _ _))
        repeat (quiet_step (fail))
        refine BigFrame.wpQuiet_want (by rfl) (fun K hK => ?_)
        refine quiet_load_row 25 (.tmp 2) rfl w.heap.size rfl 25 (boolCells l) (0, 0) _ HC2.out Try.underlying25 rfl (HSlA.out ()) ?_
        refine hK _ ?_
        clear hK K
        simp only [Act.put, List.setIfInBounds_toArray, List.set_cons_zero, List.set_cons_succ]
        refine BigFrame.wpQuiet_want (by rfl) (fun K hK => ?_)
        refine quiet_load_row 25 (.tmp 3) rfl (w.heap.size + 1) rfl 25 (boolCells h) (0, 0) _ HC3.out Try.underlying25 rfl (HShA.out ()) ?_
        refine hK _ ?_
        clear hK K
        simp only [Act.put, List.setIfInBounds_toArray, List.set_cons_zero, List.set_cons_succ]
        repeat (quiet_step (fail))
        quiet_step (first | (go_at_call 10; exact KR.out _ _))
        quiet_step (first | (go_at_call 14; exact KF.out _ _))
        repeat (quiet_step (fail))
        refine wpQuiet_nil ?_
        intro _ hw'
        obtain ⟨⟨dq, osq⟩, hw''⟩ := hw'
        subst hw''
        have HB_52 := Lib.hid (HB_51.out.trans ((below_regrown wr dq osq).mono HB_51.out.size))
        have H2_52 := Lib.hid (H2_51.out.below (below_regrown wr dq osq) H2_51.out.lt)
        have H3_52 := Lib.hid (H3_51.out.below (below_regrown wr dq osq) H3_51.out.lt)
        clear HC2 HC3 KE KN KR KF HB_51 H2_51 H3_51
        generalize Sort.grow (redrawn wr dq) osq = w52 at *
        clear wr
        go_wp2
        go_ret
        exact ⟨by first | rfl | simp [hB3], HB_52.out⟩
      · clear hy HFH HA
        rw [show un (0 : BitVec 64) = 0 from rfl]
        by_cases h20 : 20 < d
        · have hd2 : 20 < (d : Int) := by omega
          have hd3 : (d : Int) > 20 := by omega
          clear h20
          go_wp2
          go_ret
          exact ⟨rfl, HB_51.out⟩
        · have hd2 : ¬ (20 < (d : Int)) := by omega
          have hd3 : ¬ ((d : Int) > 20) := by omega
          clear h20
          go_wp2
          go_ret
          exact ⟨rfl, HB_51.out⟩
end Go.Proofs.Ytbokecpcefcimaa
