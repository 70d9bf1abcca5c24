/-
  The walk of the law AmendFar. Conditions: bytes; the lists lie as they were opened.
-/
import Derived.Test.YtbokecpcefcimaaNo
import Derived.Test.YtbokecpcefcimaaJc
import Derived.Test.YtbokecpcefcimaaIw
namespace Go.Proofs.Ytbokecpcefcimaa
open Go.RowKit
open M
attribute [local go_sem] un_beq un_bne un_xor

set_option maxRecDepth 100000 in
set_option maxHeartbeats 2000000 in
theorem far_big (x y : BitVec 64) (l1 l2 : Value) (xs ys : List Int) (w : World) (hl : 40 < xs.length ∨ 40 < ys.length ∨ x = y) (hm1 : xs.length ≤ maxLen) (hm2 : ys.length ≤ maxLen) (h1 : BytesAt w l1 xs) (h2 : BytesAt w l2 ys) :
    Calls Try.prog 7 #[.int .u64 (un x), .int .u64 (un y), l1, l2] w fun e w' => e = .returned (.bool true) ∧ Below w.heap.size w w' := by
  unfold maxLen at hm1 hm2
  obtain ⟨a1, c1, rfl, hcells⟩ := h1
  clear hcells
  obtain ⟨a2, c2, rfl, hcells⟩ := h2
  clear hcells
  by_cases hx : 40 < xs.length
  · have hl' : (xs.length : Int) > 40 := by omega
    clear hl
    go_enter Try.func7, Try.ntmps7
    go_wp2_with fail
    refine (awake_any _).mono ?_
    rintro e w1 ⟨rfl, hb⟩
    have HB := Lib.hid hb
    clear hb
    go_wp2_with fail
    refine (awake_any _).mono ?_
    rintro e w2 ⟨rfl, hb⟩
    have HB2 := Lib.hid (HB.out.trans (hb.mono HB.out.size))
    clear hb
    go_wp2
    go_ret
    exact ⟨rfl, HB2.out⟩
  · have hl' : ¬ ((xs.length : Int) > 40) := by omega
    by_cases hy : 40 < ys.length
    · have hl2 : (ys.length : Int) > 40 := by omega
      clear hl
      go_enter Try.func7, Try.ntmps7
      go_wp2_with fail
      refine (awake_any _).mono ?_
      rintro e w1 ⟨rfl, hb⟩
      have HB := Lib.hid hb
      clear hb
      go_wp2_with fail
      refine (awake_any _).mono ?_
      rintro e w2 ⟨rfl, hb⟩
      have HB2 := Lib.hid (HB.out.trans (hb.mono HB.out.size))
      clear hb
      go_wp2
      go_ret
      exact ⟨rfl, HB2.out⟩
    · have hl2 : ¬ ((ys.length : Int) > 40) := by omega
      have he : x = y := by
        rcases hl with h | h | h
        · exact absurd h hx
        · exact absurd h hy
        · exact h
      have he2 : (x == y) = true := by rw [beq_iff_eq]; exact he
      clear hl he
      go_enter Try.func7, Try.ntmps7
      go_wp2_with fail
      refine (awake_any _).mono ?_
      rintro e w1 ⟨rfl, hb⟩
      have HB := Lib.hid hb
      clear hb
      go_wp2_with fail
      refine (awake_any _).mono ?_
      rintro e w2 ⟨rfl, hb⟩
      have HB2 := Lib.hid (HB.out.trans (hb.mono HB.out.size))
      clear hb
      go_wp2
      go_ret
      exact ⟨rfl, HB2.out⟩
set_option maxRecDepth 100000 in
set_option maxHeartbeats 2000000 in
theorem far_walk (x y : BitVec 64) (l1 l2 : Value) (xs ys : List Int) (w : World) (hne : x ≠ y) (hl1 : xs.length ≤ 40) (hl2 : ys.length ≤ 40) (hp1 : ∀ p ∈ xs, 0 ≤ p ∧ p ≤ 255) (hp2 : ∀ p ∈ ys, 0 ≤ p ∧ p ≤ 255) (h1 : BytesAt w l1 xs) (h2 : BytesAt w l2 ys) :
    Calls Try.prog 7 #[.int .u64 (un x), .int .u64 (un y), l1, l2] w fun e w' => e = .returned (.bool true) ∧ Below w.heap.size w w' := by
  have HI1 := Lib.hid h1
  have HI2 := Lib.hid h2
  have HP1 := Lib.hid hp1
  have HP2 := Lib.hid hp2
  obtain ⟨ab1, lc1, rfl, hcells⟩ := h1
  clear hcells hp1
  obtain ⟨ab2, lc2, rfl, hcells⟩ := h2
  clear hcells hp2
  have hl' : ¬ ((xs.length : Int) > 40) := by omega
  have hl'' : ¬ (40 < (xs.length : Int)) := by omega
  have hk' : ¬ ((ys.length : Int) > 40) := by omega
  have hk'' : ¬ (40 < (ys.length : Int)) := by omega
  have hxy : (x == y) = false := by rw [beq_eq_false_iff_ne]; exact hne
  have hca := cwd_cw x
  have hcb := cwd_cw y
  have HEa := Lib.hid (encode_any x)
  have HFa := Lib.hid (encode_ref x)
  have HXa : Hid (Unit → cwd x = cwd x) := fun _ => rfl
  have hla := cwd_length x
  obtain ⟨a, ha⟩ : ∃ l, cwd x = l := ⟨_, rfl⟩
  rw [ha] at HEa HFa hla
  clear HXa
  have HXa := Lib.hid fun _ : Unit => ha
  clear ha
  have HEb := Lib.hid (encode_any y)
  have HFb := Lib.hid (encode_ref y)
  have HXb : Hid (Unit → cwd y = cwd y) := fun _ => rfl
  have hlb := cwd_length y
  obtain ⟨b, hb⟩ : ∃ l, cwd y = l := ⟨_, rfl⟩
  rw [hb] at HEb HFb hlb
  clear HXb
  have HXb := Lib.hid fun _ : Unit => hb
  clear hb
  have hls : (flips a (plc6 xs)).length = 127 := by rw [flips_length, hla]
  have HSP := Lib.hid (fun W V h => spoil_any a xs V W hla (by omega) HP1.out h)
  obtain ⟨s, hs⟩ : ∃ s, flips a (plc6 xs) = s := ⟨_, rfl⟩
  rw [hs] at hls HSP
  clear hs
  have hlm : (mk6 w0 (plc6 ys)).length = 127 := by rw [mk6_length, w0_length]
  have HHO := Lib.hid (fun W V h => holes_any ys V W (by omega) HP2.out h)
  obtain ⟨m, hm⟩ : ∃ m, mk6 w0 (plc6 ys) = m := ⟨_, rfl⟩
  rw [hm] at hlm HHO
  clear hm
  have HPQ : Hid (farN s m a 127 ≤ 20 → farN s m b 127 ≤ 20 → False) := by
    intro h1 h2
    have e := near_one s m a b hla hlb (by rw [← HXa.out ()]; exact hca) (by rw [← HXb.out ()]; exact hcb) h1 h2
    rw [← HXa.out (), ← HXb.out ()] at e
    exact hne (cwd_inj _ _ e)
  have hia : isCw a = true := by rw [isCw_iff, ← HXa.out ()]; exact hca
  have hib : isCw b = true := by rw [isCw_iff, ← HXb.out ()]; exact hcb
  have HNA := Lib.hid (fun W => near_any s m a W hls hlm hla)
  have HNB := Lib.hid (fun W => near_any s m b W hls hlm hlb)
  have HRA := Lib.hid (fun W => far_any s m a W hls hlm hla)
  have HRB := Lib.hid (fun W => far_any s m b W hls hlm hlb)
  rw [hia, Bool.and_true] at HNA
  rw [hib, Bool.and_true] at HNB
  obtain ⟨A, hA⟩ : ∃ n, farN s m a 127 = n := ⟨_, rfl⟩
  obtain ⟨B, hB⟩ : ∃ n, farN s m b 127 = n := ⟨_, rfl⟩
  rw [hA] at HNA HRA HPQ
  rw [hB] at HNB HRB HPQ
  clear hA hB hia hib hca hcb hne
  have HLa := Lib.hid (hla)
  have HSaW := Lib.hid fun _ : Unit => word_size a HLa.out
  have HSaA := Lib.hid fun _ : Unit => arr_size a HLa.out
  have HLb := Lib.hid (hlb)
  have HSbW := Lib.hid fun _ : Unit => word_size b HLb.out
  have HSbA := Lib.hid fun _ : Unit => arr_size b HLb.out
  have HLs := Lib.hid (hls)
  have HSsW := Lib.hid fun _ : Unit => word_size s HLs.out
  have HSsA := Lib.hid fun _ : Unit => arr_size s HLs.out
  have HLm := Lib.hid (hlm)
  have HSmW := Lib.hid fun _ : Unit => word_size m HLm.out
  have HSmA := Lib.hid fun _ : Unit => arr_size m HLm.out
  clear hla hlb hls hlm
  have hz := word_zero
  have hza := arr_zero
  go_enter Try.func7, Try.ntmps7
  go_wp2_with fail
  refine (awake_any _).mono ?_
  rintro e w1 ⟨rfl, hb⟩
  have HI1_1 := Lib.hid (HI1.out.below hb)
  have HI2_1 := Lib.hid (HI2.out.below hb)
  have HB_1 := Lib.hid hb
  clear hb HI1 HI2
  go_wp2_with fail
  refine (HFa.out _).mono ?_
  rintro e w2 ⟨rfl, hb⟩
  have HI1_2 := Lib.hid (HI1_1.out.below hb)
  have HI2_2 := Lib.hid (HI2_1.out.below hb)
  have HB_2 := Lib.hid (HB_1.out.trans (hb.mono HB_1.out.size))
  clear hb HI1_1 HI2_1 HB_1
  go_wp2_with fail
  refine (HSP.out _ _ HI1_2.out).mono ?_
  rintro e w3 ⟨rfl, hb⟩
  have HI1_3 := Lib.hid (HI1_2.out.below hb)
  have HI2_3 := Lib.hid (HI2_2.out.below hb)
  have HB_3 := Lib.hid (HB_2.out.trans (hb.mono HB_2.out.size))
  clear hb HI1_2 HI2_2 HB_2
  have H0 : Hid (Row (w3.alloc (.cells (boolCells w0) 25)) w3.heap.size 25 (boolCells w0)) := heap_alloc_new _ _
  have HS0 : Hid (Unit → (boolCells w0).size = (boolCells s).size) := by intro _; rw [boolCells_size, boolCells_size, w0_length, HLs.out]
  go_upto_region 4 with (first
      | (refine wpList_store_row rfl 25 (.tmp 9) (.tmp 34) rfl w3.heap.size (boolCells s) rfl rfl 25 (boolCells w0) H0.out (HSsA.out ()) (HS0.out ()) (boolCells_one s) ?_))
  have hgs := HB_3.out.size
  have H9_4 : Hid (Row ((w3.alloc (.cells (boolCells w0) 25)).setRow w3.heap.size (boolCells s)) w3.heap.size 25 (boolCells s)) := Row.setRow H0.out _
  have HB_4 : Hid (Below w.heap.size w ((w3.alloc (.cells (boolCells w0) 25)).setRow w3.heap.size (boolCells s))) := below_setRow (HB_3.out.alloc hgs _) hgs _
  have hgb9 : w.heap.size ≤ w3.heap.size := hgs
  have HI1_4 := Lib.hid (HI1_3.out.below (W' := ((w3.alloc (.cells (boolCells w0) 25)).setRow w3.heap.size (boolCells s))) (below_setRow ((Below.refl _ _).alloc (Nat.le_refl _) _) (Nat.le_refl _) _))
  have HI2_4 := Lib.hid (HI2_3.out.below (W' := ((w3.alloc (.cells (boolCells w0) 25)).setRow w3.heap.size (boolCells s))) (below_setRow ((Below.refl _ _).alloc (Nat.le_refl _) _) (Nat.le_refl _) _))
  clear H0 HS0 HB_3 HI1_3 HI2_3 hgs 
  generalize ((w3.alloc (.cells (boolCells w0) 25)).setRow w3.heap.size (boolCells s)) = w4 at *
  generalize w3.heap.size = g9 at *
  go_wp2_with (first
      | (refine wpList_load_row rfl 25 (.tmp 9) rfl g9 rfl 25 (boolCells s) (0, 0) _ H9_4.out Try.underlying25 rfl (HSsA.out ()) ?_))
  refine (HHO.out _ _ HI2_4.out).mono ?_
  rintro e w5 ⟨rfl, hb⟩
  have H9_5 := Lib.hid (H9_4.out.box hb)
  have HI1_5 := Lib.hid (HI1_4.out.below hb)
  have HI2_5 := Lib.hid (HI2_4.out.below hb)
  have HB_5 := Lib.hid (HB_4.out.trans (hb.mono HB_4.out.size))
  clear hb H9_4 HI1_4 HI2_4 HB_4
  have H0 : Hid (Row (w5.alloc (.cells (boolCells w0) 25)) w5.heap.size 25 (boolCells w0)) := heap_alloc_new _ _
  have HS0 : Hid (Unit → (boolCells w0).size = (boolCells m).size) := by intro _; rw [boolCells_size, boolCells_size, w0_length, HLm.out]
  go_upto_region 5 with (first
      | (refine wpList_store_row rfl 25 (.tmp 10) (.tmp 36) rfl w5.heap.size (boolCells m) rfl rfl 25 (boolCells w0) H0.out (HSmA.out ()) (HS0.out ()) (boolCells_one m) ?_)
      | (refine wpList_load_row rfl 25 (.tmp 9) rfl g9 rfl 25 (boolCells s) (0, 0) _ H9_5.out Try.underlying25 rfl (HSsA.out ()) ?_))
  have hgs := HB_5.out.size
  have hlt9 := H9_5.out.lt
  have H9_6 : Hid (Row ((w5.alloc (.cells (boolCells w0) 25)).setRow w5.heap.size (boolCells m)) g9 25 (boolCells s)) := (setRow_other _ _ _ _ (by omega)).trans (H9_5.out.alloc _)
  have H10_6 : Hid (Row ((w5.alloc (.cells (boolCells w0) 25)).setRow w5.heap.size (boolCells m)) w5.heap.size 25 (boolCells m)) := Row.setRow H0.out _
  have HB_6 : Hid (Below w.heap.size w ((w5.alloc (.cells (boolCells w0) 25)).setRow w5.heap.size (boolCells m))) := below_setRow (HB_5.out.alloc hgs _) hgs _
  have hgb10 : w.heap.size ≤ w5.heap.size := hgs
  have HI1_6 := Lib.hid (HI1_5.out.below (W' := ((w5.alloc (.cells (boolCells w0) 25)).setRow w5.heap.size (boolCells m))) (below_setRow ((Below.refl _ _).alloc (Nat.le_refl _) _) (Nat.le_refl _) _))
  have HI2_6 := Lib.hid (HI2_5.out.below (W' := ((w5.alloc (.cells (boolCells w0) 25)).setRow w5.heap.size (boolCells m))) (below_setRow ((Below.refl _ _).alloc (Nat.le_refl _) _) (Nat.le_refl _) _))
  have hne9_10 : g9 < w5.heap.size := hlt9
  clear H0 HS0 H9_5 HB_5 HI1_5 HI2_5 hgs hlt9
  generalize ((w5.alloc (.cells (boolCells w0) 25)).setRow w5.heap.size (boolCells m)) = w6 at *
  generalize w5.heap.size = g10 at *
  clear HI1_6 HI2_6
  generalize hwr : w6 = wr at *
  clear hwr
  have HC9 : Hid (∀ W : World, (∃ p : Regrown, W = Sort.grow (redrawn wr p.d) p.os) → W.heap[g9]? = some (.cells (boolCells s) 25 (0, 0))) := by
    rintro W ⟨p, rfl⟩
    exact H9_6.out.below (below_regrown wr p.d p.os) H9_6.out.lt
  have HC10 : Hid (∀ W : World, (∃ p : Regrown, W = Sort.grow (redrawn wr p.d) p.os) → W.heap[g10]? = some (.cells (boolCells m) 25 (0, 0))) := by
    rintro W ⟨p, rfl⟩
    exact H10_6.out.below (below_regrown wr p.d p.os) H10_6.out.lt
  have KE : Hid (∀ d os, Calls Try.prog 17 #[.int .u64 (un x)] (Sort.grow (redrawn wr d) os) fun e w'' => e = .returned (.agg (boolCells a)) ∧ ∃ p : Regrown, w'' = Sort.grow (redrawn wr p.d) p.os) :=
    fun d os => Calls.regrown_of (HEa.out _)
  have KN : Hid (∀ d os, Calls Try.prog 16 #[.agg (boolCells s), .agg (boolCells m), .agg (boolCells a)] (Sort.grow (redrawn wr d) os) fun e w'' => e = .returned (.bool (decide (A ≤ 20))) ∧ ∃ p : Regrown, w'' = Sort.grow (redrawn wr p.d) p.os) :=
    fun d os => Calls.regrown_of (HNA.out _)
  go_wp2_with fail
  refine wp_region_quiet_below (by kernel_rfl) (by kernel_rfl) ?_
  refine BigFrame.wpQuiet_want (by rfl) (fun K hK => ?_)
  refine quiet_load_row 25 (.tmp 9) rfl g9 rfl 25 (boolCells s) (0, 0) _ HC9.out Try.underlying25 rfl (HSsA.out ()) ?_
  refine hK _ ?_
  clear hK K
  simp only [Act.put, List.setIfInBounds_toArray, List.set_cons_zero, List.set_cons_succ]
  refine BigFrame.wpQuiet_want (by rfl) (fun K hK => ?_)
  refine quiet_load_row 25 (.tmp 10) rfl g10 rfl 25 (boolCells m) (0, 0) _ HC10.out Try.underlying25 rfl (HSmA.out ()) ?_
  refine hK _ ?_
  clear hK K
  simp only [Act.put, List.setIfInBounds_toArray, List.set_cons_zero, List.set_cons_succ]
  quiet_step (fail)
  quiet_step (first | (go_at_call 17; exact KE.out _ _))
  quiet_step (first | (go_at_call 16; exact KN.out _ _))
  repeat (quiet_step (fail))
  refine wpQuiet_nil ?_
  intro _ hw'
  obtain ⟨⟨dq, osq⟩, hw''⟩ := hw'
  subst hw''
  have HB_7 := Lib.hid (HB_6.out.trans ((below_regrown wr dq osq).mono HB_6.out.size))
  have H9_7 := Lib.hid (H9_6.out.below (below_regrown wr dq osq) H9_6.out.lt)
  have H10_7 := Lib.hid (H10_6.out.below (below_regrown wr dq osq) H10_6.out.lt)
  clear HC9 HC10 KE KN HB_6 H9_6 H10_6
  generalize Sort.grow (redrawn wr dq) osq = w7 at *
  clear wr
  generalize hwr : w7 = wr at *
  clear hwr
  have HC9 : Hid (∀ W : World, (∃ p : Regrown, W = Sort.grow (redrawn wr p.d) p.os) → W.heap[g9]? = some (.cells (boolCells s) 25 (0, 0))) := by
    rintro W ⟨p, rfl⟩
    exact H9_7.out.below (below_regrown wr p.d p.os) H9_7.out.lt
  have HC10 : Hid (∀ W : World, (∃ p : Regrown, W = Sort.grow (redrawn wr p.d) p.os) → W.heap[g10]? = some (.cells (boolCells m) 25 (0, 0))) := by
    rintro W ⟨p, rfl⟩
    exact H10_7.out.below (below_regrown wr p.d p.os) H10_7.out.lt
  have KE : Hid (∀ d os, Calls Try.prog 17 #[.int .u64 (un y)] (Sort.grow (redrawn wr d) os) fun e w'' => e = .returned (.agg (boolCells b)) ∧ ∃ p : Regrown, w'' = Sort.grow (redrawn wr p.d) p.os) :=
    fun d os => Calls.regrown_of (HEb.out _)
  have KN : Hid (∀ d os, Calls Try.prog 16 #[.agg (boolCells s), .agg (boolCells m), .agg (boolCells b)] (Sort.grow (redrawn wr d) os) fun e w'' => e = .returned (.bool (decide (B ≤ 20))) ∧ ∃ p : Regrown, w'' = Sort.grow (redrawn wr p.d) p.os) :=
    fun d os => Calls.regrown_of (HNB.out _)
  go_wp2_with fail
  refine wp_region_quiet_below (by kernel_rfl) (by kernel_rfl) ?_
  refine BigFrame.wpQuiet_want (by rfl) (fun K hK => ?_)
  refine quiet_load_row 25 (.tmp 9) rfl g9 rfl 25 (boolCells s) (0, 0) _ HC9.out Try.underlying25 rfl (HSsA.out ()) ?_
  refine hK _ ?_
  clear hK K
  simp only [Act.put, List.setIfInBounds_toArray, List.set_cons_zero, List.set_cons_succ]
  refine BigFrame.wpQuiet_want (by rfl) (fun K hK => ?_)
  refine quiet_load_row 25 (.tmp 10) rfl g10 rfl 25 (boolCells m) (0, 0) _ HC10.out Try.underlying25 rfl (HSmA.out ()) ?_
  refine hK _ ?_
  clear hK K
  simp only [Act.put, List.setIfInBounds_toArray, List.set_cons_zero, List.set_cons_succ]
  quiet_step (fail)
  quiet_step (first | (go_at_call 17; exact KE.out _ _))
  quiet_step (first | (go_at_call 16; exact KN.out _ _))
  repeat (quiet_step (fail))
  refine wpQuiet_nil ?_
  intro _ hw'
  obtain ⟨⟨dq, osq⟩, hw''⟩ := hw'
  subst hw''
  have HB_8 := Lib.hid (HB_7.out.trans ((below_regrown wr dq osq).mono HB_7.out.size))
  have H9_8 := Lib.hid (H9_7.out.below (below_regrown wr dq osq) H9_7.out.lt)
  have H10_8 := Lib.hid (H10_7.out.below (below_regrown wr dq osq) H10_7.out.lt)
  clear HC9 HC10 KE KN HB_7 H9_7 H10_7
  generalize Sort.grow (redrawn wr dq) osq = w8 at *
  clear wr
  have HDA : Hid (∀ z : Bool, decide (A ≤ 20) = z → (decide ((A : Int) ≤ 20)) = z) := by
    intro z h; rw [← h, decide_eq_decide]; omega
  have HDB : Hid (∀ z : Bool, decide (B ≤ 20) = z → (decide ((B : Int) ≤ 20)) = z) := by
    intro z h; rw [← h, decide_eq_decide]; omega
  have HPP : Hid (decide (A ≤ 20) = true → decide (B ≤ 20) = true → False) := by
    intro h1 h2
    rw [decide_eq_true_iff] at h1 h2
    exact HPQ.out h1 h2
  obtain ⟨p, hp⟩ : ∃ p, decide (A ≤ 20) = p := ⟨_, rfl⟩
  obtain ⟨q, hq⟩ : ∃ q, decide (B ≤ 20) = q := ⟨_, rfl⟩
  have hda := HDA.out p hp
  have hdb := HDB.out q hq
  rw [hp, hq] at HPP
  rw [hp, hq]
  clear hp hq HDA HDB HPQ HNA HNB
  cases p <;> cases q
  · generalize hwr : w8 = wr at *
    clear hwr
    have HC9 : Hid (∀ W : World, (∃ p : Regrown, W = Sort.grow (redrawn wr p.d) p.os) → W.heap[g9]? = some (.cells (boolCells s) 25 (0, 0))) := by
      rintro W ⟨p, rfl⟩
      exact H9_8.out.below (below_regrown wr p.d p.os) H9_8.out.lt
    have HC10 : Hid (∀ W : World, (∃ p : Regrown, W = Sort.grow (redrawn wr p.d) p.os) → W.heap[g10]? = some (.cells (boolCells m) 25 (0, 0))) := by
      rintro W ⟨p, rfl⟩
      exact H10_8.out.below (below_regrown wr p.d p.os) H10_8.out.lt
    have KA : Hid (∀ d os, Calls Try.prog 10 #[.int .u64 (un x)] (Sort.grow (redrawn wr d) os) fun e w'' => e = .returned (.agg (boolCells a)) ∧ ∃ p : Regrown, w'' = Sort.grow (redrawn wr p.d) p.os) :=
      fun d os => Calls.regrown_of (HFa.out _)
    have KFA : Hid (∀ d os, Calls Try.prog 14 #[.agg (boolCells s), .agg (boolCells m), .agg (boolCells a)] (Sort.grow (redrawn wr d) os) fun e w'' => e = .returned (.int .i64 (A : Nat)) ∧ ∃ p : Regrown, w'' = Sort.grow (redrawn wr p.d) p.os) :=
      fun d os => Calls.regrown_of (HRA.out _)
    have KB : Hid (∀ d os, Calls Try.prog 10 #[.int .u64 (un y)] (Sort.grow (redrawn wr d) os) fun e w'' => e = .returned (.agg (boolCells b)) ∧ ∃ p : Regrown, w'' = Sort.grow (redrawn wr p.d) p.os) :=
      fun d os => Calls.regrown_of (HFb.out _)
    have KFB : Hid (∀ d os, Calls Try.prog 14 #[.agg (boolCells s), .agg (boolCells m), .agg (boolCells b)] (Sort.grow (redrawn wr d) os) fun e w'' => e = .returned (.int .i64 (B : Nat)) ∧ ∃ p : Regrown, w'' = Sort.grow (redrawn wr p.d) p.os) :=
      fun d os => Calls.regrown_of (HRB.out _)
    go_wp2_with fail
    refine wp_region_quiet_below (by kernel_rfl) (by kernel_rfl) ?_
    repeat (quiet_step (fail))
    refine BigFrame.wpQuiet_want (by rfl) (fun K hK => ?_)
    refine quiet_load_row 25 (.tmp 9) rfl g9 rfl 25 (boolCells s) (0, 0) _ HC9.out Try.underlying25 rfl (HSsA.out ()) ?_
    refine hK _ ?_
    clear hK K
    simp only [Act.put, List.setIfInBounds_toArray, List.set_cons_zero, List.set_cons_succ]
    refine BigFrame.wpQuiet_want (by rfl) (fun K hK => ?_)
    refine quiet_load_row 25 (.tmp 10) rfl g10 rfl 25 (boolCells m) (0, 0) _ HC10.out Try.underlying25 rfl (HSmA.out ()) ?_
    refine hK _ ?_
    clear hK K
    simp only [Act.put, List.setIfInBounds_toArray, List.set_cons_zero, List.set_cons_succ]
    repeat (quiet_step (fail))
    quiet_step (first | (go_at_call 10; exact KA.out _ _))
    quiet_step (first | (go_at_call 14; exact KFA.out _ _))
    repeat (quiet_step (fail))
    refine BigFrame.wpQuiet_want (by rfl) (fun K hK => ?_)
    refine quiet_load_row 25 (.tmp 9) rfl g9 rfl 25 (boolCells s) (0, 0) _ HC9.out Try.underlying25 rfl (HSsA.out ()) ?_
    refine hK _ ?_
    clear hK K
    simp only [Act.put, List.setIfInBounds_toArray, List.set_cons_zero, List.set_cons_succ]
    refine BigFrame.wpQuiet_want (by rfl) (fun K hK => ?_)
    refine quiet_load_row 25 (.tmp 10) rfl g10 rfl 25 (boolCells m) (0, 0) _ HC10.out Try.underlying25 rfl (HSmA.out ()) ?_
    refine hK _ ?_
    clear hK K
    simp only [Act.put, List.setIfInBounds_toArray, List.set_cons_zero, List.set_cons_succ]
    repeat (quiet_step (fail))
    quiet_step (first | (go_at_call 10; exact KB.out _ _))
    quiet_step (first | (go_at_call 14; exact KFB.out _ _))
    repeat (quiet_step (fail))
    refine wpQuiet_nil ?_
    intro _ hw'
    obtain ⟨⟨dq, osq⟩, hw''⟩ := hw'
    subst hw''
    have HB_9 := Lib.hid (HB_8.out.trans ((below_regrown wr dq osq).mono HB_8.out.size))
    have H9_9 := Lib.hid (H9_8.out.below (below_regrown wr dq osq) H9_8.out.lt)
    have H10_9 := Lib.hid (H10_8.out.below (below_regrown wr dq osq) H10_8.out.lt)
    clear HC9 HC10 KA KFA KB KFB HB_8 H9_8 H10_8
    generalize Sort.grow (redrawn wr dq) osq = w9 at *
    clear wr
    go_wp2
    go_ret
    exact ⟨by first | rfl | simp [hda, hdb], HB_9.out⟩
  · generalize hwr : w8 = wr at *
    clear hwr
    have HC9 : Hid (∀ W : World, (∃ p : Regrown, W = Sort.grow (redrawn wr p.d) p.os) → W.heap[g9]? = some (.cells (boolCells s) 25 (0, 0))) := by
      rintro W ⟨p, rfl⟩
      exact H9_8.out.below (below_regrown wr p.d p.os) H9_8.out.lt
    have HC10 : Hid (∀ W : World, (∃ p : Regrown, W = Sort.grow (redrawn wr p.d) p.os) → W.heap[g10]? = some (.cells (boolCells m) 25 (0, 0))) := by
      rintro W ⟨p, rfl⟩
      exact H10_8.out.below (below_regrown wr p.d p.os) H10_8.out.lt
    have KA : Hid (∀ d os, Calls Try.prog 10 #[.int .u64 (un x)] (Sort.grow (redrawn wr d) os) fun e w'' => e = .returned (.agg (boolCells a)) ∧ ∃ p : Regrown, w'' = Sort.grow (redrawn wr p.d) p.os) :=
      fun d os => Calls.regrown_of (HFa.out _)
    have KFA : Hid (∀ d os, Calls Try.prog 14 #[.agg (boolCells s), .agg (boolCells m), .agg (boolCells a)] (Sort.grow (redrawn wr d) os) fun e w'' => e = .returned (.int .i64 (A : Nat)) ∧ ∃ p : Regrown, w'' = Sort.grow (redrawn wr p.d) p.os) :=
      fun d os => Calls.regrown_of (HRA.out _)
    have KB : Hid (∀ d os, Calls Try.prog 10 #[.int .u64 (un y)] (Sort.grow (redrawn wr d) os) fun e w'' => e = .returned (.agg (boolCells b)) ∧ ∃ p : Regrown, w'' = Sort.grow (redrawn wr p.d) p.os) :=
      fun d os => Calls.regrown_of (HFb.out _)
    have KFB : Hid (∀ d os, Calls Try.prog 14 #[.agg (boolCells s), .agg (boolCells m), .agg (boolCells b)] (Sort.grow (redrawn wr d) os) fun e w'' => e = .returned (.int .i64 (B : Nat)) ∧ ∃ p : Regrown, w'' = Sort.grow (redrawn wr p.d) p.os) :=
      fun d os => Calls.regrown_of (HRB.out _)
    go_wp2_with fail
    refine wp_region_quiet_below (by kernel_rfl) (by kernel_rfl) ?_
    repeat (quiet_step (fail))
    refine BigFrame.wpQuiet_want (by rfl) (fun K hK => ?_)
    refine quiet_load_row 25 (.tmp 9) rfl g9 rfl 25 (boolCells s) (0, 0) _ HC9.out Try.underlying25 rfl (HSsA.out ()) ?_
    refine hK _ ?_
    clear hK K
    simp only [Act.put, List.setIfInBounds_toArray, List.set_cons_zero, List.set_cons_succ]
    refine BigFrame.wpQuiet_want (by rfl) (fun K hK => ?_)
    refine quiet_load_row 25 (.tmp 10) rfl g10 rfl 25 (boolCells m) (0, 0) _ HC10.out Try.underlying25 rfl (HSmA.out ()) ?_
    refine hK _ ?_
    clear hK K
    simp only [Act.put, List.setIfInBounds_toArray, List.set_cons_zero, List.set_cons_succ]
    repeat (quiet_step (fail))
    quiet_step (first | (go_at_call 10; exact KA.out _ _))
    quiet_step (first | (go_at_call 14; exact KFA.out _ _))
    repeat (quiet_step (fail))
    refine BigFrame.wpQuiet_want (by rfl) (fun K hK => ?_)
    refine quiet_load_row 25 (.tmp 9) rfl g9 rfl 25 (boolCells s) (0, 0) _ HC9.out Try.underlying25 rfl (HSsA.out ()) ?_
    refine hK _ ?_
    clear hK K
    simp only [Act.put, List.setIfInBounds_toArray, List.set_cons_zero, List.set_cons_succ]
    refine BigFrame.wpQuiet_want (by rfl) (fun K hK => ?_)
    refine quiet_load_row 25 (.tmp 10) rfl g10 rfl 25 (boolCells m) (0, 0) _ HC10.out Try.underlying25 rfl (HSmA.out ()) ?_
    refine hK _ ?_
    clear hK K
    simp only [Act.put, List.setIfInBounds_toArray, List.set_cons_zero, List.set_cons_succ]
    repeat (quiet_step (fail))
    quiet_step (first | (go_at_call 10; exact KB.out _ _))
    quiet_step (first | (go_at_call 14; exact KFB.out _ _))
    repeat (quiet_step (fail))
    refine wpQuiet_nil ?_
    intro _ hw'
    obtain ⟨⟨dq, osq⟩, hw''⟩ := hw'
    subst hw''
    have HB_9 := Lib.hid (HB_8.out.trans ((below_regrown wr dq osq).mono HB_8.out.size))
    have H9_9 := Lib.hid (H9_8.out.below (below_regrown wr dq osq) H9_8.out.lt)
    have H10_9 := Lib.hid (H10_8.out.below (below_regrown wr dq osq) H10_8.out.lt)
    clear HC9 HC10 KA KFA KB KFB HB_8 H9_8 H10_8
    generalize Sort.grow (redrawn wr dq) osq = w9 at *
    clear wr
    go_wp2
    go_ret
    exact ⟨by first | rfl | simp [hda, hdb], HB_9.out⟩
  · generalize hwr : w8 = wr at *
    clear hwr
    have HC9 : Hid (∀ W : World, (∃ p : Regrown, W = Sort.grow (redrawn wr p.d) p.os) → W.heap[g9]? = some (.cells (boolCells s) 25 (0, 0))) := by
      rintro W ⟨p, rfl⟩
      exact H9_8.out.below (below_regrown wr p.d p.os) H9_8.out.lt
    have HC10 : Hid (∀ W : World, (∃ p : Regrown, W = Sort.grow (redrawn wr p.d) p.os) → W.heap[g10]? = some (.cells (boolCells m) 25 (0, 0))) := by
      rintro W ⟨p, rfl⟩
      exact H10_8.out.below (below_regrown wr p.d p.os) H10_8.out.lt
    have KA : Hid (∀ d os, Calls Try.prog 10 #[.int .u64 (un x)] (Sort.grow (redrawn wr d) os) fun e w'' => e = .returned (.agg (boolCells a)) ∧ ∃ p : Regrown, w'' = Sort.grow (redrawn wr p.d) p.os) :=
      fun d os => Calls.regrown_of (HFa.out _)
    have KFA : Hid (∀ d os, Calls Try.prog 14 #[.agg (boolCells s), .agg (boolCells m), .agg (boolCells a)] (Sort.grow (redrawn wr d) os) fun e w'' => e = .returned (.int .i64 (A : Nat)) ∧ ∃ p : Regrown, w'' = Sort.grow (redrawn wr p.d) p.os) :=
      fun d os => Calls.regrown_of (HRA.out _)
    have KB : Hid (∀ d os, Calls Try.prog 10 #[.int .u64 (un y)] (Sort.grow (redrawn wr d) os) fun e w'' => e = .returned (.agg (boolCells b)) ∧ ∃ p : Regrown, w'' = Sort.grow (redrawn wr p.d) p.os) :=
      fun d os => Calls.regrown_of (HFb.out _)
    have KFB : Hid (∀ d os, Calls Try.prog 14 #[.agg (boolCells s), .agg (boolCells m), .agg (boolCells b)] (Sort.grow (redrawn wr d) os) fun e w'' => e = .returned (.int .i64 (B : Nat)) ∧ ∃ p : Regrown, w'' = Sort.grow (redrawn wr p.d) p.os) :=
      fun d os => Calls.regrown_of (HRB.out _)
    go_wp2_with fail
    refine wp_region_quiet_below (by kernel_rfl) (by kernel_rfl) ?_
    repeat (quiet_step (fail))
    refine BigFrame.wpQuiet_want (by rfl) (fun K hK => ?_)
    refine quiet_load_row 25 (.tmp 9) rfl g9 rfl 25 (boolCells s) (0, 0) _ HC9.out Try.underlying25 rfl (HSsA.out ()) ?_
    refine hK _ ?_
    clear hK K
    simp only [Act.put, List.setIfInBounds_toArray, List.set_cons_zero, List.set_cons_succ]
    refine BigFrame.wpQuiet_want (by rfl) (fun K hK => ?_)
    refine quiet_load_row 25 (.tmp 10) rfl g10 rfl 25 (boolCells m) (0, 0) _ HC10.out Try.underlying25 rfl (HSmA.out ()) ?_
    refine hK _ ?_
    clear hK K
    simp only [Act.put, List.setIfInBounds_toArray, List.set_cons_zero, List.set_cons_succ]
    repeat (quiet_step (fail))
    quiet_step (first | (go_at_call 10; exact KA.out _ _))
    quiet_step (first | (go_at_call 14; exact KFA.out _ _))
    repeat (quiet_step (fail))
    refine BigFrame.wpQuiet_want (by rfl) (fun K hK => ?_)
    refine quiet_load_row 25 (.tmp 9) rfl g9 rfl 25 (boolCells s) (0, 0) _ HC9.out Try.underlying25 rfl (HSsA.out ()) ?_
    refine hK _ ?_
    clear hK K
    simp only [Act.put, List.setIfInBounds_toArray, List.set_cons_zero, List.set_cons_succ]
    refine BigFrame.wpQuiet_want (by rfl) (fun K hK => ?_)
    refine quiet_load_row 25 (.tmp 10) rfl g10 rfl 25 (boolCells m) (0, 0) _ HC10.out Try.underlying25 rfl (HSmA.out ()) ?_
    refine hK _ ?_
    clear hK K
    simp only [Act.put, List.setIfInBounds_toArray, List.set_cons_zero, List.set_cons_succ]
    repeat (quiet_step (fail))
    quiet_step (first | (go_at_call 10; exact KB.out _ _))
    quiet_step (first | (go_at_call 14; exact KFB.out _ _))
    repeat (quiet_step (fail))
    refine wpQuiet_nil ?_
    intro _ hw'
    obtain ⟨⟨dq, osq⟩, hw''⟩ := hw'
    subst hw''
    have HB_9 := Lib.hid (HB_8.out.trans ((below_regrown wr dq osq).mono HB_8.out.size))
    have H9_9 := Lib.hid (H9_8.out.below (below_regrown wr dq osq) H9_8.out.lt)
    have H10_9 := Lib.hid (H10_8.out.below (below_regrown wr dq osq) H10_8.out.lt)
    clear HC9 HC10 KA KFA KB KFB HB_8 H9_8 H10_8
    generalize Sort.grow (redrawn wr dq) osq = w9 at *
    clear wr
    go_wp2
    go_ret
    exact ⟨by first | rfl | simp [hda, hdb], HB_9.out⟩
  · exact absurd rfl (fun h => HPP.out h rfl)
theorem farl_any (x y : BitVec 64) (l1 l2 : Value) (xs ys : List Int) (w : World) (hm1 : xs.length ≤ maxLen) (hm2 : ys.length ≤ maxLen) (hp1 : ∀ p ∈ xs, 0 ≤ p ∧ p ≤ 255) (hp2 : ∀ p ∈ ys, 0 ≤ p ∧ p ≤ 255) (h1 : BytesAt w l1 xs) (h2 : BytesAt w l2 ys) :
    Calls Try.prog 7 #[.int .u64 (un x), .int .u64 (un y), l1, l2] w fun e w' => e = .returned (.bool true) ∧ Below w.heap.size w w' := by
  by_cases hb : 40 < xs.length ∨ 40 < ys.length ∨ x = y
  · exact far_big x y l1 l2 xs ys w hb hm1 hm2 h1 h2
  · exact far_walk x y l1 l2 xs ys w (fun e => hb (Or.inr (Or.inr e))) (by omega) (by omega) hp1 hp2 h1 h2
end Go.Proofs.Ytbokecpcefcimaa
