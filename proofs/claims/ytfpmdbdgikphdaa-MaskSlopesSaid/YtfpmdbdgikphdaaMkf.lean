/-
  MaskPlays, walked. Conditions: eight ints, an int, eight ints; what mask's functions answer.
-/
import Derived.Test.YtfpmdbdgikphdaaMke
namespace Go.Proofs.Ytfpmdbdgikphdaa
open Go.RowKit
open M
theorem bdI_out (l : List Int) (b : Int) (h : ¬ (rt17 l = true ∧ 0 ≤ b ∧ b < 8)) : bdI l b = 0 := if_neg h
theorem mvI_out (l : List Int) (b : Int) (h : ¬ (rt17 l = true ∧ 0 ≤ b ∧ b < 8)) : mvI l b = 0 := if_neg h
theorem myB_out (l : List Int) (b : Int) (y z : List Int) (h : ¬ (rt17 l = true ∧ 0 ≤ b ∧ b < 8)) : myB l b y z = false :=
  decide_eq_false fun k => h ⟨k.1, k.2.1⟩
theorem mvI_in (l : List Int) (b : Nat) (h : rt17 l = true) (hb : b < 8) : mvI l (b : Int) = (bud (fun j => (l.getD j 0).toNat) b / 2 ^ (l.getD b 0).toNat : Nat) := by
  unfold mvI
  rw [if_pos ⟨h, by omega, by omega⟩, Int.toNat_natCast]
theorem myB_great (l : List Int) (b : Int) (y z : List Int) (h : ¬ (sm17 y = true ∧ sm17 z = true)) : myB l b y z = false :=
  decide_eq_false fun k => h k.2.2.1
theorem fyI_out (y z : List Int) (h : ¬ (sm17 y = true ∧ sm17 z = true)) : fyI y z = -1 := if_neg h
set_option maxRecDepth 100000 in
set_option maxHeartbeats 4000000 in
theorem plays17_law (HA : AllOk) (HBu : BudOk) (HMo : MovOk) (HFa : FarOk) (HMa : MayOk) (x y z : List Int) (b : Int) (w : World) (hx : x.length = 8) (hy : y.length = 4) (hz : z.length = 4) :
    Calls Try.prog 5 #[.agg (iCells x), .int .i64 b, .agg (iCells y), .agg (iCells z)] w fun e w' => e = .returned (.bool true) ∧ Below w.heap.size w w' := by
  have HAW := Lib.hid fun w => awake17_any HA w
  have HFA := Lib.hid fun w => HFa y z w hy hz
  have HGY := Lib.hid fun w => rgreat_any y w hy
  have HGZ := Lib.hid fun w => rgreat_any z w hz
  have HRI := Lib.hid fun w => rright_any x w hx
  have HX := Lib.hid (i8_size x hx)
  have HSY := Lib.hid (four_size y hy)
  have HSZ := Lib.hid (four_size z hz)
  have HXL := Lib.hid hx
  have HYL := Lib.hid hy
  have HZL := Lib.hid hz
  have HAO := Lib.hid HA
  have HBO := Lib.hid HBu
  have HMO := Lib.hid HMo
  have HYO := Lib.hid HMa
  have hzz := sds_zero
  have HR : Hid (Row (((w.alloc (.cells (iCells x) 22)).alloc (.cells (iCells y) 29)).alloc (.cells (iCells z) 29)) w.heap.size 22 (iCells x)) := Lib.hid ((Row.alloc (heap_alloc_new _ _) _).alloc _)
  have HRY : Hid (Row (((w.alloc (.cells (iCells x) 22)).alloc (.cells (iCells y) 29)).alloc (.cells (iCells z) 29)) (w.heap.size + 1) 29 (iCells y)) := Lib.hid (Row.alloc (row_new _ _ (by simp) _ _) _)
  have HRZ : Hid (Row (((w.alloc (.cells (iCells x) 22)).alloc (.cells (iCells y) 29)).alloc (.cells (iCells z) 29)) (w.heap.size + 1 + 1) 29 (iCells z)) := Lib.hid (row_new _ _ (by simp) _ _)
  have HB : Hid (Below w.heap.size w (((w.alloc (.cells (iCells x) 22)).alloc (.cells (iCells y) 29)).alloc (.cells (iCells z) 29))) := Lib.hid ((((Below.refl _ _).alloc (Nat.le_refl _) _).alloc (by simp) _).alloc (by simp; omega) _)
  clear hx hy hz HA HBu HMo HFa HMa
  go_enter Try.func5, Try.ntmps5
  go_wp2_with fail
  generalize ((w.alloc (.cells (iCells x) 22)).alloc (.cells (iCells y) 29)).alloc (.cells (iCells z) 29) = w1 at *
  obtain ⟨g, hg⟩ : ∃ g, w.heap.size = g := ⟨_, rfl⟩
  have HG := Lib.hid fun _ : Unit => hg
  rw [hg] at HR HRY HRZ
  rw [hg]
  clear hg
  refine (HAW.out _).mono ?_
  rintro e w11 ⟨rfl, hb⟩
  have HR := Lib.hid (HR.out.box hb)
  have HRY := Lib.hid (HRY.out.box hb)
  have HRZ := Lib.hid (HRZ.out.box hb)
  have HB := Lib.hid (HB.out.trans (hb.mono HB.out.size))
  clear hb
  go_wp2_with (first
    | (refine wpList_load_row rfl 29 (.tmp 6) rfl (g + 1) rfl 29 (iCells y) (0, 0) _ HRY.out Try.underlying29 rfl HSY.out ?_)
    | (refine wpList_load_row rfl 29 (.tmp 7) rfl (g + 1 + 1) rfl 29 (iCells z) (0, 0) _ HRZ.out Try.underlying29 rfl HSZ.out ?_))
  refine (HFA.out _).mono ?_
  rintro e w12 ⟨rfl, hb⟩
  have HR := Lib.hid (HR.out.box hb)
  have HRY := Lib.hid (HRY.out.box hb)
  have HRZ := Lib.hid (HRZ.out.box hb)
  have HB := Lib.hid (HB.out.trans (hb.mono HB.out.size))
  clear hb
  go_wp2_with (first
    | (refine wpList_load_row rfl 29 (.tmp 6) rfl (g + 1) rfl 29 (iCells y) (0, 0) _ HRY.out Try.underlying29 rfl HSY.out ?_))
  refine (HGY.out _).mono ?_
  rintro e w13 ⟨rfl, hb⟩
  have HR := Lib.hid (HR.out.box hb)
  have HRY := Lib.hid (HRY.out.box hb)
  have HRZ := Lib.hid (HRZ.out.box hb)
  have HB := Lib.hid (HB.out.trans (hb.mono HB.out.size))
  clear hb
  cases hsy : sm17 y
  · have hgr : ¬ (sm17 y = true ∧ sm17 z = true) := fun k => by rw [hsy] at k; cases k.1
    have hf := fyI_out y z hgr
    rw [hf]
    clear hf hsy
    go_wp2_with (first
      | (refine wpList_load_row rfl 22 (.tmp 4) rfl g rfl 22 (iCells x) (0, 0) _ HR.out Try.underlying22 rfl HX.out ?_))
    refine (HRI.out _).mono ?_
    rintro e w14 ⟨rfl, hb⟩
    have HR := Lib.hid (HR.out.box hb)
    have HRY := Lib.hid (HRY.out.box hb)
    have HRZ := Lib.hid (HRZ.out.box hb)
    have HB := Lib.hid (HB.out.trans (hb.mono HB.out.size))
    clear hb
    by_cases hok : rt17 x = true ∧ 0 ≤ b ∧ b < 8
    · obtain ⟨hrt, hb0, hb8⟩ := hok
      obtain ⟨q, rfl⟩ : ∃ q : Nat, b = q := ⟨b.toNat, by omega⟩
      have hqN : q < 8 := by omega
      have HBD := (rt_iff x).1 hrt
      have hgq := HBD q hqN
      have hRB := fun w => rbudget_any x q w HXL.out HBD (by omega)
      have hB0 := fun w => HBO.out x (q : Int) w HXL.out
      have hM0 := fun w => HMO.out x (q : Int) w HXL.out
      have hY0 := fun w => HYO.out x (q : Int) y z w HXL.out HYL.out HZL.out
      rw [bdI_in x q hrt hqN] at hB0
      rw [mvI_in x q hrt hqN] at hM0
      rw [myB_great x _ y z hgr] at hY0
      have hAL := fun w => HAO.out x w HXL.out
      have HAG := Lib.hid ((alL_get x q hqN).trans (bdI_in x q hrt hqN))
      have hwb := bud_small x q hrt
      obtain ⟨t, ht⟩ : ∃ t : Nat, (x.getD q 0).toNat = t := ⟨_, rfl⟩
      have hgt : x.getD q 0 = (t : Int) := by omega
      obtain ⟨W, hW⟩ : ∃ n, bud (fun j => (x.getD j 0).toNat) q = n := ⟨_, rfl⟩
      rw [hW] at hRB hB0 hM0 hwb HAG
      rw [ht] at hM0
      have hGN := fun w => rgain_below t w (by omega)
      have hpb := pow15 t (by omega)
      obtain ⟨M0, hM⟩ : ∃ n, W / 2 ^ t = n := ⟨_, rfl⟩
      have hMW : M0 ≤ W := by rw [← hM]; exact Nat.div_le_self _ _
      have hdv : (W : Int).tdiv ((2 : Int) ^ t) = (M0 : Int) := by
        rw [Int.tdiv_eq_ediv_of_nonneg (by omega), ← hM, Int.natCast_ediv, Int.natCast_pow]; rfl
      rw [hM] at hM0
      obtain ⟨P, hP⟩ : ∃ P : Int, (2 : Int) ^ t = P := ⟨_, rfl⟩
      rw [hP] at hpb hdv
      simp only [hP] at hGN
      obtain ⟨hP1, hP2⟩ := hpb
      have hP0 : (P == 0) = false := by rw [beq_eq_false_iff_ne]; omega
      have hPn : P ≠ 0 := by omega
      have ewM : IntKind.i64.wrap (M0 : Int) = (M0 : Int) := by rw [IntKind.wrap_i64]; omega
      have HRB := Lib.hid hRB
      have HB0 := Lib.hid hB0
      have HM0 := Lib.hid hM0
      have HY0 := Lib.hid hY0
      have HAL := Lib.hid hAL
      have HGN := Lib.hid hGN
      have HGQ := Lib.hid hgt
      have HQN := Lib.hid hqN
      have HLA := Lib.hid (alL_len x)
      have HSS := Lib.hid (sds_size (alL x) HLA.out)
      have HSX := Lib.hid (sds_same zs8 (alL x) zs8_length HLA.out)
      have hqI : (q : Int) < 8 := by omega
      have hq0 : ¬ (q : Int) < 0 := by omega
      have hq7 : ¬ (7 : Int) < (q : Int) := by omega
      have hbW : (W : Int) ≤ 131072 := by omega
      rw [hrt]
      clear hrt hb0 hb8 hqN HBD hgq hRB hB0 hM0 hY0 hAL hGN hgt ht hW hM hP hwb hMW
      go_wp2_with (first
        | (refine wpList_load_row rfl 22 (.tmp 4) rfl g rfl 22 (iCells x) (0, 0) _ HR.out Try.underlying22 rfl HX.out ?_))
      refine (HRB.out _).mono ?_
      rintro e w18 ⟨rfl, hb⟩
      have HR := Lib.hid (HR.out.box hb)
      have HRY := Lib.hid (HRY.out.box hb)
      have HRZ := Lib.hid (HRZ.out.box hb)
      have HB := Lib.hid (HB.out.trans (hb.mono HB.out.size))
      clear hb
      have c0 := i_at HR.out q (by rw [HXL.out]; exact HQN.out)
      rw [HGQ.out] at c0
      go_wp2_with fail
      refine (HGN.out _).mono ?_
      rintro e w19 ⟨rfl, hb⟩
      have HR := Lib.hid (HR.out.box hb)
      have HRY := Lib.hid (HRY.out.box hb)
      have HRZ := Lib.hid (HRZ.out.box hb)
      have HB := Lib.hid (HB.out.trans (hb.mono HB.out.size))
      clear hb
      clear c0
      go_wp2_with (first
        | (refine wpList_load_row rfl 22 (.tmp 4) rfl g rfl 22 (iCells x) (0, 0) _ HR.out Try.underlying22 rfl HX.out ?_))
      refine (HAL.out _).mono ?_
      rintro e w20 ⟨rfl, hb⟩
      have HR := Lib.hid (HR.out.box hb)
      have HRY := Lib.hid (HRY.out.box hb)
      have HRZ := Lib.hid (HRZ.out.box hb)
      have HB := Lib.hid (HB.out.trans (hb.mono HB.out.size))
      clear hb
      have HRA : Hid (Row (w20.alloc (.cells (iCells zs8) 24)) w20.heap.size 24 (iCells zs8)) := Lib.hid (heap_alloc_new _ _)
      go_upto_region 12 with (refine wpList_store_row rfl 24 (.tmp 13) (.tmp 78) rfl w20.heap.size (iCells (alL x)) rfl rfl 24 (iCells zs8) HRA.out HSS.out HSX.out (iCells_one _) ?_)
      have HNE := Lib.hid (show g ≠ w20.heap.size ∧ g + 1 ≠ w20.heap.size ∧ g + 1 + 1 ≠ w20.heap.size by have := HRZ.out.lt; omega)
      have HR := Lib.hid (show Row ((w20.alloc (.cells (iCells zs8) 24)).setRow w20.heap.size (iCells (alL x))) g 22 (iCells x) from (setRow_other _ _ _ _ HNE.out.1).trans (Row.alloc HR.out _))
      have HRY := Lib.hid (show Row ((w20.alloc (.cells (iCells zs8) 24)).setRow w20.heap.size (iCells (alL x))) (g + 1) 29 (iCells y) from (setRow_other _ _ _ _ HNE.out.2.1).trans (Row.alloc HRY.out _))
      have HRZ := Lib.hid (show Row ((w20.alloc (.cells (iCells zs8) 24)).setRow w20.heap.size (iCells (alL x))) (g + 1 + 1) 29 (iCells z) from (setRow_other _ _ _ _ HNE.out.2.2).trans (Row.alloc HRZ.out _))
      have HB := Lib.hid (below_setRow (HB.out.alloc HB.out.size (.cells (iCells zs8) 24)) HB.out.size (iCells (alL x)))
      have HRA := Lib.hid (Row.setRow HRA.out (iCells (alL x)))
      generalize (w20.alloc (.cells (iCells zs8) 24)).setRow w20.heap.size (iCells (alL x)) = w6 at *
      obtain ⟨ga, hga⟩ : ∃ ga, w20.heap.size = ga := ⟨_, rfl⟩
      rw [hga] at HRA ⊢
      clear hga
      have c0 := cell_regrown (i_at HRA.out q (by rw [HLA.out]; exact HQN.out))
      rw [HAG.out] at c0
      have CR : Hid (∀ W : World, (∃ p : Regrown, W = Sort.grow (redrawn w6 p.d) p.os) → W.heap[g]? = some (.cells (iCells x) 22 (0, 0))) := by
        rintro W ⟨p, rfl⟩
        exact HR.out.below (below_regrown w6 p.d p.os) HR.out.lt
      have CY : Hid (∀ W : World, (∃ p : Regrown, W = Sort.grow (redrawn w6 p.d) p.os) → W.heap[g + 1]? = some (.cells (iCells y) 29 (0, 0))) := by
        rintro W ⟨p, rfl⟩
        exact HRY.out.below (below_regrown w6 p.d p.os) HRY.out.lt
      have CZ : Hid (∀ W : World, (∃ p : Regrown, W = Sort.grow (redrawn w6 p.d) p.os) → W.heap[g + 1 + 1]? = some (.cells (iCells z) 29 (0, 0))) := by
        rintro W ⟨p, rfl⟩
        exact HRZ.out.below (below_regrown w6 p.d p.os) HRZ.out.lt
      have K1 : Hid (∀ d os, Calls Try.prog 9 #[.agg (iCells x), .int .i64 (q : Int)] (Sort.grow (redrawn w6 d) os) fun e w'' => e = .returned (.int .i64 (W : Int)) ∧ ∃ p : Regrown, w'' = Sort.grow (redrawn w6 p.d) p.os) :=
        Lib.hid fun d os => Calls.regrown_of (HB0.out _)
      have K2 : Hid (∀ d os, Calls Try.prog 11 #[.agg (iCells x), .int .i64 (q : Int)] (Sort.grow (redrawn w6 d) os) fun e w'' => e = .returned (.int .i64 (M0 : Int)) ∧ ∃ p : Regrown, w'' = Sort.grow (redrawn w6 p.d) p.os) :=
        Lib.hid fun d os => Calls.regrown_of (HM0.out _)
      have K3 : Hid (∀ d os, Calls Try.prog 13 #[.agg (iCells x), .int .i64 (q : Int), .agg (iCells y), .agg (iCells z)] (Sort.grow (redrawn w6 d) os) fun e w'' => e = .returned (.bool false) ∧ ∃ p : Regrown, w'' = Sort.grow (redrawn w6 p.d) p.os) :=
        Lib.hid fun d os => Calls.regrown_of (HY0.out _)
      go_wp2_with fail
      refine wp_region_quiet_below (by kernel_rfl) (by kernel_rfl) ?_
      simp only [Act.put]
      repeat (first
        | (go_big_quiet_want; refine q_load_row 22 (.tmp 4) rfl g rfl 22 (iCells x) (0, 0) _ CR.out Try.underlying22 rfl HX.out ?_; go_big_quiet_on; simp only [Act.put, List.setIfInBounds_toArray, List.set_cons_zero, List.set_cons_succ])
        | (go_big_quiet_want; refine q_load_row 29 (.tmp 6) rfl (g + 1) rfl 29 (iCells y) (0, 0) _ CY.out Try.underlying29 rfl HSY.out ?_; go_big_quiet_on; simp only [Act.put, List.setIfInBounds_toArray, List.set_cons_zero, List.set_cons_succ])
        | (go_big_quiet_want; refine q_load_row 29 (.tmp 7) rfl (g + 1 + 1) rfl 29 (iCells z) (0, 0) _ CZ.out Try.underlying29 rfl HSZ.out ?_; go_big_quiet_on; simp only [Act.put, List.setIfInBounds_toArray, List.set_cons_zero, List.set_cons_succ])
        | go_big_quiet_step (fail))
      go_big_quiet_step ((go_at_call 9; exact K1.out _ _))
      repeat (first
        | (go_big_quiet_want; refine q_load_row 22 (.tmp 4) rfl g rfl 22 (iCells x) (0, 0) _ CR.out Try.underlying22 rfl HX.out ?_; go_big_quiet_on; simp only [Act.put, List.setIfInBounds_toArray, List.set_cons_zero, List.set_cons_succ])
        | (go_big_quiet_want; refine q_load_row 29 (.tmp 6) rfl (g + 1) rfl 29 (iCells y) (0, 0) _ CY.out Try.underlying29 rfl HSY.out ?_; go_big_quiet_on; simp only [Act.put, List.setIfInBounds_toArray, List.set_cons_zero, List.set_cons_succ])
        | (go_big_quiet_want; refine q_load_row 29 (.tmp 7) rfl (g + 1 + 1) rfl 29 (iCells z) (0, 0) _ CZ.out Try.underlying29 rfl HSZ.out ?_; go_big_quiet_on; simp only [Act.put, List.setIfInBounds_toArray, List.set_cons_zero, List.set_cons_succ])
        | go_big_quiet_step (fail))
      go_big_quiet_step ((go_at_call 11; exact K2.out _ _))
      repeat (first
        | (go_big_quiet_want; refine q_load_row 22 (.tmp 4) rfl g rfl 22 (iCells x) (0, 0) _ CR.out Try.underlying22 rfl HX.out ?_; go_big_quiet_on; simp only [Act.put, List.setIfInBounds_toArray, List.set_cons_zero, List.set_cons_succ])
        | (go_big_quiet_want; refine q_load_row 29 (.tmp 6) rfl (g + 1) rfl 29 (iCells y) (0, 0) _ CY.out Try.underlying29 rfl HSY.out ?_; go_big_quiet_on; simp only [Act.put, List.setIfInBounds_toArray, List.set_cons_zero, List.set_cons_succ])
        | (go_big_quiet_want; refine q_load_row 29 (.tmp 7) rfl (g + 1 + 1) rfl 29 (iCells z) (0, 0) _ CZ.out Try.underlying29 rfl HSZ.out ?_; go_big_quiet_on; simp only [Act.put, List.setIfInBounds_toArray, List.set_cons_zero, List.set_cons_succ])
        | go_big_quiet_step (fail))
      go_big_quiet_step ((go_at_call 13; exact K3.out _ _))
      repeat (first
        | (go_big_quiet_want; refine q_load_row 22 (.tmp 4) rfl g rfl 22 (iCells x) (0, 0) _ CR.out Try.underlying22 rfl HX.out ?_; go_big_quiet_on; simp only [Act.put, List.setIfInBounds_toArray, List.set_cons_zero, List.set_cons_succ])
        | (go_big_quiet_want; refine q_load_row 29 (.tmp 6) rfl (g + 1) rfl 29 (iCells y) (0, 0) _ CY.out Try.underlying29 rfl HSY.out ?_; go_big_quiet_on; simp only [Act.put, List.setIfInBounds_toArray, List.set_cons_zero, List.set_cons_succ])
        | (go_big_quiet_want; refine q_load_row 29 (.tmp 7) rfl (g + 1 + 1) rfl 29 (iCells z) (0, 0) _ CZ.out Try.underlying29 rfl HSZ.out ?_; go_big_quiet_on; simp only [Act.put, List.setIfInBounds_toArray, List.set_cons_zero, List.set_cons_succ])
        | go_big_quiet_step (fail))
      refine wpQuiet_nil ?_
      intro _ hw'
      obtain ⟨⟨dq, osq⟩, hw''⟩ := hw'
      subst hw''
      have hbx := below_regrown w6 dq osq
      have HBX := Lib.hid (HB.out.trans (hbx.mono HB.out.size))
      clear K1 K2 K3 CR CY CZ hbx c0
      generalize Sort.grow (redrawn w6 dq) osq = w7 at *
      go_wp2_with fail
      go_ret
      exact ⟨rfl, HBX.out⟩
    · have HB0 := Lib.hid fun w => HBO.out x b w HXL.out
      have HM0 := Lib.hid fun w => HMO.out x b w HXL.out
      have HY0 := Lib.hid fun w => HYO.out x b y z w HXL.out HYL.out HZL.out
      rw [bdI_out x b hok] at HB0
      rw [mvI_out x b hok] at HM0
      rw [myB_out x b y z hok] at HY0
      have hpart : (rt17 x = false) ∨ (rt17 x = true ∧ b < 0) ∨ (rt17 x = true ∧ ¬ b < 0 ∧ 7 < b) := by
        cases h : rt17 x
        · exact Or.inl rfl
        · rw [h] at hok
          have : ¬ (0 ≤ b ∧ b < 8) := fun k => hok ⟨rfl, k⟩
          by_cases h2 : b < 0
          · exact Or.inr (Or.inl ⟨rfl, h2⟩)
          · exact Or.inr (Or.inr ⟨rfl, h2, by omega⟩)
      rcases hpart with h1 | ⟨h1, h2⟩ | ⟨h1, h2, h3⟩
      all_goals
        rw [h1]
        clear h1 hok
        go_wp2_with (first
          | (refine wpList_load_row rfl 22 (.tmp 4) rfl g rfl 22 (iCells x) (0, 0) _ HR.out Try.underlying22 rfl HX.out ?_))
        refine (HB0.out _).mono ?_
        rintro e w15 ⟨rfl, hb⟩
        have HR := Lib.hid (HR.out.box hb)
        have HRY := Lib.hid (HRY.out.box hb)
        have HRZ := Lib.hid (HRZ.out.box hb)
        have HB := Lib.hid (HB.out.trans (hb.mono HB.out.size))
        clear hb
        go_wp2_with (first
          | (refine g_load_row (by rfl) 22 (.tmp 4) rfl g rfl 22 (iCells x) (0, 0) _ HR.out Try.underlying22 rfl HX.out ?_))
        refine (HM0.out _).mono ?_
        rintro e w16 ⟨rfl, hb⟩
        have HR := Lib.hid (HR.out.box hb)
        have HRY := Lib.hid (HRY.out.box hb)
        have HRZ := Lib.hid (HRZ.out.box hb)
        have HB := Lib.hid (HB.out.trans (hb.mono HB.out.size))
        clear hb
        go_wp2_with (first
          | (refine g_load_row (by rfl) 22 (.tmp 4) rfl g rfl 22 (iCells x) (0, 0) _ HR.out Try.underlying22 rfl HX.out ?_)
          | (refine g_load_row (by rfl) 29 (.tmp 6) rfl (g + 1) rfl 29 (iCells y) (0, 0) _ HRY.out Try.underlying29 rfl HSY.out ?_)
          | (refine g_load_row (by rfl) 29 (.tmp 7) rfl (g + 1 + 1) rfl 29 (iCells z) (0, 0) _ HRZ.out Try.underlying29 rfl HSZ.out ?_))
        refine (HY0.out _).mono ?_
        rintro e w17 ⟨rfl, hb⟩
        have HR := Lib.hid (HR.out.box hb)
        have HRY := Lib.hid (HRY.out.box hb)
        have HRZ := Lib.hid (HRZ.out.box hb)
        have HB := Lib.hid (HB.out.trans (hb.mono HB.out.size))
        clear hb
        go_wp2_with fail
        go_ret
        exact ⟨rfl, HB.out⟩
  · cases hsz : sm17 z
    · have hgr : ¬ (sm17 y = true ∧ sm17 z = true) := fun k => by rw [hsz] at k; cases k.2
      have hf := fyI_out y z hgr
      rw [hf]
      clear hf hsy
      go_wp2_with (first
        | (refine g_load_row (by rfl) 29 (.tmp 7) rfl (g + 1 + 1) rfl 29 (iCells z) (0, 0) _ HRZ.out Try.underlying29 rfl HSZ.out ?_))
      refine (HGZ.out _).mono ?_
      rintro e w21 ⟨rfl, hb⟩
      have HR := Lib.hid (HR.out.box hb)
      have HRY := Lib.hid (HRY.out.box hb)
      have HRZ := Lib.hid (HRZ.out.box hb)
      have HB := Lib.hid (HB.out.trans (hb.mono HB.out.size))
      clear hb
      rw [hsz]
      clear hsz
      go_wp2_with (first
        | (refine wpList_load_row rfl 22 (.tmp 4) rfl g rfl 22 (iCells x) (0, 0) _ HR.out Try.underlying22 rfl HX.out ?_))
      refine (HRI.out _).mono ?_
      rintro e w22 ⟨rfl, hb⟩
      have HR := Lib.hid (HR.out.box hb)
      have HRY := Lib.hid (HRY.out.box hb)
      have HRZ := Lib.hid (HRZ.out.box hb)
      have HB := Lib.hid (HB.out.trans (hb.mono HB.out.size))
      clear hb
      by_cases hok : rt17 x = true ∧ 0 ≤ b ∧ b < 8
      · obtain ⟨hrt, hb0, hb8⟩ := hok
        obtain ⟨q, rfl⟩ : ∃ q : Nat, b = q := ⟨b.toNat, by omega⟩
        have hqN : q < 8 := by omega
        have HBD := (rt_iff x).1 hrt
        have hgq := HBD q hqN
        have hRB := fun w => rbudget_any x q w HXL.out HBD (by omega)
        have hB0 := fun w => HBO.out x (q : Int) w HXL.out
        have hM0 := fun w => HMO.out x (q : Int) w HXL.out
        have hY0 := fun w => HYO.out x (q : Int) y z w HXL.out HYL.out HZL.out
        rw [bdI_in x q hrt hqN] at hB0
        rw [mvI_in x q hrt hqN] at hM0
        rw [myB_great x _ y z hgr] at hY0
        have hAL := fun w => HAO.out x w HXL.out
        have HAG := Lib.hid ((alL_get x q hqN).trans (bdI_in x q hrt hqN))
        have hwb := bud_small x q hrt
        obtain ⟨t, ht⟩ : ∃ t : Nat, (x.getD q 0).toNat = t := ⟨_, rfl⟩
        have hgt : x.getD q 0 = (t : Int) := by omega
        obtain ⟨W, hW⟩ : ∃ n, bud (fun j => (x.getD j 0).toNat) q = n := ⟨_, rfl⟩
        rw [hW] at hRB hB0 hM0 hwb HAG
        rw [ht] at hM0
        have hGN := fun w => rgain_below t w (by omega)
        have hpb := pow15 t (by omega)
        obtain ⟨M0, hM⟩ : ∃ n, W / 2 ^ t = n := ⟨_, rfl⟩
        have hMW : M0 ≤ W := by rw [← hM]; exact Nat.div_le_self _ _
        have hdv : (W : Int).tdiv ((2 : Int) ^ t) = (M0 : Int) := by
          rw [Int.tdiv_eq_ediv_of_nonneg (by omega), ← hM, Int.natCast_ediv, Int.natCast_pow]; rfl
        rw [hM] at hM0
        obtain ⟨P, hP⟩ : ∃ P : Int, (2 : Int) ^ t = P := ⟨_, rfl⟩
        rw [hP] at hpb hdv
        simp only [hP] at hGN
        obtain ⟨hP1, hP2⟩ := hpb
        have hP0 : (P == 0) = false := by rw [beq_eq_false_iff_ne]; omega
        have hPn : P ≠ 0 := by omega
        have ewM : IntKind.i64.wrap (M0 : Int) = (M0 : Int) := by rw [IntKind.wrap_i64]; omega
        have HRB := Lib.hid hRB
        have HB0 := Lib.hid hB0
        have HM0 := Lib.hid hM0
        have HY0 := Lib.hid hY0
        have HAL := Lib.hid hAL
        have HGN := Lib.hid hGN
        have HGQ := Lib.hid hgt
        have HQN := Lib.hid hqN
        have HLA := Lib.hid (alL_len x)
        have HSS := Lib.hid (sds_size (alL x) HLA.out)
        have HSX := Lib.hid (sds_same zs8 (alL x) zs8_length HLA.out)
        have hqI : (q : Int) < 8 := by omega
        have hq0 : ¬ (q : Int) < 0 := by omega
        have hq7 : ¬ (7 : Int) < (q : Int) := by omega
        have hbW : (W : Int) ≤ 131072 := by omega
        rw [hrt]
        clear hrt hb0 hb8 hqN HBD hgq hRB hB0 hM0 hY0 hAL hGN hgt ht hW hM hP hwb hMW
        go_wp2_with (first
          | (refine wpList_load_row rfl 22 (.tmp 4) rfl g rfl 22 (iCells x) (0, 0) _ HR.out Try.underlying22 rfl HX.out ?_))
        refine (HRB.out _).mono ?_
        rintro e w26 ⟨rfl, hb⟩
        have HR := Lib.hid (HR.out.box hb)
        have HRY := Lib.hid (HRY.out.box hb)
        have HRZ := Lib.hid (HRZ.out.box hb)
        have HB := Lib.hid (HB.out.trans (hb.mono HB.out.size))
        clear hb
        have c0 := i_at HR.out q (by rw [HXL.out]; exact HQN.out)
        rw [HGQ.out] at c0
        go_wp2_with fail
        refine (HGN.out _).mono ?_
        rintro e w27 ⟨rfl, hb⟩
        have HR := Lib.hid (HR.out.box hb)
        have HRY := Lib.hid (HRY.out.box hb)
        have HRZ := Lib.hid (HRZ.out.box hb)
        have HB := Lib.hid (HB.out.trans (hb.mono HB.out.size))
        clear hb
        clear c0
        go_wp2_with (first
          | (refine wpList_load_row rfl 22 (.tmp 4) rfl g rfl 22 (iCells x) (0, 0) _ HR.out Try.underlying22 rfl HX.out ?_))
        refine (HAL.out _).mono ?_
        rintro e w28 ⟨rfl, hb⟩
        have HR := Lib.hid (HR.out.box hb)
        have HRY := Lib.hid (HRY.out.box hb)
        have HRZ := Lib.hid (HRZ.out.box hb)
        have HB := Lib.hid (HB.out.trans (hb.mono HB.out.size))
        clear hb
        have HRA : Hid (Row (w28.alloc (.cells (iCells zs8) 24)) w28.heap.size 24 (iCells zs8)) := Lib.hid (heap_alloc_new _ _)
        go_upto_region 12 with (refine wpList_store_row rfl 24 (.tmp 13) (.tmp 78) rfl w28.heap.size (iCells (alL x)) rfl rfl 24 (iCells zs8) HRA.out HSS.out HSX.out (iCells_one _) ?_)
        have HNE := Lib.hid (show g ≠ w28.heap.size ∧ g + 1 ≠ w28.heap.size ∧ g + 1 + 1 ≠ w28.heap.size by have := HRZ.out.lt; omega)
        have HR := Lib.hid (show Row ((w28.alloc (.cells (iCells zs8) 24)).setRow w28.heap.size (iCells (alL x))) g 22 (iCells x) from (setRow_other _ _ _ _ HNE.out.1).trans (Row.alloc HR.out _))
        have HRY := Lib.hid (show Row ((w28.alloc (.cells (iCells zs8) 24)).setRow w28.heap.size (iCells (alL x))) (g + 1) 29 (iCells y) from (setRow_other _ _ _ _ HNE.out.2.1).trans (Row.alloc HRY.out _))
        have HRZ := Lib.hid (show Row ((w28.alloc (.cells (iCells zs8) 24)).setRow w28.heap.size (iCells (alL x))) (g + 1 + 1) 29 (iCells z) from (setRow_other _ _ _ _ HNE.out.2.2).trans (Row.alloc HRZ.out _))
        have HB := Lib.hid (below_setRow (HB.out.alloc HB.out.size (.cells (iCells zs8) 24)) HB.out.size (iCells (alL x)))
        have HRA := Lib.hid (Row.setRow HRA.out (iCells (alL x)))
        generalize (w28.alloc (.cells (iCells zs8) 24)).setRow w28.heap.size (iCells (alL x)) = w6 at *
        obtain ⟨ga, hga⟩ : ∃ ga, w28.heap.size = ga := ⟨_, rfl⟩
        rw [hga] at HRA ⊢
        clear hga
        have c0 := cell_regrown (i_at HRA.out q (by rw [HLA.out]; exact HQN.out))
        rw [HAG.out] at c0
        have CR : Hid (∀ W : World, (∃ p : Regrown, W = Sort.grow (redrawn w6 p.d) p.os) → W.heap[g]? = some (.cells (iCells x) 22 (0, 0))) := by
          rintro W ⟨p, rfl⟩
          exact HR.out.below (below_regrown w6 p.d p.os) HR.out.lt
        have CY : Hid (∀ W : World, (∃ p : Regrown, W = Sort.grow (redrawn w6 p.d) p.os) → W.heap[g + 1]? = some (.cells (iCells y) 29 (0, 0))) := by
          rintro W ⟨p, rfl⟩
          exact HRY.out.below (below_regrown w6 p.d p.os) HRY.out.lt
        have CZ : Hid (∀ W : World, (∃ p : Regrown, W = Sort.grow (redrawn w6 p.d) p.os) → W.heap[g + 1 + 1]? = some (.cells (iCells z) 29 (0, 0))) := by
          rintro W ⟨p, rfl⟩
          exact HRZ.out.below (below_regrown w6 p.d p.os) HRZ.out.lt
        have K1 : Hid (∀ d os, Calls Try.prog 9 #[.agg (iCells x), .int .i64 (q : Int)] (Sort.grow (redrawn w6 d) os) fun e w'' => e = .returned (.int .i64 (W : Int)) ∧ ∃ p : Regrown, w'' = Sort.grow (redrawn w6 p.d) p.os) :=
          Lib.hid fun d os => Calls.regrown_of (HB0.out _)
        have K2 : Hid (∀ d os, Calls Try.prog 11 #[.agg (iCells x), .int .i64 (q : Int)] (Sort.grow (redrawn w6 d) os) fun e w'' => e = .returned (.int .i64 (M0 : Int)) ∧ ∃ p : Regrown, w'' = Sort.grow (redrawn w6 p.d) p.os) :=
          Lib.hid fun d os => Calls.regrown_of (HM0.out _)
        have K3 : Hid (∀ d os, Calls Try.prog 13 #[.agg (iCells x), .int .i64 (q : Int), .agg (iCells y), .agg (iCells z)] (Sort.grow (redrawn w6 d) os) fun e w'' => e = .returned (.bool false) ∧ ∃ p : Regrown, w'' = Sort.grow (redrawn w6 p.d) p.os) :=
          Lib.hid fun d os => Calls.regrown_of (HY0.out _)
        go_wp2_with fail
        refine wp_region_quiet_below (by kernel_rfl) (by kernel_rfl) ?_
        simp only [Act.put]
        repeat (first
          | (go_big_quiet_want; refine q_load_row 22 (.tmp 4) rfl g rfl 22 (iCells x) (0, 0) _ CR.out Try.underlying22 rfl HX.out ?_; go_big_quiet_on; simp only [Act.put, List.setIfInBounds_toArray, List.set_cons_zero, List.set_cons_succ])
          | (go_big_quiet_want; refine q_load_row 29 (.tmp 6) rfl (g + 1) rfl 29 (iCells y) (0, 0) _ CY.out Try.underlying29 rfl HSY.out ?_; go_big_quiet_on; simp only [Act.put, List.setIfInBounds_toArray, List.set_cons_zero, List.set_cons_succ])
          | (go_big_quiet_want; refine q_load_row 29 (.tmp 7) rfl (g + 1 + 1) rfl 29 (iCells z) (0, 0) _ CZ.out Try.underlying29 rfl HSZ.out ?_; go_big_quiet_on; simp only [Act.put, List.setIfInBounds_toArray, List.set_cons_zero, List.set_cons_succ])
          | go_big_quiet_step (fail))
        go_big_quiet_step ((go_at_call 9; exact K1.out _ _))
        repeat (first
          | (go_big_quiet_want; refine q_load_row 22 (.tmp 4) rfl g rfl 22 (iCells x) (0, 0) _ CR.out Try.underlying22 rfl HX.out ?_; go_big_quiet_on; simp only [Act.put, List.setIfInBounds_toArray, List.set_cons_zero, List.set_cons_succ])
          | (go_big_quiet_want; refine q_load_row 29 (.tmp 6) rfl (g + 1) rfl 29 (iCells y) (0, 0) _ CY.out Try.underlying29 rfl HSY.out ?_; go_big_quiet_on; simp only [Act.put, List.setIfInBounds_toArray, List.set_cons_zero, List.set_cons_succ])
          | (go_big_quiet_want; refine q_load_row 29 (.tmp 7) rfl (g + 1 + 1) rfl 29 (iCells z) (0, 0) _ CZ.out Try.underlying29 rfl HSZ.out ?_; go_big_quiet_on; simp only [Act.put, List.setIfInBounds_toArray, List.set_cons_zero, List.set_cons_succ])
          | go_big_quiet_step (fail))
        go_big_quiet_step ((go_at_call 11; exact K2.out _ _))
        repeat (first
          | (go_big_quiet_want; refine q_load_row 22 (.tmp 4) rfl g rfl 22 (iCells x) (0, 0) _ CR.out Try.underlying22 rfl HX.out ?_; go_big_quiet_on; simp only [Act.put, List.setIfInBounds_toArray, List.set_cons_zero, List.set_cons_succ])
          | (go_big_quiet_want; refine q_load_row 29 (.tmp 6) rfl (g + 1) rfl 29 (iCells y) (0, 0) _ CY.out Try.underlying29 rfl HSY.out ?_; go_big_quiet_on; simp only [Act.put, List.setIfInBounds_toArray, List.set_cons_zero, List.set_cons_succ])
          | (go_big_quiet_want; refine q_load_row 29 (.tmp 7) rfl (g + 1 + 1) rfl 29 (iCells z) (0, 0) _ CZ.out Try.underlying29 rfl HSZ.out ?_; go_big_quiet_on; simp only [Act.put, List.setIfInBounds_toArray, List.set_cons_zero, List.set_cons_succ])
          | go_big_quiet_step (fail))
        go_big_quiet_step ((go_at_call 13; exact K3.out _ _))
        repeat (first
          | (go_big_quiet_want; refine q_load_row 22 (.tmp 4) rfl g rfl 22 (iCells x) (0, 0) _ CR.out Try.underlying22 rfl HX.out ?_; go_big_quiet_on; simp only [Act.put, List.setIfInBounds_toArray, List.set_cons_zero, List.set_cons_succ])
          | (go_big_quiet_want; refine q_load_row 29 (.tmp 6) rfl (g + 1) rfl 29 (iCells y) (0, 0) _ CY.out Try.underlying29 rfl HSY.out ?_; go_big_quiet_on; simp only [Act.put, List.setIfInBounds_toArray, List.set_cons_zero, List.set_cons_succ])
          | (go_big_quiet_want; refine q_load_row 29 (.tmp 7) rfl (g + 1 + 1) rfl 29 (iCells z) (0, 0) _ CZ.out Try.underlying29 rfl HSZ.out ?_; go_big_quiet_on; simp only [Act.put, List.setIfInBounds_toArray, List.set_cons_zero, List.set_cons_succ])
          | go_big_quiet_step (fail))
        refine wpQuiet_nil ?_
        intro _ hw'
        obtain ⟨⟨dq, osq⟩, hw''⟩ := hw'
        subst hw''
        have hbx := below_regrown w6 dq osq
        have HBX := Lib.hid (HB.out.trans (hbx.mono HB.out.size))
        clear K1 K2 K3 CR CY CZ hbx c0
        generalize Sort.grow (redrawn w6 dq) osq = w7 at *
        go_wp2_with fail
        go_ret
        exact ⟨rfl, HBX.out⟩
      · have HB0 := Lib.hid fun w => HBO.out x b w HXL.out
        have HM0 := Lib.hid fun w => HMO.out x b w HXL.out
        have HY0 := Lib.hid fun w => HYO.out x b y z w HXL.out HYL.out HZL.out
        rw [bdI_out x b hok] at HB0
        rw [mvI_out x b hok] at HM0
        rw [myB_out x b y z hok] at HY0
        have hpart : (rt17 x = false) ∨ (rt17 x = true ∧ b < 0) ∨ (rt17 x = true ∧ ¬ b < 0 ∧ 7 < b) := by
          cases h : rt17 x
          · exact Or.inl rfl
          · rw [h] at hok
            have : ¬ (0 ≤ b ∧ b < 8) := fun k => hok ⟨rfl, k⟩
            by_cases h2 : b < 0
            · exact Or.inr (Or.inl ⟨rfl, h2⟩)
            · exact Or.inr (Or.inr ⟨rfl, h2, by omega⟩)
        rcases hpart with h1 | ⟨h1, h2⟩ | ⟨h1, h2, h3⟩
        all_goals
          rw [h1]
          clear h1 hok
          go_wp2_with (first
            | (refine wpList_load_row rfl 22 (.tmp 4) rfl g rfl 22 (iCells x) (0, 0) _ HR.out Try.underlying22 rfl HX.out ?_))
          refine (HB0.out _).mono ?_
          rintro e w23 ⟨rfl, hb⟩
          have HR := Lib.hid (HR.out.box hb)
          have HRY := Lib.hid (HRY.out.box hb)
          have HRZ := Lib.hid (HRZ.out.box hb)
          have HB := Lib.hid (HB.out.trans (hb.mono HB.out.size))
          clear hb
          go_wp2_with (first
            | (refine g_load_row (by rfl) 22 (.tmp 4) rfl g rfl 22 (iCells x) (0, 0) _ HR.out Try.underlying22 rfl HX.out ?_))
          refine (HM0.out _).mono ?_
          rintro e w24 ⟨rfl, hb⟩
          have HR := Lib.hid (HR.out.box hb)
          have HRY := Lib.hid (HRY.out.box hb)
          have HRZ := Lib.hid (HRZ.out.box hb)
          have HB := Lib.hid (HB.out.trans (hb.mono HB.out.size))
          clear hb
          go_wp2_with (first
            | (refine g_load_row (by rfl) 22 (.tmp 4) rfl g rfl 22 (iCells x) (0, 0) _ HR.out Try.underlying22 rfl HX.out ?_)
            | (refine g_load_row (by rfl) 29 (.tmp 6) rfl (g + 1) rfl 29 (iCells y) (0, 0) _ HRY.out Try.underlying29 rfl HSY.out ?_)
            | (refine g_load_row (by rfl) 29 (.tmp 7) rfl (g + 1 + 1) rfl 29 (iCells z) (0, 0) _ HRZ.out Try.underlying29 rfl HSZ.out ?_))
          refine (HY0.out _).mono ?_
          rintro e w25 ⟨rfl, hb⟩
          have HR := Lib.hid (HR.out.box hb)
          have HRY := Lib.hid (HRY.out.box hb)
          have HRZ := Lib.hid (HRZ.out.box hb)
          have HB := Lib.hid (HB.out.trans (hb.mono HB.out.size))
          clear hb
          go_wp2_with fail
          go_ret
          exact ⟨rfl, HB.out⟩
    · have hgr : sm17 y = true ∧ sm17 z = true := ⟨hsy, hsz⟩
      have hf := fyI_in y z hsy hsz
      have HRF := Lib.hid fun w => rfar_any y z w HYL.out HZL.out (fun j hj => (sm_iff y).1 hgr.1 j hj) (fun j hj => (sm_iff z).1 hgr.2 j hj)
      rw [hf]
      clear hf hsy
      go_wp2_with (first
        | (refine g_load_row (by rfl) 29 (.tmp 7) rfl (g + 1 + 1) rfl 29 (iCells z) (0, 0) _ HRZ.out Try.underlying29 rfl HSZ.out ?_))
      refine (HGZ.out _).mono ?_
      rintro e w29 ⟨rfl, hb⟩
      have HR := Lib.hid (HR.out.box hb)
      have HRY := Lib.hid (HRY.out.box hb)
      have HRZ := Lib.hid (HRZ.out.box hb)
      have HB := Lib.hid (HB.out.trans (hb.mono HB.out.size))
      clear hb
      rw [hsz]
      clear hsz
      go_wp2_with (first
        | (refine g_load_row (by rfl) 29 (.tmp 6) rfl (g + 1) rfl 29 (iCells y) (0, 0) _ HRY.out Try.underlying29 rfl HSY.out ?_)
        | (refine g_load_row (by rfl) 29 (.tmp 7) rfl (g + 1 + 1) rfl 29 (iCells z) (0, 0) _ HRZ.out Try.underlying29 rfl HSZ.out ?_))
      refine (HRF.out _).mono ?_
      rintro e w30 ⟨rfl, hb⟩
      have HR := Lib.hid (HR.out.box hb)
      have HRY := Lib.hid (HRY.out.box hb)
      have HRZ := Lib.hid (HRZ.out.box hb)
      have HB := Lib.hid (HB.out.trans (hb.mono HB.out.size))
      clear hb
      go_wp2_with (first
        | (refine wpList_load_row rfl 22 (.tmp 4) rfl g rfl 22 (iCells x) (0, 0) _ HR.out Try.underlying22 rfl HX.out ?_))
      refine (HRI.out _).mono ?_
      rintro e w31 ⟨rfl, hb⟩
      have HR := Lib.hid (HR.out.box hb)
      have HRY := Lib.hid (HRY.out.box hb)
      have HRZ := Lib.hid (HRZ.out.box hb)
      have HB := Lib.hid (HB.out.trans (hb.mono HB.out.size))
      clear hb
      by_cases hok : rt17 x = true ∧ 0 ≤ b ∧ b < 8
      · obtain ⟨hrt, hb0, hb8⟩ := hok
        obtain ⟨q, rfl⟩ : ∃ q : Nat, b = q := ⟨b.toNat, by omega⟩
        have hqN : q < 8 := by omega
        have HBD := (rt_iff x).1 hrt
        have hgq := HBD q hqN
        have hRB := fun w => rbudget_any x q w HXL.out HBD (by omega)
        have hB0 := fun w => HBO.out x (q : Int) w HXL.out
        have hM0 := fun w => HMO.out x (q : Int) w HXL.out
        have hY0 := fun w => HYO.out x (q : Int) y z w HXL.out HYL.out HZL.out
        rw [bdI_in x q hrt hqN] at hB0
        rw [mvI_in x q hrt hqN] at hM0
        rw [myB_in x q y z hrt hqN hgr.1 hgr.2] at hY0
        have hAL := fun w => HAO.out x w HXL.out
        have HAG := Lib.hid ((alL_get x q hqN).trans (bdI_in x q hrt hqN))
        have hwb := bud_small x q hrt
        obtain ⟨t, ht⟩ : ∃ t : Nat, (x.getD q 0).toNat = t := ⟨_, rfl⟩
        have hgt : x.getD q 0 = (t : Int) := by omega
        obtain ⟨W, hW⟩ : ∃ n, bud (fun j => (x.getD j 0).toNat) q = n := ⟨_, rfl⟩
        rw [hW] at hRB hB0 hM0 hwb HAG
        rw [ht] at hM0
        rw [hW, ht] at hY0
        have hfb := farL_few y z HYL.out HZL.out 1048576 (fun j hj => (sm_iff y).1 hgr.1 j hj) (fun j hj => (sm_iff z).1 hgr.2 j hj)
        have hRF := fun w => rfar_any y z w HYL.out HZL.out (fun j hj => (sm_iff y).1 hgr.1 j hj) (fun j hj => (sm_iff z).1 hgr.2 j hj)
        obtain ⟨n, hn⟩ : ∃ n, farL y z = n := ⟨_, rfl⟩
        rw [hn] at hY0 hfb hRF
        obtain ⟨L, hL⟩ : ∃ L, n * 2 ^ t = L := ⟨_, rfl⟩
        rw [hL] at hY0
        have hp2 := pow2_le t 15 (by omega)
        have hLb : L ≤ 8388608 * 32768 := by rw [← hL]; exact Nat.mul_le_mul (by omega) hp2
        have hLI : (n : Int) * (2 : Int) ^ t = (L : Int) := by rw [← hL, Int.natCast_mul, Int.natCast_pow]; rfl
        have hGN := fun w => rgain_below t w (by omega)
        have hpb := pow15 t (by omega)
        obtain ⟨M0, hM⟩ : ∃ n, W / 2 ^ t = n := ⟨_, rfl⟩
        have hMW : M0 ≤ W := by rw [← hM]; exact Nat.div_le_self _ _
        have hdv : (W : Int).tdiv ((2 : Int) ^ t) = (M0 : Int) := by
          rw [Int.tdiv_eq_ediv_of_nonneg (by omega), ← hM, Int.natCast_ediv, Int.natCast_pow]; rfl
        rw [hM] at hM0
        obtain ⟨P, hP⟩ : ∃ P : Int, (2 : Int) ^ t = P := ⟨_, rfl⟩
        rw [hP] at hpb hdv hLI
        simp only [hP] at hGN
        obtain ⟨hP1, hP2⟩ := hpb
        have hP0 : (P == 0) = false := by rw [beq_eq_false_iff_ne]; omega
        have hPn : P ≠ 0 := by omega
        have ewM : IntKind.i64.wrap (M0 : Int) = (M0 : Int) := by rw [IntKind.wrap_i64]; omega
        have ewL : IntKind.i64.wrap ((n : Int) * P) = (L : Int) := by rw [hLI, IntKind.wrap_i64]; omega
        have HRF := Lib.hid hRF
        clear hn hL hp2 hLI hRF hfb
        have HRB := Lib.hid hRB
        have HB0 := Lib.hid hB0
        have HM0 := Lib.hid hM0
        have HY0 := Lib.hid hY0
        have HAL := Lib.hid hAL
        have HGN := Lib.hid hGN
        have HGQ := Lib.hid hgt
        have HQN := Lib.hid hqN
        have HLA := Lib.hid (alL_len x)
        have HSS := Lib.hid (sds_size (alL x) HLA.out)
        have HSX := Lib.hid (sds_same zs8 (alL x) zs8_length HLA.out)
        have hqI : (q : Int) < 8 := by omega
        have hq0 : ¬ (q : Int) < 0 := by omega
        have hq7 : ¬ (7 : Int) < (q : Int) := by omega
        have hbW : (W : Int) ≤ 131072 := by omega
        rw [hrt]
        clear hrt hb0 hb8 hqN HBD hgq hRB hB0 hM0 hY0 hAL hGN hgt ht hW hM hP hwb hMW
        go_wp2_with (first
          | (refine wpList_load_row rfl 22 (.tmp 4) rfl g rfl 22 (iCells x) (0, 0) _ HR.out Try.underlying22 rfl HX.out ?_))
        refine (HRB.out _).mono ?_
        rintro e w35 ⟨rfl, hb⟩
        have HR := Lib.hid (HR.out.box hb)
        have HRY := Lib.hid (HRY.out.box hb)
        have HRZ := Lib.hid (HRZ.out.box hb)
        have HB := Lib.hid (HB.out.trans (hb.mono HB.out.size))
        clear hb
        have c0 := i_at HR.out q (by rw [HXL.out]; exact HQN.out)
        rw [HGQ.out] at c0
        go_wp2_with fail
        refine (HGN.out _).mono ?_
        rintro e w36 ⟨rfl, hb⟩
        have HR := Lib.hid (HR.out.box hb)
        have HRY := Lib.hid (HRY.out.box hb)
        have HRZ := Lib.hid (HRZ.out.box hb)
        have HB := Lib.hid (HB.out.trans (hb.mono HB.out.size))
        clear hb
        clear c0
        go_wp2_with (first
          | (refine wpList_load_row rfl 22 (.tmp 4) rfl g rfl 22 (iCells x) (0, 0) _ HR.out Try.underlying22 rfl HX.out ?_))
        refine (HAL.out _).mono ?_
        rintro e w37 ⟨rfl, hb⟩
        have HR := Lib.hid (HR.out.box hb)
        have HRY := Lib.hid (HRY.out.box hb)
        have HRZ := Lib.hid (HRZ.out.box hb)
        have HB := Lib.hid (HB.out.trans (hb.mono HB.out.size))
        clear hb
        have HRA : Hid (Row (w37.alloc (.cells (iCells zs8) 24)) w37.heap.size 24 (iCells zs8)) := Lib.hid (heap_alloc_new _ _)
        go_upto_region 12 with (refine wpList_store_row rfl 24 (.tmp 13) (.tmp 78) rfl w37.heap.size (iCells (alL x)) rfl rfl 24 (iCells zs8) HRA.out HSS.out HSX.out (iCells_one _) ?_)
        have HNE := Lib.hid (show g ≠ w37.heap.size ∧ g + 1 ≠ w37.heap.size ∧ g + 1 + 1 ≠ w37.heap.size by have := HRZ.out.lt; omega)
        have HR := Lib.hid (show Row ((w37.alloc (.cells (iCells zs8) 24)).setRow w37.heap.size (iCells (alL x))) g 22 (iCells x) from (setRow_other _ _ _ _ HNE.out.1).trans (Row.alloc HR.out _))
        have HRY := Lib.hid (show Row ((w37.alloc (.cells (iCells zs8) 24)).setRow w37.heap.size (iCells (alL x))) (g + 1) 29 (iCells y) from (setRow_other _ _ _ _ HNE.out.2.1).trans (Row.alloc HRY.out _))
        have HRZ := Lib.hid (show Row ((w37.alloc (.cells (iCells zs8) 24)).setRow w37.heap.size (iCells (alL x))) (g + 1 + 1) 29 (iCells z) from (setRow_other _ _ _ _ HNE.out.2.2).trans (Row.alloc HRZ.out _))
        have HB := Lib.hid (below_setRow (HB.out.alloc HB.out.size (.cells (iCells zs8) 24)) HB.out.size (iCells (alL x)))
        have HRA := Lib.hid (Row.setRow HRA.out (iCells (alL x)))
        generalize (w37.alloc (.cells (iCells zs8) 24)).setRow w37.heap.size (iCells (alL x)) = w6 at *
        obtain ⟨ga, hga⟩ : ∃ ga, w37.heap.size = ga := ⟨_, rfl⟩
        rw [hga] at HRA ⊢
        clear hga
        have c0 := cell_regrown (i_at HRA.out q (by rw [HLA.out]; exact HQN.out))
        rw [HAG.out] at c0
        have CR : Hid (∀ W : World, (∃ p : Regrown, W = Sort.grow (redrawn w6 p.d) p.os) → W.heap[g]? = some (.cells (iCells x) 22 (0, 0))) := by
          rintro W ⟨p, rfl⟩
          exact HR.out.below (below_regrown w6 p.d p.os) HR.out.lt
        have CY : Hid (∀ W : World, (∃ p : Regrown, W = Sort.grow (redrawn w6 p.d) p.os) → W.heap[g + 1]? = some (.cells (iCells y) 29 (0, 0))) := by
          rintro W ⟨p, rfl⟩
          exact HRY.out.below (below_regrown w6 p.d p.os) HRY.out.lt
        have CZ : Hid (∀ W : World, (∃ p : Regrown, W = Sort.grow (redrawn w6 p.d) p.os) → W.heap[g + 1 + 1]? = some (.cells (iCells z) 29 (0, 0))) := by
          rintro W ⟨p, rfl⟩
          exact HRZ.out.below (below_regrown w6 p.d p.os) HRZ.out.lt
        have K1 : Hid (∀ d os, Calls Try.prog 9 #[.agg (iCells x), .int .i64 (q : Int)] (Sort.grow (redrawn w6 d) os) fun e w'' => e = .returned (.int .i64 (W : Int)) ∧ ∃ p : Regrown, w'' = Sort.grow (redrawn w6 p.d) p.os) :=
          Lib.hid fun d os => Calls.regrown_of (HB0.out _)
        have K2 : Hid (∀ d os, Calls Try.prog 11 #[.agg (iCells x), .int .i64 (q : Int)] (Sort.grow (redrawn w6 d) os) fun e w'' => e = .returned (.int .i64 (M0 : Int)) ∧ ∃ p : Regrown, w'' = Sort.grow (redrawn w6 p.d) p.os) :=
          Lib.hid fun d os => Calls.regrown_of (HM0.out _)
        have K3 : Hid (∀ d os, Calls Try.prog 13 #[.agg (iCells x), .int .i64 (q : Int), .agg (iCells y), .agg (iCells z)] (Sort.grow (redrawn w6 d) os) fun e w'' => e = .returned (.bool (decide (L ≤ W))) ∧ ∃ p : Regrown, w'' = Sort.grow (redrawn w6 p.d) p.os) :=
          Lib.hid fun d os => Calls.regrown_of (HY0.out _)
        have K4 : Hid (∀ d os, Calls Try.prog 15 #[.agg (iCells y), .agg (iCells z)] (Sort.grow (redrawn w6 d) os) fun e w'' => e = .returned (.int .i64 (n : Int)) ∧ ∃ p : Regrown, w'' = Sort.grow (redrawn w6 p.d) p.os) :=
          Lib.hid fun d os => Calls.regrown_of (HRF.out _)
        go_wp2_with fail
        refine wp_region_quiet_below (by kernel_rfl) (by kernel_rfl) ?_
        simp only [Act.put]
        repeat (first
          | (go_big_quiet_want; refine q_load_row 22 (.tmp 4) rfl g rfl 22 (iCells x) (0, 0) _ CR.out Try.underlying22 rfl HX.out ?_; go_big_quiet_on; simp only [Act.put, List.setIfInBounds_toArray, List.set_cons_zero, List.set_cons_succ])
          | (go_big_quiet_want; refine q_load_row 29 (.tmp 6) rfl (g + 1) rfl 29 (iCells y) (0, 0) _ CY.out Try.underlying29 rfl HSY.out ?_; go_big_quiet_on; simp only [Act.put, List.setIfInBounds_toArray, List.set_cons_zero, List.set_cons_succ])
          | (go_big_quiet_want; refine q_load_row 29 (.tmp 7) rfl (g + 1 + 1) rfl 29 (iCells z) (0, 0) _ CZ.out Try.underlying29 rfl HSZ.out ?_; go_big_quiet_on; simp only [Act.put, List.setIfInBounds_toArray, List.set_cons_zero, List.set_cons_succ])
          | go_big_quiet_step (fail))
        go_big_quiet_step ((go_at_call 9; exact K1.out _ _))
        repeat (first
          | (go_big_quiet_want; refine q_load_row 22 (.tmp 4) rfl g rfl 22 (iCells x) (0, 0) _ CR.out Try.underlying22 rfl HX.out ?_; go_big_quiet_on; simp only [Act.put, List.setIfInBounds_toArray, List.set_cons_zero, List.set_cons_succ])
          | (go_big_quiet_want; refine q_load_row 29 (.tmp 6) rfl (g + 1) rfl 29 (iCells y) (0, 0) _ CY.out Try.underlying29 rfl HSY.out ?_; go_big_quiet_on; simp only [Act.put, List.setIfInBounds_toArray, List.set_cons_zero, List.set_cons_succ])
          | (go_big_quiet_want; refine q_load_row 29 (.tmp 7) rfl (g + 1 + 1) rfl 29 (iCells z) (0, 0) _ CZ.out Try.underlying29 rfl HSZ.out ?_; go_big_quiet_on; simp only [Act.put, List.setIfInBounds_toArray, List.set_cons_zero, List.set_cons_succ])
          | go_big_quiet_step (fail))
        go_big_quiet_step ((go_at_call 11; exact K2.out _ _))
        repeat (first
          | (go_big_quiet_want; refine q_load_row 22 (.tmp 4) rfl g rfl 22 (iCells x) (0, 0) _ CR.out Try.underlying22 rfl HX.out ?_; go_big_quiet_on; simp only [Act.put, List.setIfInBounds_toArray, List.set_cons_zero, List.set_cons_succ])
          | (go_big_quiet_want; refine q_load_row 29 (.tmp 6) rfl (g + 1) rfl 29 (iCells y) (0, 0) _ CY.out Try.underlying29 rfl HSY.out ?_; go_big_quiet_on; simp only [Act.put, List.setIfInBounds_toArray, List.set_cons_zero, List.set_cons_succ])
          | (go_big_quiet_want; refine q_load_row 29 (.tmp 7) rfl (g + 1 + 1) rfl 29 (iCells z) (0, 0) _ CZ.out Try.underlying29 rfl HSZ.out ?_; go_big_quiet_on; simp only [Act.put, List.setIfInBounds_toArray, List.set_cons_zero, List.set_cons_succ])
          | go_big_quiet_step (fail))
        go_big_quiet_step ((go_at_call 13; exact K3.out _ _))
        repeat (first
          | (go_big_quiet_want; refine q_load_row 22 (.tmp 4) rfl g rfl 22 (iCells x) (0, 0) _ CR.out Try.underlying22 rfl HX.out ?_; go_big_quiet_on; simp only [Act.put, List.setIfInBounds_toArray, List.set_cons_zero, List.set_cons_succ])
          | (go_big_quiet_want; refine q_load_row 29 (.tmp 6) rfl (g + 1) rfl 29 (iCells y) (0, 0) _ CY.out Try.underlying29 rfl HSY.out ?_; go_big_quiet_on; simp only [Act.put, List.setIfInBounds_toArray, List.set_cons_zero, List.set_cons_succ])
          | (go_big_quiet_want; refine q_load_row 29 (.tmp 7) rfl (g + 1 + 1) rfl 29 (iCells z) (0, 0) _ CZ.out Try.underlying29 rfl HSZ.out ?_; go_big_quiet_on; simp only [Act.put, List.setIfInBounds_toArray, List.set_cons_zero, List.set_cons_succ])
          | go_big_quiet_step (fail))
        go_big_quiet_step ((go_at_call 15; exact K4.out _ _))
        repeat (first
          | (go_big_quiet_want; refine q_load_row 22 (.tmp 4) rfl g rfl 22 (iCells x) (0, 0) _ CR.out Try.underlying22 rfl HX.out ?_; go_big_quiet_on; simp only [Act.put, List.setIfInBounds_toArray, List.set_cons_zero, List.set_cons_succ])
          | (go_big_quiet_want; refine q_load_row 29 (.tmp 6) rfl (g + 1) rfl 29 (iCells y) (0, 0) _ CY.out Try.underlying29 rfl HSY.out ?_; go_big_quiet_on; simp only [Act.put, List.setIfInBounds_toArray, List.set_cons_zero, List.set_cons_succ])
          | (go_big_quiet_want; refine q_load_row 29 (.tmp 7) rfl (g + 1 + 1) rfl 29 (iCells z) (0, 0) _ CZ.out Try.underlying29 rfl HSZ.out ?_; go_big_quiet_on; simp only [Act.put, List.setIfInBounds_toArray, List.set_cons_zero, List.set_cons_succ])
          | go_big_quiet_step (fail))
        refine wpQuiet_nil ?_
        intro _ hw'
        obtain ⟨⟨dq, osq⟩, hw''⟩ := hw'
        subst hw''
        have hbx := below_regrown w6 dq osq
        have HBX := Lib.hid (HB.out.trans (hbx.mono HB.out.size))
        clear K1 K2 K3 K4 CR CY CZ hbx c0
        generalize Sort.grow (redrawn w6 dq) osq = w7 at *
        go_wp2_with fail
        go_ret
        exact ⟨rfl, HBX.out⟩
      · have HB0 := Lib.hid fun w => HBO.out x b w HXL.out
        have HM0 := Lib.hid fun w => HMO.out x b w HXL.out
        have HY0 := Lib.hid fun w => HYO.out x b y z w HXL.out HYL.out HZL.out
        rw [bdI_out x b hok] at HB0
        rw [mvI_out x b hok] at HM0
        rw [myB_out x b y z hok] at HY0
        have hpart : (rt17 x = false) ∨ (rt17 x = true ∧ b < 0) ∨ (rt17 x = true ∧ ¬ b < 0 ∧ 7 < b) := by
          cases h : rt17 x
          · exact Or.inl rfl
          · rw [h] at hok
            have : ¬ (0 ≤ b ∧ b < 8) := fun k => hok ⟨rfl, k⟩
            by_cases h2 : b < 0
            · exact Or.inr (Or.inl ⟨rfl, h2⟩)
            · exact Or.inr (Or.inr ⟨rfl, h2, by omega⟩)
        rcases hpart with h1 | ⟨h1, h2⟩ | ⟨h1, h2, h3⟩
        all_goals
          rw [h1]
          clear h1 hok
          go_wp2_with (first
            | (refine wpList_load_row rfl 22 (.tmp 4) rfl g rfl 22 (iCells x) (0, 0) _ HR.out Try.underlying22 rfl HX.out ?_))
          refine (HB0.out _).mono ?_
          rintro e w32 ⟨rfl, hb⟩
          have HR := Lib.hid (HR.out.box hb)
          have HRY := Lib.hid (HRY.out.box hb)
          have HRZ := Lib.hid (HRZ.out.box hb)
          have HB := Lib.hid (HB.out.trans (hb.mono HB.out.size))
          clear hb
          go_wp2_with (first
            | (refine g_load_row (by rfl) 22 (.tmp 4) rfl g rfl 22 (iCells x) (0, 0) _ HR.out Try.underlying22 rfl HX.out ?_))
          refine (HM0.out _).mono ?_
          rintro e w33 ⟨rfl, hb⟩
          have HR := Lib.hid (HR.out.box hb)
          have HRY := Lib.hid (HRY.out.box hb)
          have HRZ := Lib.hid (HRZ.out.box hb)
          have HB := Lib.hid (HB.out.trans (hb.mono HB.out.size))
          clear hb
          go_wp2_with (first
            | (refine g_load_row (by rfl) 22 (.tmp 4) rfl g rfl 22 (iCells x) (0, 0) _ HR.out Try.underlying22 rfl HX.out ?_)
            | (refine g_load_row (by rfl) 29 (.tmp 6) rfl (g + 1) rfl 29 (iCells y) (0, 0) _ HRY.out Try.underlying29 rfl HSY.out ?_)
            | (refine g_load_row (by rfl) 29 (.tmp 7) rfl (g + 1 + 1) rfl 29 (iCells z) (0, 0) _ HRZ.out Try.underlying29 rfl HSZ.out ?_))
          refine (HY0.out _).mono ?_
          rintro e w34 ⟨rfl, hb⟩
          have HR := Lib.hid (HR.out.box hb)
          have HRY := Lib.hid (HRY.out.box hb)
          have HRZ := Lib.hid (HRZ.out.box hb)
          have HB := Lib.hid (HB.out.trans (hb.mono HB.out.size))
          clear hb
          go_wp2_with fail
          go_ret
          exact ⟨rfl, HB.out⟩
end Go.Proofs.Ytfpmdbdgikphdaa
