/-
  The walk of the law PulseTurns. Conditions: four coefficients.
-/
import Derived.Test.YtnjohdgdmnkjlaaSj
namespace Go.Proofs.Ytnjohdgdmnkjlaa
open Go.RowKit
open M
def ng4 (l : List Int) : List Int := l.map fun n => -n
theorem ng4_len (l : List Int) : (ng4 l).length = l.length := by simp [ng4]
theorem ng4_get (l : List Int) (k : Nat) : (ng4 l).getD k 0 = -(l.getD k 0) := by
  simp only [ng4, List.getD_eq_getElem?_getD, List.getElem?_map]
  cases l[k]? <;> simp
/-- Coefficients turned about are found as pulses turned about. -/
theorem fl4_turn (X : List Int) (G : Int) (n : Nat) (h : ∀ j, j < 4 → X.getD j 0 ≠ 0) : fl4 (fun i => (ng4 X).getD i 0) G n = ng4 (fl4 (fun i => X.getD i 0) G n) := by
  have e : (fun i => (ng4 X).getD i 0) = fun i => -(X.getD i 0) := by funext i; exact ng4_get X i
  have t := fun i hi => fnd_turn (fun i => X.getD i 0) G n i (h i hi)
  rw [e]
  unfold fl4
  rw [t 0 (by omega), t 1 (by omega), t 2 (by omega), t 3 (by omega)]
  rfl
theorem dis_ng (X Y : List Int) (G : Int) : dis (fun i => (ng4 X).getD i 0) (fun i => (ng4 Y).getD i 0) G = dis (fun i => X.getD i 0) (fun i => Y.getD i 0) G := by
  have e : ∀ l : List Int, (fun i => (ng4 l).getD i 0) = fun i => -(l.getD i 0) := fun l => by funext i; exact ng4_get l i
  rw [e, e]
  exact dis_turn _ _ G
set_option maxRecDepth 100000 in
set_option maxHeartbeats 2000000 in
theorem turns_law14 (c : List Int) (a b : UInt8) (w : World) (hc : c.length = 4) :
    Calls Try.prog 6 #[.agg (iCells c), .int .u8 (ub a), .int .u8 (ub b)] w fun e w' => e = .returned (.bool true) ∧ Below w.heap.size w w' := by
  obtain ⟨ha1, ha2⟩ := ub_bd a
  obtain ⟨hb1, hb2⟩ := ub_bd b
  generalize ub a = x at *
  generalize ub b = y at *
  obtain ⟨s, hs⟩ : ∃ m : Nat, x % 16 = m := ⟨(x % 16).toNat, by omega⟩
  obtain ⟨q, hq⟩ : ∃ m : Nat, y % 13 = m := ⟨(y % 13).toNat, by omega⟩
  have hsN : s ≤ 15 := by omega
  have hqN : q ≤ 12 := by omega
  have HSC := Lib.hid (four_size c hc)
  have HHD := Lib.hid fun w => held14_any c w hc
  obtain ⟨X, hX⟩ : ∃ X, hd14 c = X := ⟨_, rfl⟩
  have hXl : X.length = 4 := by rw [← hX, hd14_len, hc]
  have hXb := hd14_bd c
  rw [hX] at hXb HHD
  have HSX := Lib.hid (four_size X hXl)
  have HSS := Lib.hid (four_same z4 X rfl hXl)
  have hNl : (ng4 X).length = 4 := by rw [ng4_len, hXl]
  have HXB := Lib.hid hXb
  have HFA := Lib.hid fun w => find_any X s q w hXl hsN hqN hXb
  have HFB := Lib.hid fun w => find_any (ng4 X) s q w hNl hsN hqN (fun j hj => by rw [ng4_get]; have := hXb j hj; omega)
  have hYb := fl4_bd (fun i => X.getD i 0) ((2 : Int) ^ s) q hqN
  have hYl : (fl4 (fun i => X.getD i 0) ((2 : Int) ^ s) q).length = 4 := rfl
  have hT := fl4_turn X ((2 : Int) ^ s) q
  obtain ⟨Y, hY⟩ : ∃ Y, fl4 (fun i => X.getD i 0) ((2 : Int) ^ s) q = Y := ⟨_, rfl⟩
  rw [hY] at HFA hYb hYl hT
  have hMl : (ng4 Y).length = 4 := by rw [ng4_len, hYl]
  have HTT := Lib.hid hT
  have HD1 := Lib.hid fun w => distance_any X Y s w hXl hYl hsN hXb hYb
  have HD2 := Lib.hid fun w => distance_any (ng4 X) (ng4 Y) s w hNl hMl hsN (fun j hj => by rw [ng4_get]; have := hXb j hj; omega) (fun j hj => by rw [ng4_get]; have := hYb j hj; omega)
  rw [dis_ng] at HD2
  obtain ⟨D, hD⟩ : ∃ D, dis (fun i => X.getD i 0) (fun i => Y.getD i 0) ((2 : Int) ^ s) = D := ⟨_, rfl⟩
  rw [hD] at HD1 HD2
  have HSY := Lib.hid (pulses_size Y hYl)
  have HSZ := Lib.hid (four_same z4 Y rfl hYl)
  have HSM := Lib.hid (pulses_size (ng4 Y) hMl)
  have HSW := Lib.hid (four_same z4 (ng4 Y) rfl hMl)
  have HSN := Lib.hid (four_size (ng4 X) hNl)
  have HAW := Lib.hid awake14_any
  have HYB := Lib.hid hYb
  have hsI : (s : Int) < 16 := by omega
  have hqI : (q : Int) < 13 := by omega
  have HX4 := Lib.hid hXl
  have HY4 := Lib.hid hYl
  have HN4 := Lib.hid hNl
  have HM4 := Lib.hid hMl
  have HMG := Lib.hid (ng4_get Y)
  have HNG := Lib.hid (ng4_get X)
  obtain ⟨N, hN⟩ : ∃ N, ng4 X = N := ⟨_, rfl⟩
  obtain ⟨Z, hZ⟩ : ∃ Z, ng4 Y = Z := ⟨_, rfl⟩
  rw [hN] at HFB HTT HD2 HSN HN4
  rw [hZ] at HTT HD2 HSM HSW HM4
  simp only [hN] at HNG
  simp only [hZ] at HMG
  have hz0 := four_zero
  have hz1' := pulses_zero
  clear hX hXb hXl hYb hYl hY hD hsN hqN hNl hMl hT hN hZ
  go_enter Try.func6, Try.ntmps6
  go_wp2_with fail
  refine (HAW.out _).mono ?_
  rintro e w1 ⟨rfl, hb⟩
  have HB := Lib.hid (((Below.refl w.heap.size w).alloc (Nat.le_refl _) (.cells (iCells c) 22)).trans (hb.mono (by simp)))
  have HR : Hid (Row w1 w.heap.size 22 (iCells c)) := Lib.hid (Row.below (heap_alloc_new w (.cells (iCells c) 22)) hb (by simp))
  clear hb
  go_wp2_with (refine wpList_load_row rfl 22 (.tmp 3) rfl w.heap.size rfl 22 (iCells c) (0, 0) _ HR.out Try.underlying22 rfl HSC.out ?_)
  refine (HHD.out _).mono ?_
  rintro e w2 ⟨rfl, hb⟩
  have HB := Lib.hid (HB.out.trans (hb.mono HB.out.size))
  clear hb HR HHD
  go_upto_region 4 with (refine wpList_store_row rfl 22 (.tmp 7) (.tmp 20) rfl w2.heap.size (iCells X) rfl rfl 22 (iCells z4) (heap_alloc_new _ _) HSX.out HSS.out (iCells_one _) ?_)
  have HR : Hid (Row ((w2.alloc (.cells (iCells z4) 22)).setRow w2.heap.size (iCells X)) w2.heap.size 22 (iCells X)) := Lib.hid (Row.setRow (heap_alloc_new _ _) _)
  have HB := Lib.hid (below_setRow (g := w2.heap.size) (HB.out.alloc HB.out.size (.cells (iCells z4) 22)) HB.out.size (iCells X))
  generalize (w2.alloc (.cells (iCells z4) 22)).setRow w2.heap.size (iCells X) = w3 at *
  obtain ⟨g1, hg1⟩ : ∃ g, w2.heap.size = g := ⟨_, rfl⟩
  rw [hg1] at HR ⊢
  clear hg1
  go_wp2_with fail
  have HRN : Hid (Row (w3.alloc (.cells (iCells z4) 22)) w3.heap.size 22 (iCells z4)) := Lib.hid (heap_alloc_new _ _)
  have HNE : Hid (g1 ≠ w3.heap.size ∧ w.heap.size ≤ w3.heap.size) := Lib.hid (by
    have h1 := HR.out.lt
    have h4 := HB.out.size
    omega)
  have HR := Lib.hid (HR.out.alloc (.cells (iCells z4) 22))
  have HB := Lib.hid (HB.out.alloc HB.out.size (.cells (iCells z4) 22))
  generalize w3.alloc (.cells (iCells z4) 22) = w4 at *
  obtain ⟨g2, hg2⟩ : ∃ g, w3.heap.size = g := ⟨_, rfl⟩
  rw [hg2] at HRN HNE ⊢
  clear hg2 hz0
  go_loopw [9] (fun ii wr => ∃ (k : Nat), k ≤ 4 ∧ ii = .int .i64 k ∧ (∀ j, j < k → X.getD j 0 ≠ 0) ∧ Row wr g1 22 (iCells X) ∧ Row wr g2 22 (iCells (zk4 N k)) ∧ Below w.heap.size w wr) (fun ii _ => 4 - (intOf ii).toNat)
  case atStart => exact ⟨0, by omega, rfl, fun j hj => by omega, HR.out, HRN.out, HB.out⟩
  case round =>
    clear HR HRN HB
    obtain ⟨k, hk, rfl, hn, hr, hrn, hb⟩ := hrel
    have HR := Lib.hid hr
    have HRN := Lib.hid hrn
    have HB := Lib.hid hb
    have HNZ := Lib.hid hn
    rcases Nat.lt_or_ge k 4 with hlt | hge
    · have c0 := i_at hr k (by rw [HX4.out]; exact hlt)
      have c1 := i_at hrn k (by rw [zk4_len N k HN4.out (by omega)]; exact hlt)
      have f1 := hrn.free k
      have HST := Lib.hid (zk4_set N k HN4.out hlt)
      rw [HNG.out] at HST
      have hxb := HXB.out k hlt
      obtain ⟨v, hv⟩ : ∃ v, X.getD k 0 = v := ⟨_, rfl⟩
      rw [hv] at c0 HST hxb
      have HV := Lib.hid fun _ : Unit => hv
      have HK := Lib.hid hlt
      have hkI : (k : Int) < 4 := by omega
      have e1 : IntKind.i64.wrap (-v) = -v := wi_id _ (by omega) (by omega)
      have e2 : wrap64 (-v) = -v := wr_id14 _ (by omega) (by omega)
      clear hk hn hr hrn hb hv hlt hxb
      by_cases h0 : v = 0
      · subst h0
        go_wp2_with fail
        go_ret
        exact ⟨rfl, HB.out⟩
      · have HV0 := Lib.hid h0
        have q0 : (v == 0) = false := by rw [beq_eq_false_iff_ne]; exact h0
        have q1 : decide (v = 0) = false := decide_eq_false h0
        go_wp2_with fail
        go_roundw
        case rel => exact ⟨k + 1, HK.out, by go_num, fun j hj => by
            rcases Nat.lt_or_ge j k with h | h
            · exact HNZ.out j h
            · obtain rfl : j = k := by omega
              rw [HV.out ()]
              exact HV0.out, HR.out.far (p := ⟨g2, k, none⟩) HNE.out.1 _, by rw [← HST.out, ← iCells_set]; exact HRN.out.set k _, Below.setCell HB.out (p := ⟨g2, k, none⟩) HNE.out.2 _⟩
        case measure =>
          have := HK.out
          simp [intOf] <;> omega
    · obtain rfl : k = 4 := by omega
      rw [zk4_full N HN4.out] at HRN
      rw [HTT.out HNZ.out] at HFB
      clear hk hn hr hrn hb hge HTT
      go_upto_region 12 with fail
      rw [hs, hq]
      rw [show ((4 : Nat) : Int) = 4 from rfl]
      clear hs hq ha1 ha2 hb1 hb2
      go_wp2_with (refine wpList_load_row rfl 22 (.tmp 7) rfl g1 rfl 22 (iCells X) (0, 0) _ HR.out Try.underlying22 rfl HSX.out ?_)
      refine (HFA.out _).mono ?_
      rintro e w5 ⟨rfl, hb⟩
      have HR := Lib.hid (HR.out.box hb)
      have HRN := Lib.hid (HRN.out.box hb)
      have HB := Lib.hid (HB.out.trans (hb.mono HB.out.size))
      clear hb HFA
      go_upto_region 13 with (refine wpList_store_row rfl 26 (.tmp 12) (.tmp 46) rfl w5.heap.size (iCells Y) rfl rfl 26 (iCells z4) (heap_alloc_new _ _) HSY.out HSZ.out (iCells_one _) ?_)
      have HRY : Hid (Row ((w5.alloc (.cells (iCells z4) 26)).setRow w5.heap.size (iCells Y)) w5.heap.size 26 (iCells Y)) := Lib.hid (Row.setRow (heap_alloc_new _ _) _)
      have HR : Hid (Row ((w5.alloc (.cells (iCells z4) 26)).setRow w5.heap.size (iCells Y)) g1 22 (iCells X)) := Lib.hid ((setRow_other _ _ _ _ (by have := HR.out.lt; omega)).trans (HR.out.alloc (.cells (iCells z4) 26)))
      have HRN : Hid (Row ((w5.alloc (.cells (iCells z4) 26)).setRow w5.heap.size (iCells Y)) g2 22 (iCells N)) := Lib.hid ((setRow_other _ _ _ _ (by have := HRN.out.lt; omega)).trans (HRN.out.alloc (.cells (iCells z4) 26)))
      have HB := Lib.hid (below_setRow (g := w5.heap.size) (HB.out.alloc HB.out.size (.cells (iCells z4) 26)) HB.out.size (iCells Y))
      generalize (w5.alloc (.cells (iCells z4) 26)).setRow w5.heap.size (iCells Y) = w6 at *
      obtain ⟨g3, hg3⟩ : ∃ g, w5.heap.size = g := ⟨_, rfl⟩
      rw [hg3] at HRY ⊢
      clear hg3
      go_wp2_with (refine wpList_load_row rfl 22 (.tmp 8) rfl g2 rfl 22 (iCells N) (0, 0) _ HRN.out Try.underlying22 rfl HSN.out ?_)
      refine (HFB.out _).mono ?_
      rintro e w7 ⟨rfl, hb⟩
      have HR := Lib.hid (HR.out.box hb)
      have HRN := Lib.hid (HRN.out.box hb)
      have HRY := Lib.hid (HRY.out.box hb)
      have HB := Lib.hid (HB.out.trans (hb.mono HB.out.size))
      clear hb HFB
      go_upto_region 14 with (refine wpList_store_row rfl 26 (.tmp 14) (.tmp 53) rfl w7.heap.size (iCells Z) rfl rfl 26 (iCells z4) (heap_alloc_new _ _) HSM.out HSW.out (iCells_one _) ?_)
      have HRZ : Hid (Row ((w7.alloc (.cells (iCells z4) 26)).setRow w7.heap.size (iCells Z)) w7.heap.size 26 (iCells Z)) := Lib.hid (Row.setRow (heap_alloc_new _ _) _)
      have HR : Hid (Row ((w7.alloc (.cells (iCells z4) 26)).setRow w7.heap.size (iCells Z)) g1 22 (iCells X)) := Lib.hid ((setRow_other _ _ _ _ (by have := HR.out.lt; omega)).trans (HR.out.alloc (.cells (iCells z4) 26)))
      have HRN : Hid (Row ((w7.alloc (.cells (iCells z4) 26)).setRow w7.heap.size (iCells Z)) g2 22 (iCells N)) := Lib.hid ((setRow_other _ _ _ _ (by have := HRN.out.lt; omega)).trans (HRN.out.alloc (.cells (iCells z4) 26)))
      have HRY : Hid (Row ((w7.alloc (.cells (iCells z4) 26)).setRow w7.heap.size (iCells Z)) g3 26 (iCells Y)) := Lib.hid ((setRow_other _ _ _ _ (by have := HRY.out.lt; omega)).trans (HRY.out.alloc (.cells (iCells z4) 26)))
      have HB := Lib.hid (below_setRow (g := w7.heap.size) (HB.out.alloc HB.out.size (.cells (iCells z4) 26)) HB.out.size (iCells Z))
      generalize (w7.alloc (.cells (iCells z4) 26)).setRow w7.heap.size (iCells Z) = w8 at *
      obtain ⟨g4, hg4⟩ : ∃ g, w7.heap.size = g := ⟨_, rfl⟩
      rw [hg4] at HRZ ⊢
      clear hg4 hz1'
      go_wp2_with fail
      go_loopw [16] (fun ii wr => ∃ (k : Nat), k ≤ 4 ∧ ii = .int .i64 k ∧ Row wr g1 22 (iCells X) ∧ Row wr g2 22 (iCells N) ∧ Row wr g3 26 (iCells Y) ∧ Row wr g4 26 (iCells Z) ∧ Below w.heap.size w wr) (fun ii _ => 4 - (intOf ii).toNat)
      case atStart => exact ⟨0, by omega, rfl, HR.out, HRN.out, HRY.out, HRZ.out, HB.out⟩
      case round =>
        clear HR HRN HRY HRZ HB HNE
        obtain ⟨k, hk, rfl, hr, hrn, hry, hrz, hb⟩ := hrel
        have HR := Lib.hid hr
        have HRN := Lib.hid hrn
        have HRY := Lib.hid hry
        have HRZ := Lib.hid hrz
        have HB := Lib.hid hb
        rcases Nat.lt_or_ge k 4 with hlt | hge
        · have HK := Lib.hid hlt
          have hkI : (k : Int) < 4 := by omega
          have HG := HMG.out k
          have hyb := HYB.out k hlt
          obtain ⟨v, hv⟩ : ∃ v, Y.getD k 0 = v := ⟨_, rfl⟩
          rw [hv] at HG hyb
          have HV := Lib.hid fun _ : Unit => hv
          have e1 : IntKind.i64.wrap v = v := wi_id _ (by omega) (by omega)
          have e2 : wrap64 v = v := wr_id14 _ (by omega) (by omega)
          have q0 : (v != v) = false := by simp
          have HGG := Lib.hid fun _ : Unit => HG
          clear hk hr hrn hry hrz hb hv HG hyb hlt
          go_upto_region 17 with fail
          have c0 := i_at HRY.out k (by rw [HY4.out]; exact HK.out)
          have c1 := i_at HRZ.out k (by rw [HM4.out]; exact HK.out)
          rw [HV.out ()] at c0
          rw [HGG.out ()] at c1
          go_quiet (fail)
          clear c0 c1
          go_wp2_with fail
          go_roundw
          case rel => exact ⟨k + 1, HK.out, by go_num, Row.drewN HR.out _, Row.drewN HRN.out _, Row.drewN HRY.out _, Row.drewN HRZ.out _, Below.drewN HB.out _⟩
          case measure =>
            have := HK.out
            simp [intOf] <;> omega
        · obtain rfl : k = 4 := by omega
          clear hk hr hrn hry hrz hb hge
          obtain ⟨x0, x1, x2, x3, rfl⟩ := four_list X HX4.out
          obtain ⟨y0, y1, y2, y3, rfl⟩ := four_list Y HY4.out
          obtain ⟨n0, n1, n2, n3, rfl⟩ := four_list N HN4.out
          obtain ⟨u0, u1, u2, u3, rfl⟩ := four_list Z HM4.out
          have a0 := cell_regrown (i_at HR.out 0 (by simp))
          have a1 := cell_regrown (i_at HR.out 1 (by simp))
          have a2 := cell_regrown (i_at HR.out 2 (by simp))
          have a3 := cell_regrown (i_at HR.out 3 (by simp))
          have b0 := cell_regrown (i_at HRY.out 0 (by simp))
          have b1 := cell_regrown (i_at HRY.out 1 (by simp))
          have b2 := cell_regrown (i_at HRY.out 2 (by simp))
          have b3 := cell_regrown (i_at HRY.out 3 (by simp))
          have d0 := cell_regrown (i_at HRN.out 0 (by simp))
          have d1 := cell_regrown (i_at HRN.out 1 (by simp))
          have d2 := cell_regrown (i_at HRN.out 2 (by simp))
          have d3 := cell_regrown (i_at HRN.out 3 (by simp))
          have f0 := cell_regrown (i_at HRZ.out 0 (by simp))
          have f1 := cell_regrown (i_at HRZ.out 1 (by simp))
          have f2 := cell_regrown (i_at HRZ.out 2 (by simp))
          have f3 := cell_regrown (i_at HRZ.out 3 (by simp))
          simp only [List.getD_cons_zero, List.getD_cons_succ] at a0 a1 a2 a3 b0 b1 b2 b3 d0 d1 d2 d3 f0 f1 f2 f3
          have K1 : Hid (∀ d os, Calls Try.prog 13 #[.agg #[.int .i64 x0, .int .i64 x1, .int .i64 x2, .int .i64 x3], .agg #[.int .i64 y0, .int .i64 y1, .int .i64 y2, .int .i64 y3], .int .i64 (s : Int)] (Sort.grow (redrawn wr d) os) fun e w'' => e = .returned (.int .i64 D) ∧ ∃ p : Regrown, w'' = Sort.grow (redrawn wr p.d) p.os) :=
            Lib.hid fun d os => Calls.regrown_of (HD1.out _)
          have K2 : Hid (∀ d os, Calls Try.prog 13 #[.agg #[.int .i64 n0, .int .i64 n1, .int .i64 n2, .int .i64 n3], .agg #[.int .i64 u0, .int .i64 u1, .int .i64 u2, .int .i64 u3], .int .i64 (s : Int)] (Sort.grow (redrawn wr d) os) fun e w'' => e = .returned (.int .i64 D) ∧ ∃ p : Regrown, w'' = Sort.grow (redrawn wr p.d) p.os) :=
            Lib.hid fun d os => Calls.regrown_of (HD2.out _)
          have q9 : (D == D) = true := beq_self_eq_true D
          clear HD1 HD2
          go_wp2_with fail
          refine wp_region_quiet_below (by kernel_rfl) (by kernel_rfl) ?_
          repeat go_big_quiet_step (fail)
          go_big_quiet_step ((go_at_call 13; exact K1.out _ _))
          repeat go_big_quiet_step (fail)
          go_big_quiet_step ((go_at_call 13; exact K2.out _ _))
          repeat go_big_quiet_step (fail)
          refine wpQuiet_nil ?_
          intro _ hw'
          obtain ⟨⟨dq, osq⟩, hw''⟩ := hw'
          subst hw''
          have HBX := Lib.hid (HB.out.trans ((below_regrown wr dq osq).mono HB.out.size))
          clear K1 K2 a0 a1 a2 a3 b0 b1 b2 b3 d0 d1 d2 d3 f0 f1 f2 f3
          go_wp2_with fail
          go_ret
          exact ⟨rfl, HBX.out⟩
end Go.Proofs.Ytnjohdgdmnkjlaa
