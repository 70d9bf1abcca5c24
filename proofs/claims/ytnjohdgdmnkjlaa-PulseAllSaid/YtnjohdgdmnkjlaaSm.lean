/-
  The walk of the law PulseAll. Conditions: four coefficients.
-/
import Derived.Test.YtnjohdgdmnkjlaaSj
import Derived.Test.YtnjohdgdmnkjlaaYr
import Derived.Test.YtnjohdgdmnkjlaaYsp
namespace Go.Proofs.Ytnjohdgdmnkjlaa
open Go.RowKit
open M
set_option maxRecDepth 100000 in
set_option maxHeartbeats 2000000 in
theorem all14_law (c : List Int) (a b : UInt8) (w : World) (hc : c.length = 4) :
    Calls Try.prog 4 #[.agg (iCells c), .int .u8 (ub a), .int .u8 (ub b)] w fun e w' => e = .returned (.bool true) ∧ Below w.heap.size w w' := by
  obtain ⟨ha1, ha2⟩ := ub_bd a
  obtain ⟨hb1, hb2⟩ := ub_bd b
  generalize ub a = x at *
  generalize ub b = y at *
  obtain ⟨s, hs⟩ : ∃ m : Nat, x % 16 = m := ⟨(x % 16).toNat, by omega⟩
  obtain ⟨q, hq⟩ : ∃ m : Nat, y % 5 = m := ⟨(y % 5).toNat, by omega⟩
  have hsN : s ≤ 15 := by omega
  have hqN : q ≤ 12 := by omega
  have HSC := Lib.hid (four_size c hc)
  have HHD := Lib.hid fun w => held14_any c w hc
  obtain ⟨X, hX⟩ : ∃ X, hd14 c = X := ⟨_, rfl⟩
  have hXl : X.length = 4 := by rw [← hX, hd14_len, hc]
  have hXb := hd14_bd c
  rw [hX] at hXb HHD
  have hGb := pow15 s hsN
  have hFD := fun w => find_any X s q w hXl hsN hqN hXb
  have hYb := fl4_bd (fun i => X.getD i 0) ((2 : Int) ^ s) q hqN
  have hYm := fun l hl hp => found_least (fun i => X.getD i 0) l ((2 : Int) ^ s) q (by omega) hl hp
  have hYl : (fl4 (fun i => X.getD i 0) ((2 : Int) ^ s) q).length = 4 := rfl
  obtain ⟨Y, hY⟩ : ∃ Y, fl4 (fun i => X.getD i 0) ((2 : Int) ^ s) q = Y := ⟨_, rfl⟩
  rw [hY] at hFD hYb hYl
  simp only [hY] at hYm
  have HAW := Lib.hid awake14_any
  have RA := Lib.hid fun w => all_any q w (by omega)
  have HFL := Lib.hid fun i hi p hp => al_flat q i hi p hp
  have HLE := Lib.hid (al_flat_len q)
  rw [al_len] at RA
  have hcb := cn_big 4 q (by omega) (by omega)
  have hcp : 1 ≤ cn13 4 q := cn_pos 3 q
  have hD1 := fun w => distance_any X Y s w hXl hYl hsN hXb hYb
  have hR1 := fun w => rdist_any X Y s w hXl hYl hsN (fun j hj => ⟨by have := hXb j hj; omega, by have := hYb j hj; omega⟩)
  have hR2 := fun (l : List Int) w (hl : l.length = 4) (hb : ∀ j, j < 4 → -12 ≤ l.getD j 0 ∧ l.getD j 0 ≤ 12) => rdist_any X l s w hXl hl hsN (fun j hj => ⟨by have := hXb j hj; omega, by have := hb j hj; omega⟩)
  obtain ⟨D, hD⟩ : ∃ D, dis (fun i => X.getD i 0) (fun i => Y.getD i 0) ((2 : Int) ^ s) = D := ⟨_, rfl⟩
  rw [hD] at hD1 hR1
  simp only [hD] at hYm
  have HVC := Lib.hid fun i (hi : i < cn13 4 q) => (show (vc13 4 q i).length = 4 ∧ (∀ w, Calls Try.prog 15 #[.agg (iCells X), .agg (iCells (vc13 4 q i)), .int .i64 (s : Int)] w fun e w' => e = .returned (.int .i64 (dis (fun i => X.getD i 0) (fun j => (vc13 4 q i).getD j 0) ((2 : Int) ^ s))) ∧ Below w.heap.size w w') ∧ D ≤ dis (fun i => X.getD i 0) (fun j => (vc13 4 q i).getD j 0) ((2 : Int) ^ s) from by
    obtain ⟨h1, h2, _⟩ := vc_all 4 q i hi
    exact ⟨h1, fun w => hR2 _ w h1 (vec_bd _ q h1 h2 hqN), hYm _ h1 h2⟩)
  have hsI : (s : Int) < 16 := by omega
  have hqI : (q : Int) < 5 := by omega
  obtain ⟨cn, hcne⟩ : ∃ cn, cn13 4 q = cn := ⟨_, rfl⟩
  rw [hcne] at RA HFL HLE HVC hcb hcp
  have HCB := Lib.hid hcb
  have HCP := Lib.hid hcp
  obtain ⟨x0, x1, x2, x3, rfl⟩ := four_list X hXl
  obtain ⟨y0, y1, y2, y3, rfl⟩ := four_list Y hYl
  have HHD : Hid (∀ w, Calls Try.prog 8 #[.agg (iCells c)] w fun e w' => e = .returned (.agg #[.int .i64 x0, .int .i64 x1, .int .i64 x2, .int .i64 x3]) ∧ Below w.heap.size w w') := HHD
  have HFD : Hid (∀ w, Calls Try.prog 9 #[.agg #[.int .i64 x0, .int .i64 x1, .int .i64 x2, .int .i64 x3], .int .i64 (s : Int), .int .i64 (q : Int)] w fun e w' => e = .returned (.tuple #[.agg #[.int .i64 y0, .int .i64 y1, .int .i64 y2, .int .i64 y3], .int .i64 0]) ∧ Below w.heap.size w w') := Lib.hid hFD
  have HD1 : Hid (∀ w, Calls Try.prog 13 #[.agg #[.int .i64 x0, .int .i64 x1, .int .i64 x2, .int .i64 x3], .agg #[.int .i64 y0, .int .i64 y1, .int .i64 y2, .int .i64 y3], .int .i64 (s : Int)] w fun e w' => e = .returned (.int .i64 D) ∧ Below w.heap.size w w') := Lib.hid hD1
  have HR1 : Hid (∀ w, Calls Try.prog 15 #[.agg #[.int .i64 x0, .int .i64 x1, .int .i64 x2, .int .i64 x3], .agg #[.int .i64 y0, .int .i64 y1, .int .i64 y2, .int .i64 y3], .int .i64 (s : Int)] w fun e w' => e = .returned (.int .i64 D) ∧ Below w.heap.size w w') := Lib.hid hR1
  have hz0 : ∀ w, (zeroValue 22).run Try.prog w = .ok (.agg #[.int .i64 0, .int .i64 0, .int .i64 0, .int .i64 0]) w := four_zero
  have hz3 : ∀ w, (zeroValue 26).run Try.prog w = .ok (.agg #[.int .i64 0, .int .i64 0, .int .i64 0, .int .i64 0]) w := pulses_zero
  clear hX hXb hXl hGb hFD hYb hYm hYl hY hD1 hR1 hR2 hD hcne hsN hqN hcb hcp
  go_enter Try.func4, Try.ntmps4
  go_wp2_with fail
  refine (HAW.out _).mono ?_
  rintro e w1 ⟨rfl, hb⟩
  have HB := Lib.hid (((Below.refl w.heap.size w).alloc (Nat.le_refl _) (.cells (iCells c) 22)).trans (hb.mono (by simp)))
  have HR : Hid (Row w1 w.heap.size 22 (iCells c)) := Lib.hid (Row.below (heap_alloc_new w (.cells (iCells c) 22)) hb (by simp))
  clear hb
  go_wp2_with (refine wpList_load_row rfl 22 (.tmp 3) rfl w.heap.size rfl 22 (iCells c) (0, 0) _ HR.out Try.underlying22 rfl HSC.out ?_)
  refine (HHD.out _).mono ?_
  rintro e w2 ⟨rfl, hb⟩
  have HB := Lib.hid (HB.out.trans (hb.mono HB.out.size))
  clear hb HR HHD
  go_upto_region 5 with fail
  have HRX : Hid (Row (w2.alloc (.cells #[.int .i64 x0, .int .i64 x1, .int .i64 x2, .int .i64 x3] 22)) w2.heap.size 22 #[.int .i64 x0, .int .i64 x1, .int .i64 x2, .int .i64 x3]) := Lib.hid (heap_alloc_new _ _)
  have HB := Lib.hid (HB.out.alloc HB.out.size (.cells #[.int .i64 x0, .int .i64 x1, .int .i64 x2, .int .i64 x3] 22))
  rw [hs, hq]
  clear hs hq ha1 ha2 hb1 hb2
  go_wp2_with fail
  refine (HFD.out _).mono ?_
  rintro e w3 ⟨rfl, hb⟩
  have HRX := Lib.hid (HRX.out.box hb)
  have HB := Lib.hid (HB.out.trans (hb.mono HB.out.size))
  obtain ⟨g1, hg1⟩ : ∃ g, w2.heap.size = g := ⟨_, rfl⟩
  rw [hg1] at HRX ⊢
  clear hb hg1 HFD
  go_wp2_with fail
  have HRY : Hid (Row (w3.alloc (.cells #[.int .i64 y0, .int .i64 y1, .int .i64 y2, .int .i64 y3] 26)) w3.heap.size 26 #[.int .i64 y0, .int .i64 y1, .int .i64 y2, .int .i64 y3]) := Lib.hid (heap_alloc_new _ _)
  have HRX := Lib.hid (HRX.out.alloc (.cells #[.int .i64 y0, .int .i64 y1, .int .i64 y2, .int .i64 y3] 26))
  have HB := Lib.hid (HB.out.alloc HB.out.size (.cells #[.int .i64 y0, .int .i64 y1, .int .i64 y2, .int .i64 y3] 26))
  refine (RA.out _).mono ?_
  rintro e w4 ⟨⟨v, rfl, ho⟩, hb⟩
  have HRX := Lib.hid (HRX.out.box hb)
  have HRY := Lib.hid (HRY.out.box hb)
  have HB := Lib.hid (HB.out.trans (hb.mono HB.out.size))
  obtain ⟨g2, hg2⟩ : ∃ g, w3.heap.size = g := ⟨_, rfl⟩
  rw [hg2] at HRY ⊢
  obtain ⟨g3, cap, rfl, _, hg3⟩ := own13_form ho HCP.out
  have HO := Lib.hid ho
  clear hb hg2 RA ho
  have a0 := cell_of_row _ _ 0 _ _ _ HRX.out
  have a1 := cell_of_row _ _ 1 _ _ _ HRX.out
  have a2 := cell_of_row _ _ 2 _ _ _ HRX.out
  have a3 := cell_of_row _ _ 3 _ _ _ HRX.out
  have b0 := cell_of_row _ _ 0 _ _ _ HRY.out
  have b1 := cell_of_row _ _ 1 _ _ _ HRY.out
  have b2 := cell_of_row _ _ 2 _ _ _ HRY.out
  have b3 := cell_of_row _ _ 3 _ _ _ HRY.out
  go_wp2_with fail
  refine (HR1.out _).mono ?_
  rintro e w5 ⟨rfl, hb⟩
  have HRX := Lib.hid (HRX.out.box hb)
  have HRY := Lib.hid (HRY.out.box hb)
  have HB := Lib.hid (HB.out.trans (hb.mono HB.out.size))
  have HO := Lib.hid (own13_stay HO.out hb)
  clear hb HR1 a0 a1 a2 a3 b0 b1 b2 b3 hg3
  go_wp2_with fail
  have hcnB : (cn : Int) ≤ 152587890625 := HCB.out
  go_loopw [14] (fun ii wr => ∃ (k : Nat), k ≤ cn ∧ ii = .int .i64 k ∧ Row wr g1 22 #[.int .i64 x0, .int .i64 x1, .int .i64 x2, .int .i64 x3] ∧ Row wr g2 26 #[.int .i64 y0, .int .i64 y1, .int .i64 y2, .int .i64 y3] ∧ (∃ B, wr.ownsRow B 22 4 (.slice (some ⟨g3, 0, none⟩) cn cap) cn (iV (al13 4 q).flatten)) ∧ Below w.heap.size w wr) (fun ii _ => cn - (intOf ii).toNat)
  case atStart => exact ⟨0, Nat.zero_le _, rfl, HRX.out, HRY.out, ⟨_, HO.out⟩, HB.out⟩
  case round =>
    clear HRX HRY HO HB
    obtain ⟨k, hk, rfl, hrx, hry, ⟨B, ho⟩, hb⟩ := hrel
    have HRX := Lib.hid hrx
    have HRY := Lib.hid hry
    have HO := Lib.hid ho
    have HB := Lib.hid hb
    rcases Nat.lt_or_ge k cn with hlt | hge
    · obtain ⟨hl4, hdis, hle⟩ := HVC.out k hlt
      have hlen := HLE.out
      have hf0 := HFL.out k hlt 0 (by omega)
      have hf1 := HFL.out k hlt 1 (by omega)
      have hf2 := HFL.out k hlt 2 (by omega)
      have hf3 := HFL.out k hlt 3 (by omega)
      have e0 := own13_at ho (4 * k + 0) (by omega)
      have e1 := own13_at ho (4 * k + 1) (by omega)
      have e2 := own13_at ho (4 * k + 2) (by omega)
      have e3 := own13_at ho (4 * k + 3) (by omega)
      rw [hf0] at e0
      rw [hf1] at e1
      rw [hf2] at e2
      rw [hf3] at e3
      obtain ⟨v0, v1, v2, v3, hv⟩ := four_list _ hl4
      obtain ⟨E, hE⟩ : ∃ E, dis (fun i => [x0, x1, x2, x3].getD i 0) (fun j => (vc13 4 q k).getD j 0) ((2 : Int) ^ s) = E := ⟨_, rfl⟩
      simp only [hE] at hdis hle
      rw [hv] at e0 e1 e2 e3 hdis
      simp only [List.getD_cons_zero, List.getD_cons_succ, Nat.add_zero, Nat.mul_comm 4 k] at e0 e1 e2 e3
      have K1 : Hid (∀ d os, Calls Try.prog 15 #[.agg #[.int .i64 x0, .int .i64 x1, .int .i64 x2, .int .i64 x3], .agg #[.int .i64 v0, .int .i64 v1, .int .i64 v2, .int .i64 v3], .int .i64 (s : Int)] (Sort.grow (redrawn wr d) os) fun e w'' => e = .returned (.int .i64 E) ∧ ∃ p : Regrown, w'' = Sort.grow (redrawn wr p.d) p.os) :=
        Lib.hid fun d os => Calls.regrown_of (hdis _)
      have a0 := cell_regrown (cell_of_row _ _ 0 _ _ _ hrx)
      have a1 := cell_regrown (cell_of_row _ _ 1 _ _ _ hrx)
      have a2 := cell_regrown (cell_of_row _ _ 2 _ _ _ hrx)
      have a3 := cell_regrown (cell_of_row _ _ 3 _ _ _ hrx)
      have d0 := cell_regrown e0
      have d1 := cell_regrown e1
      have d2 := cell_regrown e2
      have d3 := cell_regrown e3
      have hkI : (k : Int) < (cn : Int) := by omega
      have hkN : k < cn := hlt
      have HK := Lib.hid hlt
      have hq9 : decide (E < D) = false := decide_eq_false (by omega)
      clear hk hrx hry ho hb hl4 hdis hle hlen hf0 hf1 hf2 hf3 e0 e1 e2 e3 hv hE hlt
      go_wp2_with fail
      refine wp_region_quiet_below (by kernel_rfl) (by kernel_rfl) ?_
      repeat go_big_quiet_step (fail)
      go_big_quiet_step ((go_at_call 15; exact K1.out _ _))
      repeat go_big_quiet_step (fail)
      refine wpQuiet_nil ?_
      intro _ hw'
      obtain ⟨⟨dq, osq⟩, hw''⟩ := hw'
      subst hw''
      have hbx := below_regrown wr dq osq
      have HRX := Lib.hid (HRX.out.box hbx)
      have HRY := Lib.hid (HRY.out.box hbx)
      have HO := Lib.hid (own13_stay HO.out hbx)
      have HB := Lib.hid (HB.out.trans (hbx.mono HB.out.size))
      clear K1 a0 a1 a2 a3 d0 d1 d2 d3 hbx
      generalize Sort.grow (redrawn wr dq) osq = w6 at *
      have hnI : (k : Int) + 1 ≤ 152587890626 := by omega
      go_wp2_with fail
      go_roundw
      case rel => exact ⟨k + 1, HK.out, by go_num, HRX.out, HRY.out, ⟨B, HO.out⟩, HB.out⟩
      case measure =>
        have := HK.out
        simp [intOf] <;> omega
    · obtain rfl : k = cn := by omega
      have a0 := cell_of_row _ _ 0 _ _ _ hrx
      have a1 := cell_of_row _ _ 1 _ _ _ hrx
      have a2 := cell_of_row _ _ 2 _ _ _ hrx
      have a3 := cell_of_row _ _ 3 _ _ _ hrx
      have b0 := cell_of_row _ _ 0 _ _ _ hry
      have b1 := cell_of_row _ _ 1 _ _ _ hry
      have b2 := cell_of_row _ _ 2 _ _ _ hry
      have b3 := cell_of_row _ _ 3 _ _ _ hry
      have hq9 : (D == D) = true := beq_self_eq_true D
      clear hk hrx hry ho hb hge
      go_wp2_with fail
      refine (HD1.out _).mono ?_
      rintro e w7 ⟨rfl, hb⟩
      have HB := Lib.hid (HB.out.trans (hb.mono HB.out.size))
      clear hb a0 a1 a2 a3 b0 b1 b2 b3
      go_wp2_with fail
      go_ret
      exact ⟨rfl, HB.out⟩
end Go.Proofs.Ytnjohdgdmnkjlaa
