/-
  The walk of the law PulseLeast. Conditions: four coefficients.
-/
import Derived.Test.YtnjohdgdmnkjlaaSi
import Derived.Test.YtnjohdgdmnkjlaaYkp
import Derived.Deep.QuietTactic
import Derived.BigQuiet
import Derived.Lib.QuietBelow
namespace Go.Proofs.Ytnjohdgdmnkjlaa
open Go.RowKit
open M
theorem pl_four (l : List Int) (h : l.length = 4) : ((pl13 l : Nat) : Int) = s4 fun i => ((l.getD i 0).natAbs : Int) := by
  obtain ⟨a, b, c, d, rfl⟩ := four_list l h
  show ((a.natAbs + (b.natAbs + (c.natAbs + (d.natAbs + 0))) : Nat) : Int) = (a.natAbs : Int) + b.natAbs + c.natAbs + d.natAbs
  omega
theorem fl4_pl (c : Nat → Int) (G : Int) (n : Nat) : pl13 (fl4 c G n) = n := by
  have h1 := pl_four (fl4 c G n) rfl
  have h2 := fnd_sum c G n
  have h3 : s4 (fun i => (((fl4 c G n).getD i 0).natAbs : Int)) = s4 (fun i => ((fnd c G n i).natAbs : Int)) := rfl
  rw [h3, h2] at h1
  omega
theorem fl4_pu (c : Nat → Int) (G : Int) (n : Nat) (h : n ≤ 12) : pu13 (fl4 c G n) = n := by
  rw [pu_in (fl4 c G n) (show (fl4 c G n).length ≤ 8 from (by decide : 4 ≤ 8)), fl4_pl]
  omega
theorem fl4_dis (c : Nat → Int) (G : Int) (n : Nat) : dis c (fun i => (fl4 c G n).getD i 0) G = dis c (fnd c G n) G := rfl
theorem vec_bd (l : List Int) (q : Nat) (h : l.length = 4) (hp : pl13 l = q) (hq : q ≤ 12) : ∀ j, j < 4 → -12 ≤ l.getD j 0 ∧ l.getD j 0 ≤ 12 := fun j hj => by
  have := pl_one l j (by omega)
  omega
theorem found_least (c : Nat → Int) (l : List Int) (G : Int) (n : Nat) (hG : 0 ≤ G) (hl : l.length = 4) (hp : pl13 l = n) : dis c (fun i => (fl4 c G n).getD i 0) G ≤ dis c (fun i => l.getD i 0) G := by
  rw [fl4_dis]
  refine fnd_least c _ G hG n ?_
  rw [← pl_four l hl, hp]
/-- Four numbers, laid as far as k. -/
def zk4 (l : List Int) (k : Nat) : List Int := l.take k ++ z4.drop k
theorem zk4_len (l : List Int) (k : Nat) (h : l.length = 4) (hk : k ≤ 4) : (zk4 l k).length = 4 := by
  simp [zk4, z4, h]; omega
theorem zk4_set (l : List Int) (k : Nat) (h : l.length = 4) (hk : k < 4) : (zk4 l k).set k (l.getD k 0) = zk4 l (k + 1) := by
  obtain ⟨a, b, c, d, rfl⟩ := four_list l h
  have hj : k = 0 ∨ k = 1 ∨ k = 2 ∨ k = 3 := by omega
  rcases hj with rfl | rfl | rfl | rfl <;> rfl
theorem zk4_full (l : List Int) (h : l.length = 4) : zk4 l 4 = l := by
  obtain ⟨a, b, c, d, rfl⟩ := four_list l h
  rfl
theorem fl4_bd (c : Nat → Int) (G : Int) (n : Nat) (hn : n ≤ 12) : ∀ j, j < 4 → -12 ≤ (fl4 c G n).getD j 0 ∧ (fl4 c G n).getD j 0 ≤ 12 := fun j hj => by
  rw [fl4_get _ _ _ _ hj]
  have := fnd_bd c G n j hj
  omega
set_option maxRecDepth 100000 in
set_option maxHeartbeats 2000000 in
theorem least_law (c : List Int) (a b : UInt8) (z : Int) (w : World) (hc : c.length = 4) (hz : 0 ≤ z ∧ z ≤ 4294967295) :
    Calls Try.prog 3 #[.agg (iCells c), .int .u8 (ub a), .int .u8 (ub b), .int .u32 z] w fun e w' => e = .returned (.bool true) ∧ Below w.heap.size w w' := by
  obtain ⟨ha1, ha2⟩ := ub_bd a
  obtain ⟨hb1, hb2⟩ := ub_bd b
  obtain ⟨hz1, hz2⟩ := hz
  generalize ub a = x at *
  generalize ub b = y at *
  obtain ⟨s, hs⟩ : ∃ m : Nat, x % 16 = m := ⟨(x % 16).toNat, by omega⟩
  obtain ⟨q, hq⟩ : ∃ m : Nat, y % 13 = m := ⟨(y % 13).toNat, by omega⟩
  have hsN : s ≤ 15 := by omega
  have hqN : q ≤ 12 := by omega
  have HSC := Lib.hid (four_size c hc)
  have HHD := Lib.hid fun w => held14_any c w hc
  obtain ⟨X, hX⟩ : ∃ X, hd14 c = X := ⟨_, rfl⟩
  have hXl : X.length = 4 := by rw [← hX, hd14_len, hc]
  have hXb := hd14_bd c
  rw [hX] at hXb HHD
  have HXL := Lib.hid hXl
  have HSX := Lib.hid (four_size X hXl)
  have HSS := Lib.hid (four_same z4 X rfl hXl)
  have hGb := pow15 s hsN
  have HFD := Lib.hid fun w => find_any X s q w hXl hsN hqN hXb
  have hYp := fl4_pu (fun i => X.getD i 0) ((2 : Int) ^ s) q hqN
  have hYb := fl4_bd (fun i => X.getD i 0) ((2 : Int) ^ s) q hqN
  have hYg := fun j hj => fl4_get (fun i => X.getD i 0) ((2 : Int) ^ s) q j hj
  have hYs := fun j => fnd_sign (fun i => X.getD i 0) ((2 : Int) ^ s) q j
  have hYm := fun l hl hp => found_least (fun i => X.getD i 0) l ((2 : Int) ^ s) q (by omega) hl hp
  have hYl : (fl4 (fun i => X.getD i 0) ((2 : Int) ^ s) q).length = 4 := rfl
  obtain ⟨Y, hY⟩ : ∃ Y, fl4 (fun i => X.getD i 0) ((2 : Int) ^ s) q = Y := ⟨_, rfl⟩
  rw [hY] at HFD hYp hYb hYl
  simp only [hY] at hYg hYm
  have HSY := Lib.hid (pulses_size Y hYl)
  have HSZ := Lib.hid (four_same z4 Y rfl hYl)
  have HPU := Lib.hid fun v w hv => pulses_any Y v w hv (by rw [hYl]; unfold maxLen; omega)
  rw [hYp] at HPU
  have HAW := Lib.hid awake14_any
  have hcn : 0 < cn13 4 q := by
    rcases Nat.eq_zero_or_pos (cn13 4 q) with h | h
    · exact absurd (cn_null 4 q h).1 (by omega)
    · exact h
  obtain ⟨A, hA1, hA2, hA3⟩ := u32_mod z (cn13 4 q) hz1 hcn
  have HCN := Lib.hid fun w => count_at (4 : Int) (q : Int) 4 q w rfl rfl (by omega) (by omega)
  have HVE := Lib.hid fun w => vector_at (4 : Int) (q : Int) (A : Int) 4 q A w rfl rfl rfl (by omega) (by omega) hA3
  obtain ⟨hV1, hV2, _⟩ := vc_all 4 q A hA3
  have hcb := cn_big 4 q (by omega) (by omega)
  obtain ⟨V, hV⟩ : ∃ V, vc13 4 q A = V := ⟨_, rfl⟩
  rw [hV] at HVE hV1 hV2
  have HVL := Lib.hid hV1
  have hVb := vec_bd V q hV1 hV2 hqN
  have HSV := Lib.hid (pulses_size V hV1)
  have hmin := hYm V hV1 hV2
  have HD1 := Lib.hid fun w => distance_any X Y s w hXl hYl hsN hXb hYb
  have HD2 := Lib.hid fun w => distance_any X V s w hXl hV1 hsN hXb hVb
  obtain ⟨D1, hD1⟩ : ∃ D, dis (fun i => X.getD i 0) (fun i => Y.getD i 0) ((2 : Int) ^ s) = D := ⟨_, rfl⟩
  obtain ⟨D2, hD2⟩ : ∃ D, dis (fun i => X.getD i 0) (fun i => V.getD i 0) ((2 : Int) ^ s) = D := ⟨_, rfl⟩
  rw [hD1] at HD1 hmin
  rw [hD2] at HD2 hmin
  have HSG : Hid (∀ j, j < 4 → Y.getD j 0 ≠ 0 → (Y.getD j 0 < 0 ↔ X.getD j 0 < 0)) := Lib.hid fun j hj => by rw [hYg j hj]; exact hYs j
  have hsI : (s : Int) < 16 := by omega
  have hqI : (q : Int) < 13 := by omega
  obtain ⟨cn, hcne⟩ : ∃ cn, cn13 4 q = cn := ⟨_, rfl⟩
  rw [hcne] at HCN hcb hA1 hA2 hcn
  have hcI : (cn : Int) ≠ 0 := by omega
  have hcp : (0 : Int) < (cn : Int) := by omega
  have hcz : ((cn : Int) == 0) = false := by rw [beq_eq_false_iff_ne]; omega
  have HMIN := Lib.hid (decide_eq_true hmin)
  have HX4 := Lib.hid hXl
  have HY4 := Lib.hid hYl
  have HV4 := Lib.hid hV1
  have hz0 := four_zero
  have hz1' := pulses_zero
  clear hX hXb hXl hGb hYp hYb hYg hYs hYm hYl hY hV1 hV2 hV hVb hD1 hD2 hmin hA3 hcne hsN hqN
  go_enter Try.func3, Try.ntmps3
  go_wp2_with fail
  refine (HAW.out _).mono ?_
  rintro e w1 ⟨rfl, hb⟩
  have HB := Lib.hid (((Below.refl w.heap.size w).alloc (Nat.le_refl _) (.cells (iCells c) 22)).trans (hb.mono (by simp)))
  have HR : Hid (Row w1 w.heap.size 22 (iCells c)) := Lib.hid (Row.below (heap_alloc_new w (.cells (iCells c) 22)) hb (by simp))
  clear hb
  go_wp2_with (refine wpList_load_row rfl 22 (.tmp 4) rfl w.heap.size rfl 22 (iCells c) (0, 0) _ HR.out Try.underlying22 rfl HSC.out ?_)
  refine (HHD.out _).mono ?_
  rintro e w2 ⟨rfl, hb⟩
  have HB := Lib.hid (HB.out.trans (hb.mono HB.out.size))
  clear hb HR HHD
  go_upto_region 5 with (refine wpList_store_row rfl 22 (.tmp 9) (.tmp 21) rfl w2.heap.size (iCells X) rfl rfl 22 (iCells z4) (heap_alloc_new _ _) HSX.out HSS.out (iCells_one _) ?_)
  have HR : Hid (Row ((w2.alloc (.cells (iCells z4) 22)).setRow w2.heap.size (iCells X)) w2.heap.size 22 (iCells X)) := Lib.hid (Row.setRow (heap_alloc_new _ _) _)
  have HB := Lib.hid (below_setRow (g := w2.heap.size) (HB.out.alloc HB.out.size (.cells (iCells z4) 22)) HB.out.size (iCells X))
  generalize (w2.alloc (.cells (iCells z4) 22)).setRow w2.heap.size (iCells X) = w3 at *
  obtain ⟨g1, hg1⟩ : ∃ g, w2.heap.size = g := ⟨_, rfl⟩
  rw [hg1] at HR ⊢
  clear hg1
  rw [hs, hq]
  clear hs hq ha1 ha2 hb1 hb2
  go_wp2_with (refine wpList_load_row rfl 22 (.tmp 9) rfl g1 rfl 22 (iCells X) (0, 0) _ HR.out Try.underlying22 rfl HSX.out ?_)
  refine (HFD.out _).mono ?_
  rintro e w4 ⟨rfl, hb⟩
  have HR := Lib.hid (HR.out.box hb)
  have HB := Lib.hid (HB.out.trans (hb.mono HB.out.size))
  clear hb HFD
  go_upto_region 6 with (refine wpList_store_row rfl 26 (.tmp 12) (.tmp 33) rfl w4.heap.size (iCells Y) rfl rfl 26 (iCells z4) (heap_alloc_new _ _) HSY.out HSZ.out (iCells_one _) ?_)
  have HRY : Hid (Row ((w4.alloc (.cells (iCells z4) 26)).setRow w4.heap.size (iCells Y)) w4.heap.size 26 (iCells Y)) := Lib.hid (Row.setRow (heap_alloc_new _ _) _)
  have HR := Lib.hid ((setRow_other _ _ _ _ (by have := HR.out.lt; omega)).trans (HR.out.alloc (.cells (iCells z4) 26)) : Row ((w4.alloc (.cells (iCells z4) 26)).setRow w4.heap.size (iCells Y)) g1 22 (iCells X))
  have HB := Lib.hid (below_setRow (g := w4.heap.size) (HB.out.alloc HB.out.size (.cells (iCells z4) 26)) HB.out.size (iCells Y))
  generalize (w4.alloc (.cells (iCells z4) 26)).setRow w4.heap.size (iCells Y) = w5 at *
  obtain ⟨g2, hg2⟩ : ∃ g, w4.heap.size = g := ⟨_, rfl⟩
  rw [hg2] at HRY ⊢
  clear hg2
  have hqe : ((q : Int) != (q : Int)) = false := by simp
  go_wp2_with fail
  refine (HPU.out _ _ ?_).mono ?_
  · refine ⟨some ⟨g2, 0, none⟩, 4, by rw [HY4.out], fun _ => ⟨g2, 0, rfl, HRY.out.lt, fun i hi => by rw [Nat.zero_add]; exact i_at HRY.out i hi⟩⟩
  rintro e w6 ⟨rfl, hw⟩
  subst hw
  go_wp2_with fail
  refine (HCN.out _).mono ?_
  rintro e w7 ⟨rfl, hb⟩
  have HR := Lib.hid (Row.box HR.out hb)
  have HRY := Lib.hid (HRY.out.box hb)
  have HB := Lib.hid (HB.out.trans (hb.mono HB.out.size))
  clear hb HCN hqe HPU
  go_wp2_with fail
  refine (HVE.out _).mono ?_
  rintro e w8 ⟨⟨a1, cap1, rfl, hi1⟩, hb⟩
  have HR := Lib.hid (Row.box HR.out hb)
  have HRY := Lib.hid (HRY.out.box hb)
  have HB := Lib.hid (HB.out.trans (hb.mono HB.out.size))
  obtain ⟨b1, o1, rfl, hl1, hc1⟩ := ints_cells hi1 HVL.out (by omega)
  have HC1 := Lib.hid hc1
  have HL1 := Lib.hid hl1
  clear hb HVE hi1 hl1 hc1 hcI hcp hcz hA1 hA2 hcb hcn
  go_wp2_with fail
  have HNE : Hid (g1 ≠ w8.heap.size ∧ g2 ≠ w8.heap.size ∧ b1 ≠ w8.heap.size ∧ w.heap.size ≤ w8.heap.size) := Lib.hid (by
    have h1 := Row.lt (show Row w8 g1 22 (iCells X) from HR.out)
    have h2 := HRY.out.lt
    have h3 := HL1.out
    have h4 := HB.out.size
    omega)
  have HR := Lib.hid (Row.alloc (show Row w8 g1 22 (iCells X) from HR.out) (.cells (iCells z4) 26))
  have HRY := Lib.hid (HRY.out.alloc (.cells (iCells z4) 26))
  have HRV : Hid (Row (w8.alloc (.cells (iCells z4) 26)) w8.heap.size 26 (iCells z4)) := Lib.hid (heap_alloc_new _ _)
  have HC1 : Hid (∀ i, i < 4 → (w8.alloc (.cells (iCells z4) 26)).cell? ⟨b1, o1 + i, none⟩ = some (.int .i64 (V.getD i 0))) := Lib.hid fun i hi => by
    rw [Below.cell (p := ⟨b1, o1 + i, none⟩) ((Below.refl w8.heap.size w8).alloc (Nat.le_refl _) _) HL1.out]
    exact HC1.out i hi
  have HB := Lib.hid (HB.out.alloc HB.out.size (.cells (iCells z4) 26))
  generalize w8.alloc (.cells (iCells z4) 26) = w9 at *
  obtain ⟨g3, hg3⟩ : ∃ g, w8.heap.size = g := ⟨_, rfl⟩
  rw [hg3] at HRV HNE ⊢
  clear hg3 hz0 hz1'
  go_loopw [17] (fun ii wr => ∃ (k : Nat), k ≤ 4 ∧ ii = .int .i64 k ∧ Row wr g1 22 (iCells X) ∧ Row wr g2 26 (iCells Y) ∧ Row wr g3 26 (iCells (zk4 V k)) ∧ (∀ i, i < 4 → wr.cell? ⟨b1, o1 + i, none⟩ = some (.int .i64 (V.getD i 0))) ∧ Below w.heap.size w wr) (fun ii _ => 4 - (intOf ii).toNat)
  case atStart => exact ⟨0, by omega, rfl, HR.out, HRY.out, HRV.out, HC1.out, HB.out⟩
  case round =>
    clear HR HRY HRV HC1 HB
    obtain ⟨k, hk, rfl, hr, hry, hrv, hcv, hb⟩ := hrel
    have HR := Lib.hid hr
    have HRY := Lib.hid hry
    have HRV := Lib.hid hrv
    have HCV := Lib.hid hcv
    have HB := Lib.hid hb
    rcases Nat.lt_or_ge k 4 with hlt | hge
    · have c0 := hcv k hlt
      have c1 := i_at hrv k (by rw [zk4_len V k HV4.out (by omega)]; exact hlt)
      have f1 := hrv.free k
      have HST := Lib.hid (zk4_set V k HV4.out hlt)
      obtain ⟨v, hv⟩ : ∃ v, V.getD k 0 = v := ⟨_, rfl⟩
      rw [hv] at c0 HST
      have hsg := HSG.out k hlt
      have HK := Lib.hid hlt
      have hkI : (k : Int) < 4 := by omega
      have HYK := Lib.hid (i_at hry k (by rw [HY4.out]; exact hlt))
      have HXK := Lib.hid (i_at hr k (by rw [HX4.out]; exact hlt))
      obtain ⟨xk, hxk⟩ : ∃ v, X.getD k 0 = v := ⟨_, rfl⟩
      obtain ⟨yk, hyk⟩ : ∃ v, Y.getD k 0 = v := ⟨_, rfl⟩
      rw [hyk] at HYK hsg
      rw [hxk] at HXK hsg
      have HSK := Lib.hid hsg
      clear hk hr hry hrv hcv hb hv hxk hyk hsg
      go_upto_region 16 with fail
      have HR := Lib.hid (HR.out.far (p := ⟨g3, k, none⟩) HNE.out.1 (.int .i64 v))
      have HRY := Lib.hid (HRY.out.far (p := ⟨g3, k, none⟩) HNE.out.2.1 (.int .i64 v))
      have HRV := Lib.hid (show Row (wr.setCell ⟨g3, k, none⟩ (.int .i64 v)) g3 26 (iCells (zk4 V (k + 1))) from by rw [← HST.out, ← iCells_set]; exact HRV.out.set k _)
      have HCV : Hid (∀ i, i < 4 → (wr.setCell ⟨g3, k, none⟩ (.int .i64 v)).cell? ⟨b1, o1 + i, none⟩ = some (.int .i64 (V.getD i 0))) := Lib.hid fun i hi => by
        rw [World.cell?_setCell_other (h := fun e => HNE.out.2.2.1 (by injection e with e1; exact e1.symm))]
        exact HCV.out i hi
      have HB := Lib.hid (Below.setCell HB.out (p := ⟨g3, k, none⟩) HNE.out.2.2.2 (.int .i64 v))
      clear c0 c1 f1 HYK HXK
      generalize wr.setCell ⟨g3, k, none⟩ (.int .i64 v) = w10 at *
      have y1 := i_at HRY.out k (by rw [HY4.out]; exact HK.out)
      have x1 := i_at HR.out k (by rw [HX4.out]; exact HK.out)
      obtain ⟨xk, hxk⟩ : ∃ v, X.getD k 0 = v := ⟨_, rfl⟩
      obtain ⟨yk, hyk⟩ : ∃ v, Y.getD k 0 = v := ⟨_, rfl⟩
      rw [hyk] at y1
      rw [hxk] at x1
      have hsg := HSG.out k HK.out
      rw [hxk, hyk] at hsg
      clear hxk hyk
      rcases Int.lt_trichotomy yk 0 with h | h | h
      · have hx := (hsg (by omega)).1 h
        have q0 : (yk != 0) = true := by rw [bne_iff_ne]; omega
        have q1 : decide (yk < 0) = true := decide_eq_true h
        have q2 : decide (xk < 0) = true := decide_eq_true hx
        clear hsg
        go_quiet (fail)
        clear y1 x1
        go_wp2_with fail
        go_roundw
        case rel => exact ⟨k + 1, HK.out, by go_num, Row.drewN HR.out _, Row.drewN HRY.out _, Row.drewN HRV.out _, HCV.out, Below.drewN HB.out _⟩
        case measure =>
          have := HK.out
          simp [intOf] <;> omega
      · subst h
        have q0 : ((0 : Int) != 0) = false := rfl
        clear hsg
        go_quiet (fail)
        clear y1 x1
        go_wp2_with fail
        go_roundw
        case rel => exact ⟨k + 1, HK.out, by go_num, Row.drewN HR.out _, Row.drewN HRY.out _, Row.drewN HRV.out _, HCV.out, Below.drewN HB.out _⟩
        case measure =>
          have := HK.out
          simp [intOf] <;> omega
      · have hx : ¬ xk < 0 := fun e => by have := (hsg (by omega)).2 e; omega
        have h2 : ¬ yk < 0 := by omega
        have q0 : (yk != 0) = true := by rw [bne_iff_ne]; omega
        have q1 : decide (yk < 0) = false := decide_eq_false h2
        have q2 : decide (xk < 0) = false := decide_eq_false hx
        clear hsg
        go_quiet (fail)
        clear y1 x1
        go_wp2_with fail
        go_roundw
        case rel => exact ⟨k + 1, HK.out, by go_num, Row.drewN HR.out _, Row.drewN HRY.out _, Row.drewN HRV.out _, HCV.out, Below.drewN HB.out _⟩
        case measure =>
          have := HK.out
          simp [intOf] <;> omega
    · obtain rfl : k = 4 := by omega
      rw [zk4_full V HV4.out] at HRV
      clear hk hr hry hrv hcv hb hge
      obtain ⟨x0, x1, x2, x3, rfl⟩ := four_list X HX4.out
      obtain ⟨y0, y1, y2, y3, rfl⟩ := four_list Y HY4.out
      obtain ⟨v0, v1, v2, v3, rfl⟩ := four_list V HV4.out
      have a0 := cell_regrown (i_at HR.out 0 (by simp))
      have a1 := cell_regrown (i_at HR.out 1 (by simp))
      have a2 := cell_regrown (i_at HR.out 2 (by simp))
      have a3 := cell_regrown (i_at HR.out 3 (by simp))
      have b0 := cell_regrown (i_at HRY.out 0 (by simp))
      have b1' := cell_regrown (i_at HRY.out 1 (by simp))
      have b2 := cell_regrown (i_at HRY.out 2 (by simp))
      have b3 := cell_regrown (i_at HRY.out 3 (by simp))
      have d0 := cell_regrown (i_at HRV.out 0 (by simp))
      have d1 := cell_regrown (i_at HRV.out 1 (by simp))
      have d2 := cell_regrown (i_at HRV.out 2 (by simp))
      have d3 := cell_regrown (i_at HRV.out 3 (by simp))
      simp only [List.getD_cons_zero, List.getD_cons_succ] at a0 a1 a2 a3 b0 b1' b2 b3 d0 d1 d2 d3
      have K1 : Hid (∀ d os, Calls Try.prog 13 #[.agg #[.int .i64 x0, .int .i64 x1, .int .i64 x2, .int .i64 x3], .agg #[.int .i64 y0, .int .i64 y1, .int .i64 y2, .int .i64 y3], .int .i64 (s : Int)] (Sort.grow (redrawn wr d) os) fun e w'' => e = .returned (.int .i64 D1) ∧ ∃ p : Regrown, w'' = Sort.grow (redrawn wr p.d) p.os) :=
        Lib.hid fun d os => Calls.regrown_of (HD1.out _)
      have K2 : Hid (∀ d os, Calls Try.prog 13 #[.agg #[.int .i64 x0, .int .i64 x1, .int .i64 x2, .int .i64 x3], .agg #[.int .i64 v0, .int .i64 v1, .int .i64 v2, .int .i64 v3], .int .i64 (s : Int)] (Sort.grow (redrawn wr d) os) fun e w'' => e = .returned (.int .i64 D2) ∧ ∃ p : Regrown, w'' = Sort.grow (redrawn wr p.d) p.os) :=
        Lib.hid fun d os => Calls.regrown_of (HD2.out _)
      clear HD1 HD2
      go_wp2_with fail
      refine wp_region_quiet_below (by kernel_rfl) (by kernel_rfl) ?_
      repeat go_big_quiet_step (fail)
      go_big_quiet_step ((go_at_call 13; exact K1.out _ _))
      repeat go_big_quiet_step (fail)
      go_big_quiet_step ((go_at_call 13; exact K2.out _ _))
      repeat go_big_quiet_step (fail)
      refine wpQuiet_nil ?_
      intro _ hw'
      obtain ⟨⟨dq, osq⟩, hw''⟩ := hw'
      subst hw''
      have HBX := Lib.hid (HB.out.trans ((below_regrown wr dq osq).mono HB.out.size))
      clear K1 K2 a0 a1 a2 a3 b0 b1' b2 b3 d0 d1 d2 d3
      go_wp2_with fail
      go_ret
      exact ⟨by show Ending.returned (.bool (decide (D1 ≤ D2))) = _; rw [HMIN.out], HBX.out⟩
end Go.Proofs.Ytnjohdgdmnkjlaa
