/-
  MaskBoth, walked. Conditions: sixteen ints; what mask's All, Budget, Far and May answer.
-/
import Derived.Test.YtfpmdbdgikphdaaMkd
namespace Go.Proofs.Ytfpmdbdgikphdaa
open Go.RowKit
open M
theorem myB_in (l : List Int) (b : Nat) (y z : List Int) (h : rt17 l = true) (hb : b < 8) (hy : sm17 y = true) (hz : sm17 z = true) :
    myB l (b : Int) y z = decide (farL y z * 2 ^ (l.getD b 0).toNat ≤ bud (fun j => (l.getD j 0).toNat) b) := by
  unfold myB
  rw [Int.toNat_natCast]
  by_cases e : farL y z * 2 ^ (l.getD b 0).toNat ≤ bud (fun j => (l.getD j 0).toNat) b
  · rw [decide_eq_true e, decide_eq_true ⟨h, ⟨by omega, by omega⟩, ⟨hy, hz⟩, e⟩]
  · rw [decide_eq_false e, decide_eq_false fun k => e k.2.2.2]
theorem rgain_below (t : Nat) (w : World) (ht : t ≤ 15) : Calls Try.prog 10 #[.int .i64 (t : Int)] w fun e w' => e = .returned (.int .i64 ((2 : Int) ^ t)) ∧ Below w.heap.size w w' :=
  (rgain_any t w ht).mono fun _ _ h => ⟨h.1, by rw [h.2]; exact Below.refl _ _⟩
theorem fyI_in (y z : List Int) (hy : sm17 y = true) (hz : sm17 z = true) : fyI y z = (farL y z : Nat) := by
  unfold fyI
  rw [if_pos ⟨hy, hz⟩]
set_option maxRecDepth 100000 in
set_option maxHeartbeats 2000000 in
theorem both17_law (HA : AllOk) (HBu : BudOk) (HFa : FarOk) (HMa : MayOk) (x y z : List Int) (a : UInt8) (w : World) (hx : x.length = 8) (hy : y.length = 4) (hz : z.length = 4) :
    Calls Try.prog 4 #[.agg (iCells x), .int .u8 (ub a), .agg (iCells y), .agg (iCells z)] w fun e w' => e = .returned (.bool true) ∧ Below w.heap.size w w' := by
  obtain ⟨ha1, ha2⟩ := ub_bd a
  generalize ub a = c at *
  obtain ⟨q, hq⟩ : ∃ m : Nat, c % 8 = m := ⟨(c % 8).toNat, by omega⟩
  have hqN : q < 8 := by omega
  have HAW := Lib.hid fun w => awake17_any HA w
  have HH := Lib.hid fun w => held17_any x w hx
  have HRT := hd17_right x
  have HLH := hd17_len x 8
  obtain ⟨h, hh⟩ : ∃ h, hd17 x 8 = h := ⟨_, rfl⟩
  rw [hh] at HH HRT HLH
  have HBD := (rt_iff h).1 HRT
  have hgq := HBD q hqN
  obtain ⟨t, ht⟩ : ∃ t : Nat, (h.getD q 0).toNat = t := ⟨_, rfl⟩
  have hgt : h.getD q 0 = (t : Int) := by omega
  have hwb := bud_small h q HRT
  have hBU := fun w => HBu h (q : Int) w HLH
  rw [bdI_in h q HRT hqN] at hBU
  have hMY := fun Y Z w (h1 : sm17 Y = true) (h2 : sm17 Z = true) (h3 : Y.length = 4) (h4 : Z.length = 4) => by
    have k := HMa h (q : Int) Y Z w HLH h3 h4
    rw [myB_in h q Y Z HRT hqN h1 h2, ht] at k
    exact k
  obtain ⟨W, hW⟩ : ∃ n, bud (fun j => (h.getD j 0).toNat) q = n := ⟨_, rfl⟩
  rw [hW] at hwb hBU hMY
  have hsy := md17_small y
  have hsz := md17_small z
  have hfb := farL_few (md17 y 4) (md17 z 4) (md17_len _ _) (md17_len _ _) 12 (fun j hj => md17_bd y j hj) (fun j hj => md17_bd z j hj)
  have hfz := farL_zero (md17 y 4) (md17 z 4) (by rw [md17_len, md17_len])
  have HYF := Lib.hid fun _ : Unit => (rfl : md17 y 4 = md17 y 4)
  have hF1 := fun w => HFa (md17 y 4) (md17 z 4) w (md17_len _ _) (md17_len _ _)
  rw [fyI_in _ _ hsy hsz] at hF1
  have hF2 := fun w => HFa (md17 z 4) (md17 y 4) w (md17_len _ _) (md17_len _ _)
  rw [fyI_in _ _ hsz hsy, farL_comm] at hF2
  have hM1 := fun w => hMY (md17 y 4) (md17 z 4) w hsy hsz (md17_len _ _) (md17_len _ _)
  have hM2 := fun w => hMY (md17 z 4) (md17 y 4) w hsz hsy (md17_len _ _) (md17_len _ _)
  rw [farL_comm (md17 z 4)] at hM2
  have hM3 := fun w => hMY (md17 y 4) (md17 y 4) w hsy hsy (md17_len _ _) (md17_len _ _)
  rw [farL_self, Nat.zero_mul, decide_eq_true (Nat.zero_le W)] at hM3
  have hEQ := fours_eq (md17 y 4) (md17 z 4) (md17_len _ _) (md17_len _ _)
  have hYL := md17_len y 4
  have hZL := md17_len z 4
  have HYS := Lib.hid fun i (h : i < 4) => md17_set y i h
  have HZS := Lib.hid fun i (h : i < 4) => md17_set z i h
  have HY0 := Lib.hid (md17_zero y hy)
  have HZ0 := Lib.hid (md17_zero z hz)
  obtain ⟨Y, hYe⟩ : ∃ Y, md17 y 4 = Y := ⟨_, rfl⟩
  obtain ⟨Z, hZe⟩ : ∃ Z, md17 z 4 = Z := ⟨_, rfl⟩
  rw [hYe, hZe] at hF1 hF2 hM1 hM2 hEQ hfb hfz
  rw [hYe] at hM3 hYL
  rw [hZe] at hZL
  obtain ⟨n, hn⟩ : ∃ n, farL Y Z = n := ⟨_, rfl⟩
  rw [hn] at hF1 hF2 hM1 hM2 hfb hfz
  obtain ⟨L, hL⟩ : ∃ L, n * 2 ^ t = L := ⟨_, rfl⟩
  rw [hL] at hM1 hM2
  have hp2 := pow2_le t 15 (by omega)
  have hLb : L ≤ 96 * 32768 := by rw [← hL]; exact Nat.mul_le_mul (by omega) hp2
  have hGN := fun w => rgain_below t w (by omega)
  have hLI : (n : Int) * (2 : Int) ^ t = (L : Int) := by rw [← hL, Int.natCast_mul, Int.natCast_pow]; rfl
  obtain ⟨P, hP⟩ : ∃ P : Int, (2 : Int) ^ t = P := ⟨_, rfl⟩
  rw [hP] at hLI
  simp only [hP] at hGN
  have ewL : IntKind.i64.wrap ((n : Int) * P) = (L : Int) := by rw [hLI, IntKind.wrap_i64]; omega
  have hbW : (W : Int) ≤ 131072 := by omega
  have HF1 := Lib.hid hF1
  have HF2 := Lib.hid hF2
  have HM1 := Lib.hid hM1
  have HM2 := Lib.hid hM2
  have HM3 := Lib.hid hM3
  have HBU := Lib.hid hBU
  have HGN := Lib.hid hGN
  have HEQ := Lib.hid hEQ
  have HFZ := Lib.hid hfz
  have HX := Lib.hid (i8_size x hx)
  have hzz := sds_zero
  have HSS := Lib.hid (sds_size h HLH)
  have HSX := Lib.hid (sds_same zs8 h zs8_length HLH)
  have HSY := Lib.hid (four_size Y hYL)
  have HSZ := Lib.hid (four_size Z hZL)
  have HLH := Lib.hid HLH
  have HGQ := Lib.hid hgt
  have HQN := Lib.hid hqN
  have HYE := Lib.hid hYe
  have HZE := Lib.hid hZe
  have hqI : (q : Int) < 8 := by omega
  have HR : Hid (Row (((w.alloc (.cells (iCells x) 22)).alloc (.cells (iCells y) 29)).alloc (.cells (iCells z) 29)) w.heap.size 22 (iCells x)) := Lib.hid ((Row.alloc (heap_alloc_new _ _) _).alloc _)
  have HRY : Hid (Row (((w.alloc (.cells (iCells x) 22)).alloc (.cells (iCells y) 29)).alloc (.cells (iCells z) 29)) (w.heap.size + 1) 29 (iCells y)) := Lib.hid (Row.alloc (row_new _ _ (by simp) _ _) _)
  have HRZ : Hid (Row (((w.alloc (.cells (iCells x) 22)).alloc (.cells (iCells y) 29)).alloc (.cells (iCells z) 29)) (w.heap.size + 1 + 1) 29 (iCells z)) := Lib.hid (row_new _ _ (by simp) _ _)
  have HB : Hid (Below w.heap.size w (((w.alloc (.cells (iCells x) 22)).alloc (.cells (iCells y) 29)).alloc (.cells (iCells z) 29))) := Lib.hid ((((Below.refl _ _).alloc (Nat.le_refl _) _).alloc (by simp) _).alloc (by simp; omega) _)
  clear hx hy hz HRT hh HA HBu HFa HMa HBD hwb hgq ht hgt hqN hF1 hF2 hM1 hM2 hM3 hBU hGN hEQ hfz hfb hsy hsz hYL hZL hYe hZe hn hL hp2 hP hMY hW HYF hLI
  go_enter Try.func4, Try.ntmps4
  go_wp2_with fail
  generalize ((w.alloc (.cells (iCells x) 22)).alloc (.cells (iCells y) 29)).alloc (.cells (iCells z) 29) = w1 at *
  obtain ⟨g, hg⟩ : ∃ g, w.heap.size = g := ⟨_, rfl⟩
  have HG := Lib.hid fun _ : Unit => hg
  rw [hg] at HR HRY HRZ
  rw [hg]
  clear hg
  refine (HAW.out _).mono ?_
  rintro e w2 ⟨rfl, hb⟩
  have HR := Lib.hid (HR.out.box hb)
  have HRY := Lib.hid (HRY.out.box hb)
  have HRZ := Lib.hid (HRZ.out.box hb)
  have HB := Lib.hid (HB.out.trans (hb.mono HB.out.size))
  clear hb
  go_wp2_with (refine wpList_load_row rfl 22 (.tmp 4) rfl g rfl 22 (iCells x) (0, 0) _ HR.out Try.underlying22 rfl HX.out ?_)
  refine (HH.out _).mono ?_
  rintro e w3 ⟨rfl, hb⟩
  have HRY := Lib.hid (HRY.out.box hb)
  have HRZ := Lib.hid (HRZ.out.box hb)
  have HB := Lib.hid (HB.out.trans (hb.mono HB.out.size))
  clear hb HR
  have HR : Hid (Row (w3.alloc (.cells (iCells zs8) 24)) w3.heap.size 24 (iCells zs8)) := Lib.hid (heap_alloc_new _ _)
  go_upto_region 4 with (refine wpList_store_row rfl 24 (.tmp 9) (.tmp 16) rfl w3.heap.size (iCells h) rfl rfl 24 (iCells zs8) HR.out HSS.out HSX.out (iCells_one _) ?_)
  have HNE := Lib.hid (show g + 1 ≠ w3.heap.size ∧ g + 1 + 1 ≠ w3.heap.size by have := HRZ.out.lt; omega)
  have HGS := Lib.hid (show g + 1 + 1 < w3.heap.size from HRZ.out.lt)
  have HRY := Lib.hid (show Row ((w3.alloc (.cells (iCells zs8) 24)).setRow w3.heap.size (iCells h)) (g + 1) 29 (iCells y) from (setRow_other _ _ _ _ HNE.out.1).trans (Row.alloc HRY.out _))
  have HRZ := Lib.hid (show Row ((w3.alloc (.cells (iCells zs8) 24)).setRow w3.heap.size (iCells h)) (g + 1 + 1) 29 (iCells z) from (setRow_other _ _ _ _ HNE.out.2).trans (Row.alloc HRZ.out _))
  have HB := Lib.hid (below_setRow (HB.out.alloc HB.out.size (.cells (iCells zs8) 24)) HB.out.size (iCells h))
  have HR := Lib.hid (Row.setRow HR.out (iCells h))
  generalize (w3.alloc (.cells (iCells zs8) 24)).setRow w3.heap.size (iCells h) = w5 at *
  obtain ⟨ga, hga⟩ : ∃ ga, w3.heap.size = ga := ⟨_, rfl⟩
  rw [hga] at HR HGS HNE ⊢
  clear hga hzz
  go_wp2_with fail
  go_loopw [10] (fun ii wr => ∃ (i : Nat), i ≤ 4 ∧ ii = .int .i64 (i : Int) ∧ Row wr ga 24 (iCells h) ∧ Row wr (g + 1) 29 (iCells (md17 y i)) ∧ Row wr (g + 1 + 1) 29 (iCells (md17 z i)) ∧ Below w.heap.size w wr) (fun ii _ => 4 - (intOf ii).toNat)
  case atStart => exact ⟨0, by omega, rfl, HR.out, by rw [HY0.out]; exact HRY.out, by rw [HZ0.out]; exact HRZ.out, HB.out⟩
  case round =>
    clear HR HRY HRZ HB
    obtain ⟨i, hi, rfl, hr, hry, hrz, hb⟩ := hrel
    have HR := Lib.hid hr
    have HRY := Lib.hid hry
    have HRZ := Lib.hid hrz
    have HB := Lib.hid hb
    rcases Nat.lt_or_ge i 4 with hlt | hge
    · have hiI : (i : Int) < 4 := by omega
      have HI := Lib.hid hlt
      have c0 := i_at hry i (by rw [md17_len]; exact hlt)
      rw [md17_get _ _ _ hlt, if_neg (by omega)] at c0
      have f0 := hry.free i
      have HROW := Lib.hid (show Row (wr.setCell ⟨g + 1, i, none⟩ (.int .i64 ((y.getD i 0).tmod 13))) (g + 1) 29 (iCells (md17 y (i + 1))) by
        have h := hry.set i (.int .i64 ((y.getD i 0).tmod 13))
        rw [iCells_set, HYS.out i hlt] at h
        exact h)
      have hwv := tmod17 (y.getD i 0)
      obtain ⟨v, hv⟩ : ∃ v, y.getD i 0 = v := ⟨_, rfl⟩
      rw [hv] at c0 HROW hwv
      have ewv : IntKind.i64.wrap (v.tmod 13) = v.tmod 13 := by rw [IntKind.wrap_i64]; omega
      clear hi hlt hr hry hrz hb hv hwv
      go_upto_region 8 with fail
      have HRR := Lib.hid (HR.out.far (p := ⟨g + 1, i, none⟩) (by have := HGS.out; simp only; omega) (.int .i64 (v.tmod 13)))
      have HRZ2 := Lib.hid (HRZ.out.far (p := ⟨g + 1, i, none⟩) (by simp only; omega) (.int .i64 (v.tmod 13)))
      have HBB := Lib.hid (Below.setCell HB.out (p := ⟨g + 1, i, none⟩) (by have := HG.out (); simp only; omega) (.int .i64 (v.tmod 13)))
      clear c0 f0 ewv HR HRY HRZ HB
      generalize wr.setCell ⟨g + 1, i, none⟩ (.int .i64 (v.tmod 13)) = wq at *
      have c0 := i_at HRZ2.out i (by rw [md17_len]; exact HI.out)
      rw [md17_get _ _ _ HI.out, if_neg (by omega)] at c0
      have f0 := HRZ2.out.free i
      have HROZ := Lib.hid (show Row (wq.setCell ⟨g + 1 + 1, i, none⟩ (.int .i64 ((z.getD i 0).tmod 13))) (g + 1 + 1) 29 (iCells (md17 z (i + 1))) by
        have h := HRZ2.out.set i (.int .i64 ((z.getD i 0).tmod 13))
        rw [iCells_set, HZS.out i HI.out] at h
        exact h)
      have hwv := tmod17 (z.getD i 0)
      obtain ⟨u, hu⟩ : ∃ v, z.getD i 0 = v := ⟨_, rfl⟩
      rw [hu] at c0 HROZ hwv
      have ewv : IntKind.i64.wrap (u.tmod 13) = u.tmod 13 := by rw [IntKind.wrap_i64]; omega
      clear hu hwv
      go_wp2_with fail
      go_roundw
      case rel => exact ⟨i + 1, HI.out, by go_num, HRR.out.far (p := ⟨g + 1 + 1, i, none⟩) (by have := HGS.out; simp only; omega) _, HROW.out.far (p := ⟨g + 1 + 1, i, none⟩) (by simp only; omega) _, HROZ.out, Below.setCell HBB.out (p := ⟨g + 1 + 1, i, none⟩) (by have := HG.out (); simp only; omega) _⟩
      case measure =>
        have := HI.out
        simp [intOf] <;> omega
    · obtain rfl : i = 4 := by omega
      rw [HYE.out] at hry
      rw [HZE.out] at hrz
      have HRY := Lib.hid hry
      have HRZ := Lib.hid hrz
      clear hi hge hr hry hrz hb
      go_upto_region 10 with fail
      rw [hq]
      clear hq ha1 ha2
      go_wp2_with (first
        | (refine wpList_load_row rfl 29 (.tmp 6) rfl (g + 1) rfl 29 (iCells Y) (0, 0) _ HRY.out Try.underlying29 rfl HSY.out ?_)
        | (refine wpList_load_row rfl 29 (.tmp 7) rfl (g + 1 + 1) rfl 29 (iCells Z) (0, 0) _ HRZ.out Try.underlying29 rfl HSZ.out ?_))
      refine (HF1.out _).mono ?_
      rintro e w6 ⟨rfl, hb⟩
      have HR := Lib.hid (HR.out.box hb)
      have HRY := Lib.hid (HRY.out.box hb)
      have HRZ := Lib.hid (HRZ.out.box hb)
      have HB := Lib.hid (HB.out.trans (hb.mono HB.out.size))
      clear hb
      go_upto_region 11 with fail
      have CR : Hid (∀ W : World, (∃ p : Regrown, W = Sort.grow (redrawn w6 p.d) p.os) → W.heap[ga]? = some (.cells (iCells h) 24 (0, 0))) := by
        rintro W ⟨p, rfl⟩
        exact HR.out.below (below_regrown w6 p.d p.os) HR.out.lt
      have CY : Hid (∀ W : World, (∃ p : Regrown, W = Sort.grow (redrawn w6 p.d) p.os) → W.heap[g + 1]? = some (.cells (iCells Y) 29 (0, 0))) := by
        rintro W ⟨p, rfl⟩
        exact HRY.out.below (below_regrown w6 p.d p.os) HRY.out.lt
      have CZ : Hid (∀ W : World, (∃ p : Regrown, W = Sort.grow (redrawn w6 p.d) p.os) → W.heap[g + 1 + 1]? = some (.cells (iCells Z) 29 (0, 0))) := by
        rintro W ⟨p, rfl⟩
        exact HRZ.out.below (below_regrown w6 p.d p.os) HRZ.out.lt
      have K2 : Hid (∀ d os, Calls Try.prog 12 #[.agg (iCells Z), .agg (iCells Y)] (Sort.grow (redrawn w6 d) os) fun e w'' => e = .returned (.int .i64 (n : Int)) ∧ ∃ p : Regrown, w'' = Sort.grow (redrawn w6 p.d) p.os) :=
        Lib.hid fun d os => Calls.regrown_of (HF2.out _)
      have K3 : Hid (∀ d os, Calls Try.prog 13 #[.agg (iCells h), .int .i64 (q : Int), .agg (iCells Y), .agg (iCells Z)] (Sort.grow (redrawn w6 d) os) fun e w'' => e = .returned (.bool (decide (L ≤ W))) ∧ ∃ p : Regrown, w'' = Sort.grow (redrawn w6 p.d) p.os) :=
        Lib.hid fun d os => Calls.regrown_of (HM1.out _)
      have K4 : Hid (∀ d os, Calls Try.prog 13 #[.agg (iCells h), .int .i64 (q : Int), .agg (iCells Z), .agg (iCells Y)] (Sort.grow (redrawn w6 d) os) fun e w'' => e = .returned (.bool (decide (L ≤ W))) ∧ ∃ p : Regrown, w'' = Sort.grow (redrawn w6 p.d) p.os) :=
        Lib.hid fun d os => Calls.regrown_of (HM2.out _)
      have K5 : Hid (∀ d os, Calls Try.prog 13 #[.agg (iCells h), .int .i64 (q : Int), .agg (iCells Y), .agg (iCells Y)] (Sort.grow (redrawn w6 d) os) fun e w'' => e = .returned (.bool true) ∧ ∃ p : Regrown, w'' = Sort.grow (redrawn w6 p.d) p.os) :=
        Lib.hid fun d os => Calls.regrown_of (HM3.out _)
      have K6 : Hid (∀ d os, Calls Try.prog 10 #[.int .i64 (t : Int)] (Sort.grow (redrawn w6 d) os) fun e w'' => e = .returned (.int .i64 P) ∧ ∃ p : Regrown, w'' = Sort.grow (redrawn w6 p.d) p.os) :=
        Lib.hid fun d os => Calls.regrown_of (HGN.out _)
      have K7 : Hid (∀ d os, Calls Try.prog 9 #[.agg (iCells h), .int .i64 (q : Int)] (Sort.grow (redrawn w6 d) os) fun e w'' => e = .returned (.int .i64 (W : Int)) ∧ ∃ p : Regrown, w'' = Sort.grow (redrawn w6 p.d) p.os) :=
        Lib.hid fun d os => Calls.regrown_of (HBU.out _)
      have c0 := cell_regrown (i_at HR.out q (by rw [HLH.out]; exact HQN.out))
      rw [HGQ.out] at c0
      have hEQ := HEQ.out
      have hFZ := HFZ.out
      have k0 : ∀ b : Bool, (b == b) = true := beq_self_eq_true
      have k1 : ((n : Int) == (n : Int)) = true := beq_self_eq_true _
      have k2 : (decide (L ≤ W) == decide (L ≤ W)) = true := beq_self_eq_true _
      by_cases hn : n = 0
      · have e : Y = Z := hFZ.1 hn
        have e2 : (Y == Z) = true := beq_iff_eq.2 e
        rw [e2] at hEQ
        have k3 : ((n : Int) == 0) = true := by rw [beq_iff_eq]; omega
        have k4 : (n == 0) = true := by rw [beq_iff_eq]; exact hn
        clear hFZ e e2 hn
        go_wp2_with fail
        refine wp_region_quiet_below (by kernel_rfl) (by kernel_rfl) ?_
        repeat (first
          | (go_big_quiet_want; refine q_load_row 24 (.tmp 9) rfl ga rfl 24 (iCells h) (0, 0) _ CR.out Try.underlying24 rfl HSS.out ?_; go_big_quiet_on; simp only [Act.put, List.setIfInBounds_toArray, List.set_cons_zero, List.set_cons_succ])
          | (go_big_quiet_want; refine q_load_row 29 (.tmp 6) rfl (g + 1) rfl 29 (iCells Y) (0, 0) _ CY.out Try.underlying29 rfl HSY.out ?_; go_big_quiet_on; simp only [Act.put, List.setIfInBounds_toArray, List.set_cons_zero, List.set_cons_succ])
          | (go_big_quiet_want; refine q_load_row 29 (.tmp 7) rfl (g + 1 + 1) rfl 29 (iCells Z) (0, 0) _ CZ.out Try.underlying29 rfl HSZ.out ?_; go_big_quiet_on; simp only [Act.put, List.setIfInBounds_toArray, List.set_cons_zero, List.set_cons_succ])
          | go_big_quiet_step (fail))
        go_big_quiet_step ((go_at_call 12; exact K2.out _ _))
        repeat (first
          | (go_big_quiet_want; refine q_load_row 24 (.tmp 9) rfl ga rfl 24 (iCells h) (0, 0) _ CR.out Try.underlying24 rfl HSS.out ?_; go_big_quiet_on; simp only [Act.put, List.setIfInBounds_toArray, List.set_cons_zero, List.set_cons_succ])
          | (go_big_quiet_want; refine q_load_row 29 (.tmp 6) rfl (g + 1) rfl 29 (iCells Y) (0, 0) _ CY.out Try.underlying29 rfl HSY.out ?_; go_big_quiet_on; simp only [Act.put, List.setIfInBounds_toArray, List.set_cons_zero, List.set_cons_succ])
          | (go_big_quiet_want; refine q_load_row 29 (.tmp 7) rfl (g + 1 + 1) rfl 29 (iCells Z) (0, 0) _ CZ.out Try.underlying29 rfl HSZ.out ?_; go_big_quiet_on; simp only [Act.put, List.setIfInBounds_toArray, List.set_cons_zero, List.set_cons_succ])
          | go_big_quiet_step (fail))
        go_big_quiet_step ((go_at_call 13; exact K3.out _ _))
        repeat (first
          | (go_big_quiet_want; refine q_load_row 24 (.tmp 9) rfl ga rfl 24 (iCells h) (0, 0) _ CR.out Try.underlying24 rfl HSS.out ?_; go_big_quiet_on; simp only [Act.put, List.setIfInBounds_toArray, List.set_cons_zero, List.set_cons_succ])
          | (go_big_quiet_want; refine q_load_row 29 (.tmp 6) rfl (g + 1) rfl 29 (iCells Y) (0, 0) _ CY.out Try.underlying29 rfl HSY.out ?_; go_big_quiet_on; simp only [Act.put, List.setIfInBounds_toArray, List.set_cons_zero, List.set_cons_succ])
          | (go_big_quiet_want; refine q_load_row 29 (.tmp 7) rfl (g + 1 + 1) rfl 29 (iCells Z) (0, 0) _ CZ.out Try.underlying29 rfl HSZ.out ?_; go_big_quiet_on; simp only [Act.put, List.setIfInBounds_toArray, List.set_cons_zero, List.set_cons_succ])
          | go_big_quiet_step (fail))
        go_big_quiet_step ((go_at_call 13; exact K4.out _ _))
        repeat (first
          | (go_big_quiet_want; refine q_load_row 24 (.tmp 9) rfl ga rfl 24 (iCells h) (0, 0) _ CR.out Try.underlying24 rfl HSS.out ?_; go_big_quiet_on; simp only [Act.put, List.setIfInBounds_toArray, List.set_cons_zero, List.set_cons_succ])
          | (go_big_quiet_want; refine q_load_row 29 (.tmp 6) rfl (g + 1) rfl 29 (iCells Y) (0, 0) _ CY.out Try.underlying29 rfl HSY.out ?_; go_big_quiet_on; simp only [Act.put, List.setIfInBounds_toArray, List.set_cons_zero, List.set_cons_succ])
          | (go_big_quiet_want; refine q_load_row 29 (.tmp 7) rfl (g + 1 + 1) rfl 29 (iCells Z) (0, 0) _ CZ.out Try.underlying29 rfl HSZ.out ?_; go_big_quiet_on; simp only [Act.put, List.setIfInBounds_toArray, List.set_cons_zero, List.set_cons_succ])
          | go_big_quiet_step (fail))
        go_big_quiet_step ((go_at_call 13; exact K5.out _ _))
        repeat (first
          | (go_big_quiet_want; refine q_load_row 24 (.tmp 9) rfl ga rfl 24 (iCells h) (0, 0) _ CR.out Try.underlying24 rfl HSS.out ?_; go_big_quiet_on; simp only [Act.put, List.setIfInBounds_toArray, List.set_cons_zero, List.set_cons_succ])
          | (go_big_quiet_want; refine q_load_row 29 (.tmp 6) rfl (g + 1) rfl 29 (iCells Y) (0, 0) _ CY.out Try.underlying29 rfl HSY.out ?_; go_big_quiet_on; simp only [Act.put, List.setIfInBounds_toArray, List.set_cons_zero, List.set_cons_succ])
          | (go_big_quiet_want; refine q_load_row 29 (.tmp 7) rfl (g + 1 + 1) rfl 29 (iCells Z) (0, 0) _ CZ.out Try.underlying29 rfl HSZ.out ?_; go_big_quiet_on; simp only [Act.put, List.setIfInBounds_toArray, List.set_cons_zero, List.set_cons_succ])
          | go_big_quiet_step (fail))
        go_big_quiet_step ((go_at_call 13; exact K3.out _ _))
        repeat (first
          | (go_big_quiet_want; refine q_load_row 24 (.tmp 9) rfl ga rfl 24 (iCells h) (0, 0) _ CR.out Try.underlying24 rfl HSS.out ?_; go_big_quiet_on; simp only [Act.put, List.setIfInBounds_toArray, List.set_cons_zero, List.set_cons_succ])
          | (go_big_quiet_want; refine q_load_row 29 (.tmp 6) rfl (g + 1) rfl 29 (iCells Y) (0, 0) _ CY.out Try.underlying29 rfl HSY.out ?_; go_big_quiet_on; simp only [Act.put, List.setIfInBounds_toArray, List.set_cons_zero, List.set_cons_succ])
          | (go_big_quiet_want; refine q_load_row 29 (.tmp 7) rfl (g + 1 + 1) rfl 29 (iCells Z) (0, 0) _ CZ.out Try.underlying29 rfl HSZ.out ?_; go_big_quiet_on; simp only [Act.put, List.setIfInBounds_toArray, List.set_cons_zero, List.set_cons_succ])
          | go_big_quiet_step (fail))
        go_big_quiet_step ((go_at_call 10; exact K6.out _ _))
        repeat (first
          | (go_big_quiet_want; refine q_load_row 24 (.tmp 9) rfl ga rfl 24 (iCells h) (0, 0) _ CR.out Try.underlying24 rfl HSS.out ?_; go_big_quiet_on; simp only [Act.put, List.setIfInBounds_toArray, List.set_cons_zero, List.set_cons_succ])
          | (go_big_quiet_want; refine q_load_row 29 (.tmp 6) rfl (g + 1) rfl 29 (iCells Y) (0, 0) _ CY.out Try.underlying29 rfl HSY.out ?_; go_big_quiet_on; simp only [Act.put, List.setIfInBounds_toArray, List.set_cons_zero, List.set_cons_succ])
          | (go_big_quiet_want; refine q_load_row 29 (.tmp 7) rfl (g + 1 + 1) rfl 29 (iCells Z) (0, 0) _ CZ.out Try.underlying29 rfl HSZ.out ?_; go_big_quiet_on; simp only [Act.put, List.setIfInBounds_toArray, List.set_cons_zero, List.set_cons_succ])
          | go_big_quiet_step (fail))
        go_big_quiet_step ((go_at_call 9; exact K7.out _ _))
        repeat (first
          | (go_big_quiet_want; refine q_load_row 24 (.tmp 9) rfl ga rfl 24 (iCells h) (0, 0) _ CR.out Try.underlying24 rfl HSS.out ?_; go_big_quiet_on; simp only [Act.put, List.setIfInBounds_toArray, List.set_cons_zero, List.set_cons_succ])
          | (go_big_quiet_want; refine q_load_row 29 (.tmp 6) rfl (g + 1) rfl 29 (iCells Y) (0, 0) _ CY.out Try.underlying29 rfl HSY.out ?_; go_big_quiet_on; simp only [Act.put, List.setIfInBounds_toArray, List.set_cons_zero, List.set_cons_succ])
          | (go_big_quiet_want; refine q_load_row 29 (.tmp 7) rfl (g + 1 + 1) rfl 29 (iCells Z) (0, 0) _ CZ.out Try.underlying29 rfl HSZ.out ?_; go_big_quiet_on; simp only [Act.put, List.setIfInBounds_toArray, List.set_cons_zero, List.set_cons_succ])
          | go_big_quiet_step (fail))
        refine wpQuiet_nil ?_
        intro _ hw'
        obtain ⟨⟨dq, osq⟩, hw''⟩ := hw'
        subst hw''
        have hbx := below_regrown w6 dq osq
        have HBX := Lib.hid (HB.out.trans (hbx.mono HB.out.size))
        clear K2 K3 K4 K5 K6 K7 CR CY CZ hbx c0 hEQ
        generalize Sort.grow (redrawn w6 dq) osq = w7 at *
        go_wp2_with fail
        go_ret
        exact ⟨rfl, HBX.out⟩
      · have e : Y ≠ Z := fun e => hn (hFZ.2 e)
        have e2 : (Y == Z) = false := beq_eq_false_iff_ne.2 e
        rw [e2] at hEQ
        have k3 : ((n : Int) == 0) = false := by rw [beq_eq_false_iff_ne]; omega
        have k4 : (n == 0) = false := by rw [beq_eq_false_iff_ne]; exact hn
        clear hFZ e e2
        go_wp2_with fail
        refine wp_region_quiet_below (by kernel_rfl) (by kernel_rfl) ?_
        repeat (first
          | (go_big_quiet_want; refine q_load_row 24 (.tmp 9) rfl ga rfl 24 (iCells h) (0, 0) _ CR.out Try.underlying24 rfl HSS.out ?_; go_big_quiet_on; simp only [Act.put, List.setIfInBounds_toArray, List.set_cons_zero, List.set_cons_succ])
          | (go_big_quiet_want; refine q_load_row 29 (.tmp 6) rfl (g + 1) rfl 29 (iCells Y) (0, 0) _ CY.out Try.underlying29 rfl HSY.out ?_; go_big_quiet_on; simp only [Act.put, List.setIfInBounds_toArray, List.set_cons_zero, List.set_cons_succ])
          | (go_big_quiet_want; refine q_load_row 29 (.tmp 7) rfl (g + 1 + 1) rfl 29 (iCells Z) (0, 0) _ CZ.out Try.underlying29 rfl HSZ.out ?_; go_big_quiet_on; simp only [Act.put, List.setIfInBounds_toArray, List.set_cons_zero, List.set_cons_succ])
          | go_big_quiet_step (fail))
        go_big_quiet_step ((go_at_call 12; exact K2.out _ _))
        repeat (first
          | (go_big_quiet_want; refine q_load_row 24 (.tmp 9) rfl ga rfl 24 (iCells h) (0, 0) _ CR.out Try.underlying24 rfl HSS.out ?_; go_big_quiet_on; simp only [Act.put, List.setIfInBounds_toArray, List.set_cons_zero, List.set_cons_succ])
          | (go_big_quiet_want; refine q_load_row 29 (.tmp 6) rfl (g + 1) rfl 29 (iCells Y) (0, 0) _ CY.out Try.underlying29 rfl HSY.out ?_; go_big_quiet_on; simp only [Act.put, List.setIfInBounds_toArray, List.set_cons_zero, List.set_cons_succ])
          | (go_big_quiet_want; refine q_load_row 29 (.tmp 7) rfl (g + 1 + 1) rfl 29 (iCells Z) (0, 0) _ CZ.out Try.underlying29 rfl HSZ.out ?_; go_big_quiet_on; simp only [Act.put, List.setIfInBounds_toArray, List.set_cons_zero, List.set_cons_succ])
          | go_big_quiet_step (fail))
        go_big_quiet_step ((go_at_call 13; exact K3.out _ _))
        repeat (first
          | (go_big_quiet_want; refine q_load_row 24 (.tmp 9) rfl ga rfl 24 (iCells h) (0, 0) _ CR.out Try.underlying24 rfl HSS.out ?_; go_big_quiet_on; simp only [Act.put, List.setIfInBounds_toArray, List.set_cons_zero, List.set_cons_succ])
          | (go_big_quiet_want; refine q_load_row 29 (.tmp 6) rfl (g + 1) rfl 29 (iCells Y) (0, 0) _ CY.out Try.underlying29 rfl HSY.out ?_; go_big_quiet_on; simp only [Act.put, List.setIfInBounds_toArray, List.set_cons_zero, List.set_cons_succ])
          | (go_big_quiet_want; refine q_load_row 29 (.tmp 7) rfl (g + 1 + 1) rfl 29 (iCells Z) (0, 0) _ CZ.out Try.underlying29 rfl HSZ.out ?_; go_big_quiet_on; simp only [Act.put, List.setIfInBounds_toArray, List.set_cons_zero, List.set_cons_succ])
          | go_big_quiet_step (fail))
        go_big_quiet_step ((go_at_call 13; exact K4.out _ _))
        repeat (first
          | (go_big_quiet_want; refine q_load_row 24 (.tmp 9) rfl ga rfl 24 (iCells h) (0, 0) _ CR.out Try.underlying24 rfl HSS.out ?_; go_big_quiet_on; simp only [Act.put, List.setIfInBounds_toArray, List.set_cons_zero, List.set_cons_succ])
          | (go_big_quiet_want; refine q_load_row 29 (.tmp 6) rfl (g + 1) rfl 29 (iCells Y) (0, 0) _ CY.out Try.underlying29 rfl HSY.out ?_; go_big_quiet_on; simp only [Act.put, List.setIfInBounds_toArray, List.set_cons_zero, List.set_cons_succ])
          | (go_big_quiet_want; refine q_load_row 29 (.tmp 7) rfl (g + 1 + 1) rfl 29 (iCells Z) (0, 0) _ CZ.out Try.underlying29 rfl HSZ.out ?_; go_big_quiet_on; simp only [Act.put, List.setIfInBounds_toArray, List.set_cons_zero, List.set_cons_succ])
          | go_big_quiet_step (fail))
        go_big_quiet_step ((go_at_call 13; exact K5.out _ _))
        repeat (first
          | (go_big_quiet_want; refine q_load_row 24 (.tmp 9) rfl ga rfl 24 (iCells h) (0, 0) _ CR.out Try.underlying24 rfl HSS.out ?_; go_big_quiet_on; simp only [Act.put, List.setIfInBounds_toArray, List.set_cons_zero, List.set_cons_succ])
          | (go_big_quiet_want; refine q_load_row 29 (.tmp 6) rfl (g + 1) rfl 29 (iCells Y) (0, 0) _ CY.out Try.underlying29 rfl HSY.out ?_; go_big_quiet_on; simp only [Act.put, List.setIfInBounds_toArray, List.set_cons_zero, List.set_cons_succ])
          | (go_big_quiet_want; refine q_load_row 29 (.tmp 7) rfl (g + 1 + 1) rfl 29 (iCells Z) (0, 0) _ CZ.out Try.underlying29 rfl HSZ.out ?_; go_big_quiet_on; simp only [Act.put, List.setIfInBounds_toArray, List.set_cons_zero, List.set_cons_succ])
          | go_big_quiet_step (fail))
        go_big_quiet_step ((go_at_call 13; exact K3.out _ _))
        repeat (first
          | (go_big_quiet_want; refine q_load_row 24 (.tmp 9) rfl ga rfl 24 (iCells h) (0, 0) _ CR.out Try.underlying24 rfl HSS.out ?_; go_big_quiet_on; simp only [Act.put, List.setIfInBounds_toArray, List.set_cons_zero, List.set_cons_succ])
          | (go_big_quiet_want; refine q_load_row 29 (.tmp 6) rfl (g + 1) rfl 29 (iCells Y) (0, 0) _ CY.out Try.underlying29 rfl HSY.out ?_; go_big_quiet_on; simp only [Act.put, List.setIfInBounds_toArray, List.set_cons_zero, List.set_cons_succ])
          | (go_big_quiet_want; refine q_load_row 29 (.tmp 7) rfl (g + 1 + 1) rfl 29 (iCells Z) (0, 0) _ CZ.out Try.underlying29 rfl HSZ.out ?_; go_big_quiet_on; simp only [Act.put, List.setIfInBounds_toArray, List.set_cons_zero, List.set_cons_succ])
          | go_big_quiet_step (fail))
        go_big_quiet_step ((go_at_call 10; exact K6.out _ _))
        repeat (first
          | (go_big_quiet_want; refine q_load_row 24 (.tmp 9) rfl ga rfl 24 (iCells h) (0, 0) _ CR.out Try.underlying24 rfl HSS.out ?_; go_big_quiet_on; simp only [Act.put, List.setIfInBounds_toArray, List.set_cons_zero, List.set_cons_succ])
          | (go_big_quiet_want; refine q_load_row 29 (.tmp 6) rfl (g + 1) rfl 29 (iCells Y) (0, 0) _ CY.out Try.underlying29 rfl HSY.out ?_; go_big_quiet_on; simp only [Act.put, List.setIfInBounds_toArray, List.set_cons_zero, List.set_cons_succ])
          | (go_big_quiet_want; refine q_load_row 29 (.tmp 7) rfl (g + 1 + 1) rfl 29 (iCells Z) (0, 0) _ CZ.out Try.underlying29 rfl HSZ.out ?_; go_big_quiet_on; simp only [Act.put, List.setIfInBounds_toArray, List.set_cons_zero, List.set_cons_succ])
          | go_big_quiet_step (fail))
        go_big_quiet_step ((go_at_call 9; exact K7.out _ _))
        repeat (first
          | (go_big_quiet_want; refine q_load_row 24 (.tmp 9) rfl ga rfl 24 (iCells h) (0, 0) _ CR.out Try.underlying24 rfl HSS.out ?_; go_big_quiet_on; simp only [Act.put, List.setIfInBounds_toArray, List.set_cons_zero, List.set_cons_succ])
          | (go_big_quiet_want; refine q_load_row 29 (.tmp 6) rfl (g + 1) rfl 29 (iCells Y) (0, 0) _ CY.out Try.underlying29 rfl HSY.out ?_; go_big_quiet_on; simp only [Act.put, List.setIfInBounds_toArray, List.set_cons_zero, List.set_cons_succ])
          | (go_big_quiet_want; refine q_load_row 29 (.tmp 7) rfl (g + 1 + 1) rfl 29 (iCells Z) (0, 0) _ CZ.out Try.underlying29 rfl HSZ.out ?_; go_big_quiet_on; simp only [Act.put, List.setIfInBounds_toArray, List.set_cons_zero, List.set_cons_succ])
          | go_big_quiet_step (fail))
        refine wpQuiet_nil ?_
        intro _ hw'
        obtain ⟨⟨dq, osq⟩, hw''⟩ := hw'
        subst hw''
        have hbx := below_regrown w6 dq osq
        have HBX := Lib.hid (HB.out.trans (hbx.mono HB.out.size))
        clear K2 K3 K4 K5 K6 K7 CR CY CZ hbx c0 hEQ
        generalize Sort.grow (redrawn w6 dq) osq = w7 at *
        go_wp2_with fail
        go_ret
        exact ⟨rfl, HBX.out⟩
end Go.Proofs.Ytfpmdbdgikphdaa
