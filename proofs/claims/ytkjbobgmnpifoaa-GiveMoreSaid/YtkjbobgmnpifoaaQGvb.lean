/-
  GiveFits, walked. Conditions: eight ints, a number below 2^16; what give's Pulses and Cost, and pvq's Bits, answer.
-/
import Derived.Test.YtkjbobgmnpifoaaQGva
import Derived.Lib.QuietBelow
import Derived.BigQuiet
import Derived.Deep.RegionHeld3
import Derived.OrdersHeld
namespace Go.Proofs.Ytkjbobgmnpifoaa
open Go.RowKit
open M
/-- What Pulses answers of held steps and bits to 2^20. -/
theorem pu18_in (x : List Int) (n : Nat) (hn : n ≤ 1048576) : puI (hd17 x 8) (n : Int) = kl18 (giv (fun b => (hd17 x 8).getD b 0) n) ∧ puE (hd17 x 8) (n : Int) = 0 := by
  have h : ok18 (hd17 x 8) (n : Int) := ⟨hd17_right x, by omega, by omega⟩
  unfold puI puE
  rw [if_pos h, if_pos h, Int.toNat_natCast]
  exact ⟨rfl, rfl⟩
theorem cst8_bd (k : Nat → Nat) : cst8 k ≤ 104 := by
  have h := fun b => btc_bd (k b)
  have h0 := h 0
  have h1 := h 1
  have h2 := h 2
  have h3 := h 3
  have h4 := h 4
  have h5 := h 5
  have h6 := h 6
  have h7 := h 7
  show btc (k 0) + btc (k 1) + btc (k 2) + btc (k 3) + btc (k 4) + btc (k 5) + btc (k 6) + btc (k 7) ≤ 104
  omega
set_option maxRecDepth 100000 in
set_option maxHeartbeats 1000000 in
theorem fits18_law (HP : PulOk) (HC : CosOk) (HV : BvOk) (x : List Int) (n : Int) (w : World) (hx : x.length = 8) (hn0 : 0 ≤ n) (hn1 : n ≤ 65535) :
    Calls Try.prog 3 #[.agg (iCells x), .int .u16 n] w fun e w' => e = .returned (.bool true) ∧ Below w.heap.size w w' := by
  obtain ⟨q, hq⟩ : ∃ m : Nat, n.tmod 1000 = m := ⟨(n.tmod 1000).toNat, by have := Int.tmod_nonneg 1000 hn0; omega⟩
  have hq9 : q ≤ 999 := by have := Int.tmod_lt_of_pos n (show (0 : Int) < 1000 by decide); omega
  obtain ⟨hp1, hp2⟩ := pu18_in x q (by omega)
  obtain ⟨hall1, hall2, hall3⟩ := giv_all (fun b => (hd17 x 8).getD b 0) q
  have HPU := Lib.hid fun w => HP (hd17 x 8) (q : Int) w (hd17_len x 8)
  rw [hp1, hp2] at HPU
  have HLH := hd17_len x 8
  obtain ⟨h, hh⟩ : ∃ h, hd17 x 8 = h := ⟨_, rfl⟩
  have HH := Lib.hid fun w => held18_any x w hx
  rw [hh] at HPU HH HLH hall1 hall2 hall3
  obtain ⟨k, hk⟩ : ∃ k, giv (fun b => h.getD b 0) q = k := ⟨_, rfl⟩
  rw [hk] at HPU hall1 hall2 hall3
  have HCO := Lib.hid fun w => HC k w hall1
  obtain ⟨c, hc⟩ : ∃ c, cst8 k = c := ⟨_, rfl⟩
  rw [hc] at HCO hall2 hall3
  have HAW := Lib.hid fun w => awake18_any HP w
  have HX := Lib.hid (i8_size x hx)
  have HSH := Lib.hid (sds_size h HLH)
  have HKL := Lib.hid (kl18_len k)
  have HKA := Lib.hid (kl18_at k)
  have HA1 := Lib.hid hall1
  have HA3 := Lib.hid hall3
  obtain ⟨K, hK⟩ : ∃ K, kl18 k = K := ⟨_, rfl⟩
  rw [hK] at HPU HCO HKL HKA
  have HKS := Lib.hid (i8_size K HKL.out)
  have HKX := Lib.hid (sds_same zs8 K zs8_length HKL.out)
  have hz := i8_zero
  have hcI : (c : Int) ≤ (q : Int) := by omega
  have hcN : ¬ (c : Int) > (q : Int) := by omega
  have hqI : (q : Int) ≤ 999 := by omega
  have hcD : decide ((q : Int) < (c : Int)) = false := decide_eq_false (by omega)
  have hcE : decide (q < c) = false := decide_eq_false (by omega)
  have HV := Lib.hid HV
  have HR : Hid (Row (w.alloc (.cells (iCells x) 22)) w.heap.size 22 (iCells x)) := Lib.hid (heap_alloc_new _ _)
  have HB : Hid (Below w.heap.size w (w.alloc (.cells (iCells x) 22))) := Lib.hid ((Below.refl _ _).alloc (Nat.le_refl _) _)
  clear hx hp1 hp2 hall1 hall2 hall3 hh hk hc hK HP HC HLH
  go_enter Try.func3, Try.ntmps3
  go_wp2_with fail
  generalize w.alloc (.cells (iCells x) 22) = w1 at *
  refine (HAW.out _).mono ?_
  rintro e w2 ⟨rfl, hb⟩
  have HR := Lib.hid (HR.out.box hb)
  have HB := Lib.hid (HB.out.trans (hb.mono HB.out.size))
  clear hb
  go_wp2_with (refine wpList_load_row rfl 22 (.tmp 2) rfl w.heap.size rfl 22 (iCells x) (0, 0) _ HR.out Try.underlying22 rfl HX.out ?_)
  refine (HH.out _).mono ?_
  rintro e w3 ⟨rfl, hb⟩
  have HB := Lib.hid (HB.out.trans (hb.mono HB.out.size))
  clear hb HR
  go_wp2_with fail
  refine (HPU.out _).mono ?_
  rintro e w4 ⟨rfl, hb⟩
  have HB := Lib.hid (HB.out.trans (hb.mono HB.out.size))
  clear hb
  have HR : Hid (Row (w4.alloc (.cells (iCells zs8) 22)) w4.heap.size 22 (iCells zs8)) := Lib.hid (heap_alloc_new _ _)
  go_upto_region 5 with (refine wpList_store_row rfl 22 (.tmp 6) (.tmp 20) rfl w4.heap.size (iCells K) rfl rfl 22 (iCells zs8) HR.out HKS.out HKX.out (iCells_one _) ?_)
  have HGS := Lib.hid HB.out.size
  have HB := Lib.hid (below_setRow (HB.out.alloc HB.out.size (.cells (iCells zs8) 22)) HB.out.size (iCells K))
  have HR := Lib.hid (Row.setRow HR.out (iCells K))
  generalize (w4.alloc (.cells (iCells zs8) 22)).setRow w4.heap.size (iCells K) = w5 at *
  obtain ⟨g, hg⟩ : ∃ g, w4.heap.size = g := ⟨_, rfl⟩
  rw [hg] at HR HGS ⊢
  clear hg hz
  go_wp2_with (refine wpList_load_row rfl 22 (.tmp 6) rfl g rfl 22 (iCells K) (0, 0) _ HR.out Try.underlying22 rfl HKS.out ?_)
  refine (HCO.out _).mono ?_
  rintro e w6 ⟨rfl, hb⟩
  have HR := Lib.hid (HR.out.box hb)
  have HB := Lib.hid (HB.out.trans (hb.mono HB.out.size))
  clear hb
  go_wp2_with fail
  go_loopw [9] (fun ii wr => ∃ (b : Nat), b ≤ 8 ∧ ii = .int .i64 (b : Int) ∧ Row wr g 22 (iCells K) ∧ Below w.heap.size w wr) (fun ii _ => 8 - (intOf ii).toNat)
  case atStart => exact ⟨0, by omega, rfl, HR.out, HB.out⟩
  case round =>
    clear HR HB
    obtain ⟨b, hb8, rfl, hr, hb⟩ := hrel
    have HR := Lib.hid hr
    have HB := Lib.hid hb
    clear hr hb
    rcases Nat.lt_or_ge b 8 with hlt | hge
    · have HBL := Lib.hid hlt
      have hbI : (b : Int) < 8 := by omega
      have hk12 := HA1.out b hlt
      have hk3 := HA3.out b hlt
      have hka := HKA.out b hlt
      obtain ⟨v, hv⟩ : ∃ v, k b = v := ⟨_, rfl⟩
      rw [hv] at hk12 hk3 hka
      have c0 := cell_regrown (i_at HR.out b (by rw [HKL.out]; exact hlt))
      rw [hka] at c0
      have hv0 : ¬ (v : Int) < 0 := by omega
      have hv1 : ¬ (v : Int) > 12 := by omega
      have d0 : decide ((v : Int) < 0) = false := decide_eq_false hv0
      have d1 : decide ((v : Int) > 12) = false := decide_eq_false hv1
      have d2 : decide (12 < (v : Int)) = false := decide_eq_false hv1
      have d3 : decide (12 < v) = false := decide_eq_false (by omega)
      have d4 : decide (v > 12) = false := decide_eq_false (by omega)
      clear hb8 hlt hka hv
      rcases Nat.lt_or_ge v 12 with hv12 | hv12
      · have hvI : (v : Int) < 12 := by omega
        have hi := btc_inc v hv12
        have hbd := btc_bd (v + 1)
        have hbd2 := btc_bd v
        have hk4 := hk3 hv12
        have K2 : Hid (∀ d os, Calls Try.prog 11 #[.int .i64 ((v : Int) + 1)] (Sort.grow (redrawn wr d) os) fun e w'' => e = .returned (.int .i64 (btc (v + 1) : Nat)) ∧ ∃ p : Regrown, w'' = Sort.grow (redrawn wr p.d) p.os) :=
          Lib.hid fun d os => Calls.regrown_of (HV.out (v + 1) _ (by omega))
        have K3 : Hid (∀ d os, Calls Try.prog 11 #[.int .i64 (v : Int)] (Sort.grow (redrawn wr d) os) fun e w'' => e = .returned (.int .i64 (btc v : Nat)) ∧ ∃ p : Regrown, w'' = Sort.grow (redrawn wr p.d) p.os) :=
          Lib.hid fun d os => Calls.regrown_of (HV.out v _ (by omega))
        obtain ⟨s1, hs1⟩ : ∃ s, btc (v + 1) = s := ⟨_, rfl⟩
        obtain ⟨s2, hs2⟩ : ∃ s, btc v = s := ⟨_, rfl⟩
        rw [hs1] at K2 hi hbd
        rw [hs2] at K3 hi hbd2
        have e1 : IntKind.i64.wrap ((v : Int) + 1) = (v : Int) + 1 := by rw [IntKind.wrap_i64]; omega
        have e2 : IntKind.i64.wrap ((s1 : Int) - (s2 : Int)) = (s1 : Int) - (s2 : Int) := by rw [IntKind.wrap_i64]; omega
        have e3 : IntKind.i64.wrap ((q : Int) - (c : Int)) = (q : Int) - (c : Int) := by rw [IntKind.wrap_i64]; omega
        have e4 : decide ((s1 : Int) - (s2 : Int) ≤ (q : Int) - (c : Int)) = false := decide_eq_false (by omega)
        have e5 : ¬ ((s1 : Int) - (s2 : Int) ≤ (q : Int) - (c : Int)) := by omega
        clear hi hbd hbd2 hk4 hk3 hk12 hs1 hs2 hv12
        go_wp2_with fail
        refine wp_region_quiet_below (by kernel_rfl) (by kernel_rfl) ?_
        repeat go_big_quiet_step (fail)
        go_big_quiet_step ((go_at_call 11; exact K2.out _ _))
        repeat go_big_quiet_step (fail)
        go_big_quiet_step ((go_at_call 11; exact K3.out _ _))
        repeat go_big_quiet_step (fail)
        refine wpQuiet_nil ?_
        intro _ hw'
        obtain ⟨⟨dq, osq⟩, hw''⟩ := hw'
        subst hw''
        have hbx := below_regrown wr dq osq
        have HR := Lib.hid (HR.out.below hbx HR.out.lt)
        have HB := Lib.hid (HB.out.trans (hbx.mono HB.out.size))
        clear K2 K3 hbx c0 e1 e2 e3 e4 e5
        try clear d0
        try clear d1
        try clear d2
        try clear d3
        try clear d4
        try clear d5
        try clear d6
        try clear hv0
        try clear hv1
        try clear hvI
        generalize Sort.grow (redrawn wr dq) osq = w7 at *
        go_wp2_with fail
        go_roundw
        case rel => exact ⟨b + 1, HBL.out, by go_num, HR.out, HB.out⟩
        case measure =>
          have := HBL.out
          simp [intOf] <;> omega
      · obtain rfl : v = 12 := by omega
        clear d0 d1 d2 d3 d4 hv0 hv1
        go_wp2_with fail
        refine wp_region_quiet_below (by kernel_rfl) (by kernel_rfl) ?_
        repeat go_big_quiet_step (fail)
        refine wpQuiet_nil ?_
        intro _ hw'
        obtain ⟨⟨dq, osq⟩, hw''⟩ := hw'
        subst hw''
        have hbx := below_regrown wr dq osq
        have HR := Lib.hid (HR.out.below hbx HR.out.lt)
        have HB := Lib.hid (HB.out.trans (hbx.mono HB.out.size))
        clear hbx c0
        generalize Sort.grow (redrawn wr dq) osq = w7 at *
        go_wp2_with fail
        go_roundw
        case rel => exact ⟨b + 1, HBL.out, by go_num, HR.out, HB.out⟩
        case measure =>
          have := HBL.out
          simp [intOf] <;> omega
    · obtain rfl : b = 8 := by omega
      clear hb8 hge
      go_wp2_with fail
      go_ret
      exact ⟨rfl, HB.out⟩
end Go.Proofs.Ytkjbobgmnpifoaa
