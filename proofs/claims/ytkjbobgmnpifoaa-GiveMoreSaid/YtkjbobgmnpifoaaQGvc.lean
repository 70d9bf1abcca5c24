/-
  GiveMore, walked. Conditions: eight ints, a number below 2^16; what give's Pulses answers.
-/
import Derived.Test.YtkjbobgmnpifoaaQGvb
namespace Go.Proofs.Ytkjbobgmnpifoaa
open Go.RowKit
open M
set_option maxRecDepth 100000 in
set_option maxHeartbeats 2000000 in
theorem more18_law (HP : PulOk) (x : List Int) (n : Int) (w : World) (hx : x.length = 8) (hn0 : 0 ≤ n) (hn1 : n ≤ 65535) :
    Calls Try.prog 6 #[.agg (iCells x), .int .u16 n] w fun e w' => e = .returned (.bool true) ∧ Below w.heap.size w w' := by
  obtain ⟨q, hq⟩ : ∃ m : Nat, n.tmod 1000 = m := ⟨(n.tmod 1000).toNat, by have := Int.tmod_nonneg 1000 hn0; omega⟩
  have hq9 : q ≤ 999 := by have := Int.tmod_lt_of_pos n (show (0 : Int) < 1000 by decide); omega
  obtain ⟨hp1, hp2⟩ := pu18_in x q (by omega)
  obtain ⟨hz1, hz2⟩ := pu18_in x 0 (by omega)
  have HPU := Lib.hid fun w => HP (hd17 x 8) (q : Int) w (hd17_len x 8)
  have HPZ := Lib.hid fun w => HP (hd17 x 8) 0 w (hd17_len x 8)
  rw [hp1, hp2] at HPU
  rw [show (0 : Int) = ((0 : Nat) : Int) from rfl, hz1, hz2, giv_none, kl18_zero] at HPZ
  have HLH := hd17_len x 8
  obtain ⟨h, hh⟩ : ∃ h, hd17 x 8 = h := ⟨_, rfl⟩
  have HH := Lib.hid fun w => held18_any x w hx
  rw [hh] at HPU HH HLH HPZ
  have HMO : Hid (∀ a, a < 8 → 3 ≤ q → (∀ b, b < 8 → h.getD b 0 ≤ h.getD a 0 ∧ (b < a → h.getD b 0 < h.getD a 0)) → 0 < giv (fun b => h.getD b 0) q a) := Lib.hid fun a ha h3 hb => giv_more (fun b => h.getD b 0) q a ha h3 hb
  obtain ⟨k, hk⟩ : ∃ k, giv (fun b => h.getD b 0) q = k := ⟨_, rfl⟩
  rw [hk] at HPU HMO
  have HAW := Lib.hid fun w => awake18_any HP w
  have HX := Lib.hid (i8_size x hx)
  have HSH := Lib.hid (i8_size h HLH)
  have HXH := Lib.hid (sds_same zs8 h zs8_length HLH)
  have HKL := Lib.hid (kl18_len k)
  have HKA := Lib.hid (kl18_at k)
  obtain ⟨K, hK⟩ : ∃ K, kl18 k = K := ⟨_, rfl⟩
  rw [hK] at HPU HKL HKA
  have HKS := Lib.hid (i8_size K HKL.out)
  have HKX := Lib.hid (sds_same zs8 K zs8_length HKL.out)
  have HE8 := Lib.hid (i8_size e8z (by decide))
  have HX8 := Lib.hid (sds_same zs8 e8z zs8_length (by decide))
  have hz := i8_zero
  have HLH := Lib.hid HLH
  have HEQ : Hid (∀ w, (Op.equalIn 10000 22 (.agg (iCells e8z)) (.agg (iCells zs8))).run Try.prog w = .ok true w) := Lib.hid fun w => eight_eq e8z zs8 (by decide) zs8_length w
  have hqI : (q : Int) ≤ 999 := by omega
  have HR : Hid (Row (w.alloc (.cells (iCells x) 22)) w.heap.size 22 (iCells x)) := Lib.hid (heap_alloc_new _ _)
  have HB : Hid (Below w.heap.size w (w.alloc (.cells (iCells x) 22))) := Lib.hid ((Below.refl _ _).alloc (Nat.le_refl _) _)
  clear hx hp1 hp2 hz1 hz2 hh hk hK HP
  go_enter Try.func6, Try.ntmps6
  go_wp2_with fail
  generalize w.alloc (.cells (iCells x) 22) = w1 at *
  refine (HAW.out _).mono ?_
  rintro e w2 ⟨rfl, hb⟩
  have HR := Lib.hid (HR.out.box hb)
  have HB := Lib.hid (HB.out.trans (hb.mono HB.out.size))
  clear hb
  go_wp2_with (refine wpList_load_row rfl 22 (.tmp 2) rfl w.heap.size rfl 22 (iCells x) (0, 0) _ HR.out Try.underlying22 rfl HX.out ?_)
  refine (HH.out _).mono ?_
  rintro e w3 ⟨rfl, hb⟩
  have HR := Lib.hid (HR.out.box hb)
  have HB := Lib.hid (HB.out.trans (hb.mono HB.out.size))
  clear hb
  have HN : Hid (Row (w3.alloc (.cells (iCells zs8) 22)) w3.heap.size 22 (iCells zs8)) := Lib.hid (heap_alloc_new _ _)
  go_upto_region 5 with (refine wpList_store_row rfl 22 (.tmp 6) (.tmp 19) rfl w3.heap.size (iCells h) rfl rfl 22 (iCells zs8) HN.out HSH.out HXH.out (iCells_one _) ?_)
  have HGS := Lib.hid HB.out.size
  have HB := Lib.hid (below_laid HB.out (.cells (iCells zs8) 22) (iCells h))
  have HA := Lib.hid (Row.setRow HN.out (iCells h))
  generalize (w3.alloc (.cells (iCells zs8) 22)).setRow w3.heap.size (iCells h) = w4 at *
  obtain ⟨ga, hg⟩ : ∃ g, w3.heap.size = g := ⟨_, rfl⟩
  rw [hg] at HA HGS ⊢
  clear hg HN
  go_wp2_with (refine wpList_load_row rfl 22 (.tmp 6) rfl ga rfl 22 (iCells h) (0, 0) _ HA.out Try.underlying22 rfl HSH.out ?_)
  refine (HPU.out _).mono ?_
  rintro e w5 ⟨rfl, hb⟩
  have HA := Lib.hid (HA.out.box hb)
  have HB := Lib.hid (HB.out.trans (hb.mono HB.out.size))
  clear hb
  have HN : Hid (Row (w5.alloc (.cells (iCells zs8) 22)) w5.heap.size 22 (iCells zs8)) := Lib.hid (heap_alloc_new _ _)
  go_upto_region 6 with (refine wpList_store_row rfl 22 (.tmp 7) (.tmp 24) rfl w5.heap.size (iCells K) rfl rfl 22 (iCells zs8) HN.out HKS.out HKX.out (iCells_one _) ?_)
  have HGS := Lib.hid HB.out.size
  have HA := Lib.hid (row_laid HA.out (.cells (iCells zs8) 22) (iCells K))
  have HB := Lib.hid (below_laid HB.out (.cells (iCells zs8) 22) (iCells K))
  have HK := Lib.hid (Row.setRow HN.out (iCells K))
  generalize (w5.alloc (.cells (iCells zs8) 22)).setRow w5.heap.size (iCells K) = w6 at *
  obtain ⟨gk, hg⟩ : ∃ g, w5.heap.size = g := ⟨_, rfl⟩
  rw [hg] at HK HGS ⊢
  clear hg HN
  go_wp2_with fail
  go_loopw [9, 10] (fun bb ii wr => ∃ (i a : Nat), 1 ≤ i ∧ i ≤ 8 ∧ a < i ∧ bb = .int .i64 (a : Int) ∧ ii = .int .i64 (i : Int) ∧ (∀ j, j < i → h.getD j 0 ≤ h.getD a 0 ∧ (j < a → h.getD j 0 < h.getD a 0)) ∧ Row wr ga 22 (iCells h) ∧ Row wr gk 22 (iCells K) ∧ Below w.heap.size w wr) (fun _ ii _ => 8 - (intOf ii).toNat)
  case atStart => exact ⟨1, 0, by omega, by omega, by omega, rfl, rfl, fun j hj => by obtain rfl : j = 0 := by omega
                                                                                      exact ⟨Int.le_refl _, fun e => by omega⟩, HA.out, HK.out, HB.out⟩
  case round =>
    clear HA HK HB
    obtain ⟨i, a, hi1, hi8, hai, rfl, rfl, hall, hra, hrk, hb⟩ := hrel
    have HA := Lib.hid hra
    have HK := Lib.hid hrk
    have HB := Lib.hid hb
    have HALL := Lib.hid hall
    clear hall hb
    rcases Nat.lt_or_ge i 8 with hlt | hge
    · have HI := Lib.hid hlt
      have HI1 := Lib.hid hi1
      have HAI := Lib.hid hai
      have hiI : (i : Int) < 8 := by omega
      have haI : (a : Int) < 8 := by omega
      have c0 := i_at hra i (by rw [HLH.out]; exact hlt)
      have c1 := i_at hra a (by rw [HLH.out]; omega)
      obtain ⟨u, hu⟩ : ∃ u, h.getD i 0 = u := ⟨_, rfl⟩
      obtain ⟨v, hv⟩ : ∃ v, h.getD a 0 = v := ⟨_, rfl⟩
      rw [hu] at c0
      rw [hv] at c1
      have HU := Lib.hid fun _ : Unit => hu
      have HVV := Lib.hid fun _ : Unit => hv
      have HA := Lib.hid (show Row wr.drew ga 22 (iCells h) from HA.out)
      have HK := Lib.hid (show Row wr.drew gk 22 (iCells K) from HK.out)
      have HB := Lib.hid (below_drew1 HB.out)
      clear hra hrk hi1 hi8 hai hlt hu hv
      by_cases hc : v < u
      · have d1 : decide (v < u) = true := decide_eq_true hc
        have d2 : decide (u > v) = true := decide_eq_true hc
        have HC := Lib.hid hc
        go_wp2_with fail
        go_region
        clear c0 c1
        generalize wr.drew = w20 at *
        go_wp2_with fail
        go_roundw
        case rel => exact ⟨i + 1, i, by omega, HI.out, by omega, rfl, by go_num, fun j hj => by
          rcases Nat.lt_or_ge j i with h2 | h2
          · have := (HALL.out j h2).1
            have hc := HC.out
            rw [HVV.out ()] at this
            rw [HU.out ()]
            exact ⟨by omega, fun _ => by omega⟩
          · obtain rfl : j = i := by omega
            exact ⟨Int.le_refl _, fun e => by omega⟩, HA.out, HK.out, HB.out⟩
        case measure =>
          have := HI.out
          simp [intOf] <;> omega
      · have d1 : decide (v < u) = false := decide_eq_false hc
        have d2 : decide (u > v) = false := decide_eq_false hc
        have HC := Lib.hid hc
        go_wp2_with fail
        go_region
        clear c0 c1
        generalize wr.drew = w20 at *
        go_wp2_with fail
        go_roundw
        case rel => exact ⟨i + 1, a, by omega, HI.out, by have := HAI.out; omega, rfl, by go_num, fun j hj => by
          rcases Nat.lt_or_ge j i with h2 | h2
          · exact HALL.out j h2
          · obtain rfl : j = i := by omega
            have hc := HC.out
            rw [HVV.out (), HU.out ()]
            exact ⟨by omega, fun e => by have := HAI.out; omega⟩, HA.out, HK.out, HB.out⟩
        case measure =>
          have := HI.out
          simp [intOf] <;> omega
    · obtain rfl : i = 8 := by omega
      have haI : (a : Int) < 8 := by omega
      have HPOS := Lib.hid fun h3 => HMO.out a hai h3 HALL.out
      have HKA2 := Lib.hid (HKA.out a hai)
      have HA8 := Lib.hid hai
      clear hi1 hi8 hge hai hra hrk HALL HMO HKA
      obtain ⟨v, hv⟩ : ∃ v, k a = v := ⟨_, rfl⟩
      rw [hv] at HPOS HKA2
      clear hv

      generalize hwr : wr = w29 at *
      clear hwr
      go_wp2_with (refine wpList_load_row rfl 22 (.tmp 6) rfl ga rfl 22 (iCells h) (0, 0) _ HA.out Try.underlying22 rfl HSH.out ?_)
      refine (HPZ.out _).mono ?_
      rintro e w30 ⟨rfl, hb⟩
      have HA := Lib.hid (HA.out.box hb)
      have HK := Lib.hid (HK.out.box hb)
      have HB := Lib.hid (HB.out.trans (hb.mono HB.out.size))
      clear hb
      have HN : Hid (Row (w30.alloc (.cells (iCells zs8) 22)) w30.heap.size 22 (iCells zs8)) := Lib.hid (heap_alloc_new _ _)
      go_upto_region 13 with (refine wpList_store_row rfl 22 (.tmp 11) (.tmp 41) rfl w30.heap.size (iCells e8z) rfl rfl 22 (iCells zs8) HN.out HE8.out HX8.out (iCells_one _) ?_)
      have HGS := Lib.hid HB.out.size
      have HA := Lib.hid (row_laid HA.out (.cells (iCells zs8) 22) (iCells e8z))
      have HK := Lib.hid (row_laid HK.out (.cells (iCells zs8) 22) (iCells e8z))
      have HB := Lib.hid (below_laid HB.out (.cells (iCells zs8) 22) (iCells e8z))
      have HZ := Lib.hid (Row.setRow HN.out (iCells e8z))
      generalize (w30.alloc (.cells (iCells zs8) 22)).setRow w30.heap.size (iCells e8z) = w31 at *
      obtain ⟨gz, hg⟩ : ∃ g, w30.heap.size = g := ⟨_, rfl⟩
      rw [hg] at HZ HGS ⊢
      clear hg HN
      have hEQ := HEQ.out
      have c0 := i_at HK.out a (by rw [HKL.out]; exact HA8.out)
      rw [HKA2.out] at c0
      rcases Nat.lt_or_ge q 3 with h3 | h3
      · have d1 : decide ((q : Int) < 3) = true := decide_eq_true (by omega)
        have d2 : decide (q < 3) = true := decide_eq_true h3
        have d3 : (q : Int) < 3 := by omega
        go_wp2_with (refine g_load_row (by rfl) 22 (.tmp 11) rfl gz rfl 22 (iCells e8z) (0, 0) _ HZ.out Try.underlying22 rfl HE8.out ?_)
        go_ret
        exact ⟨rfl, HB.out⟩
      · have d1 : decide ((q : Int) < 3) = false := decide_eq_false (by omega)
        have d2 : decide (q < 3) = false := decide_eq_false (by omega)
        have d3 : ¬ (q : Int) < 3 := by omega
        have hp := HPOS.out h3
        have d4 : decide (0 < (v : Int)) = true := decide_eq_true (by omega)
        have d5 : decide (0 < v) = true := decide_eq_true hp
        have d6 : (v : Int) > 0 := by omega
        go_wp2_with (refine g_load_row (by rfl) 22 (.tmp 11) rfl gz rfl 22 (iCells e8z) (0, 0) _ HZ.out Try.underlying22 rfl HE8.out ?_)
        go_ret
        exact ⟨rfl, HB.out⟩
end Go.Proofs.Ytkjbobgmnpifoaa
