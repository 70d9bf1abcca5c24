/-
  GivePlays, walked. Conditions: eight ints; what give's Pulses, Cost and Bits answer, and the reference's Count.
-/
import Derived.Test.YtkjbobgmnpifoaaQGvb
import Derived.Test.YtkjbobgmnpifoaaQQtl
namespace Go.Proofs.Ytkjbobgmnpifoaa
open Go.RowKit
open M
/-- What so many bands' pulses cost. -/
def sm18 (k : Nat → Nat) : Nat → Nat
  | 0 => 0
  | i + 1 => sm18 k i + btc (k i)
theorem sm18_all (k : Nat → Nat) : sm18 k 8 = cst8 k := by
  show 0 + btc (k 0) + btc (k 1) + btc (k 2) + btc (k 3) + btc (k 4) + btc (k 5) + btc (k 6) + btc (k 7) = btc (k 0) + btc (k 1) + btc (k 2) + btc (k 3) + btc (k 4) + btc (k 5) + btc (k 6) + btc (k 7)
  omega
set_option maxRecDepth 100000 in
set_option maxHeartbeats 4000000 in
theorem plays18_law (HP : PulOk) (HC : CosOk) (HZ : BizOk) (HCt : CtOk) (x : List Int) (n z : Int) (w : World) (hx : x.length = 8) :
    Calls Try.prog 5 #[.agg (iCells x), .int .i64 n, .int .i64 z] w fun e w' => e = .returned (.bool true) ∧ Below w.heap.size w w' := by
  have HPU := Lib.hid fun w => HP x n w hx
  have HBZ := Lib.hid fun w => HZ z w
  have HRT := Lib.hid fun w => rright_any x w hx
  have HAW := Lib.hid fun w => awake18_any HP w
  have HX := Lib.hid (i8_size x hx)
  have HPL := Lib.hid (puI_len x n)
  have HOK : Hid (ok18 x n → ∃ (k : Nat → Nat) (m : Nat), n = (m : Int) ∧ puI x n = kl18 k ∧ puE x n = 0 ∧ (∀ b, b < 8 → k b ≤ 12) ∧ (∀ w, Calls Try.prog 15 #[.agg (iCells x), .int .i64 n] w fun e w' => e = .returned (.agg (iCells (kl18 k))) ∧ Below w.heap.size w w') ∧ (∀ w, Calls Try.prog 10 #[.agg (iCells (kl18 k))] w fun e w' => e = .returned (.int .i64 (cst8 k : Nat)) ∧ Below w.heap.size w w')) := Lib.hid fun ho => by
    obtain ⟨m, rfl⟩ : ∃ m : Nat, n = (m : Int) := ⟨n.toNat, by have := ho.2.1; omega⟩
    have hm : m ≤ 1048576 := by have := ho.2.2; omega
    have hall := (giv_all (fun b => x.getD b 0) m).1
    refine ⟨giv (fun b => x.getD b 0) m, m, rfl, ?_, ?_, hall, fun w => rgive_any HCt x m w hx ((rt_iff x).1 ho.1) hm, fun w => HC _ w hall⟩
    · rw [puI, if_pos ho, Int.toNat_natCast]
    · rw [puE, if_pos ho]
  have HNO : Hid (¬ ok18 x n → puI x n = e8z ∧ puE x n = 1) := Lib.hid fun ho => by
    rw [puI, if_neg ho, puE, if_neg ho]
    exact ⟨rfl, rfl⟩
  have HOI : Hid (ok18 x n ↔ rt17 x = true ∧ 0 ≤ n ∧ n ≤ 1048576) := Lib.hid Iff.rfl
  have HRB : Hid (∀ (k : Nat) (w : World), k ≤ 12 → Calls Try.prog 14 #[.int .i64 (k : Int)] w fun e w' => e = .returned (.int .i64 (btc k : Nat)) ∧ Below w.heap.size w w') := Lib.hid fun k w hk => rbits_any HCt k w hk
  obtain ⟨P, hP⟩ : ∃ P, puI x n = P := ⟨_, rfl⟩
  obtain ⟨E, hE⟩ : ∃ E, puE x n = E := ⟨_, rfl⟩
  obtain ⟨R, hR⟩ : ∃ R, rt17 x = R := ⟨_, rfl⟩
  have hOI := HOI.out
  rw [hR] at HRT hOI
  rw [hP, hE] at HPU HOK HNO
  rw [hP] at HPL
  have HPS := Lib.hid (i8_size P HPL.out)
  have HPX := Lib.hid (sds_same zs8 P zs8_length HPL.out)
  have HOI := Lib.hid hOI
  have hz := i8_zero
  have HR : Hid (Row (w.alloc (.cells (iCells x) 22)) w.heap.size 22 (iCells x)) := Lib.hid (heap_alloc_new _ _)
  have HB : Hid (Below w.heap.size w (w.alloc (.cells (iCells x) 22))) := Lib.hid ((Below.refl _ _).alloc (Nat.le_refl _) _)
  clear hx hP hE hR hOI HP HC HCt
  go_enter Try.func5, Try.ntmps5
  go_wp2_with fail
  generalize w.alloc (.cells (iCells x) 22) = w1 at *
  refine (HAW.out _).mono ?_
  rintro e w2 ⟨rfl, hb⟩
  have HR := Lib.hid (HR.out.box hb)
  have HB := Lib.hid (HB.out.trans (hb.mono HB.out.size))
  clear hb
  rcases (show z < 12 ∨ z > 24 ∨ (12 ≤ z ∧ z ≤ 24) by omega) with hc | hc | hc
  · have d1 : decide (z ≥ 12) = false := decide_eq_false (by omega)
    have d2 : decide (12 ≤ z) = false := decide_eq_false (by omega)
    have hv : bz18 z = 0 := if_neg (by omega)
    rw [hv] at HBZ
    clear hv
    go_wp2_with fail
    refine (HBZ.out _).mono ?_
    rintro e w3 ⟨rfl, hb⟩
    have HR := Lib.hid (HR.out.box hb)
    have HB := Lib.hid (HB.out.trans (hb.mono HB.out.size))
    clear hb
    try clear d3
    clear d1 d2
    go_wp2_with (refine wpList_load_row rfl 22 (.tmp 3) rfl w.heap.size rfl 22 (iCells x) (0, 0) _ HR.out Try.underlying22 rfl HX.out ?_)
    refine (HPU.out _).mono ?_
    rintro e w4 ⟨rfl, hb⟩
    have HR := Lib.hid (HR.out.box hb)
    have HB := Lib.hid (HB.out.trans (hb.mono HB.out.size))
    clear hb
    have HN : Hid (Row (w4.alloc (.cells (iCells zs8) 22)) w4.heap.size 22 (iCells zs8)) := Lib.hid (heap_alloc_new _ _)
    go_upto_region 9 with (refine wpList_store_row rfl 22 (.tmp 8) (.tmp 31) rfl w4.heap.size (iCells P) rfl rfl 22 (iCells zs8) HN.out HPS.out HPX.out (iCells_one _) ?_)
    have HGS := Lib.hid HB.out.size
    have NHRHK := Lib.hid (Nat.ne_of_lt (Row.lt HR.out))
    have HR := Lib.hid (row_laid HR.out (.cells (iCells zs8) 22) (iCells P))
    have HB := Lib.hid (below_laid HB.out (.cells (iCells zs8) 22) (iCells P))
    have HK := Lib.hid (Row.setRow HN.out (iCells P))
    generalize (w4.alloc (.cells (iCells zs8) 22)).setRow w4.heap.size (iCells P) = w5 at *
    obtain ⟨gk, hg⟩ : ∃ g, w4.heap.size = g := ⟨_, rfl⟩
    rw [hg] at HK HGS NHRHK ⊢
    clear hg HN
    go_wp2_with (refine wpList_load_row rfl 22 (.tmp 3) rfl w.heap.size rfl 22 (iCells x) (0, 0) _ HR.out Try.underlying22 rfl HX.out ?_)
    refine (HRT.out _).mono ?_
    rintro e w6 ⟨rfl, hb⟩
    have HR := Lib.hid (HR.out.box hb)
    have HK := Lib.hid (HK.out.box hb)
    have HB := Lib.hid (HB.out.trans (hb.mono HB.out.size))
    clear hb
    cases hR : R
    · subst hR
      obtain ⟨rfl, rfl⟩ := HNO.out fun ho => by
        have h1 := HOI.out.1 ho
        first | (cases h1.1; done) | (have := h1.2.1; have := h1.2.2; omega)
      have hEQ : ∀ w, (Op.equalIn 10000 22 (.agg (iCells e8z)) (.agg (iCells zs8))).run Try.prog w = .ok true w := fun w => eight_eq e8z zs8 (by decide) zs8_length w
      go_wp2_with (refine g_load_row (by rfl) 22 (.tmp 8) rfl gk rfl 22 (iCells e8z) (0, 0) _ HK.out Try.underlying22 rfl HPS.out ?_)
      go_ret
      exact ⟨rfl, HB.out⟩
    · subst hR
      by_cases hn1 : n < 0
      · have d1 : decide (n < 0) = true := decide_eq_true hn1
        obtain ⟨rfl, rfl⟩ := HNO.out fun ho => by
          have h1 := HOI.out.1 ho
          first | (cases h1.1; done) | (have := h1.2.1; have := h1.2.2; omega)
        have hEQ : ∀ w, (Op.equalIn 10000 22 (.agg (iCells e8z)) (.agg (iCells zs8))).run Try.prog w = .ok true w := fun w => eight_eq e8z zs8 (by decide) zs8_length w
        go_wp2_with (refine g_load_row (by rfl) 22 (.tmp 8) rfl gk rfl 22 (iCells e8z) (0, 0) _ HK.out Try.underlying22 rfl HPS.out ?_)
        go_ret
        exact ⟨rfl, HB.out⟩
      · have d1 : decide (n < 0) = false := decide_eq_false hn1
        by_cases hn2 : n > 1048576
        · have d2 : decide (n > 1048576) = true := decide_eq_true hn2
          have d3 : decide (1048576 < n) = true := decide_eq_true hn2
          obtain ⟨rfl, rfl⟩ := HNO.out fun ho => by
            have h1 := HOI.out.1 ho
            first | (cases h1.1; done) | (have := h1.2.1; have := h1.2.2; omega)
          have hEQ : ∀ w, (Op.equalIn 10000 22 (.agg (iCells e8z)) (.agg (iCells zs8))).run Try.prog w = .ok true w := fun w => eight_eq e8z zs8 (by decide) zs8_length w
          go_wp2_with (refine g_load_row (by rfl) 22 (.tmp 8) rfl gk rfl 22 (iCells e8z) (0, 0) _ HK.out Try.underlying22 rfl HPS.out ?_)
          go_ret
          exact ⟨rfl, HB.out⟩
        · have d2 : decide (n > 1048576) = false := decide_eq_false hn2
          have d3 : decide (1048576 < n) = false := decide_eq_false hn2
          obtain ⟨k, m, hnm, rfl, rfl, hk12, hgp, hgc⟩ := HOK.out (HOI.out.2 ⟨rfl, by omega, by omega⟩)
          have HK12 := Lib.hid hk12
          have HGP := Lib.hid hgp
          have HGC := Lib.hid hgc
          clear hk12 hgp hgc HOK HNO HOI hnm m
          go_wp2_with fail
          go_loopw [10, 11] (fun ss ii wr => ∃ (i s : Nat), i ≤ 8 ∧ s = sm18 k i ∧ s ≤ 13 * i ∧ ss = .int .i64 (s : Int) ∧ ii = .int .i64 (i : Int) ∧ Row wr w.heap.size 22 (iCells x) ∧ Row wr gk 22 (iCells (kl18 k)) ∧ Below w.heap.size w wr) (fun _ ii _ => 8 - (intOf ii).toNat)
          case atStart => exact ⟨0, 0, by omega, rfl, by omega, rfl, rfl, HR.out, HK.out, HB.out⟩
          case round =>
            clear HR HK HB
            obtain ⟨i, s, hi8, hs, hsb, rfl, rfl, hrr, hrk, hb⟩ := hrel
            have HR := Lib.hid hrr
            have HK := Lib.hid hrk
            have HB := Lib.hid hb
            clear hrr hb
            rcases Nat.lt_or_ge i 8 with hlt | hge
            · have HI := Lib.hid hlt
              have hiI : (i : Int) < 8 := by omega
              have c0 := i_at hrk i (by rw [kl18_len]; exact hlt)
              rw [kl18_at k i hlt] at c0
              have hv := HK12.out i hlt
              have hst : sm18 k (i + 1) = sm18 k i + btc (k i) := rfl
              rw [← hs] at hst
              obtain ⟨v, hkv⟩ : ∃ v, k i = v := ⟨_, rfl⟩
              rw [hkv] at c0 hv hst
              have HRBV := Lib.hid fun w => HRB.out v w hv
              have hbd := btc_bd v
              obtain ⟨u, hu⟩ : ∃ u, btc v = u := ⟨_, rfl⟩
              rw [hu] at hst hbd HRBV
              have HST := Lib.hid hst.symm
              have HSB := Lib.hid (show s + u ≤ 13 * (i + 1) by omega)
              have hsI : (s : Int) ≤ 104 := by omega
              have huI : (u : Int) ≤ 13 := by omega
              clear hi8 hlt hrk hv hkv hst hbd hu hs hsb
              go_wp2_with fail
              refine (HRBV.out _).mono ?_
              rintro e w20 ⟨rfl, hb⟩
              have HR := Lib.hid (HR.out.box hb)
              have HK := Lib.hid (HK.out.box hb)
              have HB := Lib.hid (HB.out.trans (hb.mono HB.out.size))
              clear hb c0 HRBV
              go_wp2_with fail
              go_roundw
              case rel => exact ⟨i + 1, s + u, HI.out, HST.out, HSB.out, by go_num, by go_num, HR.out, HK.out, HB.out⟩
              case measure =>
                have := HI.out
                simp [intOf] <;> omega
            · obtain rfl : i = 8 := by omega
              have hs2 : s = cst8 k := by rw [hs]; exact sm18_all k
              clear hi8 hge hs hsb hrk
              have CR : Hid (∀ W : World, (∃ p : Regrown, W = Sort.grow (redrawn wr p.d) p.os) → W.heap[w.heap.size]? = some (.cells (iCells x) 22 (0, 0))) := by
                rintro W ⟨p, rfl⟩
                exact HR.out.below (below_regrown wr p.d p.os) HR.out.lt
              have CK : Hid (∀ W : World, (∃ p : Regrown, W = Sort.grow (redrawn wr p.d) p.os) → W.heap[gk]? = some (.cells (iCells (kl18 k)) 22 (0, 0))) := by
                rintro W ⟨p, rfl⟩
                exact HK.out.below (below_regrown wr p.d p.os) HK.out.lt
              have K2 : Hid (∀ d os, Calls Try.prog 15 #[.agg (iCells x), .int .i64 n] (Sort.grow (redrawn wr d) os) fun e w'' => e = .returned (.agg (iCells (kl18 k))) ∧ ∃ p : Regrown, w'' = Sort.grow (redrawn wr p.d) p.os) :=
                Lib.hid fun d os => Calls.regrown_of (HGP.out _)
              have K3 : Hid (∀ d os, Calls Try.prog 10 #[.agg (iCells (kl18 k))] (Sort.grow (redrawn wr d) os) fun e w'' => e = .returned (.int .i64 (cst8 k : Nat)) ∧ ∃ p : Regrown, w'' = Sort.grow (redrawn wr p.d) p.os) :=
                Lib.hid fun d os => Calls.regrown_of (HGC.out _)
              rw [← hs2] at K3
              have hEQ : ∀ w, (Op.equalIn 10000 22 (.agg (iCells (kl18 k))) (.agg (iCells (kl18 k)))).run Try.prog w = .ok true w := fun w => by
                have := eight_eq (kl18 k) (kl18 k) (kl18_len k) (kl18_len k) w
                rw [beq_self_eq_true] at this
                exact this
              clear hs2 HGP HGC HK12
              generalize kl18 k = K at *
              have k0 : ((s : Int) == (s : Int)) = true := beq_self_eq_true _
              go_wp2_with fail
              refine wp_region_quiet_below (by kernel_rfl) (by kernel_rfl) ?_
              go_big_quiet_step (fail)
              go_big_quiet_step (fail)
              go_big_quiet_step (fail)
              go_big_quiet_want
              refine q_load_row 22 (.tmp 8) rfl gk rfl 22 (iCells K) (0, 0) _ CK.out Try.underlying22 rfl HPS.out ?_
              go_big_quiet_on
              simp only [Act.put, List.setIfInBounds_toArray, List.set_cons_zero, List.set_cons_succ]
              go_big_quiet_want
              refine q_load_row 22 (.tmp 3) rfl w.heap.size rfl 22 (iCells x) (0, 0) _ CR.out Try.underlying22 rfl HX.out ?_
              go_big_quiet_on
              simp only [Act.put, List.setIfInBounds_toArray, List.set_cons_zero, List.set_cons_succ]
              go_big_quiet_step (fail)
              go_big_quiet_step ((go_at_call 15; exact K2.out _ _))
              go_big_quiet_step (fail)
              go_big_quiet_step (fail)
              go_big_quiet_step (fail)
              go_big_quiet_want
              refine q_load_row 22 (.tmp 8) rfl gk rfl 22 (iCells K) (0, 0) _ CK.out Try.underlying22 rfl HPS.out ?_
              go_big_quiet_on
              simp only [Act.put, List.setIfInBounds_toArray, List.set_cons_zero, List.set_cons_succ]
              go_big_quiet_step ((go_at_call 10; exact K3.out _ _))
              repeat go_big_quiet_step (fail)
              refine wpQuiet_nil ?_
              intro _ hw'
              obtain ⟨⟨dq, osq⟩, hw''⟩ := hw'
              subst hw''
              have HBX := Lib.hid (HB.out.trans ((below_regrown wr dq osq).mono HB.out.size))
              clear K2 K3 CR CK
              generalize Sort.grow (redrawn wr dq) osq = w7 at *
              go_wp2_with fail
              go_ret
              exact ⟨rfl, HBX.out⟩
  · have d1 : decide (z ≥ 12) = true := decide_eq_true (by omega)
    have d2 : decide (12 ≤ z) = true := decide_eq_true (by omega)
    have d3 : decide (z ≤ 24) = false := decide_eq_false (by omega)
    have hv : bz18 z = 0 := if_neg (by omega)
    rw [hv] at HBZ
    clear hv
    go_wp2_with fail
    refine (HBZ.out _).mono ?_
    rintro e w3 ⟨rfl, hb⟩
    have HR := Lib.hid (HR.out.box hb)
    have HB := Lib.hid (HB.out.trans (hb.mono HB.out.size))
    clear hb
    try clear d3
    clear d1 d2
    go_wp2_with (refine wpList_load_row rfl 22 (.tmp 3) rfl w.heap.size rfl 22 (iCells x) (0, 0) _ HR.out Try.underlying22 rfl HX.out ?_)
    refine (HPU.out _).mono ?_
    rintro e w4 ⟨rfl, hb⟩
    have HR := Lib.hid (HR.out.box hb)
    have HB := Lib.hid (HB.out.trans (hb.mono HB.out.size))
    clear hb
    have HN : Hid (Row (w4.alloc (.cells (iCells zs8) 22)) w4.heap.size 22 (iCells zs8)) := Lib.hid (heap_alloc_new _ _)
    go_upto_region 9 with (refine wpList_store_row rfl 22 (.tmp 8) (.tmp 31) rfl w4.heap.size (iCells P) rfl rfl 22 (iCells zs8) HN.out HPS.out HPX.out (iCells_one _) ?_)
    have HGS := Lib.hid HB.out.size
    have NHRHK := Lib.hid (Nat.ne_of_lt (Row.lt HR.out))
    have HR := Lib.hid (row_laid HR.out (.cells (iCells zs8) 22) (iCells P))
    have HB := Lib.hid (below_laid HB.out (.cells (iCells zs8) 22) (iCells P))
    have HK := Lib.hid (Row.setRow HN.out (iCells P))
    generalize (w4.alloc (.cells (iCells zs8) 22)).setRow w4.heap.size (iCells P) = w5 at *
    obtain ⟨gk, hg⟩ : ∃ g, w4.heap.size = g := ⟨_, rfl⟩
    rw [hg] at HK HGS NHRHK ⊢
    clear hg HN
    go_wp2_with (refine wpList_load_row rfl 22 (.tmp 3) rfl w.heap.size rfl 22 (iCells x) (0, 0) _ HR.out Try.underlying22 rfl HX.out ?_)
    refine (HRT.out _).mono ?_
    rintro e w6 ⟨rfl, hb⟩
    have HR := Lib.hid (HR.out.box hb)
    have HK := Lib.hid (HK.out.box hb)
    have HB := Lib.hid (HB.out.trans (hb.mono HB.out.size))
    clear hb
    cases hR : R
    · subst hR
      obtain ⟨rfl, rfl⟩ := HNO.out fun ho => by
        have h1 := HOI.out.1 ho
        first | (cases h1.1; done) | (have := h1.2.1; have := h1.2.2; omega)
      have hEQ : ∀ w, (Op.equalIn 10000 22 (.agg (iCells e8z)) (.agg (iCells zs8))).run Try.prog w = .ok true w := fun w => eight_eq e8z zs8 (by decide) zs8_length w
      go_wp2_with (refine g_load_row (by rfl) 22 (.tmp 8) rfl gk rfl 22 (iCells e8z) (0, 0) _ HK.out Try.underlying22 rfl HPS.out ?_)
      go_ret
      exact ⟨rfl, HB.out⟩
    · subst hR
      by_cases hn1 : n < 0
      · have d1 : decide (n < 0) = true := decide_eq_true hn1
        obtain ⟨rfl, rfl⟩ := HNO.out fun ho => by
          have h1 := HOI.out.1 ho
          first | (cases h1.1; done) | (have := h1.2.1; have := h1.2.2; omega)
        have hEQ : ∀ w, (Op.equalIn 10000 22 (.agg (iCells e8z)) (.agg (iCells zs8))).run Try.prog w = .ok true w := fun w => eight_eq e8z zs8 (by decide) zs8_length w
        go_wp2_with (refine g_load_row (by rfl) 22 (.tmp 8) rfl gk rfl 22 (iCells e8z) (0, 0) _ HK.out Try.underlying22 rfl HPS.out ?_)
        go_ret
        exact ⟨rfl, HB.out⟩
      · have d1 : decide (n < 0) = false := decide_eq_false hn1
        by_cases hn2 : n > 1048576
        · have d2 : decide (n > 1048576) = true := decide_eq_true hn2
          have d3 : decide (1048576 < n) = true := decide_eq_true hn2
          obtain ⟨rfl, rfl⟩ := HNO.out fun ho => by
            have h1 := HOI.out.1 ho
            first | (cases h1.1; done) | (have := h1.2.1; have := h1.2.2; omega)
          have hEQ : ∀ w, (Op.equalIn 10000 22 (.agg (iCells e8z)) (.agg (iCells zs8))).run Try.prog w = .ok true w := fun w => eight_eq e8z zs8 (by decide) zs8_length w
          go_wp2_with (refine g_load_row (by rfl) 22 (.tmp 8) rfl gk rfl 22 (iCells e8z) (0, 0) _ HK.out Try.underlying22 rfl HPS.out ?_)
          go_ret
          exact ⟨rfl, HB.out⟩
        · have d2 : decide (n > 1048576) = false := decide_eq_false hn2
          have d3 : decide (1048576 < n) = false := decide_eq_false hn2
          obtain ⟨k, m, hnm, rfl, rfl, hk12, hgp, hgc⟩ := HOK.out (HOI.out.2 ⟨rfl, by omega, by omega⟩)
          have HK12 := Lib.hid hk12
          have HGP := Lib.hid hgp
          have HGC := Lib.hid hgc
          clear hk12 hgp hgc HOK HNO HOI hnm m
          go_wp2_with fail
          go_loopw [10, 11] (fun ss ii wr => ∃ (i s : Nat), i ≤ 8 ∧ s = sm18 k i ∧ s ≤ 13 * i ∧ ss = .int .i64 (s : Int) ∧ ii = .int .i64 (i : Int) ∧ Row wr w.heap.size 22 (iCells x) ∧ Row wr gk 22 (iCells (kl18 k)) ∧ Below w.heap.size w wr) (fun _ ii _ => 8 - (intOf ii).toNat)
          case atStart => exact ⟨0, 0, by omega, rfl, by omega, rfl, rfl, HR.out, HK.out, HB.out⟩
          case round =>
            clear HR HK HB
            obtain ⟨i, s, hi8, hs, hsb, rfl, rfl, hrr, hrk, hb⟩ := hrel
            have HR := Lib.hid hrr
            have HK := Lib.hid hrk
            have HB := Lib.hid hb
            clear hrr hb
            rcases Nat.lt_or_ge i 8 with hlt | hge
            · have HI := Lib.hid hlt
              have hiI : (i : Int) < 8 := by omega
              have c0 := i_at hrk i (by rw [kl18_len]; exact hlt)
              rw [kl18_at k i hlt] at c0
              have hv := HK12.out i hlt
              have hst : sm18 k (i + 1) = sm18 k i + btc (k i) := rfl
              rw [← hs] at hst
              obtain ⟨v, hkv⟩ : ∃ v, k i = v := ⟨_, rfl⟩
              rw [hkv] at c0 hv hst
              have HRBV := Lib.hid fun w => HRB.out v w hv
              have hbd := btc_bd v
              obtain ⟨u, hu⟩ : ∃ u, btc v = u := ⟨_, rfl⟩
              rw [hu] at hst hbd HRBV
              have HST := Lib.hid hst.symm
              have HSB := Lib.hid (show s + u ≤ 13 * (i + 1) by omega)
              have hsI : (s : Int) ≤ 104 := by omega
              have huI : (u : Int) ≤ 13 := by omega
              clear hi8 hlt hrk hv hkv hst hbd hu hs hsb
              go_wp2_with fail
              refine (HRBV.out _).mono ?_
              rintro e w20 ⟨rfl, hb⟩
              have HR := Lib.hid (HR.out.box hb)
              have HK := Lib.hid (HK.out.box hb)
              have HB := Lib.hid (HB.out.trans (hb.mono HB.out.size))
              clear hb c0 HRBV
              go_wp2_with fail
              go_roundw
              case rel => exact ⟨i + 1, s + u, HI.out, HST.out, HSB.out, by go_num, by go_num, HR.out, HK.out, HB.out⟩
              case measure =>
                have := HI.out
                simp [intOf] <;> omega
            · obtain rfl : i = 8 := by omega
              have hs2 : s = cst8 k := by rw [hs]; exact sm18_all k
              clear hi8 hge hs hsb hrk
              have CR : Hid (∀ W : World, (∃ p : Regrown, W = Sort.grow (redrawn wr p.d) p.os) → W.heap[w.heap.size]? = some (.cells (iCells x) 22 (0, 0))) := by
                rintro W ⟨p, rfl⟩
                exact HR.out.below (below_regrown wr p.d p.os) HR.out.lt
              have CK : Hid (∀ W : World, (∃ p : Regrown, W = Sort.grow (redrawn wr p.d) p.os) → W.heap[gk]? = some (.cells (iCells (kl18 k)) 22 (0, 0))) := by
                rintro W ⟨p, rfl⟩
                exact HK.out.below (below_regrown wr p.d p.os) HK.out.lt
              have K2 : Hid (∀ d os, Calls Try.prog 15 #[.agg (iCells x), .int .i64 n] (Sort.grow (redrawn wr d) os) fun e w'' => e = .returned (.agg (iCells (kl18 k))) ∧ ∃ p : Regrown, w'' = Sort.grow (redrawn wr p.d) p.os) :=
                Lib.hid fun d os => Calls.regrown_of (HGP.out _)
              have K3 : Hid (∀ d os, Calls Try.prog 10 #[.agg (iCells (kl18 k))] (Sort.grow (redrawn wr d) os) fun e w'' => e = .returned (.int .i64 (cst8 k : Nat)) ∧ ∃ p : Regrown, w'' = Sort.grow (redrawn wr p.d) p.os) :=
                Lib.hid fun d os => Calls.regrown_of (HGC.out _)
              rw [← hs2] at K3
              have hEQ : ∀ w, (Op.equalIn 10000 22 (.agg (iCells (kl18 k))) (.agg (iCells (kl18 k)))).run Try.prog w = .ok true w := fun w => by
                have := eight_eq (kl18 k) (kl18 k) (kl18_len k) (kl18_len k) w
                rw [beq_self_eq_true] at this
                exact this
              clear hs2 HGP HGC HK12
              generalize kl18 k = K at *
              have k0 : ((s : Int) == (s : Int)) = true := beq_self_eq_true _
              go_wp2_with fail
              refine wp_region_quiet_below (by kernel_rfl) (by kernel_rfl) ?_
              go_big_quiet_step (fail)
              go_big_quiet_step (fail)
              go_big_quiet_step (fail)
              go_big_quiet_want
              refine q_load_row 22 (.tmp 8) rfl gk rfl 22 (iCells K) (0, 0) _ CK.out Try.underlying22 rfl HPS.out ?_
              go_big_quiet_on
              simp only [Act.put, List.setIfInBounds_toArray, List.set_cons_zero, List.set_cons_succ]
              go_big_quiet_want
              refine q_load_row 22 (.tmp 3) rfl w.heap.size rfl 22 (iCells x) (0, 0) _ CR.out Try.underlying22 rfl HX.out ?_
              go_big_quiet_on
              simp only [Act.put, List.setIfInBounds_toArray, List.set_cons_zero, List.set_cons_succ]
              go_big_quiet_step (fail)
              go_big_quiet_step ((go_at_call 15; exact K2.out _ _))
              go_big_quiet_step (fail)
              go_big_quiet_step (fail)
              go_big_quiet_step (fail)
              go_big_quiet_want
              refine q_load_row 22 (.tmp 8) rfl gk rfl 22 (iCells K) (0, 0) _ CK.out Try.underlying22 rfl HPS.out ?_
              go_big_quiet_on
              simp only [Act.put, List.setIfInBounds_toArray, List.set_cons_zero, List.set_cons_succ]
              go_big_quiet_step ((go_at_call 10; exact K3.out _ _))
              repeat go_big_quiet_step (fail)
              refine wpQuiet_nil ?_
              intro _ hw'
              obtain ⟨⟨dq, osq⟩, hw''⟩ := hw'
              subst hw''
              have HBX := Lib.hid (HB.out.trans ((below_regrown wr dq osq).mono HB.out.size))
              clear K2 K3 CR CK
              generalize Sort.grow (redrawn wr dq) osq = w7 at *
              go_wp2_with fail
              go_ret
              exact ⟨rfl, HBX.out⟩
  · have d1 : decide (z ≥ 12) = true := decide_eq_true (by omega)
    have d2 : decide (12 ≤ z) = true := decide_eq_true (by omega)
    have d3 : decide (z ≤ 24) = true := decide_eq_true (by omega)
    have hv : bz18 z = 8 * z - 64 := if_pos (by omega)
    have hz2 : z ≤ 24 := by omega
    have hz1 : 12 ≤ z := by omega
    rw [hv] at HBZ
    clear hv
    go_wp2_with fail
    refine (HBZ.out _).mono ?_
    rintro e w3 ⟨rfl, hb⟩
    have HR := Lib.hid (HR.out.box hb)
    have HB := Lib.hid (HB.out.trans (hb.mono HB.out.size))
    clear hb
    try clear d3
    clear d1 d2
    go_wp2_with (refine wpList_load_row rfl 22 (.tmp 3) rfl w.heap.size rfl 22 (iCells x) (0, 0) _ HR.out Try.underlying22 rfl HX.out ?_)
    refine (HPU.out _).mono ?_
    rintro e w4 ⟨rfl, hb⟩
    have HR := Lib.hid (HR.out.box hb)
    have HB := Lib.hid (HB.out.trans (hb.mono HB.out.size))
    clear hb
    have HN : Hid (Row (w4.alloc (.cells (iCells zs8) 22)) w4.heap.size 22 (iCells zs8)) := Lib.hid (heap_alloc_new _ _)
    go_upto_region 9 with (refine wpList_store_row rfl 22 (.tmp 8) (.tmp 31) rfl w4.heap.size (iCells P) rfl rfl 22 (iCells zs8) HN.out HPS.out HPX.out (iCells_one _) ?_)
    have HGS := Lib.hid HB.out.size
    have NHRHK := Lib.hid (Nat.ne_of_lt (Row.lt HR.out))
    have HR := Lib.hid (row_laid HR.out (.cells (iCells zs8) 22) (iCells P))
    have HB := Lib.hid (below_laid HB.out (.cells (iCells zs8) 22) (iCells P))
    have HK := Lib.hid (Row.setRow HN.out (iCells P))
    generalize (w4.alloc (.cells (iCells zs8) 22)).setRow w4.heap.size (iCells P) = w5 at *
    obtain ⟨gk, hg⟩ : ∃ g, w4.heap.size = g := ⟨_, rfl⟩
    rw [hg] at HK HGS NHRHK ⊢
    clear hg HN
    go_wp2_with (refine wpList_load_row rfl 22 (.tmp 3) rfl w.heap.size rfl 22 (iCells x) (0, 0) _ HR.out Try.underlying22 rfl HX.out ?_)
    refine (HRT.out _).mono ?_
    rintro e w6 ⟨rfl, hb⟩
    have HR := Lib.hid (HR.out.box hb)
    have HK := Lib.hid (HK.out.box hb)
    have HB := Lib.hid (HB.out.trans (hb.mono HB.out.size))
    clear hb
    cases hR : R
    · subst hR
      obtain ⟨rfl, rfl⟩ := HNO.out fun ho => by
        have h1 := HOI.out.1 ho
        first | (cases h1.1; done) | (have := h1.2.1; have := h1.2.2; omega)
      have hEQ : ∀ w, (Op.equalIn 10000 22 (.agg (iCells e8z)) (.agg (iCells zs8))).run Try.prog w = .ok true w := fun w => eight_eq e8z zs8 (by decide) zs8_length w
      go_wp2_with (refine g_load_row (by rfl) 22 (.tmp 8) rfl gk rfl 22 (iCells e8z) (0, 0) _ HK.out Try.underlying22 rfl HPS.out ?_)
      go_ret
      exact ⟨rfl, HB.out⟩
    · subst hR
      by_cases hn1 : n < 0
      · have d1 : decide (n < 0) = true := decide_eq_true hn1
        obtain ⟨rfl, rfl⟩ := HNO.out fun ho => by
          have h1 := HOI.out.1 ho
          first | (cases h1.1; done) | (have := h1.2.1; have := h1.2.2; omega)
        have hEQ : ∀ w, (Op.equalIn 10000 22 (.agg (iCells e8z)) (.agg (iCells zs8))).run Try.prog w = .ok true w := fun w => eight_eq e8z zs8 (by decide) zs8_length w
        go_wp2_with (refine g_load_row (by rfl) 22 (.tmp 8) rfl gk rfl 22 (iCells e8z) (0, 0) _ HK.out Try.underlying22 rfl HPS.out ?_)
        go_ret
        exact ⟨rfl, HB.out⟩
      · have d1 : decide (n < 0) = false := decide_eq_false hn1
        by_cases hn2 : n > 1048576
        · have d2 : decide (n > 1048576) = true := decide_eq_true hn2
          have d3 : decide (1048576 < n) = true := decide_eq_true hn2
          obtain ⟨rfl, rfl⟩ := HNO.out fun ho => by
            have h1 := HOI.out.1 ho
            first | (cases h1.1; done) | (have := h1.2.1; have := h1.2.2; omega)
          have hEQ : ∀ w, (Op.equalIn 10000 22 (.agg (iCells e8z)) (.agg (iCells zs8))).run Try.prog w = .ok true w := fun w => eight_eq e8z zs8 (by decide) zs8_length w
          go_wp2_with (refine g_load_row (by rfl) 22 (.tmp 8) rfl gk rfl 22 (iCells e8z) (0, 0) _ HK.out Try.underlying22 rfl HPS.out ?_)
          go_ret
          exact ⟨rfl, HB.out⟩
        · have d2 : decide (n > 1048576) = false := decide_eq_false hn2
          have d3 : decide (1048576 < n) = false := decide_eq_false hn2
          obtain ⟨k, m, hnm, rfl, rfl, hk12, hgp, hgc⟩ := HOK.out (HOI.out.2 ⟨rfl, by omega, by omega⟩)
          have HK12 := Lib.hid hk12
          have HGP := Lib.hid hgp
          have HGC := Lib.hid hgc
          clear hk12 hgp hgc HOK HNO HOI hnm m
          go_wp2_with fail
          go_loopw [10, 11] (fun ss ii wr => ∃ (i s : Nat), i ≤ 8 ∧ s = sm18 k i ∧ s ≤ 13 * i ∧ ss = .int .i64 (s : Int) ∧ ii = .int .i64 (i : Int) ∧ Row wr w.heap.size 22 (iCells x) ∧ Row wr gk 22 (iCells (kl18 k)) ∧ Below w.heap.size w wr) (fun _ ii _ => 8 - (intOf ii).toNat)
          case atStart => exact ⟨0, 0, by omega, rfl, by omega, rfl, rfl, HR.out, HK.out, HB.out⟩
          case round =>
            clear HR HK HB
            obtain ⟨i, s, hi8, hs, hsb, rfl, rfl, hrr, hrk, hb⟩ := hrel
            have HR := Lib.hid hrr
            have HK := Lib.hid hrk
            have HB := Lib.hid hb
            clear hrr hb
            rcases Nat.lt_or_ge i 8 with hlt | hge
            · have HI := Lib.hid hlt
              have hiI : (i : Int) < 8 := by omega
              have c0 := i_at hrk i (by rw [kl18_len]; exact hlt)
              rw [kl18_at k i hlt] at c0
              have hv := HK12.out i hlt
              have hst : sm18 k (i + 1) = sm18 k i + btc (k i) := rfl
              rw [← hs] at hst
              obtain ⟨v, hkv⟩ : ∃ v, k i = v := ⟨_, rfl⟩
              rw [hkv] at c0 hv hst
              have HRBV := Lib.hid fun w => HRB.out v w hv
              have hbd := btc_bd v
              obtain ⟨u, hu⟩ : ∃ u, btc v = u := ⟨_, rfl⟩
              rw [hu] at hst hbd HRBV
              have HST := Lib.hid hst.symm
              have HSB := Lib.hid (show s + u ≤ 13 * (i + 1) by omega)
              have hsI : (s : Int) ≤ 104 := by omega
              have huI : (u : Int) ≤ 13 := by omega
              clear hi8 hlt hrk hv hkv hst hbd hu hs hsb
              go_wp2_with fail
              refine (HRBV.out _).mono ?_
              rintro e w20 ⟨rfl, hb⟩
              have HR := Lib.hid (HR.out.box hb)
              have HK := Lib.hid (HK.out.box hb)
              have HB := Lib.hid (HB.out.trans (hb.mono HB.out.size))
              clear hb c0 HRBV
              go_wp2_with fail
              go_roundw
              case rel => exact ⟨i + 1, s + u, HI.out, HST.out, HSB.out, by go_num, by go_num, HR.out, HK.out, HB.out⟩
              case measure =>
                have := HI.out
                simp [intOf] <;> omega
            · obtain rfl : i = 8 := by omega
              have hs2 : s = cst8 k := by rw [hs]; exact sm18_all k
              clear hi8 hge hs hsb hrk
              have CR : Hid (∀ W : World, (∃ p : Regrown, W = Sort.grow (redrawn wr p.d) p.os) → W.heap[w.heap.size]? = some (.cells (iCells x) 22 (0, 0))) := by
                rintro W ⟨p, rfl⟩
                exact HR.out.below (below_regrown wr p.d p.os) HR.out.lt
              have CK : Hid (∀ W : World, (∃ p : Regrown, W = Sort.grow (redrawn wr p.d) p.os) → W.heap[gk]? = some (.cells (iCells (kl18 k)) 22 (0, 0))) := by
                rintro W ⟨p, rfl⟩
                exact HK.out.below (below_regrown wr p.d p.os) HK.out.lt
              have K2 : Hid (∀ d os, Calls Try.prog 15 #[.agg (iCells x), .int .i64 n] (Sort.grow (redrawn wr d) os) fun e w'' => e = .returned (.agg (iCells (kl18 k))) ∧ ∃ p : Regrown, w'' = Sort.grow (redrawn wr p.d) p.os) :=
                Lib.hid fun d os => Calls.regrown_of (HGP.out _)
              have K3 : Hid (∀ d os, Calls Try.prog 10 #[.agg (iCells (kl18 k))] (Sort.grow (redrawn wr d) os) fun e w'' => e = .returned (.int .i64 (cst8 k : Nat)) ∧ ∃ p : Regrown, w'' = Sort.grow (redrawn wr p.d) p.os) :=
                Lib.hid fun d os => Calls.regrown_of (HGC.out _)
              rw [← hs2] at K3
              have hEQ : ∀ w, (Op.equalIn 10000 22 (.agg (iCells (kl18 k))) (.agg (iCells (kl18 k)))).run Try.prog w = .ok true w := fun w => by
                have := eight_eq (kl18 k) (kl18 k) (kl18_len k) (kl18_len k) w
                rw [beq_self_eq_true] at this
                exact this
              clear hs2 HGP HGC HK12
              generalize kl18 k = K at *
              have k0 : ((s : Int) == (s : Int)) = true := beq_self_eq_true _
              go_wp2_with fail
              refine wp_region_quiet_below (by kernel_rfl) (by kernel_rfl) ?_
              go_big_quiet_step (fail)
              go_big_quiet_step (fail)
              go_big_quiet_step (fail)
              go_big_quiet_want
              refine q_load_row 22 (.tmp 8) rfl gk rfl 22 (iCells K) (0, 0) _ CK.out Try.underlying22 rfl HPS.out ?_
              go_big_quiet_on
              simp only [Act.put, List.setIfInBounds_toArray, List.set_cons_zero, List.set_cons_succ]
              go_big_quiet_want
              refine q_load_row 22 (.tmp 3) rfl w.heap.size rfl 22 (iCells x) (0, 0) _ CR.out Try.underlying22 rfl HX.out ?_
              go_big_quiet_on
              simp only [Act.put, List.setIfInBounds_toArray, List.set_cons_zero, List.set_cons_succ]
              go_big_quiet_step (fail)
              go_big_quiet_step ((go_at_call 15; exact K2.out _ _))
              go_big_quiet_step (fail)
              go_big_quiet_step (fail)
              go_big_quiet_step (fail)
              go_big_quiet_want
              refine q_load_row 22 (.tmp 8) rfl gk rfl 22 (iCells K) (0, 0) _ CK.out Try.underlying22 rfl HPS.out ?_
              go_big_quiet_on
              simp only [Act.put, List.setIfInBounds_toArray, List.set_cons_zero, List.set_cons_succ]
              go_big_quiet_step ((go_at_call 10; exact K3.out _ _))
              repeat go_big_quiet_step (fail)
              refine wpQuiet_nil ?_
              intro _ hw'
              obtain ⟨⟨dq, osq⟩, hw''⟩ := hw'
              subst hw''
              have HBX := Lib.hid (HB.out.trans ((below_regrown wr dq osq).mono HB.out.size))
              clear K2 K3 CR CK
              generalize Sort.grow (redrawn wr dq) osq = w7 at *
              go_wp2_with fail
              go_ret
              exact ⟨rfl, HBX.out⟩
end Go.Proofs.Ytkjbobgmnpifoaa
