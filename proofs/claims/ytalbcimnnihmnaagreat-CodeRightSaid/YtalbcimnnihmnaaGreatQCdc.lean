/-
  CodeRight, walked. Conditions: a frame's 32 numbers, two numbers below 2^8; what code's Shape and Coefs, pack's Right, Lay and Read and give's Bits answer.
-/
import Derived.Test.YtalbcimnnihmnaaGreatQS13
import Derived.Test.YtalbcimnnihmnaaGreatQS14
import Derived.Test.YtalbcimnnihmnaaGreatQQtl
namespace Go.Proofs.YtalbcimnnihmnaaGreat
open Go.RowKit
open M
theorem s40_i20 : (Tryz.prog.info? 30).map (·.size) = some 40 := (zero_of_info s40_info).2
set_option maxRecDepth 100000 in
set_option maxHeartbeats 2000000 in
theorem right20_law (HS : ShaOk) (HC : CofOk) (HG : RigOk) (HL : LayOk) (HRe : RedOk) (HZ : BizOk) (f : List Int) (by8 fr8 : UInt8) (w : World) (hf : f.length = 32) :
    Calls Tryz.prog 3 #[.agg (iCells f), .int .u8 (ub by8), .int .u8 (ub fr8)] w fun e w' => e = .returned (.bool true) ∧ Below w.heap.size w w' := by
  obtain ⟨hu1, hu2⟩ := ub_bd by8
  generalize ub by8 = u at *
  obtain ⟨z, hzu⟩ : ∃ z : Nat, 12 + u.tmod 13 = z := ⟨(12 + u.tmod 13).toNat, by have := Int.tmod_nonneg 13 hu1; omega⟩
  have hz1 : 12 ≤ z := by have := Int.tmod_nonneg 13 hu1; omega
  have hz2 : z ≤ 24 := by have := Int.tmod_lt_of_pos u (show (0 : Int) < 13 by decide); omega
  obtain ⟨q, hqu⟩ : ∃ q : Nat, u.tmod 13 = q := ⟨(u.tmod 13).toNat, by have := Int.tmod_nonneg 13 hu1; omega⟩
  have hzq : (12 : Int) + (q : Int) = (z : Int) := by omega
  clear hzu
  obtain ⟨k, hk⟩ : ∃ k : Nat, ub fr8 = (k : Int) := ⟨fr8.toNat, rfl⟩
  have hk255 : k ≤ 255 := by have := (ub_bd fr8).2; omega
  rw [hk]
  have HAW := Lib.hid fun w => awake20_any HS HZ w
  have HSA := Lib.hid fun w => HS f (z : Int) w hf
  rw [(sh_in f z hz1 hz2).1, (sh_in f z hz1 hz2).2] at HSA
  have hr := sh_right f z hz1 hz2
  have hLA := sh20_len f (8 * z - 64)
  obtain ⟨S, hS⟩ : ∃ S, sh20 f (8 * z - 64) = S := ⟨_, rfl⟩
  rw [hS] at HSA hr hLA
  have HRG := Lib.hid fun w => HG S (z : Int) w hLA
  rw [hr] at HRG
  obtain ⟨he, ht⟩ := laE_in k z S ⟨hz1, hz2⟩ (by omega) hr
  have HLY := Lib.hid fun w => HL k S z w hLA
  rw [he, ht] at HLY
  obtain ⟨b1, b2⟩ := ly_back k z S hLA hr (by omega)
  have hsz := ly_size k z S hr
  have HBU := Lib.hid (pk_built k S hLA)
  obtain ⟨T, hT⟩ : ∃ T, ly19 k S z = T := ⟨_, rfl⟩
  rw [hT] at HLY b1 b2 hsz
  have HRD := Lib.hid fun w => HRe T w (by omega)
  rw [b1, b2] at HRD
  have hpl : ((k : Int) :: S).length = 41 := by rw [List.length_cons, hLA]
  have HPT : Hid (pto ((k : Int) :: S) 1 40 = S) := Lib.hid ((tm_ext S 40 _ hLA fun i hi => by rw [Nat.add_comm 1 i, List.getD_cons_succ]).symm)
  obtain ⟨p, hp⟩ : ∃ p, (k : Int) :: S = p := ⟨_, rfl⟩
  rw [hp] at HLY HRD HBU HPT hpl
  have HPS := Lib.hid (pkt_size p hpl)
  have HPX := Lib.hid (pkt_same zp41 p zp41_length hpl)
  have HPL := Lib.hid (show 1 + 40 ≤ p.length by rw [hpl]; decide)
  have HSS := Lib.hid (s40_size S hLA)
  have HSX := Lib.hid (s40_same z40 S z40_length hLA)
  have HCF := Lib.hid fun w => HC S w hLA
  have hcl : (cf20 S).length = 32 := cp20_len _ _
  obtain ⟨F, hF⟩ : ∃ F, cf20 S = F := ⟨_, rfl⟩
  rw [hF] at HCF hcl
  have HEA : Hid (∀ w, (Op.equalIn 10000 30 (.agg (iCells S)) (.agg (iCells S))).run Tryz.prog w = .ok true w) := Lib.hid fun w => by
    have := shape_eq S S hLA hLA w
    rw [beq_self_eq_true] at this
    exact this
  have HEF : Hid (∀ w, (Op.equalIn 10000 41 (.agg (iCells F)) (.agg (iCells F))).run Tryz.prog w = .ok true w) := Lib.hid fun w => by
    have := eqI_ints 9998 32 Tryz.underlying41 F F w hcl hcl
    rw [beq_self_eq_true] at this
    exact this
  have HF := Lib.hid (f32n_size f hf)
  have hz := s40_zero
  have hzp := pkt_zero
  have hzI : (z : Int) ≤ 24 := by omega
  have hkI : (k : Int) ≤ 255 := by omega
  have HR : Hid (Row (w.alloc (.cells (iCells f) 22)) w.heap.size 22 (iCells f)) := Lib.hid (heap_alloc_new _ _)
  have HB : Hid (Below w.heap.size w (w.alloc (.cells (iCells f) 22))) := Lib.hid ((Below.refl _ _).alloc (Nat.le_refl _) _)
  clear hf hS hF hcl hp hpl hLA hT hsz b1 b2 he ht hr hz1 hz2 HS HZ HC HG HL HRe hk hk255
  go_enter Tryz.func3, Tryz.ntmps3
  go_wp2_with fail
  generalize w.alloc (.cells (iCells f) 22) = w1 at *
  refine (HAW.out _).mono ?_
  rintro e w2 ⟨rfl, hb⟩
  have HR := Lib.hid (HR.out.box hb)
  have HB := Lib.hid (HB.out.trans (hb.mono HB.out.size))
  clear hb
  go_wp2_with (refine wpList_load_row rfl 22 (.tmp 3) rfl w.heap.size rfl 22 (iCells f) (0, 0) _ HR.out Tryz.underlying22 rfl HF.out ?_)
  refine (HSA.out _).mono ?_
  rintro e w3 ⟨rfl, hb⟩
  have HR := Lib.hid (HR.out.box hb)
  have HB := Lib.hid (HB.out.trans (hb.mono HB.out.size))
  clear hb
  have HN : Hid (Row (w3.alloc (.cells (iCells z40) 30)) w3.heap.size 30 (iCells z40)) := Lib.hid (heap_alloc_new _ _)
  go_upto_region 5 with (refine wpList_store_row rfl 30 (.tmp 8) (.tmp 24) rfl w3.heap.size (iCells S) rfl rfl 30 (iCells z40) HN.out HSS.out HSX.out (iCells_one _) ?_)
  have HGS := Lib.hid HB.out.size
  have NHRHA := Lib.hid (Nat.ne_of_lt (Row.lt HR.out))
  have HR := Lib.hid (row_laid HR.out (.cells (iCells z40) 30) (iCells S))
  have HB := Lib.hid (below_laid HB.out (.cells (iCells z40) 30) (iCells S))
  have HA := Lib.hid (Row.setRow HN.out (iCells S))
  generalize (w3.alloc (.cells (iCells z40) 30)).setRow w3.heap.size (iCells S) = w4 at *
  obtain ⟨ga, hg⟩ : ∃ g, w3.heap.size = g := ⟨_, rfl⟩
  rw [hg] at HA HGS NHRHA ⊢
  clear hg HN
  go_wp2_with (refine g_load_row (by rfl) 30 (.tmp 8) rfl ga rfl 30 (iCells S) (0, 0) _ HA.out Tryz.underlying30 rfl HSS.out ?_)
  refine (HRG.out _).mono ?_
  rintro e w5 ⟨rfl, hb⟩
  have HA := Lib.hid (HA.out.box hb)
  have HB := Lib.hid (HB.out.trans (hb.mono HB.out.size))
  clear hb
  go_wp2_with (first
    | (refine wpList_load_row rfl 30 (.tmp 8) rfl ga rfl 30 (iCells S) (0, 0) _ HA.out Tryz.underlying30 rfl HSS.out ?_)
    | (refine wpList_build_two rfl 38 (.tmp 36) (.tmp 37) rfl (.int .i64 (k : Int)) (.agg (iCells S)) rfl rfl (iCells p) HBU.out ?_))
  refine (HLY.out _).mono ?_
  rintro e w6 ⟨rfl, hb⟩
  have HA := Lib.hid (HA.out.box hb)
  have HB := Lib.hid (HB.out.trans (hb.mono HB.out.size))
  clear hb
  go_wp2_with fail
  refine (HRD.out _).mono ?_
  rintro e w7 ⟨rfl, hb⟩
  have HA := Lib.hid (HA.out.box hb)
  have HB := Lib.hid (HB.out.trans (hb.mono HB.out.size))
  clear hb
  have HN : Hid (Row (w7.alloc (.cells (iCells zp41) 38)) w7.heap.size 38 (iCells zp41)) := Lib.hid (heap_alloc_new _ _)
  go_upto_region 9 with (refine wpList_store_row rfl 38 (.tmp 12) (.tmp 46) rfl w7.heap.size (iCells p) rfl rfl 38 (iCells zp41) HN.out HPS.out HPX.out (iCells_one _) ?_)
  have HGS := Lib.hid HB.out.size
  have NHAHP := Lib.hid (Nat.ne_of_lt (Row.lt HA.out))
  have HA := Lib.hid (row_laid HA.out (.cells (iCells zp41) 38) (iCells p))
  have HB := Lib.hid (below_laid HB.out (.cells (iCells zp41) 38) (iCells p))
  have HP := Lib.hid (Row.setRow HN.out (iCells p))
  generalize (w7.alloc (.cells (iCells zp41) 38)).setRow w7.heap.size (iCells p) = w8 at *
  obtain ⟨gp, hg⟩ : ∃ g, w7.heap.size = g := ⟨_, rfl⟩
  rw [hg] at HP HGS NHAHP ⊢
  clear hg HN
  have hEA := HEA.out
  have hEF := HEF.out
  have CA : Hid (∀ W : World, (∃ p : Regrown, W = Sort.grow (redrawn w8 p.d) p.os) → W.heap[ga]? = some (.cells (iCells S) 30 (0, 0))) := by
    rintro W ⟨p, rfl⟩
    exact HA.out.below (below_regrown w8 p.d p.os) HA.out.lt
  have CP : Hid (∀ W : World, (∃ p : Regrown, W = Sort.grow (redrawn w8 p.d) p.os) → Row W gp 38 (iCells p)) := by
    rintro W ⟨q, rfl⟩
    exact HP.out.below (below_regrown w8 q.d q.os) HP.out.lt
  have K2 : Hid (∀ d os, Calls Tryz.prog 9 #[.agg (iCells S)] (Sort.grow (redrawn w8 d) os) fun e w'' => e = .returned (.agg (iCells F)) ∧ ∃ p : Regrown, w'' = Sort.grow (redrawn w8 p.d) p.os) :=
    Lib.hid fun d os => Calls.regrown_of (HCF.out _)
  refine wp_region_quiet_below (by kernel_rfl) (by kernel_rfl) ?_
  go_big_quiet_step (fail)
  go_big_quiet_step (fail)
  go_big_quiet_step (fail)
  go_big_quiet_step (fail)
  go_big_quiet_step (fail)
  go_big_quiet_step (fail)
  go_big_quiet_step (fail)
  go_big_quiet_step (fail)
  go_big_quiet_want
  refine q_load_pto 30 (.tmp 55) rfl gp 1 40 rfl 38 p _ CP.out HPL.out sh_under rfl s40_i20 ?_
  rw [HPT.out]
  go_big_quiet_on
  simp only [Act.put, List.setIfInBounds_toArray, List.set_cons_zero, List.set_cons_succ]
  go_big_quiet_want
  refine q_load_row 30 (.tmp 8) rfl ga rfl 30 (iCells S) (0, 0) _ CA.out Tryz.underlying30 rfl HSS.out ?_
  go_big_quiet_on
  simp only [Act.put, List.setIfInBounds_toArray, List.set_cons_zero, List.set_cons_succ]
  go_big_quiet_step (fail)
  go_big_quiet_step (fail)
  go_big_quiet_step (fail)
  go_big_quiet_step (fail)
  go_big_quiet_want
  refine q_load_pto 30 (.tmp 61) rfl gp 1 40 rfl 38 p _ CP.out HPL.out sh_under rfl s40_i20 ?_
  rw [HPT.out]
  go_big_quiet_on
  simp only [Act.put, List.setIfInBounds_toArray, List.set_cons_zero, List.set_cons_succ]
  go_big_quiet_step ((go_at_call 9; exact K2.out _ _))
  go_big_quiet_want
  refine q_load_row 30 (.tmp 8) rfl ga rfl 30 (iCells S) (0, 0) _ CA.out Tryz.underlying30 rfl HSS.out ?_
  go_big_quiet_on
  simp only [Act.put, List.setIfInBounds_toArray, List.set_cons_zero, List.set_cons_succ]
  go_big_quiet_step ((go_at_call 9; exact K2.out _ _))
  repeat go_big_quiet_step (fail)
  refine wpQuiet_nil ?_
  intro _ hw'
  obtain ⟨⟨dq, osq⟩, hw''⟩ := hw'
  subst hw''
  have HBX := Lib.hid (HB.out.trans ((below_regrown w8 dq osq).mono HB.out.size))
  clear K2 CA CP
  generalize Sort.grow (redrawn w8 dq) osq = w30 at *
  go_wp2_with fail
  go_ret
  exact ⟨rfl, HBX.out⟩
end Go.Proofs.YtalbcimnnihmnaaGreat
