/-
  PackBack, walked. Conditions: a number below 2^16, eight ints and eight numbers below 2^32, three bytes; what pack's functions answer, and the reference's Count.
-/
import Derived.Test.YtoohahjmiljpgaaQS17
import Derived.Test.YtoohahjmiljpgaaQS18
import Derived.Test.YtoohahjmiljpgaaQCsf
namespace Go.Proofs.Ytoohahjmiljpgaa
open Go.RowKit
open M
theorem s40_i : (Try.prog.info? 32).map (·.size) = some 40 := (zero_of_info s40_info).2
set_option maxRecDepth 100000 in
set_option maxHeartbeats 4000000 in
theorem back19_law (HL : LayOk) (HRe : RedOk) (HPe : PekOk) (HG : RigOk) (HCt : CtOk) (n : Nat) (x l : List Int) (by8 at8 m8 : UInt8) (w : World) (hn : n ≤ 65535) (hx : x.length = 8) (hl : l.length = 8)
    (hbl : ∀ v ∈ l, 0 ≤ v ∧ v ≤ 4294967295) :
    Calls Try.prog 3 #[.int .u16 (n : Int), .agg (iCells x), .agg (vCells l), .int .u8 (ub by8), .int .u8 (ub at8), .int .u8 (ub m8)] w fun e w' => e = .returned (.bool true) ∧ Below w.heap.size w w' := by
  obtain ⟨hu1, hu2⟩ := ub_bd by8
  generalize ub by8 = u at *
  obtain ⟨z, hzu⟩ : ∃ z : Nat, 12 + u.tmod 13 = z := ⟨(12 + u.tmod 13).toNat, by have := Int.tmod_nonneg 13 hu1; omega⟩
  have hz1 : 12 ≤ z := by have := Int.tmod_nonneg 13 hu1; omega
  have hz2 : z ≤ 24 := by have := Int.tmod_lt_of_pos u (show (0 : Int) < 13 by decide); omega
  obtain ⟨q, hqu⟩ : ∃ q : Nat, u.tmod 13 = q := ⟨(u.tmod 13).toNat, by have := Int.tmod_nonneg 13 hu1; omega⟩
  have hzq : (12 : Int) + (q : Int) = (z : Int) := by omega
  clear hzu
  have hr1 := shp_right x l z hz1 hz2
  have hL1 := shp_len x l (8 * z - 64)
  have HS1 := Lib.hid fun w => lshape_any HCt x l z w hx hl hbl hz1 hz2
  obtain ⟨A, hA1⟩ : ∃ A, shp x l (8 * z - 64) = A := ⟨_, rfl⟩
  rw [hA1] at hr1 hL1 HS1
  obtain ⟨he1, ht1⟩ := laE_in n z A ⟨hz1, hz2⟩ hn hr1
  have HLA1 := Lib.hid fun w => HL n A z w hL1
  rw [he1, ht1] at HLA1
  have hk1 := (ly_back n z A hL1 hr1 (by omega)).2
  have HBU1 := Lib.hid (pk_built n A hL1)
  have hl1 : (((n : Nat) : Int) :: A).length = 41 := by rw [List.length_cons, hL1]
  have HAW := Lib.hid fun w => awake19_any HL HCt w
  have hs1 := ly_size n z A hr1
  have he0 := (ly_back n z A hL1 hr1 (by omega)).1
  have hf1 := (ly_fields n z A hr1 (by omega)).1
  have hso := ly_sealed n z A
  obtain ⟨T, hT⟩ : ∃ T, ly19 n A z = T := ⟨_, rfl⟩
  rw [hT] at HLA1 hs1 he0 hf1 hso hk1
  have HRD := Lib.hid fun w => HRe T w (by omega)
  have HPK := Lib.hid fun w => HPe T w (by omega)
  rw [hk1, he0] at HRD
  rw [if_pos he0, decide_eq_true he0, hf1] at HPK
  obtain ⟨p, hp⟩ : ∃ p, (n : Int) :: A = p := ⟨_, rfl⟩
  have HPT : Hid (∀ w, Calls Try.prog 12 #[.agg (iCells (pto p 1 40)), .int .i64 (z : Int)] w fun e w' => e = .returned (.bool true) ∧ Below w.heap.size w w') := Lib.hid fun w => by
    have e : pto p 1 40 = A := by
      refine (tm_ext A 40 _ hL1 fun i hi => ?_).symm
      rw [← hp, Nat.add_comm 1 i, List.getD_cons_succ]
    have h := HG A z w hL1
    rw [hr1] at h
    rw [e]; exact h
  have HPL : Hid (1 + 40 ≤ p.length) := Lib.hid (by rw [← hp, hl1]; omega)
  have HEP : Hid (∀ w, (Op.equalIn 10000 35 (.agg (iCells p)) (.agg (iCells p))).run Try.prog w = .ok true w) := Lib.hid fun w => by
    have := packet_eq p p (by rw [← hp]; exact hl1) (by rw [← hp]; exact hl1) w
    rw [beq_self_eq_true] at this
    exact this
  rw [hp] at HBU1 HLA1 HRD hl1
  have HPS := Lib.hid (pkt_size p hl1)
  have HPX := Lib.hid (pkt_same zp41 p zp41_length hl1)
  obtain ⟨ha1, ha2⟩ := ub_bd at8
  generalize ub at8 = va at *
  have hz0 : (z : Int) ≠ 0 := by omega
  have hz01 : ¬ (z : Int) = 0 := by omega
  have hz02 : ¬ z = 0 := by omega
  obtain ⟨i, hi⟩ : ∃ i : Nat, va.tmod (z : Int) = i := ⟨(va.tmod (z : Int)).toNat, by have := Int.tmod_nonneg (z : Int) ha1; omega⟩
  have hiz : i < z := by have := Int.tmod_lt_of_pos va (show (0 : Int) < (z : Int) by omega); omega
  have hiI : (i : Int) < (z : Int) := by omega
  have hLl : (bl T).length = z := hs1
  obtain ⟨c, hc⟩ : ∃ c, (bl T).getD i 0 = c := ⟨_, rfl⟩
  have hxor := u8_xor_ub c m8
  have hV : ((bl T).set i (c ^^^ m8)).length = z := by rw [List.length_set, hLl]
  have hVs : (ofB ((bl T).set i (c ^^^ m8))).size = z := by rw [ofB_size, hV]
  have HV0 : Hid (m8 = 0 → e19 (ofB ((bl T).set i (c ^^^ m8))) = 0) := Lib.hid fun h => by
    rw [h, UInt8.xor_zero, ← hc]
    have e : (bl T).set i ((bl T).getD i 0) = bl T := getD_ext8 _ _ (by rw [List.length_set]) fun j hj => by
      rw [gD_set _ _ _ _ _ (by omega)]
      by_cases e : i = j
      · rw [if_pos e, e]
      · rw [if_neg e]
    rw [e, ofB_bl, he0]
  have HV4 : Hid (m8 ≠ 0 → e19 (ofB ((bl T).set i (c ^^^ m8))) = 4 ∧ p19 (ofB ((bl T).set i (c ^^^ m8))) = pk0) := Lib.hid fun h => by
    have hs : so19 (ofB ((bl T).set i (c ^^^ m8))) = false := by
      have h2 : crun r15 (tbt (bl T)) = 0 := by unfold so19 at hso; exact beq_iff_eq.1 hso
      have h3 := spoilt19 (bl T) i m8 (by omega) h h2
      rw [hc] at h3
      unfold so19
      rw [bl_ofB]
      exact beq_eq_false_iff_ne.2 h3
    have e : e19 (ofB ((bl T).set i (c ^^^ m8))) = 4 := by
      unfold e19
      rw [hVs, if_pos ⟨hz1, hz2⟩, hs]
      rfl
    exact ⟨e, by unfold p19; rw [e]; rfl⟩
  have HRV := Lib.hid fun w => HRe (ofB ((bl T).set i (c ^^^ m8))) w (by omega)
  have hRl : (p19 (ofB ((bl T).set i (c ^^^ m8)))).length = 41 := by
    unfold p19
    split
    · rw [List.length_cons, sh19_len]
    · unfold pk0; rw [List.length_replicate]
  obtain ⟨G, hG⟩ : ∃ G, e19 (ofB ((bl T).set i (c ^^^ m8))) = G := ⟨_, rfl⟩
  obtain ⟨R, hR⟩ : ∃ R, p19 (ofB ((bl T).set i (c ^^^ m8))) = R := ⟨_, rfl⟩
  rw [hG] at HRV HV0 HV4
  rw [hR] at HRV HV4 hRl
  have HRS := Lib.hid (pkt_size R hRl)
  have HRX := Lib.hid (pkt_same zp41 R zp41_length hRl)
  have HM0 : Hid ((m8 = 0 → (ub m8 == 0) = true ∧ (ub m8 != 0) = false) ∧ (m8 ≠ 0 → (ub m8 == 0) = false ∧ (ub m8 != 0) = true)) := Lib.hid (by
    refine ⟨fun h => by rw [h]; exact ⟨rfl, rfl⟩, fun h => ?_⟩
    have h2 : ub m8 ≠ 0 := fun e => h (UInt8.toNat_inj.1 (by unfold ub at e; simpa using e))
    rw [bne_eq, beq_eq_false_iff_ne.2 h2]
    exact ⟨rfl, rfl⟩)
  have HLL := Lib.hid hLl
  have HXOR := Lib.hid hxor
  have HVL := Lib.hid hV
  have HC := Lib.hid hc
  have HIZ := Lib.hid hiz
  have HX := Lib.hid (i8_size x hx)
  have HLS := Lib.hid (v8_size l hl)
  have hz := pkt_zero
  have HR1 : Hid (Row ((w.alloc (.cells (iCells x) 23)).alloc (.cells (vCells l) 25)) w.heap.size 23 (iCells x)) := Lib.hid (Row.alloc (heap_alloc_new _ _) _)
  have HR3 : Hid (Row ((w.alloc (.cells (iCells x) 23)).alloc (.cells (vCells l) 25)) (w.heap.size + 1) 25 (vCells l)) := Lib.hid (row_new _ _ (by simp) _ _)
  have HB : Hid (Below w.heap.size w ((w.alloc (.cells (iCells x) 23)).alloc (.cells (vCells l) 25))) := Lib.hid (((Below.refl _ _).alloc (Nat.le_refl _) _).alloc (by simp) _)
  have hnI : (n : Int) ≤ 65535 := by omega
  have hzI : (z : Int) ≤ 24 := by omega
  have hnn : ((n : Int) == (n : Int)) = true := beq_self_eq_true _
  clear hx hl hbl hT hl1 hk1 he1 ht1 hr1 hA1 hL1 hz1 hz2 hn HL HCt HG HRe HPe he0 hf1 hso hp hc hV hVs hRl hG hR hLl hiz
  go_enter Try.func3, Try.ntmps3
  go_wp2_with fail
  generalize (w.alloc (.cells (iCells x) 23)).alloc (.cells (vCells l) 25) = w1 at *
  refine (HAW.out _).mono ?_
  rintro e w2 ⟨rfl, hb⟩
  have HR1 := Lib.hid (HR1.out.box hb)
  have HR3 := Lib.hid (HR3.out.box hb)
  have HB := Lib.hid (HB.out.trans (hb.mono HB.out.size))
  clear hb
  go_wp2_with (first
    | (refine wpList_load_row rfl 23 (.tmp 7) rfl w.heap.size rfl 23 (iCells x) (0, 0) _ HR1.out Try.underlying23 rfl HX.out ?_)
    | (refine wpList_load_row rfl 25 (.tmp 8) rfl (w.heap.size + 1) rfl 25 (vCells l) (0, 0) _ HR3.out Try.underlying25 rfl HLS.out ?_))
  refine (HS1.out _).mono ?_
  rintro e w3 ⟨rfl, hb⟩
  have HR1 := Lib.hid (HR1.out.box hb)
  have HR3 := Lib.hid (HR3.out.box hb)
  have HB := Lib.hid (HB.out.trans (hb.mono HB.out.size))
  clear hb
  have HN : Hid (Row (w3.alloc (.cells (iCells zp41) 35)) w3.heap.size 35 (iCells zp41)) := Lib.hid (heap_alloc_new _ _)
  go_upto_region 5 with (first
    | (refine wpList_build_two rfl 35 (.tmp 31) (.tmp 35) rfl (.int .i64 (n : Int)) (.agg (iCells A)) rfl rfl (iCells p) HBU1.out ?_)
    | (refine wpList_store_row rfl 35 (.tmp 14) (.tmp 36) rfl w3.heap.size (iCells p) rfl rfl 35 (iCells zp41) HN.out HPS.out HPX.out (iCells_one _) ?_))
  have HGS := Lib.hid HB.out.size
  have NHR1HP := Lib.hid (Nat.ne_of_lt (Row.lt HR1.out))
  have NHR3HP := Lib.hid (Nat.ne_of_lt (Row.lt HR3.out))
  have HR1 := Lib.hid (row_laid HR1.out (.cells (iCells zp41) 35) (iCells p))
  have HR3 := Lib.hid (row_laid HR3.out (.cells (iCells zp41) 35) (iCells p))
  have HB := Lib.hid (below_laid HB.out (.cells (iCells zp41) 35) (iCells p))
  have HP := Lib.hid (Row.setRow HN.out (iCells p))
  generalize (w3.alloc (.cells (iCells zp41) 35)).setRow w3.heap.size (iCells p) = w4 at *
  obtain ⟨gp, hg⟩ : ∃ g, w3.heap.size = g := ⟨_, rfl⟩
  rw [hg] at HP HGS NHR1HP NHR3HP ⊢
  clear hg HN
  go_wp2_with (refine wpList_load_row rfl 35 (.tmp 14) rfl gp rfl 35 (iCells p) (0, 0) _ HP.out Try.underlying35 rfl HPS.out ?_)
  refine (HLA1.out _).mono ?_
  rintro e w5 ⟨rfl, hb⟩
  have HP := Lib.hid (HP.out.box hb)
  have HB := Lib.hid (HB.out.trans (hb.mono HB.out.size))
  clear hb
  go_wp2_with fail
  refine (HRD.out _).mono ?_
  rintro e w6 ⟨rfl, hb⟩
  have HP := Lib.hid (HP.out.box hb)
  have HB := Lib.hid (HB.out.trans (hb.mono HB.out.size))
  clear hb
  have HN : Hid (Row (w6.alloc (.cells (iCells zp41) 35)) w6.heap.size 35 (iCells zp41)) := Lib.hid (heap_alloc_new _ _)
  go_upto_region 7 with (refine wpList_store_row rfl 35 (.tmp 17) (.tmp 46) rfl w6.heap.size (iCells p) rfl rfl 35 (iCells zp41) HN.out HPS.out HPX.out (iCells_one _) ?_)
  have HGS := Lib.hid HB.out.size
  have NHPHQ := Lib.hid (Nat.ne_of_lt (Row.lt HP.out))
  have HP := Lib.hid (row_laid HP.out (.cells (iCells zp41) 35) (iCells p))
  have HB := Lib.hid (below_laid HB.out (.cells (iCells zp41) 35) (iCells p))
  have HQ := Lib.hid (Row.setRow HN.out (iCells p))
  generalize (w6.alloc (.cells (iCells zp41) 35)).setRow w6.heap.size (iCells p) = w7 at *
  obtain ⟨gq, hg⟩ : ∃ g, w6.heap.size = g := ⟨_, rfl⟩
  rw [hg] at HQ HGS NHPHQ ⊢
  clear hg HN
  have hEP := HEP.out
  go_wp2_with (first
    | (refine g_load_row (by rfl) 35 (.tmp 17) rfl gq rfl 35 (iCells p) (0, 0) _ HQ.out Try.underlying35 rfl HPS.out ?_)
    | (refine g_load_row (by rfl) 35 (.tmp 14) rfl gp rfl 35 (iCells p) (0, 0) _ HP.out Try.underlying35 rfl HPS.out ?_)
    | (refine g_load_pto (by rfl) 32 (.tmp 66) rfl gp 1 40 rfl 35 p _ HP.out HPL.out sh_under rfl s40_i ?_))
  refine (HPT.out _).mono ?_
  rintro e w8 ⟨rfl, hb⟩
  have HP := Lib.hid (HP.out.box hb)
  have HQ := Lib.hid (HQ.out.box hb)
  have HB := Lib.hid (HB.out.trans (hb.mono HB.out.size))
  clear hb
  go_wp2_with fail
  refine (HPK.out _).mono ?_
  rintro e w9 ⟨rfl, hb⟩
  have HB := Lib.hid (HB.out.trans (hb.mono HB.out.size))
  clear hb
  have v1 := conv_new w9 T
  have HB2 := Lib.hid (HB.out.trans ((newB_below w9 T).mono HB.out.size))
  have HBT := Lib.hid (newB_at w9 T)
  have HGB := Lib.hid (show w.heap.size ≤ w9.heap.size from HB.out.size)
  rw [hs1] at v1
  clear HPT HPL HEP hEP HPK HB hxor
  have hxor := HXOR.out
  go_upto_region 11 with fail
  obtain ⟨cp, hcp⟩ : ∃ cp, capB w9 T = cp := ⟨_, rfl⟩
  rw [hcp] at v1 ⊢
  have HLT2 := Lib.hid (show w9.heap.size < (newB w9 T).heap.size by rw [newB_size]; omega)
  clear v1 hcp
  generalize newB w9 T = w20 at *
  obtain ⟨g, hg⟩ : ∃ g, w9.heap.size = g := ⟨_, rfl⟩
  rw [hg] at HBT HGB HLT2 ⊢
  clear hg
  have c0 := HBT.out.at' i (by rw [HLL.out]; exact HIZ.out)
  rw [HC.out] at c0
  have f0 := HBT.out.free i (by rw [HLL.out]; exact HIZ.out)
  have HBS := Lib.hid (HBT.out.set i (c ^^^ m8) (by rw [HLL.out]; exact HIZ.out))
  have HB := Lib.hid (Below.setCell HB2.out (p := ⟨g, i, none⟩) (by have := HGB.out; simp only; omega) (.int .u8 (ub (c ^^^ m8))))
  go_upto_region 12 with fail
  clear c0 f0 HBT HB2 hxor
  generalize w20.setCell ⟨g, i, none⟩ (.int .u8 (ub (c ^^^ m8))) = w21 at *
  have v2 := conv_back w21 g z cp _ HVL.out HBS.out
  go_wp2_with fail
  refine (HRV.out _).mono ?_
  rintro e w22 ⟨rfl, hb⟩
  have HB := Lib.hid (HB.out.trans (hb.mono HB.out.size))
  clear hb
  clear v2
  have HN : Hid (Row (w22.alloc (.cells (iCells zp41) 35)) w22.heap.size 35 (iCells zp41)) := Lib.hid (heap_alloc_new _ _)
  go_upto_region 13 with (refine wpList_store_row rfl 35 (.tmp 22) (.tmp 93) rfl w22.heap.size (iCells R) rfl rfl 35 (iCells zp41) HN.out HRS.out HRX.out (iCells_one _) ?_)
  have HGS := Lib.hid HB.out.size
  have HB := Lib.hid (below_laid HB.out (.cells (iCells zp41) 35) (iCells R))
  have HZ := Lib.hid (Row.setRow HN.out (iCells R))
  generalize (w22.alloc (.cells (iCells zp41) 35)).setRow w22.heap.size (iCells R) = w23 at *
  obtain ⟨gz, hg⟩ : ∃ g, w22.heap.size = g := ⟨_, rfl⟩
  rw [hg] at HZ HGS  ⊢
  clear hg HN
  by_cases hm : m8 = 0
  · obtain rfl := HV0.out hm
    obtain ⟨m1, m2⟩ := HM0.out.1 hm
    obtain ⟨vm, hvm⟩ : ∃ v, ub m8 = v := ⟨_, rfl⟩
    rw [hvm] at m1 m2 ⊢
    go_wp2_with fail
    go_ret
    exact ⟨rfl, HB.out⟩
  · obtain ⟨rfl, rfl⟩ := HV4.out hm
    obtain ⟨m1, m2⟩ := HM0.out.2 hm
    have hEQ : ∀ w, (Op.equalIn 10000 35 (.agg (iCells pk0)) (.agg (iCells zp41))).run Try.prog w = .ok true w := fun w => packet_eq pk0 zp41 (by decide) zp41_length w
    obtain ⟨vm, hvm⟩ : ∃ v, ub m8 = v := ⟨_, rfl⟩
    rw [hvm] at m1 m2 ⊢
    go_wp2_with (refine g_load_row (by rfl) 35 (.tmp 22) rfl gz rfl 35 (iCells pk0) (0, 0) _ HZ.out Try.underlying35 rfl HRS.out ?_)
    go_ret
    exact ⟨rfl, HB.out⟩
end Go.Proofs.Ytoohahjmiljpgaa
