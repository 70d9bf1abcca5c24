/-
  PackUnlike, walked. Conditions: numbers below 2^16, eight ints and eight numbers below 2^32 each; what pack's Lay answers, and the reference's Count.
-/
import Derived.Test.YtoohahjmiljpgaaQS17
import Derived.Test.YtoohahjmiljpgaaQS18
namespace Go.Proofs.Ytoohahjmiljpgaa
open Go.RowKit
open M
set_option maxRecDepth 100000 in
set_option maxHeartbeats 4000000 in
theorem unlike19_law (HL : LayOk) (HCt : CtOk) (n k : Nat) (x y l m : List Int) (by8 : UInt8) (w : World) (hn : n ≤ 65535) (hk : k ≤ 65535) (hx : x.length = 8) (hy : y.length = 8) (hl : l.length = 8) (hm : m.length = 8)
    (hbl : ∀ v ∈ l, 0 ≤ v ∧ v ≤ 4294967295) (hbm : ∀ v ∈ m, 0 ≤ v ∧ v ≤ 4294967295) :
    Calls Try.prog 6 #[.int .u16 (n : Int), .int .u16 (k : Int), .agg (iCells x), .agg (iCells y), .agg (vCells l), .agg (vCells m), .int .u8 (ub by8)] w fun e w' => e = .returned (.bool true) ∧ Below w.heap.size w w' := by
  obtain ⟨hu1, hu2⟩ := ub_bd by8
  generalize ub by8 = u at *
  obtain ⟨z, hzu⟩ : ∃ z : Nat, 12 + u.tmod 13 = z := ⟨(12 + u.tmod 13).toNat, by have := Int.tmod_nonneg 13 hu1; omega⟩
  have hz1 : 12 ≤ z := by have := Int.tmod_nonneg 13 hu1; omega
  have hz2 : z ≤ 24 := by have := Int.tmod_lt_of_pos u (show (0 : Int) < 13 by decide); omega
  obtain ⟨q, hqu⟩ : ∃ q : Nat, u.tmod 13 = q := ⟨(u.tmod 13).toNat, by have := Int.tmod_nonneg 13 hu1; omega⟩
  have hzq : (12 : Int) + (q : Int) = (z : Int) := by omega
  clear hzu
  have hr1 := shp_right x l z hz1 hz2
  have hL1 := shp_len x l (8 * z - 64)
  have HS1 := Lib.hid fun w => lshape_any HCt x l z w hx hl hbl hz1 hz2
  obtain ⟨A, hA1⟩ : ∃ A, shp x l (8 * z - 64) = A := ⟨_, rfl⟩
  rw [hA1] at hr1 hL1 HS1
  obtain ⟨he1, ht1⟩ := laE_in n z A ⟨hz1, hz2⟩ hn hr1
  have HLA1 := Lib.hid fun w => HL n A z w hL1
  rw [he1, ht1] at HLA1
  have hk1 := (ly_back n z A hL1 hr1 (by omega)).2
  have HBU1 := Lib.hid (pk_built n A hL1)
  have hl1 : (((n : Nat) : Int) :: A).length = 41 := by rw [List.length_cons, hL1]
  have hr2 := shp_right y m z hz1 hz2
  have hL2 := shp_len y m (8 * z - 64)
  have HS2 := Lib.hid fun w => lshape_any HCt y m z w hy hm hbm hz1 hz2
  obtain ⟨B, hA2⟩ : ∃ A, shp y m (8 * z - 64) = A := ⟨_, rfl⟩
  rw [hA2] at hr2 hL2 HS2
  obtain ⟨he2, ht2⟩ := laE_in k z B ⟨hz1, hz2⟩ hk hr2
  have HLA2 := Lib.hid fun w => HL k B z w hL2
  rw [he2, ht2] at HLA2
  have hk2 := (ly_back k z B hL2 hr2 (by omega)).2
  have HBU2 := Lib.hid (pk_built k B hL2)
  have hl2 : (((k : Nat) : Int) :: B).length = 41 := by rw [List.length_cons, hL2]
  have HAW := Lib.hid fun w => awake19_any HL HCt w
  obtain ⟨b, hb⟩ : ∃ b, ((n : Int) :: A == (k : Int) :: B) = b := ⟨_, rfl⟩
  have HEQ : Hid (∀ w, (Op.equalIn 10000 35 (.agg (iCells ((n : Int) :: A))) (.agg (iCells ((k : Int) :: B)))).run Try.prog w = .ok b w) := Lib.hid fun w => by
    rw [← hb]; exact packet_eq _ _ hl1 hl2 w
  have HTT : Hid (((ly19 n A z).toList == (ly19 k B z).toList) = b) := Lib.hid (by
    rw [← hb, toList_bl, toList_bl, Bool.eq_iff_iff, beq_iff_eq, beq_iff_eq]
    constructor
    · intro e
      rw [← hk1, ← hk2, bl_inj e]
    · intro e
      injection e with e1 e2
      rw [Int.ofNat.inj e1, e2])
  obtain ⟨T, hT⟩ : ∃ T, ly19 n A z = T := ⟨_, rfl⟩
  obtain ⟨V, hV⟩ : ∃ V, ly19 k B z = V := ⟨_, rfl⟩
  rw [hT] at HLA1 HTT
  rw [hV] at HLA2 HTT
  have HSA := Lib.hid (pkt_size _ hl1)
  have HSB := Lib.hid (pkt_size _ hl2)
  have HXA := Lib.hid (pkt_same zp41 _ zp41_length hl1)
  have HXB := Lib.hid (pkt_same zp41 _ zp41_length hl2)
  obtain ⟨p, hp⟩ : ∃ p, (n : Int) :: A = p := ⟨_, rfl⟩
  obtain ⟨r, hr⟩ : ∃ r, (k : Int) :: B = r := ⟨_, rfl⟩
  rw [hp] at HSA HXA HBU1 HLA1 HEQ
  rw [hr] at HSB HXB HBU2 HLA2 HEQ
  have HX := Lib.hid (i8_size x hx)
  have HY := Lib.hid (i8_size y hy)
  have HLS := Lib.hid (v8_size l hl)
  have HMS := Lib.hid (v8_size m hm)
  have hz := pkt_zero
  have HR1 : Hid (Row ((((w.alloc (.cells (iCells x) 23)).alloc (.cells (iCells y) 23)).alloc (.cells (vCells l) 25)).alloc (.cells (vCells m) 25)) w.heap.size 23 (iCells x)) := Lib.hid (Row.alloc (Row.alloc (Row.alloc (heap_alloc_new _ _) _) _) _)
  have HR2 : Hid (Row ((((w.alloc (.cells (iCells x) 23)).alloc (.cells (iCells y) 23)).alloc (.cells (vCells l) 25)).alloc (.cells (vCells m) 25)) (w.heap.size + 1) 23 (iCells y)) := Lib.hid (Row.alloc (Row.alloc (row_new _ _ (by simp) _ _) _) _)
  have HR3 : Hid (Row ((((w.alloc (.cells (iCells x) 23)).alloc (.cells (iCells y) 23)).alloc (.cells (vCells l) 25)).alloc (.cells (vCells m) 25)) (w.heap.size + 1 + 1) 25 (vCells l)) := Lib.hid (Row.alloc (row_new _ _ (by simp) _ _) _)
  have HR4 : Hid (Row ((((w.alloc (.cells (iCells x) 23)).alloc (.cells (iCells y) 23)).alloc (.cells (vCells l) 25)).alloc (.cells (vCells m) 25)) (w.heap.size + 1 + 1 + 1) 25 (vCells m)) := Lib.hid (row_new _ _ (by simp) _ _)
  have HB : Hid (Below w.heap.size w ((((w.alloc (.cells (iCells x) 23)).alloc (.cells (iCells y) 23)).alloc (.cells (vCells l) 25)).alloc (.cells (vCells m) 25))) := Lib.hid (((((Below.refl _ _).alloc (Nat.le_refl _) _).alloc (by simp) _).alloc (by simp; omega) _).alloc (by simp; omega) _)
  have hnI : (n : Int) ≤ 65535 := by omega
  have hkI : (k : Int) ≤ 65535 := by omega
  have hzI : (z : Int) ≤ 24 := by omega
  clear hx hy hl hm hbl hbm hp hr hT hV hb hl1 hl2 hk1 hk2 he1 he2 ht1 ht2 hr1 hr2 hA1 hA2 hL1 hL2 hz1 hz2 hn hk HL HCt
  go_enter Try.func6, Try.ntmps6
  go_wp2_with fail
  generalize (((w.alloc (.cells (iCells x) 23)).alloc (.cells (iCells y) 23)).alloc (.cells (vCells l) 25)).alloc (.cells (vCells m) 25) = w1 at *
  refine (HAW.out _).mono ?_
  rintro e w2 ⟨rfl, hb⟩
  have HR1 := Lib.hid (HR1.out.box hb)
  have HR2 := Lib.hid (HR2.out.box hb)
  have HR3 := Lib.hid (HR3.out.box hb)
  have HR4 := Lib.hid (HR4.out.box hb)
  have HB := Lib.hid (HB.out.trans (hb.mono HB.out.size))
  clear hb
  go_wp2_with (first
    | (refine wpList_load_row rfl 23 (.tmp 9) rfl w.heap.size rfl 23 (iCells x) (0, 0) _ HR1.out Try.underlying23 rfl HX.out ?_)
    | (refine wpList_load_row rfl 25 (.tmp 11) rfl (w.heap.size + 1 + 1) rfl 25 (vCells l) (0, 0) _ HR3.out Try.underlying25 rfl HLS.out ?_))
  refine (HS1.out _).mono ?_
  rintro e w3 ⟨rfl, hb⟩
  have HR1 := Lib.hid (HR1.out.box hb)
  have HR2 := Lib.hid (HR2.out.box hb)
  have HR3 := Lib.hid (HR3.out.box hb)
  have HR4 := Lib.hid (HR4.out.box hb)
  have HB := Lib.hid (HB.out.trans (hb.mono HB.out.size))
  clear hb
  have HN : Hid (Row (w3.alloc (.cells (iCells zp41) 35)) w3.heap.size 35 (iCells zp41)) := Lib.hid (heap_alloc_new _ _)
  go_upto_region 5 with (first
    | (refine wpList_build_two rfl 35 (.tmp 29) (.tmp 33) rfl (.int .i64 (n : Int)) (.agg (iCells A)) rfl rfl (iCells p) HBU1.out ?_)
    | (refine wpList_store_row rfl 35 (.tmp 16) (.tmp 34) rfl w3.heap.size (iCells p) rfl rfl 35 (iCells zp41) HN.out HSA.out HXA.out (iCells_one _) ?_))
  have HGS := Lib.hid HB.out.size
  have NHR1HP := Lib.hid (Nat.ne_of_lt (Row.lt HR1.out))
  have NHR2HP := Lib.hid (Nat.ne_of_lt (Row.lt HR2.out))
  have NHR3HP := Lib.hid (Nat.ne_of_lt (Row.lt HR3.out))
  have NHR4HP := Lib.hid (Nat.ne_of_lt (Row.lt HR4.out))
  have HR1 := Lib.hid (row_laid HR1.out (.cells (iCells zp41) 35) (iCells p))
  have HR2 := Lib.hid (row_laid HR2.out (.cells (iCells zp41) 35) (iCells p))
  have HR3 := Lib.hid (row_laid HR3.out (.cells (iCells zp41) 35) (iCells p))
  have HR4 := Lib.hid (row_laid HR4.out (.cells (iCells zp41) 35) (iCells p))
  have HB := Lib.hid (below_laid HB.out (.cells (iCells zp41) 35) (iCells p))
  have HP := Lib.hid (Row.setRow HN.out (iCells p))
  generalize (w3.alloc (.cells (iCells zp41) 35)).setRow w3.heap.size (iCells p) = w4 at *
  obtain ⟨gp, hg⟩ : ∃ g, w3.heap.size = g := ⟨_, rfl⟩
  rw [hg] at HP HGS NHR1HP NHR2HP NHR3HP NHR4HP ⊢
  clear hg HN
  go_wp2_with (first
    | (refine wpList_load_row rfl 23 (.tmp 10) rfl (w.heap.size + 1) rfl 23 (iCells y) (0, 0) _ HR2.out Try.underlying23 rfl HY.out ?_)
    | (refine wpList_load_row rfl 25 (.tmp 12) rfl (w.heap.size + 1 + 1 + 1) rfl 25 (vCells m) (0, 0) _ HR4.out Try.underlying25 rfl HMS.out ?_))
  refine (HS2.out _).mono ?_
  rintro e w5 ⟨rfl, hb⟩
  have HR1 := Lib.hid (HR1.out.box hb)
  have HR2 := Lib.hid (HR2.out.box hb)
  have HR3 := Lib.hid (HR3.out.box hb)
  have HR4 := Lib.hid (HR4.out.box hb)
  have HP := Lib.hid (HP.out.box hb)
  have HB := Lib.hid (HB.out.trans (hb.mono HB.out.size))
  clear hb
  have HN : Hid (Row (w5.alloc (.cells (iCells zp41) 35)) w5.heap.size 35 (iCells zp41)) := Lib.hid (heap_alloc_new _ _)
  go_upto_region 6 with (first
    | (refine wpList_build_two rfl 35 (.tmp 36) (.tmp 40) rfl (.int .i64 (k : Int)) (.agg (iCells B)) rfl rfl (iCells r) HBU2.out ?_)
    | (refine wpList_store_row rfl 35 (.tmp 17) (.tmp 41) rfl w5.heap.size (iCells r) rfl rfl 35 (iCells zp41) HN.out HSB.out HXB.out (iCells_one _) ?_))
  have HGS := Lib.hid HB.out.size
  have NHR1HQ := Lib.hid (Nat.ne_of_lt (Row.lt HR1.out))
  have NHR2HQ := Lib.hid (Nat.ne_of_lt (Row.lt HR2.out))
  have NHR3HQ := Lib.hid (Nat.ne_of_lt (Row.lt HR3.out))
  have NHR4HQ := Lib.hid (Nat.ne_of_lt (Row.lt HR4.out))
  have NHPHQ := Lib.hid (Nat.ne_of_lt (Row.lt HP.out))
  have HR1 := Lib.hid (row_laid HR1.out (.cells (iCells zp41) 35) (iCells r))
  have HR2 := Lib.hid (row_laid HR2.out (.cells (iCells zp41) 35) (iCells r))
  have HR3 := Lib.hid (row_laid HR3.out (.cells (iCells zp41) 35) (iCells r))
  have HR4 := Lib.hid (row_laid HR4.out (.cells (iCells zp41) 35) (iCells r))
  have HP := Lib.hid (row_laid HP.out (.cells (iCells zp41) 35) (iCells r))
  have HB := Lib.hid (below_laid HB.out (.cells (iCells zp41) 35) (iCells r))
  have HQ := Lib.hid (Row.setRow HN.out (iCells r))
  generalize (w5.alloc (.cells (iCells zp41) 35)).setRow w5.heap.size (iCells r) = w6 at *
  obtain ⟨gq, hg⟩ : ∃ g, w5.heap.size = g := ⟨_, rfl⟩
  rw [hg] at HQ HGS NHR1HQ NHR2HQ NHR3HQ NHR4HQ NHPHQ ⊢
  clear hg HN
  go_wp2_with (refine wpList_load_row rfl 35 (.tmp 16) rfl gp rfl 35 (iCells p) (0, 0) _ HP.out Try.underlying35 rfl HSA.out ?_)
  refine (HLA1.out _).mono ?_
  rintro e w7 ⟨rfl, hb⟩
  have HP := Lib.hid (HP.out.box hb)
  have HQ := Lib.hid (HQ.out.box hb)
  have HB := Lib.hid (HB.out.trans (hb.mono HB.out.size))
  clear hb
  go_wp2_with (refine wpList_load_row rfl 35 (.tmp 17) rfl gq rfl 35 (iCells r) (0, 0) _ HQ.out Try.underlying35 rfl HSB.out ?_)
  refine (HLA2.out _).mono ?_
  rintro e w8 ⟨rfl, hb⟩
  have HP := Lib.hid (HP.out.box hb)
  have HQ := Lib.hid (HQ.out.box hb)
  have HB := Lib.hid (HB.out.trans (hb.mono HB.out.size))
  clear hb
  have hEQ := HEQ.out
  have hTT := HTT.out
  have hbb : (b == b) = true := beq_self_eq_true b
  go_wp2_with (first
    | (refine g_load_row (by rfl) 35 (.tmp 16) rfl gp rfl 35 (iCells p) (0, 0) _ HP.out Try.underlying35 rfl HSA.out ?_)
    | (refine g_load_row (by rfl) 35 (.tmp 17) rfl gq rfl 35 (iCells r) (0, 0) _ HQ.out Try.underlying35 rfl HSB.out ?_))
  go_ret
  exact ⟨rfl, HB.out⟩
end Go.Proofs.Ytoohahjmiljpgaa
