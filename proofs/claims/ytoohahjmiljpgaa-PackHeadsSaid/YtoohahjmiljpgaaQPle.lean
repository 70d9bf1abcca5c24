/-
  PackHeads, walked. Conditions: a number below 2^16, eight ints and eight numbers below 2^32; what pack's Lay answers, and the reference's Count.
-/
import Derived.Test.YtoohahjmiljpgaaQS17
import Derived.Test.YtoohahjmiljpgaaQS18
import Derived.Test.YtoohahjmiljpgaaQS21
namespace Go.Proofs.Ytoohahjmiljpgaa
open Go.RowKit
open M
theorem bl_at (s : ByteArray) (q : Nat) (h : q < s.size) : (bl s).getD q 0 = s[q] := by
  unfold bl
  rw [List.getD_eq_getElem?_getD, List.getElem?_eq_getElem (by simpa using h)]
  rfl
theorem shp_sds (x l : List Int) (n : Nat) : sds (shp x l n) = shd x := by
  unfold sds pto shd
  apply List.map_congr_left
  intro p hp
  have h8 := List.mem_range.1 hp
  unfold shp shq
  rw [Nat.zero_add, tm_getD _ _ _ (by omega), if_pos h8]
/-- The first six bytes hang on the number and the steps alone. -/
theorem head6 (s t : ByteArray) (hs : 8 ≤ s.size) (ht : 8 ≤ t.size) (e1 : fr19 s = fr19 t) (e2 : sd19 s = sd19 t) : s.extract 0 6 = t.extract 0 6 := by
  have hls : (bl s).length = s.size := rfl
  have hlt : (bl t).length = t.size := rfl
  have hj : ∀ j, j < 6 → (bl s).getD j 0 = (bl t).getD j 0 := fun j hj => by
    have f1 := fr_bytes s
    have f2 := fr_bytes t
    rw [bd_get _ 0 (by omega), bd_get _ 1 (by omega)] at f1 f2
    rw [e1, f2] at f1
    have a0 := ((bl s).getD 0 0).toNat_lt
    have a1 := ((bl s).getD 1 0).toNat_lt
    have a2 := ((bl t).getD 0 0).toNat_lt
    have a3 := ((bl t).getD 1 0).toNat_lt
    rcases (show j = 0 ∨ j = 1 ∨ 2 ≤ j by omega) with rfl | rfl | h2
    · exact UInt8.toNat_inj.1 (by omega)
    · exact UInt8.toNat_inj.1 (by omega)
    · obtain ⟨i, rfl⟩ : ∃ i, j = 2 + i := ⟨j - 2, by omega⟩
      have g1 := steps_bytes s i (by omega)
      have g2 := steps_bytes t i (by omega)
      rw [bd_get _ _ (by omega)] at g1 g2
      rw [e2, ← g2] at g1
      exact UInt8.toNat_inj.1 g1
  apply bl_inj
  rw [bl_extract, bl_extract, List.drop_zero, List.drop_zero, Nat.sub_zero]
  exact getD_ext8 _ _ (by simp [hls, hlt]; omega) fun j hj2 => by
    have h6 : j < 6 := by simp at hj2; omega
    rw [gD_take _ _ _ _ h6, gD_take _ _ _ _ h6, hj j h6]
set_option maxRecDepth 100000 in
set_option maxHeartbeats 4000000 in
theorem heads19_law (HL : LayOk) (HCt : CtOk) (n : Nat) (x l m : List Int) (by8 : UInt8) (w : World) (hn : n ≤ 65535) (hx : x.length = 8) (hl : l.length = 8) (hm : m.length = 8)
    (hbl : ∀ v ∈ l, 0 ≤ v ∧ v ≤ 4294967295) (hbm : ∀ v ∈ m, 0 ≤ v ∧ v ≤ 4294967295) :
    Calls Try.prog 7 #[.int .u16 (n : Int), .agg (iCells x), .agg (vCells l), .agg (vCells m), .int .u8 (ub by8)] w fun e w' => e = .returned (.bool true) ∧ Below w.heap.size w w' := by
  obtain ⟨hu1, hu2⟩ := ub_bd by8
  generalize ub by8 = u at *
  obtain ⟨z, hzu⟩ : ∃ z : Nat, 12 + u.tmod 13 = z := ⟨(12 + u.tmod 13).toNat, by have := Int.tmod_nonneg 13 hu1; omega⟩
  have hz1 : 12 ≤ z := by have := Int.tmod_nonneg 13 hu1; omega
  have hz2 : z ≤ 24 := by have := Int.tmod_lt_of_pos u (show (0 : Int) < 13 by decide); omega
  obtain ⟨q, hqu⟩ : ∃ q : Nat, u.tmod 13 = q := ⟨(u.tmod 13).toNat, by have := Int.tmod_nonneg 13 hu1; omega⟩
  have hzq : (12 : Int) + (q : Int) = (z : Int) := by omega
  clear hzu
  have hr1 := shp_right x l z hz1 hz2
  have hL1 := shp_len x l (8 * z - 64)
  have HS1 := Lib.hid fun w => lshape_any HCt x l z w hx hl hbl hz1 hz2
  obtain ⟨A, hA1⟩ : ∃ A, shp x l (8 * z - 64) = A := ⟨_, rfl⟩
  rw [hA1] at hr1 hL1 HS1
  obtain ⟨he1, ht1⟩ := laE_in n z A ⟨hz1, hz2⟩ hn hr1
  have HLA1 := Lib.hid fun w => HL n A z w hL1
  rw [he1, ht1] at HLA1
  have hk1 := (ly_back n z A hL1 hr1 (by omega)).2
  have HBU1 := Lib.hid (pk_built n A hL1)
  have hl1 : (((n : Nat) : Int) :: A).length = 41 := by rw [List.length_cons, hL1]
  have hr2 := shp_right x m z hz1 hz2
  have hL2 := shp_len x m (8 * z - 64)
  have HS2 := Lib.hid fun w => lshape_any HCt x m z w hx hm hbm hz1 hz2
  obtain ⟨B, hA2⟩ : ∃ A, shp x m (8 * z - 64) = A := ⟨_, rfl⟩
  rw [hA2] at hr2 hL2 HS2
  obtain ⟨he2, ht2⟩ := laE_in n z B ⟨hz1, hz2⟩ hn hr2
  have HLA2 := Lib.hid fun w => HL n B z w hL2
  rw [he2, ht2] at HLA2
  have hk2 := (ly_back n z B hL2 hr2 (by omega)).2
  have HBU2 := Lib.hid (pk_built n B hL2)
  have hl2 : (((n : Nat) : Int) :: B).length = 41 := by rw [List.length_cons, hL2]
  have HAW := Lib.hid fun w => awake19_any HL HCt w
  have hf1 := ly_fields n z A hr1 (by omega)
  have hf2 := ly_fields n z B hr2 (by omega)
  have hs1 := ly_size n z A hr1
  have hs2 := ly_size n z B hr2
  have hsd : sdN A = sdN B := by rw [← hA1, ← hA2]; unfold sdN; rw [shp_sds, shp_sds]
  have hsx : ∀ j, j < 8 → (sdN A).getD j 0 = (x.getD j 0 % 16).toNat := fun j hj => by
    rw [← hA1]; unfold sdN
    rw [shp_sds, List.getD_eq_getElem?_getD, List.getElem?_map, List.getElem?_eq_getElem (by rw [shd_len]; exact hj), Option.map_some, Option.getD_some]
    have := shd_at x j hj
    rw [List.getD_eq_getElem?_getD, List.getElem?_eq_getElem (by rw [shd_len]; exact hj), Option.getD_some] at this
    rw [this]
  have h6 := head6 (ly19 n A z) (ly19 n B z) (by omega) (by omega) (by rw [hf1.1, hf2.1]) (by rw [hf1.2.1, hf2.2.1, hsd])
  have hfb := fr_bytes (ly19 n A z)
  have hsb := fun i hi => steps_bytes (ly19 n A z) i hi
  rw [hf1.1, bd_get _ 0 (by omega), bd_get _ 1 (by omega)] at hfb
  rw [hf1.2.1] at hsb
  obtain ⟨T, hT⟩ : ∃ T, ly19 n A z = T := ⟨_, rfl⟩
  obtain ⟨V, hV⟩ : ∃ V, ly19 n B z = V := ⟨_, rfl⟩
  rw [hT] at HLA1 hs1 h6 hfb hsb
  rw [hV] at HLA2 hs2 h6
  have t0 : 0 < T.size := by omega
  have t1 : 1 < T.size := by omega
  rw [bl_at T 0 t0, bl_at T 1 t1] at hfb
  have hx0 := (T[0]'t0).toNat_lt
  have hy0 := (T[1]'t1).toNat_lt
  obtain ⟨x0, hx0e⟩ : ∃ v, (T[0]'t0).toNat = v := ⟨_, rfl⟩
  obtain ⟨y0, hy0e⟩ : ∃ v, (T[1]'t1).toNat = v := ⟨_, rfl⟩
  rw [hx0e, hy0e] at hfb
  rw [hx0e] at hx0
  rw [hy0e] at hy0
  obtain ⟨x2, hx2⟩ : ∃ v : Nat, (x0 : Int) * 256 = (v : Int) := ⟨x0 * 256, by omega⟩
  have e2 : (x2 : Int) + (y0 : Int) = (n : Int) := by omega
  have b0 : (x0 : Int) ≤ 255 := by omega
  have b1 : (y0 : Int) ≤ 255 := by omega
  have b2 : (x2 : Int) ≤ 65280 := by omega
  have q0 : IntKind.i64.wrap (x0 : Int) = (x0 : Int) := by rw [IntKind.wrap_i64]; omega
  have q1 : IntKind.i64.wrap (y0 : Int) = (y0 : Int) := by rw [IntKind.wrap_i64]; omega
  have t6 : (6 : Int) ≤ (T.size : Int) := by omega
  have v6 : (6 : Int) ≤ (V.size : Int) := by omega
  have t6n : 6 ≤ T.size := by omega
  have v6n : 6 ≤ V.size := by omega
  have t0I : (0 : Int) < (T.size : Int) := by omega
  have t1I : (1 : Int) < (T.size : Int) := by omega
  have HROW : Hid (∀ i : Nat, i < 4 → ∃ (a c p sa sc s2 v : Nat) (hp : p < T.size), 2 * (i : Int) = (a : Int) ∧ (a : Int) + 1 = (c : Int) ∧ a < 8 ∧ c < 8 ∧ 2 + (i : Int) = (p : Int) ∧ (T[p]'hp).toNat = v ∧ x.getD a 0 % 16 = (sa : Int) ∧ x.getD c 0 % 16 = (sc : Int) ∧ (sa : Int) * 16 = (s2 : Int) ∧ (s2 : Int) + (sc : Int) = (v : Int) ∧ sa ≤ 15 ∧ sc ≤ 15) := Lib.hid fun i hi => by
    have hp : 2 + i < T.size := by omega
    have h := hsb i hi
    rw [bd_get _ _ (by omega), bl_at T (2 + i) hp, hsx _ (by omega), hsx _ (by omega)] at h
    have m1 := Int.emod_nonneg (x.getD (2 * i) 0) (show (16 : Int) ≠ 0 by decide)
    have m2 := Int.emod_lt_of_pos (x.getD (2 * i) 0) (show (0 : Int) < 16 by decide)
    have m3 := Int.emod_nonneg (x.getD (2 * i + 1) 0) (show (16 : Int) ≠ 0 by decide)
    have m4 := Int.emod_lt_of_pos (x.getD (2 * i + 1) 0) (show (0 : Int) < 16 by decide)
    exact ⟨2 * i, 2 * i + 1, 2 + i, (x.getD (2 * i) 0 % 16).toNat, (x.getD (2 * i + 1) 0 % 16).toNat, (x.getD (2 * i) 0 % 16).toNat * 16, (T[2 + i]'hp).toNat, hp, by omega, by omega, by omega, by omega, by omega, rfl, by omega, by omega, by omega, by rw [h]; omega, by omega, by omega⟩
  have HTS := Lib.hid hs1
  obtain ⟨H, hH⟩ : ∃ H, T.extract 0 6 = H := ⟨_, rfl⟩
  rw [hH] at h6
  have hV6 : V.extract 0 6 = H := h6.symm
  have hHH : (H.toList != H.toList) = false := bne_self_eq_false _
  have HX := Lib.hid (i8_size x hx)
  have HXL := Lib.hid hx
  have HLS := Lib.hid (v8_size l hl)
  have HMS := Lib.hid (v8_size m hm)
  have HR1 : Hid (Row (((w.alloc (.cells (iCells x) 23)).alloc (.cells (vCells l) 25)).alloc (.cells (vCells m) 25)) w.heap.size 23 (iCells x)) := Lib.hid (Row.alloc (Row.alloc (heap_alloc_new _ _) _) _)
  have HR3 : Hid (Row (((w.alloc (.cells (iCells x) 23)).alloc (.cells (vCells l) 25)).alloc (.cells (vCells m) 25)) (w.heap.size + 1) 25 (vCells l)) := Lib.hid (Row.alloc (row_new _ _ (by simp) _ _) _)
  have HR4 : Hid (Row (((w.alloc (.cells (iCells x) 23)).alloc (.cells (vCells l) 25)).alloc (.cells (vCells m) 25)) (w.heap.size + 1 + 1) 25 (vCells m)) := Lib.hid (row_new _ _ (by simp) _ _)
  have HB : Hid (Below w.heap.size w (((w.alloc (.cells (iCells x) 23)).alloc (.cells (vCells l) 25)).alloc (.cells (vCells m) 25))) := Lib.hid ((((Below.refl _ _).alloc (Nat.le_refl _) _).alloc (by simp) _).alloc (by simp; omega) _)
  have hnI : (n : Int) ≤ 65535 := by omega
  have hzI : (z : Int) ≤ 24 := by omega
  clear hx hl hm hbl hbm hT hV hl1 hl2 hk1 hk2 he1 he2 ht1 ht2 hr1 hr2 hA1 hA2 hL1 hL2 hz1 hz2 hn HL HCt hf1 hf2 hs1 hs2 hsd hsx h6 hfb hsb hx0 hy0
  go_enter Try.func7, Try.ntmps7
  go_wp2_with fail
  generalize ((w.alloc (.cells (iCells x) 23)).alloc (.cells (vCells l) 25)).alloc (.cells (vCells m) 25) = w1 at *
  refine (HAW.out _).mono ?_
  rintro e w2 ⟨rfl, hb⟩
  have HR1 := Lib.hid (HR1.out.box hb)
  have HR3 := Lib.hid (HR3.out.box hb)
  have HR4 := Lib.hid (HR4.out.box hb)
  have HB := Lib.hid (HB.out.trans (hb.mono HB.out.size))
  clear hb
  go_wp2_with (first
    | (refine wpList_load_row rfl 23 (.tmp 6) rfl w.heap.size rfl 23 (iCells x) (0, 0) _ HR1.out Try.underlying23 rfl HX.out ?_)
    | (refine wpList_load_row rfl 25 (.tmp 7) rfl (w.heap.size + 1) rfl 25 (vCells l) (0, 0) _ HR3.out Try.underlying25 rfl HLS.out ?_))
  refine (HS1.out _).mono ?_
  rintro e w3 ⟨rfl, hb⟩
  have HR1 := Lib.hid (HR1.out.box hb)
  have HR3 := Lib.hid (HR3.out.box hb)
  have HR4 := Lib.hid (HR4.out.box hb)
  have HB := Lib.hid (HB.out.trans (hb.mono HB.out.size))
  clear hb
  go_wp2_with (refine wpList_build_two rfl 35 (.tmp 25) (.tmp 29) rfl (.int .i64 (n : Int)) (.agg (iCells A)) rfl rfl (iCells ((n : Int) :: A)) HBU1.out ?_)
  refine (HLA1.out _).mono ?_
  rintro e w4 ⟨rfl, hb⟩
  have HR1 := Lib.hid (HR1.out.box hb)
  have HR3 := Lib.hid (HR3.out.box hb)
  have HR4 := Lib.hid (HR4.out.box hb)
  have HB := Lib.hid (HB.out.trans (hb.mono HB.out.size))
  clear hb
  go_wp2_with (first
    | (refine wpList_load_row rfl 23 (.tmp 6) rfl w.heap.size rfl 23 (iCells x) (0, 0) _ HR1.out Try.underlying23 rfl HX.out ?_)
    | (refine wpList_load_row rfl 25 (.tmp 8) rfl (w.heap.size + 1 + 1) rfl 25 (vCells m) (0, 0) _ HR4.out Try.underlying25 rfl HMS.out ?_))
  refine (HS2.out _).mono ?_
  rintro e w5 ⟨rfl, hb⟩
  have HR1 := Lib.hid (HR1.out.box hb)
  have HR3 := Lib.hid (HR3.out.box hb)
  have HR4 := Lib.hid (HR4.out.box hb)
  have HB := Lib.hid (HB.out.trans (hb.mono HB.out.size))
  clear hb
  go_wp2_with (refine wpList_build_two rfl 35 (.tmp 37) (.tmp 41) rfl (.int .i64 (n : Int)) (.agg (iCells B)) rfl rfl (iCells ((n : Int) :: B)) HBU2.out ?_)
  refine (HLA2.out _).mono ?_
  rintro e w6 ⟨rfl, hb⟩
  have HR1 := Lib.hid (HR1.out.box hb)
  have HR3 := Lib.hid (HR3.out.box hb)
  have HR4 := Lib.hid (HR4.out.box hb)
  have HB := Lib.hid (HB.out.trans (hb.mono HB.out.size))
  clear hb
  clear HR3 HR4 HS1 HS2 HBU1 HBU2 HLA1 HLA2 HAW HLS HMS
  go_wp2_with fail
  go_quiet (fail)
  go_wp2_with fail
  have HR1 := Lib.hid (Row.drewN HR1.out nq)
  have HB := Lib.hid (Below.drewN HB.out nq)
  clear hHH hV6 hH hx2 e2 b0 b1 b2 q0 q1 t6 v6 t6n v6n t0I t1I hx0e hy0e t0 t1
  generalize w6.drewN nq = w20 at *
  go_loopw [16] (fun ii wr => ∃ (i : Nat), i ≤ 4 ∧ ii = .int .i64 (i : Int) ∧ Row wr w.heap.size 23 (iCells x) ∧ Below w.heap.size w wr) (fun ii _ => 4 - (intOf ii).toNat)
  case atStart => exact ⟨0, by omega, rfl, HR1.out, HB.out⟩
  case round =>
    clear HR1 HB
    obtain ⟨i, hi4, rfl, hr, hb⟩ := hrel
    have HR := Lib.hid hr
    have HB := Lib.hid hb
    clear hb
    rcases Nat.lt_or_ge i 4 with hlt | hge
    · have HI := Lib.hid hlt
      have hiI : (i : Int) < 4 := by omega
      obtain ⟨a, c, p, sa, sc, s2, v, hp, h1, h2, h3, h4, h5, h6, h7, h8, h9, h10, h11, h12⟩ := HROW.out i hlt
      have c0 := i_at hr a (by rw [HXL.out]; exact h3)
      have c1 := i_at hr c (by rw [HXL.out]; exact h4)
      obtain ⟨xa, hxa⟩ : ∃ y, x.getD a 0 = y := ⟨_, rfl⟩
      obtain ⟨xc, hxc⟩ : ∃ y, x.getD c 0 = y := ⟨_, rfl⟩
      rw [hxa] at c0 h7
      rw [hxc] at c1 h8
      have n1 := and15 xa
      have n2 := and15 xc
      rw [h7] at n1
      rw [h8] at n2
      have hv : v < 256 := by rw [← h6]; exact (T[p]'hp).toNat_lt
      have q0 : IntKind.i64.wrap (v : Int) = (v : Int) := by rw [IntKind.wrap_i64]; omega
      have hvI : (v : Int) ≤ 255 := by omega
      have hpI : (p : Int) < (T.size : Int) := by omega
      have haI : (a : Int) < 8 := by omega
      have hcI : (c : Int) < 8 := by omega
      have hsa : (sa : Int) ≤ 15 := by omega
      have hsc : (sc : Int) ≤ 15 := by omega
      have hs2 : (s2 : Int) ≤ 240 := by omega
      have hpb : (p : Int) ≤ 5 := by omega
      clear hi4 hlt hr h3 h4 h7 h8 h11 h12 hxa hxc hv
      go_wp2_with fail
      go_quiet (fail)
      go_wp2_with fail
      go_roundw
      case rel => exact ⟨i + 1, HI.out, by go_num, Row.drewN HR.out _, Below.drewN HB.out _⟩
      case measure =>
        have := HI.out
        simp [intOf] <;> omega
    · obtain rfl : i = 4 := by omega
      clear hi4 hge hr
      go_wp2_with fail
      go_ret
      exact ⟨rfl, HB.out⟩
end Go.Proofs.Ytoohahjmiljpgaa
