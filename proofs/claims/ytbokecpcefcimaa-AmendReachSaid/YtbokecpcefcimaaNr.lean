/-
  The walk of the law AmendReach. Conditions: bytes; the lists lie as they were opened.
-/
import Derived.Test.YtbokecpcefcimaaNo
import Derived.Test.YtbokecpcefcimaaJc
import Derived.Test.YtbokecpcefcimaaIw
namespace Go.Proofs.Ytbokecpcefcimaa
open Go.RowKit
open M
attribute [local go_sem] un_beq un_bne un_xor

set_option maxRecDepth 100000 in
set_option maxHeartbeats 2000000 in
theorem reach_big (x : BitVec 64) (l1 l2 : Value) (xs ys : List Int) (w : World) (hl : 40 < xs.length ∨ 40 < ys.length) (hm1 : xs.length ≤ maxLen) (hm2 : ys.length ≤ maxLen) (h1 : BytesAt w l1 xs) (h2 : BytesAt w l2 ys) :
    Calls Try.prog 3 #[.int .u64 (un x), l1, l2] w fun e w' => e = .returned (.bool true) ∧ Below w.heap.size w w' := by
  unfold maxLen at hm1 hm2
  obtain ⟨a1, c1, rfl, hcells⟩ := h1
  clear hcells
  obtain ⟨a2, c2, rfl, hcells⟩ := h2
  clear hcells
  by_cases hx : 40 < xs.length
  · have hl' : (xs.length : Int) > 40 := by omega
    clear hl
    go_enter Try.func3, Try.ntmps3
    go_wp2_with fail
    refine (awake_any _).mono ?_
    rintro e w1 ⟨rfl, hb⟩
    have HB := Lib.hid hb
    clear hb
    go_wp2_with fail
    refine (awake_any _).mono ?_
    rintro e w2 ⟨rfl, hb⟩
    have HB2 := Lib.hid (HB.out.trans (hb.mono HB.out.size))
    clear hb
    go_wp2
    go_ret
    exact ⟨rfl, HB2.out⟩
  · have hl' : ¬ ((xs.length : Int) > 40) := by omega
    have hl2 : (ys.length : Int) > 40 := by omega
    clear hl
    go_enter Try.func3, Try.ntmps3
    go_wp2_with fail
    refine (awake_any _).mono ?_
    rintro e w1 ⟨rfl, hb⟩
    have HB := Lib.hid hb
    clear hb
    go_wp2_with fail
    refine (awake_any _).mono ?_
    rintro e w2 ⟨rfl, hb⟩
    have HB2 := Lib.hid (HB.out.trans (hb.mono HB.out.size))
    clear hb
    go_wp2
    go_ret
    exact ⟨rfl, HB2.out⟩
set_option maxRecDepth 100000 in
set_option maxHeartbeats 2000000 in
theorem reach_walk (x : BitVec 64) (l1 l2 : Value) (xs ys : List Int) (w : World) (hl1 : xs.length ≤ 40) (hl2 : ys.length ≤ 40) (hp1 : ∀ p ∈ xs, 0 ≤ p ∧ p ≤ 255) (hp2 : ∀ p ∈ ys, 0 ≤ p ∧ p ≤ 255) (h1 : BytesAt w l1 xs) (h2 : BytesAt w l2 ys) :
    Calls Try.prog 3 #[.int .u64 (un x), l1, l2] w fun e w' => e = .returned (.bool true) ∧ Below w.heap.size w w' := by
  have HI1 := Lib.hid h1
  have HI2 := Lib.hid h2
  have HP1 := Lib.hid hp1
  have HP2 := Lib.hid hp2
  obtain ⟨ab1, lc1, rfl, hcells⟩ := h1
  clear hcells hp1
  obtain ⟨ab2, lc2, rfl, hcells⟩ := h2
  clear hcells hp2
  have hl' : ¬ ((xs.length : Int) > 40) := by omega
  have hl'' : ¬ (40 < (xs.length : Int)) := by omega
  have hk' : ¬ ((ys.length : Int) > 40) := by omega
  have hk'' : ¬ (40 < (ys.length : Int)) := by omega
  have HEa := Lib.hid (encode_any x)
  have HFa := Lib.hid (encode_ref x)
  have HXa : Hid (Unit → cwd x = cwd x) := fun _ => rfl
  have hla := cwd_length x
  obtain ⟨a, ha⟩ : ∃ l, cwd x = l := ⟨_, rfl⟩
  rw [ha] at HEa HFa hla
  clear HXa
  have HXa := Lib.hid fun _ : Unit => ha
  clear ha
  have hls : (flips a (plc6 xs)).length = 127 := by rw [flips_length, hla]
  have HSP := Lib.hid (fun W V h => spoil_any a xs V W hla (by omega) HP1.out h)
  obtain ⟨s, hs⟩ : ∃ s, flips a (plc6 xs) = s := ⟨_, rfl⟩
  rw [hs] at hls HSP
  clear hs
  have hlm : (mk6 w0 (plc6 ys)).length = 127 := by rw [mk6_length, w0_length]
  have HHO := Lib.hid (fun W V h => holes_any ys V W (by omega) HP2.out h)
  obtain ⟨m, hm⟩ : ∃ m, mk6 w0 (plc6 ys) = m := ⟨_, rfl⟩
  rw [hm] at hlm HHO
  clear hm
  have HAM : Hid (∀ y n, Am s m y n → farN s m a 127 ≤ 20 → n = 0 ∧ y = x) := fun y n k h => am_reach s m x y n k (by rw [HXa.out ()]; exact h)
  have HNE : Hid (∀ y, farN s m (cwd y) 127 ≤ 20 → ¬ (farN s m a 127 ≤ 20) → (y != x) = true) := by
    intro y h1 h2
    rw [bne_iff_ne]
    rintro rfl
    rw [HXa.out ()] at h1
    exact h2 h1
  have HLa := Lib.hid (hla)
  have HSaW := Lib.hid fun _ : Unit => word_size a HLa.out
  have HSaA := Lib.hid fun _ : Unit => arr_size a HLa.out
  have HLs := Lib.hid (hls)
  have HSsW := Lib.hid fun _ : Unit => word_size s HLs.out
  have HSsA := Lib.hid fun _ : Unit => arr_size s HLs.out
  have HLm := Lib.hid (hlm)
  have HSmW := Lib.hid fun _ : Unit => word_size m HLm.out
  have HSmA := Lib.hid fun _ : Unit => arr_size m HLm.out
  clear hla hls hlm
  have hz := word_zero
  have hza := arr_zero
  go_enter Try.func3, Try.ntmps3
  go_wp2_with fail
  refine (awake_any _).mono ?_
  rintro e w1 ⟨rfl, hb⟩
  have HI1_1 := Lib.hid (HI1.out.below hb)
  have HI2_1 := Lib.hid (HI2.out.below hb)
  have HB_1 := Lib.hid hb
  clear hb HI1 HI2
  go_wp2_with fail
  refine (HFa.out _).mono ?_
  rintro e w2 ⟨rfl, hb⟩
  have HI1_2 := Lib.hid (HI1_1.out.below hb)
  have HI2_2 := Lib.hid (HI2_1.out.below hb)
  have HB_2 := Lib.hid (HB_1.out.trans (hb.mono HB_1.out.size))
  clear hb HI1_1 HI2_1 HB_1
  have H0 : Hid (Row (w2.alloc (.cells (boolCells w0) 25)) w2.heap.size 25 (boolCells w0)) := heap_alloc_new _ _
  have HS0 : Hid (Unit → (boolCells w0).size = (boolCells a).size) := by intro _; rw [boolCells_size, boolCells_size, w0_length, HLa.out]
  go_upto_region 4 with (first
      | (refine wpList_store_row rfl 25 (.tmp 7) (.tmp 27) rfl w2.heap.size (boolCells a) rfl rfl 25 (boolCells w0) H0.out (HSaA.out ()) (HS0.out ()) (boolCells_one a) ?_))
  have hgs := HB_2.out.size
  have H7_3 : Hid (Row ((w2.alloc (.cells (boolCells w0) 25)).setRow w2.heap.size (boolCells a)) w2.heap.size 25 (boolCells a)) := Row.setRow H0.out _
  have HB_3 : Hid (Below w.heap.size w ((w2.alloc (.cells (boolCells w0) 25)).setRow w2.heap.size (boolCells a))) := below_setRow (HB_2.out.alloc hgs _) hgs _
  have hgb7 : w.heap.size ≤ w2.heap.size := hgs
  have HI1_3 := Lib.hid (HI1_2.out.below (W' := ((w2.alloc (.cells (boolCells w0) 25)).setRow w2.heap.size (boolCells a))) (below_setRow ((Below.refl _ _).alloc (Nat.le_refl _) _) (Nat.le_refl _) _))
  have HI2_3 := Lib.hid (HI2_2.out.below (W' := ((w2.alloc (.cells (boolCells w0) 25)).setRow w2.heap.size (boolCells a))) (below_setRow ((Below.refl _ _).alloc (Nat.le_refl _) _) (Nat.le_refl _) _))
  clear H0 HS0 HB_2 HI1_2 HI2_2 hgs 
  generalize ((w2.alloc (.cells (boolCells w0) 25)).setRow w2.heap.size (boolCells a)) = w3 at *
  generalize w2.heap.size = g7 at *
  go_wp2_with (first
      | (refine wpList_load_row rfl 25 (.tmp 7) rfl g7 rfl 25 (boolCells a) (0, 0) _ H7_3.out Try.underlying25 rfl (HSaA.out ()) ?_))
  refine (HSP.out _ _ HI1_3.out).mono ?_
  rintro e w4 ⟨rfl, hb⟩
  have H7_4 := Lib.hid (H7_3.out.box hb)
  have HI1_4 := Lib.hid (HI1_3.out.below hb)
  have HI2_4 := Lib.hid (HI2_3.out.below hb)
  have HB_4 := Lib.hid (HB_3.out.trans (hb.mono HB_3.out.size))
  clear hb H7_3 HI1_3 HI2_3 HB_3
  have H0 : Hid (Row (w4.alloc (.cells (boolCells w0) 25)) w4.heap.size 25 (boolCells w0)) := heap_alloc_new _ _
  have HS0 : Hid (Unit → (boolCells w0).size = (boolCells s).size) := by intro _; rw [boolCells_size, boolCells_size, w0_length, HLs.out]
  go_upto_region 5 with (first
      | (refine wpList_store_row rfl 25 (.tmp 8) (.tmp 30) rfl w4.heap.size (boolCells s) rfl rfl 25 (boolCells w0) H0.out (HSsA.out ()) (HS0.out ()) (boolCells_one s) ?_)
      | (refine wpList_load_row rfl 25 (.tmp 7) rfl g7 rfl 25 (boolCells a) (0, 0) _ H7_4.out Try.underlying25 rfl (HSaA.out ()) ?_))
  have hgs := HB_4.out.size
  have hlt7 := H7_4.out.lt
  have H7_5 : Hid (Row ((w4.alloc (.cells (boolCells w0) 25)).setRow w4.heap.size (boolCells s)) g7 25 (boolCells a)) := (setRow_other _ _ _ _ (by omega)).trans (H7_4.out.alloc _)
  have H8_5 : Hid (Row ((w4.alloc (.cells (boolCells w0) 25)).setRow w4.heap.size (boolCells s)) w4.heap.size 25 (boolCells s)) := Row.setRow H0.out _
  have HB_5 : Hid (Below w.heap.size w ((w4.alloc (.cells (boolCells w0) 25)).setRow w4.heap.size (boolCells s))) := below_setRow (HB_4.out.alloc hgs _) hgs _
  have hgb8 : w.heap.size ≤ w4.heap.size := hgs
  have HI1_5 := Lib.hid (HI1_4.out.below (W' := ((w4.alloc (.cells (boolCells w0) 25)).setRow w4.heap.size (boolCells s))) (below_setRow ((Below.refl _ _).alloc (Nat.le_refl _) _) (Nat.le_refl _) _))
  have HI2_5 := Lib.hid (HI2_4.out.below (W' := ((w4.alloc (.cells (boolCells w0) 25)).setRow w4.heap.size (boolCells s))) (below_setRow ((Below.refl _ _).alloc (Nat.le_refl _) _) (Nat.le_refl _) _))
  have hne7_8 : g7 < w4.heap.size := hlt7
  clear H0 HS0 H7_4 HB_4 HI1_4 HI2_4 hgs hlt7
  generalize ((w4.alloc (.cells (boolCells w0) 25)).setRow w4.heap.size (boolCells s)) = w5 at *
  generalize w4.heap.size = g8 at *
  go_wp2_with (first
      | (refine wpList_load_row rfl 25 (.tmp 7) rfl g7 rfl 25 (boolCells a) (0, 0) _ H7_5.out Try.underlying25 rfl (HSaA.out ()) ?_)
      | (refine wpList_load_row rfl 25 (.tmp 8) rfl g8 rfl 25 (boolCells s) (0, 0) _ H8_5.out Try.underlying25 rfl (HSsA.out ()) ?_))
  refine (HHO.out _ _ HI2_5.out).mono ?_
  rintro e w6 ⟨rfl, hb⟩
  have H7_6 := Lib.hid (H7_5.out.box hb)
  have H8_6 := Lib.hid (H8_5.out.box hb)
  have HI1_6 := Lib.hid (HI1_5.out.below hb)
  have HI2_6 := Lib.hid (HI2_5.out.below hb)
  have HB_6 := Lib.hid (HB_5.out.trans (hb.mono HB_5.out.size))
  clear hb H7_5 H8_5 HI1_5 HI2_5 HB_5
  have H0 : Hid (Row (w6.alloc (.cells (boolCells w0) 25)) w6.heap.size 25 (boolCells w0)) := heap_alloc_new _ _
  have HS0 : Hid (Unit → (boolCells w0).size = (boolCells m).size) := by intro _; rw [boolCells_size, boolCells_size, w0_length, HLm.out]
  go_upto_region 6 with (first
      | (refine wpList_store_row rfl 25 (.tmp 9) (.tmp 32) rfl w6.heap.size (boolCells m) rfl rfl 25 (boolCells w0) H0.out (HSmA.out ()) (HS0.out ()) (boolCells_one m) ?_)
      | (refine wpList_load_row rfl 25 (.tmp 7) rfl g7 rfl 25 (boolCells a) (0, 0) _ H7_6.out Try.underlying25 rfl (HSaA.out ()) ?_)
      | (refine wpList_load_row rfl 25 (.tmp 8) rfl g8 rfl 25 (boolCells s) (0, 0) _ H8_6.out Try.underlying25 rfl (HSsA.out ()) ?_))
  have hgs := HB_6.out.size
  have hlt7 := H7_6.out.lt
  have hlt8 := H8_6.out.lt
  have H7_7 : Hid (Row ((w6.alloc (.cells (boolCells w0) 25)).setRow w6.heap.size (boolCells m)) g7 25 (boolCells a)) := (setRow_other _ _ _ _ (by omega)).trans (H7_6.out.alloc _)
  have H8_7 : Hid (Row ((w6.alloc (.cells (boolCells w0) 25)).setRow w6.heap.size (boolCells m)) g8 25 (boolCells s)) := (setRow_other _ _ _ _ (by omega)).trans (H8_6.out.alloc _)
  have H9_7 : Hid (Row ((w6.alloc (.cells (boolCells w0) 25)).setRow w6.heap.size (boolCells m)) w6.heap.size 25 (boolCells m)) := Row.setRow H0.out _
  have HB_7 : Hid (Below w.heap.size w ((w6.alloc (.cells (boolCells w0) 25)).setRow w6.heap.size (boolCells m))) := below_setRow (HB_6.out.alloc hgs _) hgs _
  have hgb9 : w.heap.size ≤ w6.heap.size := hgs
  have HI1_7 := Lib.hid (HI1_6.out.below (W' := ((w6.alloc (.cells (boolCells w0) 25)).setRow w6.heap.size (boolCells m))) (below_setRow ((Below.refl _ _).alloc (Nat.le_refl _) _) (Nat.le_refl _) _))
  have HI2_7 := Lib.hid (HI2_6.out.below (W' := ((w6.alloc (.cells (boolCells w0) 25)).setRow w6.heap.size (boolCells m))) (below_setRow ((Below.refl _ _).alloc (Nat.le_refl _) _) (Nat.le_refl _) _))
  have hne7_9 : g7 < w6.heap.size := hlt7
  have hne8_9 : g8 < w6.heap.size := hlt8
  clear H0 HS0 H7_6 H8_6 HB_6 HI1_6 HI2_6 hgs hlt7 hlt8
  generalize ((w6.alloc (.cells (boolCells w0) 25)).setRow w6.heap.size (boolCells m)) = w7 at *
  generalize w6.heap.size = g9 at *
  go_wp2_with (first
      | (refine wpList_load_row rfl 25 (.tmp 7) rfl g7 rfl 25 (boolCells a) (0, 0) _ H7_7.out Try.underlying25 rfl (HSaA.out ()) ?_)
      | (refine wpList_load_row rfl 25 (.tmp 8) rfl g8 rfl 25 (boolCells s) (0, 0) _ H8_7.out Try.underlying25 rfl (HSsA.out ()) ?_)
      | (refine wpList_load_row rfl 25 (.tmp 9) rfl g9 rfl 25 (boolCells m) (0, 0) _ H9_7.out Try.underlying25 rfl (HSmA.out ()) ?_))
  refine (amend_any s m _ HLs.out HLm.out).mono ?_
  rintro e w8 ⟨y, n, rfl, ham, hb⟩
  have H7_8 := Lib.hid (H7_7.out.box hb)
  have H8_8 := Lib.hid (H8_7.out.box hb)
  have H9_8 := Lib.hid (H9_7.out.box hb)
  have HI1_8 := Lib.hid (HI1_7.out.below hb)
  have HI2_8 := Lib.hid (HI2_7.out.below hb)
  have HB_8 := Lib.hid (HB_7.out.trans (hb.mono HB_7.out.size))
  clear hb H7_7 H8_7 H9_7 HI1_7 HI2_7 HB_7
  have HA := Lib.hid ham
  clear ham
  go_wp2_with (first
      | (refine wpList_load_row rfl 25 (.tmp 7) rfl g7 rfl 25 (boolCells a) (0, 0) _ H7_8.out Try.underlying25 rfl (HSaA.out ()) ?_)
      | (refine wpList_load_row rfl 25 (.tmp 8) rfl g8 rfl 25 (boolCells s) (0, 0) _ H8_8.out Try.underlying25 rfl (HSsA.out ()) ?_)
      | (refine wpList_load_row rfl 25 (.tmp 9) rfl g9 rfl 25 (boolCells m) (0, 0) _ H9_8.out Try.underlying25 rfl (HSmA.out ()) ?_))
  refine (far_any s m a _ HLs.out HLm.out HLa.out).mono ?_
  rintro e w9 ⟨rfl, hb⟩
  have H7_9 := Lib.hid (H7_8.out.box hb)
  have H8_9 := Lib.hid (H8_8.out.box hb)
  have H9_9 := Lib.hid (H9_8.out.box hb)
  have HI1_9 := Lib.hid (HI1_8.out.below hb)
  have HI2_9 := Lib.hid (HI2_8.out.below hb)
  have HB_9 := Lib.hid (HB_8.out.trans (hb.mono HB_8.out.size))
  clear hb H7_8 H8_8 H9_8 HI1_8 HI2_8 HB_8
  have hx0 := HAM.out y n HA.out
  have hx1 := HNE.out y
  obtain ⟨D, hD⟩ : ∃ D, farN s m a 127 = D := ⟨_, rfl⟩
  rw [hD] at hx0 hx1 ⊢
  have HX0 := Lib.hid hx0
  have HX1 := Lib.hid hx1
  clear hx0 hx1 hD
  by_cases hd : D ≤ 20
  · obtain ⟨rfl, rfl⟩ := HX0.out hd
    have hd' : (D : Int) ≤ 20 := by omega
    clear hd
    go_wp2
    go_ret
    exact ⟨by simp, HB_9.out⟩
  · have hd' : ¬ ((D : Int) ≤ 20) := by omega
    have HD := Lib.hid hd
    clear hd
    rcases HA.out with ⟨rfl, hy⟩ | ⟨rfl, rfl, hy⟩
    · have hyx := HX1.out hy HD.out
      have HEb := Lib.hid (encode_any y)
      have HFb := Lib.hid (encode_ref y)
      have HXb : Hid (Unit → cwd y = cwd y) := fun _ => rfl
      have hlb := cwd_length y
      obtain ⟨b, hb⟩ : ∃ l, cwd y = l := ⟨_, rfl⟩
      rw [hb] at HEb HFb hlb
      clear HXb
      have HXb := Lib.hid fun _ : Unit => hb
      clear hb
      have HFY : Hid (farN s m b 127 ≤ 20) := by rw [← HXb.out ()]; exact hy
      clear hy
      have HLb := Lib.hid (hlb)
      have HSbW := Lib.hid fun _ : Unit => word_size b HLb.out
      have HSbA := Lib.hid fun _ : Unit => arr_size b HLb.out
      clear hlb
      go_wp2_with (first
          | (refine wpList_load_row rfl 25 (.tmp 7) rfl g7 rfl 25 (boolCells a) (0, 0) _ H7_9.out Try.underlying25 rfl (HSaA.out ()) ?_)
          | (refine wpList_load_row rfl 25 (.tmp 8) rfl g8 rfl 25 (boolCells s) (0, 0) _ H8_9.out Try.underlying25 rfl (HSsA.out ()) ?_)
          | (refine wpList_load_row rfl 25 (.tmp 9) rfl g9 rfl 25 (boolCells m) (0, 0) _ H9_9.out Try.underlying25 rfl (HSmA.out ()) ?_))
      refine (HFb.out _).mono ?_
      rintro e w10 ⟨rfl, hb⟩
      have H7_10 := Lib.hid (H7_9.out.box hb)
      have H8_10 := Lib.hid (H8_9.out.box hb)
      have H9_10 := Lib.hid (H9_9.out.box hb)
      have HI1_10 := Lib.hid (HI1_9.out.below hb)
      have HI2_10 := Lib.hid (HI2_9.out.below hb)
      have HB_10 := Lib.hid (HB_9.out.trans (hb.mono HB_9.out.size))
      clear hb H7_9 H8_9 H9_9 HI1_9 HI2_9 HB_9
      have H0 : Hid (Row (w10.alloc (.cells (boolCells w0) 25)) w10.heap.size 25 (boolCells w0)) := heap_alloc_new _ _
      have HS0 : Hid (Unit → (boolCells w0).size = (boolCells b).size) := by intro _; rw [boolCells_size, boolCells_size, w0_length, HLb.out]
      go_upto_region 12 with (first
          | (refine wpList_store_row rfl 25 (.tmp 12) (.tmp 60) rfl w10.heap.size (boolCells b) rfl rfl 25 (boolCells w0) H0.out (HSbA.out ()) (HS0.out ()) (boolCells_one b) ?_)
          | (refine wpList_load_row rfl 25 (.tmp 7) rfl g7 rfl 25 (boolCells a) (0, 0) _ H7_10.out Try.underlying25 rfl (HSaA.out ()) ?_)
          | (refine wpList_load_row rfl 25 (.tmp 8) rfl g8 rfl 25 (boolCells s) (0, 0) _ H8_10.out Try.underlying25 rfl (HSsA.out ()) ?_)
          | (refine wpList_load_row rfl 25 (.tmp 9) rfl g9 rfl 25 (boolCells m) (0, 0) _ H9_10.out Try.underlying25 rfl (HSmA.out ()) ?_))
      have hgs := HB_10.out.size
      have hlt7 := H7_10.out.lt
      have hlt8 := H8_10.out.lt
      have hlt9 := H9_10.out.lt
      have H7_11 : Hid (Row ((w10.alloc (.cells (boolCells w0) 25)).setRow w10.heap.size (boolCells b)) g7 25 (boolCells a)) := (setRow_other _ _ _ _ (by omega)).trans (H7_10.out.alloc _)
      have H8_11 : Hid (Row ((w10.alloc (.cells (boolCells w0) 25)).setRow w10.heap.size (boolCells b)) g8 25 (boolCells s)) := (setRow_other _ _ _ _ (by omega)).trans (H8_10.out.alloc _)
      have H9_11 : Hid (Row ((w10.alloc (.cells (boolCells w0) 25)).setRow w10.heap.size (boolCells b)) g9 25 (boolCells m)) := (setRow_other _ _ _ _ (by omega)).trans (H9_10.out.alloc _)
      have H12_11 : Hid (Row ((w10.alloc (.cells (boolCells w0) 25)).setRow w10.heap.size (boolCells b)) w10.heap.size 25 (boolCells b)) := Row.setRow H0.out _
      have HB_11 : Hid (Below w.heap.size w ((w10.alloc (.cells (boolCells w0) 25)).setRow w10.heap.size (boolCells b))) := below_setRow (HB_10.out.alloc hgs _) hgs _
      have hgb12 : w.heap.size ≤ w10.heap.size := hgs
      have HI1_11 := Lib.hid (HI1_10.out.below (W' := ((w10.alloc (.cells (boolCells w0) 25)).setRow w10.heap.size (boolCells b))) (below_setRow ((Below.refl _ _).alloc (Nat.le_refl _) _) (Nat.le_refl _) _))
      have HI2_11 := Lib.hid (HI2_10.out.below (W' := ((w10.alloc (.cells (boolCells w0) 25)).setRow w10.heap.size (boolCells b))) (below_setRow ((Below.refl _ _).alloc (Nat.le_refl _) _) (Nat.le_refl _) _))
      have hne7_12 : g7 < w10.heap.size := hlt7
      have hne8_12 : g8 < w10.heap.size := hlt8
      have hne9_12 : g9 < w10.heap.size := hlt9
      clear H0 HS0 H7_10 H8_10 H9_10 HB_10 HI1_10 HI2_10 hgs hlt7 hlt8 hlt9
      generalize ((w10.alloc (.cells (boolCells w0) 25)).setRow w10.heap.size (boolCells b)) = w11 at *
      generalize w10.heap.size = g12 at *
      go_wp2_with (first
          | (refine wpList_load_guard (by rfl) 25 (.tmp 8) rfl g8 rfl 25 (boolCells s) (0, 0) _ H8_11.out Try.underlying25 rfl (HSsA.out ()) ?_)
          | (refine wpList_load_guard (by rfl) 25 (.tmp 9) rfl g9 rfl 25 (boolCells m) (0, 0) _ H9_11.out Try.underlying25 rfl (HSmA.out ()) ?_)
          | (refine wpList_load_guard (by rfl) 25 (.tmp 12) rfl g12 rfl 25 (boolCells b) (0, 0) _ H12_11.out Try.underlying25 rfl (HSbA.out ()) ?_))
      refine (far_any s m b _ HLs.out HLm.out HLb.out).mono ?_
      rintro e w12 ⟨rfl, hb⟩
      have H7_12 := Lib.hid (H7_11.out.box hb)
      have H8_12 := Lib.hid (H8_11.out.box hb)
      have H9_12 := Lib.hid (H9_11.out.box hb)
      have H12_12 := Lib.hid (H12_11.out.box hb)
      have HI1_12 := Lib.hid (HI1_11.out.below hb)
      have HI2_12 := Lib.hid (HI2_11.out.below hb)
      have HB_12 := Lib.hid (HB_11.out.trans (hb.mono HB_11.out.size))
      clear hb H7_11 H8_11 H9_11 H12_11 HI1_11 HI2_11 HB_11
      obtain ⟨D2, hD2⟩ : ∃ D, farN s m b 127 = D := ⟨_, rfl⟩
      have hy2 := HFY.out
      rw [hD2] at hy2 ⊢
      have hy3 : (D2 : Int) ≤ 20 := by omega
      clear hD2 hy2
      go_wp2
      go_ret
      exact ⟨by first | rfl | simp [hy3], HB_12.out⟩
    · clear hy
      rw [show un (0 : BitVec 64) = 0 from rfl]
      go_wp2
      go_ret
      exact ⟨rfl, HB_9.out⟩
theorem reach_any (x : BitVec 64) (l1 l2 : Value) (xs ys : List Int) (w : World) (hm1 : xs.length ≤ maxLen) (hm2 : ys.length ≤ maxLen) (hp1 : ∀ p ∈ xs, 0 ≤ p ∧ p ≤ 255) (hp2 : ∀ p ∈ ys, 0 ≤ p ∧ p ≤ 255) (h1 : BytesAt w l1 xs) (h2 : BytesAt w l2 ys) :
    Calls Try.prog 3 #[.int .u64 (un x), l1, l2] w fun e w' => e = .returned (.bool true) ∧ Below w.heap.size w w' := by
  by_cases hb : 40 < xs.length ∨ 40 < ys.length
  · exact reach_big x l1 l2 xs ys w hb hm1 hm2 h1 h2
  · exact reach_walk x l1 l2 xs ys w (by omega) (by omega) hp1 hp2 h1 h2
end Go.Proofs.Ytbokecpcefcimaa
