/-
  The walk of the law AmendClean. Conditions: bytes; the list lies as it was opened.
-/
import Derived.Test.YtbokecpcefcimaaNo
import Derived.Test.YtbokecpcefcimaaJc
import Derived.Test.YtbokecpcefcimaaIw
namespace Go.Proofs.Ytbokecpcefcimaa
open Go.RowKit
open M
attribute [local go_sem] un_beq un_bne un_xor

set_option maxRecDepth 100000 in
set_option maxHeartbeats 2000000 in
theorem clean_big (x : BitVec 64) (l : Value) (xs : List Int) (w : World) (hl : 20 < xs.length) (hm : xs.length ≤ maxLen) (h : BytesAt w l xs) :
    Calls Try.prog 8 #[.int .u64 (un x), l] w fun e w' => e = .returned (.bool true) ∧ Below w.heap.size w w' := by
  unfold maxLen at hm
  obtain ⟨a, lcap, rfl, hcells⟩ := h
  clear hcells
  have hl' : (xs.length : Int) > 20 := by omega
  go_enter Try.func8, Try.ntmps8
  go_wp2_with fail
  refine (awake_any _).mono ?_
  rintro e w1 ⟨rfl, hb⟩
  have HB := Lib.hid hb
  clear hb
  go_wp2_with fail
  refine (awake_any _).mono ?_
  rintro e w2 ⟨rfl, hb⟩
  have HB2 := Lib.hid (HB.out.trans (hb.mono HB.out.size))
  clear hb
  go_wp2
  go_ret
  exact ⟨rfl, HB2.out⟩
set_option maxRecDepth 100000 in
set_option maxHeartbeats 2000000 in
theorem clean_walk (x : BitVec 64) (l : Value) (xs : List Int) (w : World) (hl : xs.length ≤ 20) (hp : ∀ p ∈ xs, 0 ≤ p ∧ p ≤ 255) (h : BytesAt w l xs) :
    Calls Try.prog 8 #[.int .u64 (un x), l] w fun e w' => e = .returned (.bool true) ∧ Below w.heap.size w w' := by
  have HI := Lib.hid h
  have HP := Lib.hid hp
  obtain ⟨ab, lcap, rfl, hcells⟩ := h
  clear hcells hp
  have hl' : ¬ ((xs.length : Int) > 20) := by omega
  have hl2 : ¬ (20 < (xs.length : Int)) := by omega
  have hml : (mk6 w0 (plc6 xs)).length = 127 := by rw [mk6_length, w0_length]
  have hmc : (mk6 w0 (plc6 xs)).count true ≤ 20 := by
    have := mk6_few w0 (plc6 xs)
    rw [w0_count, plc6_length] at this
    omega
  have HH := Lib.hid (fun W V h => holes_any xs V W (by omega) HP.out h)
  obtain ⟨m, hm⟩ : ∃ m, mk6 w0 (plc6 xs) = m := ⟨_, rfl⟩
  rw [hm] at hml hmc HH
  clear hm
  have hcw := cwd_cw x
  have HEa := Lib.hid (encode_any x)
  have HFa := Lib.hid (encode_ref x)
  have HXa : Hid (Unit → cwd x = cwd x) := fun _ => rfl
  have hla := cwd_length x
  obtain ⟨a, ha⟩ : ∃ l, cwd x = l := ⟨_, rfl⟩
  rw [ha] at HEa HFa hla
  clear HXa
  have HXa := Lib.hid fun _ : Unit => ha
  clear ha
  have HCW : Hid (isCw a = true) := by
    unfold Hid
    rw [← HXa.out (), isCw_iff]
    exact hcw
  have HFAR : Hid (farN a m a 127 ≤ 20) := by
    unfold Hid
    rw [far_self a m hml]
    exact hmc
  have HAM : Hid (∀ y n, Am a m y n → n = 0 ∧ y = x) := fun y n k => am_reach a m x y n k (by rw [HXa.out ()]; exact HFAR.out)
  have HLa := Lib.hid (hla)
  have HSaW := Lib.hid fun _ : Unit => word_size a HLa.out
  have HSaA := Lib.hid fun _ : Unit => arr_size a HLa.out
  have HLm := Lib.hid (hml)
  have HSmW := Lib.hid fun _ : Unit => word_size m HLm.out
  have HSmA := Lib.hid fun _ : Unit => arr_size m HLm.out
  clear hla hml hmc hcw
  have hz := word_zero
  have hza := arr_zero
  go_enter Try.func8, Try.ntmps8
  go_wp2_with fail
  refine (awake_any _).mono ?_
  rintro e w1 ⟨rfl, hb⟩
  have HI_1 := Lib.hid (HI.out.below hb)
  have HB_1 := Lib.hid hb
  clear hb HI
  go_wp2_with fail
  refine (HEa.out _).mono ?_
  rintro e w2 ⟨rfl, hb⟩
  have HI_2 := Lib.hid (HI_1.out.below hb)
  have HB_2 := Lib.hid (HB_1.out.trans (hb.mono HB_1.out.size))
  clear hb HI_1 HB_1
  have H0 : Hid (Row (w2.alloc (.cells (boolCells w0) 32)) w2.heap.size 32 (boolCells w0)) := heap_alloc_new _ _
  have HS0 : Hid (Unit → (boolCells w0).size = (boolCells a).size) := by intro _; rw [boolCells_size, boolCells_size, w0_length, HLa.out]
  go_upto_region 4 with (first
      | (refine wpList_store_row rfl 32 (.tmp 5) (.tmp 18) rfl w2.heap.size (boolCells a) rfl rfl 32 (boolCells w0) H0.out (HSaW.out ()) (HS0.out ()) (boolCells_one a) ?_))
  have hgs := HB_2.out.size
  have H5_3 : Hid (Row ((w2.alloc (.cells (boolCells w0) 32)).setRow w2.heap.size (boolCells a)) w2.heap.size 32 (boolCells a)) := Row.setRow H0.out _
  have HB_3 : Hid (Below w.heap.size w ((w2.alloc (.cells (boolCells w0) 32)).setRow w2.heap.size (boolCells a))) := below_setRow (HB_2.out.alloc hgs _) hgs _
  have hgb5 : w.heap.size ≤ w2.heap.size := hgs
  have HI_3 := Lib.hid (HI_2.out.below (W' := ((w2.alloc (.cells (boolCells w0) 32)).setRow w2.heap.size (boolCells a))) (below_setRow ((Below.refl _ _).alloc (Nat.le_refl _) _) (Nat.le_refl _) _))
  clear H0 HS0 HB_2 HI_2 hgs 
  generalize ((w2.alloc (.cells (boolCells w0) 32)).setRow w2.heap.size (boolCells a)) = w3 at *
  generalize w2.heap.size = g5 at *
  go_wp2_with (first
      | (refine wpList_load_row rfl 32 (.tmp 5) rfl g5 rfl 32 (boolCells a) (0, 0) _ H5_3.out Try.underlying32 rfl (HSaW.out ()) ?_))
  refine (HH.out _ _ HI_3.out).mono ?_
  rintro e w4 ⟨rfl, hb⟩
  have H5_4 := Lib.hid (H5_3.out.box hb)
  have HI_4 := Lib.hid (HI_3.out.below hb)
  have HB_4 := Lib.hid (HB_3.out.trans (hb.mono HB_3.out.size))
  clear hb H5_3 HI_3 HB_3
  have H0 : Hid (Row (w4.alloc (.cells (boolCells w0) 25)) w4.heap.size 25 (boolCells w0)) := heap_alloc_new _ _
  have HS0 : Hid (Unit → (boolCells w0).size = (boolCells m).size) := by intro _; rw [boolCells_size, boolCells_size, w0_length, HLm.out]
  go_upto_region 5 with (first
      | (refine wpList_store_row rfl 25 (.tmp 6) (.tmp 20) rfl w4.heap.size (boolCells m) rfl rfl 25 (boolCells w0) H0.out (HSmA.out ()) (HS0.out ()) (boolCells_one m) ?_)
      | (refine wpList_load_row rfl 32 (.tmp 5) rfl g5 rfl 32 (boolCells a) (0, 0) _ H5_4.out Try.underlying32 rfl (HSaW.out ()) ?_))
  have hgs := HB_4.out.size
  have hlt5 := H5_4.out.lt
  have H5_5 : Hid (Row ((w4.alloc (.cells (boolCells w0) 25)).setRow w4.heap.size (boolCells m)) g5 32 (boolCells a)) := (setRow_other _ _ _ _ (by omega)).trans (H5_4.out.alloc _)
  have H6_5 : Hid (Row ((w4.alloc (.cells (boolCells w0) 25)).setRow w4.heap.size (boolCells m)) w4.heap.size 25 (boolCells m)) := Row.setRow H0.out _
  have HB_5 : Hid (Below w.heap.size w ((w4.alloc (.cells (boolCells w0) 25)).setRow w4.heap.size (boolCells m))) := below_setRow (HB_4.out.alloc hgs _) hgs _
  have hgb6 : w.heap.size ≤ w4.heap.size := hgs
  have HI_5 := Lib.hid (HI_4.out.below (W' := ((w4.alloc (.cells (boolCells w0) 25)).setRow w4.heap.size (boolCells m))) (below_setRow ((Below.refl _ _).alloc (Nat.le_refl _) _) (Nat.le_refl _) _))
  have hne5_6 : g5 < w4.heap.size := hlt5
  clear H0 HS0 H5_4 HB_4 HI_4 hgs hlt5
  generalize ((w4.alloc (.cells (boolCells w0) 25)).setRow w4.heap.size (boolCells m)) = w5 at *
  generalize w4.heap.size = g6 at *
  go_wp2_with (first
      | (refine wpList_load_row rfl 32 (.tmp 5) rfl g5 rfl 32 (boolCells a) (0, 0) _ H5_5.out Try.underlying32 rfl (HSaW.out ()) ?_)
      | (refine wpList_load_row rfl 25 (.tmp 6) rfl g6 rfl 25 (boolCells m) (0, 0) _ H6_5.out Try.underlying25 rfl (HSmA.out ()) ?_))
  refine (amend_any a m _ HLa.out HLm.out).mono ?_
  rintro e w6 ⟨y, n, rfl, ham, hb⟩
  have H5_6 := Lib.hid (H5_5.out.box hb)
  have H6_6 := Lib.hid (H6_5.out.box hb)
  have HI_6 := Lib.hid (HI_5.out.below hb)
  have HB_6 := Lib.hid (HB_5.out.trans (hb.mono HB_5.out.size))
  clear hb H5_5 H6_5 HI_5 HB_5
  obtain ⟨rfl, rfl⟩ := HAM.out y n ham
  clear ham
  go_wp2_with (first
      | (refine wpList_load_guard (by rfl) 32 (.tmp 5) rfl g5 rfl 32 (boolCells a) (0, 0) _ H5_6.out Try.underlying32 rfl (HSaW.out ()) ?_)
      | (refine wpList_load_guard (by rfl) 25 (.tmp 6) rfl g6 rfl 25 (boolCells m) (0, 0) _ H6_6.out Try.underlying25 rfl (HSmA.out ()) ?_))
  refine (near_any a m a _ HLa.out HLm.out HLa.out).mono ?_
  rintro e w7 ⟨rfl, hb⟩
  have H5_7 := Lib.hid (H5_6.out.box hb)
  have H6_7 := Lib.hid (H6_6.out.box hb)
  have HI_7 := Lib.hid (HI_6.out.below hb)
  have HB_7 := Lib.hid (HB_6.out.trans (hb.mono HB_6.out.size))
  clear hb H5_6 H6_6 HI_6 HB_6
  have HFD : Hid (decide (farN a m a 127 ≤ 20) = true) := by unfold Hid; rw [decide_eq_true_iff]; exact HFAR.out
  rw [HFD.out, HCW.out]
  go_wp2
  go_ret
  exact ⟨rfl, HB_7.out⟩
theorem clean_any (x : BitVec 64) (l : Value) (xs : List Int) (w : World) (hm : xs.length ≤ maxLen) (hp : ∀ p ∈ xs, 0 ≤ p ∧ p ≤ 255) (h : BytesAt w l xs) :
    Calls Try.prog 8 #[.int .u64 (un x), l] w fun e w' => e = .returned (.bool true) ∧ Below w.heap.size w w' := by
  rcases Nat.lt_or_ge 20 xs.length with h1 | h1
  · exact clean_big x l xs w h1 hm h
  · exact clean_walk x l xs w h1 hp h
end Go.Proofs.Ytbokecpcefcimaa
