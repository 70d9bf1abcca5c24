/-
  Promise 10.2, DctSize: the squares' sum of a frame and of its waves are alike, but for a part. Conditions: a frame of 32 ints.
-/
import Derived.Test.YtdlcdbkfhajkdaaDq
import Derived.Lib.QuietBelow
import Derived.Deep.Cut
namespace Go.Proofs.Ytdlcdbkfhajkdaa
open Go.RowKit
open M
set_option maxRecDepth 100000 in
set_option maxHeartbeats 2000000 in
theorem size_law (f : List Int) (w : World) (hf : f.length = 32) :
    Calls Try.prog 5 #[.agg (iCells f)] w fun e w' => e = .returned (.bool true) ∧ Below w.heap.size w w' := by
  have HB_0 : Hid (Below w.heap.size w (w.alloc (.cells (iCells f) 22))) := (Below.refl _ _).alloc (Nat.le_refl _) _
  have HK_0 : Hid (Row (w.alloc (.cells (iCells f) 22)) w.heap.size 22 (iCells f)) := heap_alloc_new _ _
  have HSN := Lib.hid (nums_size f hf)
  have HX0 := Lib.hid (hd24_held f)
  have HLH := Lib.hid fun W => lheld_any f W hf
  have HAW := Lib.hid fun W => lawake_any W
  have HSX := Lib.hid (frame_size (hd24 f 32) (hd24_len f 32))
  have HSS := Lib.hid (frame_same f0 (hd24 f 32) f0_length (hd24_len f 32))
  have HW1 := Lib.hid fun W => waves_in (hd24 f 32) W HX0.out
  have hb24 := hd24_bd f 32
  have hX28 : ∀ x ∈ hd24 f 32, -268435456 ≤ x ∧ x ≤ 268435456 := fun x hx => by have := hb24 x hx; omega
  have hA28 : ∀ x ∈ wav (hd24 f 32), -268435456 ≤ x ∧ x ≤ 268435456 := fun x hx => by have := wav_small _ (hd24_len f 32) 16777216 (by omega) hb24 x hx; omega
  have HQX := Lib.hid fun W => squares_any (hd24 f 32) W (hd24_len f 32) hX28
  have HQA := Lib.hid fun W => squares_any (wav (hd24 f 32)) W (wav_len _) hA28
  have hm0 := mxs_nn (hd24 f 32) 32
  have hm1 := mxs_le (hd24 f 32) 16777216 (by omega) (getD_bd (by omega) hb24) 32
  have hws := wav_size (hd24 f 32) (hd24_len f 32)
  have ha0 := sqs_nn (hd24 f 32)
  have ha1 := sqs_le 16777216 (hd24 f 32) hb24
  rw [hd24_len] at ha1
  have hc0 := sqs_nn (wav (hd24 f 32))
  have hz := fun w => frame_zero w
  clear hf HX0 hb24 hX28 hA28
  generalize sqs (wav (hd24 f 32)) = b at *
  generalize mxs (wav (hd24 f 32)) 32 = mb at *
  generalize wav (hd24 f 32) = A at *
  generalize sqs (hd24 f 32) = a at *
  generalize mxs (hd24 f 32) 32 = m at *
  generalize hd24 f 32 = X at *
  have ha2 : a ≤ 9007199254740992 := by omega
  have hb2 : b ≤ 18014398509481984 := by omega
  have hd : a.tdiv 8 = a / 8 := Int.tdiv_eq_ediv_of_nonneg ha0
  obtain ⟨d, hd8⟩ : ∃ d, a / 8 = d := ⟨_, rfl⟩
  have hd1 : 8 * d ≤ a := by omega
  have hd2 : a < 8 * d + 8 := by omega
  have HD1 := Lib.hid hd
  have HD2 := Lib.hid hd8
  have HR1 : Hid (IntKind.i64.wrap d = d) := by unfold Hid; rw [IntKind.wrap_i64]; omega
  have HR2 : Hid (IntKind.i64.wrap (4096 * m) = 4096 * m) := by unfold Hid; rw [IntKind.wrap_i64]; omega
  have HR3 : Hid (IntKind.i64.wrap (d + 4096 * m) = d + 4096 * m) := by unfold Hid; rw [IntKind.wrap_i64]; omega
  have HR4 : Hid (IntKind.i64.wrap (d + 4096 * m + 16777216) = d + 4096 * m + 16777216) := by unfold Hid; rw [IntKind.wrap_i64]; omega
  have HR5 : Hid (IntKind.i64.wrap (a + (d + 4096 * m + 16777216)) = a + (d + 4096 * m + 16777216)) := by unfold Hid; rw [IntKind.wrap_i64]; omega
  have HR6 : Hid (IntKind.i64.wrap (b + (d + 4096 * m + 16777216)) = b + (d + 4096 * m + 16777216)) := by unfold Hid; rw [IntKind.wrap_i64]; omega
  have HL1 : Hid (b ≤ a + (d + 4096 * m + 16777216)) := by unfold Hid; omega
  have HL2 : Hid (a ≤ b + (d + 4096 * m + 16777216)) := by unfold Hid; omega
  clear hws ha0 ha1 hc0 hm0 hm1 ha2 hb2 hd hd8 hd1 hd2
  go_enter Try.func5, Try.ntmps5
  go_wp2_with (first
      | (refine wpList_load_row rfl 22 (.tmp 1) rfl w.heap.size rfl 22 (iCells f) (0, 0) _ HK_0.out Try.underlying22 rfl HSN.out ?_))
  generalize w.alloc (.cells (iCells f) 22) = w0 at *
  refine (HAW.out _).mono ?_
  rintro e w1 ⟨rfl, hb⟩
  have R1_1 := Lib.hid (HK_0.out.box hb)
  have HB_1 := Lib.hid (HB_0.out.trans (hb.mono HB_0.out.size))
  clear hb HK_0 HB_0
  go_wp2_with (first
      | (refine wpList_load_row rfl 22 (.tmp 1) rfl w.heap.size rfl 22 (iCells f) (0, 0) _ R1_1.out Try.underlying22 rfl HSN.out ?_))
  refine (HLH.out _).mono ?_
  rintro e w2 ⟨rfl, hb⟩
  have R1_2 := Lib.hid (R1_1.out.box hb)
  have HB_2 := Lib.hid (HB_1.out.trans (hb.mono HB_1.out.size))
  clear hb R1_1 HB_1
  have H0 : Hid (Row (w2.alloc (.cells (iCells f0) 23)) w2.heap.size 23 (iCells f0)) := heap_alloc_new _ _
  go_upto_region 4 with (first
      | (refine wpList_store_row rfl 23 (.tmp 3) (.tmp 12) rfl w2.heap.size (iCells X) rfl rfl 23 (iCells f0) H0.out HSX.out HSS.out (iCells_one _) ?_)
      | (refine wpList_load_row rfl 22 (.tmp 1) rfl w.heap.size rfl 22 (iCells f) (0, 0) _ R1_2.out Try.underlying22 rfl HSN.out ?_))
  have hgs := HB_2.out.size
  have hbs : Below w2.heap.size w2 ((w2.alloc (.cells (iCells f0) 23)).setRow w2.heap.size (iCells X)) := below_setRow ((Below.refl _ _).alloc (Nat.le_refl _) _) (Nat.le_refl _) _
  have R1_3 := Lib.hid (R1_2.out.box hbs)
  have R3_3 : Hid (Row ((w2.alloc (.cells (iCells f0) 23)).setRow w2.heap.size (iCells X)) w2.heap.size 23 (iCells X)) := Row.setRow H0.out _
  have HB_3 : Hid (Below w.heap.size w ((w2.alloc (.cells (iCells f0) 23)).setRow w2.heap.size (iCells X))) := Lib.hid (HB_2.out.trans (hbs.mono hgs))
  clear H0 R1_2 HB_2 hbs hgs
  generalize ((w2.alloc (.cells (iCells f0) 23)).setRow w2.heap.size (iCells X)) = w3 at *
  generalize w2.heap.size = g3 at *
  go_wp2_with (first
      | (refine wpList_load_row rfl 22 (.tmp 1) rfl w.heap.size rfl 22 (iCells f) (0, 0) _ R1_3.out Try.underlying22 rfl HSN.out ?_)
      | (refine wpList_load_row rfl 23 (.tmp 3) rfl g3 rfl 23 (iCells X) (0, 0) _ R3_3.out Try.underlying23 rfl HSX.out ?_))
  refine (HQX.out _).mono ?_
  rintro e w4 ⟨rfl, hb⟩
  have R1_4 := Lib.hid (R1_3.out.box hb)
  have R3_4 := Lib.hid (R3_3.out.box hb)
  have HB_4 := Lib.hid (HB_3.out.trans (hb.mono HB_3.out.size))
  clear hb R1_3 R3_3 HB_3
  go_wp2_with (first
      | (refine wpList_load_row rfl 22 (.tmp 1) rfl w.heap.size rfl 22 (iCells f) (0, 0) _ R1_4.out Try.underlying22 rfl HSN.out ?_)
      | (refine wpList_load_row rfl 23 (.tmp 3) rfl g3 rfl 23 (iCells X) (0, 0) _ R3_4.out Try.underlying23 rfl HSX.out ?_))
  refine (HW1.out _).mono ?_
  rintro e w5 ⟨rfl, hb⟩
  have R1_5 := Lib.hid (R1_4.out.box hb)
  have R3_5 := Lib.hid (R3_4.out.box hb)
  have HB_5 := Lib.hid (HB_4.out.trans (hb.mono HB_4.out.size))
  clear hb R1_4 R3_4 HB_4
  go_wp2_with (first
      | (refine wpList_load_row rfl 22 (.tmp 1) rfl w.heap.size rfl 22 (iCells f) (0, 0) _ R1_5.out Try.underlying22 rfl HSN.out ?_)
      | (refine wpList_load_row rfl 23 (.tmp 3) rfl g3 rfl 23 (iCells X) (0, 0) _ R3_5.out Try.underlying23 rfl HSX.out ?_))
  refine (HQA.out _).mono ?_
  rintro e w6 ⟨rfl, hb⟩
  have R1_6 := Lib.hid (R1_5.out.box hb)
  have R3_6 := Lib.hid (R3_5.out.box hb)
  have HB_6 := Lib.hid (HB_5.out.trans (hb.mono HB_5.out.size))
  clear hb R1_5 R3_5 HB_5
  have hd := HD1.out
  have hd8 := HD2.out
  have hr1 := HR1.out
  have hr2 := HR2.out
  have hr3 := HR3.out
  have hr4 := HR4.out
  have hr5 := HR5.out
  have hr6 := HR6.out
  have hl1 := HL1.out
  have hl2 := HL2.out
  go_wp2
  go_ret
  exact ⟨rfl, HB_6.out⟩
end Go.Proofs.Ytdlcdbkfhajkdaa
