/-
  band's Steps and Clamp. Conditions: a frame of 32 numbers.
-/
import Derived.Test.YtagcdnglipdldaaBne
namespace Go.Proofs.Ytagcdnglipdldaa
open Go.RowKit
open M
set_option maxRecDepth 100000 in
set_option maxHeartbeats 1000000 in
theorem steps16_any (f : List Int) (w : World) (hf : f.length = 32) :
    Calls Try.prog 13 #[.agg (iCells f)] w fun e w' => e = .returned (.agg (iCells (sts f))) ∧ Below w.heap.size w w' := by
  have HF := Lib.hid hf
  have HSF := Lib.hid (frame_size f hf)
  obtain ⟨g, hg⟩ : ∃ g, w.heap.size = g := ⟨_, rfl⟩
  have HR : Hid (Row (((w.alloc (.cells (iCells f) 25)).alloc (.cells (iCells z8) 33)).alloc (.cells (iCells z8) 33)) g 25 (iCells f)) := Lib.hid (hg ▸ Row.alloc (Row.alloc (heap_alloc_new _ _) _) _)
  have HA : Hid (Row (((w.alloc (.cells (iCells f) 25)).alloc (.cells (iCells z8) 33)).alloc (.cells (iCells z8) 33)) (g + 1) 33 (iCells z8)) := Lib.hid (Row.alloc (row_new _ _ (by simp [hg]) _ _) _)
  have HC : Hid (Row (((w.alloc (.cells (iCells f) 25)).alloc (.cells (iCells z8) 33)).alloc (.cells (iCells z8) 33)) (g + 1 + 1) 33 (iCells z8)) := Lib.hid (row_new _ _ (by simp [hg]) _ _)
  have HB : Hid (Below g w (((w.alloc (.cells (iCells f) 25)).alloc (.cells (iCells z8) 33)).alloc (.cells (iCells z8) 33))) := Lib.hid ((((Below.refl _ _).alloc (by omega) _).alloc (by simp; omega) _).alloc (by simp; omega) _)
  have hz := side_zero
  have HG := Lib.hid hg
  clear hf
  rw [hg]
  clear hg
  go_enter Try.func13, Try.ntmps13
  go_wp2_with fail
  rw [HG.out]
  generalize ((w.alloc (.cells (iCells f) 25)).alloc (.cells (iCells z8) 33)).alloc (.cells (iCells z8) 33) = w1 at *
  clear hz
  go_loopw [4, 5] (fun bb ii wr => ∃ (k : Nat) (L : List Int), k ≤ 8 ∧ ii = .int .i64 k ∧ L.length = 8 ∧ (∀ j, j < k → L.getD j 0 = sp16 f j) ∧ Row wr g 25 (iCells f) ∧ Row wr (g + 1) 33 (iCells z8) ∧ Row wr (g + 1 + 1) 33 (iCells L) ∧ Below g w wr) (fun _ ii _ => 8 - (intOf ii).toNat)
  case atStart => exact ⟨0, z8, by omega, rfl, z8_length, fun j hj => by omega, HR.out, HA.out, HC.out, HB.out⟩
  case round =>
    clear HR HA HC HB
    obtain ⟨k, L, hk, rfl, hL, hall, h1, h2, h3, h4⟩ := hrel
    have HR := Lib.hid h1
    have HA := Lib.hid h2
    have HC := Lib.hid h3
    have HB := Lib.hid h4
    have HL := Lib.hid hL
    have HAL := Lib.hid hall
    clear h1 h2 h3 h4 hL hall
    rcases Nat.lt_or_ge k 8 with hlt | hge
    · have HK := Lib.hid hlt
      have hkI : (k : Int) < 8 := by omega
      have HOF : Hid (of16 f (k : Int) = bd16 f k) := Lib.hid (by unfold of16; rw [if_pos (show isb (k : Int) = true from decide_eq_true (by omega)), Int.toNat_natCast])
      clear hk hlt
      go_wp2_with (refine wpList_load_row rfl 25 (.tmp 1) rfl g rfl 25 (iCells f) (0, 0) _ HR.out Try.underlying25 rfl HSF.out ?_)
      refine (of16_any f k _ HF.out).mono ?_
      rintro e w2 ⟨rfl, hb2⟩
      rw [HOF.out]
      have HR2 := Lib.hid (Row.box HR.out hb2)
      have HA2 := Lib.hid (Row.box HA.out hb2)
      have HC2 := Lib.hid (Row.box HC.out hb2)
      have HB2 := Lib.hid (HB.out.trans (hb2.mono (Nat.le_of_lt (Row.lt HR.out))))
      clear HR HA HC HB hb2
      go_wp2_with fail
      refine (step16_any (bd16 f k) _ (bd16_len f k)).mono ?_
      rintro e w3 ⟨rfl, hb3⟩
      have HR3 := Lib.hid (Row.box HR2.out hb3)
      have HA3 := Lib.hid (Row.box HA2.out hb3)
      have HC3 := Lib.hid (Row.box HC2.out hb3)
      have HB3 := Lib.hid (HB2.out.trans (hb3.mono (Nat.le_of_lt (Row.lt HR2.out))))
      clear HR2 HA2 HC2 HB2 hb3
      have HS : Hid (sp16 f k = (stp (gm16 (bd16 f k)) : Nat)) := Lib.hid rfl
      generalize ((stp (gm16 (bd16 f k)) : Nat) : Int) = x at *
      have c0 := i_at HC3.out k (by rw [HL.out]; exact HK.out)
      have z0 := frozen_of_row _ _ k _ _ HC3.out
      go_wp2_with fail
      go_roundw
      case rel =>
        refine ⟨k + 1, L.set k x, HK.out, by go_num, by rw [List.length_set]; exact HL.out, fun j hj => ?_, Row.far HR3.out (by simp; omega) _, Row.far HA3.out (by simp) _, ?_, HB3.out.setCell (by simp; omega) _⟩
        · rw [set_get16 _ _ _ _ (by rw [HL.out]; exact HK.out)]
          by_cases e : k = j
          · subst e; rw [if_pos rfl, HS.out]
          · rw [if_neg e]; exact HAL.out j (by omega)
        · rw [← iCells_set]; exact Row.set HC3.out k _
      case measure =>
        have := HK.out
        simp [intOf] <;> omega
    · obtain rfl : k = 8 := by omega
      have e : L = sts f := list_eq16 8 L (sts f) HL.out (sts_len f) fun j hj => by rw [HAL.out j hj, sts_get f j hj]
      have HE := Lib.hid e
      clear hk hge HAL e
      have HSZ := Lib.hid (side_size L HL.out)
      have HSS := Lib.hid (side_same z8 L z8_length HL.out)
      go_wp2_with (first
        | (refine wpList_load_row rfl 33 (.tmp 3) rfl (g + 1 + 1) rfl 33 (iCells L) (0, 0) _ HC.out Try.underlying33 rfl HSZ.out ?_)
        | (refine wpList_store_row rfl 33 (.tmp 2) (.tmp 15) rfl (g + 1) (iCells L) rfl rfl 33 (iCells z8) HA.out HSZ.out HSS.out (iCells_one L) ?_))
      refine bodyPost_ret (v := .agg (iCells L)) (results_cell_row Try.results13 _ _ (g + 1) 33 (iCells L) (0, 0) _ rfl (Row.setRow HA.out _) Try.underlying33 rfl HSZ.out) rfl ⟨by rw [HE.out], below_setRow HB.out (by omega) _⟩
/-- A frame brought into its range. -/
def clm (f : List Int) : List Int := f.map cl16
theorem clm_len (f : List Int) (h : f.length = 32) : (clm f).length = 32 := by simp [clm, h]
theorem clm_get (f : List Int) (b : Nat) (h : b < f.length) : (clm f).getD b 0 = cl16 (f.getD b 0) := by
  unfold clm
  rw [List.getD_eq_getElem?_getD, List.getElem?_map, List.getD_eq_getElem?_getD, List.getElem?_eq_getElem h]
  rfl
set_option maxRecDepth 100000 in
set_option maxHeartbeats 1000000 in
theorem clamp_any (f : List Int) (w : World) (hf : f.length = 32) :
    Calls Try.prog 14 #[.agg (iCells f)] w fun e w' => e = .returned (.agg (iCells (clm f))) ∧ Below w.heap.size w w' := by
  have HF := Lib.hid hf
  have HSF := Lib.hid (frame_size f hf)
  have HCL := Lib.hid (clm_len f hf)
  have HR0 : Hid (Row ((w.alloc (.cells (iCells f) 25)).alloc (.cells (iCells f0) 25)) w.heap.size 25 (iCells f)) := Lib.hid (Row.alloc (heap_alloc_new _ _) _)
  obtain ⟨g, hg⟩ : ∃ g, w.heap.size = g := ⟨_, rfl⟩
  have HR : Hid (Row ((w.alloc (.cells (iCells f) 25)).alloc (.cells (iCells f0) 25)) g 25 (iCells f)) := Lib.hid (hg ▸ Row.alloc (heap_alloc_new _ _) _)
  have HA : Hid (Row ((w.alloc (.cells (iCells f) 25)).alloc (.cells (iCells f0) 25)) (g + 1) 25 (iCells f0)) := Lib.hid (row_new _ _ (by simp [hg]) _ _)
  have HB : Hid (Below g w ((w.alloc (.cells (iCells f) 25)).alloc (.cells (iCells f0) 25))) := Lib.hid (((Below.refl _ _).alloc (by omega) _).alloc (by simp; omega) _)
  have hz := frame_zero
  have HG := Lib.hid hg
  clear hf
  rw [hg]
  clear hg
  go_enter Try.func14, Try.ntmps14
  go_wp2_with (refine wpList_load_row rfl 25 (.tmp 1) rfl w.heap.size rfl 25 (iCells f) (0, 0) _ HR0.out Try.underlying25 rfl HSF.out ?_)
  clear HR0
  rw [HG.out]
  generalize (w.alloc (.cells (iCells f) 25)).alloc (.cells (iCells f0) 25) = w1 at *
  clear hz
  go_loopw [6] (fun ii wr => ∃ (k : Nat) (L : List Int), k ≤ 32 ∧ ii = .int .i64 k ∧ L.length = 32 ∧ (∀ j, j < k → L.getD j 0 = cl16 (f.getD j 0)) ∧ Row wr g 25 (iCells L) ∧ Row wr (g + 1) 25 (iCells f0) ∧ Below g w wr) (fun ii _ => 32 - (intOf ii).toNat)
  case atStart => exact ⟨0, f, by omega, rfl, HF.out, fun j hj => by omega, HR.out, HA.out, HB.out⟩
  case round =>
    clear HR HA HB
    obtain ⟨k, L, hk, rfl, hL, hall, h1, h2, h4⟩ := hrel
    have HR := Lib.hid h1
    have HA := Lib.hid h2
    have HB := Lib.hid h4
    have HL := Lib.hid hL
    have HAL := Lib.hid hall
    clear h1 h2 h4 hL hall
    rcases Nat.lt_or_ge k 32 with hlt | hge
    · have HK := Lib.hid hlt
      have hkI : (k : Int) < 32 := by omega
      have hix := index_frame f HF.out k hlt
      obtain ⟨x, hx⟩ : ∃ x, f.getD k 0 = x := ⟨_, rfl⟩
      rw [hx] at hix
      have HX := Lib.hid hx
      have hmx := max16 x
      have hmn := min16 x
      obtain ⟨m, hm⟩ : ∃ m, max x (-1048576) = m := ⟨_, rfl⟩
      rw [hm] at hmx hmn
      obtain ⟨y, hy⟩ : ∃ y, cl16 x = y := ⟨_, rfl⟩
      rw [hy] at hmn
      have HY := Lib.hid hy
      have c0 := i_at HR.out k (by rw [HL.out]; exact hlt)
      have z0 := frozen_of_row _ _ k _ _ HR.out
      clear hk hlt hx hm hy
      go_wp2_with fail
      go_roundw
      case rel =>
        refine ⟨k + 1, L.set k y, HK.out, by go_num, by rw [List.length_set]; exact HL.out, fun j hj => ?_, ?_, Row.far HA.out (by simp) _, HB.out.setCell (by simp) _⟩
        · rw [set_get16 _ _ _ _ (by rw [HL.out]; exact HK.out)]
          by_cases e : k = j
          · subst e; rw [if_pos rfl, HX.out, HY.out]
          · rw [if_neg e]; exact HAL.out j (by omega)
        · rw [← iCells_set]; exact Row.set HR.out k _
      case measure =>
        have := HK.out
        simp [intOf] <;> omega
    · obtain rfl : k = 32 := by omega
      have e : L = clm f := list_eq16 32 L (clm f) HL.out HCL.out fun j hj => by rw [HAL.out j hj, clm_get f j (by rw [HF.out]; exact hj)]
      have HE := Lib.hid e
      clear hk hge HAL e
      have HSZ := Lib.hid (frame_size L HL.out)
      have HSS := Lib.hid (frame_same f0 L f0_length HL.out)
      go_wp2_with (first
        | (refine wpList_load_row rfl 25 (.tmp 1) rfl g rfl 25 (iCells L) (0, 0) _ HR.out Try.underlying25 rfl HSZ.out ?_)
        | (refine wpList_store_row rfl 25 (.tmp 2) (.tmp 16) rfl (g + 1) (iCells L) rfl rfl 25 (iCells f0) HA.out HSZ.out HSS.out (iCells_one L) ?_))
      refine bodyPost_ret (v := .agg (iCells L)) (results_cell_row Try.results14 _ _ (g + 1) 25 (iCells L) (0, 0) _ rfl (Row.setRow HA.out _) Try.underlying25 rfl HSZ.out) rfl ⟨by rw [HE.out], below_setRow HB.out (by omega) _⟩
end Go.Proofs.Ytagcdnglipdldaa
