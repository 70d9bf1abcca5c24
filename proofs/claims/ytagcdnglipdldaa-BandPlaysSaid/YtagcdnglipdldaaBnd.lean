/-
  band's Of and Put: copy from a frame's band, and into it. Conditions: a frame of 32 numbers, four numbers; any band.
-/
import Derived.Test.YtagcdnglipdldaaBna
import Derived.Test.YtagcdnglipdldaaRfa
import Derived.Test.YtagcdnglipdldaaSvf
import Derived.Laws.CopyRow
import Derived.Deep.RegionWith
namespace Go.Proofs.Ytagcdnglipdldaa
open Go.RowKit
open M
/-- A band put. -/
def pt16 (f : List Int) (b : Nat) (c : List Int) : List Int := f.take (b * 4) ++ c ++ f.drop (b * 4 + 4)
theorem pt16_len (f : List Int) (b : Nat) (c : List Int) (hf : f.length = 32) (hc : c.length = 4) (hb : b ≤ 7) : (pt16 f b c).length = 32 := by
  unfold pt16; simp; omega
theorem bd16_len (f : List Int) (b : Nat) : (bd16 f b).length = 4 := rfl
theorem bd16_cut (f : List Int) (b : Nat) (hf : f.length = 32) (hb : b ≤ 7) : (f.drop (b * 4)).take 4 = bd16 f b := by
  have hd : (f.drop (b * 4)).take 4 = [f.getD (b * 4) 0, f.getD (b * 4 + 1) 0, f.getD (b * 4 + 2) 0, f.getD (b * 4 + 3) 0] := by
    apply List.ext_getElem
    · simp; omega
    · intro i h1 h2
      have hi : i < 4 := by simpa using h2
      rw [List.getElem_take, List.getElem_drop]
      have e : f[b * 4 + i]'(by omega) = f.getD (b * 4 + i) 0 := by
        rw [List.getD_eq_getElem?_getD, List.getElem?_eq_getElem (by omega)]; rfl
      rw [e]
      rcases (by omega : i = 0 ∨ i = 1 ∨ i = 2 ∨ i = 3) with rfl | rfl | rfl | rfl <;> rfl
  rw [hd]
  unfold bd16
  rw [Nat.mul_comm 4 b]
theorem int_one16 : (Try.prog.info? 3).map (·.size) = some 1 := by kernel_rfl
set_option maxRecDepth 100000 in
theorem copy_of16 (W : World) (c h o : Nat) (z f : List Int) (b : Nat) (ho : b * 4 = o) (hz : z.length = 4) (hf : f.length = 32) (hb : b ≤ 7) (hc : Row W c 23 (iCells z)) (hh : Row W h 25 (iCells f)) :
    (Builtin.copy_ #[41, 41] 3 #[.slice (some ⟨c, 0, none⟩) 4 4, .slice (some ⟨h, o, none⟩) (32 - o) (32 - o)]).run Try.prog W = .ok (goInt 4) (W.setRow c (iCells (bd16 f b))) := by
  have e := bd16_cut f b hf hb
  rw [ho] at e
  have hl : (((f.drop o).take 4).map fun x => Value.int .i64 x).length = 4 := by simp; omega
  have h := run_copy_row (P := Try.prog) W 41 41 3 3 c 0 4 4 ⟨h, o, none⟩ (32 - o) (32 - o) (iCells z) 23 (((f.drop o).take 4).map fun x => Value.int .i64 x)
    Try.underlying41 int_one16 hc (by rw [hl]; exact (Nat.min_eq_right (by omega)).symm) (fun j v hv => ?_) (by rw [hl, iCells_size, hz]; omega) (fun v hv => ?_)
  · rw [hl] at h
    rw [h, ← e]
    congr 2
    unfold iCells
    simp [hz]
  · have hj : j < 4 := by
      rcases Nat.lt_or_ge j 4 with h | h
      · exact h
      · rw [List.getElem?_eq_none (by rw [hl]; exact h)] at hv; cases hv
    have hadd : (⟨h, o, none⟩ : Addr).add j = ⟨h, o + j, none⟩ := by unfold Addr.add; split <;> simp_all
    rw [hadd, i_at hh (o + j) (by omega), ← hv, List.getElem?_map, List.getElem?_take, if_pos hj, List.getElem?_drop, List.getD_eq_getElem?_getD, List.getElem?_eq_getElem (show o + j < f.length by omega)]
    rfl
  · obtain ⟨x, _, rfl⟩ := List.mem_map.1 hv
    rfl
set_option maxRecDepth 100000 in
theorem copy_put16 (W : World) (c h o : Nat) (z f : List Int) (b : Nat) (ho : b * 4 = o) (hz : z.length = 4) (hf : f.length = 32) (hb : b ≤ 7) (hc : Row W c 23 (iCells z)) (hh : Row W h 25 (iCells f)) :
    (Builtin.copy_ #[41, 41] 3 #[.slice (some ⟨h, o, none⟩) (32 - o) (32 - o), .slice (some ⟨c, 0, none⟩) 4 4]).run Try.prog W = .ok (goInt 4) (W.setRow h (iCells (pt16 f b z))) := by
  have hl : (z.map fun x => Value.int .i64 x).length = 4 := by simp; omega
  have h := run_copy_row (P := Try.prog) W 41 41 3 3 h o (32 - o) (32 - o) ⟨c, 0, none⟩ 4 4 (iCells f) 25 (z.map fun x => Value.int .i64 x)
    Try.underlying41 int_one16 hh (by rw [hl]; exact (Nat.min_eq_left (by omega)).symm) (fun j v hv => ?_) (by rw [hl, iCells_size, hf]; omega) (fun v hv => ?_)
  · rw [hl] at h
    rw [h]
    congr 2
    unfold iCells pt16
    rw [ho]
    simp [List.map_take, List.map_drop]
  · have hj : j < 4 := by
      rcases Nat.lt_or_ge j 4 with h | h
      · exact h
      · rw [List.getElem?_eq_none (by rw [hl]; exact h)] at hv; cases hv
    have hadd : (⟨c, 0, none⟩ : Addr).add j = ⟨c, j, none⟩ := by unfold Addr.add; split <;> simp_all
    rw [hadd, i_at hc j (by omega), ← hv, List.getElem?_map, List.getD_eq_getElem?_getD, List.getElem?_eq_getElem (show j < z.length by omega)]
    rfl
  · obtain ⟨x, _, rfl⟩ := List.mem_map.1 hv
    rfl
/-- What Of answers. -/
def of16 (f : List Int) (n : Int) : List Int := if isb n then bd16 f n.toNat else z4
set_option maxRecDepth 100000 in
set_option maxHeartbeats 1000000 in
theorem of16_any (f : List Int) (n : Int) (w : World) (hf : f.length = 32) :
    Calls Try.prog 10 #[.agg (iCells f), .int .i64 n] w fun e w' => e = .returned (.agg (iCells (of16 f n))) ∧ Below w.heap.size w w' := by
  have HF := Lib.hid hf
  have HIS := fun w => isband_any n w
  obtain ⟨g, hg⟩ : ∃ g, w.heap.size = g := ⟨_, rfl⟩
  have HR : Hid (Row (((w.alloc (.cells (iCells f) 25)).alloc (.cells (iCells z4) 23)).alloc (.cells (iCells z4) 23)) g 25 (iCells f)) := Lib.hid (hg ▸ Row.alloc (Row.alloc (heap_alloc_new _ _) _) _)
  have HA : Hid (Row (((w.alloc (.cells (iCells f) 25)).alloc (.cells (iCells z4) 23)).alloc (.cells (iCells z4) 23)) (g + 1) 23 (iCells z4)) := Lib.hid (Row.alloc (row_new _ _ (by simp [hg]) _ _) _)
  have HC : Hid (Row (((w.alloc (.cells (iCells f) 25)).alloc (.cells (iCells z4) 23)).alloc (.cells (iCells z4) 23)) (g + 1 + 1) 23 (iCells z4)) := Lib.hid (row_new _ _ (by simp [hg]) _ _)
  have HB : Hid (Below g w (((w.alloc (.cells (iCells f) 25)).alloc (.cells (iCells z4) 23)).alloc (.cells (iCells z4) 23))) := Lib.hid ((((Below.refl _ _).alloc (by omega) _).alloc (by simp; omega) _).alloc (by simp; omega) _)
  have hz := four_zero
  have HG := Lib.hid hg
  clear hf
  rw [hg]
  clear hg
  go_enter Try.func10, Try.ntmps10
  go_wp2_with fail
  refine (HIS _).mono ?_
  rintro e w1 ⟨rfl, rfl⟩
  rw [HG.out]
  generalize ((w.alloc (.cells (iCells f) 25)).alloc (.cells (iCells z4) 23)).alloc (.cells (iCells z4) 23) = w1 at *
  by_cases hi : 0 ≤ n ∧ n < 8
  · have hb : isb n = true := decide_eq_true hi
    rw [hb]
    have ho : of16 f n = bd16 f n.toNat := by unfold of16; rw [if_pos hb]
    obtain ⟨b, rfl⟩ : ∃ b : Nat, n = b := ⟨n.toNat, by omega⟩
    rw [Int.toNat_natCast] at ho
    have hb7 : b ≤ 7 := by omega
    have HO := Lib.hid ho
    obtain ⟨o, hoo⟩ : ∃ o : Nat, b * 4 = o := ⟨_, rfl⟩
    have hw : IntKind.i64.wrap ((b : Int) * 4) = (o : Int) := by rw [IntKind.wrap_i64]; omega
    have ho32 : (o : Int) ≤ 32 := by omega
    clear hi hb ho HIS
    go_wp2_with fail
    have hcp := copy_of16 w1.drew (g + 1 + 1) g o z4 f b hoo rfl HF.out hb7 (HC.out.drewN 1) (HR.out.drewN 1)
    have HX : Hid (Row (w1.drew.setRow (g + 1 + 1) (iCells (bd16 f b))) (g + 1 + 1) 23 (iCells (bd16 f b))) := Lib.hid (Row.setRow (HC.out.drewN 1) _)
    have HAX : Hid (Row (w1.drew.setRow (g + 1 + 1) (iCells (bd16 f b))) (g + 1) 23 (iCells z4)) := Lib.hid ((setRow_other _ _ _ _ (by omega)).trans (HA.out.drewN 1))
    have HBX : Hid (Below g w (w1.drew.setRow (g + 1 + 1) (iCells (bd16 f b)))) := Lib.hid (below_setRow (below_drew1 HB.out) (by omega) _)
    have HL4 := Lib.hid (bd16_len f b)
    generalize bd16 f b = c at *
    have HSZ := Lib.hid (four_size c HL4.out)
    have HSS := Lib.hid (four_same z4 c rfl HL4.out)
    clear HC HR HA HB
    go_region
    clear hcp
    generalize w1.drew.setRow (g + 1 + 1) (iCells c) = w5 at *
    go_wp2_with (first
      | (refine wpList_load_row rfl 23 (.tmp 5) rfl (g + 1 + 1) rfl 23 (iCells c) (0, 0) _ HX.out Try.underlying23 rfl HSZ.out ?_)
      | (refine wpList_store_row rfl 23 (.tmp 4) (.tmp 13) rfl (g + 1) (iCells c) rfl rfl 23 (iCells z4) HAX.out HSZ.out HSS.out (iCells_one c) ?_))
    refine bodyPost_ret (v := .agg (iCells c)) (results_cell_row Try.results10 _ _ (g + 1) 23 (iCells c) (0, 0) _ rfl (Row.setRow HAX.out _) Try.underlying23 rfl HSZ.out) rfl ⟨by rw [HO.out], below_setRow HBX.out (by omega) _⟩
  · have hb : isb n = false := decide_eq_false hi
    rw [hb]
    have ho : of16 f n = z4 := by unfold of16; rw [hb]; rfl
    have HO := Lib.hid ho
    have HSZ := Lib.hid (four_size z4 rfl)
    clear hi hb ho HIS hz
    generalize z4 = c at *
    go_wp2_with (first
      | (refine wpList_load_row rfl 23 (.tmp 5) rfl (g + 1 + 1) rfl 23 (iCells c) (0, 0) _ HC.out Try.underlying23 rfl HSZ.out ?_)
      | (refine wpList_store_row rfl 23 (.tmp 4) (.tmp 13) rfl (g + 1) (iCells c) rfl rfl 23 (iCells c) HA.out HSZ.out rfl (iCells_one c) ?_))
    refine bodyPost_ret (v := .agg (iCells c)) (results_cell_row Try.results10 _ _ (g + 1) 23 (iCells c) (0, 0) _ rfl (Row.setRow HA.out _) Try.underlying23 rfl HSZ.out) rfl ⟨by rw [HO.out], below_setRow HB.out (by omega) _⟩
/-- What Put answers. -/
def put16 (f : List Int) (n : Int) (c : List Int) : List Int := if isb n then pt16 f n.toNat c else f
theorem put16_len (f : List Int) (n : Int) (c : List Int) (hf : f.length = 32) (hc : c.length = 4) : (put16 f n c).length = 32 := by
  unfold put16
  split
  · rename_i h
    exact pt16_len f _ c hf hc (by have := of_decide_eq_true h; omega)
  · exact hf
set_option maxRecDepth 100000 in
set_option maxHeartbeats 1000000 in
theorem put16_any (f : List Int) (n : Int) (c : List Int) (w : World) (hf : f.length = 32) (hc : c.length = 4) :
    Calls Try.prog 9 #[.agg (iCells f), .int .i64 n, .agg (iCells c)] w fun e w' => e = .returned (.agg (iCells (put16 f n c))) ∧ Below w.heap.size w w' := by
  have HF := Lib.hid hf
  have HCL := Lib.hid hc
  have HIS := fun w => isband_any n w
  obtain ⟨g, hg⟩ : ∃ g, w.heap.size = g := ⟨_, rfl⟩
  have HR : Hid (Row (((w.alloc (.cells (iCells f) 25)).alloc (.cells (iCells c) 23)).alloc (.cells (iCells f0) 25)) g 25 (iCells f)) := Lib.hid (hg ▸ Row.alloc (Row.alloc (heap_alloc_new _ _) _) _)
  have HA : Hid (Row (((w.alloc (.cells (iCells f) 25)).alloc (.cells (iCells c) 23)).alloc (.cells (iCells f0) 25)) (g + 1) 23 (iCells c)) := Lib.hid (Row.alloc (row_new _ _ (by simp [hg]) _ _) _)
  have HC : Hid (Row (((w.alloc (.cells (iCells f) 25)).alloc (.cells (iCells c) 23)).alloc (.cells (iCells f0) 25)) (g + 1 + 1) 25 (iCells f0)) := Lib.hid (row_new _ _ (by simp [hg]) _ _)
  have HB : Hid (Below g w (((w.alloc (.cells (iCells f) 25)).alloc (.cells (iCells c) 23)).alloc (.cells (iCells f0) 25))) := Lib.hid ((((Below.refl _ _).alloc (by omega) _).alloc (by simp; omega) _).alloc (by simp; omega) _)
  have hz := frame_zero
  have HG := Lib.hid hg
  have HPL := Lib.hid (put16_len f n c hf hc)
  clear hf hc
  rw [hg]
  clear hg
  go_enter Try.func9, Try.ntmps9
  go_wp2_with fail
  refine (HIS _).mono ?_
  rintro e w1 ⟨rfl, rfl⟩
  rw [HG.out]
  generalize ((w.alloc (.cells (iCells f) 25)).alloc (.cells (iCells c) 23)).alloc (.cells (iCells f0) 25) = w1 at *
  by_cases hi : 0 ≤ n ∧ n < 8
  · have hb : isb n = true := decide_eq_true hi
    rw [hb]
    have ho : put16 f n c = pt16 f n.toNat c := by unfold put16; rw [if_pos hb]
    obtain ⟨b, rfl⟩ : ∃ b : Nat, n = b := ⟨n.toNat, by omega⟩
    rw [Int.toNat_natCast] at ho
    have hb7 : b ≤ 7 := by omega
    rw [ho] at HPL
    have HO := Lib.hid ho
    obtain ⟨o, hoo⟩ : ∃ o : Nat, b * 4 = o := ⟨_, rfl⟩
    have hw : IntKind.i64.wrap ((b : Int) * 4) = (o : Int) := by rw [IntKind.wrap_i64]; omega
    have ho32 : (o : Int) ≤ 32 := by omega
    clear hi hb ho HIS
    go_wp2_with fail
    have hcp := copy_put16 w1.drew (g + 1) g o c f b hoo HCL.out HF.out hb7 (HA.out.drewN 1) (HR.out.drewN 1)
    have HX : Hid (Row (w1.drew.setRow g (iCells (pt16 f b c))) g 25 (iCells (pt16 f b c))) := Lib.hid (Row.setRow (HR.out.drewN 1) _)
    have HAX : Hid (Row (w1.drew.setRow g (iCells (pt16 f b c))) (g + 1 + 1) 25 (iCells f0)) := Lib.hid ((setRow_other _ _ _ _ (by omega)).trans (HC.out.drewN 1))
    have HBX : Hid (Below g w (w1.drew.setRow g (iCells (pt16 f b c)))) := Lib.hid (below_setRow (below_drew1 HB.out) (by omega) _)
    generalize pt16 f b c = p at *
    have HSZ := Lib.hid (frame_size p HPL.out)
    have HSS := Lib.hid (frame_same f0 p f0_length HPL.out)
    clear HC HR HA HB
    go_region
    clear hcp
    generalize w1.drew.setRow g (iCells p) = w5 at *
    go_wp2_with (first
      | (refine wpList_load_row rfl 25 (.tmp 3) rfl g rfl 25 (iCells p) (0, 0) _ HX.out Try.underlying25 rfl HSZ.out ?_)
      | (refine wpList_store_row rfl 25 (.tmp 6) (.tmp 14) rfl (g + 1 + 1) (iCells p) rfl rfl 25 (iCells f0) HAX.out HSZ.out HSS.out (iCells_one p) ?_))
    refine bodyPost_ret (v := .agg (iCells p)) (results_cell_row Try.results9 _ _ (g + 1 + 1) 25 (iCells p) (0, 0) _ rfl (Row.setRow HAX.out _) Try.underlying25 rfl HSZ.out) rfl ⟨by rw [HO.out], below_setRow HBX.out (by omega) _⟩
  · have hb : isb n = false := decide_eq_false hi
    rw [hb]
    have ho : put16 f n c = f := by unfold put16; rw [hb]; rfl
    have HO := Lib.hid ho
    have HSZ := Lib.hid (frame_size f HF.out)
    have HSS := Lib.hid (frame_same f0 f f0_length HF.out)
    clear hi hb ho HIS hz
    go_wp2_with (first
      | (refine wpList_load_row rfl 25 (.tmp 3) rfl g rfl 25 (iCells f) (0, 0) _ HR.out Try.underlying25 rfl HSZ.out ?_)
      | (refine wpList_store_row rfl 25 (.tmp 6) (.tmp 14) rfl (g + 1 + 1) (iCells f) rfl rfl 25 (iCells f0) HC.out HSZ.out HSS.out (iCells_one f) ?_))
    refine bodyPost_ret (v := .agg (iCells f)) (results_cell_row Try.results9 _ _ (g + 1 + 1) 25 (iCells f) (0, 0) _ rfl (Row.setRow HC.out _) Try.underlying25 rfl HSZ.out) rfl ⟨by rw [HO.out], below_setRow HB.out (by omega) _⟩
end Go.Proofs.Ytagcdnglipdldaa
