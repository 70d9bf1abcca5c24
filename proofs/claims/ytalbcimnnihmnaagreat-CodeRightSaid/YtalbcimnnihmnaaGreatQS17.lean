/-
  Contracts and plain facts that the laws share; each piece is headed by what it holds and its conditions.
-/
import Derived.Test.YtalbcimnnihmnaaGreatQS10
import Derived.Test.YtalbcimnnihmnaaGreatQS5
import Derived.Test.YtalbcimnnihmnaaGreatQS16
import Derived.Test.YtalbcimnnihmnaaGreatQS7
import Derived.Test.YtalbcimnnihmnaaGreatQS8
import Derived.Test.YtalbcimnnihmnaaGreatQS1
import Derived.Deep.WholeRow
import Derived.DeepKeys
import Derived.StillTailTactics
import Derived.Deep.Cut
import Derived.Laws.CopyRow
import Derived.Deep.RegionWith

/- Four numbers by value: how they lie, their zero value. No conditions but those that each fact names. -/
namespace Go.Proofs.YtalbcimnnihmnaaGreat
open Go.RowKit
open M
/-- Four zeros. -/
def z4 : List Int := [0, 0, 0, 0]
theorem four_info : (Tryz.prog.info? 26).map (fun i => (i.zero, i.size)) = some (some (.agg (iCells z4)), 4) := by kernel_rfl
theorem four_zero (w : World) : (zeroValue 26).run Tryz.prog w = .ok (.agg (iCells z4)) w := (zero_of_info four_info).1 w
theorem four_size (l : List Int) (h : l.length = 4) : (Tryz.prog.info? 26).map (·.size) = some (iCells l).size := by
  rw [iCells_size, h]; exact (zero_of_info four_info).2
theorem four_same (l m : List Int) (h : l.length = 4) (k : m.length = 4) : (iCells l).size = (iCells m).size := by
  rw [iCells_size, iCells_size, h, k]
theorem index_four (l : List Int) (hl : l.length = 4) (k : Nat) (hk : k < 4) (w : World) :
    (Instr.index 26 (.agg (iCells l)) (.int .i64 k)).run Tryz.prog w = .ok (.int .i64 (l.getD k 0)) w := by
  obtain ⟨i, hi, _, _, _⟩ := info_parts int_info
  have c := iCells_get l k (by omega)
  simp [Instr.index, run_underlying Tryz.underlying26, asIntOf, hk, run_sizeOf w hi, cells_intS, c, go_sem]
theorem row_parts {cs : Array Value} (a b c d : Int) (h : cs = iCells [a, b, c, d]) : cs = #[.int .i64 a, .int .i64 b, .int .i64 c, .int .i64 d] := h
/-- A list of four. -/
theorem four_list (l : List Int) (h : l.length = 4) : ∃ a b c d, l = [a, b, c, d] := by
  match l, h with
  | [a, b, c, d], _ => exact ⟨a, b, c, d, rfl⟩
end Go.Proofs.YtalbcimnnihmnaaGreat

/- band's Of and Put: copy from a frame's band, and into it. Conditions: a frame of 32 numbers, four numbers; any band. -/
namespace Go.Proofs.YtalbcimnnihmnaaGreat
open Go.RowKit
open M
/-- A band put. -/
def pt16 (f : List Int) (b : Nat) (c : List Int) : List Int := f.take (b * 4) ++ c ++ f.drop (b * 4 + 4)
theorem pt16_len (f : List Int) (b : Nat) (c : List Int) (hf : f.length = 32) (hc : c.length = 4) (hb : b ≤ 7) : (pt16 f b c).length = 32 := by
  unfold pt16; simp; omega
theorem bd16_len (f : List Int) (b : Nat) : (bd16 f b).length = 4 := rfl
theorem bd16_cut (f : List Int) (b : Nat) (hf : f.length = 32) (hb : b ≤ 7) : (f.drop (b * 4)).take 4 = bd16 f b := by
  have hd : (f.drop (b * 4)).take 4 = [f.getD (b * 4) 0, f.getD (b * 4 + 1) 0, f.getD (b * 4 + 2) 0, f.getD (b * 4 + 3) 0] := by
    apply List.ext_getElem
    · simp; omega
    · intro i h1 h2
      have hi : i < 4 := by simpa using h2
      rw [List.getElem_take, List.getElem_drop]
      have e : f[b * 4 + i]'(by omega) = f.getD (b * 4 + i) 0 := by
        rw [List.getD_eq_getElem?_getD, List.getElem?_eq_getElem (by omega)]; rfl
      rw [e]
      rcases (by omega : i = 0 ∨ i = 1 ∨ i = 2 ∨ i = 3) with rfl | rfl | rfl | rfl <;> rfl
  rw [hd]
  unfold bd16
  rw [Nat.mul_comm 4 b]
theorem int_one16 : (Tryz.prog.info? 3).map (·.size) = some 1 := by kernel_rfl
set_option maxRecDepth 100000 in
theorem copy_of16 (W : World) (c h o : Nat) (z f : List Int) (b : Nat) (ho : b * 4 = o) (hz : z.length = 4) (hf : f.length = 32) (hb : b ≤ 7) (hc : Row W c 26 (iCells z)) (hh : Row W h 41 (iCells f)) :
    (Builtin.copy_ #[45, 45] 3 #[.slice (some ⟨c, 0, none⟩) 4 4, .slice (some ⟨h, o, none⟩) (32 - o) (32 - o)]).run Tryz.prog W = .ok (goInt 4) (W.setRow c (iCells (bd16 f b))) := by
  have e := bd16_cut f b hf hb
  rw [ho] at e
  have hl : (((f.drop o).take 4).map fun x => Value.int .i64 x).length = 4 := by simp; omega
  have h := run_copy_row (P := Tryz.prog) W 45 45 3 3 c 0 4 4 ⟨h, o, none⟩ (32 - o) (32 - o) (iCells z) 26 (((f.drop o).take 4).map fun x => Value.int .i64 x)
    Tryz.underlying45 int_one16 hc (by rw [hl]; exact (Nat.min_eq_right (by omega)).symm) (fun j v hv => ?_) (by rw [hl, iCells_size, hz]; omega) (fun v hv => ?_)
  · rw [hl] at h
    rw [h, ← e]
    congr 2
    unfold iCells
    simp [hz]
  · have hj : j < 4 := by
      rcases Nat.lt_or_ge j 4 with h | h
      · exact h
      · rw [List.getElem?_eq_none (by rw [hl]; exact h)] at hv; cases hv
    have hadd : (⟨h, o, none⟩ : Addr).add j = ⟨h, o + j, none⟩ := by unfold Addr.add; split <;> simp_all
    rw [hadd, i_at hh (o + j) (by omega), ← hv, List.getElem?_map, List.getElem?_take, if_pos hj, List.getElem?_drop, List.getD_eq_getElem?_getD, List.getElem?_eq_getElem (show o + j < f.length by omega)]
    rfl
  · obtain ⟨x, _, rfl⟩ := List.mem_map.1 hv
    rfl
set_option maxRecDepth 100000 in
theorem copy_put16 (W : World) (c h o : Nat) (z f : List Int) (b : Nat) (ho : b * 4 = o) (hz : z.length = 4) (hf : f.length = 32) (hb : b ≤ 7) (hc : Row W c 26 (iCells z)) (hh : Row W h 41 (iCells f)) :
    (Builtin.copy_ #[45, 45] 3 #[.slice (some ⟨h, o, none⟩) (32 - o) (32 - o), .slice (some ⟨c, 0, none⟩) 4 4]).run Tryz.prog W = .ok (goInt 4) (W.setRow h (iCells (pt16 f b z))) := by
  have hl : (z.map fun x => Value.int .i64 x).length = 4 := by simp; omega
  have h := run_copy_row (P := Tryz.prog) W 45 45 3 3 h o (32 - o) (32 - o) ⟨c, 0, none⟩ 4 4 (iCells f) 41 (z.map fun x => Value.int .i64 x)
    Tryz.underlying45 int_one16 hh (by rw [hl]; exact (Nat.min_eq_left (by omega)).symm) (fun j v hv => ?_) (by rw [hl, iCells_size, hf]; omega) (fun v hv => ?_)
  · rw [hl] at h
    rw [h]
    congr 2
    unfold iCells pt16
    rw [ho]
    simp [List.map_take, List.map_drop]
  · have hj : j < 4 := by
      rcases Nat.lt_or_ge j 4 with h | h
      · exact h
      · rw [List.getElem?_eq_none (by rw [hl]; exact h)] at hv; cases hv
    have hadd : (⟨c, 0, none⟩ : Addr).add j = ⟨c, j, none⟩ := by unfold Addr.add; split <;> simp_all
    rw [hadd, i_at hc j (by omega), ← hv, List.getElem?_map, List.getD_eq_getElem?_getD, List.getElem?_eq_getElem (show j < z.length by omega)]
    rfl
  · obtain ⟨x, _, rfl⟩ := List.mem_map.1 hv
    rfl
/-- What Of answers. -/
def of16 (f : List Int) (n : Int) : List Int := if isb n then bd16 f n.toNat else z4
set_option maxRecDepth 100000 in
set_option maxHeartbeats 1000000 in
theorem of16_any (f : List Int) (n : Int) (w : World) (hf : f.length = 32) :
    Calls Tryz.prog 17 #[.agg (iCells f), .int .i64 n] w fun e w' => e = .returned (.agg (iCells (of16 f n))) ∧ Below w.heap.size w w' := by
  have HF := Lib.hid hf
  have HIS := fun w => isband_any n w
  obtain ⟨g, hg⟩ : ∃ g, w.heap.size = g := ⟨_, rfl⟩
  have HR : Hid (Row (((w.alloc (.cells (iCells f) 41)).alloc (.cells (iCells z4) 26)).alloc (.cells (iCells z4) 26)) g 41 (iCells f)) := Lib.hid (hg ▸ Row.alloc (Row.alloc (heap_alloc_new _ _) _) _)
  have HA : Hid (Row (((w.alloc (.cells (iCells f) 41)).alloc (.cells (iCells z4) 26)).alloc (.cells (iCells z4) 26)) (g + 1) 26 (iCells z4)) := Lib.hid (Row.alloc (row_new _ _ (by simp [hg]) _ _) _)
  have HC : Hid (Row (((w.alloc (.cells (iCells f) 41)).alloc (.cells (iCells z4) 26)).alloc (.cells (iCells z4) 26)) (g + 1 + 1) 26 (iCells z4)) := Lib.hid (row_new _ _ (by simp [hg]) _ _)
  have HB : Hid (Below g w (((w.alloc (.cells (iCells f) 41)).alloc (.cells (iCells z4) 26)).alloc (.cells (iCells z4) 26))) := Lib.hid ((((Below.refl _ _).alloc (by omega) _).alloc (by simp; omega) _).alloc (by simp; omega) _)
  have hz := four_zero
  have HG := Lib.hid hg
  clear hf
  rw [hg]
  clear hg
  go_enter Tryz.func17, Tryz.ntmps17
  go_wp2_with fail
  refine (HIS _).mono ?_
  rintro e w1 ⟨rfl, rfl⟩
  rw [HG.out]
  generalize ((w.alloc (.cells (iCells f) 41)).alloc (.cells (iCells z4) 26)).alloc (.cells (iCells z4) 26) = w1 at *
  by_cases hi : 0 ≤ n ∧ n < 8
  · have hb : isb n = true := decide_eq_true hi
    rw [hb]
    have ho : of16 f n = bd16 f n.toNat := by unfold of16; rw [if_pos hb]
    obtain ⟨b, rfl⟩ : ∃ b : Nat, n = b := ⟨n.toNat, by omega⟩
    rw [Int.toNat_natCast] at ho
    have hb7 : b ≤ 7 := by omega
    have HO := Lib.hid ho
    obtain ⟨o, hoo⟩ : ∃ o : Nat, b * 4 = o := ⟨_, rfl⟩
    have hw : IntKind.i64.wrap ((b : Int) * 4) = (o : Int) := by rw [IntKind.wrap_i64]; omega
    have ho32 : (o : Int) ≤ 32 := by omega
    clear hi hb ho HIS
    go_wp2_with fail
    have hcp := copy_of16 w1.drew (g + 1 + 1) g o z4 f b hoo rfl HF.out hb7 (HC.out.drewN 1) (HR.out.drewN 1)
    have HX : Hid (Row (w1.drew.setRow (g + 1 + 1) (iCells (bd16 f b))) (g + 1 + 1) 26 (iCells (bd16 f b))) := Lib.hid (Row.setRow (HC.out.drewN 1) _)
    have HAX : Hid (Row (w1.drew.setRow (g + 1 + 1) (iCells (bd16 f b))) (g + 1) 26 (iCells z4)) := Lib.hid ((setRow_other _ _ _ _ (by omega)).trans (HA.out.drewN 1))
    have HBX : Hid (Below g w (w1.drew.setRow (g + 1 + 1) (iCells (bd16 f b)))) := Lib.hid (below_setRow (below_drew1 HB.out) (by omega) _)
    have HL4 := Lib.hid (bd16_len f b)
    generalize bd16 f b = c at *
    have HSZ := Lib.hid (four_size c HL4.out)
    have HSS := Lib.hid (four_same z4 c rfl HL4.out)
    clear HC HR HA HB
    go_region
    clear hcp
    generalize w1.drew.setRow (g + 1 + 1) (iCells c) = w5 at *
    go_wp2_with (first
      | (refine wpList_load_row rfl 26 (.tmp 5) rfl (g + 1 + 1) rfl 26 (iCells c) (0, 0) _ HX.out Tryz.underlying26 rfl HSZ.out ?_)
      | (refine wpList_store_row rfl 26 (.tmp 4) (.tmp 13) rfl (g + 1) (iCells c) rfl rfl 26 (iCells z4) HAX.out HSZ.out HSS.out (iCells_one c) ?_))
    refine bodyPost_ret (v := .agg (iCells c)) (results_cell_row Tryz.results17 _ _ (g + 1) 26 (iCells c) (0, 0) _ rfl (Row.setRow HAX.out _) Tryz.underlying26 rfl HSZ.out) rfl ⟨by rw [HO.out], below_setRow HBX.out (by omega) _⟩
  · have hb : isb n = false := decide_eq_false hi
    rw [hb]
    have ho : of16 f n = z4 := by unfold of16; rw [hb]; rfl
    have HO := Lib.hid ho
    have HSZ := Lib.hid (four_size z4 rfl)
    clear hi hb ho HIS hz
    generalize z4 = c at *
    go_wp2_with (first
      | (refine wpList_load_row rfl 26 (.tmp 5) rfl (g + 1 + 1) rfl 26 (iCells c) (0, 0) _ HC.out Tryz.underlying26 rfl HSZ.out ?_)
      | (refine wpList_store_row rfl 26 (.tmp 4) (.tmp 13) rfl (g + 1) (iCells c) rfl rfl 26 (iCells c) HA.out HSZ.out rfl (iCells_one c) ?_))
    refine bodyPost_ret (v := .agg (iCells c)) (results_cell_row Tryz.results17 _ _ (g + 1) 26 (iCells c) (0, 0) _ rfl (Row.setRow HA.out _) Tryz.underlying26 rfl HSZ.out) rfl ⟨by rw [HO.out], below_setRow HB.out (by omega) _⟩
/-- What Put answers. -/
def put16 (f : List Int) (n : Int) (c : List Int) : List Int := if isb n then pt16 f n.toNat c else f
theorem put16_len (f : List Int) (n : Int) (c : List Int) (hf : f.length = 32) (hc : c.length = 4) : (put16 f n c).length = 32 := by
  unfold put16
  split
  · rename_i h
    exact pt16_len f _ c hf hc (by have := of_decide_eq_true h; omega)
  · exact hf
set_option maxRecDepth 100000 in
set_option maxHeartbeats 1000000 in
theorem put16_any (f : List Int) (n : Int) (c : List Int) (w : World) (hf : f.length = 32) (hc : c.length = 4) :
    Calls Tryz.prog 32 #[.agg (iCells f), .int .i64 n, .agg (iCells c)] w fun e w' => e = .returned (.agg (iCells (put16 f n c))) ∧ Below w.heap.size w w' := by
  have HF := Lib.hid hf
  have HCL := Lib.hid hc
  have HIS := fun w => isband_any n w
  obtain ⟨g, hg⟩ : ∃ g, w.heap.size = g := ⟨_, rfl⟩
  have HR : Hid (Row (((w.alloc (.cells (iCells f) 41)).alloc (.cells (iCells c) 26)).alloc (.cells (iCells f0) 41)) g 41 (iCells f)) := Lib.hid (hg ▸ Row.alloc (Row.alloc (heap_alloc_new _ _) _) _)
  have HA : Hid (Row (((w.alloc (.cells (iCells f) 41)).alloc (.cells (iCells c) 26)).alloc (.cells (iCells f0) 41)) (g + 1) 26 (iCells c)) := Lib.hid (Row.alloc (row_new _ _ (by simp [hg]) _ _) _)
  have HC : Hid (Row (((w.alloc (.cells (iCells f) 41)).alloc (.cells (iCells c) 26)).alloc (.cells (iCells f0) 41)) (g + 1 + 1) 41 (iCells f0)) := Lib.hid (row_new _ _ (by simp [hg]) _ _)
  have HB : Hid (Below g w (((w.alloc (.cells (iCells f) 41)).alloc (.cells (iCells c) 26)).alloc (.cells (iCells f0) 41))) := Lib.hid ((((Below.refl _ _).alloc (by omega) _).alloc (by simp; omega) _).alloc (by simp; omega) _)
  have hz := frame_zero
  have HG := Lib.hid hg
  have HPL := Lib.hid (put16_len f n c hf hc)
  clear hf hc
  rw [hg]
  clear hg
  go_enter Tryz.func32, Tryz.ntmps32
  go_wp2_with fail
  refine (HIS _).mono ?_
  rintro e w1 ⟨rfl, rfl⟩
  rw [HG.out]
  generalize ((w.alloc (.cells (iCells f) 41)).alloc (.cells (iCells c) 26)).alloc (.cells (iCells f0) 41) = w1 at *
  by_cases hi : 0 ≤ n ∧ n < 8
  · have hb : isb n = true := decide_eq_true hi
    rw [hb]
    have ho : put16 f n c = pt16 f n.toNat c := by unfold put16; rw [if_pos hb]
    obtain ⟨b, rfl⟩ : ∃ b : Nat, n = b := ⟨n.toNat, by omega⟩
    rw [Int.toNat_natCast] at ho
    have hb7 : b ≤ 7 := by omega
    rw [ho] at HPL
    have HO := Lib.hid ho
    obtain ⟨o, hoo⟩ : ∃ o : Nat, b * 4 = o := ⟨_, rfl⟩
    have hw : IntKind.i64.wrap ((b : Int) * 4) = (o : Int) := by rw [IntKind.wrap_i64]; omega
    have ho32 : (o : Int) ≤ 32 := by omega
    clear hi hb ho HIS
    go_wp2_with fail
    have hcp := copy_put16 w1.drew (g + 1) g o c f b hoo HCL.out HF.out hb7 (HA.out.drewN 1) (HR.out.drewN 1)
    have HX : Hid (Row (w1.drew.setRow g (iCells (pt16 f b c))) g 41 (iCells (pt16 f b c))) := Lib.hid (Row.setRow (HR.out.drewN 1) _)
    have HAX : Hid (Row (w1.drew.setRow g (iCells (pt16 f b c))) (g + 1 + 1) 41 (iCells f0)) := Lib.hid ((setRow_other _ _ _ _ (by omega)).trans (HC.out.drewN 1))
    have HBX : Hid (Below g w (w1.drew.setRow g (iCells (pt16 f b c)))) := Lib.hid (below_setRow (below_drew1 HB.out) (by omega) _)
    generalize pt16 f b c = p at *
    have HSZ := Lib.hid (frame_size p HPL.out)
    have HSS := Lib.hid (frame_same f0 p f0_length HPL.out)
    clear HC HR HA HB
    go_region
    clear hcp
    generalize w1.drew.setRow g (iCells p) = w5 at *
    go_wp2_with (first
      | (refine wpList_load_row rfl 41 (.tmp 3) rfl g rfl 41 (iCells p) (0, 0) _ HX.out Tryz.underlying41 rfl HSZ.out ?_)
      | (refine wpList_store_row rfl 41 (.tmp 6) (.tmp 14) rfl (g + 1 + 1) (iCells p) rfl rfl 41 (iCells f0) HAX.out HSZ.out HSS.out (iCells_one p) ?_))
    refine bodyPost_ret (v := .agg (iCells p)) (results_cell_row Tryz.results32 _ _ (g + 1 + 1) 41 (iCells p) (0, 0) _ rfl (Row.setRow HAX.out _) Tryz.underlying41 rfl HSZ.out) rfl ⟨by rw [HO.out], below_setRow HBX.out (by omega) _⟩
  · have hb : isb n = false := decide_eq_false hi
    rw [hb]
    have ho : put16 f n c = f := by unfold put16; rw [hb]; rfl
    have HO := Lib.hid ho
    have HSZ := Lib.hid (frame_size f HF.out)
    have HSS := Lib.hid (frame_same f0 f f0_length HF.out)
    clear hi hb ho HIS hz
    go_wp2_with (first
      | (refine wpList_load_row rfl 41 (.tmp 3) rfl g rfl 41 (iCells f) (0, 0) _ HR.out Tryz.underlying41 rfl HSZ.out ?_)
      | (refine wpList_store_row rfl 41 (.tmp 6) (.tmp 14) rfl (g + 1 + 1) (iCells f) rfl rfl 41 (iCells f0) HC.out HSZ.out HSS.out (iCells_one f) ?_))
    refine bodyPost_ret (v := .agg (iCells f)) (results_cell_row Tryz.results32 _ _ (g + 1 + 1) 41 (iCells f) (0, 0) _ rfl (Row.setRow HC.out _) Tryz.underlying41 rfl HSZ.out) rfl ⟨by rw [HO.out], below_setRow HB.out (by omega) _⟩
end Go.Proofs.YtalbcimnnihmnaaGreat

/- band's Steps, Right and Clamp. Conditions: a frame of 32 numbers; eight steps. -/
namespace Go.Proofs.YtalbcimnnihmnaaGreat
open Go.RowKit
open M
/-- Eight zeros. -/
def z8 : List Int := List.replicate 8 0
theorem z8_length : z8.length = 8 := by unfold z8; rw [List.length_replicate]
theorem side_info : (Tryz.prog.info? 25).map (fun i => (i.zero, i.size)) = some (some (.agg (iCells z8)), 8) := by kernel_rfl
theorem side_zero (w : World) : (zeroValue 25).run Tryz.prog w = .ok (.agg (iCells z8)) w := (zero_of_info side_info).1 w
theorem side_size (l : List Int) (h : l.length = 8) : (Tryz.prog.info? 25).map (·.size) = some (iCells l).size := by
  rw [iCells_size, h]; exact (zero_of_info side_info).2
theorem eight_info : (Tryz.prog.info? 24).map (fun i => (i.zero, i.size)) = some (some (.agg (iCells z8)), 8) := by kernel_rfl
theorem eight_size (l : List Int) (h : l.length = 8) : (Tryz.prog.info? 24).map (·.size) = some (iCells l).size := by
  rw [iCells_size, h]; exact (zero_of_info eight_info).2
theorem side_same (l m : List Int) (h : l.length = 8) (k : m.length = 8) : (iCells l).size = (iCells m).size := by
  rw [iCells_size, iCells_size, h, k]
theorem index_side (l : List Int) (hl : l.length = 8) (k : Nat) (hk : k < 8) (w : World) :
    (Instr.index 25 (.agg (iCells l)) (.int .i64 k)).run Tryz.prog w = .ok (.int .i64 (l.getD k 0)) w := by
  obtain ⟨i, hi, _, _, _⟩ := info_parts int_info
  have c := iCells_get l k (by omega)
  simp [Instr.index, run_underlying Tryz.underlying25, asIntOf, hk, run_sizeOf w hi, cells_int, c, go_sem]
/-- A band's step. -/
def sp16 (f : List Int) (b : Nat) : Int := (stp (gm16 (bd16 f b)) : Nat)
theorem sp16_bd (f : List Int) (b : Nat) : 0 ≤ sp16 f b ∧ sp16 f b ≤ 15 := by
  have := stp_le (gm16 (bd16 f b))
  unfold sp16; omega
/-- All bands' steps. -/
def sts (f : List Int) : List Int := (List.range 8).map (sp16 f)
theorem sts_len (f : List Int) : (sts f).length = 8 := by simp [sts]
theorem sts_get (f : List Int) (b : Nat) (h : b < 8) : (sts f).getD b 0 = sp16 f b := by
  unfold sts
  rw [List.getD_eq_getElem?_getD, List.getElem?_map, List.getElem?_range h]
  rfl
theorem list_eq16 (n : Nat) (l m : List Int) (hl : l.length = n) (hm : m.length = n) (h : ∀ j, j < n → l.getD j 0 = m.getD j 0) : l = m := by
  apply List.ext_getElem (by omega)
  intro i h1 h2
  have := h i (by omega)
  rw [List.getD_eq_getElem?_getD, List.getD_eq_getElem?_getD, List.getElem?_eq_getElem h1, List.getElem?_eq_getElem h2] at this
  exact this
theorem set_get16 (l : List Int) (k j : Nat) (x : Int) (hk : k < l.length) : (l.set k x).getD j 0 = if k = j then x else l.getD j 0 := by
  rw [List.getD_eq_getElem?_getD, List.getElem?_set]
  by_cases h : k = j
  · subst h; rw [if_pos rfl, if_pos hk, if_pos rfl]; rfl
  · rw [if_neg h, if_neg h, ← List.getD_eq_getElem?_getD]
set_option maxRecDepth 100000 in
set_option maxHeartbeats 1000000 in
theorem right_any (l : List Int) (w : World) (hl : l.length = 8) :
    Calls Tryz.prog 36 #[.agg (iCells l)] w fun e w' => e = .returned (.bool (l.all isp)) ∧ Below w.heap.size w w' := by
  have HR : Hid (Row (w.alloc (.cells (iCells l) 25)) w.heap.size 25 (iCells l)) := heap_alloc_new _ _
  have HB : Hid (Below w.heap.size w (w.alloc (.cells (iCells l) 25))) := (Below.refl _ _).alloc (Nat.le_refl _) _
  have HL := Lib.hid hl
  have HSZ := Lib.hid (side_size l hl)
  have HIS := fun n w => isstep_any n w
  have HNO : Hid (∀ k, k < 8 → isp (l.getD k 0) = false → l.all isp = false) := Lib.hid fun k hk h => by
    rw [Bool.eq_false_iff]
    intro e
    have := List.all_eq_true.1 e (l.getD k 0) (by rw [List.getD_eq_getElem?_getD, List.getElem?_eq_getElem (by omega)]; exact List.getElem_mem _)
    rw [h] at this; cases this
  have HYES : Hid ((∀ j, j < 8 → isp (l.getD j 0) = true) → l.all isp = true) := Lib.hid fun h => by
    rw [List.all_eq_true]
    intro x hx
    obtain ⟨i, hi, rfl⟩ := List.getElem_of_mem hx
    have := h i (by omega)
    rw [List.getD_eq_getElem?_getD, List.getElem?_eq_getElem hi] at this
    exact this
  generalize l.all isp = R at *
  clear hl
  go_enter Tryz.func36, Tryz.ntmps36
  go_wp2_with (refine wpList_load_row rfl 25 (.tmp 1) rfl w.heap.size rfl 25 (iCells l) (0, 0) _ HR.out Tryz.underlying25 rfl HSZ.out ?_)
  clear HR
  generalize w.alloc (.cells (iCells l) 25) = w1 at *
  go_loop [6] (fun ii => ∃ k : Nat, k ≤ 8 ∧ ii = .int .i64 k ∧ ∀ j, j < k → isp (l.getD j 0) = true) (fun ii => 8 - (intOf ii).toNat)
  case atStart => exact ⟨0, by omega, rfl, fun j hj => by omega⟩
  case round =>
    obtain ⟨k, hk, rfl, hall⟩ := hrel
    have HA := Lib.hid hall
    clear hall
    rcases Nat.lt_or_ge k 8 with hlt | hge
    · have hix := index_side l HL.out k hlt
      have HN := Lib.hid (HNO.out k hlt)
      have HST : Hid (isp (l.getD k 0) = true → ∀ j, j < k + 1 → isp (l.getD j 0) = true) := Lib.hid fun h j hj => by
        rcases Nat.lt_or_ge j k with hl | hg
        · exact HA.out j hl
        · obtain rfl : j = k := by omega
          exact h
      obtain ⟨x, hx⟩ : ∃ x, l.getD k 0 = x := ⟨_, rfl⟩
      rw [hx] at hix HN HST
      clear hx hk
      go_wp2_with fail
      refine (HIS x _).mono ?_
      rintro e w2 ⟨rfl, rfl⟩
      cases hb : isp x
      · go_wp2_with fail
        go_ret
        exact ⟨by rw [HN.out hb]; rfl, HB.out⟩
      · go_wp2_with fail
        go_round
        case rel => exact ⟨k + 1, hlt, by go_num, HST.out hb⟩
        case measure => simp [intOf] <;> omega
    · obtain rfl : k = 8 := by omega
      have HT := Lib.hid (HYES.out HA.out)
      clear hk hge HA
      go_wp2_with fail
      go_ret
      exact ⟨by rw [HT.out]; rfl, HB.out⟩
/-- A number brought into its range. -/
def cl16 (x : Int) : Int := max (-1048576) (min x 1048576)
theorem max16 (x : Int) (w : World) : (Builtin.max_ #[3, 3] 3 #[.int .i64 x, .int .i64 (-1048576)]).run Tryz.prog w = .ok (.int .i64 (max x (-1048576))) w := by
  have e : (if -1048576 > x then (-1048576 : Int) else x) = max x (-1048576) := by split <;> omega
  simp [Builtin.max_, Builtin.max2]
  try omega
theorem min16 (x : Int) (w : World) : (Builtin.min_ #[3, 3] 3 #[.int .i64 (max x (-1048576)), .int .i64 1048576]).run Tryz.prog w = .ok (.int .i64 (cl16 x)) w := by
  unfold cl16
  simp [Builtin.min_, Builtin.min2]
  try omega
end Go.Proofs.YtalbcimnnihmnaaGreat

/- band's Steps and Clamp. Conditions: a frame of 32 numbers. -/
namespace Go.Proofs.YtalbcimnnihmnaaGreat
open Go.RowKit
open M
set_option maxRecDepth 100000 in
set_option maxHeartbeats 1000000 in
theorem steps16_any (f : List Int) (w : World) (hf : f.length = 32) :
    Calls Tryz.prog 14 #[.agg (iCells f)] w fun e w' => e = .returned (.agg (iCells (sts f))) ∧ Below w.heap.size w w' := by
  have HF := Lib.hid hf
  have HSF := Lib.hid (frame_size f hf)
  obtain ⟨g, hg⟩ : ∃ g, w.heap.size = g := ⟨_, rfl⟩
  have HR : Hid (Row (((w.alloc (.cells (iCells f) 41)).alloc (.cells (iCells z8) 25)).alloc (.cells (iCells z8) 25)) g 41 (iCells f)) := Lib.hid (hg ▸ Row.alloc (Row.alloc (heap_alloc_new _ _) _) _)
  have HA : Hid (Row (((w.alloc (.cells (iCells f) 41)).alloc (.cells (iCells z8) 25)).alloc (.cells (iCells z8) 25)) (g + 1) 25 (iCells z8)) := Lib.hid (Row.alloc (row_new _ _ (by simp [hg]) _ _) _)
  have HC : Hid (Row (((w.alloc (.cells (iCells f) 41)).alloc (.cells (iCells z8) 25)).alloc (.cells (iCells z8) 25)) (g + 1 + 1) 25 (iCells z8)) := Lib.hid (row_new _ _ (by simp [hg]) _ _)
  have HB : Hid (Below g w (((w.alloc (.cells (iCells f) 41)).alloc (.cells (iCells z8) 25)).alloc (.cells (iCells z8) 25))) := Lib.hid ((((Below.refl _ _).alloc (by omega) _).alloc (by simp; omega) _).alloc (by simp; omega) _)
  have hz := side_zero
  have HG := Lib.hid hg
  clear hf
  rw [hg]
  clear hg
  go_enter Tryz.func14, Tryz.ntmps14
  go_wp2_with fail
  rw [HG.out]
  generalize ((w.alloc (.cells (iCells f) 41)).alloc (.cells (iCells z8) 25)).alloc (.cells (iCells z8) 25) = w1 at *
  clear hz
  go_loopw [4, 5] (fun bb ii wr => ∃ (k : Nat) (L : List Int), k ≤ 8 ∧ ii = .int .i64 k ∧ L.length = 8 ∧ (∀ j, j < k → L.getD j 0 = sp16 f j) ∧ Row wr g 41 (iCells f) ∧ Row wr (g + 1) 25 (iCells z8) ∧ Row wr (g + 1 + 1) 25 (iCells L) ∧ Below g w wr) (fun _ ii _ => 8 - (intOf ii).toNat)
  case atStart => exact ⟨0, z8, by omega, rfl, z8_length, fun j hj => by omega, HR.out, HA.out, HC.out, HB.out⟩
  case round =>
    clear HR HA HC HB
    obtain ⟨k, L, hk, rfl, hL, hall, h1, h2, h3, h4⟩ := hrel
    have HR := Lib.hid h1
    have HA := Lib.hid h2
    have HC := Lib.hid h3
    have HB := Lib.hid h4
    have HL := Lib.hid hL
    have HAL := Lib.hid hall
    clear h1 h2 h3 h4 hL hall
    rcases Nat.lt_or_ge k 8 with hlt | hge
    · have HK := Lib.hid hlt
      have hkI : (k : Int) < 8 := by omega
      have HOF : Hid (of16 f (k : Int) = bd16 f k) := Lib.hid (by unfold of16; rw [if_pos (show isb (k : Int) = true from decide_eq_true (by omega)), Int.toNat_natCast])
      clear hk hlt
      go_wp2_with (refine wpList_load_row rfl 41 (.tmp 1) rfl g rfl 41 (iCells f) (0, 0) _ HR.out Tryz.underlying41 rfl HSF.out ?_)
      refine (of16_any f k _ HF.out).mono ?_
      rintro e w2 ⟨rfl, hb2⟩
      rw [HOF.out]
      have HR2 := Lib.hid (Row.box HR.out hb2)
      have HA2 := Lib.hid (Row.box HA.out hb2)
      have HC2 := Lib.hid (Row.box HC.out hb2)
      have HB2 := Lib.hid (HB.out.trans (hb2.mono (Nat.le_of_lt (Row.lt HR.out))))
      clear HR HA HC HB hb2
      go_wp2_with fail
      refine (step16_any (bd16 f k) _ (bd16_len f k)).mono ?_
      rintro e w3 ⟨rfl, hb3⟩
      have HR3 := Lib.hid (Row.box HR2.out hb3)
      have HA3 := Lib.hid (Row.box HA2.out hb3)
      have HC3 := Lib.hid (Row.box HC2.out hb3)
      have HB3 := Lib.hid (HB2.out.trans (hb3.mono (Nat.le_of_lt (Row.lt HR2.out))))
      clear HR2 HA2 HC2 HB2 hb3
      have HS : Hid (sp16 f k = (stp (gm16 (bd16 f k)) : Nat)) := Lib.hid rfl
      generalize ((stp (gm16 (bd16 f k)) : Nat) : Int) = x at *
      have c0 := i_at HC3.out k (by rw [HL.out]; exact HK.out)
      have z0 := frozen_of_row _ _ k _ _ HC3.out
      go_wp2_with fail
      go_roundw
      case rel =>
        refine ⟨k + 1, L.set k x, HK.out, by go_num, by rw [List.length_set]; exact HL.out, fun j hj => ?_, Row.far HR3.out (by simp; omega) _, Row.far HA3.out (by simp) _, ?_, HB3.out.setCell (by simp; omega) _⟩
        · rw [set_get16 _ _ _ _ (by rw [HL.out]; exact HK.out)]
          by_cases e : k = j
          · subst e; rw [if_pos rfl, HS.out]
          · rw [if_neg e]; exact HAL.out j (by omega)
        · rw [← iCells_set]; exact Row.set HC3.out k _
      case measure =>
        have := HK.out
        simp [intOf] <;> omega
    · obtain rfl : k = 8 := by omega
      have e : L = sts f := list_eq16 8 L (sts f) HL.out (sts_len f) fun j hj => by rw [HAL.out j hj, sts_get f j hj]
      have HE := Lib.hid e
      clear hk hge HAL e
      have HSZ := Lib.hid (side_size L HL.out)
      have HSS := Lib.hid (side_same z8 L z8_length HL.out)
      go_wp2_with (first
        | (refine wpList_load_row rfl 25 (.tmp 3) rfl (g + 1 + 1) rfl 25 (iCells L) (0, 0) _ HC.out Tryz.underlying25 rfl HSZ.out ?_)
        | (refine wpList_store_row rfl 25 (.tmp 2) (.tmp 15) rfl (g + 1) (iCells L) rfl rfl 25 (iCells z8) HA.out HSZ.out HSS.out (iCells_one L) ?_))
      refine bodyPost_ret (v := .agg (iCells L)) (results_cell_row Tryz.results14 _ _ (g + 1) 25 (iCells L) (0, 0) _ rfl (Row.setRow HA.out _) Tryz.underlying25 rfl HSZ.out) rfl ⟨by rw [HE.out], below_setRow HB.out (by omega) _⟩
/-- A frame brought into its range. -/
def clm (f : List Int) : List Int := f.map cl16
theorem clm_len (f : List Int) (h : f.length = 32) : (clm f).length = 32 := by simp [clm, h]
theorem clm_get (f : List Int) (b : Nat) (h : b < f.length) : (clm f).getD b 0 = cl16 (f.getD b 0) := by
  unfold clm
  rw [List.getD_eq_getElem?_getD, List.getElem?_map, List.getD_eq_getElem?_getD, List.getElem?_eq_getElem h]
  rfl
set_option maxRecDepth 100000 in
set_option maxHeartbeats 1000000 in
theorem clamp_any (f : List Int) (w : World) (hf : f.length = 32) :
    Calls Tryz.prog 13 #[.agg (iCells f)] w fun e w' => e = .returned (.agg (iCells (clm f))) ∧ Below w.heap.size w w' := by
  have HF := Lib.hid hf
  have HSF := Lib.hid (frame_size f hf)
  have HCL := Lib.hid (clm_len f hf)
  have HR0 : Hid (Row ((w.alloc (.cells (iCells f) 41)).alloc (.cells (iCells f0) 41)) w.heap.size 41 (iCells f)) := Lib.hid (Row.alloc (heap_alloc_new _ _) _)
  obtain ⟨g, hg⟩ : ∃ g, w.heap.size = g := ⟨_, rfl⟩
  have HR : Hid (Row ((w.alloc (.cells (iCells f) 41)).alloc (.cells (iCells f0) 41)) g 41 (iCells f)) := Lib.hid (hg ▸ Row.alloc (heap_alloc_new _ _) _)
  have HA : Hid (Row ((w.alloc (.cells (iCells f) 41)).alloc (.cells (iCells f0) 41)) (g + 1) 41 (iCells f0)) := Lib.hid (row_new _ _ (by simp [hg]) _ _)
  have HB : Hid (Below g w ((w.alloc (.cells (iCells f) 41)).alloc (.cells (iCells f0) 41))) := Lib.hid (((Below.refl _ _).alloc (by omega) _).alloc (by simp; omega) _)
  have hz := frame_zero
  have HG := Lib.hid hg
  clear hf
  rw [hg]
  clear hg
  go_enter Tryz.func13, Tryz.ntmps13
  go_wp2_with (refine wpList_load_row rfl 41 (.tmp 1) rfl w.heap.size rfl 41 (iCells f) (0, 0) _ HR0.out Tryz.underlying41 rfl HSF.out ?_)
  clear HR0
  rw [HG.out]
  generalize (w.alloc (.cells (iCells f) 41)).alloc (.cells (iCells f0) 41) = w1 at *
  clear hz
  go_loopw [6] (fun ii wr => ∃ (k : Nat) (L : List Int), k ≤ 32 ∧ ii = .int .i64 k ∧ L.length = 32 ∧ (∀ j, j < k → L.getD j 0 = cl16 (f.getD j 0)) ∧ Row wr g 41 (iCells L) ∧ Row wr (g + 1) 41 (iCells f0) ∧ Below g w wr) (fun ii _ => 32 - (intOf ii).toNat)
  case atStart => exact ⟨0, f, by omega, rfl, HF.out, fun j hj => by omega, HR.out, HA.out, HB.out⟩
  case round =>
    clear HR HA HB
    obtain ⟨k, L, hk, rfl, hL, hall, h1, h2, h4⟩ := hrel
    have HR := Lib.hid h1
    have HA := Lib.hid h2
    have HB := Lib.hid h4
    have HL := Lib.hid hL
    have HAL := Lib.hid hall
    clear h1 h2 h4 hL hall
    rcases Nat.lt_or_ge k 32 with hlt | hge
    · have HK := Lib.hid hlt
      have hkI : (k : Int) < 32 := by omega
      have hix := index_frame f HF.out k hlt
      obtain ⟨x, hx⟩ : ∃ x, f.getD k 0 = x := ⟨_, rfl⟩
      rw [hx] at hix
      have HX := Lib.hid hx
      have hmx := max16 x
      have hmn := min16 x
      obtain ⟨m, hm⟩ : ∃ m, max x (-1048576) = m := ⟨_, rfl⟩
      rw [hm] at hmx hmn
      obtain ⟨y, hy⟩ : ∃ y, cl16 x = y := ⟨_, rfl⟩
      rw [hy] at hmn
      have HY := Lib.hid hy
      have c0 := i_at HR.out k (by rw [HL.out]; exact hlt)
      have z0 := frozen_of_row _ _ k _ _ HR.out
      clear hk hlt hx hm hy
      go_wp2_with fail
      go_roundw
      case rel =>
        refine ⟨k + 1, L.set k y, HK.out, by go_num, by rw [List.length_set]; exact HL.out, fun j hj => ?_, ?_, Row.far HA.out (by simp) _, HB.out.setCell (by simp) _⟩
        · rw [set_get16 _ _ _ _ (by rw [HL.out]; exact HK.out)]
          by_cases e : k = j
          · subst e; rw [if_pos rfl, HX.out, HY.out]
          · rw [if_neg e]; exact HAL.out j (by omega)
        · rw [← iCells_set]; exact Row.set HR.out k _
      case measure =>
        have := HK.out
        simp [intOf] <;> omega
    · obtain rfl : k = 32 := by omega
      have e : L = clm f := list_eq16 32 L (clm f) HL.out HCL.out fun j hj => by rw [HAL.out j hj, clm_get f j (by rw [HF.out]; exact hj)]
      have HE := Lib.hid e
      clear hk hge HAL e
      have HSZ := Lib.hid (frame_size L HL.out)
      have HSS := Lib.hid (frame_same f0 L f0_length HL.out)
      go_wp2_with (first
        | (refine wpList_load_row rfl 41 (.tmp 1) rfl g rfl 41 (iCells L) (0, 0) _ HR.out Tryz.underlying41 rfl HSZ.out ?_)
        | (refine wpList_store_row rfl 41 (.tmp 2) (.tmp 16) rfl (g + 1) (iCells L) rfl rfl 41 (iCells f0) HA.out HSZ.out HSS.out (iCells_one L) ?_))
      refine bodyPost_ret (v := .agg (iCells L)) (results_cell_row Tryz.results13 _ _ (g + 1) 41 (iCells L) (0, 0) _ rfl (Row.setRow HA.out _) Tryz.underlying41 rfl HSZ.out) rfl ⟨by rw [HE.out], below_setRow HB.out (by omega) _⟩
end Go.Proofs.YtalbcimnnihmnaaGreat
