/-
  The contracts of layer 6's fill, flip, Count, within, Near, proper. Conditions: words have 127 bits; places lie where they can be read.
-/
import Derived.Test.YtbokecpcefcimaaNa
import Derived.Test.YtbokecpcefcimaaHz
import Derived.Test.YtbokecpcefcimaaAc
namespace Go.Proofs.Ytbokecpcefcimaa
open Go.RowKit
open M

/-- A word whose holes are filled, as far as the loop has come. -/
def fj (l h : List Bool) (b : Bool) (j : Nat) : List Bool := (List.range 127).map fun i => if i < j ∧ h.getD i false = true then b else l.getD i false
theorem fj_length (l h : List Bool) (b : Bool) (j : Nat) : (fj l h b j).length = 127 := by simp [fj]
theorem fj_zero (l h : List Bool) (b : Bool) (hl : l.length = 127) : fj l h b 0 = l := by
  unfold fj
  rw [tab_congr 127 _ (fun i => l.getD i false) (fun i _ => if_neg (by omega)), tab_of _ false 127 hl]
theorem fj_done (l h : List Bool) (b : Bool) : fj l h b 127 = M.fill l h b := by
  unfold fj M.fill
  apply tab_congr
  intro i hi
  by_cases hh : h.getD i false = true
  · rw [if_pos ⟨hi, hh⟩, if_pos hh]
  · rw [if_neg (fun e => hh e.2), if_neg hh]
theorem fj_not (l h : List Bool) (b : Bool) (j : Nat) (hh : h.getD j false = false) : fj l h b (j + 1) = fj l h b j := by
  unfold fj
  apply tab_congr
  intro i _
  by_cases e : i = j
  · subst e
    rw [if_neg (by rw [hh]; simp), if_neg (by omega)]
  · by_cases h1 : i < j ∧ h.getD i false = true
    · rw [if_pos h1, if_pos ⟨by omega, h1.2⟩]
    · rw [if_neg h1, if_neg (fun k => h1 ⟨by omega, k.2⟩)]
theorem fj_set (l h : List Bool) (b : Bool) (j : Nat) (hh : h.getD j false = true) : (fj l h b j).set j b = fj l h b (j + 1) := by
  unfold fj
  apply tab_set
  · rw [if_pos ⟨by omega, hh⟩]
  · intro i e
    by_cases h1 : i < j ∧ h.getD i false = true
    · rw [if_pos h1, if_pos ⟨by omega, h1.2⟩]
    · rw [if_neg h1, if_neg (fun k => h1 ⟨by omega, k.2⟩)]

set_option maxRecDepth 100000 in
set_option maxHeartbeats 1000000 in
theorem fill_any (l h : List Bool) (b : Bool) (w : World) (hl : l.length = 127) (hh : h.length = 127) :
    Calls Try.prog 21 #[.agg (boolCells l), .agg (boolCells h), .bool b] w fun e w' => e = .returned (.agg (boolCells (M.fill l h b))) ∧ Below w.heap.size w w' := by
  have hz := word_zero
  have r0 : Row (((w.alloc (.cells (boolCells l) 32)).alloc (.cells (boolCells h) 32)).alloc (.cells (boolCells w0) 32)) w.heap.size 32 (boolCells l) := ((row_new w _ rfl _ _).alloc _).alloc _
  have r1 : Row (((w.alloc (.cells (boolCells l) 32)).alloc (.cells (boolCells h) 32)).alloc (.cells (boolCells w0) 32)) (w.heap.size + 1) 32 (boolCells h) := (row_new _ _ (by simp) _ _).alloc _
  have r2 : Row (((w.alloc (.cells (boolCells l) 32)).alloc (.cells (boolCells h) 32)).alloc (.cells (boolCells w0) 32)) (w.heap.size + 1 + 1) 32 (boolCells w0) := row_new _ _ (by simp) _ _
  have HB0 : Hid (Below w.heap.size w (((w.alloc (.cells (boolCells l) 32)).alloc (.cells (boolCells h) 32)).alloc (.cells (boolCells w0) 32))) := (((Below.refl _ _).alloc (Nat.le_refl _) _).alloc (by simp) _).alloc (by simp; omega) _
  have HR0 := Lib.hid r0
  have HR1 := Lib.hid r1
  have HR2 := Lib.hid r2
  have HSZ := Lib.hid (word_size h hh)
  have HL := Lib.hid hh
  have HZ := Lib.hid (fj_zero l h b hl)
  have HDN := Lib.hid (fj_done l h b)
  have hfl := fill_length l h b
  obtain ⟨c, hc⟩ : ∃ c, M.fill l h b = c := ⟨_, rfl⟩
  rw [hc] at HDN hfl ⊢
  have HSC := Lib.hid (word_size c hfl)
  have HCL := Lib.hid hfl
  clear r0 r1 r2 hl hh hc hfl
  go_enter Try.func21, Try.ntmps21
  go_wp2_with (refine wpList_load_row rfl 32 (.tmp 4) rfl (w.heap.size + 1) rfl 32 (boolCells h) (0, 0) _ HR1.out Try.underlying32 rfl HSZ.out ?_)
  clear hz HR1
  generalize ((w.alloc (.cells (boolCells l) 32)).alloc (.cells (boolCells h) 32)).alloc (.cells (boolCells w0) 32) = w1 at *
  go_loopw [10] (fun i wr => ∃ k : Nat, k ≤ 127 ∧ i = .int .i64 (k : Nat) ∧ Row wr w.heap.size 32 (boolCells (fj l h b k)) ∧ Row wr (w.heap.size + 1 + 1) 32 (boolCells w0) ∧ Below w.heap.size w wr) (fun i _ => 127 - (intOf i).toNat)
  case atStart => exact ⟨0, by omega, rfl, by rw [HZ.out]; exact HR0.out, HR2.out, HB0.out⟩
  case round =>
    clear HR0 HR2 HB0 HZ
    obtain ⟨k, hk, rfl, h1, h2, h3⟩ := hrel
    have HR := Lib.hid h1
    have HZ := Lib.hid h2
    have HB := Lib.hid h3
    clear h2 h3
    by_cases hlt : k < 127
    · have f0 := h1.free k
      have g0 := word_at h1 k (by rw [fj_length]; exact hlt)
      have hix := index_word h HL.out k hlt
      have HN := Lib.hid (fj_not l h b k)
      have HT := Lib.hid (fj_set l h b k)
      obtain ⟨x, hx⟩ : ∃ x, h.getD k false = x := ⟨_, rfl⟩
      rw [hx] at hix HN HT
      clear h1 hx
      cases x
      · go_wp2
        go_roundw
        case rel => exact ⟨k + 1, by omega, by go_num, by rw [HN.out rfl]; exact HR.out, HZ.out, HB.out⟩
        case measure => simp [intOf] <;> omega
      · go_wp2
        go_roundw
        case rel =>
          refine ⟨k + 1, by omega, by go_num, ?_, HZ.out.far (p := ⟨w.heap.size, k, none⟩) (by show w.heap.size + 1 + 1 ≠ w.heap.size; omega) _, HB.out.setCell (p := ⟨w.heap.size, k, none⟩) (Nat.le_refl _) _⟩
          rw [← HT.out rfl, ← boolCells_set]
          exact HR.out.set k _
        case measure => simp [intOf] <;> omega
    · obtain rfl : k = 127 := by omega
      clear h1
      have HRC : Hid (Row wr w.heap.size 32 (boolCells c)) := by rw [← HDN.out]; exact HR.out
      have hsz := boolCells_size c
      rw [HCL.out] at hsz
      have hst := store_at wr (w.heap.size + 1 + 1) w0 c w0_length HCL.out HZ.out
      go_wp2_with (refine wpList_load_row rfl 32 (.tmp 3) rfl w.heap.size rfl 32 (boolCells c) (0, 0) _ HRC.out Try.underlying32 rfl HSC.out ?_)
      refine bodyPost_ret (v := .agg (boolCells c)) (results_cell_row Try.results21 _ _ (w.heap.size + 1 + 1) 32 (boolCells c) (0, 0) _ rfl (Row.setRow HZ.out _) Try.underlying32 rfl HSC.out) rfl ⟨rfl, below_setRow HB.out (by omega) _⟩

theorem flips_take6 (x : List Bool) (is : List Nat) (j : Nat) (h : j < is.length) : flips x (is.take (j + 1)) = M.flip (flips x (is.take j)) (is.getD j 0) := by
  rw [List.take_succ_eq_append_getElem h, flips_snoc, List.getD_eq_getElem?_getD, List.getElem?_eq_getElem h]; rfl
set_option maxRecDepth 100000 in
set_option maxHeartbeats 1000000 in
theorem flip_any (l : List Bool) (ps : List Nat) (v : Value) (w : World) (hl : l.length = 127) (hp : ∀ i ∈ ps, i < 127) (hps : ps.length ≤ 1000) (h : IntsAt w v (castL ps)) :
    Calls Try.prog 22 #[.agg (boolCells l), v] w fun e w' => e = .returned (.agg (boolCells (flips l ps))) ∧ Below w.heap.size w w' := by
  have hz := word_zero
  have r0 : Row ((w.alloc (.cells (boolCells l) 32)).alloc (.cells (boolCells w0) 32)) w.heap.size 32 (boolCells l) := (row_new w _ rfl _ _).alloc _
  have r2 : Row ((w.alloc (.cells (boolCells l) 32)).alloc (.cells (boolCells w0) 32)) (w.heap.size + 1) 32 (boolCells w0) := row_new _ _ (by simp) _ _
  have HB0 : Hid (Below w.heap.size w ((w.alloc (.cells (boolCells l) 32)).alloc (.cells (boolCells w0) 32))) := ((Below.refl _ _).alloc (Nat.le_refl _) _).alloc (by simp) _
  have HR0 := Lib.hid r0
  have HR2 := Lib.hid r2
  obtain ⟨a, cap, hv, hcells⟩ := h
  rw [castL_length] at hv hcells
  subst hv
  have HC := Lib.hid hcells
  have HPS := Lib.hid hp
  have HFT := Lib.hid (flips_take6 l ps)
  have HLL : Hid (∀ j, (flips l (ps.take j)).length = 127) := fun j => by rw [flips_length, hl]
  have hfl := flips_length l ps
  rw [hl] at hfl
  have HDN : Hid (flips l (ps.take ps.length) = flips l ps) := by unfold Hid; rw [List.take_length]
  obtain ⟨c, hc⟩ : ∃ c, flips l ps = c := ⟨_, rfl⟩
  rw [hc] at HDN hfl ⊢
  have HSC := Lib.hid (word_size c hfl)
  have HCL := Lib.hid hfl
  clear r0 r2 hl hc hfl hcells hp
  go_enter Try.func22, Try.ntmps22
  go_wp2
  clear hz
  generalize (w.alloc (.cells (boolCells l) 32)).alloc (.cells (boolCells w0) 32) = w1 at *
  go_loopw [9] (fun i wr => ∃ k : Nat, k ≤ ps.length ∧ i = .int .i64 (k : Nat) ∧ Row wr w.heap.size 32 (boolCells (flips l (ps.take k))) ∧ Row wr (w.heap.size + 1) 32 (boolCells w0) ∧ Below w.heap.size w wr) (fun i _ => ps.length - (intOf i).toNat)
  case atStart => exact ⟨0, by omega, rfl, HR0.out, HR2.out, HB0.out⟩
  case round =>
    clear HR0 HR2 HB0
    obtain ⟨k, hk, rfl, h1, h2, h3⟩ := hrel
    have HR := Lib.hid h1
    have HZ := Lib.hid h2
    have HB := Lib.hid h3
    clear h2 h3
    by_cases hlt : k < ps.length
    · obtain ⟨b0, off, rfl, hbw, hcc⟩ := HC.out (by omega)
      have hcj := hcc k hlt
      rw [castL_getD] at hcj
      have c0 : wr.cell? ⟨b0, off + k, none⟩ = some (.int .i64 (ps.getD k 0 : Nat)) := (HB.out.cell (p := ⟨b0, off + k, none⟩) hbw).trans hcj
      have hn : ps.getD k 0 < 127 := by
        rw [List.getD_eq_getElem?_getD, List.getElem?_eq_getElem hlt]
        exact HPS.out _ (List.getElem_mem _)
      have HF := Lib.hid (HFT.out k hlt)
      obtain ⟨n, hne⟩ : ∃ n, ps.getD k 0 = n := ⟨_, rfl⟩
      rw [hne] at c0 hn HF
      have g0 := word_at h1 n (by rw [HLL.out]; exact hn)
      have f0 := h1.free n
      have hn' : (n : Int) < 127 := by omega
      have HX : Hid (M.flip (flips l (ps.take k)) n = (flips l (ps.take k)).set n (!((flips l (ps.take k)).getD n false))) := rfl
      obtain ⟨x, hx⟩ : ∃ x, (flips l (ps.take k)).getD n false = x := ⟨_, rfl⟩
      rw [hx] at g0 HX
      clear h1 hcc hcj hne hx
      go_wp2
      go_roundw
      case rel =>
        refine ⟨k + 1, by omega, by go_num, ?_, HZ.out.far (p := ⟨w.heap.size, n, none⟩) (by show w.heap.size + 1 ≠ w.heap.size; omega) _, HB.out.setCell (p := ⟨w.heap.size, n, none⟩) (Nat.le_refl _) _⟩
        rw [HF.out, HX.out, ← boolCells_set]
        exact HR.out.set n _
      case measure => simp [intOf] <;> omega
    · obtain rfl : k = ps.length := by omega
      clear h1
      have HRC : Hid (Row wr w.heap.size 32 (boolCells c)) := by rw [← HDN.out]; exact HR.out
      have hsz := boolCells_size c
      rw [HCL.out] at hsz
      have hst := store_at wr (w.heap.size + 1) w0 c w0_length HCL.out HZ.out
      go_wp2_with (refine wpList_load_row rfl 32 (.tmp 2) rfl w.heap.size rfl 32 (boolCells c) (0, 0) _ HRC.out Try.underlying32 rfl HSC.out ?_)
      refine bodyPost_ret (v := .agg (boolCells c)) (results_cell_row Try.results22 _ _ (w.heap.size + 1) 32 (boolCells c) (0, 0) _ rfl (Row.setRow HZ.out _) Try.underlying32 rfl HSC.out) rfl ⟨rfl, below_setRow HB.out (by omega) _⟩
end Go.Proofs.Ytbokecpcefcimaa
