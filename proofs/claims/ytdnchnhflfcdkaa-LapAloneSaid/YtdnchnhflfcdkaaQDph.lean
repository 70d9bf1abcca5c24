/-
  The law's Held of layer 10: frames with numbers up to 2^24. Conditions: frames of 32 ints.
-/
import Derived.Test.YtdnchnhflfcdkaaQDj
namespace Go.Proofs.Ytdnchnhflfcdkaa
open Go.RowKit
open M
theorem tmod24 (n : Int) : -16777217 < n.tmod 16777217 ∧ n.tmod 16777217 < 16777217 := by
  have h1 := Int.tmod_lt_of_pos n (show (0 : Int) < 16777217 by omega)
  have h2 := Int.tmod_lt_of_pos (-n) (show (0 : Int) < 16777217 by omega)
  rw [Int.neg_tmod] at h2
  omega
/-- A frame with numbers up to 2^24. -/
def hd24 (f : List Int) (k : Nat) : List Int := (List.range 32).map fun i => if i < k then (f.getD i 0).tmod 16777217 else 0
theorem hd24_len (f : List Int) (k : Nat) : (hd24 f k).length = 32 := by simp [hd24]
theorem hd24_zero (f : List Int) : hd24 f 0 = f0 := by
  refine Eq.trans (rng_congr 32 _ (fun _ => (0 : Int)) fun i _ => if_neg (by omega)) ?_
  rfl
theorem hd24_step (f : List Int) (k : Nat) : (hd24 f k).set k ((f.getD k 0).tmod 16777217) = hd24 f (k + 1) := by
  unfold hd24
  refine rng_set _ _ _ _ _ ?_ ?_
  · rw [if_pos (by omega)]
  · intro i _ hne
    by_cases e : i < k
    · rw [if_pos e, if_pos (by omega)]
    · rw [if_neg e, if_neg (by omega)]
theorem hd24_bd (f : List Int) (k : Nat) : ∀ x ∈ hd24 f k, -16777216 ≤ x ∧ x ≤ 16777216 := by
  intro x hx
  obtain ⟨i, _, rfl⟩ := List.mem_map.1 hx
  have := tmod24 (f.getD i 0)
  split <;> omega
theorem hd24_held (f : List Int) : Hld (hd24 f 32) := ⟨hd24_len f 32, fun x hx => by have := hd24_bd f 32 x hx; omega⟩
set_option maxRecDepth 100000 in
set_option maxHeartbeats 1000000 in
theorem lheld_any (f : List Int) (w : World) (hf : f.length = 32) :
    Calls Try.prog 14 #[.agg (iCells f)] w fun e w' => e = .returned (.agg (iCells (hd24 f 32))) ∧ Below w.heap.size w w' := by
  have r0 : Row (w.alloc (.cells (iCells f) 33)) w.heap.size 33 (iCells f) := row_new w _ rfl _ _
  have r1 := r0.alloc (.cells (iCells f0) 34)
  have s1 : Row ((w.alloc (.cells (iCells f) 33)).alloc (.cells (iCells f0) 34)) (w.heap.size + 1) 34 (iCells f0) := row_new _ _ (by simp) _ _
  have b1 : Below w.heap.size w ((w.alloc (.cells (iCells f) 33)).alloc (.cells (iCells f0) 34)) := ((Below.refl _ _).alloc (Nat.le_refl _) _).alloc (by simp) _
  have r2 := r1.alloc (.cells (iCells f0) 34)
  have s2 := s1.alloc (.cells (iCells f0) 34)
  have u2 : Row (((w.alloc (.cells (iCells f) 33)).alloc (.cells (iCells f0) 34)).alloc (.cells (iCells f0) 34)) (w.heap.size + 1 + 1) 34 (iCells f0) := row_new _ _ (by simp) _ _
  have b2 := b1.alloc (by simp; omega) (.cells (iCells f0) 34)
  have HR := Lib.hid r2
  have HS := Lib.hid s2
  have HU := Lib.hid u2
  have HB := Lib.hid b2
  have HF := Lib.hid hf
  have hz := fun w => frame_zero w
  clear r0 r1 r2 s1 s2 u2 b1 b2 hf
  go_enter Try.func14, Try.ntmps14
  go_wp2_with fail
  clear hz
  generalize ((w.alloc (.cells (iCells f) 33)).alloc (.cells (iCells f0) 34)).alloc (.cells (iCells f0) 34) = w1 at *
  go_loopw [4] (fun ii wr => ∃ k : Nat, k ≤ 32 ∧ ii = .int .i64 k ∧ Row wr w.heap.size 33 (iCells f) ∧ Row wr (w.heap.size + 1) 34 (iCells f0) ∧ Row wr (w.heap.size + 1 + 1) 34 (iCells (hd24 f k)) ∧ Below w.heap.size w wr) (fun ii _ => 32 - (intOf ii).toNat)
  case atStart => exact ⟨0, by omega, rfl, HR.out, HS.out, by rw [hd24_zero]; exact HU.out, HB.out⟩
  case round =>
    clear HR HS HU HB
    obtain ⟨k, hk, rfl, h1, h2, h3, h4⟩ := hrel
    have HR := Lib.hid h1
    have HS := Lib.hid h2
    have HU := Lib.hid h3
    have HB := Lib.hid h4
    rcases Nat.lt_or_ge k 32 with hlt | hge
    · have c0 := i_at h1 k (by rw [HF.out]; exact hlt)
      have c1 := i_at h3 k (by rw [hd24_len]; exact hlt)
      have ff := h3.free k
      have HST := Lib.hid (hd24_step f k)
      obtain ⟨x, hx⟩ : ∃ x, f.getD k 0 = x := ⟨_, rfl⟩
      rw [hx] at c0 HST
      have hb := tmod24 x
      have hr : IntKind.i64.wrap (x.tmod 16777217) = x.tmod 16777217 := by rw [IntKind.wrap_i64]; omega
      clear hx h1 h2 h3 h4 hk
      go_wp2_with fail
      go_roundw
      case rel =>
        refine ⟨k + 1, hlt, by go_num, HR.out.far (p := ⟨w.heap.size + 1 + 1, k, none⟩) (by show w.heap.size ≠ w.heap.size + 1 + 1; omega) _, HS.out.far (p := ⟨w.heap.size + 1 + 1, k, none⟩) (by show w.heap.size + 1 ≠ w.heap.size + 1 + 1; omega) _, ?_, HB.out.setCell (p := ⟨w.heap.size + 1 + 1, k, none⟩) (by show w.heap.size ≤ w.heap.size + 1 + 1; omega) _⟩
        rw [← HST.out, ← iCells_set]
        exact HU.out.set _ _
      case measure => simp [intOf] <;> omega
    · obtain rfl : k = 32 := by omega
      have HSZ := Lib.hid (frame_size (hd24 f 32) (hd24_len f 32))
      have HSS := Lib.hid (frame_same f0 (hd24 f 32) f0_length (hd24_len f 32))
      clear h1 h2 h3 h4 hk hge
      obtain ⟨v, hv⟩ : ∃ v, hd24 f 32 = v := ⟨_, rfl⟩
      rw [hv] at HU HSZ HSS
      have HVV := Lib.hid hv
      clear hv
      go_wp2_with (first
        | (refine wpList_load_row rfl 34 (.tmp 3) rfl (w.heap.size + 1 + 1) rfl 34 (iCells v) (0, 0) _ HU.out Try.underlying34 rfl HSZ.out ?_)
        | (refine wpList_store_row rfl 34 (.tmp 2) (.tmp 15) rfl (w.heap.size + 1) (iCells v) rfl rfl 34 (iCells f0) HS.out HSZ.out HSS.out (iCells_one v) ?_))
      refine bodyPost_ret (v := .agg (iCells v)) (results_cell_row Try.results14 _ _ (w.heap.size + 1) 34 (iCells v) (0, 0) _ rfl (Row.setRow HS.out _) Try.underlying34 rfl HSZ.out) rfl ⟨by rw [HVV.out], below_setRow HB.out (by omega) _⟩
end Go.Proofs.Ytdnchnhflfcdkaa
