/-
  pvq's counts: the table of all counts. No conditions.
-/
import Derived.Test.YtnjohdgdmnkjlaaYa
namespace Go.Proofs.Ytnjohdgdmnkjlaa
open Go.RowKit
open M
set_option maxRecDepth 100000 in
set_option maxHeartbeats 1000000 in
theorem counts_any (w : World) :
    Calls Try.prog 26 #[] w fun e w' => e = .returned (.agg (iCells (tf13 117))) ∧ Below w.heap.size w w' := by
  have hz := counts_zero w
  have hz1 := counts_zero (w.alloc (.cells (iCells tz13) 55))
  obtain ⟨B, hB⟩ : ∃ B, w.heap.size = B := ⟨_, rfl⟩
  have hse : (iCells tz13).setIfInBounds 0 (.int .i64 1) = iCells (tf13 (1 * 13)) := by rw [iCells_set, tf_first]
  have HR0 : Hid (Row ((w.alloc (.cells (iCells tz13) 55)).alloc (.cells (iCells (tf13 (1 * 13))) 55)) B 55 (iCells tz13)) := by
    rw [← hB]; exact heap_alloc2_old _ _ _
  have HR1 : Hid (Row ((w.alloc (.cells (iCells tz13) 55)).alloc (.cells (iCells (tf13 (1 * 13))) 55)) (B + 1) 55 (iCells (tf13 (1 * 13)))) := by
    rw [← hB]; exact heap_alloc2_new _ _ _
  have HB0 : Hid (Below B w ((w.alloc (.cells (iCells tz13) 55)).alloc (.cells (iCells (tf13 (1 * 13))) 55))) := by
    rw [← hB]; exact ((Below.refl _ _).alloc (Nat.le_refl _) _).alloc (by simp) _
  have HSE := Lib.hid hse
  have HRN : Row ((w.alloc (.cells (iCells tz13) 55)).alloc (.cells (iCells tz13) 55)) (B + 1) 55 (iCells tz13) := by
    rw [← hB]; exact heap_alloc2_new _ _ _
  have hc0 := i_at HRN 0 (by decide)
  have hf0 := HRN.free 0
  clear hse HRN
  go_enter Try.func26, Try.ntmps26
  go_wp2_with fail
  rw [HSE.out]
  clear hz hz1 HSE hc0 hf0
  generalize (w.alloc (.cells (iCells tz13) 55)).alloc (.cells (iCells (tf13 (1 * 13))) 55) = w1 at *
  go_loopw [2, 3] (fun i _ wr => ∃ n : Nat, 1 ≤ n ∧ n ≤ 9 ∧ i = .int .i64 n ∧ Row wr B 55 (iCells tz13) ∧ Row wr (B + 1) 55 (iCells (tf13 (n * 13))) ∧ Below B w wr) (fun i _ _ => 9 - (intOf i).toNat)
  case atStart => exact ⟨1, by omega, by omega, rfl, HR0.out, HR1.out, HB0.out⟩
  case round =>
    clear HR0 HR1 HB0
    obtain ⟨n, hn1, hn9, rfl, hR0, hR1, hB0⟩ := hrel
    obtain ⟨m, hm⟩ : ∃ m, n = m + 1 := ⟨n - 1, by omega⟩
    rcases Nat.lt_or_ge n 9 with hlt | hge
    · have hnI : (n : Int) < 9 := by omega
      have c0 := i_at hR1 (n * 13) (by rw [tf_len]; omega)
      have f0 := hR1.free (n * 13)
      have HR1 := Lib.hid (Row.set hR1 (n * 13) (.int .i64 1))
      have e1 : (tf13 (n * 13)).set (n * 13) 1 = tf13 (n * 13 + 1) := by
        have := tf_put n 0 (by omega)
        rw [cn_first] at this
        exact this
      rw [iCells_set, e1] at HR1
      have HR0 := Lib.hid (hR0.far (p := ⟨B + 1, n * 13, none⟩) (by show B ≠ B + 1; omega) (.int .i64 1))
      have HB0 := Lib.hid (hB0.setCell (p := ⟨B + 1, n * 13, none⟩) (by show B ≤ B + 1; omega) (.int .i64 1))
      have HM := Lib.hid hm
      have HLT := Lib.hid hlt
      clear hR0 hR1 hB0 hm hn1 hn9 e1
      go_wp2_with fail
      generalize wr.setCell _ _ = w2 at *
      clear c0 f0
      go_loopw [3] (fun i ws => ∃ k : Nat, 1 ≤ k ∧ k ≤ 13 ∧ i = .int .i64 k ∧ Row ws B 55 (iCells tz13) ∧ Row ws (B + 1) 55 (iCells (tf13 (n * 13 + k))) ∧ Below B w ws) (fun i _ => 13 - (intOf i).toNat)
      case atStart => exact ⟨1, by omega, by omega, rfl, HR0.out, HR1.out, HB0.out⟩
      case round =>
        clear HR0 HR1 HB0
        obtain ⟨k, hk1, hk9, rfl, hR0, hR1, hB0⟩ := hrel
        obtain ⟨j, hj⟩ : ∃ j, k = j + 1 := ⟨k - 1, by omega⟩
        rcases Nat.lt_or_ge k 13 with hlk | hgk
        · have hkI : (k : Int) < 13 := by omega
          have hmm := HM.out
          have a1 := i_at hR1 (m * 13 + k) (by rw [tf_len]; omega)
          have a2 := i_at hR1 (m * 13 + j) (by rw [tf_len]; omega)
          have a3 := i_at hR1 (n * 13 + j) (by rw [tf_len]; omega)
          have a4 := i_at hR1 (n * 13 + k) (by rw [tf_len]; omega)
          rw [tf_cell _ _ _ (by omega) (by omega) (by omega)] at a1 a2 a3
          have af := hR1.free (n * 13 + k)
          have ew1 : wrap64 ((n : Int) - 1) = (m : Int) := by rw [wrap64]; omega
          have ew2 : wrap64 ((k : Int) - 1) = (j : Int) := by rw [wrap64]; omega
          have b1 : (cn13 m k : Int) ≤ 152587890625 := cn_big m k (by omega) (by omega)
          have b2 : (cn13 m j : Int) ≤ 152587890625 := cn_big m j (by omega) (by omega)
          have b3 : (cn13 n j : Int) ≤ 152587890625 := cn_big n j (by omega) (by omega)
          have HC := Lib.hid (cn_more m j n k hmm hj)
          have HST := Lib.hid (tf_put n k hlk)
          have HR1 := Lib.hid (Row.set hR1 (n * 13 + k) (.int .i64 (cn13 n k : Int)))
          rw [iCells_set, HST.out] at HR1
          have HR0 := Lib.hid (hR0.far (p := ⟨B + 1, n * 13 + k, none⟩) (by show B ≠ B + 1; omega) (.int .i64 (cn13 n k : Int)))
          have HB0 := Lib.hid (hB0.setCell (p := ⟨B + 1, n * 13 + k, none⟩) (by show B ≤ B + 1; omega) (.int .i64 (cn13 n k : Int)))
          obtain ⟨ew3, ew4⟩ := wr_three _ _ _ _ HC.out (Int.natCast_nonneg _) (Int.natCast_nonneg _) (Int.natCast_nonneg _) b1 b2 b3
          have ew5 : (n : Int) - 1 = (m : Int) := by omega
          have ew6 : (k : Int) - 1 = (j : Int) := by omega
          generalize (cn13 m k : Int) = x1 at *
          generalize (cn13 m j : Int) = x2 at *
          generalize (cn13 n j : Int) = x3 at *
          generalize (cn13 n k : Int) = x4 at *
          generalize (tf13 (n * 13 + k)).getD (n * 13 + k) 0 = x5 at *
          have HJ := Lib.hid hj
          have HLK := Lib.hid hlk
          clear hR0 hR1 hB0 hk1 hk9 hj HST HC hmm b1 b2 b3
          go_wp2_with fail
          go_region
          clear a1 a2 a3 a4 af ew1 ew2 ew3 ew4 ew5 ew6
          have HR0 := Lib.hid (show Row (wr.setCell ⟨B + 1, n * 13 + k, none⟩ (.int .i64 x4)).drew B 55 (iCells tz13) from HR0.out)
          have HR1 := Lib.hid (show Row (wr.setCell ⟨B + 1, n * 13 + k, none⟩ (.int .i64 x4)).drew (B + 1) 55 (iCells (tf13 (n * 13 + (k + 1)))) from HR1.out)
          have HB0 := Lib.hid (below_drew1 HB0.out)
          generalize (wr.setCell ⟨B + 1, n * 13 + k, none⟩ (.int .i64 x4)).drew = w3 at *
          have hkk : wrap64 ((k : Int) + 1) = ((k + 1 : Nat) : Int) := by rw [wrap64]; omega
          go_wp2_with fail
          go_roundw
          case rel => exact ⟨k + 1, by omega, HLK.out, by go_num, HR0.out, HR1.out, HB0.out⟩
          case measure =>
            have := HLK.out
            simp [intOf]
            omega
        · obtain rfl : k = 13 := by omega
          clear hk1 hk9 hgk hj
          have HR0 := Lib.hid hR0
          have HR1 := Lib.hid hR1
          have HB0 := Lib.hid hB0
          clear hR0 hR1 hB0
          go_wp2_with fail
          have hnn : wrap64 ((n : Int) + 1) = ((n + 1 : Nat) : Int) := by rw [wrap64]; omega
          go_roundw
          case rel => exact ⟨n + 1, by omega, HLT.out, by go_num, HR0.out, by rw [show (n + 1) * 13 = n * 13 + 13 by omega]; exact HR1.out, HB0.out⟩
          case measure =>
            have := HLT.out
            simp [intOf]
            omega
    · obtain rfl : n = 9 := by omega
      clear hn1 hn9 hge hm
      have HR0 := Lib.hid hR0
      have HR1 := Lib.hid hR1
      have HB0 := Lib.hid hB0
      clear hR0 hR1 hB0
      have HTZ := Lib.hid (counts_size (tf13 117) (tf_len 117))
      have H1 := Lib.hid (show (iCells tz13).size = (iCells (tf13 117)).size by rw [iCells_size, iCells_size, tf_len]; rfl)
      go_wp2_with (first
        | (refine wpList_load_row rfl 55 (.tmp 1) rfl (B + 1) rfl 55 (iCells (tf13 117)) (0, 0) _ HR1.out Try.underlying55 rfl HTZ.out ?_)
        | (refine wpList_store_row rfl 55 (.tmp 0) (.tmp 42) rfl B (iCells (tf13 117)) rfl rfl 55 (iCells tz13) HR0.out HTZ.out H1.out (iCells_one (tf13 117)) ?_))
      refine bodyPost_ret (v := .agg (iCells (tf13 117))) (results_cell_row Try.results26 _ _ B 55 (iCells (tf13 117)) (0, 0) _ rfl (Row.setRow HR0.out _) Try.underlying55 rfl HTZ.out) rfl ⟨rfl, hB ▸ below_setRow HB0.out (Nat.le_refl _) _⟩
end Go.Proofs.Ytnjohdgdmnkjlaa
