/-
  Contracts and plain facts that the laws share; each piece is headed by what it holds and its conditions.
-/
import Derived.Test.YtkjbobgmnpifoaaQQ1
import Derived.Test.YtkjbobgmnpifoaaQBh
import Derived.Test.YtkjbobgmnpifoaaQDi
import Derived.Deep.WholeRow

/- Numbers that a walk wraps; counts of vectors as ints. No conditions but those that each fact names. -/
namespace Go.Proofs.Ytkjbobgmnpifoaa
open Go.RowKit
open M
theorem cn_first (n : Nat) : (cn13 n 0 : Int) = 1 := by rw [cn_none]; rfl
theorem wr_is (x y : Int) (h : x = y) (h1 : -9223372036854775808 ≤ x) (h2 : x ≤ 9223372036854775807) : wrap64 x = y := by
  subst h; rw [wrap64]; omega
theorem wr_sub (a b c : Nat) (h : a = b + c) (ha : a ≤ 1000000) : wrap64 ((a : Int) - (b : Int)) = (c : Int) := wr_is _ _ (by omega) (by omega) (by omega)
theorem wr_succ (p : Nat) (h : p ≤ 1000000) : wrap64 ((p : Int) + 1) = ((p + 1 : Nat) : Int) := wr_is _ _ (by omega) (by omega) (by omega)
theorem sub_nat (a b c : Nat) (h : a = b + c) : (a : Int) - (b : Int) = (c : Int) := by omega
theorem ms13 (L p : Nat) (h : p < L) : L - (intOf (.int .i64 ((p + 1 : Nat) : Int))).toNat < L - (intOf (.int .i64 (p : Int))).toNat := by
  simp only [intOf, Int.toNat_natCast]
  omega
theorem wr_three (x y z u : Int) (h : u = x + y + z) (h1 : 0 ≤ x) (h2 : 0 ≤ y) (h3 : 0 ≤ z) (k1 : x ≤ 152587890625) (k2 : y ≤ 152587890625) (k3 : z ≤ 152587890625) : wrap64 (x + y) = x + y ∧ wrap64 (x + y + z) = u :=
  ⟨wr_is _ _ rfl (by omega) (by omega), wr_is _ _ h.symm (by omega) (by omega)⟩
theorem cn_big (n k : Nat) (hn : n ≤ 8) (hk : k ≤ 12) : (cn13 n k : Int) ≤ 152587890625 := Int.ofNat_le.2 (cn_bd8 n k hn hk)
theorem cn_more (m j n k : Nat) (hn : n = m + 1) (hk : k = j + 1) : (cn13 n k : Int) = (cn13 m k : Int) + (cn13 m j : Int) + (cn13 n j : Int) := by
  subst hn hk
  rw [cn_step, Int.natCast_add, Int.natCast_add]
theorem unr_pos (r : Nat) (h : 0 < unr r) : unr (r + 1) = -unr r := by
  unfold unr sz at *
  split at h <;> split <;> omega
theorem unr_neg (r : Nat) (h : ¬ 0 < unr r) : unr (r + 1) = 1 - unr r := by
  unfold unr sz at *
  split at h <;> split <;> omega
theorem unr_bd (r : Nat) (h : r ≤ 1000) : -1000 ≤ unr r ∧ unr r ≤ 1000 := by
  unfold unr sz
  split <;> omega
theorem cn_pos (n k : Nat) : 1 ≤ cn13 (n + 1) k := by
  show 1 ≤ ah (cn13 n) k (2 * k) + cn13 n (k - sz (2 * k))
  have h : k - sz (2 * k) = 0 := by unfold sz; omega
  rw [h, cn_none]
  omega
end Go.Proofs.Ytkjbobgmnpifoaa

/- pvq's table of counts, plain; whether counts are there. No conditions but those that each fact names. -/
namespace Go.Proofs.Ytkjbobgmnpifoaa
open Go.RowKit
open M
/-- The table, as far as p places. -/
def tf13 (p : Nat) : List Int := (List.range 117).map fun i => if i < p then (cn13 (i / 13) (i % 13) : Int) else 0
theorem tf_len (p : Nat) : (tf13 p).length = 117 := by simp [tf13]
theorem tf_at (p i : Nat) (h : i < p) (h2 : i < 117) : (tf13 p).getD i 0 = (cn13 (i / 13) (i % 13) : Int) := by
  simp only [tf13, List.getD_eq_getElem?_getD, List.getElem?_map, List.getElem?_range h2, Option.map_some, Option.getD_some]
  rw [if_pos h]
theorem tf_cell (p n k : Nat) (hn : n < 9) (hk : k < 13) (h : n * 13 + k < p) : (tf13 p).getD (n * 13 + k) 0 = (cn13 n k : Int) := by
  rw [tf_at p _ h (by omega), show (n * 13 + k) / 13 = n by omega, show (n * 13 + k) % 13 = k by omega]
theorem tf_step (p : Nat) (c : Int) (hc : c = (cn13 (p / 13) (p % 13) : Int)) : (tf13 p).set p c = tf13 (p + 1) := by
  subst hc
  apply List.ext_getElem
  · simp [tf13]
  · intro i h1 h2
    simp only [tf13, List.getElem_set, List.getElem_map, List.getElem_range]
    by_cases e : p = i
    · subst e
      rw [if_pos rfl, if_pos (by omega)]
    · rw [if_neg e]
      by_cases e2 : i < p
      · rw [if_pos e2, if_pos (by omega)]
      · rw [if_neg e2, if_neg (by omega)]
theorem tf_put (n k : Nat) (hk : k < 13) : (tf13 (n * 13 + k)).set (n * 13 + k) (cn13 n k : Int) = tf13 (n * 13 + (k + 1)) := by
  rw [tf_step _ _ (by rw [show (n * 13 + k) / 13 = n by omega, show (n * 13 + k) % 13 = k by omega])]
  rfl
def tz13 : List Int := List.replicate 117 0
theorem tf_zero : tf13 0 = tz13 := by decide +kernel
theorem tf_first : tz13.set 0 1 = tf13 (1 * 13) := by decide +kernel
theorem counts_info : (Try.prog.info? 66).map (fun i => (i.zero, i.size)) = some (some (.agg (iCells tz13)), 117) := by kernel_rfl
theorem counts_zero (w : World) : (zeroValue 66).run Try.prog w = .ok (.agg (iCells tz13)) w := (zero_of_info counts_info).1 w
theorem counts_size (l : List Int) (h : l.length = 117) : (Try.prog.info? 66).map (·.size) = some (iCells l).size := by
  rw [iCells_size, h]; kernel_rfl
def th13 (n k : Int) : Bool := decide (0 ≤ n ∧ n ≤ 8 ∧ 0 ≤ k ∧ k ≤ 12)
theorem there_any (n k : Int) (w : World) :
    Calls Try.prog 30 #[.int .i64 n, .int .i64 k] w fun e w' => e = .returned (.bool (th13 n k)) ∧ w' = w := by
  have HT : Hid (th13 n k = decide (0 ≤ n ∧ n ≤ 8 ∧ 0 ≤ k ∧ k ≤ 12)) := rfl
  by_cases h1 : 0 ≤ n <;> by_cases h2 : n ≤ 8 <;> by_cases h3 : 0 ≤ k <;> by_cases h4 : k ≤ 12
  all_goals try (exfalso; omega)
  all_goals first
    | (have hd : decide (0 ≤ n ∧ n ≤ 8 ∧ 0 ≤ k ∧ k ≤ 12) = true := decide_eq_true (by omega); rw [hd] at HT)
    | (have hd : decide (0 ≤ n ∧ n ≤ 8 ∧ 0 ≤ k ∧ k ≤ 12) = false := decide_eq_false (by omega); rw [hd] at HT)
  all_goals
    go_enter Try.func30, Try.ntmps30
    go_wp2
    go_ret
    exact ⟨by rw [HT.out]; rfl, rfl⟩
end Go.Proofs.Ytkjbobgmnpifoaa

/- pvq's counts: the table of all counts. No conditions. -/
namespace Go.Proofs.Ytkjbobgmnpifoaa
open Go.RowKit
open M
set_option maxRecDepth 100000 in
set_option maxHeartbeats 1000000 in
theorem counts_any (w : World) :
    Calls Try.prog 31 #[] w fun e w' => e = .returned (.agg (iCells (tf13 117))) ∧ Below w.heap.size w w' := by
  have hz := counts_zero w
  have hz1 := counts_zero (w.alloc (.cells (iCells tz13) 66))
  obtain ⟨B, hB⟩ : ∃ B, w.heap.size = B := ⟨_, rfl⟩
  have hse : (iCells tz13).setIfInBounds 0 (.int .i64 1) = iCells (tf13 (1 * 13)) := by rw [iCells_set, tf_first]
  have HR0 : Hid (Row ((w.alloc (.cells (iCells tz13) 66)).alloc (.cells (iCells (tf13 (1 * 13))) 66)) B 66 (iCells tz13)) := by
    rw [← hB]; exact heap_alloc2_old _ _ _
  have HR1 : Hid (Row ((w.alloc (.cells (iCells tz13) 66)).alloc (.cells (iCells (tf13 (1 * 13))) 66)) (B + 1) 66 (iCells (tf13 (1 * 13)))) := by
    rw [← hB]; exact heap_alloc2_new _ _ _
  have HB0 : Hid (Below B w ((w.alloc (.cells (iCells tz13) 66)).alloc (.cells (iCells (tf13 (1 * 13))) 66))) := by
    rw [← hB]; exact ((Below.refl _ _).alloc (Nat.le_refl _) _).alloc (by simp) _
  have HSE := Lib.hid hse
  have HRN : Row ((w.alloc (.cells (iCells tz13) 66)).alloc (.cells (iCells tz13) 66)) (B + 1) 66 (iCells tz13) := by
    rw [← hB]; exact heap_alloc2_new _ _ _
  have hc0 := i_at HRN 0 (by decide)
  have hf0 := HRN.free 0
  clear hse HRN
  go_enter Try.func31, Try.ntmps31
  go_wp2_with fail
  rw [HSE.out]
  clear hz hz1 HSE hc0 hf0
  generalize (w.alloc (.cells (iCells tz13) 66)).alloc (.cells (iCells (tf13 (1 * 13))) 66) = w1 at *
  go_loopw [2, 3] (fun i _ wr => ∃ n : Nat, 1 ≤ n ∧ n ≤ 9 ∧ i = .int .i64 n ∧ Row wr B 66 (iCells tz13) ∧ Row wr (B + 1) 66 (iCells (tf13 (n * 13))) ∧ Below B w wr) (fun i _ _ => 9 - (intOf i).toNat)
  case atStart => exact ⟨1, by omega, by omega, rfl, HR0.out, HR1.out, HB0.out⟩
  case round =>
    clear HR0 HR1 HB0
    obtain ⟨n, hn1, hn9, rfl, hR0, hR1, hB0⟩ := hrel
    obtain ⟨m, hm⟩ : ∃ m, n = m + 1 := ⟨n - 1, by omega⟩
    rcases Nat.lt_or_ge n 9 with hlt | hge
    · have hnI : (n : Int) < 9 := by omega
      have c0 := i_at hR1 (n * 13) (by rw [tf_len]; omega)
      have f0 := hR1.free (n * 13)
      have HR1 := Lib.hid (Row.set hR1 (n * 13) (.int .i64 1))
      have e1 : (tf13 (n * 13)).set (n * 13) 1 = tf13 (n * 13 + 1) := by
        have := tf_put n 0 (by omega)
        rw [cn_first] at this
        exact this
      rw [iCells_set, e1] at HR1
      have HR0 := Lib.hid (hR0.far (p := ⟨B + 1, n * 13, none⟩) (by show B ≠ B + 1; omega) (.int .i64 1))
      have HB0 := Lib.hid (hB0.setCell (p := ⟨B + 1, n * 13, none⟩) (by show B ≤ B + 1; omega) (.int .i64 1))
      have HM := Lib.hid hm
      have HLT := Lib.hid hlt
      clear hR0 hR1 hB0 hm hn1 hn9 e1
      go_wp2_with fail
      generalize wr.setCell _ _ = w2 at *
      clear c0 f0
      go_loopw [3] (fun i ws => ∃ k : Nat, 1 ≤ k ∧ k ≤ 13 ∧ i = .int .i64 k ∧ Row ws B 66 (iCells tz13) ∧ Row ws (B + 1) 66 (iCells (tf13 (n * 13 + k))) ∧ Below B w ws) (fun i _ => 13 - (intOf i).toNat)
      case atStart => exact ⟨1, by omega, by omega, rfl, HR0.out, HR1.out, HB0.out⟩
      case round =>
        clear HR0 HR1 HB0
        obtain ⟨k, hk1, hk9, rfl, hR0, hR1, hB0⟩ := hrel
        obtain ⟨j, hj⟩ : ∃ j, k = j + 1 := ⟨k - 1, by omega⟩
        rcases Nat.lt_or_ge k 13 with hlk | hgk
        · have hkI : (k : Int) < 13 := by omega
          have hmm := HM.out
          have a1 := i_at hR1 (m * 13 + k) (by rw [tf_len]; omega)
          have a2 := i_at hR1 (m * 13 + j) (by rw [tf_len]; omega)
          have a3 := i_at hR1 (n * 13 + j) (by rw [tf_len]; omega)
          have a4 := i_at hR1 (n * 13 + k) (by rw [tf_len]; omega)
          rw [tf_cell _ _ _ (by omega) (by omega) (by omega)] at a1 a2 a3
          have af := hR1.free (n * 13 + k)
          have ew1 : wrap64 ((n : Int) - 1) = (m : Int) := by rw [wrap64]; omega
          have ew2 : wrap64 ((k : Int) - 1) = (j : Int) := by rw [wrap64]; omega
          have b1 : (cn13 m k : Int) ≤ 152587890625 := cn_big m k (by omega) (by omega)
          have b2 : (cn13 m j : Int) ≤ 152587890625 := cn_big m j (by omega) (by omega)
          have b3 : (cn13 n j : Int) ≤ 152587890625 := cn_big n j (by omega) (by omega)
          have HC := Lib.hid (cn_more m j n k hmm hj)
          have HST := Lib.hid (tf_put n k hlk)
          have HR1 := Lib.hid (Row.set hR1 (n * 13 + k) (.int .i64 (cn13 n k : Int)))
          rw [iCells_set, HST.out] at HR1
          have HR0 := Lib.hid (hR0.far (p := ⟨B + 1, n * 13 + k, none⟩) (by show B ≠ B + 1; omega) (.int .i64 (cn13 n k : Int)))
          have HB0 := Lib.hid (hB0.setCell (p := ⟨B + 1, n * 13 + k, none⟩) (by show B ≤ B + 1; omega) (.int .i64 (cn13 n k : Int)))
          obtain ⟨ew3, ew4⟩ := wr_three _ _ _ _ HC.out (Int.natCast_nonneg _) (Int.natCast_nonneg _) (Int.natCast_nonneg _) b1 b2 b3
          have ew5 : (n : Int) - 1 = (m : Int) := by omega
          have ew6 : (k : Int) - 1 = (j : Int) := by omega
          generalize (cn13 m k : Int) = x1 at *
          generalize (cn13 m j : Int) = x2 at *
          generalize (cn13 n j : Int) = x3 at *
          generalize (cn13 n k : Int) = x4 at *
          generalize (tf13 (n * 13 + k)).getD (n * 13 + k) 0 = x5 at *
          have HJ := Lib.hid hj
          have HLK := Lib.hid hlk
          clear hR0 hR1 hB0 hk1 hk9 hj HST HC hmm b1 b2 b3
          go_wp2_with fail
          go_region
          clear a1 a2 a3 a4 af ew1 ew2 ew3 ew4 ew5 ew6
          have HR0 := Lib.hid (show Row (wr.setCell ⟨B + 1, n * 13 + k, none⟩ (.int .i64 x4)).drew B 66 (iCells tz13) from HR0.out)
          have HR1 := Lib.hid (show Row (wr.setCell ⟨B + 1, n * 13 + k, none⟩ (.int .i64 x4)).drew (B + 1) 66 (iCells (tf13 (n * 13 + (k + 1)))) from HR1.out)
          have HB0 := Lib.hid (below_drew1 HB0.out)
          generalize (wr.setCell ⟨B + 1, n * 13 + k, none⟩ (.int .i64 x4)).drew = w3 at *
          have hkk : wrap64 ((k : Int) + 1) = ((k + 1 : Nat) : Int) := by rw [wrap64]; omega
          go_wp2_with fail
          go_roundw
          case rel => exact ⟨k + 1, by omega, HLK.out, by go_num, HR0.out, HR1.out, HB0.out⟩
          case measure =>
            have := HLK.out
            simp [intOf]
            omega
        · obtain rfl : k = 13 := by omega
          clear hk1 hk9 hgk hj
          have HR0 := Lib.hid hR0
          have HR1 := Lib.hid hR1
          have HB0 := Lib.hid hB0
          clear hR0 hR1 hB0
          go_wp2_with fail
          have hnn : wrap64 ((n : Int) + 1) = ((n + 1 : Nat) : Int) := by rw [wrap64]; omega
          go_roundw
          case rel => exact ⟨n + 1, by omega, HLT.out, by go_num, HR0.out, by rw [show (n + 1) * 13 = n * 13 + 13 by omega]; exact HR1.out, HB0.out⟩
          case measure =>
            have := HLT.out
            simp [intOf]
            omega
    · obtain rfl : n = 9 := by omega
      clear hn1 hn9 hge hm
      have HR0 := Lib.hid hR0
      have HR1 := Lib.hid hR1
      have HB0 := Lib.hid hB0
      clear hR0 hR1 hB0
      have HTZ := Lib.hid (counts_size (tf13 117) (tf_len 117))
      have H1 := Lib.hid (show (iCells tz13).size = (iCells (tf13 117)).size by rw [iCells_size, iCells_size, tf_len]; rfl)
      go_wp2_with (first
        | (refine wpList_load_row rfl 66 (.tmp 1) rfl (B + 1) rfl 66 (iCells (tf13 117)) (0, 0) _ HR1.out Try.underlying66 rfl HTZ.out ?_)
        | (refine wpList_store_row rfl 66 (.tmp 0) (.tmp 42) rfl B (iCells (tf13 117)) rfl rfl 66 (iCells tz13) HR0.out HTZ.out H1.out (iCells_one (tf13 117)) ?_))
      refine bodyPost_ret (v := .agg (iCells (tf13 117))) (results_cell_row Try.results31 _ _ B 66 (iCells (tf13 117)) (0, 0) _ rfl (Row.setRow HR0.out _) Try.underlying66 rfl HTZ.out) rfl ⟨rfl, hB ▸ below_setRow HB0.out (Nat.le_refl _) _⟩
end Go.Proofs.Ytkjbobgmnpifoaa
