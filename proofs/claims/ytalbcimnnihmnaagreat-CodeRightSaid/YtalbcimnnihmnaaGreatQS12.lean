/-
  Contracts and plain facts that the laws share; each piece is headed by what it holds and its conditions.
-/
import Derived.Test.YtalbcimnnihmnaaGreatQS11
import Derived.Test.YtalbcimnnihmnaaGreatQS5
import Derived.ProofKit
import Derived.OpenShut
import Derived.WideKeyArgs
import Derived.ChangeSlices
import Derived.Deep.WholeRow

/- pvq's counts: the table of all counts. No conditions. -/
namespace Go.Proofs.YtalbcimnnihmnaaGreat
open Go.RowKit
open M
set_option maxRecDepth 100000 in
set_option maxHeartbeats 1000000 in
theorem counts_any (w : World) :
    Calls Tryz.prog 70 #[] w fun e w' => e = .returned (.agg (iCells (tf13 117))) ∧ Below w.heap.size w w' := by
  have hz := counts_zero w
  have hz1 := counts_zero (w.alloc (.cells (iCells tz13) 122))
  obtain ⟨B, hB⟩ : ∃ B, w.heap.size = B := ⟨_, rfl⟩
  have hse : (iCells tz13).setIfInBounds 0 (.int .i64 1) = iCells (tf13 (1 * 13)) := by rw [iCells_set, tf_first]
  have HR0 : Hid (Row ((w.alloc (.cells (iCells tz13) 122)).alloc (.cells (iCells (tf13 (1 * 13))) 122)) B 122 (iCells tz13)) := by
    rw [← hB]; exact heap_alloc2_old _ _ _
  have HR1 : Hid (Row ((w.alloc (.cells (iCells tz13) 122)).alloc (.cells (iCells (tf13 (1 * 13))) 122)) (B + 1) 122 (iCells (tf13 (1 * 13)))) := by
    rw [← hB]; exact heap_alloc2_new _ _ _
  have HB0 : Hid (Below B w ((w.alloc (.cells (iCells tz13) 122)).alloc (.cells (iCells (tf13 (1 * 13))) 122))) := by
    rw [← hB]; exact ((Below.refl _ _).alloc (Nat.le_refl _) _).alloc (by simp) _
  have HSE := Lib.hid hse
  have HRN : Row ((w.alloc (.cells (iCells tz13) 122)).alloc (.cells (iCells tz13) 122)) (B + 1) 122 (iCells tz13) := by
    rw [← hB]; exact heap_alloc2_new _ _ _
  have hc0 := i_at HRN 0 (by decide)
  have hf0 := HRN.free 0
  clear hse HRN
  go_enter Tryz.func70, Tryz.ntmps70
  go_wp2_with fail
  rw [HSE.out]
  clear hz hz1 HSE hc0 hf0
  generalize (w.alloc (.cells (iCells tz13) 122)).alloc (.cells (iCells (tf13 (1 * 13))) 122) = w1 at *
  go_loopw [2, 3] (fun i _ wr => ∃ n : Nat, 1 ≤ n ∧ n ≤ 9 ∧ i = .int .i64 n ∧ Row wr B 122 (iCells tz13) ∧ Row wr (B + 1) 122 (iCells (tf13 (n * 13))) ∧ Below B w wr) (fun i _ _ => 9 - (intOf i).toNat)
  case atStart => exact ⟨1, by omega, by omega, rfl, HR0.out, HR1.out, HB0.out⟩
  case round =>
    clear HR0 HR1 HB0
    obtain ⟨n, hn1, hn9, rfl, hR0, hR1, hB0⟩ := hrel
    obtain ⟨m, hm⟩ : ∃ m, n = m + 1 := ⟨n - 1, by omega⟩
    rcases Nat.lt_or_ge n 9 with hlt | hge
    · have hnI : (n : Int) < 9 := by omega
      have c0 := i_at hR1 (n * 13) (by rw [tf_len]; omega)
      have f0 := hR1.free (n * 13)
      have HR1 := Lib.hid (Row.set hR1 (n * 13) (.int .i64 1))
      have e1 : (tf13 (n * 13)).set (n * 13) 1 = tf13 (n * 13 + 1) := by
        have := tf_put n 0 (by omega)
        rw [cn_first] at this
        exact this
      rw [iCells_set, e1] at HR1
      have HR0 := Lib.hid (hR0.far (p := ⟨B + 1, n * 13, none⟩) (by show B ≠ B + 1; omega) (.int .i64 1))
      have HB0 := Lib.hid (hB0.setCell (p := ⟨B + 1, n * 13, none⟩) (by show B ≤ B + 1; omega) (.int .i64 1))
      have HM := Lib.hid hm
      have HLT := Lib.hid hlt
      clear hR0 hR1 hB0 hm hn1 hn9 e1
      go_wp2_with fail
      generalize wr.setCell _ _ = w2 at *
      clear c0 f0
      go_loopw [3] (fun i ws => ∃ k : Nat, 1 ≤ k ∧ k ≤ 13 ∧ i = .int .i64 k ∧ Row ws B 122 (iCells tz13) ∧ Row ws (B + 1) 122 (iCells (tf13 (n * 13 + k))) ∧ Below B w ws) (fun i _ => 13 - (intOf i).toNat)
      case atStart => exact ⟨1, by omega, by omega, rfl, HR0.out, HR1.out, HB0.out⟩
      case round =>
        clear HR0 HR1 HB0
        obtain ⟨k, hk1, hk9, rfl, hR0, hR1, hB0⟩ := hrel
        obtain ⟨j, hj⟩ : ∃ j, k = j + 1 := ⟨k - 1, by omega⟩
        rcases Nat.lt_or_ge k 13 with hlk | hgk
        · have hkI : (k : Int) < 13 := by omega
          have hmm := HM.out
          have a1 := i_at hR1 (m * 13 + k) (by rw [tf_len]; omega)
          have a2 := i_at hR1 (m * 13 + j) (by rw [tf_len]; omega)
          have a3 := i_at hR1 (n * 13 + j) (by rw [tf_len]; omega)
          have a4 := i_at hR1 (n * 13 + k) (by rw [tf_len]; omega)
          rw [tf_cell _ _ _ (by omega) (by omega) (by omega)] at a1 a2 a3
          have af := hR1.free (n * 13 + k)
          have ew1 : wrap64 ((n : Int) - 1) = (m : Int) := by rw [wrap64]; omega
          have ew2 : wrap64 ((k : Int) - 1) = (j : Int) := by rw [wrap64]; omega
          have b1 : (cn13 m k : Int) ≤ 152587890625 := cn_big m k (by omega) (by omega)
          have b2 : (cn13 m j : Int) ≤ 152587890625 := cn_big m j (by omega) (by omega)
          have b3 : (cn13 n j : Int) ≤ 152587890625 := cn_big n j (by omega) (by omega)
          have HC := Lib.hid (cn_more m j n k hmm hj)
          have HST := Lib.hid (tf_put n k hlk)
          have HR1 := Lib.hid (Row.set hR1 (n * 13 + k) (.int .i64 (cn13 n k : Int)))
          rw [iCells_set, HST.out] at HR1
          have HR0 := Lib.hid (hR0.far (p := ⟨B + 1, n * 13 + k, none⟩) (by show B ≠ B + 1; omega) (.int .i64 (cn13 n k : Int)))
          have HB0 := Lib.hid (hB0.setCell (p := ⟨B + 1, n * 13 + k, none⟩) (by show B ≤ B + 1; omega) (.int .i64 (cn13 n k : Int)))
          obtain ⟨ew3, ew4⟩ := wr_three _ _ _ _ HC.out (Int.natCast_nonneg _) (Int.natCast_nonneg _) (Int.natCast_nonneg _) b1 b2 b3
          have ew5 : (n : Int) - 1 = (m : Int) := by omega
          have ew6 : (k : Int) - 1 = (j : Int) := by omega
          generalize (cn13 m k : Int) = x1 at *
          generalize (cn13 m j : Int) = x2 at *
          generalize (cn13 n j : Int) = x3 at *
          generalize (cn13 n k : Int) = x4 at *
          generalize (tf13 (n * 13 + k)).getD (n * 13 + k) 0 = x5 at *
          have HJ := Lib.hid hj
          have HLK := Lib.hid hlk
          clear hR0 hR1 hB0 hk1 hk9 hj HST HC hmm b1 b2 b3
          go_wp2_with fail
          go_region
          clear a1 a2 a3 a4 af ew1 ew2 ew3 ew4 ew5 ew6
          have HR0 := Lib.hid (show Row (wr.setCell ⟨B + 1, n * 13 + k, none⟩ (.int .i64 x4)).drew B 122 (iCells tz13) from HR0.out)
          have HR1 := Lib.hid (show Row (wr.setCell ⟨B + 1, n * 13 + k, none⟩ (.int .i64 x4)).drew (B + 1) 122 (iCells (tf13 (n * 13 + (k + 1)))) from HR1.out)
          have HB0 := Lib.hid (below_drew1 HB0.out)
          generalize (wr.setCell ⟨B + 1, n * 13 + k, none⟩ (.int .i64 x4)).drew = w3 at *
          have hkk : wrap64 ((k : Int) + 1) = ((k + 1 : Nat) : Int) := by rw [wrap64]; omega
          go_wp2_with fail
          go_roundw
          case rel => exact ⟨k + 1, by omega, HLK.out, by go_num, HR0.out, HR1.out, HB0.out⟩
          case measure =>
            have := HLK.out
            simp [intOf]
            omega
        · obtain rfl : k = 13 := by omega
          clear hk1 hk9 hgk hj
          have HR0 := Lib.hid hR0
          have HR1 := Lib.hid hR1
          have HB0 := Lib.hid hB0
          clear hR0 hR1 hB0
          go_wp2_with fail
          have hnn : wrap64 ((n : Int) + 1) = ((n + 1 : Nat) : Int) := by rw [wrap64]; omega
          go_roundw
          case rel => exact ⟨n + 1, by omega, HLT.out, by go_num, HR0.out, by rw [show (n + 1) * 13 = n * 13 + 13 by omega]; exact HR1.out, HB0.out⟩
          case measure =>
            have := HLT.out
            simp [intOf]
            omega
    · obtain rfl : n = 9 := by omega
      clear hn1 hn9 hge hm
      have HR0 := Lib.hid hR0
      have HR1 := Lib.hid hR1
      have HB0 := Lib.hid hB0
      clear hR0 hR1 hB0
      have HTZ := Lib.hid (counts_size (tf13 117) (tf_len 117))
      have H1 := Lib.hid (show (iCells tz13).size = (iCells (tf13 117)).size by rw [iCells_size, iCells_size, tf_len]; rfl)
      go_wp2_with (first
        | (refine wpList_load_row rfl 122 (.tmp 1) rfl (B + 1) rfl 122 (iCells (tf13 117)) (0, 0) _ HR1.out Tryz.underlying122 rfl HTZ.out ?_)
        | (refine wpList_store_row rfl 122 (.tmp 0) (.tmp 42) rfl B (iCells (tf13 117)) rfl rfl 122 (iCells tz13) HR0.out HTZ.out H1.out (iCells_one (tf13 117)) ?_))
      refine bodyPost_ret (v := .agg (iCells (tf13 117))) (results_cell_row Tryz.results70 _ _ B 122 (iCells (tf13 117)) (0, 0) _ rfl (Row.setRow HR0.out _) Tryz.underlying122 rfl HTZ.out) rfl ⟨rfl, hB ▸ below_setRow HB0.out (Nat.le_refl _) _⟩
end Go.Proofs.YtalbcimnnihmnaaGreat

/- What the rows with slices of numbers share: an argument that is one, taken apart; that it reads the same where nothing that was there has turned. No conditions. -/
namespace Go.Proofs.YtalbcimnnihmnaaGreat
open Go.ChangeShapes Go.WideShapes Go.ChangeAt Go.RowKit
open M

theorem laidOut : laidOutB Tryz.prog = true := by kernel_rfl
theorem cellsInt : Tryz.prog.cellsOf 3 = 1 := by kernel_rfl

/-- A slice of numbers, as it lies. -/
def IntsAt (W : World) (v : Value) (xs : List Int) : Prop :=
  ∃ a cap, v = .slice a xs.length cap ∧ (0 < xs.length → ∃ b off, a = some ⟨b, off, none⟩ ∧ b < W.heap.size ∧
    ∀ i, i < xs.length → W.cell? ⟨b, off + i, none⟩ = some (.int .i64 (xs.getD i 0)))
def i64ok (x : Int) : Prop := -9223372036854775808 ≤ x ∧ x ≤ 9223372036854775807

theorem IntsAt.below {W W' : World} {v : Value} {xs : List Int} (h : IntsAt W v xs) (hb : Below W.heap.size W W') : IntsAt W' v xs := by
  obtain ⟨a, cap, rfl, hc⟩ := h
  refine ⟨a, cap, rfl, fun h0 => ?_⟩
  obtain ⟨b, off, rfl, hlt, hc⟩ := hc h0
  exact ⟨b, off, rfl, Nat.lt_of_lt_of_le hlt hb.size, fun i hi => (hb.cell (p := ⟨b, off + i, none⟩) hlt).trans (hc i hi)⟩

section
variable {H : Type} {enc : TypeId × Value → H} {W W' : World}
theorem trod_below {t : TypeId} (hr : Tryz.prog.readableRec t = true) (hrow : t < Tryz.prog.types.size) {v : Value} {d : DataW H} {ps : List MemPlace}
    (h : DataW.Trod enc Tryz.prog W 0 (fun _ => true) true t v d ps) (hlt : ∀ p ∈ ps, p.block < W.heap.size) (hb : Below W.heap.size W W') :
    DataW.Trod enc Tryz.prog W' 0 (fun b => decide (b < W.heap.size)) true t v d ps := by
  refine WideElems.Trod_stays laidOut hr hrow h (fun p hp => ?_) (fun p hp => by simpa using hlt p hp)
  have := hlt p hp
  cases p with
  | cell b off => exact hb.cell (p := ⟨b, off, none⟩) this
  | map b => exact hb.block b this

set_option maxRecDepth 100000 in
theorem open_intl {v : Value} {d : DataW H} {ps : List MemPlace} {r : Reach} {b0 : Nat} (hv : Value.okWide Tryz.prog W r b0 45 v)
    (h : DataW.Trod enc Tryz.prog W 0 (fun _ => true) true 45 v d ps) :
    ∃ xs, IntsAt W v xs ∧ xs.length ≤ maxLen ∧ ∀ p ∈ xs, i64ok p := by
  obtain ⟨a, len, cap, rfl⟩ := okWide_slice Tryz.underlying45 hv
  obtain ⟨fuel, hf⟩ := h
  rcases open_ints Tryz.underlying45 Tryz.underlying3 cellsInt hf with ⟨hc, _⟩ | ⟨a', len', cap', zs, hc, _, hl, hm, hz, _, hall, hwf⟩
  · have hc' : [Value.slice a len cap] = [.slice none 0 0] := hc
    simp only [List.cons.injEq, and_true] at hc'
    rw [hc']
    exact ⟨[], ⟨none, 0, rfl, fun h => by simp at h⟩, by simp, by simp⟩
  · have hc' : [Value.slice a len cap] = [.slice (some a') len' cap'] := hc
    simp only [List.cons.injEq, and_true] at hc'
    rw [hc']
    have hzl : zs.length = cap' := by simpa using hz
    refine ⟨zs.take len', ⟨some a', cap', by rw [List.length_take, Nat.min_eq_left (by omega)], fun h => ?_⟩, by rw [List.length_take]; omega, fun p hp => Go.bounds_i64 (hwf p (List.mem_of_mem_take hp))⟩
    rw [List.length_take] at h
    obtain ⟨b, off, spot⟩ := a'
    have hspot : spot = none := by simpa [Addr.add] using World.cell?_spot (hall 0 (by omega))
    subst hspot
    refine ⟨b, off, rfl, World.block_lt_of_cell? W _ (hall 0 (by omega)), fun i hi => ?_⟩
    rw [List.length_take] at hi
    have h1 := hall i (by omega)
    have e : (zs.take len').getD i 0 = zs.getD i 0 := by
      simp only [List.getD_eq_getElem?_getD, List.getElem?_take]
      rw [if_pos (by omega)]
    rw [e, ← add_plain]
    exact h1
end
end Go.Proofs.YtalbcimnnihmnaaGreat

/- pvq's Count. No conditions. -/
namespace Go.Proofs.YtalbcimnnihmnaaGreat
open Go.RowKit
open M
theorem counts_put (w : World) : (storeCells ⟨w.heap.size, 0, none⟩ (iCells (tf13 117)).toList 0).run Tryz.prog (w.alloc (.cells (iCells tz13) 122)) = .ok () (w.alloc (.cells (iCells (tf13 117)) 122)) :=
  run_storeCells_new w _ _ _ (counts_size (tf13 117) (tf_len 117)) (by rw [iCells_size, iCells_size, tf_len]; rfl) (iCells_one (tf13 117))
/-- Counts of any numbers. -/
def cnI (n k : Int) : Int := if th13 n k then (cn13 n.toNat k.toNat : Int) else 0
theorem cnI_in (n k : Nat) (hn : n ≤ 8) (hk : k ≤ 12) : cnI n k = (cn13 n k : Int) := by
  have h : th13 n k = true := decide_eq_true (by omega)
  rw [cnI, h, if_pos rfl, Int.toNat_natCast, Int.toNat_natCast]
theorem cnI_out (n k : Int) (h : th13 n k = false) : cnI n k = 0 := by
  rw [cnI, h]; rfl
theorem th_in {n k : Int} (h : th13 n k = true) : ∃ a b : Nat, n = a ∧ k = b ∧ a ≤ 8 ∧ b ≤ 12 := by
  have := of_decide_eq_true h
  exact ⟨n.toNat, k.toNat, by omega, by omega, by omega, by omega⟩
set_option maxRecDepth 100000 in
theorem count_any (n k : Int) (w : World) :
    Calls Tryz.prog 72 #[.int .i64 n, .int .i64 k] w fun e w' => e = .returned (.int .i64 (cnI n k)) ∧ Below w.heap.size w w' := by
  have HT := there_any n k w
  cases ht : th13 n k
  · have HO := Lib.hid (cnI_out n k ht)
    rw [ht] at HT
    clear ht
    go_enter Tryz.func72, Tryz.ntmps72
    go_wp2_with fail
    refine HT.mono ?_
    rintro e w1 ⟨rfl, rfl⟩
    go_wp2
    go_ret
    exact ⟨by rw [HO.out]; rfl, Below.refl _ _⟩
  · obtain ⟨a, b, rfl, rfl, ha, hb⟩ := th_in ht
    have HO := Lib.hid (cnI_in a b ha hb)
    rw [ht] at HT
    clear ht
    go_enter Tryz.func72, Tryz.ntmps72
    go_wp2_with fail
    refine HT.mono ?_
    rintro e w1 ⟨rfl, rfl⟩
    go_wp2_with fail
    refine (counts_any w1).mono ?_
    rintro e w2 ⟨rfl, hb2⟩
    have hz := counts_zero w2
    have hst := counts_put w2
    have hsz : (iCells (tf13 117)).size = 117 := by rw [iCells_size, tf_len]
    have hr : Row (w2.alloc (.cells (iCells (tf13 117)) 122)) w2.heap.size 122 (iCells (tf13 117)) := heap_alloc_new _ _
    have c0 := i_at hr (a * 13 + b) (by rw [tf_len]; omega)
    rw [tf_cell _ _ _ (by omega) (by omega) (by omega)] at c0
    have HB := Lib.hid (hb2.alloc hb2.size (.cells (iCells (tf13 117)) 122))
    have haI : (a : Int) < 9 := by omega
    have hbI : (b : Int) < 13 := by omega
    generalize (cn13 a b : Int) = c at *
    clear hr hb2 ha hb
    go_wp2
    go_ret
    exact ⟨by rw [HO.out]; rfl, HB.out⟩
end Go.Proofs.YtalbcimnnihmnaaGreat

/- pvq: a number's size; the order of numbers by a closure. No conditions but those that each fact names. -/
namespace Go.Proofs.YtalbcimnnihmnaaGreat
open Go.RowKit
open M
/-- A number without its sign. -/
theorem size_any (x : Int) (w : World) (h1 : -9223372036854775807 ≤ x) (h2 : x ≤ 9223372036854775807) :
    Calls Tryz.prog 34 #[.int .i64 x] w fun e w' => e = .returned (.int .i64 (x.natAbs : Int)) ∧ w' = w := by
  have hw : wrap64 (-x) = -x := by rw [wrap64]; omega
  by_cases h : -x > x
  · go_enter Tryz.func34, Tryz.ntmps34
    go_wp2
    go_ret
    exact ⟨ret_eq (by omega), rfl⟩
  · go_enter Tryz.func34, Tryz.ntmps34
    go_wp2
    go_ret
    exact ⟨ret_eq (by omega), rfl⟩
/-- The next number of the order, behind that of rank r. -/
theorem next_any (r g : Nat) (w : World) (hr : r ≤ 1000) (hc : w.cell? ⟨g, 0, none⟩ = some (.int .i64 (unr r))) (hf : w.frozen? ⟨g, 0, none⟩ = false) :
    Calls Tryz.prog 88 #[.pointer (some ⟨g, 0, none⟩)] w fun e w' => e = .returned (.int .i64 (unr r)) ∧ w' = w.setCell ⟨g, 0, none⟩ (.int .i64 (unr (r + 1))) := by
  have hp := Lib.hid (unr_pos r)
  have hn := Lib.hid (unr_neg r)
  obtain ⟨hb1, hb2⟩ := unr_bd r hr
  generalize unr (r + 1) = y at *
  generalize unr r = x at *
  have hw : wrap64 (-x) = -x := by rw [wrap64]; omega
  have hw2 : wrap64 (1 - x) = 1 - x := by rw [wrap64]; omega
  go_enter Tryz.func88, Tryz.ntmps88
  by_cases h : 0 < x
  · go_wp2
    go_ret
    exact ⟨rfl, by rw [hp.out h]⟩
  · go_wp2
    go_ret
    exact ⟨rfl, by rw [hn.out h]⟩
/-- The closure: its cell holds the number that it answers next. -/
theorem ordered_any (w : World) : Calls Tryz.prog 71 #[] w fun e w' => e = .returned (.func (.func 88) #[] #[.pointer (some ⟨w.heap.size, 0, none⟩)]) ∧ w' = w.alloc (.cells #[.int .i64 (unr 0)] 3) := by
  go_enter Tryz.func71, Tryz.ntmps71
  go_wp2
  go_ret
  exact ⟨rfl, rfl⟩
end Go.Proofs.YtalbcimnnihmnaaGreat
