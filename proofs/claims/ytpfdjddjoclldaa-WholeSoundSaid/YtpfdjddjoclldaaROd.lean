/-
  trig's nearest and halves: a number by 2^30, rounded; the seven angles of one bit. Conditions: those that each names.
-/
import Derived.Test.YtpfdjddjoclldaaROc
import Derived.Deep.WholeRow
namespace Go.Proofs.Ytpfdjddjoclldaa
open Go.RowKit
open M
theorem nearest_any (n : Int) (w : World) (h1 : -4611686018427387904 ≤ n) (h2 : n ≤ 4611686018427387904) :
    Calls Try.prog 59 #[.int .i64 n] w fun e w' => e = .returned (.int .i64 (dn n)) ∧ w = w' := by
  have HD : Hid (dn n = (n + 536870912) / 1073741824) := rfl
  go_enter Try.func59, Try.ntmps59
  go_wp2
  go_ret
  exact ⟨ret_eq (HD.out.symm), rfl⟩
theorem natCells_one (l : List Nat) : (natCells l).all (·.oneCell') = true := by
  simp [natCells, Value.oneCell']
theorem nat_at {w : World} {g : Nat} {l : List Nat} {t : TypeId} (h : Row w g t (natCells l)) (i : Nat) (hi : i < l.length) : w.cell? ⟨g, i, none⟩ = some (.int .i64 (l.getD i 0 : Nat)) :=
  (cell_of_row w g i (natCells l) t (0, 0) h).trans (natCells_get l i hi)
/-- The seven angles of one bit, from the place k on. -/
def hl (k : Nat) : List Nat := (List.range 14).map fun j => if j < 2 * k then 0 else if j % 2 = 0 then hc (j / 2) else hs (j / 2)
theorem hl_length (k : Nat) : (hl k).length = 14 := by simp [hl]
theorem hl_step (i : Nat) (h : i < 7) : ((hl (i + 1)).set (2 * i) (hc i)).set (2 * i + 1) (hs i) = hl i := by
  have : i = 0 ∨ i = 1 ∨ i = 2 ∨ i = 3 ∨ i = 4 ∨ i = 5 ∨ i = 6 := by omega
  rcases this with rfl | rfl | rfl | rfl | rfl | rfl | rfl <;> decide
def h0 : List Nat := List.replicate 14 0
theorem hl_zero : hl 7 = h0 := by decide
theorem halves_info : (Try.prog.info? 79).map (fun i => (i.zero, i.size)) = some (some (.agg (natCells h0)), 14) := by kernel_rfl
theorem halves_zero (w : World) : (zeroValue 79).run Try.prog w = .ok (.agg (natCells h0)) w := (zero_of_info halves_info).1 w
theorem halves_size (l : List Nat) (h : l.length = 14) : (Try.prog.info? 79).map (·.size) = some (natCells l).size := by
  rw [natCells_size, h]; kernel_rfl
def p0 : List Nat := List.replicate 2 0
theorem pair_info : (Try.prog.info? 61).map (fun i => (i.zero, i.size)) = some (some (.agg (natCells p0)), 2) := by kernel_rfl
theorem pair_zero (w : World) : (zeroValue 61).run Try.prog w = .ok (.agg #[.int .i64 0, .int .i64 0]) w := (zero_of_info pair_info).1 w
/-- The cosine ahead of the place i. -/
def hq (k : Nat) : Nat := if k = 7 then 0 else hc k
theorem hq_root (i : Nat) (h : i < 7) : rtN ((1073741824 + hq (i + 1)) * 536870912) = hc i ∧ rtN ((1073741824 - hq (i + 1)) * 536870912) = hs i := by
  rcases Nat.lt_or_ge i 6 with e | e
  · unfold hq
    rw [if_neg (by omega)]
    exact hc_next i e
  · obtain rfl : i = 6 := by omega
    exact hc_top
theorem hq_bd (i : Nat) (h : i < 7) : hq (i + 1) ≤ 1073741824 := by
  unfold hq
  split
  · omega
  · exact (hc_bd (i + 1) (by omega)).1
set_option maxRecDepth 100000 in
theorem halves_any (w : World) :
    Calls Try.prog 58 #[] w fun e w' => e = .returned (.agg (natCells (hl 0))) ∧ Below w.heap.size w w' := by
  have hz := halves_zero w
  have hz1 := halves_zero (w.alloc (.cells (natCells h0) 79))
  go_enter Try.func58, Try.ntmps58
  go_wp2
  clear hz hz1
  have HR0 : Hid (Row ((w.alloc (.cells (natCells h0) 79)).alloc (.cells (natCells h0) 79)) w.heap.size 79 (natCells h0)) := heap_alloc2_old _ _ _
  have HR1 : Hid (Row ((w.alloc (.cells (natCells h0) 79)).alloc (.cells (natCells h0) 79)) (w.heap.size + 1) 79 (natCells (hl 7))) := by
    unfold Hid; rw [hl_zero]; exact heap_alloc2_new _ _ _
  have HB0 : Hid (Below w.heap.size w ((w.alloc (.cells (natCells h0) 79)).alloc (.cells (natCells h0) 79))) := ((Below.refl _ _).alloc (Nat.le_refl _) _).alloc (by simp) _
  generalize (w.alloc (.cells (natCells h0) 79)).alloc (.cells (natCells h0) 79) = w1 at *
  go_loopw [2, 3] (fun h i wr => ∃ k : Nat, k ≤ 7 ∧ i = .int .i64 ((k : Int) - 1) ∧ h = .int .i64 (hq k : Nat) ∧ Row wr w.heap.size 79 (natCells h0) ∧ Row wr (w.heap.size + 1) 79 (natCells (hl k)) ∧ Below w.heap.size w wr) (fun _ i _ => (intOf i + 1).toNat)
  case atStart => exact ⟨7, by omega, rfl, rfl, HR0.out, HR1.out, HB0.out⟩
  case round =>
    clear HR0 HR1 HB0
    obtain ⟨k, hk, rfl, rfl, h1, h2, h3⟩ := hrel
    have HZ := Lib.hid h1
    have HR := Lib.hid h2
    have HB := Lib.hid h3
    rcases Nat.eq_zero_or_pos k with rfl | hp
    · have HSZ := Lib.hid (halves_size (hl 0) (hl_length 0))
      have H1 := Lib.hid (show (natCells h0).size = (natCells (hl 0)).size by rw [natCells_size, natCells_size, hl_length]; rfl)
      clear h1 h2 h3
      go_wp2_with (first
        | (refine wpList_load_row rfl 79 (.tmp 1) rfl (w.heap.size + 1) rfl 79 (natCells (hl 0)) (0, 0) _ HR.out Try.underlying79 rfl HSZ.out ?_)
        | (refine wpList_store_row rfl 79 (.tmp 0) (.tmp 23) rfl w.heap.size (natCells (hl 0)) rfl rfl 79 (natCells h0) HZ.out HSZ.out H1.out (natCells_one (hl 0)) ?_))
      refine bodyPost_ret (v := .agg (natCells (hl 0))) (results_cell_row Try.results58 _ _ w.heap.size 79 (natCells (hl 0)) (0, 0) _ rfl (Row.setRow HZ.out _) Try.underlying79 rfl HSZ.out) rfl ⟨rfl, below_setRow HB.out (Nat.le_refl _) _⟩
    · obtain ⟨i, rfl⟩ : ∃ i, k = i + 1 := ⟨k - 1, by omega⟩
      have HH := Lib.hid (hq_root i (by omega))
      have hb := hq_bd i (by omega)
      have HS := Lib.hid (hl_step i (by omega))
      have HC := Lib.hid (hc_bd i (by omega))
      have f0 := h2.free (i * 2)
      have f1 := h2.free (i * 2 + 1)
      have g0 := nat_at h2 (i * 2) (by rw [hl_length]; omega)
      have g1 := nat_at h2 (i * 2 + 1) (by rw [hl_length]; omega)
      obtain ⟨h, hh⟩ : ∃ h, hq (i + 1) = h := ⟨_, rfl⟩
      rw [hh] at HH hb
      have HHH := Lib.hid hh
      clear hh h1 h2 h3
      rw [show (((i + 1 : Nat) : Int) - 1) = (i : Int) by omega, HHH.out]
      have hz := pair_zero wr
      go_wp2_with fail
      rw [show (1073741824 + (h : Int)) * 536870912 = (((1073741824 + h) * 536870912 : Nat) : Int) by omega]
      refine (root_any _ _ (by omega)).mono ?_
      rintro e w' ⟨rfl, rfl⟩
      rw [HH.out.1]
      go_wp2_with fail
      rw [show (1073741824 - (h : Int)) * 536870912 = (((1073741824 - h) * 536870912 : Nat) : Int) by omega]
      refine (root_any _ _ (by omega)).mono ?_
      rintro e w' ⟨rfl, rfl⟩
      rw [HH.out.2]
      go_wp2
      go_roundw
      case rel =>
        refine ⟨i, by omega, by go_num, ?_, ?_, ?_, ?_⟩
        · unfold hq
          rw [if_neg (by omega)]
        · exact (HZ.out.far (p := ⟨w.heap.size + 1, i * 2, none⟩) (by simp) _).far (p := ⟨w.heap.size + 1, i * 2 + 1, none⟩) (by simp) _
        · rw [← HS.out, ← natCells_set, ← natCells_set, Nat.mul_comm 2 i]
          exact (HR.out.set _ _).set _ _
        · exact (HB.out.setCell (p := ⟨w.heap.size + 1, i * 2, none⟩) (by simp) _).setCell (p := ⟨w.heap.size + 1, i * 2 + 1, none⟩) (by simp) _
      case measure => simp [intOf]
end Go.Proofs.Ytpfdjddjoclldaa
