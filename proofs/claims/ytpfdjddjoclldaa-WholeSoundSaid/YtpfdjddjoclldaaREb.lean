/-
  lift's begin: what stands ahead of a turn's first step. Conditions: an int each.
-/
import Derived.Test.YtpfdjddjoclldaaREa
namespace Go.Proofs.Ytpfdjddjoclldaa
open Go.RowKit
open M
/-- A turn's six numbers, as they lie. -/
def tc (a b p q s n : Int) : Array Value := #[.int .i64 a, .int .i64 b, .int .i64 p, .int .i64 q, .int .i64 s, .int .i64 n]
/-- The angle whose factors are taken; the way that its steps go; the quarters behind them. -/
def bgR (k : Int) : Nat := if ang k % 128 ≤ 64 then ang k % 128 else 128 - ang k % 128
def bgS (k : Int) : Int := if ang k % 128 ≤ 64 then 1 else -1
def bgN (k : Int) : Nat := if ang k % 128 ≤ 64 then ang k / 128 else ang k / 128 + 1
def bgF (k : Int) : Int × Int := fac9.getD (bgR k) (0, 0)
theorem bgR_bd (k : Int) : bgR k ≤ 64 := by unfold bgR; split <;> omega
theorem bgN_bd (k : Int) : bgN k ≤ 4 := by have := ang_lt k; unfold bgN; split <;> omega
theorem bgS_or (k : Int) : bgS k = 1 ∨ bgS k = -1 := by unfold bgS; split <;> simp
theorem bgF_bd (k : Int) : 0 ≤ (bgF k).1 ∧ (bgF k).1 ≤ 32768 ∧ 0 ≤ (bgF k).2 ∧ (bgF k).2 ≤ 32768 := by
  unfold bgF
  rw [← facG_nat _ (bgR_bd k)]
  exact facG_bd _
theorem tc_cell {w : World} {g : Nat} {a b p q s n : Int} (h : Row w g 71 (tc a b p q s n)) :
    w.cell? ⟨g, 0, none⟩ = some (.int .i64 a) ∧ w.cell? ⟨g, 1, none⟩ = some (.int .i64 b) ∧ w.cell? ⟨g, 2, none⟩ = some (.int .i64 p) ∧ w.cell? ⟨g, 3, none⟩ = some (.int .i64 q) ∧ w.cell? ⟨g, 4, none⟩ = some (.int .i64 s) ∧ w.cell? ⟨g, 5, none⟩ = some (.int .i64 n) :=
  ⟨cell_of_row w g 0 _ _ (0, 0) h, cell_of_row w g 1 _ _ (0, 0) h, cell_of_row w g 2 _ _ (0, 0) h, cell_of_row w g 3 _ _ (0, 0) h, cell_of_row w g 4 _ _ (0, 0) h, cell_of_row w g 5 _ _ (0, 0) h⟩
theorem row_tc {w : World} {g : Nat} {a b p q s n a0 b0 p0 q0 s0 n0 : Int} (h : Row w g 71 (tc a0 b0 p0 q0 s0 n0)) :
    Row ((((((w.setCell ⟨g, 0, none⟩ (.int .i64 a)).setCell ⟨g, 1, none⟩ (.int .i64 b)).setCell ⟨g, 2, none⟩ (.int .i64 p)).setCell ⟨g, 3, none⟩ (.int .i64 q)).setCell ⟨g, 4, none⟩ (.int .i64 s)).setCell ⟨g, 5, none⟩ (.int .i64 n)) g 71 (tc a b p q s n) :=
  (((((h.set 0 (.int .i64 a)).set 1 (.int .i64 b)).set 2 (.int .i64 p)).set 3 (.int .i64 q)).set 4 (.int .i64 s)).set 5 (.int .i64 n)
theorem below_tc {B g : Nat} {w0 w : World} {a b p q s n : Value} (h : Below B w0 w) (hg : B ≤ g) :
    Below B w0 ((((((w.setCell ⟨g, 0, none⟩ a).setCell ⟨g, 1, none⟩ b).setCell ⟨g, 2, none⟩ p).setCell ⟨g, 3, none⟩ q).setCell ⟨g, 4, none⟩ s).setCell ⟨g, 5, none⟩ n) :=
  (((((h.setCell (p := ⟨g, 0, none⟩) hg a).setCell (p := ⟨g, 1, none⟩) hg b).setCell (p := ⟨g, 2, none⟩) hg p).setCell (p := ⟨g, 3, none⟩) hg q).setCell (p := ⟨g, 4, none⟩) hg s).setCell (p := ⟨g, 5, none⟩) hg n
theorem tc_size (a b p q s n : Int) : (Try.prog.info? 71).map (·.size) = some (tc a b p q s n).size := by
  show _ = some 6
  kernel_rfl
set_option maxRecDepth 100000 in
theorem begin_any (a b k : Int) (w : World) (hk1 : -9223372036854775808 ≤ k) (hk2 : k ≤ 9223372036854775807) :
    Calls Try.prog 49 #[.int .i64 a, .int .i64 b, .int .i64 k] w fun e w' => e = .returned (.agg (tc a b (bgF k).1 (bgF k).2 (bgS k) (bgN k : Nat))) ∧ Below w.heap.size w w' := by
  have HA := Lib.hid (and511 k hk1 hk2)
  have hm := ang_lt k
  have HR : Hid (bgR k = if ang k % 128 ≤ 64 then ang k % 128 else 128 - ang k % 128) := rfl
  have HS : Hid (bgS k = if ang k % 128 ≤ 64 then 1 else -1) := rfl
  have HN : Hid (bgN k = if ang k % 128 ≤ 64 then ang k / 128 else ang k / 128 + 1) := rfl
  have HF : Hid (bgF k = facG (bgR k)) := (facG_nat _ (bgR_bd k)).symm
  obtain ⟨m, hmm⟩ : ∃ m, ang k = m := ⟨_, rfl⟩
  rw [hmm] at HA hm HR HS HN
  obtain ⟨r, hr⟩ : ∃ r, m % 128 = r := ⟨_, rfl⟩
  obtain ⟨t, ht⟩ : ∃ t, m / 128 = t := ⟨_, rfl⟩
  have hrI : ((m : Int) % 128) = (r : Int) := by omega
  have htI : ((m : Int) / 128) = (t : Int) := by omega
  have HRI := Lib.hid hrI
  have HTI := Lib.hid htI
  have hrb : r < 128 := by omega
  have htb : t < 4 := by omega
  rw [hr] at HR HS HN
  rw [ht] at HN
  clear hr ht hmm hk1 hk2 hrI htI
  by_cases h64 : r ≤ 64
  · have HR1 : Hid (bgR k = r) := by unfold Hid; rw [HR.out, if_pos h64]
    have HS1 : Hid (bgS k = 1) := by unfold Hid; rw [HS.out, if_pos h64]
    have HN1 : Hid (bgN k = t) := by unfold Hid; rw [HN.out, if_pos h64]
    rw [HR1.out] at HF
    clear HR HS HN HR1
    obtain ⟨F, hF⟩ : ∃ F, facG r = F := ⟨_, rfl⟩
    rw [hF] at HF
    have HFF := Lib.hid hF
    clear hF
    obtain ⟨p, q⟩ := F
    have hA := HA.out
    have hrI := HRI.out
    have htI := HTI.out
    go_enter Try.func49, Try.ntmps49
    go_wp2_with fail
    have HR0 : Hid (Row ((w.alloc (.cells (tc 0 0 0 0 0 0) 71)).alloc (.cells (tc a b 0 0 1 t) 71)) w.heap.size 71 (tc 0 0 0 0 0 0)) := heap_alloc2_old _ _ _
    have HR1 : Hid (Row ((w.alloc (.cells (tc 0 0 0 0 0 0) 71)).alloc (.cells (tc a b 0 0 1 t) 71)) (w.heap.size + 1) 71 (tc a b 0 0 1 t)) := heap_alloc2_new _ _ _
    have HB0 : Hid (Below w.heap.size w ((w.alloc (.cells (tc 0 0 0 0 0 0) 71)).alloc (.cells (tc a b 0 0 1 t) 71))) := ((Below.refl _ _).alloc (Nat.le_refl _) _).alloc (by simp) _
    refine (factors_any r _ (by omega) (by omega)).mono ?_
    rintro e w1 ⟨rfl, hb1⟩
    rw [HFF.out]
    have HB1 := Lib.hid (HB0.out.trans (hb1.mono HB0.out.size))
    have hq0 := Row.box HR0.out hb1
    have hq1 := Row.box HR1.out hb1
    have HQ0 := Lib.hid hq0
    clear HB0 HR0 HR1 hb1
    obtain ⟨c0, c1, c2, c3, c4, c5⟩ := tc_cell hq1
    obtain ⟨d0, d1, d2, d3, d4, d5⟩ := tc_cell hq0
    have f2 := hq1.free 2
    have f3 := hq1.free 3
    have e0 := fun i => hq0.free i
    clear hq0 hq1
    go_wp2
    have h5 : Row ((w1.setCell ⟨w.heap.size + 1, 2, none⟩ (.int .i64 p)).setCell ⟨w.heap.size + 1, 3, none⟩ (.int .i64 q)) w.heap.size 71 (tc 0 0 0 0 0 0) := (HQ0.out.far (p := ⟨w.heap.size + 1, 2, none⟩) (by simp) _).far (p := ⟨w.heap.size + 1, 3, none⟩) (by simp) _
    have h6 : Below w.heap.size w ((w1.setCell ⟨w.heap.size + 1, 2, none⟩ (.int .i64 p)).setCell ⟨w.heap.size + 1, 3, none⟩ (.int .i64 q)) := (HB1.out.setCell (p := ⟨w.heap.size + 1, 2, none⟩) (by simp) _).setCell (p := ⟨w.heap.size + 1, 3, none⟩) (by simp) _
    refine bodyPost_ret (v := .agg (tc a b p q 1 t)) (results_cell_row Try.results49 _ _ w.heap.size 71 (tc a b p q 1 t) (0, 0) _ rfl (row_tc h5) Try.underlying71 rfl (tc_size _ _ _ _ _ _)) rfl ⟨?_, below_tc h6 (Nat.le_refl _)⟩
    rw [HF.out, HS1.out, HN1.out]
  · have HR1 : Hid (bgR k = 128 - r) := by unfold Hid; rw [HR.out, if_neg h64]
    have HS1 : Hid (bgS k = -1) := by unfold Hid; rw [HS.out, if_neg h64]
    have HN1 : Hid (bgN k = t + 1) := by unfold Hid; rw [HN.out, if_neg h64]
    rw [HR1.out] at HF
    clear HR HS HN HR1
    obtain ⟨F, hF⟩ : ∃ F, facG (((128 - r : Nat)) : Int) = F := ⟨_, rfl⟩
    rw [hF] at HF
    have HFF := Lib.hid hF
    clear hF
    obtain ⟨p, q⟩ := F
    have hA := HA.out
    have hrI := HRI.out
    have htI := HTI.out
    go_enter Try.func49, Try.ntmps49
    go_wp2_with fail
    rw [show (128 : Int) - (r : Int) = ((128 - r : Nat) : Int) by omega]
    have HR0 : Hid (Row ((w.alloc (.cells (tc 0 0 0 0 0 0) 71)).alloc (.cells (tc a b 0 0 (-1) ((t : Int) + 1)) 71)) w.heap.size 71 (tc 0 0 0 0 0 0)) := heap_alloc2_old _ _ _
    have HR1 : Hid (Row ((w.alloc (.cells (tc 0 0 0 0 0 0) 71)).alloc (.cells (tc a b 0 0 (-1) ((t : Int) + 1)) 71)) (w.heap.size + 1) 71 (tc a b 0 0 (-1) ((t : Int) + 1))) := heap_alloc2_new _ _ _
    have HB0 : Hid (Below w.heap.size w ((w.alloc (.cells (tc 0 0 0 0 0 0) 71)).alloc (.cells (tc a b 0 0 (-1) ((t : Int) + 1)) 71))) := ((Below.refl _ _).alloc (Nat.le_refl _) _).alloc (by simp) _
    refine (factors_any (((128 - r : Nat)) : Int) _ (by omega) (by omega)).mono ?_
    rintro e w1 ⟨rfl, hb1⟩
    rw [HFF.out]
    have HB1 := Lib.hid (HB0.out.trans (hb1.mono HB0.out.size))
    have hq0 := Row.box HR0.out hb1
    have hq1 := Row.box HR1.out hb1
    have HQ0 := Lib.hid hq0
    clear HB0 HR0 HR1 hb1
    obtain ⟨c0, c1, c2, c3, c4, c5⟩ := tc_cell hq1
    obtain ⟨d0, d1, d2, d3, d4, d5⟩ := tc_cell hq0
    have f2 := hq1.free 2
    have f3 := hq1.free 3
    have e0 := fun i => hq0.free i
    clear hq0 hq1
    go_wp2
    have h5 : Row ((w1.setCell ⟨w.heap.size + 1, 2, none⟩ (.int .i64 p)).setCell ⟨w.heap.size + 1, 3, none⟩ (.int .i64 q)) w.heap.size 71 (tc 0 0 0 0 0 0) := (HQ0.out.far (p := ⟨w.heap.size + 1, 2, none⟩) (by simp) _).far (p := ⟨w.heap.size + 1, 3, none⟩) (by simp) _
    have h6 : Below w.heap.size w ((w1.setCell ⟨w.heap.size + 1, 2, none⟩ (.int .i64 p)).setCell ⟨w.heap.size + 1, 3, none⟩ (.int .i64 q)) := (HB1.out.setCell (p := ⟨w.heap.size + 1, 2, none⟩) (by simp) _).setCell (p := ⟨w.heap.size + 1, 3, none⟩) (by simp) _
    refine bodyPost_ret (v := .agg (tc a b p q (-1) ((t : Int) + 1))) (results_cell_row Try.results49 _ _ w.heap.size 71 (tc a b p q (-1) ((t : Int) + 1)) (0, 0) _ rfl (row_tc h5) Try.underlying71 rfl (tc_size _ _ _ _ _ _)) rfl ⟨?_, below_tc h6 (Nat.le_refl _)⟩
    rw [HF.out, HS1.out, HN1.out]
    rfl
end Go.Proofs.Ytpfdjddjoclldaa
