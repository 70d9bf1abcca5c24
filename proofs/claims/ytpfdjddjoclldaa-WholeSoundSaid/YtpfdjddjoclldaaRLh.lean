/-
  lap's blocks; a slice of blocks made. Conditions: up to 4096 blocks; samples as they lie.
-/
import Derived.Test.YtpfdjddjoclldaaRLb
import Derived.Laws.MakeOwn
namespace Go.Proofs.Ytpfdjddjoclldaa
open Go.RowKit
open M
/-- Samples as far as they are laid. -/
def padk (l : List Int) (k : Nat) : List Int := (List.range (32 * cnt l.length)).map fun p => if p < k then l.getD p 0 else 0
theorem padk_len (l : List Int) (k : Nat) : (padk l k).length = 32 * cnt l.length := tb_len _ _
theorem padk_zero (l : List Int) : padk l 0 = List.replicate (32 * cnt l.length) 0 := by
  unfold padk
  rw [tb_congr _ _ (fun _ => (0 : Int)) (fun i _ => if_neg (by omega)), List.map_const', List.length_range]
theorem padk_full (l : List Int) : padk l l.length = padd l := tb_congr _ _ _ fun p _ => by
  by_cases h : p < l.length
  · rw [if_pos h]
  · rw [if_neg h, List.getD_eq_getElem?_getD, List.getElem?_eq_none (by omega)]
    rfl
theorem padk_step (l : List Int) (k : Nat) : (padk l k).set k (l.getD k 0) = padk l (k + 1) := by
  unfold padk
  refine rng_set _ _ _ _ _ ?_ ?_
  · rw [if_pos (by omega)]
  · intro i _ hne
    by_cases e : i < k
    · rw [if_pos e, if_pos (by omega)]
    · rw [if_neg e, if_neg (by omega)]
theorem frame_bytes : (Try.prog.info? 52).map (fun i => (i.zero, i.size, i.bytes)) = some (some (.agg (iCells f0)), 32, 256) := by kernel_rfl
theorem iCells_zeros (m : Nat) : madeCells (iCells f0) m = iCells (List.replicate m 0) := by
  apply Array.ext (by rw [size_madeCells, iCells_size, List.length_replicate])
  intro i h1 h2
  rw [size_madeCells] at h1
  have e : ∀ j, j < 32 → (iCells f0)[j]! = .int .i64 0 := fun j hj => by
    have hj2 : j < (iCells f0).size := by rw [iCells_size, f0_length]; exact hj
    have h0 : f0.getD j 0 = 0 := by rw [f0, List.getD_eq_getElem?_getD, List.getElem?_replicate, if_pos hj]; rfl
    have hg := iCells_get f0 j (by rw [f0_length]; exact hj)
    rw [h0, Array.getElem?_eq_getElem hj2, Option.some.injEq] at hg
    rw [getElem!_pos (iCells f0) j hj2, hg]
  have hs : (iCells f0).size = 32 := by rw [iCells_size, f0_length]
  have h3 : (madeCells (iCells f0) m)[i]'(by rw [size_madeCells]; exact h1) = (iCells f0)[i % (iCells f0).size]! := by simp only [madeCells, Array.getElem_map, Array.getElem_range]
  rw [h3, hs, e _ (Nat.mod_lt _ (by omega))]
  simp [iCells]
/-- A slice of n frames made. -/
theorem make_frames (n : Nat) (hn : n ≤ 1099511627776) (w : World) : (Instr.makeSlice 36 (.int .i64 (n : Int)) (.int .i64 (n : Int))).run Try.prog w = .ok (.slice (some ⟨w.heap.size, 0, none⟩) n n) (w.alloc (.cells (iCells (List.replicate (32 * n) 0)) 52)) := by
  obtain ⟨i, hi, hzz⟩ := Option.map_eq_some_iff.1 frame_bytes
  simp only [Prod.mk.injEq] at hzz
  obtain ⟨hz, hs, hb⟩ := hzz
  have hr := run_make (P := Try.prog) w 36 52 i _ Try.underlying36 hi hz .i64 .i64 n n (by omega) (Int.le_refl _) (by rw [hb]; omega) (by omega)
  rw [hs] at hr
  simp only [Int.toNat_natCast, Value.cells, iCells_zeros, Nat.mul_comm n 32] at hr
  exact hr
set_option maxRecDepth 100000 in
set_option maxHeartbeats 1000000 in
theorem blocks_any (l : List Int) (v : Value) (w : World) (hv : IntsAt w v l) (hl : cnt l.length ≤ 4096) :
    Calls Try.prog 27 #[v] w fun e w' => (∃ g, w.heap.size ≤ g ∧ e = .returned (.slice (some ⟨g, 0, none⟩) (cnt l.length) (cnt l.length)) ∧ Row w' g 52 (iCells (padd l))) ∧ Below w.heap.size w w' := by
  obtain ⟨a, cap, rfl, hcell⟩ := hv
  have HCT := fun w => count_any l.length w (by unfold cnt at hl; omega)
  have hmk := fun w => make_frames (cnt l.length) (by omega) w
  have HS := Lib.hid (padk_step l)
  have HZ := Lib.hid (padk_zero l)
  have HF := Lib.hid (padk_full l)
  have HN := Lib.hid (padk_len l)
  have hLN : l.length ≤ 32 * cnt l.length := by unfold cnt; omega
  have hLB : l.length ≤ 131072 := by unfold cnt at hl; omega
  obtain ⟨L, hL⟩ : ∃ L, l.length = L := ⟨_, rfl⟩
  rw [hL] at hcell HCT hmk HZ HF HN hLN hLB ⊢
  rw [hL] at hl
  obtain ⟨n, hn⟩ : ∃ n, cnt L = n := ⟨_, rfl⟩
  rw [hn] at HCT hmk HZ HN hLN hl ⊢
  clear hn
  have HR0 : Hid (Row (w.alloc (.cells (iCells (List.replicate (32 * n) 0)) 52)) w.heap.size 52 (iCells (padk l 0))) := by
    rw [HZ.out]; exact heap_alloc_new _ _
  go_enter Try.func27, Try.ntmps27
  go_wp2_with fail
  refine (HCT w).mono ?_
  rintro e w1 ⟨rfl, rfl⟩
  have hB0 : Hid (Below w1.heap.size w1 (w1.alloc (.cells (iCells (List.replicate (32 * n) 0)) 52))) := Lib.hid ((Below.refl _ _).alloc (Nat.le_refl _) _)
  go_wp2
  clear hmk HCT
  obtain ⟨g, hg⟩ : ∃ g, w1.heap.size = g := ⟨_, rfl⟩
  generalize w1.alloc (.cells (iCells (List.replicate (32 * n) 0)) 52) = w2 at *
  rw [hg] at HR0 hB0 hcell ⊢
  have HG := Lib.hid fun _ : Unit => hg
  clear hg HZ
  go_loopw [12] (fun ii wr => ∃ k : Nat, k ≤ L ∧ ii = .int .i64 k ∧ Row wr g 52 (iCells (padk l k)) ∧ Below g w1 wr) (fun ii _ => L - (intOf ii).toNat)
  case atStart => exact ⟨0, by omega, rfl, HR0.out, hB0.out⟩
  case round =>
    clear HR0 hB0
    obtain ⟨k, hk, rfl, h1, h2⟩ := hrel
    have HR := Lib.hid h1
    have HB := Lib.hid h2
    clear h1 h2
    rcases Nat.lt_or_ge k L with hlt | hge
    · obtain ⟨b, off, rfl, hbs, hcs⟩ := hcell (by omega)
      have c0 := (HB.out.cell (p := ⟨b, off + k, none⟩) hbs).trans (hcs k hlt)
      have HST := Lib.hid (HS.out k)
      obtain ⟨x, hx⟩ : ∃ x, l.getD k 0 = x := ⟨_, rfl⟩
      rw [hx] at c0 HST
      have hkN := (HN.out k)
      obtain ⟨q, hq⟩ : ∃ q : Nat, k / 32 = q := ⟨_, rfl⟩
      obtain ⟨r, hr⟩ : ∃ r : Nat, k % 32 = r := ⟨_, rfl⟩
      have e1 : (k : Int).tdiv 32 = (q : Int) := by rw [Int.tdiv_eq_ediv_of_nonneg (by omega)]; omega
      have e2 : (k : Int).tmod 32 = (r : Int) := by rw [Int.tmod_eq_emod_of_nonneg (by omega)]; omega
      have e3 : (k : Int) / 32 = (q : Int) := by omega
      have e4 : (k : Int) % 32 = (r : Int) := by omega
      have hqr : q * 32 + r = k := by omega
      have hqn : (q : Int) < (n : Int) := by omega
      have hrn : (r : Int) < 32 := by omega
      have d0 := i_at HR.out k (by rw [hkN]; omega)
      have fr := fun j => HR.out.free j
      clear hx hcs hq hr hkN
      clear hcell
      go_wp2_with fail
      go_roundw
      case rel =>
        refine ⟨k + 1, hlt, by go_num, ?_, HB.out.setCell (p := ⟨g, k, none⟩) (Nat.le_refl _) _⟩
        rw [← HST.out, ← iCells_set]
        exact HR.out.set _ _
      case measure =>
        simp only [intOf]
        omega
    · obtain rfl : k = L := by omega
      have hr := HR.out
      rw [HF.out] at hr
      clear HR hcell
      have HR := Lib.hid hr
      clear hr
      go_wp2_with fail
      go_ret
      exact ⟨⟨g, by rw [HG.out ()]; exact Nat.le_refl _, rfl, HR.out⟩, by rw [HG.out ()]; exact HB.out⟩
end Go.Proofs.Ytpfdjddjoclldaa
