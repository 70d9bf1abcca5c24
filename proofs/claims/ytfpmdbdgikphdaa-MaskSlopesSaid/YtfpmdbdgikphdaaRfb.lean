/-
  The reference's Right and Far of layer 17 (Great: Rfg; Budget: Rfc). Conditions: those that each fact names.
-/
import Derived.Test.YtfpmdbdgikphdaaGag
import Derived.Test.YtfpmdbdgikphdaaYos
import Derived.Test.YtfpmdbdgikphdaaDi
import Derived.Test.YtfpmdbdgikphdaaTi
import Derived.StillTailTactics
import Derived.Deep.Cut
namespace Go.Proofs.Ytfpmdbdgikphdaa
open Go.RowKit
open M
/-- Are all steps right? -/
def rt17 (l : List Int) : Bool := (List.range 8).all fun j => decide (0 ≤ l.getD j 0 ∧ l.getD j 0 ≤ 15)
/-- Is none of four too great? -/
def sm17 (l : List Int) : Bool := (List.range 4).all fun j => decide (-1048576 ≤ l.getD j 0 ∧ l.getD j 0 ≤ 1048576)
theorem rt_iff (l : List Int) : rt17 l = true ↔ ∀ j, j < 8 → 0 ≤ l.getD j 0 ∧ l.getD j 0 ≤ 15 := by
  unfold rt17
  rw [List.all_eq_true]
  exact ⟨fun h j hj => of_decide_eq_true (h j (List.mem_range.2 hj)), fun h j hj => decide_eq_true (h j (List.mem_range.1 hj))⟩
theorem sm_iff (l : List Int) : sm17 l = true ↔ ∀ j, j < 4 → -1048576 ≤ l.getD j 0 ∧ l.getD j 0 ≤ 1048576 := by
  unfold sm17
  rw [List.all_eq_true]
  exact ⟨fun h j hj => of_decide_eq_true (h j (List.mem_range.2 hj)), fun h j hj => decide_eq_true (h j (List.mem_range.1 hj))⟩
theorem b_no {b : Bool} {P : Prop} (h : b = true ↔ P) (k : ¬ P) : b = false := by
  cases b
  · rfl
  · exact absurd (h.1 rfl) k
set_option maxRecDepth 100000 in
theorem rright_any (l : List Int) (w : World) (hl : l.length = 8) :
    Calls Try.prog 16 #[.agg (iCells l)] w fun e w' => e = .returned (.bool (rt17 l)) ∧ Below w.heap.size w w' := by
  have HL := Lib.hid hl
  have HR : Hid (Row (w.alloc (.cells (iCells l) 22)) w.heap.size 22 (iCells l)) := Lib.hid (heap_alloc_new _ _)
  have HB : Hid (Below w.heap.size w (w.alloc (.cells (iCells l) 22))) := Lib.hid ((Below.refl _ _).alloc (Nat.le_refl _) _)
  have HY := Lib.hid fun h => (rt_iff l).2 h
  have HN := Lib.hid fun h => b_no (rt_iff l) h
  clear hl
  go_enter Try.func16, Try.ntmps16
  go_wp2_with fail
  generalize w.alloc (.cells (iCells l) 22) = w1 at *
  obtain ⟨g, hg⟩ : ∃ g, w.heap.size = g := ⟨_, rfl⟩
  rw [hg] at HR
  rw [hg]
  clear hg
  go_loop [3] (fun ii => ∃ (k : Nat), k ≤ 8 ∧ ii = .int .i64 k ∧ ∀ j, j < k → 0 ≤ l.getD j 0 ∧ l.getD j 0 ≤ 15) (fun ii => 8 - (intOf ii).toNat)
  case atStart => exact ⟨0, by omega, rfl, fun j hj => by omega⟩
  case round =>
    obtain ⟨k, hk, rfl, hall⟩ := hrel
    rcases Nat.lt_or_ge k 8 with hlt | hge
    · have c0 := i_at HR.out k (by rw [HL.out]; exact hlt)
      have hkI : (k : Int) < 8 := by omega
      obtain ⟨x, hx⟩ : ∃ x, l.getD k 0 = x := ⟨_, rfl⟩
      rw [hx] at c0
      have HX := Lib.hid fun _ : Unit => hx
      have HA := Lib.hid hall
      have HK := Lib.hid hlt
      clear hk hlt hx hall
      by_cases h1 : x < 0
      · have HF := Lib.hid (HN.out fun h => by have := h k HK.out; rw [HX.out ()] at this; omega)
        go_wp2_with fail
        go_ret
        exact ⟨by rw [HF.out]; rfl, HB.out⟩
      · by_cases h2 : x > 15
        · have HF := Lib.hid (HN.out fun h => by have := h k HK.out; rw [HX.out ()] at this; omega)
          go_wp2_with fail
          go_ret
          exact ⟨by rw [HF.out]; rfl, HB.out⟩
        · have HXX := Lib.hid (show 0 ≤ x ∧ x ≤ 15 by omega)
          go_wp2_with fail
          go_round
          case rel => exact ⟨k + 1, HK.out, by go_num, fun j hj => by
            rcases Nat.lt_or_ge j k with h | h
            · exact HA.out j h
            · obtain rfl : j = k := by omega
              rw [HX.out ()]; exact HXX.out⟩
          case measure =>
            have := HK.out
            simp [intOf] <;> omega
    · obtain rfl : k = 8 := by omega
      have HF := Lib.hid (HY.out hall)
      clear hk hge hall
      go_wp2_with fail
      go_ret
      exact ⟨by rw [HF.out]; rfl, HB.out⟩
/-- How far, as far as k. -/
def fr17 (y z : List Int) : Nat → Nat
  | 0 => 0
  | k + 1 => fr17 y z k + (y.getD k 0 - z.getD k 0).natAbs
theorem fr17_full (y z : List Int) (hy : y.length = 4) (hz : z.length = 4) : fr17 y z 4 = farL y z := by
  match y, hy, z, hz with
  | [a, b, c, d], _, [e, f, g, h], _ =>
    show 0 + (a - e).natAbs + (b - f).natAbs + (c - g).natAbs + (d - h).natAbs = (a - e).natAbs + ((b - f).natAbs + ((c - g).natAbs + ((d - h).natAbs + 0)))
    omega
set_option maxRecDepth 100000 in
set_option maxHeartbeats 1000000 in
theorem rfar_any (y z : List Int) (w : World) (hy : y.length = 4) (hz : z.length = 4) (h1 : ∀ j, j < 4 → -1048576 ≤ y.getD j 0 ∧ y.getD j 0 ≤ 1048576) (h2 : ∀ j, j < 4 → -1048576 ≤ z.getD j 0 ∧ z.getD j 0 ≤ 1048576) :
    Calls Try.prog 15 #[.agg (iCells y), .agg (iCells z)] w fun e w' => e = .returned (.int .i64 (farL y z : Nat)) ∧ Below w.heap.size w w' := by
  have HF := Lib.hid (fr17_full y z hy hz)
  have H1 := Lib.hid h1
  have H2 := Lib.hid h2
  have HYL := Lib.hid hy
  have HZL := Lib.hid hz
  have HR0 : Hid (Row ((w.alloc (.cells (iCells y) 29)).alloc (.cells (iCells z) 29)) w.heap.size 29 (iCells y)) := Lib.hid (heap_alloc2_old _ _ _)
  have HR1 : Hid (Row ((w.alloc (.cells (iCells y) 29)).alloc (.cells (iCells z) 29)) (w.heap.size + 1) 29 (iCells z)) := Lib.hid (heap_alloc2_new _ _ _)
  have HB : Hid (Below w.heap.size w ((w.alloc (.cells (iCells y) 29)).alloc (.cells (iCells z) 29))) := Lib.hid (((Below.refl _ _).alloc (Nat.le_refl _) _).alloc (by simp) _)
  clear h1 h2 hy hz
  go_enter Try.func15, Try.ntmps15
  go_wp2_with fail
  generalize (w.alloc (.cells (iCells y) 29)).alloc (.cells (iCells z) 29) = w1 at *
  obtain ⟨g, hg⟩ : ∃ g, w.heap.size = g := ⟨_, rfl⟩
  rw [hg] at HR0 HR1
  rw [hg]
  clear hg
  go_loopw [5, 6] (fun nn ii wr => ∃ (k q : Nat), k ≤ 4 ∧ ii = .int .i64 k ∧ nn = .int .i64 (q : Int) ∧ q = fr17 y z k ∧ q ≤ 2097152 * k ∧ Row wr g 29 (iCells y) ∧ Row wr (g + 1) 29 (iCells z) ∧ Below w.heap.size w wr) (fun _ ii _ => 4 - (intOf ii).toNat)
  case atStart => exact ⟨0, 0, by omega, rfl, rfl, rfl, by omega, HR0.out, HR1.out, HB.out⟩
  case round =>
    clear HR0 HR1 HB
    obtain ⟨k, q, hk, rfl, rfl, hq, hqb, hR0, hR1, hB⟩ := hrel
    rcases Nat.lt_or_ge k 4 with hlt | hge
    · have c0 := i_at hR0 k (by rw [HYL.out]; exact hlt)
      have c1 := i_at hR1 k (by rw [HZL.out]; exact hlt)
      have hkI : (k : Int) < 4 := by omega
      have b1 := H1.out k hlt
      have b2 := H2.out k hlt
      have hst : fr17 y z (k + 1) = fr17 y z k + (y.getD k 0 - z.getD k 0).natAbs := rfl
      rw [← hq] at hst
      obtain ⟨a, ha⟩ : ∃ a, y.getD k 0 = a := ⟨_, rfl⟩
      obtain ⟨b, hb⟩ : ∃ b, z.getD k 0 = b := ⟨_, rfl⟩
      rw [ha, hb] at hst
      rw [ha] at c0 b1
      rw [hb] at c1 b2
      obtain ⟨r, hr⟩ : ∃ r, a - b = r := ⟨_, rfl⟩
      rw [hr] at hst
      have RS := fun w => rsize_any r w (by omega) (by omega)
      obtain ⟨t, ht⟩ : ∃ t, r.natAbs = t := ⟨_, rfl⟩
      rw [ht] at RS hst
      have htb : t ≤ 2097152 := by omega
      have e2 : IntKind.i64.wrap (a - b) = r := by rw [hr]; exact wi_id _ (by omega) (by omega)
      obtain ⟨q2, hq2⟩ : ∃ q2, q + t = q2 := ⟨_, rfl⟩
      rw [hq2] at hst
      have e4 : IntKind.i64.wrap ((q : Int) + (t : Int)) = (q2 : Int) := by rw [wi_id _ (by omega) (by omega)]; omega
      have HQ := Lib.hid hst.symm
      have HQB := Lib.hid (show q2 ≤ 2097152 * (k + 1) by omega)
      have HJ := Lib.hid hlt
      have HR0 := Lib.hid (show Row wr.drew g 29 (iCells y) from hR0)
      have HR1 := Lib.hid (show Row wr.drew (g + 1) 29 (iCells z) from hR1)
      have HB := Lib.hid (below_drew1 hB)
      clear hst hq2 ht hr ha hb hR0 hR1 hB hk b1 b2 hq hqb htb hlt
      go_wp2_with fail
      refine wp_region_still_tail 10 (by kernel_rfl) (by kernel_rfl) ?_
      simp only [List.take_succ_cons, List.take_zero, List.drop_succ_cons, List.drop_zero]
      repeat still_step
      still_call (RS _)
      repeat still_step
      refine wpStill_nil ?_
      change wpList _ _ _ _ _ wr.drew
      clear c0 c1 RS e2 e4
      generalize wr.drew = w5 at *
      go_wp2_with fail
      go_roundw
      case rel => exact ⟨k + 1, q2, HJ.out, by go_num, rfl, HQ.out, HQB.out, HR0.out, HR1.out, HB.out⟩
      case measure =>
        have := HJ.out
        simp [intOf] <;> omega
    · obtain rfl : k = 4 := by omega
      have HQ := Lib.hid (hq.trans HF.out)
      have HB := Lib.hid hB
      clear hR0 hR1 hB hk hge hq hqb
      go_wp2_with fail
      go_ret
      exact ⟨by rw [← HQ.out]; rfl, HB.out⟩
end Go.Proofs.Ytfpmdbdgikphdaa
