/-
  mask's Far. Conditions: four ints each.
-/
import Derived.Test.YtfpmdbdgikphdaaMla
namespace Go.Proofs.Ytfpmdbdgikphdaa
open Go.RowKit
open M
theorem fyI_no (y z : List Int) (k : Nat) (hk : k < 4) (h : isu17 (y.getD k 0) = false ∨ isu17 (z.getD k 0) = false) : fyI y z = -1 := by
  unfold fyI
  rw [if_neg]
  rintro ⟨h1, h2⟩
  have g1 := (sm_iff y).1 h1 k hk
  have g2 := (sm_iff z).1 h2 k hk
  rcases h with h | h
  · rw [isu17, decide_eq_false_iff_not] at h; exact h g1
  · rw [isu17, decide_eq_false_iff_not] at h; exact h g2
theorem fyI_yes (y z : List Int) (hy : y.length = 4) (hz : z.length = 4) (h : ∀ j, j < 4 → isu17 (y.getD j 0) = true ∧ isu17 (z.getD j 0) = true) : fyI y z = (fr17 y z 4 : Nat) := by
  unfold fyI
  rw [if_pos ⟨(sm_iff y).2 fun j hj => of_decide_eq_true (h j hj).1, (sm_iff z).2 fun j hj => of_decide_eq_true (h j hj).2⟩, fr17_full y z hy hz]
set_option maxRecDepth 100000 in
set_option maxHeartbeats 1000000 in
theorem far17_any (y z : List Int) (w : World) (hy : y.length = 4) (hz : z.length = 4) :
    Calls Try.prog 12 #[.agg (iCells y), .agg (iCells z)] w fun e w' => e = .returned (.int .i64 (fyI y z)) ∧ Below w.heap.size w w' := by
  have HNO := Lib.hid (fyI_no y z)
  have HYES := Lib.hid (fyI_yes y z hy hz)
  obtain ⟨F, hF⟩ : ∃ F, fyI y z = F := ⟨_, rfl⟩
  rw [hF] at HNO HYES ⊢
  have HYL := Lib.hid hy
  have HZL := Lib.hid hz
  have HR0 : Hid (Row ((w.alloc (.cells (iCells y) 42)).alloc (.cells (iCells z) 42)) w.heap.size 42 (iCells y)) := Lib.hid (heap_alloc2_old _ _ _)
  have HR1 : Hid (Row ((w.alloc (.cells (iCells y) 42)).alloc (.cells (iCells z) 42)) (w.heap.size + 1) 42 (iCells z)) := Lib.hid (heap_alloc2_new _ _ _)
  have HB : Hid (Below w.heap.size w ((w.alloc (.cells (iCells y) 42)).alloc (.cells (iCells z) 42))) := Lib.hid (((Below.refl _ _).alloc (Nat.le_refl _) _).alloc (by simp) _)
  clear hy hz hF
  go_enter Try.func12, Try.ntmps12
  go_wp2_with fail
  generalize (w.alloc (.cells (iCells y) 42)).alloc (.cells (iCells z) 42) = w1 at *
  obtain ⟨g, hg⟩ : ∃ g, w.heap.size = g := ⟨_, rfl⟩
  rw [hg] at HR0 HR1 HB
  rw [hg]
  have HG := Lib.hid fun _ : Unit => hg
  clear hg
  go_loopw [5, 7] (fun nn ii wr => ∃ (k q : Nat), k ≤ 4 ∧ ii = .int .i64 k ∧ nn = .int .i64 (q : Int) ∧ q = fr17 y z k ∧ q ≤ 2097152 * k ∧ (∀ j, j < k → isu17 (y.getD j 0) = true ∧ isu17 (z.getD j 0) = true) ∧ Row wr g 42 (iCells y) ∧ Row wr (g + 1) 42 (iCells z) ∧ Below g w wr) (fun _ ii _ => 4 - (intOf ii).toNat)
  case atStart => exact ⟨0, 0, by omega, rfl, rfl, rfl, by omega, fun j hj => by omega, HR0.out, HR1.out, HB.out⟩
  case round =>
    clear HR0 HR1 HB
    obtain ⟨k, q, hk, rfl, rfl, hq, hqb, hall, hR0, hR1, hB⟩ := hrel
    have HALL := Lib.hid hall
    have HBB := Lib.hid hB
    clear hall hB
    rcases Nat.lt_or_ge k 4 with hlt | hge
    · have c0 := i_at hR0 k (by rw [HYL.out]; exact hlt)
      have c1 := i_at hR1 k (by rw [HZL.out]; exact hlt)
      have hkI : (k : Int) < 4 := by omega
      have hst : fr17 y z (k + 1) = fr17 y z k + (y.getD k 0 - z.getD k 0).natAbs := rfl
      rw [← hq] at hst
      have HN := Lib.hid (HNO.out k hlt)
      have HS : Hid (isu17 (y.getD k 0) = true → isu17 (z.getD k 0) = true → ∀ j, j < k + 1 → isu17 (y.getD j 0) = true ∧ isu17 (z.getD j 0) = true) := Lib.hid fun h1 h2 j hj => by
        rcases Nat.lt_or_ge j k with h | h
        · exact HALL.out j h
        · obtain rfl : j = k := by omega
          exact ⟨h1, h2⟩
      obtain ⟨a, ha⟩ : ∃ a, y.getD k 0 = a := ⟨_, rfl⟩
      obtain ⟨b, hb⟩ : ∃ b, z.getD k 0 = b := ⟨_, rfl⟩
      rw [ha, hb] at hst HN HS
      rw [ha] at c0
      rw [hb] at c1
      have HJ := Lib.hid hlt
      have HQ0 := Lib.hid hqb
      have HR0 := Lib.hid hR0
      have HR1 := Lib.hid hR1
      have HST := Lib.hid hst
      clear hst hqb hlt hq ha hb hR0 hR1 HALL hk
      go_wp2_with fail
      refine (ispulse_any a _).mono ?_
      rintro e w2 ⟨rfl, rfl⟩
      cases hp : isu17 a
      · have HF := Lib.hid (HN.out (Or.inl hp))
        clear hp HN HS
        go_wp2_with fail
        go_ret
        exact ⟨by rw [HF.out]; rfl, by rw [HG.out ()]; exact HBB.out⟩
      · go_wp2_with fail
        refine (ispulse_any b _).mono ?_
        rintro e w3 ⟨rfl, rfl⟩
        cases hp2 : isu17 b
        · have HF := Lib.hid (HN.out (Or.inr hp2))
          clear hp hp2 HN HS
          go_wp2_with fail
          go_ret
          exact ⟨by rw [HF.out]; rfl, by rw [HG.out ()]; exact HBB.out⟩
        · have HSS := Lib.hid (HS.out hp hp2)
          have b1 : -1048576 ≤ a ∧ a ≤ 1048576 := of_decide_eq_true hp
          have b2 : -1048576 ≤ b ∧ b ≤ 1048576 := of_decide_eq_true hp2
          obtain ⟨b1l, b1u⟩ := b1
          obtain ⟨b2l, b2u⟩ := b2
          obtain ⟨r, hr⟩ : ∃ r, a - b = r := ⟨_, rfl⟩
          obtain ⟨r2, hr2⟩ : ∃ r, b - a = r := ⟨_, rfl⟩
          obtain ⟨t, ht⟩ : ∃ t, r.natAbs = t := ⟨_, rfl⟩
          have hnx := HST.out
          rw [hr, ht] at hnx
          have hq0 := HQ0.out
          have hkk := HJ.out
          have HMX := Lib.hid (show (if r < r2 then r2 else r) = (t : Int) by split <;> omega)
          have HQN := Lib.hid hnx.symm
          have HQB := Lib.hid (show q + t ≤ 2097152 * (k + 1) by omega)
          have HWQ := Lib.hid (show wrap64 ((q : Int) + (t : Int)) = ((q + t : Nat) : Int) by rw [wrap64]; omega)
          have hrb : -9223372036854775808 ≤ r ∧ r ≤ 9223372036854775807 := by omega
          obtain ⟨hrl, hru⟩ := hrb
          clear hp hp2 HN HS HST HQ0 hq0 hkk hnx ht
          go_wp2_with fail
          go_region
          rw [HMX.out, HWQ.out]
          have HR0 := Lib.hid (show Row w3.drew g 42 (iCells y) from HR0.out)
          have HR1 := Lib.hid (show Row w3.drew (g + 1) 42 (iCells z) from HR1.out)
          have HBB := Lib.hid (below_drew1 HBB.out)
          clear c0 c1
          generalize w3.drew = w5 at *
          go_wp2_with fail
          go_roundw
          case rel => exact ⟨k + 1, q + t, HJ.out, by go_num, rfl, HQN.out, HQB.out, HSS.out, HR0.out, HR1.out, HBB.out⟩
          case measure =>
            have := HJ.out
            simp [intOf] <;> omega
    · obtain rfl : k = 4 := by omega
      have HQ := Lib.hid (hq.trans rfl)
      have HF := Lib.hid (HYES.out HALL.out)
      clear hR0 hR1 hk hge hqb HALL
      go_wp2_with fail
      go_ret
      exact ⟨by rw [HF.out, ← hq]; rfl, by rw [HG.out ()]; exact HBB.out⟩
end Go.Proofs.Ytfpmdbdgikphdaa
