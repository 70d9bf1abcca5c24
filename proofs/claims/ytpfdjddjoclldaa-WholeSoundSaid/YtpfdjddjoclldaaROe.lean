/-
  trig's within: the cosine and the sine of an angle below a right one. Conditions: those that each names.
-/
import Derived.Test.YtpfdjddjoclldaaROd
namespace Go.Proofs.Ytpfdjddjoclldaa
open Go.RowKit
open M
theorem mul30 (x : Int) (c : Nat) (h1 : -1073741824 ≤ x) (h2 : x ≤ 1073741824) (h3 : c ≤ 1073741824) : -1152921504606846976 ≤ x * c ∧ x * c ≤ 1152921504606846976 := by
  have a : x * (c : Int) ≤ 1073741824 * (c : Int) := Int.mul_le_mul_of_nonneg_right h2 (by omega)
  have b : -1073741824 * (c : Int) ≤ x * (c : Int) := Int.mul_le_mul_of_nonneg_right h1 (by omega)
  omega
theorem hl_at (j : Nat) (h : j < 7) : (hl 0).getD (j * 2) 0 = hc j ∧ (hl 0).getD (j * 2 + 1) 0 = hs j := by
  have : j = 0 ∨ j = 1 ∨ j = 2 ∨ j = 3 ∨ j = 4 ∨ j = 5 ∨ j = 6 := by omega
  rcases this with rfl | rfl | rfl | rfl | rfl | rfl | rfl <;> decide
set_option maxRecDepth 100000 in
theorem within_any (k : Nat) (w : World) (hk : k < 128) :
    Calls Try.prog 57 #[.agg (natCells (hl 0)), .int .i64 k] w fun e w' => e = .returned (.tuple #[.int .i64 (csN k 7).1, .int .i64 (csN k 7).2]) ∧ Below w.heap.size w w' := by
  have HK := Lib.hid hk
  go_enter Try.func57, Try.ntmps57
  go_wp2
  have HR0 : Hid (Row (w.alloc (.cells (natCells (hl 0)) 79)) w.heap.size 79 (natCells (hl 0))) := heap_alloc_new _ _
  have HB0 : Hid (Below w.heap.size w (w.alloc (.cells (natCells (hl 0)) 79))) := (Below.refl _ _).alloc (Nat.le_refl _) _
  generalize w.alloc (.cells (natCells (hl 0)) 79) = w1 at *
  go_loopw [6, 7, 8] (fun x y i wr => ∃ n : Nat, n ≤ 7 ∧ i = .int .i64 (6 - (n : Int)) ∧ x = .int .i64 (csN k n).1 ∧ y = .int .i64 (csN k n).2 ∧ Row wr w.heap.size 79 (natCells (hl 0)) ∧ Below w.heap.size w wr) (fun _ _ i _ => (intOf i + 1).toNat)
  case atStart => exact ⟨0, by omega, rfl, rfl, rfl, HR0.out, HB0.out⟩
  case round =>
    clear HR0 HB0
    obtain ⟨n, hn, rfl, rfl, rfl, h1, h2⟩ := hrel
    have HR := Lib.hid h1
    have HB := Lib.hid h2
    rcases Nat.lt_or_ge n 7 with hlt | hge
    · obtain ⟨j, hj⟩ : ∃ j, 6 - n = j := ⟨_, rfl⟩
      have hj6 : j ≤ 6 := by omega
      have HCB := Lib.hid (hc_bd j hj6)
      have HNB := Lib.hid (csN_bd k n hk hn)
      have HS : Hid (csN k (n + 1) = if k / 2 ^ j % 2 = 1 then by1 (csN k n) (hc j) (hs j) else csN k n) := by
        unfold Hid hc hs
        rw [show 6 - j = n by omega, ← hj]
        rfl
      have HBW := Lib.hid (bit_walk k j (by omega))
      have HTB : Hid (k.testBit j = decide (k / 2 ^ j % 2 = 1)) := Nat.testBit_eq_decide_div_mod_eq
      have HJ := Lib.hid hj
      rw [show (6 : Int) - (n : Int) = (j : Int) by omega]
      obtain ⟨x, hx⟩ : ∃ x, (csN k n).1 = x := ⟨_, rfl⟩
      obtain ⟨y, hy⟩ : ∃ y, (csN k n).2 = y := ⟨_, rfl⟩
      rw [hx, hy]
      have HX := Lib.hid hx
      have HY := Lib.hid hy
      have g0 := nat_at h1 (j * 2) (by rw [hl_length]; omega)
      have g1 := nat_at h1 (j * 2 + 1) (by rw [hl_length]; omega)
      rw [(hl_at j (by omega)).1] at g0
      rw [(hl_at j (by omega)).2] at g1
      have HLT := Lib.hid hlt
      clear hx hy h1 h2 hlt hj
      go_wp2_with fail
      · have hbit : (bits .and .i64 ((k : Int) / 2 ^ j) 1 == 1) = true := by assumption
        have hone : k / 2 ^ j % 2 = 1 := by
          rw [HBW.out, HTB.out] at hbit
          by_cases e : k / 2 ^ j % 2 = 1
          · exact e
          · rw [decide_eq_false e] at hbit
            exact absurd hbit (by decide)
        have HS1 : Hid (csN k (n + 1) = by1 (x, y) (hc j) (hs j)) := by
          unfold Hid
          rw [HS.out, if_pos hone, ← HX.out, ← HY.out]
        have HC := HCB.out
        have HN := HNB.out
        rw [HX.out, HY.out] at HN
        obtain ⟨c, hc'⟩ : ∃ c, hc j = c := ⟨_, rfl⟩
        obtain ⟨s, hs'⟩ : ∃ s, hs j = s := ⟨_, rfl⟩
        rw [hc', hs'] at HS1 HC
        rw [hc'] at g0
        rw [hs'] at g1
        have m1 := Lib.hid (mul30 x c HN.1 HN.2.1 HC.1)
        have m2 := Lib.hid (mul30 y s HN.2.2.1 HN.2.2.2 HC.2)
        have m3 := Lib.hid (mul30 x s HN.1 HN.2.1 HC.2)
        have m4 := Lib.hid (mul30 y c HN.2.2.1 HN.2.2.2 HC.1)
        clear hbit hone hc' hs' HN HC HS
        go_quiet (fail)
        have HRD := Lib.hid (Row.drewN HR.out nq)
        have HBD := Lib.hid (Below.drewN HB.out nq)
        clear HR HB g0 g1
        generalize wr.drewN nq = wd at *
        have q1 := m1.out
        have q2 := m2.out
        have q3 := m3.out
        have q4 := m4.out
        go_wp2_with fail
        refine (nearest_any _ _ (by omega) (by omega)).mono ?_
        rintro e w' ⟨rfl, rfl⟩
        go_wp2_with fail
        refine (nearest_any _ _ (by omega) (by omega)).mono ?_
        rintro e w' ⟨rfl, rfl⟩
        go_wp2
        go_roundw
        case rel =>
          refine ⟨n + 1, HLT.out, ?_, ?_, ?_, HRD.out, HBD.out⟩
          · have := HJ.out
            have := HLT.out
            exact congrArg (Value.int .i64) (by omega)
          · rw [HS1.out]; rfl
          · rw [HS1.out]; rfl
        case measure => simp [intOf]
      · have hbit : (bits .and .i64 ((k : Int) / 2 ^ j) 1 == 1) = false := by assumption
        have hone : ¬ (k / 2 ^ j % 2 = 1) := by
          intro e
          rw [HBW.out, HTB.out, decide_eq_true e] at hbit
          exact absurd hbit (by decide)
        have HS1 : Hid (csN k (n + 1) = csN k n) := by
          unfold Hid
          rw [HS.out, if_neg hone]
        go_roundw
        case rel =>
          refine ⟨n + 1, HLT.out, ?_, ?_, ?_, HR.out, HB.out⟩
          · have := HJ.out
            have := HLT.out
            exact congrArg (Value.int .i64) (by omega)
          · rw [HS1.out, HX.out]
          · rw [HS1.out, HY.out]
        case measure => simp [intOf]
    · obtain rfl : n = 7 := by omega
      go_wp2
      go_ret2
      exact ⟨rfl, HB.out⟩
end Go.Proofs.Ytpfdjddjoclldaa
