/-
  lift's lean and rise: a turn's first steps, each on the turn that lies in a block of its own. Conditions: numbers no greater than 2^44, a factor, two ways (1 or -1).
-/
import Derived.Test.YtpfdjddjoclldaaREb
import Derived.StillTailTactics
namespace Go.Proofs.Ytpfdjddjoclldaa
open Go.RowKit
open M
set_option maxRecDepth 100000 in
theorem lean_any (a b p q s n z : Int) (g : Nat) (w : World) (h : Row w g 71 (tc a b p q s n)) (hs : s = 1 ∨ s = -1) (hz : z = 1 ∨ z = -1)
    (ht1 : -17592186044416 ≤ a) (ht2 : a ≤ 17592186044416) (hb1 : -17592186044416 ≤ b) (hb2 : b ≤ 17592186044416) (hp1 : 0 ≤ p) (hp2 : p ≤ 32768) :
    Calls Try.prog 52 #[.pointer (some ⟨g, 0, none⟩), .int .i64 z] w fun e w' => e = .returned (.tuple #[]) ∧ w' = (w.setCell ⟨g, 0, none⟩ (.int .i64 (a - z * s * prt b p))).drew := by
  obtain ⟨c0, c1, c2, c3, c4, c5⟩ := tc_cell h
  have f0 := h.free 0
  have hq := prt_bd b p 17592186044416 (by omega) hb1 hb2 hp1 hp2
  have HC : ∀ u : World, Calls Try.prog 56 #[.int .i64 b, .int .i64 p] u fun e w' => e = .returned (.int .i64 (prt b p)) ∧ w' = u := fun u => (part_in b p u (by omega) (by omega) hp1 hp2).mono fun _ _ h => ⟨h.1, h.2.symm⟩
  clear hb1 hb2 hp1 hp2 h c5
  obtain ⟨y, hy⟩ : ∃ y, prt b p = y := ⟨_, rfl⟩
  rw [hy] at hq ⊢
  simp only [hy] at HC
  clear hy
  have HV : Hid (wrap64 (a - wrap64 (wrap64 (z * s) * y)) = a - z * s * y) := by
    unfold Hid
    unfold wrap64
    rcases hs with rfl | rfl <;> rcases hz with rfl | rfl <;> omega
  clear hs hz ht1 ht2 hq
  go_enter Try.func52, Try.ntmps52
  refine wp_region_still_tail 21 (by kernel_rfl) (by kernel_rfl) ?_
  simp only [List.take_succ_cons, List.take_zero, List.drop_succ_cons, List.drop_zero]
  repeat still_step
  still_call (HC _)
  repeat still_step
  refine wpStill_nil ?_
  change wpList _ _ _ _ _ w.drew
  go_wp2
  go_end0
  exact ⟨rfl, by rw [HV.out]⟩
set_option maxRecDepth 100000 in
theorem rise_any (a b p q s n z : Int) (g : Nat) (w : World) (h : Row w g 71 (tc a b p q s n)) (hs : s = 1 ∨ s = -1) (hz : z = 1 ∨ z = -1)
    (ht1 : -17592186044416 ≤ b) (ht2 : b ≤ 17592186044416) (hb1 : -17592186044416 ≤ a) (hb2 : a ≤ 17592186044416) (hp1 : 0 ≤ q) (hp2 : q ≤ 32768) :
    Calls Try.prog 53 #[.pointer (some ⟨g, 0, none⟩), .int .i64 z] w fun e w' => e = .returned (.tuple #[]) ∧ w' = (w.setCell ⟨g, 1, none⟩ (.int .i64 (b + z * s * prt a q))).drew := by
  obtain ⟨c0, c1, c2, c3, c4, c5⟩ := tc_cell h
  have f0 := h.free 1
  have hq := prt_bd a q 17592186044416 (by omega) hb1 hb2 hp1 hp2
  have HC : ∀ u : World, Calls Try.prog 56 #[.int .i64 a, .int .i64 q] u fun e w' => e = .returned (.int .i64 (prt a q)) ∧ w' = u := fun u => (part_in a q u (by omega) (by omega) hp1 hp2).mono fun _ _ h => ⟨h.1, h.2.symm⟩
  clear hb1 hb2 hp1 hp2 h c5
  obtain ⟨y, hy⟩ : ∃ y, prt a q = y := ⟨_, rfl⟩
  rw [hy] at hq ⊢
  simp only [hy] at HC
  clear hy
  have HV : Hid (wrap64 (b + wrap64 (wrap64 (z * s) * y)) = b + z * s * y) := by
    unfold Hid
    unfold wrap64
    rcases hs with rfl | rfl <;> rcases hz with rfl | rfl <;> omega
  clear hs hz ht1 ht2 hq
  go_enter Try.func53, Try.ntmps53
  refine wp_region_still_tail 21 (by kernel_rfl) (by kernel_rfl) ?_
  simp only [List.take_succ_cons, List.take_zero, List.drop_succ_cons, List.drop_zero]
  repeat still_step
  still_call (HC _)
  repeat still_step
  refine wpStill_nil ?_
  change wpList _ _ _ _ _ w.drew
  go_wp2
  go_end0
  exact ⟨rfl, by rw [HV.out]⟩
end Go.Proofs.Ytpfdjddjoclldaa
