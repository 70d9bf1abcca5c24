/-
  LapCounts walked: counts of frames. Conditions: a number below 2^32.
-/
import Derived.Test.YtdnchnhflfcdkaaQLn
namespace Go.Proofs.Ytdnchnhflfcdkaa
open Go.RowKit
open M
set_option maxRecDepth 100000 in
set_option maxHeartbeats 1000000 in
theorem counts_law (m : Int) (w : World) (hm : 0 ≤ m ∧ m ≤ 4294967295) : Calls Try.prog 8 #[.int .u32 m] w fun e w' => e = .returned (.bool true) ∧ Below w.heap.size w w' := by
  obtain ⟨n, rfl⟩ := Int.eq_ofNat_of_zero_le hm.1
  have hn : n < 4294967296 := by omega
  clear hm
  obtain ⟨h1, h2, h3, h4⟩ := cnt_more n
  have hcb : cnt n ≤ 134217729 := by unfold cnt; omega
  have HC := Lib.hid fun w => count_any n w (by omega)
  have hd := fun w => count_any (n + 32) w (by omega)
  have HE := Lib.hid fun w => count_neg (-1 - (n : Int)) w (by omega)
  rw [h1, show ((n + 32 : Nat) : Int) = (n : Int) + 32 from rfl, show ((cnt n + 1 : Nat) : Int) = (cnt n : Int) + 1 from rfl] at hd
  have HD := Lib.hid hd
  clear hd
  obtain ⟨c, hc⟩ : ∃ c, cnt n = c := ⟨_, rfl⟩
  rw [hc] at HC HD h2 h3 h4 hcb
  have hnI : (n : Int) < 4294967296 := by omega
  have hcI : (c : Int) ≤ 134217729 := by omega
  have hc1 : (1 : Int) ≤ (c : Int) := by omega
  have hm1 : (n : Int) ≤ 32 * ((c : Int) - 1) := by omega
  obtain ⟨m1, e1⟩ : ∃ m1, 32 * ((c : Int) - 1) = m1 := ⟨_, rfl⟩
  obtain ⟨m2, e2⟩ : ∃ m2, 32 * ((c : Int) - 2) = m2 := ⟨_, rfl⟩
  rw [e2] at h4
  rw [e1] at hm1
  have b1 : -64 ≤ m1 ∧ m1 ≤ 4294967328 := by omega
  have b2 : -64 ≤ m2 ∧ m2 ≤ 4294967328 := by omega
  clear h1 h2 h3 hc
  go_enter Try.func8, Try.ntmps8
  go_wp2_with fail
  refine (HC.out w).mono ?_
  rintro e w1 ⟨rfl, rfl⟩
  go_wp2_with fail
  refine (pawake_any w1).mono ?_
  rintro e w2 ⟨rfl, hb⟩
  have HB := Lib.hid hb
  clear hb
  go_wp2_with fail
  refine (HD.out w2).mono ?_
  rintro e w3 ⟨rfl, rfl⟩
  go_wp2_with fail
  refine (HE.out w3).mono ?_
  rintro e w4 ⟨rfl, rfl⟩
  clear HC HD HE
  go_wp2_with fail
  go_ret
  exact ⟨rfl, HB.out⟩
end Go.Proofs.Ytdnchnhflfcdkaa
