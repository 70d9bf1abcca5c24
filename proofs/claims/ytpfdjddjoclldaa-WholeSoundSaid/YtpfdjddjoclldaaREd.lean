/-
  lift's swing: a turn's quarters, on the turn that lies in a block of its own. Conditions: numbers no greater than 2^45, two ways (1 or -1), four quarters at most.
-/
import Derived.Test.YtpfdjddjoclldaaREc
import Derived.Deep.RegionWith
namespace Go.Proofs.Ytpfdjddjoclldaa
open Go.RowKit
open M
namespace M
/-- Quarters, one way or the other. -/
def spn (z : Int) (v : Int × Int) : Nat → Int × Int
  | 0 => v
  | n + 1 => (-z * (spn z v n).2, z * (spn z v n).1)
theorem spn_one (v : Int × Int) : ∀ n : Nat, spn 1 v n = qts v n
  | 0 => rfl
  | n + 1 => by
    show (-1 * (spn 1 v n).2, 1 * (spn 1 v n).1) = (-(qts v n).2, (qts v n).1)
    rw [spn_one v n, Int.one_mul, Int.neg_one_mul]
theorem spn_two (v : Int × Int) (n : Nat) (h : n ≤ 4) : spn (-1) v n = qts v (4 - n) := by
  obtain ⟨a, b⟩ := v
  have : n = 0 ∨ n = 1 ∨ n = 2 ∨ n = 3 ∨ n = 4 := by omega
  rcases this with rfl | rfl | rfl | rfl | rfl <;> simp [spn, qts, qt]
theorem spn_bd (z : Int) (v : Int × Int) (B : Int) (hz : z = 1 ∨ z = -1) (h : -B ≤ v.1 ∧ v.1 ≤ B ∧ -B ≤ v.2 ∧ v.2 ≤ B) : ∀ n : Nat, -B ≤ (spn z v n).1 ∧ (spn z v n).1 ≤ B ∧ -B ≤ (spn z v n).2 ∧ (spn z v n).2 ≤ B
  | 0 => h
  | n + 1 => by
    have ih := spn_bd z v B hz h n
    show -B ≤ -z * (spn z v n).2 ∧ -z * (spn z v n).2 ≤ B ∧ -B ≤ z * (spn z v n).1 ∧ z * (spn z v n).1 ≤ B
    rcases hz with rfl | rfl <;> omega
end M
set_option maxRecDepth 100000 in
theorem swing_any (a b p q s z : Int) (n g : Nat) (w : World) (h : Row w g 71 (tc a b p q s n)) (hz : z = 1 ∨ z = -1) (hn : n ≤ 4)
    (hb : -35184372088832 ≤ a ∧ a ≤ 35184372088832 ∧ -35184372088832 ≤ b ∧ b ≤ 35184372088832) :
    Calls Try.prog 54 #[.pointer (some ⟨g, 0, none⟩), .int .i64 z] w fun e w' => e = .returned (.tuple #[]) ∧ Row w' g 71 (tc (spn z (a, b) n).1 (spn z (a, b) n).2 p q s n) ∧ Only g w w' := by
  have HB := Lib.hid (spn_bd z (a, b) 35184372088832 hz hb)
  have HR := Lib.hid h
  obtain ⟨c0, c1, c2, c3, c4, c5⟩ := tc_cell h
  have HZ := Lib.hid hz
  clear hz hb h c0 c1 c2 c3 c4
  go_enter Try.func54, Try.ntmps54
  go_wp2
  go_loopw [8] (fun i wr => ∃ k : Nat, k ≤ n ∧ i = .int .i64 k ∧ Row wr g 71 (tc (spn z (a, b) k).1 (spn z (a, b) k).2 p q s n) ∧ Only g w wr) (fun i _ => n - (intOf i).toNat)
  case atStart => exact ⟨0, Nat.zero_le _, rfl, HR.out, Only.refl _ _⟩
  case round =>
    clear c5 HR
    obtain ⟨k, hk, rfl, h1, h2⟩ := hrel
    have HR := Lib.hid h1
    have HO := Lib.hid h2
    clear h1 h2
    by_cases hlt : k < n
    · have HQ := HB.out k
      have HS1 : Hid ((spn z (a, b) (k + 1)).1 = -z * (spn z (a, b) k).2) := rfl
      have HS2 : Hid ((spn z (a, b) (k + 1)).2 = z * (spn z (a, b) k).1) := rfl
      obtain ⟨x, hx⟩ : ∃ x, (spn z (a, b) k).1 = x := ⟨_, rfl⟩
      obtain ⟨y, hy⟩ : ∃ y, (spn z (a, b) k).2 = y := ⟨_, rfl⟩
      rw [hx, hy] at HR HQ
      rw [hy] at HS1
      rw [hx] at HS2
      have HV1 : Hid (wrap64 (wrap64 (-z) * y) = -z * y) := by
        have e : wrap64 (-z) = -z := by unfold wrap64; rcases HZ.out with rfl | rfl <;> omega
        unfold Hid
        rw [e]
        unfold wrap64
        rcases HZ.out with rfl | rfl <;> omega
      have HV2 : Hid (wrap64 (z * x) = z * x) := by
        unfold Hid wrap64
        rcases HZ.out with rfl | rfl <;> omega
      obtain ⟨c0, c1, c2, c3, c4, c5⟩ := tc_cell HR.out
      have f0 := HR.out.free 0
      have f1 := HR.out.free 1
      clear hx hy HQ c2 c3 c4 c5
      go_wp2
      go_region_with (fail)
      all_goals
        go_wp2
        rw [HV1.out, HV2.out]
        refine ⟨⟨k + 1, hlt, by go_num, ?_, ((HO.out.setCell 0 none _).setCell 1 none _).drew⟩, ?_⟩
        · rw [HS1.out, HS2.out]
          exact (HR.out.set 0 (.int .i64 (-z * y))).set 1 (.int .i64 (z * x))
        · simp only [intOf]
          omega
    · obtain rfl : k = n := by omega
      go_wp2
      go_end0
      exact ⟨rfl, HR.out, HO.out⟩
end Go.Proofs.Ytpfdjddjoclldaa
