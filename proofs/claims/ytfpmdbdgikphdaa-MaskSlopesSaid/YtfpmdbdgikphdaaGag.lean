/-
  The reference's Gain of layer 14. Conditions: a step from 0 to 15.
-/
import Derived.Test.YtfpmdbdgikphdaaGagp
namespace Go.Proofs.Ytfpmdbdgikphdaa
open Go.RowKit
open M
theorem rgain_any (s : Nat) (w : World) (hs : s ≤ 15) :
    Calls Try.prog 10 #[.int .i64 (s : Int)] w fun e w' => e = .returned (.int .i64 ((2 : Int) ^ s)) ∧ w' = w := by
  have hsI : (s : Int) ≤ 15 := by omega
  go_enter Try.func10, Try.ntmps10
  go_wp2
  go_loop [3, 4] (fun o i => ∃ (k : Nat) (p : Int), k ≤ s ∧ i = .int .i64 k ∧ o = .int .i64 p ∧ p = (2 : Int) ^ k) (fun _ i => s - (intOf i).toNat)
  case atStart => exact ⟨0, 1, by omega, rfl, rfl, rfl⟩
  case round =>
    obtain ⟨k, p, hk, rfl, rfl, hp⟩ := hrel
    rcases Nat.lt_or_ge k s with hlt | hge
    · have hb := pow15 k (by omega)
      rw [← hp] at hb
      have hkI : (k : Int) < (s : Int) := by omega
      have HP := Lib.hid (show 2 * p = (2 : Int) ^ (k + 1) by rw [hp, Int.pow_succ, Int.mul_comm])
      have HK := Lib.hid hlt
      clear hp hk
      go_wp2_with fail
      go_round
      case rel => exact ⟨k + 1, 2 * p, HK.out, by go_num, rfl, HP.out⟩
      case measure =>
        have := HK.out
        simp [intOf] <;> omega
    · obtain rfl : k = s := by omega
      have HP := Lib.hid hp
      clear hp hk hge
      go_wp2_with fail
      go_ret
      exact ⟨by rw [← HP.out]; rfl, rfl⟩
end Go.Proofs.Ytfpmdbdgikphdaa
