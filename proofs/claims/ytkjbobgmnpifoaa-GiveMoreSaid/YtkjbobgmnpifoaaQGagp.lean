/-
  Powers of two up to the fifteenth; numbers that a walk wraps. No conditions but those that each fact names.
-/
import Derived.Test.YtkjbobgmnpifoaaQBh
namespace Go.Proofs.Ytkjbobgmnpifoaa
open Go.RowKit
open M
theorem pow15 (k : Nat) (h : k ≤ 15) : (2 : Int) ^ k ≤ 32768 ∧ 1 ≤ (2 : Int) ^ k := by
  have h1 : (2 : Nat) ^ k ≤ 2 ^ 15 := Nat.pow_le_pow_right (by decide) h
  have h2 : 1 ≤ (2 : Nat) ^ k := Nat.one_le_two_pow
  have e : (2 : Int) ^ k = ((2 ^ k : Nat) : Int) := by rw [Int.natCast_pow]; rfl
  rw [e]
  omega
theorem wi_id (x : Int) (h1 : -4611686018427387904 ≤ x) (h2 : x ≤ 4611686018427387904) : IntKind.i64.wrap x = x := by rw [IntKind.wrap_i64]; omega
theorem mul14 (y G : Int) (h1 : -2097152 ≤ y) (h2 : y ≤ 2097152) (h3 : 0 ≤ G) (h4 : G ≤ 32768) : -68719476736 ≤ y * G ∧ y * G ≤ 68719476736 := by
  have k1 := Int.mul_le_mul_of_nonneg_right h1 h3
  have k2 := Int.mul_le_mul_of_nonneg_right h2 h3
  omega
end Go.Proofs.Ytkjbobgmnpifoaa
