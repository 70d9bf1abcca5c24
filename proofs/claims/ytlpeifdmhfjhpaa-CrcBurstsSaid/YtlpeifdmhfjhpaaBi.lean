/-
  int's and, or, xor, shifts on natural numbers, as the model has them. No function of the program is named here. No conditions.
-/
import Derived.Laws.BitsAllLaws
import Derived.IntWalk
import Derived.Handy
import Derived.Test.YtlpeifdmhfjhpaaBm
namespace Go.Proofs.Ytlpeifdmhfjhpaa
open Go.RowKit
open M
theorem ofInt_i64 (a : Nat) (ha : a < 9223372036854775808) : (BitVec.ofInt 64 (a : Int)).toNat = a := ofInt_u64 a (by omega)
theorem i64_and_nat (a b : Nat) (ha : a < 9223372036854775808) (hb : b < 9223372036854775808) : bits .and .i64 (a : Int) (b : Int) = ((a &&& b : Nat) : Int) := by
  have hx : a &&& b < 2 ^ 63 := Nat.and_lt_two_pow _ (by omega)
  show IntKind.i64.wrap ((BitVec.ofInt 64 (a : Int) &&& BitVec.ofInt 64 (b : Int)).toNat : Int) = _
  rw [BitVec.toNat_and, ofInt_i64 a ha, ofInt_i64 b hb, IntKind.wrap_i64]
  omega
theorem i64_or_nat (a b : Nat) (ha : a < 9223372036854775808) (hb : b < 9223372036854775808) : bits .or .i64 (a : Int) (b : Int) = ((a ||| b : Nat) : Int) := by
  have hx : a ||| b < 2 ^ 63 := Nat.or_lt_two_pow (by omega) (by omega)
  show IntKind.i64.wrap ((BitVec.ofInt 64 (a : Int) ||| BitVec.ofInt 64 (b : Int)).toNat : Int) = _
  rw [BitVec.toNat_or, ofInt_i64 a ha, ofInt_i64 b hb, IntKind.wrap_i64]
  omega
theorem i64_xor_nat (a b : Nat) (ha : a < 9223372036854775808) (hb : b < 9223372036854775808) : bits .xor .i64 (a : Int) (b : Int) = ((a ^^^ b : Nat) : Int) := by
  have hx : a ^^^ b < 2 ^ 63 := Nat.xor_lt_two_pow (by omega) (by omega)
  show IntKind.i64.wrap ((BitVec.ofInt 64 (a : Int) ^^^ BitVec.ofInt 64 (b : Int)).toNat : Int) = _
  rw [BitVec.toNat_xor, ofInt_i64 a ha, ofInt_i64 b hb, IntKind.wrap_i64]
  omega
theorem div_pow (c k : Nat) : (c : Int) / 2 ^ k = ((c / 2 ^ k : Nat) : Int) := by
  rw [Int.natCast_ediv, Int.natCast_pow]; rfl
theorem bit_walk (c k : Nat) (hc : c < 9223372036854775808) : bits .and .i64 ((c : Int) / 2 ^ k) 1 = ((c.testBit k).toNat : Int) := by
  have h2 : c / 2 ^ k ≤ c := Nat.div_le_self _ _
  rw [div_pow, show (1 : Int) = ((1 : Nat) : Int) from rfl, i64_and_nat _ _ (by omega) (by decide), Nat.and_one_is_mod, Nat.testBit_eq_decide_div_mod_eq]
  rcases Nat.mod_two_eq_zero_or_one (c / 2 ^ k) with h | h <;> simp [h]
theorem byte_walk (c k : Nat) (hc : c < 256) (hk : k ≤ 7) : bits .and .i64 (wrap64 (c : Int) / 2 ^ min k 64) 1 = ((c.testBit k).toNat : Int) := by
  rw [IntWalk.wrap64_in _ (by omega), Nat.min_eq_left (by omega), bit_walk c k (by omega)]
theorem or_bit (x : Nat) (b : Bool) : (2 * x) ||| b.toNat = 2 * x + b.toNat := by
  cases b
  · simp
  · show 2 * x ||| 1 = 2 * x + 1
    have := Nat.shiftLeft_add_eq_or_of_lt (i := 1) (b := 1) (by decide) x
    rw [Nat.shiftLeft_eq] at this
    rw [show 2 * x = x * 2 ^ 1 by omega]
    exact this.symm
theorem join_walk (x : Nat) (b : Bool) (hx : x < 4611686018427387904) : bits .or .i64 ((x : Int) * 2) ((b.toNat : Nat) : Int) = ((2 * x + b.toNat : Nat) : Int) := by
  have : b.toNat ≤ 1 := by cases b <;> decide
  rw [show (x : Int) * 2 = ((2 * x : Nat) : Int) by omega, i64_or_nat _ _ (by omega) (by omega), or_bit]
end Go.Proofs.Ytlpeifdmhfjhpaa
