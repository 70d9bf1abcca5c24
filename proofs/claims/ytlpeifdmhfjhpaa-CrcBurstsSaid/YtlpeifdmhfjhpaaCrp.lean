/-
  What the reference's Sum of layer 15 reckons, bit by bit. Conditions: those that each fact names.
-/
import Derived.Test.YtlpeifdmhfjhpaaTra
import Derived.Test.YtlpeifdmhfjhpaaYqo
namespace Go.Proofs.Ytlpeifdmhfjhpaa
open Go.RowKit
open M
/-- A bit as a number; the p-th bit of bytes, the highest of each first. -/
def bI15 (b : Bool) : Int := if b then 1 else 0
def bt15 (l : List UInt8) (p : Nat) : Bool := (l.getD (p / 8) 0).toNat / 2 ^ (7 - p % 8) % 2 == 1
def bts15 (l : List UInt8) (n : Nat) : List Int := (List.range n).map fun p => bI15 (bt15 l p)
theorem bts_len (l : List UInt8) (n : Nat) : (bts15 l n).length = n := by simp [bts15]
theorem bts_snoc (l : List UInt8) (n : Nat) : bts15 l (n + 1) = bts15 l n ++ [bI15 (bt15 l n)] := by simp [bts15, List.range_succ]
theorem bt_num (l : List UInt8) (k j : Nat) (hj : j < 8) : bI15 (bt15 l (8 * k + j)) = (((l.getD k 0).toNat / (128 / 2 ^ j) % 2 : Nat) : Int) := by
  unfold bt15 bI15
  rw [show (8 * k + j) / 8 = k by omega, show (8 * k + j) % 8 = j by omega]
  have : (2 : Nat) ^ (7 - j) = 128 / 2 ^ j := by
    rcases (by omega : j = 0 ∨ j = 1 ∨ j = 2 ∨ j = 3 ∨ j = 4 ∨ j = 5 ∨ j = 6 ∨ j = 7) with h | h | h | h | h | h | h | h <;> subst h <;> rfl
  rw [this]
  generalize (l.getD k 0).toNat / (128 / 2 ^ j) = x
  by_cases h : x % 2 = 1
  · simp [h]
  · have : x % 2 = 0 := by omega
    simp [this]
theorem tm15 (r : Int) : (0 ≤ r.tmod 65536 → r.tmod 65536 = r % 65536) ∧ (r.tmod 65536 < 0 → r.tmod 65536 + 65536 = r % 65536) := by
  by_cases h : 0 ≤ r
  · rw [Int.tmod_eq_emod_of_nonneg h]
    omega
  · have : r.tmod 65536 = -((-r) % 65536) := by
      rw [← Int.tmod_eq_emod_of_nonneg (show 0 ≤ -r by omega), Int.neg_tmod, Int.neg_neg]
    rw [this]
    omega
def qj15 (j : Nat) : Nat := 128 / 2 ^ j
theorem qj_step (j : Nat) : qj15 (j + 1) = qj15 j / 2 := by
  unfold qj15
  rw [Nat.div_div_eq_div_mul, Nat.pow_succ]
theorem qj_pos (j : Nat) (h : j < 8) : 1 ≤ qj15 j ∧ qj15 j ≤ 128 := by
  unfold qj15
  rcases (by omega : j = 0 ∨ j = 1 ∨ j = 2 ∨ j = 3 ∨ j = 4 ∨ j = 5 ∨ j = 6 ∨ j = 7) with h | h | h | h | h | h | h | h <;> subst h <;> decide
theorem qj_end : qj15 8 = 0 := by decide
theorem bit_run (s : ByteArray) (l : List UInt8) (k j q m : Nat) (hl : bl s = l) (hk : k < s.size) (hj : j < 8) (hq : q = qj15 j) (hm : m = 8 * k + j) :
    ∃ x y z u : Nat, s[k]!.toNat = x ∧ wrap64 (x : Int) = (x : Int) ∧ (x : Int).tdiv (q : Int) = (y : Int) ∧ wrap64 (y : Int) = (y : Int) ∧ (y : Int).tmod 2 = (z : Int) ∧ (q : Int).tdiv 2 = (u : Int) ∧ wrap64 (u : Int) = (u : Int) ∧ bI15 (bt15 l m) = (z : Int) ∧ u = qj15 (j + 1) ∧ u < q := by
  have hqb := qj_pos j hj
  rw [← hq] at hqb
  have hx0 : l.getD k 0 = s[k]! := by
    rw [← hl, getElem!_pos s k hk]
    show s.data.toList.getD k 0 = s[k]
    rw [List.getD_eq_getElem?_getD, List.getElem?_eq_getElem (by simpa using hk)]
    rfl
  have hbt := bt_num l k j hj
  rw [show 128 / 2 ^ j = q from hq.symm, ← hm, hx0] at hbt
  have hxb := s[k]!.toNat_lt
  refine ⟨s[k]!.toNat, s[k]!.toNat / q, s[k]!.toNat / q % 2, q / 2, rfl, ?_, ?_, ?_, ?_, ?_, ?_, hbt, ?_, ?_⟩
  · rw [wrap64]; omega
  · rw [Int.tdiv_eq_ediv_of_nonneg (by omega), Int.natCast_ediv]
  · have := Nat.div_le_self s[k]!.toNat q
    generalize s[k]!.toNat / q = y at *
    rw [wrap64]; omega
  · generalize s[k]!.toNat / q = y at *
    rw [Int.tmod_eq_emod_of_nonneg (by omega)]; omega
  · rw [Int.tdiv_eq_ediv_of_nonneg (by omega)]; omega
  · rw [wrap64]; omega
  · rw [qj_step, hq]
  · omega
theorem ms15 (u q : Nat) (h : u < q) : (intOf (.int .i64 (u : Int))).toNat < (intOf (.int .i64 (q : Int))).toNat := by
  simpa [intOf] using h
end Go.Proofs.Ytlpeifdmhfjhpaa
