/-
  Plain facts on the field of 128 elements: its tables, products, powers, polynomials. No program is named here. No conditions.
-/
import Derived.Lib.Hide
namespace Go.Proofs.Ytbokecpcefcimaa.M

def dblE (a : Nat) : Nat := if 128 ≤ 2 * a then (2 * a) ^^^ 137 else 2 * a
def expT : List Nat := [1, 2, 4, 8, 16, 32, 64, 9, 18, 36, 72, 25, 50, 100, 65, 11, 22, 44, 88, 57, 114, 109, 83, 47, 94, 53, 106, 93, 51, 102, 69, 3, 6, 12, 24, 48, 96, 73, 27, 54, 108, 81, 43, 86, 37, 74, 29, 58, 116, 97, 75, 31, 62, 124, 113, 107, 95, 55, 110, 85, 35, 70, 5, 10, 20, 40, 80, 41, 82, 45, 90, 61, 122, 125, 115, 111, 87, 39, 78, 21, 42, 84, 33, 66, 13, 26, 52, 104, 89, 59, 118, 101, 67, 15, 30, 60, 120, 121, 123, 127, 119, 103, 71, 7, 14, 28, 56, 112, 105, 91, 63, 126, 117, 99, 79, 23, 46, 92, 49, 98, 77, 19, 38, 76, 17, 34, 68]
def logT : List Nat := [0, 0, 1, 31, 2, 62, 32, 103, 3, 7, 63, 15, 33, 84, 104, 93, 4, 124, 8, 121, 64, 79, 16, 115, 34, 11, 85, 38, 105, 46, 94, 51, 5, 82, 125, 60, 9, 44, 122, 77, 65, 67, 80, 42, 17, 69, 116, 23, 35, 118, 12, 28, 86, 25, 39, 57, 106, 19, 47, 89, 95, 71, 52, 110, 6, 14, 83, 92, 126, 30, 61, 102, 10, 37, 45, 50, 123, 120, 78, 114, 66, 41, 68, 22, 81, 59, 43, 76, 18, 88, 70, 109, 117, 27, 24, 56, 36, 49, 119, 113, 13, 91, 29, 101, 87, 108, 26, 55, 40, 21, 58, 75, 107, 54, 20, 74, 48, 112, 90, 100, 96, 97, 72, 98, 53, 73, 111, 99]
/-- The power n of 2, n below 127. -/
def E (n : Nat) : Nat := expT.getD n 0
/-- Which power of 2, of what is not 0. -/
def Lg (a : Nat) : Nat := logT.getD a 0
def pm : Nat → Nat → Nat → Nat → Nat
  | 0, _, _, o => o
  | k + 1, a, b, o => pm k (dblE a) (b / 2) (if b % 2 = 1 then o ^^^ a else o)
/-- The product. -/
def mul (a b : Nat) : Nat := pm 7 a b 0

theorem of_all {n : Nat} {p : Nat → Bool} (h : (List.range n).all p = true) (i : Nat) (hi : i < n) : p i = true :=
  List.all_eq_true.1 h i (List.mem_range.2 hi)

theorem E_bd (n : Nat) (h : n < 127) : 1 ≤ E n ∧ E n < 128 := by
  have := of_all (n := 127) (p := fun n => decide (1 ≤ E n) && decide (E n < 128)) (by decide +kernel) n h
  simpa using this
theorem Lg_E (n : Nat) (h : n < 127) : Lg (E n) = n := by
  have := of_all (n := 127) (p := fun n => Lg (E n) == n) (by decide +kernel) n h
  simpa using this
theorem Lg_le (a : Nat) (h : a < 128) : Lg a < 127 := by
  have := of_all (n := 128) (p := fun a => decide (Lg a < 127)) (by decide +kernel) a h
  simpa using this
theorem E_Lg (a : Nat) (h : a < 128) (h0 : a ≠ 0) : E (Lg a) = a := by
  have := of_all (n := 128) (p := fun a => a == 0 || E (Lg a) == a) (by decide +kernel) a h
  simp [h0] at this
  exact this
theorem E_next (n : Nat) (h : n < 127) : dblE (E (n % 127)) = E ((n + 1) % 127) := by
  have := of_all (n := 127) (p := fun n => dblE (E (n % 127)) == E ((n + 1) % 127)) (by decide +kernel) n h
  simpa using this
theorem mul_tab (a b : Nat) (ha : a < 128) (hb : b < 128) : mul a b = if a = 0 ∨ b = 0 then 0 else E ((Lg a + Lg b) % 127) := by
  have := of_all (of_all (n := 128) (p := fun a => (List.range 128).all fun b => mul a b == if a = 0 ∨ b = 0 then 0 else E ((Lg a + Lg b) % 127)) (by decide +kernel) a ha) b hb
  simpa using this
/-- Powers from 0 on. -/
def pw (a : Nat) : Nat → Nat
  | 0 => 1
  | k + 1 => mul (pw a k) a
theorem sq_all (a b : Nat) (ha : a < 128) (hb : b < 128) : pw (a ^^^ b) 2 = pw a 2 ^^^ pw b 2 ∧ (pw a 2 == pw b 2) = (a == b) := by
  have := of_all (of_all (n := 128) (p := fun a => (List.range 128).all fun b => (pw (a ^^^ b) 2 == pw a 2 ^^^ pw b 2) && ((pw a 2 == pw b 2) == (a == b))) (by decide +kernel) a ha) b hb
  simpa only [Bool.and_eq_true, beq_iff_eq] using this
theorem root_all (a : Nat) (ha : a < 128) : mul (pw a 64) (pw a 64) = a := by
  have := of_all (n := 128) (p := fun a => mul (pw a 64) (pw a 64) == a) (by decide +kernel) a ha
  simpa using this

end Go.Proofs.Ytbokecpcefcimaa.M
