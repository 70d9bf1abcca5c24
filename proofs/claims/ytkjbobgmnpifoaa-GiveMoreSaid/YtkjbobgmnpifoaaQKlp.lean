/-
  Plain facts of layer 18: how many pulses each band has, as a list; what they cost. No program is named here. No conditions but those that each fact names.
-/
import Derived.Test.YtkjbobgmnpifoaaQQ1
import Derived.Test.YtkjbobgmnpifoaaQM1
import Derived.Test.YtkjbobgmnpifoaaQDi
namespace Go.Proofs.Ytkjbobgmnpifoaa
open Go.RowKit
open M
theorem btc_bits : ∀ k, k ≤ 12 → bl13 20 (cn13 4 k - 1) = btc k ∧ cn13 4 k - 1 < 2 ^ 20 ∧ 1 ≤ cn13 4 k := by decide +kernel
def e8z : List Int := List.replicate 8 0
/-- How many pulses each band has, as a list. -/
def kl18 (k : Nat → Nat) : List Int := (List.range 8).map fun b => (k b : Int)
theorem kl18_len (k : Nat → Nat) : (kl18 k).length = 8 := by simp [kl18]
theorem kl18_at (k : Nat → Nat) (b : Nat) (h : b < 8) : (kl18 k).getD b 0 = (k b : Int) := by
  simp only [kl18, List.getD_eq_getElem?_getD, List.getElem?_map, List.getElem?_range h, Option.map_some, Option.getD_some]
theorem kl18_zero : kl18 (fun _ => 0) = e8z := by decide
theorem kl18_set (k : Nat → Nat) (a : Nat) : (kl18 k).set a ((k a + 1 : Nat) : Int) = kl18 (mor k a) := by
  apply List.ext_getElem
  · simp [kl18]
  · intro i h1 h2
    simp only [kl18, List.getElem_set, List.getElem_map, List.getElem_range]
    unfold mor
    by_cases e : a = i
    · subst e; rw [if_pos rfl, if_pos rfl]
    · rw [if_neg e, if_neg (fun h => e h.symm)]
theorem bst_lt (s : Nat → Int) (k : Nat → Nat) (l n a : Nat) (h : bst s k l n = some a) : a < n := (bst_some s k l n a h).1
theorem btc_bd (k : Nat) : btc k ≤ 13 := by
  rcases Nat.lt_or_ge k 13 with h | h
  · have h2 : k = 0 ∨ k = 1 ∨ k = 2 ∨ k = 3 ∨ k = 4 ∨ k = 5 ∨ k = 6 ∨ k = 7 ∨ k = 8 ∨ k = 9 ∨ k = 10 ∨ k = 11 ∨ k = 12 := by omega
    rcases h2 with rfl | rfl | rfl | rfl | rfl | rfl | rfl | rfl | rfl | rfl | rfl | rfl | rfl <;> decide
  · have : btc k = 0 := by
      unfold btc
      rw [List.getD_eq_getElem?_getD, List.getElem?_eq_none (by simpa [btl] using h)]
      rfl
    omega
theorem btc_inc (k : Nat) (h : k < 12) : ((btc (k + 1) : Nat) : Int) - (btc k : Int) = (inc k : Int) := by
  have := bt_next k h
  omega
end Go.Proofs.Ytkjbobgmnpifoaa
