/-
  Plain facts of the statements' held steps (layers 17 and 18): as far as so many are held; lists by their numbers. No conditions but those that each fact names.
-/
import Derived.Test.YtkjbobgmnpifoaaQA15
import Derived.Test.YtkjbobgmnpifoaaQRfr
namespace Go.Proofs.Ytkjbobgmnpifoaa
open Go.RowKit
open M
/-- Steps held in their range, as far as i. -/
def hd17 (x : List Int) (i : Nat) : List Int := (List.range 8).map fun p => if p < i then x.getD p 0 % 16 else x.getD p 0
theorem hd17_len (x : List Int) (i : Nat) : (hd17 x i).length = 8 := by simp [hd17]
theorem hd17_get (x : List Int) (i p : Nat) (h : p < 8) : (hd17 x i).getD p 0 = if p < i then x.getD p 0 % 16 else x.getD p 0 := by
  unfold hd17
  rw [List.getD_eq_getElem?_getD, List.getElem?_map, List.getElem?_range h]
  rfl
theorem list_eqn (n : Nat) (l m : List Int) (hl : l.length = n) (hm : m.length = n) (h : ∀ j, j < n → l.getD j 0 = m.getD j 0) : l = m := by
  apply List.ext_getElem (by omega)
  intro i h1 h2
  have := h i (by omega)
  rw [List.getD_eq_getElem?_getD, List.getD_eq_getElem?_getD, List.getElem?_eq_getElem h1, List.getElem?_eq_getElem h2] at this
  exact this
theorem hd17_zero (x : List Int) (h : x.length = 8) : hd17 x 0 = x :=
  list_eqn 8 _ _ (hd17_len _ _) h fun j hj => by rw [hd17_get _ _ _ hj, if_neg (by omega)]
theorem hd17_set (x : List Int) (i : Nat) (h : i < 8) : (hd17 x i).set i (x.getD i 0 % 16) = hd17 x (i + 1) := by
  refine list_eqn 8 _ _ (by rw [List.length_set, hd17_len]) (hd17_len _ _) fun j hj => ?_
  rw [set_getD13 _ _ _ _ (by rw [hd17_len]; exact h), hd17_get _ _ _ hj, hd17_get _ _ _ hj]
  by_cases e : j = i
  · rw [if_pos e, if_pos (by omega), e]
  · rw [if_neg e]
    by_cases k : j < i
    · rw [if_pos k, if_pos (by omega)]
    · rw [if_neg k, if_neg (by omega)]
theorem hd17_bd (x : List Int) (j : Nat) (h : j < 8) : 0 ≤ (hd17 x 8).getD j 0 ∧ (hd17 x 8).getD j 0 ≤ 15 := by
  rw [hd17_get _ _ _ h, if_pos h]; omega
theorem hd17_right (x : List Int) : rt17 (hd17 x 8) = true := (rt_iff _).2 fun j hj => hd17_bd x j hj
end Go.Proofs.Ytkjbobgmnpifoaa
