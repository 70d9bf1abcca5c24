/-
  MaskBoth, walked. Conditions: sixteen ints; what mask's All, Budget, Far and May answer.
-/
import Derived.Test.YtfpmdbdgikphdaaMkb
import Derived.Test.YtfpmdbdgikphdaaDr
import Derived.Test.YtfpmdbdgikphdaaQtl
import Derived.BigQuiet
namespace Go.Proofs.Ytfpmdbdgikphdaa
open Go.RowKit
open M
/-- Numbers' rests by 13, as far as i. -/
def md17 (y : List Int) (i : Nat) : List Int := (List.range 4).map fun p => if p < i then (y.getD p 0).tmod 13 else y.getD p 0
theorem md17_len (y : List Int) (i : Nat) : (md17 y i).length = 4 := by simp [md17]
theorem md17_get (y : List Int) (i p : Nat) (h : p < 4) : (md17 y i).getD p 0 = if p < i then (y.getD p 0).tmod 13 else y.getD p 0 := by
  unfold md17
  rw [List.getD_eq_getElem?_getD, List.getElem?_map, List.getElem?_range h]
  rfl
theorem md17_zero (y : List Int) (h : y.length = 4) : md17 y 0 = y :=
  list_eqn 4 _ _ (md17_len _ _) h fun j hj => by rw [md17_get _ _ _ hj, if_neg (by omega)]
theorem md17_set (y : List Int) (i : Nat) (h : i < 4) : (md17 y i).set i ((y.getD i 0).tmod 13) = md17 y (i + 1) := by
  refine list_eqn 4 _ _ (by rw [List.length_set, md17_len]) (md17_len _ _) fun j hj => ?_
  rw [set_getD13 _ _ _ _ (by rw [md17_len]; exact h), md17_get _ _ _ hj, md17_get _ _ _ hj]
  by_cases e : j = i
  · rw [if_pos e, if_pos (by omega), e]
  · rw [if_neg e]
    by_cases k : j < i
    · rw [if_pos k, if_pos (by omega)]
    · rw [if_neg k, if_neg (by omega)]
theorem tmod17 (v : Int) : -12 ≤ v.tmod 13 ∧ v.tmod 13 ≤ 12 := by
  have := Int.tmod_lt_of_pos v (show (0 : Int) < 13 by decide)
  have := Int.tmod_lt_of_pos (-v) (show (0 : Int) < 13 by decide)
  rw [Int.neg_tmod] at this
  omega
theorem md17_bd (y : List Int) (j : Nat) (h : j < 4) : -12 ≤ (md17 y 4).getD j 0 ∧ (md17 y 4).getD j 0 ≤ 12 := by
  rw [md17_get _ _ _ h, if_pos h]; exact tmod17 _
theorem md17_small (y : List Int) : sm17 (md17 y 4) = true := (sm_iff _).2 fun j hj => by have := md17_bd y j hj; omega
theorem farL_self (y : List Int) : farL y y = 0 := (farL_zero y y rfl).2 rfl
theorem farL_few (y z : List Int) (hy : y.length = 4) (hz : z.length = 4) (k : Nat) (h1 : ∀ j, j < 4 → -(k : Int) ≤ y.getD j 0 ∧ y.getD j 0 ≤ k) (h2 : ∀ j, j < 4 → -(k : Int) ≤ z.getD j 0 ∧ z.getD j 0 ≤ k) : farL y z ≤ 8 * k := by
  obtain ⟨a, b, c, d, rfl⟩ := four_list y hy
  obtain ⟨e, f, g, h, rfl⟩ := four_list z hz
  have a0 := h1 0 (by omega); have a1 := h1 1 (by omega); have a2 := h1 2 (by omega); have a3 := h1 3 (by omega)
  have b0 := h2 0 (by omega); have b1 := h2 1 (by omega); have b2 := h2 2 (by omega); have b3 := h2 3 (by omega)
  simp only [List.getD_cons_zero, List.getD_cons_succ] at a0 a1 a2 a3 b0 b1 b2 b3
  simp only [farL]
  omega
end Go.Proofs.Ytfpmdbdgikphdaa
