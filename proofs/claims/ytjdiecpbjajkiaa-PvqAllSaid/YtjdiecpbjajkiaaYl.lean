/-
  PvqOrder, walked. No conditions.
-/
import Derived.Test.YtjdiecpbjajkiaaYk
namespace Go.Proofs.Ytjdiecpbjajkiaa
open Go.RowKit
open M
theorem rank_any (x : Int) (w : World) (h1 : -1000 ≤ x) (h2 : x ≤ 1000) :
    Calls Try.prog 14 #[.int .i64 x] w fun e w' => e = .returned (.int .i64 (rk x : Nat)) ∧ w' = w := by
  have HR : Hid (rk x = if 0 < x then 2 * x.toNat - 1 else 2 * (-x).toNat) := Lib.hid rfl
  by_cases h : x > 0
  · have e : (rk x : Int) = 2 * x - 1 := by rw [HR.out, if_pos h]; omega
    have HE := Lib.hid e
    clear HR e
    generalize (rk x : Int) = k at *
    go_enter Try.func14, Try.ntmps14
    go_wp2
    go_ret
    exact ⟨by rw [HE.out]; exact ret_eq (by omega), rfl⟩
  · have e : (rk x : Int) = -2 * x := by rw [HR.out, if_neg h]; omega
    have HE := Lib.hid e
    clear HR e
    generalize (rk x : Int) = k at *
    go_enter Try.func14, Try.ntmps14
    go_wp2
    go_ret
    exact ⟨by rw [HE.out]; exact ret_eq (by omega), rfl⟩
theorem rk_inj (x y : Int) (h : rk x = rk y) : x = y := by rw [← unr_rk x, h, unr_rk]
/-- Two vectors that are alike as far as j, and there are not. -/
theorem first_unlike (V W : List Int) (j : Nat) (hl : V.length = W.length) (hp : pl13 V = pl13 W) (hj : j < V.length) (ht : V.take j = W.take j) (hne : V.getD j 0 ≠ W.getD j 0) :
    decide ((ix13 V : Int) < (ix13 W : Int)) = decide ((rk (V.getD j 0) : Int) < (rk (W.getD j 0) : Int)) := by
  have e1 : V = V.take j ++ V.getD j 0 :: V.drop (j + 1) := by rw [← drop_one V j hj, List.take_append_drop]
  have e2 : W = V.take j ++ W.getD j 0 :: W.drop (j + 1) := by rw [ht, ← drop_one W j (by omega), List.take_append_drop]
  have hlr : (V.drop (j + 1)).length = (W.drop (j + 1)).length := by rw [List.length_drop, List.length_drop, hl]
  generalize V.getD j 0 = x at *
  generalize W.getD j 0 = y at *
  generalize V.drop (j + 1) = r at *
  generalize W.drop (j + 1) = s at *
  generalize V.take j = p at *
  subst e1
  subst e2
  rcases Nat.lt_trichotomy (rk x) (rk y) with h | h | h
  · have := ix_first p x y r s hlr hp h
    rw [decide_eq_true (by omega), decide_eq_true (by omega)]
  · exact absurd (rk_inj x y h) hne
  · have := ix_first p y x s r hlr.symm hp.symm h
    rw [decide_eq_false (by omega), decide_eq_false (by omega)]
theorem vc_one (n k i : Nat) (hk : k ≤ 12) (h : i < cn13 n k) (j : Nat) (hj : j < n) : -1000 ≤ (vc13 n k i).getD j 0 ∧ (vc13 n k i).getD j 0 ≤ 1000 := by
  obtain ⟨g1, g2, g3⟩ := vc_all n k i h
  have := pl_one (vc13 n k i) j (by omega)
  omega
theorem take_more (V W : List Int) (j : Nat) (h1 : j < V.length) (h2 : j < W.length) (ht : V.take j = W.take j) (he : V.getD j 0 = W.getD j 0) : V.take (j + 1) = W.take (j + 1) := by
  rw [take_snoc V j h1, take_snoc W j h2, ht, he]
end Go.Proofs.Ytjdiecpbjajkiaa
