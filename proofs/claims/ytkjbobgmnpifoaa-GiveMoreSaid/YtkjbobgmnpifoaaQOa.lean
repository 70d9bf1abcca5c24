/-
  Plain facts of layer 8: Newton's steps towards a root, a bit's search for it, how many bits a number has. No program is named here. No conditions.
-/
import Derived.Test.YtkjbobgmnpifoaaQTa
import Derived.Lib.BitFns
namespace Go.Proofs.Ytkjbobgmnpifoaa.M

theorem bitLenAux_lt : ∀ (f x : Nat), x < 2 ^ f → x < 2 ^ Go.Lib.bitLenAux f x
  | 0, x, h => by simp at h; subst h; decide
  | f + 1, x, h => by
    show x < 2 ^ (if x = 0 then 0 else 1 + Go.Lib.bitLenAux f (x / 2))
    split
    · subst_vars; decide
    · have := bitLenAux_lt f (x / 2) (by rw [Nat.pow_succ] at h; omega)
      rw [Nat.add_comm, Nat.pow_succ]
      omega
theorem bitLen_lt (x : Nat) (h : x < 18446744073709551616) : x < 2 ^ Go.Lib.bitLen x := bitLenAux_lt 64 x h
theorem bitLen_64 (x : Nat) (h : x < 18446744073709551616) : Go.Lib.bitLen x ≤ 64 := Go.Lib.bitLen_le x 64 (Nat.le_refl _) h
theorem sq4 (a b : Nat) : 4 * (a * b) ≤ (a + b) * (a + b) := by
  have h : ∀ (u v : Nat), 4 * (u * (u + v)) ≤ (u + (u + v)) * (u + (u + v)) := by
    intro u v
    have : (u + (u + v)) * (u + (u + v)) = 4 * (u * (u + v)) + v * v := by grind
    omega
  rcases Nat.le_total a b with e | e
  · obtain ⟨v, rfl⟩ := Nat.le.dest e
    exact h a v
  · obtain ⟨v, rfl⟩ := Nat.le.dest e
    rw [Nat.mul_comm (b + v) b, Nat.add_comm (b + v) b]
    exact h b v
/-- A start: no less than the root. -/
def rt0 (n : Nat) : Nat := 2 ^ ((Go.Lib.bitLen n + 1) / 2)
theorem rt0_lt (n : Nat) (h : n < 18446744073709551616) : n < (rt0 n + 1) * (rt0 n + 1) := by
  have h1 := bitLen_lt n h
  have h2 : 2 ^ Go.Lib.bitLen n ≤ rt0 n * rt0 n := by
    unfold rt0
    rw [← Nat.pow_add]
    exact Nat.pow_le_pow_right (by omega) (by omega)
  have h3 : (rt0 n + 1) * (rt0 n + 1) = rt0 n * rt0 n + 2 * rt0 n + 1 := by grind
  omega
theorem rt0_bd (n : Nat) (h : n < 4611686018427387904) : 1 ≤ rt0 n ∧ rt0 n ≤ 2147483648 := by
  have h1 := Go.Lib.bitLen_le n 62 (by decide) h
  refine ⟨Nat.two_pow_pos _, ?_⟩
  have : rt0 n ≤ 2 ^ 31 := Nat.pow_le_pow_right (by omega) (by omega)
  exact this
/-- One of Newton's steps. -/
def rtS (n r : Nat) : Nat := (r + n / r) / 2
theorem rtS_lt (n r : Nat) (hr : 1 ≤ r) : n < (rtS n r + 1) * (rtS n r + 1) := by
  have h1 : n < r * (n / r + 1) := by rw [Nat.mul_add, Nat.mul_one]; have := Nat.div_add_mod n r; have := Nat.mod_lt n (show r > 0 by omega); omega
  have h2 := sq4 r (n / r + 1)
  have h3 : r + (n / r + 1) ≤ 2 * (rtS n r + 1) := by unfold rtS; omega
  have h4 := Nat.mul_le_mul h3 h3
  have h5 : 2 * (rtS n r + 1) * (2 * (rtS n r + 1)) = 4 * ((rtS n r + 1) * (rtS n r + 1)) := by grind
  omega
theorem rtS_pos (n r : Nat) (hr : 1 ≤ r) (hn : 1 ≤ n) : 1 ≤ rtS n r := by
  unfold rtS
  rcases Nat.lt_or_ge r 2 with e | e
  · obtain rfl : r = 1 := by omega
    rw [Nat.div_one]
    omega
  · have := Nat.zero_le (n / r)
    omega
theorem rtS_end (n r : Nat) (h : r ≤ rtS n r) : r * r ≤ n := by
  unfold rtS at h
  have h1 : r ≤ n / r := by omega
  have := Nat.mul_le_mul (Nat.le_refl r) h1
  have := Nat.div_add_mod n r
  omega
/-- The root, as a function. -/
def rtN : Nat → Nat
  | 0 => 0
  | n + 1 => if n + 1 < (rtN n + 1) * (rtN n + 1) then rtN n else rtN n + 1
theorem rtN_root : ∀ (n : Nat), IsRoot n (rtN n)
  | 0 => ⟨by decide, by decide⟩
  | n + 1 => by
    obtain ⟨h1, h2⟩ := rtN_root n
    show IsRoot (n + 1) (if n + 1 < (rtN n + 1) * (rtN n + 1) then rtN n else rtN n + 1)
    generalize rtN n = r at *
    split
    · exact ⟨by omega, by assumption⟩
    · refine ⟨by omega, ?_⟩
      have : (r + 1 + 1) * (r + 1 + 1) = (r + 1) * (r + 1) + 2 * r + 3 := by grind
      omega
theorem rtN_is (n r : Nat) (h : IsRoot n r) : rtN n = r := isRoot_one n _ _ (rtN_root n) h
theorem rtN_bd (n : Nat) (h : n < 4611686018427387904) : rtN n ≤ 2147483647 := by
  have h1 := (rtN_root n).1
  rcases Nat.lt_or_ge (rtN n) 2147483648 with e | e
  · omega
  · have := Nat.mul_le_mul e e
    omega
/-- The cosine of the program's place i. -/
def hc (i : Nat) : Nat := (halves.getD (6 - i) (0, 0)).1
def hs (i : Nat) : Nat := (halves.getD (6 - i) (0, 0)).2
theorem hc_top : rtN ((1073741824 + 0) * 536870912) = hc 6 ∧ rtN ((1073741824 - 0) * 536870912) = hs 6 := by
  have := halves_root 0 (by decide)
  exact ⟨rtN_is _ _ this.1, rtN_is _ _ this.2⟩
theorem hc_next (i : Nat) (hi : i < 6) : rtN ((1073741824 + hc (i + 1)) * 536870912) = hc i ∧ rtN ((1073741824 - hc (i + 1)) * 536870912) = hs i := by
  have := halves_root (6 - i) (by omega)
  have e : ahead (6 - i) = hc (i + 1) := by
    unfold ahead hc
    rw [if_neg (by omega), show 6 - i - 1 = 6 - (i + 1) by omega]
  rw [e] at this
  exact ⟨rtN_is _ _ this.1, rtN_is _ _ this.2⟩
theorem hc_bd (i : Nat) (hi : i ≤ 6) : hc i ≤ 1073741824 ∧ hs i ≤ 1073741824 := halves_bd (6 - i) (by omega)
end Go.Proofs.Ytkjbobgmnpifoaa.M
