/-
  Plain facts of layers 16 and 17: a band's step by its greatest; budgets, their slopes; how far pulses are. No program is named here. No conditions but those that each fact names.
-/
import Derived.Test.YtkjbobgmnpifoaaQMath
namespace Go.Proofs.Ytkjbobgmnpifoaa.M

/-- The least of so many steps that a greatest fits, from s on. -/
def stpN (m : Nat) (s : Nat) : Nat → Nat
  | 0 => s
  | n + 1 => if m ≤ 6 * 2 ^ s then s else stpN m (s + 1) n
/-- The step of a greatest. -/
def stp (m : Nat) : Nat := stpN m 0 15
theorem pow2_le (s t : Nat) (h : s ≤ t) : 2 ^ s ≤ 2 ^ t := Nat.pow_le_pow_right (by decide) h
theorem stpN_ge (m n : Nat) : ∀ s, s ≤ stpN m s n := by
  induction n with
  | zero => intro s; exact Nat.le_refl _
  | succ n ih =>
    intro s
    unfold stpN
    by_cases h : m ≤ 6 * 2 ^ s
    · rw [if_pos h]; exact Nat.le_refl _
    · rw [if_neg h]
      have := ih (s + 1)
      omega
theorem stpN_le (m n : Nat) : ∀ s, stpN m s n ≤ s + n := by
  induction n with
  | zero => intro s; exact Nat.le_refl _
  | succ n ih =>
    intro s
    unfold stpN
    by_cases h : m ≤ 6 * 2 ^ s
    · rw [if_pos h]; omega
    · rw [if_neg h]
      have := ih (s + 1)
      omega
theorem stpN_iff (m n : Nat) : ∀ s t, s ≤ t → t < s + n → (stpN m s n ≤ t ↔ m ≤ 6 * 2 ^ t) := by
  induction n with
  | zero => intro s t h1 h2; omega
  | succ n ih =>
    intro s t h1 h2
    unfold stpN
    by_cases h : m ≤ 6 * 2 ^ s
    · rw [if_pos h]
      have := pow2_le s t h1
      constructor
      · intro _; omega
      · intro _; exact h1
    · rw [if_neg h]
      by_cases e : s = t
      · subst e
        have := stpN_ge m n (s + 1)
        constructor
        · intro k; omega
        · intro k; exact absurd k h
      · exact ih (s + 1) t (by omega) (by omega)
theorem stp_le (m : Nat) : stp m ≤ 15 := by
  have := stpN_le m 15 0
  unfold stp; omega
/-- Where a step ends. -/
theorem stp_iff (m t : Nat) (h : t < 15) : stp m ≤ t ↔ m ≤ 6 * 2 ^ t := stpN_iff m 15 0 t (by omega) (by omega)
/-- BandLoud. -/
theorem stp_loud (m : Nat) : (stp m = 15 ∨ m ≤ 6 * 2 ^ stp m) ∧ (stp m = 0 ∨ 3 * 2 ^ stp m < m) := by
  have h15 := stp_le m
  constructor
  · by_cases e : stp m = 15
    · exact Or.inl e
    · exact Or.inr ((stp_iff m (stp m) (by omega)).1 (Nat.le_refl _))
  · by_cases e : stp m = 0
    · exact Or.inl e
    · right
      have h := stp_iff m (stp m - 1) (by omega)
      have e2 : 2 ^ stp m = 2 * 2 ^ (stp m - 1) := by
        rw [show stp m = (stp m - 1) + 1 by omega, Nat.pow_succ, Nat.add_sub_cancel]; omega
      rcases Nat.lt_or_ge (6 * 2 ^ (stp m - 1)) m with k | k
      · omega
      · have := h.2 k
        omega
theorem stp_mono (m n : Nat) (h : m ≤ n) : stp m ≤ stp n := by
  have h15 := stp_le m
  by_cases e : stp n = 15
  · omega
  · have hn := stp_le n
    have := (stp_iff n (stp n) (by omega)).1 (Nat.le_refl _)
    exact (stp_iff m (stp n) (by omega)).2 (by omega)
/-- BandDoubles. -/
theorem stp_twice (m : Nat) : stp m ≤ stp (2 * m) ∧ stp (2 * m) ≤ stp m + 1 ∧ (stp m = 0 ∨ stp (2 * m) = min (stp m + 1) 15) := by
  have h15 := stp_le m
  have h16 := stp_le (2 * m)
  have hm := stp_mono m (2 * m) (by omega)
  have up : stp (2 * m) ≤ stp m + 1 := by
    by_cases e : stp m < 14
    · have h1 := (stp_iff m (stp m) (by omega)).1 (Nat.le_refl _)
      refine (stp_iff (2 * m) (stp m + 1) (by omega)).2 ?_
      rw [Nat.pow_succ]; omega
    · omega
  refine ⟨hm, up, ?_⟩
  by_cases e : stp m = 0
  · exact Or.inl e
  · right
    by_cases e2 : stp m = 15
    · omega
    · have : ¬ stp (2 * m) ≤ stp m := by
        intro k
        have h1 := (stp_iff (2 * m) (stp m) (by omega)).1 k
        have h2 := stp_iff m (stp m - 1) (by omega)
        have e3 : 2 ^ stp m = 2 * 2 ^ (stp m - 1) := by
          rw [show stp m = (stp m - 1) + 1 by omega, Nat.pow_succ, Nat.add_sub_cancel]; omega
        have := h2.2 (by omega)
        omega
      omega

/-- How much louder a band must be to hide another one. -/
def shf (j b : Nat) : Nat := if j ≤ b then b - j else 2 * (j - b)
def bud1 (s : Nat → Nat) (j b : Nat) : Nat := 4 * 2 ^ s j / 2 ^ shf j b
/-- The greatest over the first n bands. -/
def budN (s : Nat → Nat) (b : Nat) : Nat → Nat
  | 0 => 0
  | n + 1 => max (budN s b n) (bud1 s n b)
def bud (s : Nat → Nat) (b : Nat) : Nat := budN s b 8
theorem budN_ge (s : Nat → Nat) (b j n : Nat) (h : j < n) : bud1 s j b ≤ budN s b n := by
  induction n with
  | zero => omega
  | succ n ih =>
    unfold budN
    by_cases e : j = n
    · subst e; exact Nat.le_max_right _ _
    · exact Nat.le_trans (ih (by omega)) (Nat.le_max_left _ _)
theorem budN_le (s : Nat → Nat) (b n m : Nat) (h : ∀ j, j < n → bud1 s j b ≤ m) : budN s b n ≤ m := by
  induction n with
  | zero => exact Nat.zero_le _
  | succ n ih =>
    unfold budN
    exact Nat.max_le.2 ⟨ih fun j hj => h j (by omega), h n (by omega)⟩
theorem bud1_self (s : Nat → Nat) (b : Nat) : bud1 s b b = 4 * 2 ^ s b := by
  unfold bud1 shf
  rw [if_pos (Nat.le_refl _), Nat.sub_self, Nat.pow_zero, Nat.div_one]
/-- MaskLeast. -/
theorem bud_least (s : Nat → Nat) (b : Nat) (hb : b < 8) : 4 * 2 ^ s b ≤ bud s b := by
  rw [← bud1_self]; exact budN_ge s b b 8 hb
theorem bud_mono (s s' : Nat → Nat) (b : Nat) (h : ∀ j, j < 8 → s j ≤ s' j) : bud s b ≤ bud s' b := by
  refine budN_le s b 8 _ fun j hj => Nat.le_trans ?_ (budN_ge s' b j 8 hj)
  unfold bud1
  exact Nat.div_le_div_right (Nat.mul_le_mul_left _ (pow2_le _ _ (h j hj)))
/-- A slope behind a slope is steeper. -/
theorem bud1_up (s : Nat → Nat) (j b : Nat) : bud1 s j b / 2 ≤ bud1 s j (b + 1) := by
  unfold bud1
  rw [Nat.div_div_eq_div_mul, ← Nat.pow_succ]
  apply Nat.div_le_div_left
  · apply pow2_le
    unfold shf
    split <;> split <;> omega
  · exact Nat.two_pow_pos _
theorem bud1_down (s : Nat → Nat) (j b : Nat) : bud1 s j (b + 1) / 4 ≤ bud1 s j b := by
  unfold bud1
  rw [Nat.div_div_eq_div_mul, show 2 ^ shf j (b + 1) * 4 = 2 ^ (shf j (b + 1) + 2) by rw [Nat.pow_add]]
  apply Nat.div_le_div_left
  · apply pow2_le
    unfold shf
    split <;> split <;> omega
  · exact Nat.two_pow_pos _
/-- The greatest is one of them. -/
theorem budN_is (s : Nat → Nat) (b n : Nat) (h : 0 < n) : ∃ j, j < n ∧ budN s b n = bud1 s j b := by
  induction n with
  | zero => omega
  | succ n ih =>
    by_cases e : n = 0
    · subst e
      refine ⟨0, by omega, ?_⟩
      show max 0 (bud1 s 0 b) = _
      omega
    · obtain ⟨j, hj, k⟩ := ih (by omega)
      unfold budN
      rcases Nat.le_total (budN s b n) (bud1 s n b) with h1 | h1
      · exact ⟨n, by omega, by omega⟩
      · exact ⟨j, by omega, by omega⟩
/-- MaskSlopes. -/
theorem bud_slopes (s : Nat → Nat) (b : Nat) : bud s b / 2 ≤ bud s (b + 1) ∧ bud s (b + 1) / 4 ≤ bud s b := by
  constructor
  · obtain ⟨j, hj, e⟩ := budN_is s b 8 (by decide)
    have h1 := bud1_up s j b
    have h2 := budN_ge s (b + 1) j 8 hj
    unfold bud
    omega
  · obtain ⟨j, hj, e⟩ := budN_is s (b + 1) 8 (by decide)
    have h1 := bud1_down s j b
    have h2 := budN_ge s b j 8 hj
    unfold bud
    omega
theorem bud_lt (s : Nat → Nat) (b : Nat) (h : ∀ j, j < 8 → s j ≤ 15) : bud s b ≤ 131072 := by
  refine budN_le s b 8 _ fun j hj => ?_
  have := pow2_le (s j) 15 (h j hj)
  unfold bud1
  exact Nat.le_trans (Nat.div_le_self _ _) (by omega)
/-- Halved n times. -/
theorem halved (x n : Nat) : x / 2 ^ n / 2 = x / 2 ^ (n + 1) := by rw [Nat.div_div_eq_div_mul, ← Nat.pow_succ]
/-- How far lists of numbers are. -/
def farL : List Int → List Int → Nat
  | a :: as, b :: bs => (a - b).natAbs + farL as bs
  | _, _ => 0
theorem farL_comm : ∀ a b : List Int, farL a b = farL b a
  | [], [] => rfl
  | [], _ :: _ => rfl
  | _ :: _, [] => rfl
  | a :: as, b :: bs => by
    unfold farL
    rw [farL_comm as bs]
    omega
theorem farL_zero : ∀ a b : List Int, a.length = b.length → (farL a b = 0 ↔ a = b)
  | [], [], _ => by simp [farL]
  | a :: as, b :: bs, h => by
    have ih := farL_zero as bs (by simpa using h)
    unfold farL
    rw [List.cons.injEq, ← ih]
    omega
end Go.Proofs.Ytkjbobgmnpifoaa.M
