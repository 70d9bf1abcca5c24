/-
  Plain facts of layer 13: how counts of n numbers are made of those of n - 1, place by place, and how great they are; how few bits numbers below a count fit into. No program is named here. No conditions but those that each fact names.
-/
import Derived.Test.YtnjohdgdmnkjlaaTq
namespace Go.Proofs.Ytnjohdgdmnkjlaa.M
theorem ah_bd (f : Nat → Nat) (k M : Nat) (h : ∀ j, j ≤ k → f j ≤ M) : ∀ R, ah f k R ≤ R * M
  | 0 => Nat.zero_le _
  | R + 1 => by
    have h1 := ah_bd f k M h R
    have h2 := h (k - sz R) (Nat.sub_le _ _)
    show ah f k R + f (k - sz R) ≤ (R + 1) * M
    rw [Nat.succ_mul]
    omega
/-- How great counts are, of no more than 12 pulses. -/
theorem cn_bd : ∀ n k, k ≤ 12 → cn13 n k ≤ 25 ^ n
  | 0, k, _ => by unfold cn13; split <;> omega
  | n + 1, k, h => by
    have h1 := ah_bd (cn13 n) k (25 ^ n) (fun j hj => cn_bd n j (by omega)) (2 * k + 1)
    have h2 : (2 * k + 1) * 25 ^ n ≤ 25 * 25 ^ n := Nat.mul_le_mul_right _ (by omega)
    show ah (cn13 n) k (2 * k + 1) ≤ 25 ^ (n + 1)
    rw [Nat.pow_succ, Nat.mul_comm (25 ^ n) 25]
    omega
theorem cn_bd8 (n k : Nat) (hn : n ≤ 8) (hk : k ≤ 12) : cn13 n k ≤ 152587890625 := Nat.le_trans (cn_bd n k hk) (Nat.le_trans (Nat.pow_le_pow_right (by decide) hn) (by decide))
/-- A count as far as x pulses of its first number. -/
def ax13 (f : Nat → Nat) (a x : Nat) : Nat := if x = 0 then 0 else ah f a (2 * x - 1)
theorem ax_zero (f : Nat → Nat) (a : Nat) : ax13 f a 0 = 0 := rfl
theorem ax_first (f : Nat → Nat) (a : Nat) : ax13 f a 0 + f (a - 0) = ax13 f a 1 := by
  show 0 + f (a - 0) = 0 + f (a - sz 0)
  rfl
theorem ax_step (f : Nat → Nat) (a x : Nat) (h : 0 < x) : ax13 f a x + f (a - x) + f (a - x) = ax13 f a (x + 1) := by
  obtain ⟨y, rfl⟩ : ∃ y, x = y + 1 := ⟨x - 1, by omega⟩
  unfold ax13
  rw [if_neg (by omega), if_neg (by omega), show 2 * (y + 1) - 1 = 2 * y + 1 by omega, show 2 * (y + 1 + 1) - 1 = 2 * y + 1 + 1 + 1 by omega]
  have s1 : sz (2 * y + 1) = y + 1 := by unfold sz; omega
  have s2 : sz (2 * y + 1 + 1) = y + 1 := by unfold sz; omega
  show _ = ah f a (2 * y + 1) + f (a - sz (2 * y + 1)) + f (a - sz (2 * y + 1 + 1))
  rw [s1, s2]
theorem ax_full (n a : Nat) : ax13 (cn13 n) a (a + 1) = cn13 (n + 1) a := by
  unfold ax13
  rw [if_neg (by omega), show 2 * (a + 1) - 1 = 2 * a + 1 by omega]
  rfl
theorem ax_bd (n a x : Nat) (hn : n < 8) (ha : a ≤ 12) (hx : x ≤ a + 1) : ax13 (cn13 n) a x ≤ 152587890625 := by
  have h := cn_bd8 (n + 1) a (by omega) ha
  rw [← ax_full] at h
  refine Nat.le_trans ?_ h
  unfold ax13
  by_cases e : x = 0
  · rw [if_pos e]; exact Nat.zero_le _
  · rw [if_neg e, if_neg (by omega)]
    exact ah_mono _ _ _ _ (by omega)
/-- The counts of n numbers, with 0 to k pulses; those of the next number as far as a pulses, and x of the first number. -/
def wy13 (n k : Nat) : List Int := (List.range (k + 1)).map fun j => (cn13 n j : Int)
def nx13 (n k a x : Nat) : List Int := (List.range (k + 1)).map fun j => if j < a then (cn13 (n + 1) j : Int) else if j = a then (ax13 (cn13 n) a x : Int) else 0
theorem wy_len (n k : Nat) : (wy13 n k).length = k + 1 := by simp [wy13]
theorem nx_len (n k a x : Nat) : (nx13 n k a x).length = k + 1 := by simp [nx13]
theorem wy_at (n k j : Nat) (h : j ≤ k) : (wy13 n k).getD j 0 = (cn13 n j : Int) := by
  unfold wy13
  rw [List.getD_eq_getElem?_getD, List.getElem?_map, List.getElem?_range (by omega)]
  rfl
theorem nx_at (n k a x : Nat) (h : a ≤ k) : (nx13 n k a x).getD a 0 = (ax13 (cn13 n) a x : Int) := by
  unfold nx13
  rw [List.getD_eq_getElem?_getD, List.getElem?_map, List.getElem?_range (by omega)]
  show (if a < a then _ else if a = a then _ else _) = _
  rw [if_neg (by omega), if_pos rfl]
theorem rgs13 {α : Type} (n : Nat) (f g : Nat → α) (j : Nat) (x : α) (hj : x = g j) (ho : ∀ i, i < n → i ≠ j → f i = g i) : ((List.range n).map f).set j x = (List.range n).map g := by
  apply List.ext_getElem
  · simp
  · intro i h1 h2
    simp only [List.length_set, List.length_map, List.length_range] at h1
    rw [List.getElem_set]
    by_cases e : j = i
    · rw [if_pos e, hj, e]; simp
    · rw [if_neg e]
      simp only [List.getElem_map, List.getElem_range]
      exact ho i h1 fun q => e q.symm
theorem nx_set (n k a x y : Nat) : (nx13 n k a x).set a (ax13 (cn13 n) a y : Int) = nx13 n k a y := by
  unfold nx13
  refine rgs13 _ _ _ _ _ ?_ ?_
  · rw [if_neg (by omega), if_pos rfl]
  · intro i _ hne
    rw [if_neg hne, if_neg hne]
theorem nx_zero (n k : Nat) : nx13 n k 0 0 = List.replicate (k + 1) 0 := by
  unfold nx13
  have e : (fun j => if j < 0 then (cn13 (n + 1) j : Int) else if j = 0 then (ax13 (cn13 n) 0 0 : Int) else 0) = fun _ => 0 := by
    funext j
    rw [if_neg (by omega)]
    split <;> rfl
  rw [e, List.map_const', List.length_range]
/-- The next place. -/
theorem nx_next (n k a : Nat) : nx13 n k a (a + 1) = nx13 n k (a + 1) 0 := by
  unfold nx13
  congr 1
  funext j
  by_cases h1 : j < a
  · rw [if_pos h1, if_pos (by omega)]
  · by_cases h2 : j = a
    · subst h2
      rw [if_neg h1, if_pos rfl, if_pos (by omega), ax_full]
    · rw [if_neg h1, if_neg h2, if_neg (by omega)]
      split <;> rfl
theorem nx_full (n k : Nat) : nx13 n k (k + 1) 0 = wy13 (n + 1) k := by
  unfold nx13 wy13
  refine List.map_congr_left fun j hj => ?_
  rw [if_pos (List.mem_range.1 hj)]
theorem wy_zero (k : Nat) : wy13 0 k = (List.replicate (k + 1) 0).set 0 1 := by
  rw [show List.replicate (k + 1) (0 : Int) = (List.range (k + 1)).map fun _ => 0 by rw [List.map_const', List.length_range]]
  refine Eq.symm (rgs13 _ _ _ _ _ rfl ?_)
  intro i _ hne
  show (0 : Int) = ((cn13 0 i : Nat) : Int)
  unfold cn13
  rw [if_neg hne]
  rfl
/-- How few bits the numbers below a count fit into, a half at a time. -/
def bl13 : Nat → Nat → Nat
  | 0, _ => 0
  | f + 1, m => if 0 < m then bl13 f (m / 2) + 1 else 0
theorem bl_pow : ∀ f m, m < 2 ^ f → m < 2 ^ bl13 f m ∧ (0 < m → 2 ^ bl13 f m ≤ 2 * m)
  | 0, m, h => by
    have : m = 0 := by omega
    subst this
    exact ⟨by decide, fun h => by omega⟩
  | f + 1, m, h => by
    show m < 2 ^ (if 0 < m then bl13 f (m / 2) + 1 else 0) ∧ _
    by_cases e : 0 < m
    · rw [if_pos e]
      rw [Nat.pow_succ] at h
      obtain ⟨h1, h2⟩ := bl_pow f (m / 2) (by omega)
      rw [Nat.pow_succ]
      refine ⟨by omega, fun _ => ?_⟩
      show 2 ^ (if 0 < m then bl13 f (m / 2) + 1 else 0) ≤ 2 * m
      rw [if_pos e, Nat.pow_succ]
      by_cases g : 0 < m / 2
      · have := h2 g; omega
      · have e3 : m / 2 = 0 := by omega
        rw [e3]
        have : bl13 f 0 = 0 := by cases f <;> rfl
        rw [this]
        omega
    · rw [if_neg e]
      exact ⟨by omega, fun h => absurd h e⟩
end Go.Proofs.Ytnjohdgdmnkjlaa.M
