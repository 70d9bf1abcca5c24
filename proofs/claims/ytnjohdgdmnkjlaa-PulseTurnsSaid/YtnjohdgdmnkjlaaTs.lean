/-
  Plain facts of layers 14 and 20: pulses as they are found, one by one; that no others are nearer; coefficients turned about. No program is named here. No conditions but those that each fact names.
-/
import Derived.Test.YtnjohdgdmnkjlaaTp
namespace Go.Proofs.Ytnjohdgdmnkjlaa.M

/-- The first of the least of four. -/
def bs4 (g : Nat → Int) : Nat :=
  if g 3 < g (if g 2 < g (if g 1 < g 0 then 1 else 0) then 2 else if g 1 < g 0 then 1 else 0) then 3 else if g 2 < g (if g 1 < g 0 then 1 else 0) then 2 else if g 1 < g 0 then 1 else 0
theorem bs4_all (g : Nat → Int) : bs4 g < 4 ∧ ∀ j, j < 4 → g (bs4 g) ≤ g j ∧ (j < bs4 g → g (bs4 g) < g j) := by
  unfold bs4
  by_cases h1 : g 1 < g 0
  · rw [if_pos h1]
    by_cases h2 : g 2 < g 1
    · rw [if_pos h2]
      by_cases h3 : g 3 < g 2
      · rw [if_pos h3]
        refine ⟨by omega, fun j hj => ?_⟩
        have hj2 : j = 0 ∨ j = 1 ∨ j = 2 ∨ j = 3 := by omega
        rcases hj2 with rfl | rfl | rfl | rfl <;> constructor <;> first | omega | (intro _; omega)
      · rw [if_neg h3]
        refine ⟨by omega, fun j hj => ?_⟩
        have hj2 : j = 0 ∨ j = 1 ∨ j = 2 ∨ j = 3 := by omega
        rcases hj2 with rfl | rfl | rfl | rfl <;> constructor <;> first | omega | (intro _; omega)
    · rw [if_neg h2]
      by_cases h3 : g 3 < g 1
      · rw [if_pos h3]
        refine ⟨by omega, fun j hj => ?_⟩
        have hj2 : j = 0 ∨ j = 1 ∨ j = 2 ∨ j = 3 := by omega
        rcases hj2 with rfl | rfl | rfl | rfl <;> constructor <;> first | omega | (intro _; omega)
      · rw [if_neg h3]
        refine ⟨by omega, fun j hj => ?_⟩
        have hj2 : j = 0 ∨ j = 1 ∨ j = 2 ∨ j = 3 := by omega
        rcases hj2 with rfl | rfl | rfl | rfl <;> constructor <;> first | omega | (intro _; omega)
  · rw [if_neg h1]
    by_cases h2 : g 2 < g 0
    · rw [if_pos h2]
      by_cases h3 : g 3 < g 2
      · rw [if_pos h3]
        refine ⟨by omega, fun j hj => ?_⟩
        have hj2 : j = 0 ∨ j = 1 ∨ j = 2 ∨ j = 3 := by omega
        rcases hj2 with rfl | rfl | rfl | rfl <;> constructor <;> first | omega | (intro _; omega)
      · rw [if_neg h3]
        refine ⟨by omega, fun j hj => ?_⟩
        have hj2 : j = 0 ∨ j = 1 ∨ j = 2 ∨ j = 3 := by omega
        rcases hj2 with rfl | rfl | rfl | rfl <;> constructor <;> first | omega | (intro _; omega)
    · rw [if_neg h2]
      by_cases h3 : g 3 < g 0
      · rw [if_pos h3]
        refine ⟨by omega, fun j hj => ?_⟩
        have hj2 : j = 0 ∨ j = 1 ∨ j = 2 ∨ j = 3 := by omega
        rcases hj2 with rfl | rfl | rfl | rfl <;> constructor <;> first | omega | (intro _; omega)
      · rw [if_neg h3]
        refine ⟨by omega, fun j hj => ?_⟩
        have hj2 : j = 0 ∨ j = 1 ∨ j = 2 ∨ j = 3 := by omega
        rcases hj2 with rfl | rfl | rfl | rfl <;> constructor <;> first | omega | (intro _; omega)
/-- There is one such alone. -/
theorem bs4_one (g : Nat → Int) (a : Nat) (ha : a < 4) (h : ∀ j, j < 4 → g a ≤ g j ∧ (j < a → g a < g j)) : bs4 g = a := by
  obtain ⟨h1, h2⟩ := bs4_all g
  have e1 := h2 a ha
  have e2 := h (bs4 g) h1
  rcases Nat.lt_trichotomy a (bs4 g) with k | k | k
  · have := e1.2 k; omega
  · exact k.symm
  · have := e2.2 k; omega
/-- Pulses given, one by one: how many each has. -/
def fd4 (x : Nat → Int) (G : Int) : Nat → Nat → Nat
  | 0 => fun _ => 0
  | n + 1 => more (fd4 x G n) (bs4 fun i => dl (x i) G (fd4 x G n i))
theorem fd4_fair (x : Nat → Int) (G : Int) (hG : 0 ≤ G) (n : Nat) : Fair x G (fd4 x G n) := by
  induction n with
  | zero => exact fair_none x G hG
  | succ n ih =>
    obtain ⟨h1, h2⟩ := bs4_all fun i => dl (x i) G (fd4 x G n i)
    exact fair_more x G hG _ ih _ h1 fun j hj => (h2 j hj).1
theorem s4_more (y : Nat → Nat) (i : Nat) (hi : i < 4) : s4 (fun j => (more y i j : Int)) = s4 (fun j => (y j : Int)) + 1 := by
  have h : i = 0 ∨ i = 1 ∨ i = 2 ∨ i = 3 := by omega
  unfold s4 more
  rcases h with rfl | rfl | rfl | rfl <;> simp <;> omega
theorem fd4_sum (x : Nat → Int) (G : Int) (n : Nat) : s4 (fun i => (fd4 x G n i : Int)) = n := by
  induction n with
  | zero => rfl
  | succ n ih =>
    show s4 (fun i => (more (fd4 x G n) (bs4 fun i => dl (x i) G (fd4 x G n i)) i : Int)) = _
    rw [s4_more _ _ (bs4_all _).1, ih]; omega
/-- The pulses that are found. -/
def fnd (c : Nat → Int) (G : Int) (n : Nat) : Nat → Int := fun i => sgn (c i) (fd4 (fun i => ab (c i)) G n i)
theorem fnd_sum (c : Nat → Int) (G : Int) (n : Nat) : s4 (fun i => ((fnd c G n i).natAbs : Int)) = n := by
  have : (fun i => ((fnd c G n i).natAbs : Int)) = fun i => (fd4 (fun i => ab (c i)) G n i : Int) := by
    funext i
    unfold fnd
    rw [sgn_abs]
  rw [this, fd4_sum]
/-- PulseLeast: no vector of as many pulses is nearer. -/
theorem fnd_least (c z : Nat → Int) (G : Int) (hG : 0 ≤ G) (n : Nat) (hz : s4 (fun i => ((z i).natAbs : Int)) = n) : dis c (fnd c G n) G ≤ dis c z G :=
  dis_least c z G hG _ (fd4_fair _ G hG n) (by rw [fd4_sum, hz])
theorem fnd_sign (c : Nat → Int) (G : Int) (n i : Nat) (h : fnd c G n i ≠ 0) : fnd c G n i < 0 ↔ c i < 0 := by
  unfold fnd sgn at h ⊢
  by_cases hc : 0 ≤ c i
  · rw [if_pos hc] at h ⊢; omega
  · rw [if_neg hc] at h ⊢; omega
/-- PulseExact. -/
theorem fnd_exact (z : Nat → Int) (G : Int) (hG : 1 ≤ G) (n : Nat) (hz : s4 (fun i => ((z i).natAbs : Int)) = n) (i : Nat) (hi : i < 4) : fnd (fun i => z i * G) G n i = z i :=
  dis_exact z G hG _ (fd4_fair _ G (by omega) n) (by rw [fd4_sum, hz]) i hi
/-- PulseTurns. -/
theorem fnd_turn (c : Nat → Int) (G : Int) (n i : Nat) (h : c i ≠ 0) : fnd (fun i => -(c i)) G n i = -(fnd c G n i) := by
  have e : (fun i => ab (-(c i))) = fun i => ab (c i) := by
    funext j
    unfold ab; omega
  unfold fnd
  rw [e]
  unfold sgn
  simp only
  by_cases hc : 0 ≤ c i
  · rw [if_neg (by omega), if_pos hc]
  · rw [if_pos (by omega), if_neg hc]; omega
theorem dis_turn (c z : Nat → Int) (G : Int) : dis (fun i => -(c i)) (fun i => -(z i)) G = dis c z G := by
  unfold dis s4
  have e : ∀ j, ab (-(c j) - -(z j) * G) = ab (c j - z j * G) := by
    intro j
    rw [Int.neg_mul]
    unfold ab; omega
  simp only [e]
/-- One pulse more changes the distance by its own part. -/
theorem dis_more (c : Nat → Int) (G : Int) (y : Nat → Nat) (i : Nat) (hi : i < 4) : dis c (fun j => sgn (c j) (more y i j)) G = dis c (fun j => sgn (c j) (y j)) G + dl (ab (c i)) G (y i) := by
  have e : ∀ (w : Nat → Nat) j, ab (c j - sgn (c j) (w j) * G) = gp (ab (c j)) G (w j) := fun w j => gp_own (c j) G (w j)
  unfold dis
  have e1 : (fun j => ab (c j - sgn (c j) (more y i j) * G)) = fun j => gp (ab (c j)) G (more y i j) := by funext j; exact e _ j
  have e2 : (fun j => ab (c j - sgn (c j) (y j) * G)) = fun j => gp (ab (c j)) G (y j) := by funext j; exact e _ j
  rw [e1, e2]
  have h : i = 0 ∨ i = 1 ∨ i = 2 ∨ i = 3 := by omega
  unfold s4 dl more
  rcases h with rfl | rfl | rfl | rfl <;> simp <;> omega
end Go.Proofs.Ytnjohdgdmnkjlaa.M
