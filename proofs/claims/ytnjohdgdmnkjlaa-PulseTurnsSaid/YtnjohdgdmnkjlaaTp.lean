/-
  Plain facts of layer 14: pulses given one by one, each where the distance falls most: no vector of as many pulses is nearer. No program is named here. No conditions but those that each fact names.
-/
import Derived.Test.YtnjohdgdmnkjlaaMath
namespace Go.Proofs.Ytnjohdgdmnkjlaa.M

/-- A number without its sign. -/
def ab (t : Int) : Int := max t (-t)
/-- How far n pulses of the gain G are from x; how that grows by one more. -/
def gp (x G : Int) (n : Nat) : Int := ab (x - n * G)
def dl (x G : Int) (n : Nat) : Int := gp x G (n + 1) - gp x G n
theorem next_mul (G : Int) (n : Nat) : ((n + 1 : Nat) : Int) * G = n * G + G := by rw [Int.natCast_add]; grind
theorem dl_rise (x G : Int) (hG : 0 ≤ G) (n : Nat) : dl x G n ≤ dl x G (n + 1) := by
  unfold dl gp ab
  rw [next_mul G (n + 1), next_mul G n]
  generalize (n : Int) * G = t
  omega
theorem dl_least (x G : Int) (hG : 0 ≤ G) (n : Nat) : -G ≤ dl x G n := by
  unfold dl gp ab
  rw [next_mul G n]
  generalize (n : Int) * G = t
  omega
/-- The line under the distances at y. -/
theorem line_up (x G l : Int) (hG : 0 ≤ G) (y : Nat) (h : l ≤ dl x G y) (d : Nat) : gp x G y + l * d ≤ gp x G (y + d) ∧ l ≤ dl x G (y + d) := by
  induction d with
  | zero => exact ⟨by show gp x G y + l * 0 ≤ gp x G y; rw [Int.mul_zero]; omega, h⟩
  | succ d ih =>
    obtain ⟨h1, h2⟩ := ih
    have h3 := dl_rise x G hG (y + d)
    refine ⟨?_, by rw [← Nat.add_assoc]; omega⟩
    have e : l * ((d + 1 : Nat) : Int) = l * d + l := by rw [Int.natCast_add]; grind
    rw [e, ← Nat.add_assoc]
    unfold dl at h2
    omega
theorem line_dn (x G l : Int) (hG : 0 ≤ G) (d : Nat) : ∀ y, d ≤ y → (1 ≤ y → dl x G (y - 1) ≤ l) → gp x G y - l * d ≤ gp x G (y - d) := by
  induction d with
  | zero => intro y _ _; show gp x G y - l * 0 ≤ gp x G y; rw [Int.mul_zero]; omega
  | succ d ih =>
    intro y hy h
    have h1 := h (by omega)
    have h2 := ih (y - 1) (by omega) (fun hy1 => by
      have := dl_rise x G hG (y - 1 - 1)
      rw [show y - 1 - 1 + 1 = y - 1 by omega] at this
      omega)
    have e : l * ((d + 1 : Nat) : Int) = l * d + l := by rw [Int.natCast_add]; grind
    rw [e, show y - (d + 1) = y - 1 - d by omega]
    unfold dl at h1
    rw [show y - 1 + 1 = y by omega] at h1
    omega
theorem line_all (x G l : Int) (hG : 0 ≤ G) (y n : Nat) (h1 : 1 ≤ y → dl x G (y - 1) ≤ l) (h2 : l ≤ dl x G y) : gp x G y + l * ((n : Int) - y) ≤ gp x G n := by
  rcases Nat.le_total y n with h | h
  · have := (line_up x G l hG y h2 (n - y)).1
    rw [show y + (n - y) = n by omega, show ((n - y : Nat) : Int) = (n : Int) - y by omega] at this
    exact this
  · have := line_dn x G l hG (y - n) y (by omega) h1
    rw [show y - (y - n) = n by omega, show ((y - n : Nat) : Int) = (y : Int) - n by omega] at this
    have e : l * ((y : Int) - n) = -(l * ((n : Int) - y)) := by grind
    rw [e] at this
    omega

/-- A sum over four. -/
def s4 (f : Nat → Int) : Int := f 0 + f 1 + f 2 + f 3
/-- What pulses are, that were given one by one. -/
def Fair (x : Nat → Int) (G : Int) (y : Nat → Nat) : Prop := ∃ l, ∀ i, i < 4 → (1 ≤ y i → dl (x i) G (y i - 1) ≤ l) ∧ l ≤ dl (x i) G (y i)
theorem fair_none (x : Nat → Int) (G : Int) (hG : 0 ≤ G) : Fair x G fun _ => 0 := ⟨-G, fun i _ => ⟨fun h => by simp at h, dl_least (x i) G hG 0⟩⟩
/-- One pulse more. -/
def more (y : Nat → Nat) (i : Nat) : Nat → Nat := fun j => if j = i then y j + 1 else y j
theorem fair_more (x : Nat → Int) (G : Int) (hG : 0 ≤ G) (y : Nat → Nat) (h : Fair x G y) (i : Nat) (hi : i < 4) (hb : ∀ j, j < 4 → dl (x i) G (y i) ≤ dl (x j) G (y j)) : Fair x G (more y i) := by
  obtain ⟨l, hl⟩ := h
  refine ⟨dl (x i) G (y i), fun j hj => ?_⟩
  unfold more
  by_cases e : j = i
  · subst e
    rw [if_pos rfl, Nat.add_sub_cancel]
    exact ⟨fun _ => Int.le_refl _, dl_rise (x j) G hG (y j)⟩
  · rw [if_neg e]
    have h1 := (hl i hi).2
    exact ⟨fun h => Int.le_trans ((hl j hj).1 h) h1, hb j hj⟩
/-- No vector of as many pulses is nearer. -/
theorem fair_least (x : Nat → Int) (G : Int) (hG : 0 ≤ G) (y n : Nat → Nat) (h : Fair x G y) (hs : s4 (fun i => (y i : Int)) = s4 (fun i => (n i : Int))) : s4 (fun i => gp (x i) G (y i)) ≤ s4 (fun i => gp (x i) G (n i)) := by
  obtain ⟨l, hl⟩ := h
  have k := fun i (hi : i < 4) => line_all (x i) G l hG (y i) (n i) (hl i hi).1 (hl i hi).2
  have k0 := k 0 (by omega)
  have k1 := k 1 (by omega)
  have k2 := k 2 (by omega)
  have k3 := k 3 (by omega)
  simp only [s4] at hs ⊢
  have e : l * ((n 0 : Int) - y 0) + l * ((n 1 : Int) - y 1) + l * ((n 2 : Int) - y 2) + l * ((n 3 : Int) - y 3) = l * (((n 0 : Int) + n 1 + n 2 + n 3) - ((y 0 : Int) + y 1 + y 2 + y 3)) := by grind
  rw [hs, Int.sub_self, Int.mul_zero] at e
  omega
theorem ab_mul (z G : Int) (hG : 0 ≤ G) : ab (z * G) = (z.natAbs : Int) * G := by
  unfold ab
  rcases Int.le_total 0 z with h | h
  · have e : (z.natAbs : Int) = z := by omega
    have := Int.mul_nonneg h hG
    rw [e]; omega
  · have e : (z.natAbs : Int) = -z := by omega
    have := Int.mul_nonneg (show 0 ≤ -z by omega) hG
    rw [e, Int.neg_mul]
    rw [Int.neg_mul] at this
    omega
/-- A number's pulses are no nearer than as many of its own sign. -/
theorem gp_sign (c z G : Int) (hG : 0 ≤ G) : gp (ab c) G z.natAbs ≤ ab (c - z * G) := by
  have h := ab_mul z G hG
  unfold gp
  rw [← h]
  generalize z * G = t
  unfold ab
  omega
/-- Pulses of the coefficient's own sign. -/
def sgn (c : Int) (n : Nat) : Int := if 0 ≤ c then n else -n
theorem gp_own (c G : Int) (n : Nat) : ab (c - sgn c n * G) = gp (ab c) G n := by
  unfold sgn gp
  by_cases h : 0 ≤ c
  · rw [if_pos h]
    have e : ab c = c := by unfold ab; omega
    rw [e]
  · rw [if_neg h]
    have e : ab c = -c := by unfold ab; omega
    rw [e, Int.neg_mul]
    generalize (n : Int) * G = t
    unfold ab
    omega
theorem sgn_abs (c : Int) (n : Nat) : (sgn c n).natAbs = n := by
  unfold sgn
  split <;> omega
/-- The distance of pulses from coefficients. -/
def dis (c z : Nat → Int) (G : Int) : Int := s4 fun i => ab (c i - z i * G)
theorem dis_least (c z : Nat → Int) (G : Int) (hG : 0 ≤ G) (y : Nat → Nat) (h : Fair (fun i => ab (c i)) G y) (hs : s4 (fun i => (y i : Int)) = s4 (fun i => ((z i).natAbs : Int))) : dis c (fun i => sgn (c i) (y i)) G ≤ dis c z G := by
  have k := fair_least (fun i => ab (c i)) G hG y (fun i => (z i).natAbs) h hs
  simp only [dis, s4, gp_own]
  simp only [s4] at k
  have g0 := gp_sign (c 0) (z 0) G hG
  have g1 := gp_sign (c 1) (z 1) G hG
  have g2 := gp_sign (c 2) (z 2) G hG
  have g3 := gp_sign (c 3) (z 3) G hG
  omega
theorem ab_nn (t : Int) : 0 ≤ ab t := by unfold ab; omega
/-- Coefficients that pulses stand for are found as these. -/
theorem dis_exact (z : Nat → Int) (G : Int) (hG : 1 ≤ G) (y : Nat → Nat) (h : Fair (fun i => ab (z i * G)) G y) (hs : s4 (fun i => (y i : Int)) = s4 (fun i => ((z i).natAbs : Int))) (i : Nat) (hi : i < 4) : sgn (z i * G) (y i) = z i := by
  have k := dis_least (fun i => z i * G) z G (by omega) y h hs
  simp only [dis, s4, Int.sub_self] at k
  have n0 := ab_nn (z 0 * G - sgn (z 0 * G) (y 0) * G)
  have n1 := ab_nn (z 1 * G - sgn (z 1 * G) (y 1) * G)
  have n2 := ab_nn (z 2 * G - sgn (z 2 * G) (y 2) * G)
  have n3 := ab_nn (z 3 * G - sgn (z 3 * G) (y 3) * G)
  have e0 : ab 0 = 0 := rfl
  have hz : ab (z i * G - sgn (z i * G) (y i) * G) = 0 := by
    have hi4 : i = 0 ∨ i = 1 ∨ i = 2 ∨ i = 3 := by omega
    rcases hi4 with rfl | rfl | rfl | rfl <;> omega
  have hm : (z i - sgn (z i * G) (y i)) * G = 0 := by
    have e : (z i - sgn (z i * G) (y i)) * G = z i * G - sgn (z i * G) (y i) * G := by grind
    rw [e]
    unfold ab at hz
    omega
  rcases Int.mul_eq_zero.1 hm with h1 | h1
  · omega
  · omega
end Go.Proofs.Ytnjohdgdmnkjlaa.M
