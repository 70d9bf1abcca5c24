/-
  Plain facts of layer 13: all vectors of n numbers with k pulses, in order, one behind the other; that the i-th of them is the vector of number i; and all vectors of four as three loops find them. No program is named here. No conditions but those that each fact names.
-/
import Derived.Test.YtnjohdgdmnkjlaaTq
namespace Go.Proofs.Ytnjohdgdmnkjlaa.M
/-- The vectors that begin with the numbers of the first R ranks; all vectors. -/
def alU (f : Nat → List (List Int)) (k : Nat) : Nat → List (List Int)
  | 0 => []
  | R + 1 => alU f k R ++ (f (k - sz R)).map fun v => unr R :: v
def al13 : Nat → Nat → List (List Int)
  | 0, k => if k = 0 then [[]] else []
  | n + 1, k => alU (al13 n) k (2 * k + 1)
theorem alU_len (f : Nat → List (List Int)) (g : Nat → Nat) (k : Nat) (h : ∀ j, (f j).length = g j) : ∀ R, (alU f k R).length = ah g k R
  | 0 => rfl
  | R + 1 => by
    show (alU f k R ++ (f (k - sz R)).map fun v => unr R :: v).length = ah g k R + g (k - sz R)
    rw [List.length_append, List.length_map, h, alU_len f g k h R]
theorem al_len : ∀ n k, (al13 n k).length = cn13 n k
  | 0, k => by
    unfold al13 cn13
    split <;> rfl
  | n + 1, k => alU_len (al13 n) (cn13 n) k (al_len n) (2 * k + 1)
theorem alU_get (f : Nat → List (List Int)) (g : Nat → Nat) (k : Nat) (h : ∀ j, (f j).length = g j) (i r : Nat) (h1 : ah g k r ≤ i) (h2 : i < ah g k (r + 1)) : ∀ R, r < R → (alU f k R)[i]? = ((f (k - sz r))[i - ah g k r]?).map fun v => unr r :: v
  | 0, hr => by omega
  | R + 1, hr => by
    show (alU f k R ++ (f (k - sz R)).map fun v => unr R :: v)[i]? = _
    rcases Nat.lt_or_ge r R with e | e
    · have hm := ah_mono g k (r + 1) R e
      rw [List.getElem?_append_left (by rw [alU_len f g k h]; omega), alU_get f g k h i r h1 h2 R e]
    · obtain rfl : r = R := by omega
      rw [List.getElem?_append_right (by rw [alU_len f g k h]; exact h1), alU_len f g k h, List.getElem?_map]
/-- The i-th of them is the vector of number i. -/
theorem al_get : ∀ n k i, i < cn13 n k → (al13 n k)[i]? = some (vc13 n k i)
  | 0, k, i, h => by
    unfold cn13 at h
    by_cases e : k = 0
    · rw [if_pos e] at h
      obtain rfl : i = 0 := by omega
      unfold al13
      rw [if_pos e]
      rfl
    · rw [if_neg e] at h
      omega
  | n + 1, k, i, h => by
    obtain ⟨h1, h2, h3⟩ := pk_at (cn13 n) k i (2 * k) h
    obtain ⟨r, hr⟩ : ∃ r, pk (cn13 n) k i (2 * k) = r := ⟨_, rfl⟩
    rw [hr] at h1 h2 h3
    have h4 : ah (cn13 n) k (r + 1) = ah (cn13 n) k r + cn13 n (k - sz r) := rfl
    show (alU (al13 n) k (2 * k + 1))[i]? = some (unr (pk (cn13 n) k i (2 * k)) :: vc13 n (k - sz (pk (cn13 n) k i (2 * k))) (i - ah (cn13 n) k (pk (cn13 n) k i (2 * k))))
    rw [hr, alU_get (al13 n) (cn13 n) k (al_len n) i r h1 h2 _ (by omega), al_get n _ _ (by omega)]
    rfl
/-- Three loops over the ranks: what they append at three numbers, and behind so many of each. -/
def ce13 (k a b c : Nat) : List (List Int) :=
  if k < sz a + sz b + sz c then [] else
  if k = sz a + sz b + sz c then [[unr a, unr b, unr c, 0]] else
  [[unr a, unr b, unr c, ((k - (sz a + sz b + sz c) : Nat) : Int)], [unr a, unr b, unr c, -((k - (sz a + sz b + sz c) : Nat) : Int)]]
def co13 (k a b : Nat) : Nat → List (List Int)
  | 0 => []
  | C + 1 => co13 k a b C ++ ce13 k a b C
def bo13 (k a : Nat) : Nat → List (List Int)
  | 0 => []
  | B + 1 => bo13 k a B ++ co13 k a B (2 * k + 1)
def ao13 (k : Nat) : Nat → List (List Int)
  | 0 => []
  | A + 1 => ao13 k A ++ bo13 k A (2 * k + 1)
/-- Vectors of one number. -/
theorem alU_nil (f : Nat → List (List Int)) (k : Nat) : ∀ R, (∀ r, r < R → f (k - sz r) = []) → alU f k R = []
  | 0, _ => rfl
  | R + 1, h => by
    show alU f k R ++ (f (k - sz R)).map (fun v => unr R :: v) = []
    rw [alU_nil f k R (fun r hr => h r (by omega)), h R (by omega)]
    rfl
theorem al_none (n : Nat) : al13 n 0 = [List.replicate n 0] := by
  induction n with
  | zero => rfl
  | succ n ih =>
    show [] ++ (al13 n (0 - sz 0)).map (fun v => unr 0 :: v) = _
    rw [show 0 - sz 0 = 0 from rfl, ih]
    rfl
theorem al_one (k : Nat) : al13 1 k = if k = 0 then [[0]] else [[(k : Int)], [-(k : Int)]] := by
  by_cases h : k = 0
  · subst h; rfl
  · rw [if_neg h]
    obtain ⟨j, rfl⟩ : ∃ j, k = j + 1 := ⟨k - 1, by omega⟩
    have e : al13 1 (j + 1) = alU (al13 0) (j + 1) (2 * j + 1) ++ (al13 0 (j + 1 - sz (2 * j + 1))).map (fun v => unr (2 * j + 1) :: v) ++ (al13 0 (j + 1 - sz (2 * j + 2))).map (fun v => unr (2 * j + 2) :: v) := rfl
    have s1 : sz (2 * j + 1) = j + 1 := by unfold sz; omega
    have s2 : sz (2 * j + 2) = j + 1 := by unfold sz; omega
    rw [e, alU_nil _ _ _ (fun r hr => by
      have : sz r ≤ j := by unfold sz; omega
      show (if j + 1 - sz r = 0 then [[]] else []) = []
      rw [if_neg (by omega)]), s1, s2, Nat.sub_self]
    have u1 : unr (2 * j + 1) = ((j + 1 : Nat) : Int) := by unfold unr; rw [if_pos (by omega), s1]
    have u2 : unr (2 * j + 2) = -((j + 1 : Nat) : Int) := by unfold unr; rw [if_neg (by omega), s2]
    rw [u1, u2]
    rfl
theorem ce_is (k a b c : Nat) (h : sz a + sz b + sz c ≤ k) : ce13 k a b c = (al13 1 (k - (sz a + sz b + sz c))).map fun v => unr a :: unr b :: unr c :: v := by
  unfold ce13
  rw [if_neg (by omega), al_one]
  by_cases e : k = sz a + sz b + sz c
  · rw [if_pos e, if_pos (by omega)]
    rfl
  · rw [if_neg e, if_neg (by omega)]
    rfl
theorem ce_no (k a b c : Nat) (h : k < sz a + sz b + sz c) : ce13 k a b c = [] := by
  unfold ce13
  rw [if_pos h]
theorem co_is (k a b : Nat) (h : sz a + sz b ≤ k) : ∀ C, C ≤ 2 * (k - (sz a + sz b)) + 1 → co13 k a b C = (alU (al13 1) (k - (sz a + sz b)) C).map fun v => unr a :: unr b :: v
  | 0, _ => rfl
  | C + 1, hC => by
    have hs : sz C ≤ k - (sz a + sz b) := by unfold sz at *; omega
    show co13 k a b C ++ ce13 k a b C = (alU (al13 1) (k - (sz a + sz b)) C ++ (al13 1 (k - (sz a + sz b) - sz C)).map fun v => unr C :: v).map fun v => unr a :: unr b :: v
    rw [co_is k a b h C (by omega), ce_is k a b C (by omega), List.map_append, List.map_map, show k - (sz a + sz b) - sz C = k - (sz a + sz b + sz C) by omega]
    rfl
theorem co_stay (k a b : Nat) (h : sz a + sz b ≤ k) : ∀ d, co13 k a b (2 * (k - (sz a + sz b)) + 1 + d) = co13 k a b (2 * (k - (sz a + sz b)) + 1)
  | 0 => rfl
  | d + 1 => by
    show co13 k a b (2 * (k - (sz a + sz b)) + 1 + d) ++ ce13 k a b (2 * (k - (sz a + sz b)) + 1 + d) = _
    have hs : k - (sz a + sz b) < sz (2 * (k - (sz a + sz b)) + 1 + d) := by
      obtain ⟨q, hq⟩ : ∃ q, k - (sz a + sz b) = q := ⟨_, rfl⟩
      rw [hq]; unfold sz; omega
    rw [ce_no _ _ _ _ (by omega), List.append_nil, co_stay k a b h d]
theorem co_full (k a b : Nat) (h : sz a + sz b ≤ k) : co13 k a b (2 * k + 1) = (al13 2 (k - (sz a + sz b))).map fun v => unr a :: unr b :: v := by
  have e := co_stay k a b h (2 * (sz a + sz b))
  rw [show 2 * (k - (sz a + sz b)) + 1 + 2 * (sz a + sz b) = 2 * k + 1 by omega] at e
  rw [e, co_is k a b h _ (Nat.le_refl _)]
  rfl
theorem co_no (k a b : Nat) (h : k < sz a + sz b) : ∀ C, co13 k a b C = []
  | 0 => rfl
  | C + 1 => by
    show co13 k a b C ++ ce13 k a b C = []
    rw [co_no k a b h C, ce_no _ _ _ _ (by omega)]
    rfl
theorem bo_is (k a : Nat) (h : sz a ≤ k) : ∀ B, B ≤ 2 * (k - sz a) + 1 → bo13 k a B = (alU (al13 2) (k - sz a) B).map fun v => unr a :: v
  | 0, _ => rfl
  | B + 1, hB => by
    have hs : sz B ≤ k - sz a := by
      obtain ⟨q, hq⟩ : ∃ q, k - sz a = q := ⟨_, rfl⟩
      rw [hq] at hB ⊢; unfold sz; omega
    show bo13 k a B ++ co13 k a B (2 * k + 1) = (alU (al13 2) (k - sz a) B ++ (al13 2 (k - sz a - sz B)).map fun v => unr B :: v).map fun v => unr a :: v
    rw [bo_is k a h B (by omega), co_full k a B (by omega), List.map_append, List.map_map, show k - sz a - sz B = k - (sz a + sz B) by omega]
    rfl
theorem bo_stay (k a : Nat) (h : sz a ≤ k) : ∀ d, bo13 k a (2 * (k - sz a) + 1 + d) = bo13 k a (2 * (k - sz a) + 1)
  | 0 => rfl
  | d + 1 => by
    show bo13 k a (2 * (k - sz a) + 1 + d) ++ co13 k a (2 * (k - sz a) + 1 + d) (2 * k + 1) = _
    have hs : k - sz a < sz (2 * (k - sz a) + 1 + d) := by
      obtain ⟨q, hq⟩ : ∃ q, k - sz a = q := ⟨_, rfl⟩
      rw [hq]; unfold sz; omega
    rw [co_no _ _ _ (by omega), List.append_nil, bo_stay k a h d]
theorem bo_full (k a : Nat) (h : sz a ≤ k) : bo13 k a (2 * k + 1) = (al13 3 (k - sz a)).map fun v => unr a :: v := by
  have e := bo_stay k a h (2 * sz a)
  rw [show 2 * (k - sz a) + 1 + 2 * sz a = 2 * k + 1 by omega] at e
  rw [e, bo_is k a h _ (Nat.le_refl _)]
  rfl
theorem ao_is (k : Nat) : ∀ A, A ≤ 2 * k + 1 → ao13 k A = alU (al13 3) k A
  | 0, _ => rfl
  | A + 1, hA => by
    have hs : sz A ≤ k := by unfold sz; omega
    show ao13 k A ++ bo13 k A (2 * k + 1) = alU (al13 3) k A ++ (al13 3 (k - sz A)).map fun v => unr A :: v
    rw [ao_is k A (by omega), bo_full k A hs]
/-- Three loops find all vectors of four, in order. -/
theorem ao_full (k : Nat) : ao13 k (2 * k + 1) = al13 4 k := ao_is k _ (Nat.le_refl _)
end Go.Proofs.Ytnjohdgdmnkjlaa.M
