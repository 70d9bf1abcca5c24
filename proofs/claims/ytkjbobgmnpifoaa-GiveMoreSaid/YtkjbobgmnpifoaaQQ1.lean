/-
  Contracts and plain facts that the laws share; each piece is headed by what it holds and its conditions.
-/
import Derived.Test.YtkjbobgmnpifoaaQMath

/- Plain facts of layer 13: vectors of so many pulses, counted and numbered; that numbers and vectors undo each other, and the order. No program is named here. No conditions but those that each fact names. -/
namespace Go.Proofs.Ytkjbobgmnpifoaa.M

/-- The size of the number of a rank among 0, 1, -1, 2, ..; that number; a number's rank. -/
def sz (r : Nat) : Nat := (r + 1) / 2
def unr (r : Nat) : Int := if r % 2 = 1 then (sz r : Int) else -(sz r : Int)
def rk (x : Int) : Nat := if 0 < x then 2 * x.toNat - 1 else 2 * (-x).toNat
theorem rk_unr (r : Nat) : rk (unr r) = r := by
  unfold rk unr sz
  by_cases h : r % 2 = 1
  · rw [if_pos h, if_pos (by omega)]; omega
  · rw [if_neg h, if_neg (by omega)]; omega
theorem unr_rk (x : Int) : unr (rk x) = x := by
  unfold rk unr sz
  by_cases h : 0 < x
  · rw [if_pos h, if_pos (by omega)]; omega
  · rw [if_neg h, if_neg (by omega)]; omega
theorem unr_sz (r : Nat) : (unr r).natAbs = sz r := by
  unfold unr
  split <;> omega
theorem sz_rk (x : Int) : sz (rk x) = x.natAbs := by
  unfold sz rk
  split <;> omega
theorem rk_le (x : Int) : rk x ≤ 2 * x.natAbs := by
  unfold rk
  split <;> omega

/-- How many stand ahead of the first number of rank r, f counting the rests. -/
def ah (f : Nat → Nat) (k : Nat) : Nat → Nat
  | 0 => 0
  | r + 1 => ah f k r + f (k - sz r)
/-- How many vectors of n numbers have k pulses. -/
def cn13 : Nat → Nat → Nat
  | 0, k => if k = 0 then 1 else 0
  | n + 1, k => ah (cn13 n) k (2 * k + 1)
theorem ah_mono (f : Nat → Nat) (k r s : Nat) (h : r ≤ s) : ah f k r ≤ ah f k s := by
  induction s with
  | zero => rw [show r = 0 by omega]; exact Nat.le_refl _
  | succ s ih =>
    rcases Nat.lt_or_ge s r with e | e
    · rw [show r = s + 1 by omega]; exact Nat.le_refl _
    · have := ih e
      show _ ≤ ah f k s + f (k - sz s)
      omega
theorem ah_one (f : Nat → Nat) (k i r s : Nat) (h1 : ah f k r ≤ i) (h2 : i < ah f k (r + 1)) (h3 : ah f k s ≤ i) (h4 : i < ah f k (s + 1)) : r = s := by
  rcases Nat.lt_trichotomy r s with e | e | e
  · have := ah_mono f k (r + 1) s e
    omega
  · exact e
  · have := ah_mono f k (s + 1) r e
    omega
/-- A vector's pulses, and its number. -/
def pl13 : List Int → Nat
  | [] => 0
  | x :: r => x.natAbs + pl13 r
def ix13 : List Int → Nat
  | [] => 0
  | x :: r => ah (cn13 r.length) (x.natAbs + pl13 r) (rk x) + ix13 r
theorem ah_next (f : Nat → Nat) (x : Int) (p : Nat) : ah f (x.natAbs + p) (rk x + 1) = ah f (x.natAbs + p) (rk x) + f p := by
  show _ + f (x.natAbs + p - sz (rk x)) = _
  rw [sz_rk, Nat.add_sub_cancel_left]
/-- Numbers are less than the count. -/
theorem ix_lt : ∀ y : List Int, ix13 y < cn13 y.length (pl13 y)
  | [] => by decide
  | x :: r => by
    have ih := ix_lt r
    have h1 := ah_next (cn13 r.length) x (pl13 r)
    have h2 := rk_le x
    have h3 := ah_mono (cn13 r.length) (x.natAbs + pl13 r) (rk x + 1) (2 * (x.natAbs + pl13 r) + 1) (by omega)
    show ah (cn13 r.length) (x.natAbs + pl13 r) (rk x) + ix13 r < ah (cn13 r.length) (x.natAbs + pl13 r) (2 * (x.natAbs + pl13 r) + 1)
    omega
/-- The greatest rank with no more ahead of it than i. -/
def pk (f : Nat → Nat) (k i : Nat) : Nat → Nat
  | 0 => 0
  | r + 1 => if ah f k (r + 1) ≤ i then r + 1 else pk f k i r
theorem pk_at (f : Nat → Nat) (k i : Nat) : ∀ R, i < ah f k (R + 1) → ah f k (pk f k i R) ≤ i ∧ i < ah f k (pk f k i R + 1) ∧ pk f k i R ≤ R
  | 0, h => ⟨Nat.zero_le _, h, Nat.le_refl _⟩
  | R + 1, h => by
    unfold pk
    by_cases e : ah f k (R + 1) ≤ i
    · rw [if_pos e]
      exact ⟨e, h, Nat.le_refl _⟩
    · rw [if_neg e]
      obtain ⟨h1, h2, h3⟩ := pk_at f k i R (by omega)
      exact ⟨h1, h2, by omega⟩
/-- The vector whose number is i. -/
def vc13 : Nat → Nat → Nat → List Int
  | 0, _, _ => []
  | n + 1, k, i => unr (pk (cn13 n) k i (2 * k)) :: vc13 n (k - sz (pk (cn13 n) k i (2 * k))) (i - ah (cn13 n) k (pk (cn13 n) k i (2 * k)))
theorem vc_all : ∀ n k i, i < cn13 n k → (vc13 n k i).length = n ∧ pl13 (vc13 n k i) = k ∧ ix13 (vc13 n k i) = i
  | 0, k, i, h => by
    unfold cn13 at h
    by_cases e : k = 0
    · rw [if_pos e] at h
      exact ⟨rfl, e.symm, by show 0 = i; omega⟩
    · rw [if_neg e] at h
      omega
  | n + 1, k, i, h => by
    obtain ⟨h1, h2, h3⟩ := pk_at (cn13 n) k i (2 * k) h
    obtain ⟨r, hr⟩ : ∃ r, pk (cn13 n) k i (2 * k) = r := ⟨_, rfl⟩
    rw [hr] at h1 h2 h3
    have h4 : ah (cn13 n) k (r + 1) = ah (cn13 n) k r + cn13 n (k - sz r) := rfl
    have hs : sz r ≤ k := by unfold sz; omega
    obtain ⟨g1, g2, g3⟩ := vc_all n (k - sz r) (i - ah (cn13 n) k r) (by omega)
    show (unr (pk (cn13 n) k i (2 * k)) :: vc13 n (k - sz (pk (cn13 n) k i (2 * k))) (i - ah (cn13 n) k (pk (cn13 n) k i (2 * k)))).length = n + 1 ∧ pl13 (unr (pk (cn13 n) k i (2 * k)) :: vc13 n (k - sz (pk (cn13 n) k i (2 * k))) (i - ah (cn13 n) k (pk (cn13 n) k i (2 * k)))) = k ∧ ix13 (unr (pk (cn13 n) k i (2 * k)) :: vc13 n (k - sz (pk (cn13 n) k i (2 * k))) (i - ah (cn13 n) k (pk (cn13 n) k i (2 * k)))) = i
    rw [hr]
    refine ⟨by rw [List.length_cons, g1], ?_, ?_⟩
    · show (unr r).natAbs + pl13 _ = k
      rw [unr_sz, g2]; omega
    · show ah (cn13 (vc13 n (k - sz r) (i - ah (cn13 n) k r)).length) ((unr r).natAbs + pl13 (vc13 n (k - sz r) (i - ah (cn13 n) k r))) (rk (unr r)) + ix13 (vc13 n (k - sz r) (i - ah (cn13 n) k r)) = i
      rw [g1, g2, g3, unr_sz, rk_unr, show sz r + (k - sz r) = k by omega]
      omega
theorem vc_ix : ∀ y : List Int, vc13 y.length (pl13 y) (ix13 y) = y
  | [] => rfl
  | x :: r => by
    have ih := vc_ix r
    have hlt := ix_lt r
    have hx := ix_lt (x :: r)
    have h1 := ah_next (cn13 r.length) x (pl13 r)
    have e : ix13 (x :: r) = ah (cn13 r.length) (x.natAbs + pl13 r) (rk x) + ix13 r := rfl
    have ep : pl13 (x :: r) = x.natAbs + pl13 r := rfl
    obtain ⟨k1, k2, k3⟩ := pk_at (cn13 r.length) (x.natAbs + pl13 r) (ix13 (x :: r)) (2 * (x.natAbs + pl13 r)) hx
    have hr := ah_one (cn13 r.length) (x.natAbs + pl13 r) (ix13 (x :: r)) _ (rk x) k1 k2 (by omega) (by omega)
    show vc13 (r.length + 1) (x.natAbs + pl13 r) (ix13 (x :: r)) = x :: r
    show unr (pk (cn13 r.length) (x.natAbs + pl13 r) (ix13 (x :: r)) (2 * (x.natAbs + pl13 r))) :: vc13 r.length (x.natAbs + pl13 r - sz (pk (cn13 r.length) (x.natAbs + pl13 r) (ix13 (x :: r)) (2 * (x.natAbs + pl13 r)))) (ix13 (x :: r) - ah (cn13 r.length) (x.natAbs + pl13 r) (pk (cn13 r.length) (x.natAbs + pl13 r) (ix13 (x :: r)) (2 * (x.natAbs + pl13 r)))) = x :: r
    rw [hr, unr_rk, sz_rk, Nat.add_sub_cancel_left, e, Nat.add_sub_cancel_left, ih]
/-- Vectors with the same number, of as many numbers and pulses, are the same. -/
theorem ix_inj (y z : List Int) (h1 : y.length = z.length) (h2 : pl13 y = pl13 z) (h3 : ix13 y = ix13 z) : y = z := by
  rw [← vc_ix y, h1, h2, h3, vc_ix]
/-- The order goes by the first number that is unlike. -/
theorem ix_first (p : List Int) : ∀ (x x' : Int) (r r' : List Int), r.length = r'.length → pl13 (p ++ x :: r) = pl13 (p ++ x' :: r') → rk x < rk x' → ix13 (p ++ x :: r) < ix13 (p ++ x' :: r') := by
  induction p with
  | nil =>
    intro x x' r r' hl hp hr
    have hp' : x.natAbs + pl13 r = x'.natAbs + pl13 r' := hp
    have h1 := ah_next (cn13 r.length) x (pl13 r)
    have h2 := ix_lt r
    have h3 := ah_mono (cn13 r.length) (x.natAbs + pl13 r) (rk x + 1) (rk x') hr
    show ah (cn13 r.length) (x.natAbs + pl13 r) (rk x) + ix13 r < ah (cn13 r'.length) (x'.natAbs + pl13 r') (rk x') + ix13 r'
    rw [← hl, ← hp']
    omega
  | cons t p ih =>
    intro x x' r r' hl hp hr
    have hp' : t.natAbs + pl13 (p ++ x :: r) = t.natAbs + pl13 (p ++ x' :: r') := hp
    have h1 := ih x x' r r' hl (by omega) hr
    show ah (cn13 (p ++ x :: r).length) (t.natAbs + pl13 (p ++ x :: r)) (rk t) + ix13 (p ++ x :: r) < ah (cn13 (p ++ x' :: r').length) (t.natAbs + pl13 (p ++ x' :: r')) (rk t) + ix13 (p ++ x' :: r')
    have e : (p ++ x :: r).length = (p ++ x' :: r').length := by simp [hl]
    rw [e, hp']
    omega
/-- Vectors that begin with 0 come first. -/
theorem vc_zero (n k i : Nat) (h : i < cn13 n k) : vc13 (n + 1) k i = 0 :: vc13 n k i := by
  have e1 : ah (cn13 n) k 1 = cn13 n k := by
    show 0 + cn13 n (k - sz 0) = _
    rw [show sz 0 = 0 from rfl, Nat.sub_zero, Nat.zero_add]
  have hlt : i < ah (cn13 n) k (2 * k + 1) := Nat.lt_of_lt_of_le (by rw [e1]; exact h) (ah_mono _ _ 1 _ (by omega))
  obtain ⟨k1, k2, k3⟩ := pk_at (cn13 n) k i (2 * k) hlt
  have hr := ah_one (cn13 n) k i _ 0 k1 k2 (Nat.zero_le _) (by rw [e1]; exact h)
  show unr (pk (cn13 n) k i (2 * k)) :: vc13 n (k - sz (pk (cn13 n) k i (2 * k))) (i - ah (cn13 n) k (pk (cn13 n) k i (2 * k))) = 0 :: vc13 n k i
  rw [hr]
  rfl
theorem cn_none (n : Nat) : cn13 n 0 = 1 := by
  induction n with
  | zero => rfl
  | succ n ih => show 0 + cn13 n 0 = 1; omega
/-- Counts of one pulse more. -/
theorem ah_shift (f : Nat → Nat) (k : Nat) : ∀ r, r ≤ k → ah f (k + 1) (2 * r + 3) = f (k + 1) + f k + ah f k (2 * r + 1)
  | 0, _ => by
    show 0 + f (k + 1 - 0) + f (k + 1 - 1) + f (k + 1 - 1) = f (k + 1) + f k + (0 + f (k - 0))
    rw [Nat.sub_zero, Nat.add_sub_cancel, Nat.sub_zero]
    omega
  | r + 1, h => by
    have ih := ah_shift f k r (by omega)
    have e1 : ah f (k + 1) (2 * (r + 1) + 3) = ah f (k + 1) (2 * r + 3) + f (k + 1 - sz (2 * r + 3)) + f (k + 1 - sz (2 * r + 4)) := rfl
    have e2 : ah f k (2 * (r + 1) + 1) = ah f k (2 * r + 1) + f (k - sz (2 * r + 1)) + f (k - sz (2 * r + 2)) := rfl
    have s1 : sz (2 * r + 3) = r + 2 := by unfold sz; omega
    have s2 : sz (2 * r + 4) = r + 2 := by unfold sz; omega
    have s3 : sz (2 * r + 1) = r + 1 := by unfold sz; omega
    have s4 : sz (2 * r + 2) = r + 1 := by unfold sz; omega
    rw [e1, e2, ih, s1, s2, s3, s4, show k + 1 - (r + 2) = k - (r + 1) by omega]
    omega
theorem cn_step (n k : Nat) : cn13 (n + 1) (k + 1) = cn13 n (k + 1) + cn13 n k + cn13 (n + 1) k := by
  show ah (cn13 n) (k + 1) (2 * (k + 1) + 1) = _ + _ + ah (cn13 n) k (2 * k + 1)
  exact ah_shift (cn13 n) k k (Nat.le_refl _)
end Go.Proofs.Ytkjbobgmnpifoaa.M

/- Plain facts of layer 13: how counts of n numbers are made of those of n - 1, place by place, and how great they are; how few bits numbers below a count fit into. No program is named here. No conditions but those that each fact names. -/
namespace Go.Proofs.Ytkjbobgmnpifoaa.M
theorem ah_bd (f : Nat → Nat) (k M : Nat) (h : ∀ j, j ≤ k → f j ≤ M) : ∀ R, ah f k R ≤ R * M
  | 0 => Nat.zero_le _
  | R + 1 => by
    have h1 := ah_bd f k M h R
    have h2 := h (k - sz R) (Nat.sub_le _ _)
    show ah f k R + f (k - sz R) ≤ (R + 1) * M
    rw [Nat.succ_mul]
    omega
/-- How great counts are, of no more than 12 pulses. -/
theorem cn_bd : ∀ n k, k ≤ 12 → cn13 n k ≤ 25 ^ n
  | 0, k, _ => by unfold cn13; split <;> omega
  | n + 1, k, h => by
    have h1 := ah_bd (cn13 n) k (25 ^ n) (fun j hj => cn_bd n j (by omega)) (2 * k + 1)
    have h2 : (2 * k + 1) * 25 ^ n ≤ 25 * 25 ^ n := Nat.mul_le_mul_right _ (by omega)
    show ah (cn13 n) k (2 * k + 1) ≤ 25 ^ (n + 1)
    rw [Nat.pow_succ, Nat.mul_comm (25 ^ n) 25]
    omega
theorem cn_bd8 (n k : Nat) (hn : n ≤ 8) (hk : k ≤ 12) : cn13 n k ≤ 152587890625 := Nat.le_trans (cn_bd n k hk) (Nat.le_trans (Nat.pow_le_pow_right (by decide) hn) (by decide))
/-- A count as far as x pulses of its first number. -/
def ax13 (f : Nat → Nat) (a x : Nat) : Nat := if x = 0 then 0 else ah f a (2 * x - 1)
theorem ax_zero (f : Nat → Nat) (a : Nat) : ax13 f a 0 = 0 := rfl
theorem ax_first (f : Nat → Nat) (a : Nat) : ax13 f a 0 + f (a - 0) = ax13 f a 1 := by
  show 0 + f (a - 0) = 0 + f (a - sz 0)
  rfl
theorem ax_step (f : Nat → Nat) (a x : Nat) (h : 0 < x) : ax13 f a x + f (a - x) + f (a - x) = ax13 f a (x + 1) := by
  obtain ⟨y, rfl⟩ : ∃ y, x = y + 1 := ⟨x - 1, by omega⟩
  unfold ax13
  rw [if_neg (by omega), if_neg (by omega), show 2 * (y + 1) - 1 = 2 * y + 1 by omega, show 2 * (y + 1 + 1) - 1 = 2 * y + 1 + 1 + 1 by omega]
  have s1 : sz (2 * y + 1) = y + 1 := by unfold sz; omega
  have s2 : sz (2 * y + 1 + 1) = y + 1 := by unfold sz; omega
  show _ = ah f a (2 * y + 1) + f (a - sz (2 * y + 1)) + f (a - sz (2 * y + 1 + 1))
  rw [s1, s2]
theorem ax_full (n a : Nat) : ax13 (cn13 n) a (a + 1) = cn13 (n + 1) a := by
  unfold ax13
  rw [if_neg (by omega), show 2 * (a + 1) - 1 = 2 * a + 1 by omega]
  rfl
theorem ax_bd (n a x : Nat) (hn : n < 8) (ha : a ≤ 12) (hx : x ≤ a + 1) : ax13 (cn13 n) a x ≤ 152587890625 := by
  have h := cn_bd8 (n + 1) a (by omega) ha
  rw [← ax_full] at h
  refine Nat.le_trans ?_ h
  unfold ax13
  by_cases e : x = 0
  · rw [if_pos e]; exact Nat.zero_le _
  · rw [if_neg e, if_neg (by omega)]
    exact ah_mono _ _ _ _ (by omega)
/-- The counts of n numbers, with 0 to k pulses; those of the next number as far as a pulses, and x of the first number. -/
def wy13 (n k : Nat) : List Int := (List.range (k + 1)).map fun j => (cn13 n j : Int)
def nx13 (n k a x : Nat) : List Int := (List.range (k + 1)).map fun j => if j < a then (cn13 (n + 1) j : Int) else if j = a then (ax13 (cn13 n) a x : Int) else 0
theorem wy_len (n k : Nat) : (wy13 n k).length = k + 1 := by simp [wy13]
theorem nx_len (n k a x : Nat) : (nx13 n k a x).length = k + 1 := by simp [nx13]
theorem wy_at (n k j : Nat) (h : j ≤ k) : (wy13 n k).getD j 0 = (cn13 n j : Int) := by
  unfold wy13
  rw [List.getD_eq_getElem?_getD, List.getElem?_map, List.getElem?_range (by omega)]
  rfl
theorem nx_at (n k a x : Nat) (h : a ≤ k) : (nx13 n k a x).getD a 0 = (ax13 (cn13 n) a x : Int) := by
  unfold nx13
  rw [List.getD_eq_getElem?_getD, List.getElem?_map, List.getElem?_range (by omega)]
  show (if a < a then _ else if a = a then _ else _) = _
  rw [if_neg (by omega), if_pos rfl]
theorem rgs13 {α : Type} (n : Nat) (f g : Nat → α) (j : Nat) (x : α) (hj : x = g j) (ho : ∀ i, i < n → i ≠ j → f i = g i) : ((List.range n).map f).set j x = (List.range n).map g := by
  apply List.ext_getElem
  · simp
  · intro i h1 h2
    simp only [List.length_set, List.length_map, List.length_range] at h1
    rw [List.getElem_set]
    by_cases e : j = i
    · rw [if_pos e, hj, e]; simp
    · rw [if_neg e]
      simp only [List.getElem_map, List.getElem_range]
      exact ho i h1 fun q => e q.symm
theorem nx_set (n k a x y : Nat) : (nx13 n k a x).set a (ax13 (cn13 n) a y : Int) = nx13 n k a y := by
  unfold nx13
  refine rgs13 _ _ _ _ _ ?_ ?_
  · rw [if_neg (by omega), if_pos rfl]
  · intro i _ hne
    rw [if_neg hne, if_neg hne]
theorem nx_zero (n k : Nat) : nx13 n k 0 0 = List.replicate (k + 1) 0 := by
  unfold nx13
  have e : (fun j => if j < 0 then (cn13 (n + 1) j : Int) else if j = 0 then (ax13 (cn13 n) 0 0 : Int) else 0) = fun _ => 0 := by
    funext j
    rw [if_neg (by omega)]
    split <;> rfl
  rw [e, List.map_const', List.length_range]
/-- The next place. -/
theorem nx_next (n k a : Nat) : nx13 n k a (a + 1) = nx13 n k (a + 1) 0 := by
  unfold nx13
  congr 1
  funext j
  by_cases h1 : j < a
  · rw [if_pos h1, if_pos (by omega)]
  · by_cases h2 : j = a
    · subst h2
      rw [if_neg h1, if_pos rfl, if_pos (by omega), ax_full]
    · rw [if_neg h1, if_neg h2, if_neg (by omega)]
      split <;> rfl
theorem nx_full (n k : Nat) : nx13 n k (k + 1) 0 = wy13 (n + 1) k := by
  unfold nx13 wy13
  refine List.map_congr_left fun j hj => ?_
  rw [if_pos (List.mem_range.1 hj)]
theorem wy_zero (k : Nat) : wy13 0 k = (List.replicate (k + 1) 0).set 0 1 := by
  rw [show List.replicate (k + 1) (0 : Int) = (List.range (k + 1)).map fun _ => 0 by rw [List.map_const', List.length_range]]
  refine Eq.symm (rgs13 _ _ _ _ _ rfl ?_)
  intro i _ hne
  show (0 : Int) = ((cn13 0 i : Nat) : Int)
  unfold cn13
  rw [if_neg hne]
  rfl
/-- How few bits the numbers below a count fit into, a half at a time. -/
def bl13 : Nat → Nat → Nat
  | 0, _ => 0
  | f + 1, m => if 0 < m then bl13 f (m / 2) + 1 else 0
theorem bl_pow : ∀ f m, m < 2 ^ f → m < 2 ^ bl13 f m ∧ (0 < m → 2 ^ bl13 f m ≤ 2 * m)
  | 0, m, h => by
    have : m = 0 := by omega
    subst this
    exact ⟨by decide, fun h => by omega⟩
  | f + 1, m, h => by
    show m < 2 ^ (if 0 < m then bl13 f (m / 2) + 1 else 0) ∧ _
    by_cases e : 0 < m
    · rw [if_pos e]
      rw [Nat.pow_succ] at h
      obtain ⟨h1, h2⟩ := bl_pow f (m / 2) (by omega)
      rw [Nat.pow_succ]
      refine ⟨by omega, fun _ => ?_⟩
      show 2 ^ (if 0 < m then bl13 f (m / 2) + 1 else 0) ≤ 2 * m
      rw [if_pos e, Nat.pow_succ]
      by_cases g : 0 < m / 2
      · have := h2 g; omega
      · have e3 : m / 2 = 0 := by omega
        rw [e3]
        have : bl13 f 0 = 0 := by cases f <;> rfl
        rw [this]
        omega
    · rw [if_neg e]
      exact ⟨by omega, fun h => absurd h e⟩
end Go.Proofs.Ytkjbobgmnpifoaa.M
