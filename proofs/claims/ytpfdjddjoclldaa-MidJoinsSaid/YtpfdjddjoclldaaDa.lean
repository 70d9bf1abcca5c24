/-
  Plain facts of layer 10: points as they lie, number by number; a wheel's rounds step by step; waves and the way back step by step; how great the numbers are on the way. No program is named here. No conditions but those that each fact names.
-/
import Derived.Test.YtpfdjddjoclldaaTe
namespace Go.Proofs.Ytpfdjddjoclldaa.M
/-- Points, number by number. -/
def flat : List (Int × Int) → List Int
  | [] => []
  | p :: l => p.1 :: p.2 :: flat l
theorem flat_len : ∀ l, (flat l).length = 2 * l.length
  | [] => rfl
  | p :: l => by
    show (flat l).length + 1 + 1 = 2 * (l.length + 1)
    rw [flat_len l]; omega
theorem flat_fst : ∀ (l : List (Int × Int)) (n : Nat), (flat l).getD (n * 2) 0 = (l.getD n (0, 0)).1
  | [], n => by simp [flat]
  | p :: l, 0 => rfl
  | p :: l, n + 1 => by
    have := flat_fst l n
    rw [show (n + 1) * 2 = n * 2 + 1 + 1 by omega]
    exact this
theorem flat_snd : ∀ (l : List (Int × Int)) (n : Nat), (flat l).getD (n * 2 + 1) 0 = (l.getD n (0, 0)).2
  | [], n => by simp [flat]
  | p :: l, 0 => rfl
  | p :: l, n + 1 => by
    have := flat_snd l n
    rw [show (n + 1) * 2 + 1 = n * 2 + 1 + 1 + 1 by omega]
    exact this
theorem flat_set1 : ∀ (l : List (Int × Int)) (n : Nat) (x : Int), (flat l).set (n * 2) x = flat (l.set n (x, (l.getD n (0, 0)).2))
  | [], n, x => by simp [flat]
  | p :: l, 0, x => rfl
  | p :: l, n + 1, x => by
    have := flat_set1 l n x
    rw [show (n + 1) * 2 = n * 2 + 1 + 1 by omega]
    show p.1 :: p.2 :: (flat l).set (n * 2) x = p.1 :: p.2 :: flat (l.set n (x, (l.getD n (0, 0)).2))
    rw [this]
theorem flat_set2 : ∀ (l : List (Int × Int)) (n : Nat) (y : Int), (flat l).set (n * 2 + 1) y = flat (l.set n ((l.getD n (0, 0)).1, y))
  | [], n, x => by simp [flat]
  | p :: l, 0, x => rfl
  | p :: l, n + 1, y => by
    have := flat_set2 l n y
    rw [show (n + 1) * 2 + 1 = n * 2 + 1 + 1 + 1 by omega]
    show p.1 :: p.2 :: (flat l).set (n * 2 + 1) y = p.1 :: p.2 :: flat (l.set n ((l.getD n (0, 0)).1, y))
    rw [this]
theorem getD_set_self {α : Type} (l : List α) (i : Nat) (x d : α) (h : i < l.length) : (l.set i x).getD i d = x := by
  simp [List.getD_eq_getElem?_getD, h]
theorem getD_set_far {α : Type} (l : List α) (i j : Nat) (x d : α) (h : i ≠ j) : (l.set i x).getD j d = l.getD j d := by
  simp [List.getD_eq_getElem?_getD, List.getElem?_set_ne h]
theorem flat_set (l : List (Int × Int)) (n : Nat) (x y : Int) (h : n < l.length) : ((flat l).set (n * 2) x).set (n * 2 + 1) y = flat (l.set n (x, y)) := by
  rw [flat_set1, flat_set2, getD_set_self _ _ _ _ h, List.set_set]
/-- A round, step by step. -/
def rst (F G : Int × Int → Int × Int → Int → Int × Int) (l : List (Int × Int)) (t : Nat × Nat × Int) : List (Int × Int) :=
  (l.set t.1 (F (l.getD t.1 (0, 0)) (l.getD t.2.1 (0, 0)) t.2.2)).set t.2.1 (G (l.getD t.1 (0, 0)) (l.getD t.2.1 (0, 0)) t.2.2)
theorem rnd_snoc (F G : Int × Int → Int × Int → Int → Int × Int) (t : Nat × Nat × Int) : ∀ (a : List (Nat × Nat × Int)) (l : List (Int × Int)), rnd F G l (a ++ [t]) = rst F G (rnd F G l a) t
  | [], _ => rfl
  | (_, _, _) :: a, _ => rnd_snoc F G t a _
theorem rnd_len (F G : Int × Int → Int × Int → Int → Int × Int) : ∀ (a : List (Nat × Nat × Int)) (l : List (Int × Int)), (rnd F G l a).length = l.length
  | [], _ => rfl
  | (_, _, _) :: a, _ => by
    show (rnd F G _ a).length = _
    rw [rnd_len F G a, List.length_set, List.length_set]
theorem rnd_far (F G : Int × Int → Int × Int → Int → Int × Int) (i : Nat) : ∀ (a : List (Nat × Nat × Int)) (l : List (Int × Int)), (∀ t ∈ a, t.1 ≠ i ∧ t.2.1 ≠ i) → (rnd F G l a).getD i (0, 0) = l.getD i (0, 0)
  | [], l, _ => rfl
  | (p, q, k) :: a, l, h => by
    obtain ⟨h1, h2⟩ := h (p, q, k) (List.mem_cons_self ..)
    show (rnd F G _ a).getD i (0, 0) = _
    rw [rnd_far F G i a _ fun t ht => h t (List.mem_cons_of_mem _ ht), getD_set_far _ _ _ _ _ h2, getD_set_far _ _ _ _ _ h1]
/-- The pairs of a size (half of it is told). -/
def psz (h : Nat) : List (Nat × Nat × Int) := if h = 8 then prs16 else if h = 4 then prs8 else if h = 2 then prs4 else prs2
def isH (h : Nat) : Prop := h = 8 ∨ h = 4 ∨ h = 2 ∨ h = 1
theorem psz_all : ∀ h : Fin 9, isH h → ∀ B : Fin 8, B.1 % h.1 = 0 → ∀ i : Fin 8, i.1 < h.1 →
    (psz h)[B.1 + i.1]? = some (2 * B.1 + i.1, 2 * B.1 + i.1 + h.1, -(i.1 : Int) * 512 / (2 * h.1)) ∧
    (((psz h).take (B.1 + i.1)).all fun t => t.1 != 2 * B.1 + i.1 && t.2.1 != 2 * B.1 + i.1 && t.1 != 2 * B.1 + i.1 + h.1 && t.2.1 != 2 * B.1 + i.1 + h.1) = true := by
  unfold isH
  decide +kernel
theorem psz_at (h B i : Nat) (hh : isH h) (hB : B < 8) (hd : B % h = 0) (hi : i < h) :
    (psz h)[B + i]? = some (2 * B + i, 2 * B + i + h, -(i : Int) * 512 / (2 * h)) ∧
    (∀ t ∈ (psz h).take (B + i), (t.1 ≠ 2 * B + i ∧ t.2.1 ≠ 2 * B + i) ∧ (t.1 ≠ 2 * B + i + h ∧ t.2.1 ≠ 2 * B + i + h)) := by
  have h8 : h < 9 := by unfold isH at hh; omega
  obtain ⟨h1, h2⟩ := psz_all ⟨h, h8⟩ hh ⟨B, hB⟩ hd ⟨i, by omega⟩ hi
  refine ⟨h1, fun t ht => ?_⟩
  have := List.all_eq_true.1 h2 t ht
  simp only [Bool.and_eq_true, bne_iff_ne] at this
  obtain ⟨⟨⟨a, b⟩, c⟩, d⟩ := this
  exact ⟨⟨a, b⟩, ⟨c, d⟩⟩
theorem psz_len (h : Nat) : (psz h).length = 8 := by
  unfold psz
  repeat' split
  all_goals rfl
theorem isH_le {h : Nat} (hh : isH h) : 1 ≤ h ∧ h ≤ 8 ∧ 8 % h = 0 := by
  unfold isH at hh
  rcases hh with rfl | rfl | rfl | rfl <;> decide
theorem isH_room {h B : Nat} (hh : isH h) (hB : B < 8) (hd : B % h = 0) : B + h ≤ 8 ∧ (B + h) % h = 0 := by
  unfold isH at hh
  rcases hh with rfl | rfl | rfl | rfl <;> omega
/-- A round as far as m pairs. -/
def rdn (F G : Int × Int → Int × Int → Int → Int × Int) (h : Nat) (l : List (Int × Int)) (m : Nat) : List (Int × Int) := rnd F G l ((psz h).take m)
theorem rdn_len (F G : Int × Int → Int × Int → Int → Int × Int) (h : Nat) (l : List (Int × Int)) (m : Nat) : (rdn F G h l m).length = l.length := rnd_len ..
theorem rdn_zero (F G : Int × Int → Int × Int → Int → Int × Int) (h : Nat) (l : List (Int × Int)) : rdn F G h l 0 = l := rfl
theorem rdn_step (F G : Int × Int → Int × Int → Int → Int × Int) (h B i : Nat) (l : List (Int × Int)) (hh : isH h) (hB : B < 8) (hd : B % h = 0) (hi : i < h) :
    rdn F G h l (B + i + 1) = ((rdn F G h l (B + i)).set (2 * B + i) (F (l.getD (2 * B + i) (0, 0)) (l.getD (2 * B + i + h) (0, 0)) (-(i : Int) * 512 / (2 * h)))).set (2 * B + i + h) (G (l.getD (2 * B + i) (0, 0)) (l.getD (2 * B + i + h) (0, 0)) (-(i : Int) * 512 / (2 * h))) := by
  obtain ⟨h1, h2⟩ := psz_at h B i hh hB hd hi
  unfold rdn
  rw [List.take_add_one, h1]
  show rnd F G l ((psz h).take (B + i) ++ [_]) = _
  rw [rnd_snoc]
  unfold rst
  rw [rnd_far F G _ _ _ fun t ht => (h2 t ht).1, rnd_far F G _ _ _ fun t ht => (h2 t ht).2]
theorem rdn_fresh (F G : Int × Int → Int × Int → Int → Int × Int) (h B i : Nat) (l : List (Int × Int)) (hh : isH h) (hB : B < 8) (hd : B % h = 0) (hi : i < h) :
    (rdn F G h l (B + i)).getD (2 * B + i) (0, 0) = l.getD (2 * B + i) (0, 0) ∧ (rdn F G h l (B + i)).getD (2 * B + i + h) (0, 0) = l.getD (2 * B + i + h) (0, 0) := by
  obtain ⟨_, h2⟩ := psz_at h B i hh hB hd hi
  exact ⟨rnd_far F G _ _ _ fun t ht => (h2 t ht).1, rnd_far F G _ _ _ fun t ht => (h2 t ht).2⟩
theorem rdn_full (F G : Int × Int → Int × Int → Int → Int × Int) (h : Nat) (l : List (Int × Int)) : rdn F G h l 8 = rnd F G l (psz h) := by
  unfold rdn
  rw [List.take_of_length_le (by rw [psz_len]; omega)]
end Go.Proofs.Ytpfdjddjoclldaa.M
