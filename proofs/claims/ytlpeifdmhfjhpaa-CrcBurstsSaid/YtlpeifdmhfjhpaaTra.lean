/-
  Plain facts of layer 15: the sum as a division of a list of bits, as the reference does it. No program is named here. No conditions but those that each fact names.
-/
import Derived.Test.YtlpeifdmhfjhpaaTr
namespace Go.Proofs.Ytlpeifdmhfjhpaa.M
/-- Bits with a register's 16 bits made one with the first 16. -/
def xw (r : BitVec 16) (l : List Bool) : List Bool := (List.range l.length).map fun k => l.getD k false != (decide (k < 16) && r.getLsbD (15 - k))
theorem xw_len (r : BitVec 16) (l : List Bool) : (xw r l).length = l.length := by simp [xw]
theorem xw_at (r : BitVec 16) (l : List Bool) (k : Nat) (h : k < l.length) : (xw r l).getD k false = (l.getD k false != (decide (k < 16) && r.getLsbD (15 - k))) := by
  simp [xw, List.getD_eq_getElem?_getD, h]
/-- Which bits the polynomial has, the highest first, behind its first one. -/
def py (k : Nat) : Bool := k == 3 || k == 10 || k == 15
theorem poly_bit : ∀ k, k < 16 → (4129#16).getLsbD (15 - k) = py k := by decide
theorem cst_bit (r : BitVec 16) (b : Bool) (k : Nat) (hk : k < 16) : (cst r b).getLsbD (15 - k) = ((decide (k + 1 < 16) && r.getLsbD (15 - (k + 1))) != ((r.msb != b) && py k)) := by
  have hs : (r <<< 1).getLsbD (15 - k) = (decide (k + 1 < 16) && r.getLsbD (15 - (k + 1))) := by
    rw [BitVec.getLsbD_shiftLeft]
    by_cases h : k = 15
    · subst h; simp
    · have h1 : 15 - k < 16 := by omega
      have h2 : ¬ 15 - k < 1 := by omega
      have h3 : k + 1 < 16 := by omega
      have h4 : 15 - k - 1 = 15 - (k + 1) := by omega
      simp [h1, h2, h3, h4]
  unfold cst
  by_cases hb : (r.msb != b) = true
  · rw [if_pos hb, BitVec.getLsbD_xor, hs, poly_bit k hk, hb]
    cases (decide (k + 1 < 16) && r.getLsbD (15 - (k + 1))) <;> cases py k <;> rfl
  · have hb2 : (r.msb != b) = false := by simpa using hb
    rw [if_neg hb, hs, hb2]
    cases (decide (k + 1 < 16) && r.getLsbD (15 - (k + 1))) <;> rfl
theorem xw_head (r : BitVec 16) (b : Bool) (l : List Bool) : (xw r (b :: l)).getD 0 false = (b != r.msb) := by
  rw [xw_at _ _ _ (by simp)]
  show (b != (true && r.getLsbD 15)) = (b != r.msb)
  rw [Bool.true_and, BitVec.msb_eq_getLsbD_last]
/-- One step of the division: the first bit taken off; where it was 1, three others turned about. -/
theorem xw_step (r : BitVec 16) (b : Bool) (l : List Bool) (k : Nat) (hk : k < l.length) : (xw (cst r b) l).getD k false = ((xw r (b :: l)).getD (k + 1) false != ((b != r.msb) && py k)) := by
  rw [xw_at _ _ _ hk, xw_at _ _ _ (by simpa using hk)]
  rw [show (b :: l).getD (k + 1) false = l.getD k false from rfl]
  by_cases h : k < 16
  · rw [cst_bit r b k h, show decide (k < 16) = true from decide_eq_true h, Bool.true_and, show (r.msb != b) = (b != r.msb) by cases r.msb <;> cases b <;> rfl]
    cases l.getD k false <;> cases (decide (k + 1 < 16) && r.getLsbD (15 - (k + 1))) <;> cases ((b != r.msb) && py k) <;> rfl
  · have hp : py k = false := by unfold py; simp; omega
    rw [show decide (k < 16) = false from decide_eq_false h, show decide (k + 1 < 16) = false from decide_eq_false (by omega), hp, Bool.and_false]
    cases l.getD k false <;> rfl
/-- Behind all bits of the text the register stands alone. -/
theorem xw_end (r : BitVec 16) (k : Nat) (hk : k < 16) : (xw r (List.replicate 16 false)).getD k false = r.getLsbD (15 - k) := by
  rw [xw_at _ _ _ (by simpa using hk)]
  have : (List.replicate 16 false).getD k false = false := by
    rw [List.getD_eq_getElem?_getD, List.getElem?_replicate, if_pos hk]; rfl
  rw [this, show decide (k < 16) = true from decide_eq_true hk, Bool.true_and]
  cases r.getLsbD (15 - k) <;> rfl
/-- The division as far as i bits of l, with 16 zero bits behind them. -/
def dv15 (r : BitVec 16) (l : List Bool) (i : Nat) : List Bool := List.replicate i false ++ xw (crun r (l.take i)) (l.drop i ++ List.replicate 16 false)
theorem dv_len (r : BitVec 16) (l : List Bool) (i : Nat) (h : i ≤ l.length) : (dv15 r l i).length = l.length + 16 := by
  unfold dv15
  rw [List.length_append, List.length_replicate, xw_len, List.length_append, List.length_drop, List.length_replicate]
  omega
theorem dv_zero (r : BitVec 16) (l : List Bool) : dv15 r l 0 = xw r (l ++ List.replicate 16 false) := by
  unfold dv15
  rw [List.replicate_zero, List.nil_append]
  rfl
theorem dv_done (r : BitVec 16) (l : List Bool) (k : Nat) (hk : k < 16) : (dv15 r l l.length).getD (l.length + k) false = (crun r l).getLsbD (15 - k) := by
  unfold dv15
  rw [List.getD_eq_getElem?_getD, List.getElem?_append_right (by simp), List.length_replicate, Nat.add_sub_cancel_left, ← List.getD_eq_getElem?_getD, List.drop_length, List.nil_append, List.take_length, xw_end _ _ hk]
/-- The bit that a step looks at, and what it leaves. -/
theorem dv_next (r : BitVec 16) (l : List Bool) (i : Nat) (h : i < l.length) : ∃ b : Bool, (dv15 r l i).getD i false = b ∧
    ∀ j, j < l.length + 16 → (dv15 r l (i + 1)).getD j false = if j = i then false else ((dv15 r l i).getD j false != (b && (j == i + 4 || j == i + 11 || j == i + 16))) := by
  have hd : l.drop i = l.getD i false :: l.drop (i + 1) := by
    rw [List.drop_eq_getElem_cons h, List.getD_eq_getElem?_getD, List.getElem?_eq_getElem h]; rfl
  have ht : l.take (i + 1) = l.take i ++ [l.getD i false] := by
    rw [List.take_add_one, List.getD_eq_getElem?_getD, List.getElem?_eq_getElem h]; rfl
  obtain ⟨R, hR⟩ : ∃ R, crun r (l.take i) = R := ⟨_, rfl⟩
  obtain ⟨c, hc⟩ : ∃ c, l.getD i false = c := ⟨_, rfl⟩
  obtain ⟨m, hm⟩ : ∃ m, l.drop (i + 1) ++ List.replicate 16 false = m := ⟨_, rfl⟩
  have hml : m.length = l.length - (i + 1) + 16 := by rw [← hm]; simp
  have e1 : dv15 r l i = List.replicate i false ++ xw R (c :: m) := by
    unfold dv15; rw [hR, hd, hc, List.cons_append, hm]
  have e2 : dv15 r l (i + 1) = List.replicate (i + 1) false ++ xw (cst R c) m := by
    unfold dv15; rw [ht, crun_append, hR, hc, hm]; rfl
  have g1 : ∀ j, i ≤ j → (dv15 r l i).getD j false = (xw R (c :: m)).getD (j - i) false := fun j hj => by
    rw [e1, List.getD_eq_getElem?_getD, List.getElem?_append_right (by simpa using hj), List.length_replicate, ← List.getD_eq_getElem?_getD]
  have g0 : ∀ j, j < i → (dv15 r l i).getD j false = false := fun j hj => by
    rw [e1, List.getD_eq_getElem?_getD, List.getElem?_append_left (by simpa using hj), List.getElem?_replicate, if_pos hj]; rfl
  refine ⟨c != R.msb, by rw [g1 i (Nat.le_refl _), Nat.sub_self, xw_head], fun j hj => ?_⟩
  by_cases hji : j = i
  · subst hji
    rw [if_pos rfl, e2, List.getD_eq_getElem?_getD, List.getElem?_append_left (by simp), List.getElem?_replicate, if_pos (by omega)]
    rfl
  · rw [if_neg hji]
    rcases Nat.lt_or_ge j i with hlt | hge
    · rw [g0 j hlt, e2, List.getD_eq_getElem?_getD, List.getElem?_append_left (by simp; omega), List.getElem?_replicate, if_pos (by omega)]
      have : (j == i + 4 || j == i + 11 || j == i + 16) = false := by simp; omega
      rw [this, Bool.and_false]
      rfl
    · obtain ⟨k, rfl⟩ : ∃ k, j = i + 1 + k := ⟨j - (i + 1), by omega⟩
      rw [g1 _ (by omega), e2, List.getD_eq_getElem?_getD, List.getElem?_append_right (by simp), List.length_replicate, Nat.add_sub_cancel_left, ← List.getD_eq_getElem?_getD, xw_step R c m k (by omega), show i + 1 + k - i = k + 1 by omega]
      have : (i + 1 + k == i + 4 || i + 1 + k == i + 11 || i + 1 + k == i + 16) = py k := by
        unfold py
        rw [Bool.eq_iff_iff]
        simp
        omega
      rw [this]
end Go.Proofs.Ytlpeifdmhfjhpaa.M
