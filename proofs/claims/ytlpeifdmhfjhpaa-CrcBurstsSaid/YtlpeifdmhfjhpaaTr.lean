/-
  Plain facts of layer 15: the sum of bits, one by one; that it is linear, that sixteen bits bring it to 0 just if they are its own, that a change within sixteen bits never goes unseen. No program is named here. No conditions but those that each fact names.
-/
import Derived.Test.YtlpeifdmhfjhpaaMath
namespace Go.Proofs.Ytlpeifdmhfjhpaa.M

/-- One bit more; bits one behind the other. -/
def cst (r : BitVec 16) (b : Bool) : BitVec 16 := if r.msb != b then (r <<< 1) ^^^ 4129#16 else r <<< 1
def crun (r : BitVec 16) (l : List Bool) : BitVec 16 := l.foldl cst r
theorem crun_cons (r : BitVec 16) (b : Bool) (l : List Bool) : crun r (b :: l) = crun (cst r b) l := rfl
theorem crun_append (r : BitVec 16) (l m : List Bool) : crun r (l ++ m) = crun (crun r l) m := List.foldl_append
theorem cst_xor (r s : BitVec 16) (b c : Bool) : cst (r ^^^ s) (b != c) = cst r b ^^^ cst s c := by
  unfold cst
  rw [BitVec.msb_xor, BitVec.shiftLeft_xor_distrib]
  generalize r <<< 1 = x
  generalize s <<< 1 = y
  cases r.msb <;> cases s.msb <;> cases b <;> cases c <;> simp [BitVec.xor_assoc]
  all_goals
    first
    | rfl
    | (rw [← BitVec.xor_assoc, ← BitVec.xor_assoc, BitVec.xor_comm x y])
    | (rw [BitVec.xor_comm y, ← BitVec.xor_assoc 4129#16, BitVec.xor_self, BitVec.zero_xor])
    | (rw [BitVec.xor_comm y])
    | skip
theorem crun_xor (l m : List Bool) : ∀ (r s : BitVec 16), l.length = m.length → crun (r ^^^ s) (List.zipWith (· != ·) l m) = crun r l ^^^ crun s m := by
  induction l generalizing m with
  | nil =>
    intro r s h
    cases m with
    | nil => rfl
    | cons c m => simp at h
  | cons b l ih =>
    intro r s h
    cases m with
    | nil => simp at h
    | cons c m =>
      rw [List.zipWith_cons_cons, crun_cons, crun_cons, crun_cons, cst_xor]
      exact ih m _ _ (by simpa using h)
theorem cst_zero : cst 0 false = 0 := by decide
theorem crun_zeros (n : Nat) : crun 0 (List.replicate n false) = 0 := by
  induction n with
  | zero => rfl
  | succ n ih => rw [List.replicate_succ, crun_cons, cst_zero]; exact ih
/-- The lowest bit tells whether the polynomial was added. -/
theorem cst_low (r : BitVec 16) (b : Bool) : (cst r b).getLsbD 0 = (r.msb != b) := by
  unfold cst
  cases h : r.msb != b
  · simp
  · simp
theorem shl_eq (r s : BitVec 16) (h : r <<< 1 = s <<< 1) (hm : r.msb = s.msb) : r = s := by
  apply BitVec.eq_of_getLsbD_eq
  intro i hi
  rcases Nat.lt_or_ge i 15 with h1 | h1
  · have e : (r <<< 1).getLsbD (i + 1) = (s <<< 1).getLsbD (i + 1) := by rw [h]
    rw [BitVec.getLsbD_shiftLeft, BitVec.getLsbD_shiftLeft] at e
    simp [show i + 1 < 16 by omega] at e
    exact e
  · have e : i = 15 := by omega
    subst e
    rw [BitVec.msb_eq_getLsbD_last, BitVec.msb_eq_getLsbD_last] at hm
    exact hm
/-- Bits from the highest on. -/
def pk16 : List Bool → BitVec 16
  | [] => 0
  | b :: l => (if b then 32768#16 else 0#16) ||| (pk16 l >>> 1)
theorem pack_bit : ∀ (l : List Bool) (i : Nat), i < 16 → (pk16 l).getLsbD (15 - i) = l.getD i false
  | [], i, _ => by simp [pk16]
  | b :: l, 0, _ => by
    unfold pk16
    have e : (pk16 l).getLsbD (1 + (15 - 0)) = false := BitVec.getLsbD_of_ge _ _ (by decide)
    rw [BitVec.getLsbD_or, BitVec.getLsbD_ushiftRight, e, Bool.or_false]
    cases b <;> rfl
  | b :: l, i + 1, h => by
    have ih := pack_bit l i (by omega)
    unfold pk16
    rw [BitVec.getLsbD_or, BitVec.getLsbD_ushiftRight, show 1 + (15 - (i + 1)) = 15 - i by omega, ih, List.getD_cons_succ]
    have e : (if b then 32768#16 else 0#16).getLsbD (15 - (i + 1)) = false := by
      cases b
      · simp
      · have : 15 - (i + 1) < 15 := by omega
        have k : ∀ j, j < 15 → (32768#16).getLsbD j = false := by decide
        exact k _ this
    rw [e, Bool.false_or]
theorem pack_msb (b : Bool) (l : List Bool) : (pk16 (b :: l)).msb = b := by
  rw [BitVec.msb_eq_getLsbD_last]
  have := pack_bit (b :: l) 0 (by omega)
  exact this
theorem pack_shl (b : Bool) (l : List Bool) (h : l.length ≤ 15) : pk16 (b :: l) <<< 1 = pk16 l := by
  apply BitVec.eq_of_getLsbD_eq
  intro i hi
  rw [BitVec.getLsbD_shiftLeft]
  rcases Nat.eq_zero_or_pos i with h0 | h0
  · subst h0
    have := pack_bit l 15 (by omega)
    rw [show 15 - 15 = 0 by omega] at this
    rw [this, List.getD_eq_getElem?_getD, List.getElem?_eq_none h]
    simp
  · have e1 := pack_bit (b :: l) (16 - i) (by omega)
    have e2 := pack_bit l (15 - i) (by omega)
    rw [show 15 - (16 - i) = i - 1 by omega, show 16 - i = (15 - i) + 1 by omega, List.getD_cons_succ] at e1
    rw [show 15 - (15 - i) = i by omega] at e2
    rw [e1, e2]
    simp [hi, show ¬ (i < 1) by omega]
theorem cst_pack (b : Bool) (l : List Bool) (h : l.length ≤ 15) : cst (pk16 (b :: l)) b = pk16 l := by
  unfold cst
  rw [pack_msb, bne_self_eq_false, if_neg (by simp), pack_shl b l h]
/-- Its own bits bring a sum to 0 .. -/
theorem crun_own : ∀ l : List Bool, l.length ≤ 16 → crun (pk16 l) l = 0
  | [], _ => rfl
  | b :: l, h => by
    rw [List.length_cons] at h
    rw [crun_cons, cst_pack b l (by omega)]
    exact crun_own l (by omega)
/-- .. and no others do. -/
theorem crun_only : ∀ (l : List Bool) (r : BitVec 16), l.length ≤ 16 → crun r l = 0 → r = pk16 l
  | [], r, _, h => h
  | b :: l, r, hl, h => by
    rw [List.length_cons] at hl
    rw [crun_cons] at h
    have e := crun_only l (cst r b) (by omega) h
    have hlow := cst_low r b
    have hp := pack_bit l 15 (by omega)
    rw [show 15 - 15 = 0 by omega, List.getD_eq_getElem?_getD, List.getElem?_eq_none (by omega)] at hp
    rw [e, hp] at hlow
    have hb : r.msb = b := by
      cases hm : r.msb <;> cases b <;> simp_all
    have hs : r <<< 1 = pk16 l := by
      rw [← e]
      unfold cst
      rw [hb, bne_self_eq_false, if_neg (by simp)]
    exact shl_eq _ _ (by rw [hs, pack_shl b l (by omega)]) (by rw [hb, pack_msb])
theorem pack_nil (l : List Bool) (hl : l.length ≤ 16) (h : pk16 l = 0) : ∀ b ∈ l, b = false := by
  intro b hb
  obtain ⟨i, hi, rfl⟩ := List.getElem_of_mem hb
  have e := pack_bit l i (by omega)
  rw [h, List.getD_eq_getElem?_getD, List.getElem?_eq_getElem hi] at e
  simpa using e.symm
/-- Zeros never bring a sum to 0 that isn't. -/
theorem cst_inj (r : BitVec 16) (h : cst r false = 0) : r = 0 := crun_only [false] r (by decide) h
theorem crun_zeros_inj (n : Nat) : ∀ r, crun r (List.replicate n false) = 0 → r = 0 := by
  induction n with
  | zero => intro r h; exact h
  | succ n ih =>
    intro r h
    rw [List.replicate_succ, crun_cons] at h
    exact cst_inj r (ih _ h)
/-- A change within sixteen bits is seen. -/
theorem crun_burst (a c : Nat) (l : List Bool) (hl : l.length ≤ 16) (h : crun 0 (List.replicate a false ++ l ++ List.replicate c false) = 0) : ∀ b ∈ l, b = false := by
  rw [crun_append, crun_append, crun_zeros] at h
  have h1 := crun_zeros_inj c _ h
  exact pack_nil l hl (crun_only l 0 hl h1).symm
end Go.Proofs.Ytlpeifdmhfjhpaa.M
