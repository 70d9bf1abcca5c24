/-
  A text's bits, as layer 15's laws ask of them: texts one behind the other, a bit turned, what is sealed, bits changed within sixteen. No program is named here. Conditions: those that each fact names.
-/
import Derived.Test.YtlpeifdmhfjhpaaCrq
namespace Go.Proofs.Ytlpeifdmhfjhpaa
open Go.RowKit
open M
theorem gD_left {α : Type} (L M : List α) (d : α) (j : Nat) (h : j < L.length) : (L ++ M).getD j d = L.getD j d := by
  rw [List.getD_eq_getElem?_getD, List.getElem?_append_left h, ← List.getD_eq_getElem?_getD]
theorem gD_right {α : Type} (L M : List α) (d : α) (j : Nat) (h : L.length ≤ j) : (L ++ M).getD j d = M.getD (j - L.length) d := by
  rw [List.getD_eq_getElem?_getD, List.getElem?_append_right h, ← List.getD_eq_getElem?_getD]
theorem gD_rep (n j : Nat) : (List.replicate n false).getD j false = false := by
  rw [List.getD_eq_getElem?_getD, List.getElem?_replicate]
  split <;> rfl
theorem gD_take {α : Type} (L : List α) (d : α) (n j : Nat) (h : j < n) : (L.take n).getD j d = L.getD j d := by
  rw [List.getD_eq_getElem?_getD, List.getElem?_take, if_pos h, ← List.getD_eq_getElem?_getD]
theorem gD_drop {α : Type} (L : List α) (d : α) (n j : Nat) : (L.drop n).getD j d = L.getD (n + j) d := by
  rw [List.getD_eq_getElem?_getD, List.getElem?_drop, ← List.getD_eq_getElem?_getD]
theorem gD_set {α : Type} (L : List α) (i j : Nat) (v d : α) (h : i < L.length) : (L.set i v).getD j d = if i = j then v else L.getD j d := by
  rw [List.getD_eq_getElem?_getD, List.getElem?_set]
  by_cases e : i = j
  · subst e; simp [h]
  · simp [e, List.getD_eq_getElem?_getD]
/-- All bits of bytes. -/
def tbt (l : List UInt8) : List Bool := tb15 l (8 * l.length)
theorem tbt_len (l : List UInt8) : (tbt l).length = 8 * l.length := tb_len _ _
theorem tbt_at (l : List UInt8) (j : Nat) (h : j < 8 * l.length) : (tbt l).getD j false = bt15 l j := by
  simp [tbt, tb15, List.getD_eq_getElem?_getD, h]
theorem bt_test (l : List UInt8) (p : Nat) : bt15 l p = (l.getD (p / 8) 0).toNat.testBit (7 - p % 8) := by
  unfold bt15
  rw [Nat.testBit_eq_decide_div_mod_eq]
  rfl
theorem tbt_app (l m : List UInt8) : tbt (l ++ m) = tbt l ++ tbt m := getD_ext _ _ (by simp [tbt_len]; omega) fun j hj => by
  have hj2 : j < 8 * (l ++ m).length := by rwa [tbt_len] at hj
  rw [tbt_at _ _ hj2]
  by_cases h : j < 8 * l.length
  · rw [gD_left _ _ _ _ (by rw [tbt_len]; exact h), tbt_at _ _ h, bt_test, bt_test, gD_left _ _ _ _ (by omega)]
  · rw [gD_right _ _ _ _ (by rw [tbt_len]; omega), tbt_len, tbt_at _ _ (by rw [List.length_append] at hj2; omega), bt_test, bt_test, gD_right _ _ _ _ (by omega), show j / 8 - l.length = (j - 8 * l.length) / 8 by omega, show (j - 8 * l.length) % 8 = j % 8 by omega]
/-- A bit turned. -/
theorem tbt_flip (l : List UInt8) (p : Nat) (m : UInt8) (hp : p < 8 * l.length) (hm : m.toNat = 2 ^ (7 - p % 8)) : tbt (l.set (p / 8) (l.getD (p / 8) 0 ^^^ m)) = (tbt l).set p (!(tbt l).getD p false) := getD_ext _ _ (by simp [tbt_len]) fun j hj => by
  have hj2 : j < 8 * l.length := by simpa [tbt_len] using hj
  rw [getD_setB _ _ _ _ (by rw [tbt_len]; exact hp), tbt_at _ _ (by simpa using hj2), tbt_at _ _ hp, tbt_at _ _ hj2, bt_test, bt_test, bt_test]
  rw [gD_set _ _ _ _ _ (by omega)]
  by_cases e : p / 8 = j / 8
  · rw [if_pos e, UInt8.toNat_xor, Nat.testBit_xor, hm, Nat.testBit_two_pow, e]
    by_cases e2 : p = j
    · subst e2; rw [if_pos rfl]; simp
    · rw [if_neg e2, show decide (7 - p % 8 = 7 - j % 8) = false from decide_eq_false (by omega)]; simp
  · rw [if_neg e, if_neg (by intro h; exact e (by rw [h]))]
/-- Two bytes as a register. -/
theorem pack_two (a b : UInt8) : pk16 (tbt [a, b]) = BitVec.ofNat 16 (256 * a.toNat + b.toNat) := by
  apply BitVec.eq_of_getLsbD_eq
  intro i hi
  have h := pack_bit (tbt [a, b]) (15 - i) (by omega)
  rw [show 15 - (15 - i) = i by omega] at h
  rw [h, tbt_at _ _ (by show 15 - i < 16; omega), bt_test, BitVec.getLsbD_ofNat, show (256 : Nat) = 2 ^ 8 from rfl, Nat.testBit_two_pow_mul_add a.toNat b.toNat_lt]
  by_cases h8 : i < 8
  · rw [if_pos h8, show (15 - i) / 8 = 1 by omega, show 7 - (15 - i) % 8 = i by omega]
    simp; intro _; omega
  · rw [if_neg h8, show (15 - i) / 8 = 0 by omega, show 7 - (15 - i) % 8 = i - 8 by omega]
    simp; intro _; omega
theorem two_bd (a b : UInt8) : 256 * a.toNat + b.toNat < 65536 := by
  have := a.toNat_lt
  have := b.toNat_lt
  omega
/-- Whether bytes are the sum of those ahead. -/
theorem open_two (X : BitVec 16) (a b : UInt8) : crun X (tbt [a, b]) = 0 ↔ X.toNat = 256 * a.toNat + b.toNat := by
  constructor
  · intro h
    rw [crun_only (tbt [a, b]) X (by rw [tbt_len]; exact Nat.le_refl 16) h, pack_two, BitVec.toNat_ofNat, Nat.mod_eq_of_lt (two_bd a b)]
  · intro h
    have e : X = pk16 (tbt [a, b]) := by
      apply BitVec.eq_of_toNat_eq
      rw [pack_two, BitVec.toNat_ofNat, Nat.mod_eq_of_lt (two_bd a b), h]
    rw [e]
    exact crun_own _ (by rw [tbt_len]; exact Nat.le_refl 16)
theorem sealed_two (X : BitVec 16) : crun X (tbt [UInt8.ofNat (X.toNat / 256), UInt8.ofNat (X.toNat % 256)]) = 0 := by
  rw [open_two, UInt8.toNat_ofNat', UInt8.toNat_ofNat']
  have := X.isLt
  omega
theorem zip_at (L M : List Bool) (h : L.length = M.length) (j : Nat) (hj : j < L.length) : (List.zipWith (· != ·) L M).getD j false = (L.getD j false != M.getD j false) := by
  rw [List.getD_eq_getElem?_getD, List.getD_eq_getElem?_getD, List.getD_eq_getElem?_getD, List.getElem?_zipWith, List.getElem?_eq_getElem hj, List.getElem?_eq_getElem (by omega)]
  rfl
/-- Bits that are changed within sixteen. -/
theorem burst_same (R : BitVec 16) (L M : List Bool) (f : Nat) (h : L.length = M.length) (hs : ∀ j, j < L.length → (j < f ∨ f + 16 ≤ j) → L.getD j false = M.getD j false) (h1 : crun R L = 0) (h2 : crun R M = 0) : L = M := by
  obtain ⟨Z, hZ⟩ : ∃ Z, List.zipWith (· != ·) L M = Z := ⟨_, rfl⟩
  have hl : Z.length = L.length := by rw [← hZ, List.length_zipWith, ← h, Nat.min_self]
  have hz : ∀ j, j < L.length → Z.getD j false = (L.getD j false != M.getD j false) := fun j hj => by rw [← hZ, zip_at L M h j hj]
  have hx := crun_xor L M R R h
  rw [h1, h2, hZ, BitVec.xor_self] at hx
  have e : Z = List.replicate (min f L.length) false ++ ((Z.drop f).take 16) ++ List.replicate (L.length - (f + 16)) false := getD_ext _ _ (by simp [hl]; omega) fun j hj => by
    rw [hl] at hj
    have hm : ((Z.drop f).take 16).length = min 16 (L.length - f) := by simp [hl]
    by_cases a1 : j < f
    · rw [hz j hj, hs j hj (Or.inl a1), List.append_assoc, gD_left _ _ _ _ (by simp; omega), gD_rep]
      simp
    · by_cases a2 : j < f + 16
      · rw [List.append_assoc, gD_right _ _ _ _ (by simp; omega), List.length_replicate, gD_left _ _ _ _ (by rw [hm]; omega), gD_take _ _ _ _ (by omega), gD_drop, show f + (j - min f L.length) = j by omega]
      · rw [hz j hj, hs j hj (Or.inr (by omega)), gD_right _ _ _ _ (by rw [List.length_append, hm, List.length_replicate]; omega), gD_rep]
        simp
  rw [e] at hx
  have hb := crun_burst (min f L.length) (L.length - (f + 16)) ((Z.drop f).take 16) (by rw [List.length_take]; omega) hx
  refine getD_ext L M h fun j hj => ?_
  by_cases a : j < f ∨ f + 16 ≤ j
  · exact hs j hj a
  · have hmem : Z.getD j false ∈ (Z.drop f).take 16 := by
      have : ((Z.drop f).take 16)[j - f]? = Z[j]? := by
        rw [List.getElem?_take, if_pos (by omega), List.getElem?_drop, show f + (j - f) = j by omega]
      have h3 : Z[j]? = some (Z.getD j false) := by
        rw [List.getD_eq_getElem?_getD, List.getElem?_eq_getElem (by omega)]; rfl
      exact List.mem_of_getElem? (this.trans h3)
    have h4 := hb _ hmem
    rw [hz j hj] at h4
    cases h5 : L.getD j false <;> cases h6 : M.getD j false <;> rw [h5, h6] at h4 <;> simp at h4 ⊢
end Go.Proofs.Ytlpeifdmhfjhpaa
