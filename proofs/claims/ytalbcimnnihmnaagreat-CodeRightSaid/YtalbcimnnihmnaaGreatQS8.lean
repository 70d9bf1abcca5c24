/-
  Contracts and plain facts that the laws share; each piece is headed by what it holds and its conditions.
-/
import Derived.Test.YtalbcimnnihmnaaGreatQS5
import Derived.Test.YtalbcimnnihmnaaGreatQS7
import Derived.Test.YtalbcimnnihmnaaGreatQS3

/- Powers of two up to the fifteenth; numbers that a walk wraps. No conditions but those that each fact names. -/
namespace Go.Proofs.YtalbcimnnihmnaaGreat
open Go.RowKit
open M
theorem pow15 (k : Nat) (h : k ≤ 15) : (2 : Int) ^ k ≤ 32768 ∧ 1 ≤ (2 : Int) ^ k := by
  have h1 : (2 : Nat) ^ k ≤ 2 ^ 15 := Nat.pow_le_pow_right (by decide) h
  have h2 : 1 ≤ (2 : Nat) ^ k := Nat.one_le_two_pow
  have e : (2 : Int) ^ k = ((2 ^ k : Nat) : Int) := by rw [Int.natCast_pow]; rfl
  rw [e]
  omega
theorem wi_id (x : Int) (h1 : -4611686018427387904 ≤ x) (h2 : x ≤ 4611686018427387904) : IntKind.i64.wrap x = x := by rw [IntKind.wrap_i64]; omega
theorem mul14 (y G : Int) (h1 : -2097152 ≤ y) (h2 : y ≤ 2097152) (h3 : 0 ≤ G) (h4 : G ≤ 32768) : -68719476736 ≤ y * G ∧ y * G ≤ 68719476736 := by
  have k1 := Int.mul_le_mul_of_nonneg_right h1 h3
  have k2 := Int.mul_le_mul_of_nonneg_right h2 h3
  omega
end Go.Proofs.YtalbcimnnihmnaaGreat

/- Plain facts of layer 20: a shape's coefficients, how far a shape is from a frame, the shape of a frame. No program is named here. No conditions but those that each fact names. -/
namespace Go.Proofs.YtalbcimnnihmnaaGreat
open Go.RowKit
open M
/-- A coefficient of a shape. -/
def co20 (l : List Int) (p : Nat) : Int := if (0 ≤ l.getD (p / 4) 0 ∧ l.getD (p / 4) 0 ≤ 15) ∧ fw19 (pto l (8 + p / 4 * 4) 4) = true then l.getD (8 + p) 0 * (2 : Int) ^ (l.getD (p / 4) 0).toNat else 0
/-- Coefficients, as far as m. -/
def cp20 (l : List Int) (m : Nat) : List Int := (List.range 32).map fun p => if p < m then co20 l p else 0
/-- All. -/
def cf20 (l : List Int) : List Int := cp20 l 32
theorem cp20_len (l : List Int) (m : Nat) : (cp20 l m).length = 32 := by simp [cp20]
def z20 : List Int := List.replicate 32 0
theorem cp20_zero (l : List Int) : cp20 l 0 = z20 := by
  unfold cp20 z20
  simp only [Nat.not_lt_zero, if_false]
  decide
theorem cp20_none (l : List Int) (m n : Nat) (hmn : m ≤ n) (h : ∀ p, m ≤ p → p < n → co20 l p = 0) : cp20 l m = cp20 l n := by
  unfold cp20
  apply List.map_congr_left
  intro p _
  by_cases e : p < m
  · rw [if_pos e, if_pos (by omega)]
  · rw [if_neg e]
    by_cases e2 : p < n
    · rw [if_pos e2, h p (by omega) e2]
    · rw [if_neg e2]
theorem co20_step (l : List Int) (k p : Nat) (hp : p / 4 = k) (h : ¬ (0 ≤ l.getD k 0 ∧ l.getD k 0 ≤ 15)) : co20 l p = 0 := by
  unfold co20; rw [hp, if_neg (fun e => h e.1)]
theorem co20_far (l : List Int) (k p : Nat) (hp : p / 4 = k) (h : fw19 (pto l (8 + k * 4) 4) = false) : co20 l p = 0 := by
  unfold co20; rw [hp, if_neg (fun e => by rw [h] at e; exact absurd e.2 (by decide))]
theorem co20_is (l : List Int) (k p : Nat) (hp : p / 4 = k) (h1 : 0 ≤ l.getD k 0 ∧ l.getD k 0 ≤ 15) (h2 : fw19 (pto l (8 + k * 4) 4) = true) : co20 l p = l.getD (8 + p) 0 * (2 : Int) ^ (l.getD k 0).toNat := by
  unfold co20; rw [hp, if_pos ⟨h1, h2⟩]
theorem co20_bd (l : List Int) (p : Nat) : -393216 ≤ co20 l p ∧ co20 l p ≤ 393216 := by
  unfold co20
  split
  · rename_i h
    obtain ⟨h1, h2⟩ := h
    have h3 := (fw_iff _).1 h2 (p % 4) (by omega)
    rw [pto_getD _ _ _ _ (by omega), show 8 + p / 4 * 4 + p % 4 = 8 + p by omega] at h3
    have hG := pow15 (l.getD (p / 4) 0).toNat (by omega)
    generalize l.getD (8 + p) 0 = y at *
    generalize (2 : Int) ^ (l.getD (p / 4) 0).toNat = G at *
    have h4 : y = -12 ∨ y = -11 ∨ y = -10 ∨ y = -9 ∨ y = -8 ∨ y = -7 ∨ y = -6 ∨ y = -5 ∨ y = -4 ∨ y = -3 ∨ y = -2 ∨ y = -1 ∨ y = 0 ∨ y = 1 ∨ y = 2 ∨ y = 3 ∨ y = 4 ∨ y = 5 ∨ y = 6 ∨ y = 7 ∨ y = 8 ∨ y = 9 ∨ y = 10 ∨ y = 11 ∨ y = 12 := by omega
    rcases h4 with rfl | rfl | rfl | rfl | rfl | rfl | rfl | rfl | rfl | rfl | rfl | rfl | rfl | rfl | rfl | rfl | rfl | rfl | rfl | rfl | rfl | rfl | rfl | rfl | rfl <;> omega
  · omega
theorem cf20_getD (l : List Int) (p : Nat) (h : p < 32) : (cf20 l).getD p 0 = co20 l p := by
  unfold cf20 cp20
  rw [tm_getD 32 _ p h, if_pos h]
/-- A number brought into its range. -/
def cl20 (x : Int) : Int := max (-1048576) (min x 1048576)
theorem cl20_bd (x : Int) : -1048576 ≤ cl20 x ∧ cl20 x ≤ 1048576 := by unfold cl20; omega
/-- How far, as far as k. -/
def er20 (f l : List Int) : Nat → Nat
  | 0 => 0
  | k + 1 => er20 f l k + (cl20 (f.getD k 0) - co20 l k).natAbs
/-- A frame brought into its range, as far as k. -/
def cq20 (f : List Int) (k : Nat) : List Int := (List.range 32).map fun i => if i < k then cl20 (f.getD i 0) else f.getD i 0
def cg20 (f : List Int) : List Int := cq20 f 32
theorem cq20_len (f : List Int) (k : Nat) : (cq20 f k).length = 32 := by simp [cq20]
theorem cq20_zero (f : List Int) (h : f.length = 32) : cq20 f 0 = f :=
  Eq.symm (tm_ext f 32 _ h fun i _ => by rw [if_neg (by omega)])
theorem cg20_bd (f : List Int) (i : Nat) (h : i < 32) : -1048576 ≤ (cg20 f).getD i 0 ∧ (cg20 f).getD i 0 ≤ 1048576 := by
  unfold cg20 cq20
  rw [tm_getD 32 _ i h, if_pos h]
  exact cl20_bd _
/-- A band's step. -/
def sd20 (F : List Int) (b : Nat) : Nat := stp (gm16 (bd16 F b))
theorem sd20_le (F : List Int) (b : Nat) : sd20 F b ≤ 15 := stp_le _
/-- A shape with the first b steps. -/
def sp20 (F : List Int) (b : Nat) : List Int := (List.range 40).map fun p => if p < b then (sd20 F p : Int) else 0
theorem sp20_len (F : List Int) (b : Nat) : (sp20 F b).length = 40 := by simp [sp20]
/-- How many pulses each band is given. -/
def kk20 (F : List Int) (n : Nat) : Nat → Nat := giv (fun b => (sds (sp20 F 8)).getD b 0) n
/-- A band's pulses. -/
def yy20 (F : List Int) (n b : Nat) : List Int := fl4 (fun i => (bd16 F b).getD i 0) ((2 : Int) ^ sd20 F b) (kk20 F n b)
/-- A shape with the first b bands' pulses. -/
def sq20 (F : List Int) (n b : Nat) : List Int := (List.range 40).map fun p => if p < 8 then (sd20 F p : Int) else if p < 8 + 4 * b then (yy20 F n ((p - 8) / 4)).getD ((p - 8) % 4) 0 else 0
/-- The shape of a frame. -/
def sh20 (f : List Int) (n : Nat) : List Int := sq20 (cg20 f) n 8
theorem sq20_len (F : List Int) (n b : Nat) : (sq20 F n b).length = 40 := by simp [sq20]
theorem sq20_zero (F : List Int) (n : Nat) : sq20 F n 0 = sp20 F 8 := by
  unfold sq20 sp20
  apply List.map_congr_left
  intro p _
  by_cases h : p < 8
  · rw [if_pos h, if_pos h]
  · rw [if_neg h, if_neg h, if_neg (by omega)]
theorem sq20_step (F : List Int) (n b p : Nat) (h : p < 8) : (sq20 F n b).getD p 0 = (sd20 F p : Int) := by
  unfold sq20
  rw [tm_getD 40 _ p (by omega), if_pos h]
theorem sq20_put (F : List Int) (n b : Nat) (hb : b < 8) : ppu (sq20 F n b) (8 + b * 4) (yy20 F n b) = sq20 F n (b + 1) := by
  have hl : (yy20 F n b).length = 4 := rfl
  refine tm_ext _ 40 _ (by rw [ppu_len, sq20_len]) fun p hp => ?_
  rw [ppu_getD _ _ _ _ (by rw [sq20_len]; exact hp), hl]
  by_cases h1 : p < 8
  · rw [if_neg (by omega), if_pos h1, sq20_step _ _ _ _ h1]
  · rw [if_neg h1]
    by_cases h2 : 8 + b * 4 ≤ p ∧ p < 8 + b * 4 + 4
    · rw [if_pos h2, if_pos (by omega), show (p - 8) / 4 = b by omega, show (p - 8) % 4 = p - (8 + b * 4) by omega]
    · rw [if_neg h2]
      unfold sq20
      rw [tm_getD 40 _ p hp, if_neg h1]
      by_cases h3 : p < 8 + 4 * b
      · rw [if_pos h3, if_pos (by omega)]
      · rw [if_neg h3, if_neg (by omega)]
end Go.Proofs.YtalbcimnnihmnaaGreat

/- A text's bits, as layer 15's laws ask of them: texts one behind the other, a bit turned, what is sealed, bits changed within sixteen. No program is named here. Conditions: those that each fact names. -/
namespace Go.Proofs.YtalbcimnnihmnaaGreat
open Go.RowKit
open M
theorem gD_left {α : Type} (L M : List α) (d : α) (j : Nat) (h : j < L.length) : (L ++ M).getD j d = L.getD j d := by
  rw [List.getD_eq_getElem?_getD, List.getElem?_append_left h, ← List.getD_eq_getElem?_getD]
theorem gD_right {α : Type} (L M : List α) (d : α) (j : Nat) (h : L.length ≤ j) : (L ++ M).getD j d = M.getD (j - L.length) d := by
  rw [List.getD_eq_getElem?_getD, List.getElem?_append_right h, ← List.getD_eq_getElem?_getD]
theorem gD_rep (n j : Nat) : (List.replicate n false).getD j false = false := by
  rw [List.getD_eq_getElem?_getD, List.getElem?_replicate]
  split <;> rfl
theorem gD_take {α : Type} (L : List α) (d : α) (n j : Nat) (h : j < n) : (L.take n).getD j d = L.getD j d := by
  rw [List.getD_eq_getElem?_getD, List.getElem?_take, if_pos h, ← List.getD_eq_getElem?_getD]
theorem gD_drop {α : Type} (L : List α) (d : α) (n j : Nat) : (L.drop n).getD j d = L.getD (n + j) d := by
  rw [List.getD_eq_getElem?_getD, List.getElem?_drop, ← List.getD_eq_getElem?_getD]
theorem gD_set {α : Type} (L : List α) (i j : Nat) (v d : α) (h : i < L.length) : (L.set i v).getD j d = if i = j then v else L.getD j d := by
  rw [List.getD_eq_getElem?_getD, List.getElem?_set]
  by_cases e : i = j
  · subst e; simp [h]
  · simp [e, List.getD_eq_getElem?_getD]
/-- All bits of bytes. -/
def tbt (l : List UInt8) : List Bool := tb15 l (8 * l.length)
theorem tbt_len (l : List UInt8) : (tbt l).length = 8 * l.length := tb_len _ _
theorem tbt_at (l : List UInt8) (j : Nat) (h : j < 8 * l.length) : (tbt l).getD j false = bt15 l j := by
  simp [tbt, tb15, List.getD_eq_getElem?_getD, h]
theorem bt_test (l : List UInt8) (p : Nat) : bt15 l p = (l.getD (p / 8) 0).toNat.testBit (7 - p % 8) := by
  unfold bt15
  rw [Nat.testBit_eq_decide_div_mod_eq]
  rfl
theorem tbt_app (l m : List UInt8) : tbt (l ++ m) = tbt l ++ tbt m := getD_ext _ _ (by simp [tbt_len]; omega) fun j hj => by
  have hj2 : j < 8 * (l ++ m).length := by rwa [tbt_len] at hj
  rw [tbt_at _ _ hj2]
  by_cases h : j < 8 * l.length
  · rw [gD_left _ _ _ _ (by rw [tbt_len]; exact h), tbt_at _ _ h, bt_test, bt_test, gD_left _ _ _ _ (by omega)]
  · rw [gD_right _ _ _ _ (by rw [tbt_len]; omega), tbt_len, tbt_at _ _ (by rw [List.length_append] at hj2; omega), bt_test, bt_test, gD_right _ _ _ _ (by omega), show j / 8 - l.length = (j - 8 * l.length) / 8 by omega, show (j - 8 * l.length) % 8 = j % 8 by omega]
/-- A bit turned. -/
theorem tbt_flip (l : List UInt8) (p : Nat) (m : UInt8) (hp : p < 8 * l.length) (hm : m.toNat = 2 ^ (7 - p % 8)) : tbt (l.set (p / 8) (l.getD (p / 8) 0 ^^^ m)) = (tbt l).set p (!(tbt l).getD p false) := getD_ext _ _ (by simp [tbt_len]) fun j hj => by
  have hj2 : j < 8 * l.length := by simpa [tbt_len] using hj
  rw [getD_setB _ _ _ _ (by rw [tbt_len]; exact hp), tbt_at _ _ (by simpa using hj2), tbt_at _ _ hp, tbt_at _ _ hj2, bt_test, bt_test, bt_test]
  rw [gD_set _ _ _ _ _ (by omega)]
  by_cases e : p / 8 = j / 8
  · rw [if_pos e, UInt8.toNat_xor, Nat.testBit_xor, hm, Nat.testBit_two_pow, e]
    by_cases e2 : p = j
    · subst e2; rw [if_pos rfl]; simp
    · rw [if_neg e2, show decide (7 - p % 8 = 7 - j % 8) = false from decide_eq_false (by omega)]; simp
  · rw [if_neg e, if_neg (by intro h; exact e (by rw [h]))]
/-- Two bytes as a register. -/
theorem pack_two (a b : UInt8) : pk16 (tbt [a, b]) = BitVec.ofNat 16 (256 * a.toNat + b.toNat) := by
  apply BitVec.eq_of_getLsbD_eq
  intro i hi
  have h := pack_bit (tbt [a, b]) (15 - i) (by omega)
  rw [show 15 - (15 - i) = i by omega] at h
  rw [h, tbt_at _ _ (by show 15 - i < 16; omega), bt_test, BitVec.getLsbD_ofNat, show (256 : Nat) = 2 ^ 8 from rfl, Nat.testBit_two_pow_mul_add a.toNat b.toNat_lt]
  by_cases h8 : i < 8
  · rw [if_pos h8, show (15 - i) / 8 = 1 by omega, show 7 - (15 - i) % 8 = i by omega]
    simp; intro _; omega
  · rw [if_neg h8, show (15 - i) / 8 = 0 by omega, show 7 - (15 - i) % 8 = i - 8 by omega]
    simp; intro _; omega
theorem two_bd (a b : UInt8) : 256 * a.toNat + b.toNat < 65536 := by
  have := a.toNat_lt
  have := b.toNat_lt
  omega
/-- Whether bytes are the sum of those ahead. -/
theorem open_two (X : BitVec 16) (a b : UInt8) : crun X (tbt [a, b]) = 0 ↔ X.toNat = 256 * a.toNat + b.toNat := by
  constructor
  · intro h
    rw [crun_only (tbt [a, b]) X (by rw [tbt_len]; exact Nat.le_refl 16) h, pack_two, BitVec.toNat_ofNat, Nat.mod_eq_of_lt (two_bd a b)]
  · intro h
    have e : X = pk16 (tbt [a, b]) := by
      apply BitVec.eq_of_toNat_eq
      rw [pack_two, BitVec.toNat_ofNat, Nat.mod_eq_of_lt (two_bd a b), h]
    rw [e]
    exact crun_own _ (by rw [tbt_len]; exact Nat.le_refl 16)
theorem sealed_two (X : BitVec 16) : crun X (tbt [UInt8.ofNat (X.toNat / 256), UInt8.ofNat (X.toNat % 256)]) = 0 := by
  rw [open_two, UInt8.toNat_ofNat', UInt8.toNat_ofNat']
  have := X.isLt
  omega
theorem zip_at (L M : List Bool) (h : L.length = M.length) (j : Nat) (hj : j < L.length) : (List.zipWith (· != ·) L M).getD j false = (L.getD j false != M.getD j false) := by
  rw [List.getD_eq_getElem?_getD, List.getD_eq_getElem?_getD, List.getD_eq_getElem?_getD, List.getElem?_zipWith, List.getElem?_eq_getElem hj, List.getElem?_eq_getElem (by omega)]
  rfl
/-- Bits that are changed within sixteen. -/
theorem burst_same (R : BitVec 16) (L M : List Bool) (f : Nat) (h : L.length = M.length) (hs : ∀ j, j < L.length → (j < f ∨ f + 16 ≤ j) → L.getD j false = M.getD j false) (h1 : crun R L = 0) (h2 : crun R M = 0) : L = M := by
  obtain ⟨Z, hZ⟩ : ∃ Z, List.zipWith (· != ·) L M = Z := ⟨_, rfl⟩
  have hl : Z.length = L.length := by rw [← hZ, List.length_zipWith, ← h, Nat.min_self]
  have hz : ∀ j, j < L.length → Z.getD j false = (L.getD j false != M.getD j false) := fun j hj => by rw [← hZ, zip_at L M h j hj]
  have hx := crun_xor L M R R h
  rw [h1, h2, hZ, BitVec.xor_self] at hx
  have e : Z = List.replicate (min f L.length) false ++ ((Z.drop f).take 16) ++ List.replicate (L.length - (f + 16)) false := getD_ext _ _ (by simp [hl]; omega) fun j hj => by
    rw [hl] at hj
    have hm : ((Z.drop f).take 16).length = min 16 (L.length - f) := by simp [hl]
    by_cases a1 : j < f
    · rw [hz j hj, hs j hj (Or.inl a1), List.append_assoc, gD_left _ _ _ _ (by simp; omega), gD_rep]
      simp
    · by_cases a2 : j < f + 16
      · rw [List.append_assoc, gD_right _ _ _ _ (by simp; omega), List.length_replicate, gD_left _ _ _ _ (by rw [hm]; omega), gD_take _ _ _ _ (by omega), gD_drop, show f + (j - min f L.length) = j by omega]
      · rw [hz j hj, hs j hj (Or.inr (by omega)), gD_right _ _ _ _ (by rw [List.length_append, hm, List.length_replicate]; omega), gD_rep]
        simp
  rw [e] at hx
  have hb := crun_burst (min f L.length) (L.length - (f + 16)) ((Z.drop f).take 16) (by rw [List.length_take]; omega) hx
  refine getD_ext L M h fun j hj => ?_
  by_cases a : j < f ∨ f + 16 ≤ j
  · exact hs j hj a
  · have hmem : Z.getD j false ∈ (Z.drop f).take 16 := by
      have : ((Z.drop f).take 16)[j - f]? = Z[j]? := by
        rw [List.getElem?_take, if_pos (by omega), List.getElem?_drop, show f + (j - f) = j by omega]
      have h3 : Z[j]? = some (Z.getD j false) := by
        rw [List.getD_eq_getElem?_getD, List.getElem?_eq_getElem (by omega)]; rfl
      exact List.mem_of_getElem? (this.trans h3)
    have h4 := hb _ hmem
    rw [hz j hj] at h4
    cases h5 : L.getD j false <;> cases h6 : M.getD j false <;> rw [h5, h6] at h4 <;> simp at h4 ⊢
end Go.Proofs.YtalbcimnnihmnaaGreat

/- Sums of bytes, plain (as Cse, Csg, Csi have it, for seats without layer 15's laws; never imported beside them): whether a text is sealed, by its bits; a text with its sum behind it. No conditions but those that each fact names. -/
namespace Go.Proofs.YtalbcimnnihmnaaGreat
open Go.RowKit
open M
theorem bl_extract (s : ByteArray) (i j : Nat) : bl (s.extract i j) = ((bl s).drop i).take (j - i) := by
  unfold bl
  rw [ByteArray.data_extract, Array.toList_extract, List.extract_eq_take_drop]
theorem whole_text (s : ByteArray) (n : Nat) : s.extract 0 n ++ s.extract n s.size = s := by
  apply bl_inj
  have hl : (bl s).length = s.size := rfl
  rw [bl_append, bl_extract, bl_extract, List.drop_zero, List.take_of_length_le (i := s.size - n) (by simp [hl]), Nat.sub_zero, List.take_append_drop]
theorem ld_same (m : Nat) (a b : UInt8) (hm : m < 65536) : ofB [a, b] = ld15 m ↔ m = 256 * a.toNat + b.toNat := by
  have ha := a.toNat_lt
  have hb := b.toNat_lt
  unfold ld15
  constructor
  · intro h
    have h1 : [a, b] = [UInt8.ofNat (m / 256), UInt8.ofNat (m % 256)] := by
      have := congrArg bl h
      exact this
    injection h1 with h1 h2
    injection h2 with h2 _
    rw [h1, h2, UInt8.toNat_ofNat', UInt8.toNat_ofNat']
    omega
  · intro h
    have h1 : m / 256 = a.toNat := by omega
    have h2 : m % 256 = b.toNat := by omega
    rw [h1, h2, UInt8.ofNat_toNat, UInt8.ofNat_toNat]
theorem sm15_bd (r : Int) (l : List UInt8) : sm15 r l < 65536 := (crun _ _).isLt
theorem getD_ext8 (L M : List UInt8) (h : L.length = M.length) (k : ∀ j, j < L.length → L.getD j 0 = M.getD j 0) : L = M := by
  apply List.ext_getElem h
  intro j h1 h2
  have := k j h1
  rw [List.getD_eq_getElem?_getD, List.getD_eq_getElem?_getD, List.getElem?_eq_getElem h1, List.getElem?_eq_getElem h2] at this
  simpa using this
/-- A sum, as it is at first. -/
def r15 : BitVec 16 := BitVec.ofNat 16 ((65535 : Int) % 65536).toNat
theorem sm_r15 (l : List UInt8) : sm15 65535 l = (crun r15 (tbt l)).toNat := rfl
theorem ext_take (L : List UInt8) (n : Nat) : (ofB L).extract 0 n = ofB (L.take n) := by
  apply bl_inj
  rw [bl_extract, bl_ofB, bl_ofB, List.drop_zero, Nat.sub_zero]
theorem last_two (L : List UInt8) (n : Nat) (h : L.length = n + 2) : L = L.take n ++ [L.getD n 0, L.getD (n + 1) 0] := getD_ext8 _ _ (by simp [h]) fun j hj => by
  by_cases a : j < n
  · rw [gD_left _ _ _ _ (by simp; omega), gD_take _ _ _ _ a]
  · rw [gD_right _ _ _ _ (by simp; omega), show (L.take n).length = n by simp; omega]
    rcases (show j = n ∨ j = n + 1 by omega) with rfl | rfl
    · rw [Nat.sub_self]; rfl
    · rw [show n + 1 - n = 1 by omega]; rfl
theorem sealed_iff (L : List UInt8) (n : Nat) (h : L.length = n + 2) : (ofB L).extract n (ofB L).size = ld15 (sm15 65535 (bl ((ofB L).extract 0 n))) ↔ crun r15 (tbt L) = 0 := by
  have e := last_two L n h
  have hsz : (ofB L).size = n + 2 := by rw [ofB_size, h]
  have e2 : (ofB L).extract n (ofB L).size = ofB [L.getD n 0, L.getD (n + 1) 0] := by
    apply bl_inj
    rw [bl_extract, bl_ofB, bl_ofB, hsz]
    generalize L.getD n 0 = a at *
    generalize L.getD (n + 1) 0 = b at *
    have hl : (L.take n).length = n := by simp; omega
    rw [e, List.drop_append_of_le_length (by omega), List.drop_of_length_le (by omega), List.nil_append]
    exact List.take_of_length_le (by simp <;> omega)
  rw [e2, ext_take, bl_ofB, ld_same _ _ _ (sm15_bd _ _), sm_r15]
  generalize L.getD n 0 = a at *
  generalize L.getD (n + 1) 0 = b at *
  rw [e, List.take_append_of_le_length (by simp; omega), List.take_of_length_le (l := L.take n) (by simp; omega), tbt_app, crun_append]
  exact (open_two _ a b).symm
/-- Bytes with their sum behind them. -/
def sl15 (l : List UInt8) : List UInt8 := l ++ [UInt8.ofNat (sm15 65535 l / 256), UInt8.ofNat (sm15 65535 l % 256)]
theorem sl_len (l : List UInt8) : (sl15 l).length = l.length + 2 := by simp [sl15]
theorem sl_zero (l : List UInt8) : crun r15 (tbt (sl15 l)) = 0 := by
  unfold sl15
  rw [tbt_app, crun_append, sm_r15]
  exact sealed_two _
theorem sl_text (s : ByteArray) : s ++ ld15 (sm15 65535 (bl s)) = ofB (sl15 (bl s)) := bl_inj (by rw [bl_append, bl_ofB]; rfl)
theorem sl_take (l : List UInt8) : (sl15 l).take l.length = l := by simp [sl15]
end Go.Proofs.YtalbcimnnihmnaaGreat
