/-
  Contracts and plain facts that the laws share; each piece is headed by what it holds and its conditions.
-/
import Derived.Test.YtalbcimnnihmnaaGreatQMath
import Derived.Lib.Hide

/- Plain facts of layers 16 and 17: a band's step by its greatest; budgets, their slopes; how far pulses are. No program is named here. No conditions but those that each fact names. -/
namespace Go.Proofs.YtalbcimnnihmnaaGreat.M

/-- The least of so many steps that a greatest fits, from s on. -/
def stpN (m : Nat) (s : Nat) : Nat → Nat
  | 0 => s
  | n + 1 => if m ≤ 6 * 2 ^ s then s else stpN m (s + 1) n
/-- The step of a greatest. -/
def stp (m : Nat) : Nat := stpN m 0 15
theorem pow2_le (s t : Nat) (h : s ≤ t) : 2 ^ s ≤ 2 ^ t := Nat.pow_le_pow_right (by decide) h
theorem stpN_ge (m n : Nat) : ∀ s, s ≤ stpN m s n := by
  induction n with
  | zero => intro s; exact Nat.le_refl _
  | succ n ih =>
    intro s
    unfold stpN
    by_cases h : m ≤ 6 * 2 ^ s
    · rw [if_pos h]; exact Nat.le_refl _
    · rw [if_neg h]
      have := ih (s + 1)
      omega
theorem stpN_le (m n : Nat) : ∀ s, stpN m s n ≤ s + n := by
  induction n with
  | zero => intro s; exact Nat.le_refl _
  | succ n ih =>
    intro s
    unfold stpN
    by_cases h : m ≤ 6 * 2 ^ s
    · rw [if_pos h]; omega
    · rw [if_neg h]
      have := ih (s + 1)
      omega
theorem stpN_iff (m n : Nat) : ∀ s t, s ≤ t → t < s + n → (stpN m s n ≤ t ↔ m ≤ 6 * 2 ^ t) := by
  induction n with
  | zero => intro s t h1 h2; omega
  | succ n ih =>
    intro s t h1 h2
    unfold stpN
    by_cases h : m ≤ 6 * 2 ^ s
    · rw [if_pos h]
      have := pow2_le s t h1
      constructor
      · intro _; omega
      · intro _; exact h1
    · rw [if_neg h]
      by_cases e : s = t
      · subst e
        have := stpN_ge m n (s + 1)
        constructor
        · intro k; omega
        · intro k; exact absurd k h
      · exact ih (s + 1) t (by omega) (by omega)
theorem stp_le (m : Nat) : stp m ≤ 15 := by
  have := stpN_le m 15 0
  unfold stp; omega
/-- Where a step ends. -/
theorem stp_iff (m t : Nat) (h : t < 15) : stp m ≤ t ↔ m ≤ 6 * 2 ^ t := stpN_iff m 15 0 t (by omega) (by omega)
/-- BandLoud. -/
theorem stp_loud (m : Nat) : (stp m = 15 ∨ m ≤ 6 * 2 ^ stp m) ∧ (stp m = 0 ∨ 3 * 2 ^ stp m < m) := by
  have h15 := stp_le m
  constructor
  · by_cases e : stp m = 15
    · exact Or.inl e
    · exact Or.inr ((stp_iff m (stp m) (by omega)).1 (Nat.le_refl _))
  · by_cases e : stp m = 0
    · exact Or.inl e
    · right
      have h := stp_iff m (stp m - 1) (by omega)
      have e2 : 2 ^ stp m = 2 * 2 ^ (stp m - 1) := by
        rw [show stp m = (stp m - 1) + 1 by omega, Nat.pow_succ, Nat.add_sub_cancel]; omega
      rcases Nat.lt_or_ge (6 * 2 ^ (stp m - 1)) m with k | k
      · omega
      · have := h.2 k
        omega
theorem stp_mono (m n : Nat) (h : m ≤ n) : stp m ≤ stp n := by
  have h15 := stp_le m
  by_cases e : stp n = 15
  · omega
  · have hn := stp_le n
    have := (stp_iff n (stp n) (by omega)).1 (Nat.le_refl _)
    exact (stp_iff m (stp n) (by omega)).2 (by omega)
/-- BandDoubles. -/
theorem stp_twice (m : Nat) : stp m ≤ stp (2 * m) ∧ stp (2 * m) ≤ stp m + 1 ∧ (stp m = 0 ∨ stp (2 * m) = min (stp m + 1) 15) := by
  have h15 := stp_le m
  have h16 := stp_le (2 * m)
  have hm := stp_mono m (2 * m) (by omega)
  have up : stp (2 * m) ≤ stp m + 1 := by
    by_cases e : stp m < 14
    · have h1 := (stp_iff m (stp m) (by omega)).1 (Nat.le_refl _)
      refine (stp_iff (2 * m) (stp m + 1) (by omega)).2 ?_
      rw [Nat.pow_succ]; omega
    · omega
  refine ⟨hm, up, ?_⟩
  by_cases e : stp m = 0
  · exact Or.inl e
  · right
    by_cases e2 : stp m = 15
    · omega
    · have : ¬ stp (2 * m) ≤ stp m := by
        intro k
        have h1 := (stp_iff (2 * m) (stp m) (by omega)).1 k
        have h2 := stp_iff m (stp m - 1) (by omega)
        have e3 : 2 ^ stp m = 2 * 2 ^ (stp m - 1) := by
          rw [show stp m = (stp m - 1) + 1 by omega, Nat.pow_succ, Nat.add_sub_cancel]; omega
        have := h2.2 (by omega)
        omega
      omega

/-- How much louder a band must be to hide another one. -/
def shf (j b : Nat) : Nat := if j ≤ b then b - j else 2 * (j - b)
def bud1 (s : Nat → Nat) (j b : Nat) : Nat := 4 * 2 ^ s j / 2 ^ shf j b
/-- The greatest over the first n bands. -/
def budN (s : Nat → Nat) (b : Nat) : Nat → Nat
  | 0 => 0
  | n + 1 => max (budN s b n) (bud1 s n b)
def bud (s : Nat → Nat) (b : Nat) : Nat := budN s b 8
theorem budN_ge (s : Nat → Nat) (b j n : Nat) (h : j < n) : bud1 s j b ≤ budN s b n := by
  induction n with
  | zero => omega
  | succ n ih =>
    unfold budN
    by_cases e : j = n
    · subst e; exact Nat.le_max_right _ _
    · exact Nat.le_trans (ih (by omega)) (Nat.le_max_left _ _)
theorem budN_le (s : Nat → Nat) (b n m : Nat) (h : ∀ j, j < n → bud1 s j b ≤ m) : budN s b n ≤ m := by
  induction n with
  | zero => exact Nat.zero_le _
  | succ n ih =>
    unfold budN
    exact Nat.max_le.2 ⟨ih fun j hj => h j (by omega), h n (by omega)⟩
theorem bud1_self (s : Nat → Nat) (b : Nat) : bud1 s b b = 4 * 2 ^ s b := by
  unfold bud1 shf
  rw [if_pos (Nat.le_refl _), Nat.sub_self, Nat.pow_zero, Nat.div_one]
/-- MaskLeast. -/
theorem bud_least (s : Nat → Nat) (b : Nat) (hb : b < 8) : 4 * 2 ^ s b ≤ bud s b := by
  rw [← bud1_self]; exact budN_ge s b b 8 hb
theorem bud_mono (s s' : Nat → Nat) (b : Nat) (h : ∀ j, j < 8 → s j ≤ s' j) : bud s b ≤ bud s' b := by
  refine budN_le s b 8 _ fun j hj => Nat.le_trans ?_ (budN_ge s' b j 8 hj)
  unfold bud1
  exact Nat.div_le_div_right (Nat.mul_le_mul_left _ (pow2_le _ _ (h j hj)))
/-- A slope behind a slope is steeper. -/
theorem bud1_up (s : Nat → Nat) (j b : Nat) : bud1 s j b / 2 ≤ bud1 s j (b + 1) := by
  unfold bud1
  rw [Nat.div_div_eq_div_mul, ← Nat.pow_succ]
  apply Nat.div_le_div_left
  · apply pow2_le
    unfold shf
    split <;> split <;> omega
  · exact Nat.two_pow_pos _
theorem bud1_down (s : Nat → Nat) (j b : Nat) : bud1 s j (b + 1) / 4 ≤ bud1 s j b := by
  unfold bud1
  rw [Nat.div_div_eq_div_mul, show 2 ^ shf j (b + 1) * 4 = 2 ^ (shf j (b + 1) + 2) by rw [Nat.pow_add]]
  apply Nat.div_le_div_left
  · apply pow2_le
    unfold shf
    split <;> split <;> omega
  · exact Nat.two_pow_pos _
/-- The greatest is one of them. -/
theorem budN_is (s : Nat → Nat) (b n : Nat) (h : 0 < n) : ∃ j, j < n ∧ budN s b n = bud1 s j b := by
  induction n with
  | zero => omega
  | succ n ih =>
    by_cases e : n = 0
    · subst e
      refine ⟨0, by omega, ?_⟩
      show max 0 (bud1 s 0 b) = _
      omega
    · obtain ⟨j, hj, k⟩ := ih (by omega)
      unfold budN
      rcases Nat.le_total (budN s b n) (bud1 s n b) with h1 | h1
      · exact ⟨n, by omega, by omega⟩
      · exact ⟨j, by omega, by omega⟩
/-- MaskSlopes. -/
theorem bud_slopes (s : Nat → Nat) (b : Nat) : bud s b / 2 ≤ bud s (b + 1) ∧ bud s (b + 1) / 4 ≤ bud s b := by
  constructor
  · obtain ⟨j, hj, e⟩ := budN_is s b 8 (by decide)
    have h1 := bud1_up s j b
    have h2 := budN_ge s (b + 1) j 8 hj
    unfold bud
    omega
  · obtain ⟨j, hj, e⟩ := budN_is s (b + 1) 8 (by decide)
    have h1 := bud1_down s j b
    have h2 := budN_ge s b j 8 hj
    unfold bud
    omega
theorem bud_lt (s : Nat → Nat) (b : Nat) (h : ∀ j, j < 8 → s j ≤ 15) : bud s b ≤ 131072 := by
  refine budN_le s b 8 _ fun j hj => ?_
  have := pow2_le (s j) 15 (h j hj)
  unfold bud1
  exact Nat.le_trans (Nat.div_le_self _ _) (by omega)
/-- Halved n times. -/
theorem halved (x n : Nat) : x / 2 ^ n / 2 = x / 2 ^ (n + 1) := by rw [Nat.div_div_eq_div_mul, ← Nat.pow_succ]
/-- How far lists of numbers are. -/
def farL : List Int → List Int → Nat
  | a :: as, b :: bs => (a - b).natAbs + farL as bs
  | _, _ => 0
theorem farL_comm : ∀ a b : List Int, farL a b = farL b a
  | [], [] => rfl
  | [], _ :: _ => rfl
  | _ :: _, [] => rfl
  | a :: as, b :: bs => by
    unfold farL
    rw [farL_comm as bs]
    omega
theorem farL_zero : ∀ a b : List Int, a.length = b.length → (farL a b = 0 ↔ a = b)
  | [], [], _ => by simp [farL]
  | a :: as, b :: bs, h => by
    have ih := farL_zero as bs (by simpa using h)
    unfold farL
    rw [List.cons.injEq, ← ih]
    omega
end Go.Proofs.YtalbcimnnihmnaaGreat.M

/- Plain facts on lists of bits: how they are packed into bytes, what a number's bits are, what bits' number is. No function of the program is named here. No conditions. -/
namespace Go.Proofs.YtalbcimnnihmnaaGreat.M

def bt (bs : List Bool) (j : Nat) : Nat := (bs.getD j false).toNat
def byteAt (bs : List Bool) (i : Nat) : Nat :=
  128 * bt bs (8 * i + 0) + 64 * bt bs (8 * i + 1) + 32 * bt bs (8 * i + 2) + 16 * bt bs (8 * i + 3) + 8 * bt bs (8 * i + 4) + 4 * bt bs (8 * i + 5) + 2 * bt bs (8 * i + 6) + bt bs (8 * i + 7)
def packN (bs : List Bool) (m : Nat) : List UInt8 := (List.range m).map fun i => UInt8.ofNat (byteAt bs i)
def pack (bs : List Bool) : List UInt8 := packN bs ((bs.length + 7) / 8)

theorem bt_le (bs : List Bool) (j : Nat) : bt bs j ≤ 1 := by unfold bt; cases bs.getD j false <;> decide
theorem bt_out (bs : List Bool) (j : Nat) (h : bs.length ≤ j) : bt bs j = 0 := by
  unfold bt; rw [List.getD_eq_getElem?_getD, List.getElem?_eq_none h]; rfl
theorem bt_app (bs : List Bool) (b : Bool) (j : Nat) (h : j < bs.length) : bt (bs ++ [b]) j = bt bs j := by
  unfold bt; rw [List.getD_eq_getElem?_getD, List.getD_eq_getElem?_getD, List.getElem?_append_left h]
theorem bt_new (bs : List Bool) (b : Bool) : bt (bs ++ [b]) bs.length = b.toNat := by
  unfold bt; rw [List.getD_eq_getElem?_getD, List.getElem?_append_right (Nat.le_refl _)]; simp
theorem byteAt_lt (bs : List Bool) (i : Nat) : byteAt bs i < 256 := by
  have h0 := bt_le bs (8 * i + 0)
  have h1 := bt_le bs (8 * i + 1)
  have h2 := bt_le bs (8 * i + 2)
  have h3 := bt_le bs (8 * i + 3)
  have h4 := bt_le bs (8 * i + 4)
  have h5 := bt_le bs (8 * i + 5)
  have h6 := bt_le bs (8 * i + 6)
  have h7 := bt_le bs (8 * i + 7)
  unfold byteAt; omega
theorem packN_length (bs : List Bool) (m : Nat) : (packN bs m).length = m := by simp [packN]
theorem pack_length (bs : List Bool) : (pack bs).length = (bs.length + 7) / 8 := packN_length _ _
theorem packN_get (bs : List Bool) (m i : Nat) (h : i < m) : (packN bs m)[i]? = some (UInt8.ofNat (byteAt bs i)) := by simp [packN, h]
theorem byteAt_out (bs : List Bool) (i : Nat) (h : bs.length ≤ 8 * i) : byteAt bs i = 0 := by
  unfold byteAt
  rw [bt_out _ _ (by omega), bt_out _ _ (by omega), bt_out _ _ (by omega), bt_out _ _ (by omega), bt_out _ _ (by omega), bt_out _ _ (by omega), bt_out _ _ (by omega), bt_out _ _ (by omega)]
theorem byteAt_app (bs : List Bool) (b : Bool) (i : Nat) (h : 8 * i + 8 ≤ bs.length) : byteAt (bs ++ [b]) i = byteAt bs i := by
  unfold byteAt
  rw [bt_app _ _ _ (by omega), bt_app _ _ _ (by omega), bt_app _ _ _ (by omega), bt_app _ _ _ (by omega), bt_app _ _ _ (by omega), bt_app _ _ _ (by omega), bt_app _ _ _ (by omega), bt_app _ _ _ (by omega)]
theorem pack_open (bs : List Bool) (h : bs.length % 8 = 0) : pack bs ++ [0] = packN bs (bs.length / 8 + 1) := by
  have e : (bs.length + 7) / 8 = bs.length / 8 := by omega
  unfold pack
  rw [e]
  unfold packN
  rw [List.range_succ, List.map_append, List.map_cons, List.map_nil, byteAt_out bs _ (by omega)]
  rfl
theorem pack_mid (bs : List Bool) (h : bs.length % 8 ≠ 0) : pack bs = packN bs (bs.length / 8 + 1) := by
  have e : (bs.length + 7) / 8 = bs.length / 8 + 1 := by omega
  unfold pack
  rw [e]

theorem or8 (r : Nat) (hr : r < 8) (c0 c1 c2 c3 c4 c5 c6 c7 b : Bool)
    (h : ∀ k, r ≤ k → k < 8 → [c0, c1, c2, c3, c4, c5, c6, c7].getD k false = false) :
    128 * ([c0, c1, c2, c3, c4, c5, c6, c7].set r b |>.getD 0 false).toNat + 64 * ([c0, c1, c2, c3, c4, c5, c6, c7].set r b |>.getD 1 false).toNat + 32 * ([c0, c1, c2, c3, c4, c5, c6, c7].set r b |>.getD 2 false).toNat + 16 * ([c0, c1, c2, c3, c4, c5, c6, c7].set r b |>.getD 3 false).toNat
     + 8 * ([c0, c1, c2, c3, c4, c5, c6, c7].set r b |>.getD 4 false).toNat + 4 * ([c0, c1, c2, c3, c4, c5, c6, c7].set r b |>.getD 5 false).toNat + 2 * ([c0, c1, c2, c3, c4, c5, c6, c7].set r b |>.getD 6 false).toNat + ([c0, c1, c2, c3, c4, c5, c6, c7].set r b |>.getD 7 false).toNat
     = (128 * c0.toNat + 64 * c1.toNat + 32 * c2.toNat + 16 * c3.toNat + 8 * c4.toNat + 4 * c5.toNat + 2 * c6.toNat + c7.toNat) ||| (b.toNat <<< (7 - r)) := by
  match r, hr with
  | 0, _ =>
    have g0 := h 0 (by omega) (by omega); have g1 := h 1 (by omega) (by omega); have g2 := h 2 (by omega) (by omega); have g3 := h 3 (by omega) (by omega); have g4 := h 4 (by omega) (by omega); have g5 := h 5 (by omega) (by omega); have g6 := h 6 (by omega) (by omega); have g7 := h 7 (by omega) (by omega)
    clear h; simp at g0 g1 g2 g3 g4 g5 g6 g7; subst g0 g1 g2 g3 g4 g5 g6 g7; revert b; decide
  | 1, _ =>
    have g1 := h 1 (by omega) (by omega); have g2 := h 2 (by omega) (by omega); have g3 := h 3 (by omega) (by omega); have g4 := h 4 (by omega) (by omega); have g5 := h 5 (by omega) (by omega); have g6 := h 6 (by omega) (by omega); have g7 := h 7 (by omega) (by omega)
    clear h; simp at g1 g2 g3 g4 g5 g6 g7; subst g1 g2 g3 g4 g5 g6 g7; revert b c0; decide
  | 2, _ =>
    have g2 := h 2 (by omega) (by omega); have g3 := h 3 (by omega) (by omega); have g4 := h 4 (by omega) (by omega); have g5 := h 5 (by omega) (by omega); have g6 := h 6 (by omega) (by omega); have g7 := h 7 (by omega) (by omega)
    clear h; simp at g2 g3 g4 g5 g6 g7; subst g2 g3 g4 g5 g6 g7; revert b c0 c1; decide
  | 3, _ =>
    have g3 := h 3 (by omega) (by omega); have g4 := h 4 (by omega) (by omega); have g5 := h 5 (by omega) (by omega); have g6 := h 6 (by omega) (by omega); have g7 := h 7 (by omega) (by omega)
    clear h; simp at g3 g4 g5 g6 g7; subst g3 g4 g5 g6 g7; revert b c0 c1 c2; decide
  | 4, _ =>
    have g4 := h 4 (by omega) (by omega); have g5 := h 5 (by omega) (by omega); have g6 := h 6 (by omega) (by omega); have g7 := h 7 (by omega) (by omega)
    clear h; simp at g4 g5 g6 g7; subst g4 g5 g6 g7; revert b c0 c1 c2 c3; decide
  | 5, _ =>
    have g5 := h 5 (by omega) (by omega); have g6 := h 6 (by omega) (by omega); have g7 := h 7 (by omega) (by omega)
    clear h; simp at g5 g6 g7; subst g5 g6 g7; revert b c0 c1 c2 c3 c4; decide
  | 6, _ =>
    have g6 := h 6 (by omega) (by omega); have g7 := h 7 (by omega) (by omega)
    clear h; simp at g6 g7; subst g6 g7; revert b c0 c1 c2 c3 c4 c5; decide
  | 7, _ =>
    have g7 := h 7 (by omega) (by omega)
    clear h; simp at g7; subst g7; revert b c0 c1 c2 c3 c4 c5 c6; decide
  | n + 8, h' => omega
theorem getD_app (bs : List Bool) (b : Bool) (j : Nat) : (bs ++ [b]).getD j false = if j = bs.length then b else bs.getD j false := by
  simp only [List.getD_eq_getElem?_getD]
  by_cases h : j < bs.length
  · rw [List.getElem?_append_left h, if_neg (by omega)]
  · rw [List.getElem?_append_right (by omega)]
    by_cases h2 : j = bs.length
    · subst h2; simp
    · rw [if_neg h2, List.getElem?_eq_none (by simp; omega), List.getElem?_eq_none (by omega)]
theorem byteAt_new (bs : List Bool) (b : Bool) : byteAt (bs ++ [b]) (bs.length / 8) = byteAt bs (bs.length / 8) ||| (b.toNat <<< (7 - bs.length % 8)) := by
  have hr : bs.length % 8 < 8 := Nat.mod_lt _ (by decide)
  have hL := Nat.div_add_mod bs.length 8
  generalize hrr : bs.length % 8 = r at *
  generalize hqq : bs.length / 8 = q at *
  have hout : ∀ k, r ≤ k → k < 8 → [bs.getD (8 * q + 0) false, bs.getD (8 * q + 1) false, bs.getD (8 * q + 2) false, bs.getD (8 * q + 3) false, bs.getD (8 * q + 4) false, bs.getD (8 * q + 5) false, bs.getD (8 * q + 6) false, bs.getD (8 * q + 7) false].getD k false = false := by
    intro k h1 h2
    have e : [bs.getD (8 * q + 0) false, bs.getD (8 * q + 1) false, bs.getD (8 * q + 2) false, bs.getD (8 * q + 3) false, bs.getD (8 * q + 4) false, bs.getD (8 * q + 5) false, bs.getD (8 * q + 6) false, bs.getD (8 * q + 7) false].getD k false = bs.getD (8 * q + k) false := by
      match k, h2 with
      | 0, _ => rfl
      | 1, _ => rfl
      | 2, _ => rfl
      | 3, _ => rfl
      | 4, _ => rfl
      | 5, _ => rfl
      | 6, _ => rfl
      | 7, _ => rfl
      | n + 8, h' => omega
    rw [e, List.getD_eq_getElem?_getD, List.getElem?_eq_none (by omega)]
    rfl
  have := or8 r hr _ _ _ _ _ _ _ _ b hout
  unfold byteAt bt
  rw [← this]
  simp only [getD_app, ← hL]
  match r, hr with
  | 0, _ => simp
  | 1, _ => simp
  | 2, _ => simp
  | 3, _ => simp
  | 4, _ => simp
  | 5, _ => simp
  | 6, _ => simp
  | 7, _ => simp
  | n + 8, h' => omega
theorem pack_lay (bs : List Bool) (b : Bool) :
    (packN bs (bs.length / 8 + 1)).set (bs.length / 8) (UInt8.ofNat (byteAt bs (bs.length / 8) ||| (b.toNat <<< (7 - bs.length % 8)))) = pack (bs ++ [b]) := by
  have hL := Nat.div_add_mod bs.length 8
  have hr : bs.length % 8 < 8 := Nat.mod_lt _ (by decide)
  have e : ((bs ++ [b]).length + 7) / 8 = bs.length / 8 + 1 := by simp; omega
  unfold pack
  rw [e]
  apply List.ext_getElem?
  intro i
  rw [List.getElem?_set, packN_length]
  by_cases h1 : i < bs.length / 8 + 1
  · rw [packN_get _ _ _ h1, packN_get _ _ _ h1]
    by_cases h2 : bs.length / 8 = i
    · subst h2
      rw [if_pos rfl, if_pos (by omega), byteAt_new]
    · rw [if_neg h2, byteAt_app _ _ _ (by omega)]
  · rw [if_neg (by omega), List.getElem?_eq_none (by rw [packN_length]; omega), List.getElem?_eq_none (by rw [packN_length]; omega)]

/-- A number's n bits, the highest first. -/
def bitsOf (x n : Nat) : List Bool := (List.range n).map fun i => x.testBit (n - 1 - i)
def numOf (l : List Bool) : Nat := l.foldl (fun x b => 2 * x + b.toNat) 0
theorem bitsOf_length (x n : Nat) : (bitsOf x n).length = n := by simp [bitsOf]
theorem bitsOf_take (x n k : Nat) (h : k < n) : (bitsOf x n).take (k + 1) = (bitsOf x n).take k ++ [x.testBit (n - 1 - k)] := by
  rw [List.take_succ_eq_append_getElem (by rw [bitsOf_length]; exact h)]
  simp [bitsOf]
theorem numOf_app (l : List Bool) (b : Bool) : numOf (l ++ [b]) = 2 * numOf l + b.toNat := by simp [numOf]
theorem bitsOf_succ (x n : Nat) : bitsOf x (n + 1) = bitsOf (x / 2) n ++ [x.testBit 0] := by
  unfold bitsOf
  rw [List.range_succ, List.map_append]
  congr 1
  · apply List.map_congr_left
    intro i hi
    have : i < n := by simpa using hi
    rw [show n + 1 - 1 - i = (n - 1 - i) + 1 by omega, Nat.testBit_succ]
  · simp
theorem numOf_bitsOf (n : Nat) : ∀ x, x < 2 ^ n → numOf (bitsOf x n) = x := by
  induction n with
  | zero => intro x h; have : x = 0 := by simpa using h
            subst this; rfl
  | succ n ih =>
    intro x h
    rw [bitsOf_succ, numOf_app, ih (x / 2) (by rw [Nat.pow_succ] at h; omega), Nat.testBit_zero]
    have := Nat.div_add_mod x 2
    rcases Nat.mod_two_eq_zero_or_one x with h2 | h2 <;> simp [h2] <;> omega
theorem numOf_lt' (n : Nat) : ∀ l : List Bool, l.length = n → numOf l < 2 ^ n := by
  induction n with
  | zero => intro l h; rw [List.eq_nil_of_length_eq_zero h]; decide
  | succ n ih =>
    intro l h
    rcases List.eq_nil_or_concat l with rfl | ⟨l', b, rfl⟩
    · simp at h
    · have := ih l' (by simpa using h)
      rw [List.concat_eq_append, numOf_app, Nat.pow_succ]
      have : b.toNat ≤ 1 := by cases b <;> decide
      omega
theorem numOf_lt (l : List Bool) : numOf l < 2 ^ l.length := numOf_lt' _ l rfl

/-- A text's bits. -/
def sb (s : List UInt8) (j : Nat) : Bool := (s.getD (j / 8) 0).toNat.testBit (7 - j % 8)
def readB (s : List UInt8) (a n : Nat) : List Bool := (List.range n).map fun i => sb s (a + i)
theorem readB_length (s : List UInt8) (a n : Nat) : (readB s a n).length = n := by simp [readB]
theorem readB_succ (s : List UInt8) (a n : Nat) : readB s a (n + 1) = readB s a n ++ [sb s (a + n)] := by
  unfold readB; rw [List.range_succ, List.map_append]; rfl
theorem readB_add (s : List UInt8) (a m n : Nat) : readB s a (m + n) = readB s a m ++ readB s (a + m) n := by
  induction n with
  | zero => simp [readB]
  | succ n ih => rw [← Nat.add_assoc, readB_succ, ih, readB_succ, List.append_assoc, Nat.add_assoc]
theorem byte_bit (k : Nat) (hk : k < 8) (c0 c1 c2 c3 c4 c5 c6 c7 : Bool) :
    (128 * c0.toNat + 64 * c1.toNat + 32 * c2.toNat + 16 * c3.toNat + 8 * c4.toNat + 4 * c5.toNat + 2 * c6.toNat + c7.toNat).testBit (7 - k) = [c0, c1, c2, c3, c4, c5, c6, c7].getD k false := by
  match k, hk with
  | 0, _ => revert c0 c1 c2 c3 c4 c5 c6 c7; decide
  | 1, _ => revert c0 c1 c2 c3 c4 c5 c6 c7; decide
  | 2, _ => revert c0 c1 c2 c3 c4 c5 c6 c7; decide
  | 3, _ => revert c0 c1 c2 c3 c4 c5 c6 c7; decide
  | 4, _ => revert c0 c1 c2 c3 c4 c5 c6 c7; decide
  | 5, _ => revert c0 c1 c2 c3 c4 c5 c6 c7; decide
  | 6, _ => revert c0 c1 c2 c3 c4 c5 c6 c7; decide
  | 7, _ => revert c0 c1 c2 c3 c4 c5 c6 c7; decide
  | n + 8, h' => omega
theorem byteAt_bit (bs : List Bool) (i k : Nat) (hk : k < 8) : (byteAt bs i).testBit (7 - k) = bs.getD (8 * i + k) false := by
  unfold byteAt bt
  rw [byte_bit k hk]
  match k, hk with
  | 0, _ => rfl
  | 1, _ => rfl
  | 2, _ => rfl
  | 3, _ => rfl
  | 4, _ => rfl
  | 5, _ => rfl
  | 6, _ => rfl
  | 7, _ => rfl
  | n + 8, h' => omega
theorem sb_pack (bs : List Bool) (j : Nat) : sb (pack bs) j = bs.getD j false := by
  have hj := Nat.div_add_mod j 8
  have hr : j % 8 < 8 := Nat.mod_lt _ (by decide)
  unfold sb
  by_cases h : j / 8 < (bs.length + 7) / 8
  · unfold pack
    rw [List.getD_eq_getElem?_getD, packN_get _ _ _ h]
    show (UInt8.ofNat (byteAt bs (j / 8))).toNat.testBit _ = _
    rw [UInt8.toNat_ofNat_of_lt' (byteAt_lt _ _), byteAt_bit _ _ _ hr, hj]
  · rw [List.getD_eq_getElem?_getD, List.getElem?_eq_none (by rw [pack_length]; omega), List.getD_eq_getElem?_getD, List.getElem?_eq_none (by omega)]
    simp
theorem readB_pack (bs l cs : List Bool) (a : Nat) (hl : a = bs.length) : readB (pack (bs ++ l ++ cs)) a l.length = l := by
  subst hl
  apply List.ext_getElem (by rw [readB_length])
  intro i h1 h2
  simp only [readB, List.getElem_map, List.getElem_range, sb_pack]
  rw [List.getD_eq_getElem?_getD, List.append_assoc, List.getElem?_append_right (by omega), List.getElem?_append_left (by omega), show bs.length + i - bs.length = i by omega, List.getElem?_eq_getElem h2]
  rfl
theorem readB_byte (l : List UInt8) (j : Nat) : readB l (8 * j) 8 = bitsOf (l.getD j 0).toNat 8 := by
  unfold readB bitsOf
  apply List.map_congr_left
  intro i hi
  have : i < 8 := by simpa using hi
  unfold sb
  rw [show (8 * j + i) / 8 = j by omega, show (8 * j + i) % 8 = i by omega]
theorem readB_bytes (l : List UInt8) (j : Nat) : readB l 0 (8 * (j + 1)) = readB l 0 (8 * j) ++ bitsOf (l.getD j 0).toNat 8 := by
  rw [show 8 * (j + 1) = 8 * j + 8 by omega, readB_add, Nat.zero_add, readB_byte]
end Go.Proofs.YtalbcimnnihmnaaGreat.M

/- Plain facts of layer 13: vectors of so many pulses, counted and numbered; that numbers and vectors undo each other, and the order. No program is named here. No conditions but those that each fact names. -/
namespace Go.Proofs.YtalbcimnnihmnaaGreat.M

/-- The size of the number of a rank among 0, 1, -1, 2, ..; that number; a number's rank. -/
def sz (r : Nat) : Nat := (r + 1) / 2
def unr (r : Nat) : Int := if r % 2 = 1 then (sz r : Int) else -(sz r : Int)
def rk (x : Int) : Nat := if 0 < x then 2 * x.toNat - 1 else 2 * (-x).toNat
theorem rk_unr (r : Nat) : rk (unr r) = r := by
  unfold rk unr sz
  by_cases h : r % 2 = 1
  · rw [if_pos h, if_pos (by omega)]; omega
  · rw [if_neg h, if_neg (by omega)]; omega
theorem unr_rk (x : Int) : unr (rk x) = x := by
  unfold rk unr sz
  by_cases h : 0 < x
  · rw [if_pos h, if_pos (by omega)]; omega
  · rw [if_neg h, if_neg (by omega)]; omega
theorem unr_sz (r : Nat) : (unr r).natAbs = sz r := by
  unfold unr
  split <;> omega
theorem sz_rk (x : Int) : sz (rk x) = x.natAbs := by
  unfold sz rk
  split <;> omega
theorem rk_le (x : Int) : rk x ≤ 2 * x.natAbs := by
  unfold rk
  split <;> omega

/-- How many stand ahead of the first number of rank r, f counting the rests. -/
def ah (f : Nat → Nat) (k : Nat) : Nat → Nat
  | 0 => 0
  | r + 1 => ah f k r + f (k - sz r)
/-- How many vectors of n numbers have k pulses. -/
def cn13 : Nat → Nat → Nat
  | 0, k => if k = 0 then 1 else 0
  | n + 1, k => ah (cn13 n) k (2 * k + 1)
theorem ah_mono (f : Nat → Nat) (k r s : Nat) (h : r ≤ s) : ah f k r ≤ ah f k s := by
  induction s with
  | zero => rw [show r = 0 by omega]; exact Nat.le_refl _
  | succ s ih =>
    rcases Nat.lt_or_ge s r with e | e
    · rw [show r = s + 1 by omega]; exact Nat.le_refl _
    · have := ih e
      show _ ≤ ah f k s + f (k - sz s)
      omega
theorem ah_one (f : Nat → Nat) (k i r s : Nat) (h1 : ah f k r ≤ i) (h2 : i < ah f k (r + 1)) (h3 : ah f k s ≤ i) (h4 : i < ah f k (s + 1)) : r = s := by
  rcases Nat.lt_trichotomy r s with e | e | e
  · have := ah_mono f k (r + 1) s e
    omega
  · exact e
  · have := ah_mono f k (s + 1) r e
    omega
/-- A vector's pulses, and its number. -/
def pl13 : List Int → Nat
  | [] => 0
  | x :: r => x.natAbs + pl13 r
def ix13 : List Int → Nat
  | [] => 0
  | x :: r => ah (cn13 r.length) (x.natAbs + pl13 r) (rk x) + ix13 r
theorem ah_next (f : Nat → Nat) (x : Int) (p : Nat) : ah f (x.natAbs + p) (rk x + 1) = ah f (x.natAbs + p) (rk x) + f p := by
  show _ + f (x.natAbs + p - sz (rk x)) = _
  rw [sz_rk, Nat.add_sub_cancel_left]
/-- Numbers are less than the count. -/
theorem ix_lt : ∀ y : List Int, ix13 y < cn13 y.length (pl13 y)
  | [] => by decide
  | x :: r => by
    have ih := ix_lt r
    have h1 := ah_next (cn13 r.length) x (pl13 r)
    have h2 := rk_le x
    have h3 := ah_mono (cn13 r.length) (x.natAbs + pl13 r) (rk x + 1) (2 * (x.natAbs + pl13 r) + 1) (by omega)
    show ah (cn13 r.length) (x.natAbs + pl13 r) (rk x) + ix13 r < ah (cn13 r.length) (x.natAbs + pl13 r) (2 * (x.natAbs + pl13 r) + 1)
    omega
/-- The greatest rank with no more ahead of it than i. -/
def pk (f : Nat → Nat) (k i : Nat) : Nat → Nat
  | 0 => 0
  | r + 1 => if ah f k (r + 1) ≤ i then r + 1 else pk f k i r
theorem pk_at (f : Nat → Nat) (k i : Nat) : ∀ R, i < ah f k (R + 1) → ah f k (pk f k i R) ≤ i ∧ i < ah f k (pk f k i R + 1) ∧ pk f k i R ≤ R
  | 0, h => ⟨Nat.zero_le _, h, Nat.le_refl _⟩
  | R + 1, h => by
    unfold pk
    by_cases e : ah f k (R + 1) ≤ i
    · rw [if_pos e]
      exact ⟨e, h, Nat.le_refl _⟩
    · rw [if_neg e]
      obtain ⟨h1, h2, h3⟩ := pk_at f k i R (by omega)
      exact ⟨h1, h2, by omega⟩
/-- The vector whose number is i. -/
def vc13 : Nat → Nat → Nat → List Int
  | 0, _, _ => []
  | n + 1, k, i => unr (pk (cn13 n) k i (2 * k)) :: vc13 n (k - sz (pk (cn13 n) k i (2 * k))) (i - ah (cn13 n) k (pk (cn13 n) k i (2 * k)))
theorem vc_all : ∀ n k i, i < cn13 n k → (vc13 n k i).length = n ∧ pl13 (vc13 n k i) = k ∧ ix13 (vc13 n k i) = i
  | 0, k, i, h => by
    unfold cn13 at h
    by_cases e : k = 0
    · rw [if_pos e] at h
      exact ⟨rfl, e.symm, by show 0 = i; omega⟩
    · rw [if_neg e] at h
      omega
  | n + 1, k, i, h => by
    obtain ⟨h1, h2, h3⟩ := pk_at (cn13 n) k i (2 * k) h
    obtain ⟨r, hr⟩ : ∃ r, pk (cn13 n) k i (2 * k) = r := ⟨_, rfl⟩
    rw [hr] at h1 h2 h3
    have h4 : ah (cn13 n) k (r + 1) = ah (cn13 n) k r + cn13 n (k - sz r) := rfl
    have hs : sz r ≤ k := by unfold sz; omega
    obtain ⟨g1, g2, g3⟩ := vc_all n (k - sz r) (i - ah (cn13 n) k r) (by omega)
    show (unr (pk (cn13 n) k i (2 * k)) :: vc13 n (k - sz (pk (cn13 n) k i (2 * k))) (i - ah (cn13 n) k (pk (cn13 n) k i (2 * k)))).length = n + 1 ∧ pl13 (unr (pk (cn13 n) k i (2 * k)) :: vc13 n (k - sz (pk (cn13 n) k i (2 * k))) (i - ah (cn13 n) k (pk (cn13 n) k i (2 * k)))) = k ∧ ix13 (unr (pk (cn13 n) k i (2 * k)) :: vc13 n (k - sz (pk (cn13 n) k i (2 * k))) (i - ah (cn13 n) k (pk (cn13 n) k i (2 * k)))) = i
    rw [hr]
    refine ⟨by rw [List.length_cons, g1], ?_, ?_⟩
    · show (unr r).natAbs + pl13 _ = k
      rw [unr_sz, g2]; omega
    · show ah (cn13 (vc13 n (k - sz r) (i - ah (cn13 n) k r)).length) ((unr r).natAbs + pl13 (vc13 n (k - sz r) (i - ah (cn13 n) k r))) (rk (unr r)) + ix13 (vc13 n (k - sz r) (i - ah (cn13 n) k r)) = i
      rw [g1, g2, g3, unr_sz, rk_unr, show sz r + (k - sz r) = k by omega]
      omega
theorem vc_ix : ∀ y : List Int, vc13 y.length (pl13 y) (ix13 y) = y
  | [] => rfl
  | x :: r => by
    have ih := vc_ix r
    have hlt := ix_lt r
    have hx := ix_lt (x :: r)
    have h1 := ah_next (cn13 r.length) x (pl13 r)
    have e : ix13 (x :: r) = ah (cn13 r.length) (x.natAbs + pl13 r) (rk x) + ix13 r := rfl
    have ep : pl13 (x :: r) = x.natAbs + pl13 r := rfl
    obtain ⟨k1, k2, k3⟩ := pk_at (cn13 r.length) (x.natAbs + pl13 r) (ix13 (x :: r)) (2 * (x.natAbs + pl13 r)) hx
    have hr := ah_one (cn13 r.length) (x.natAbs + pl13 r) (ix13 (x :: r)) _ (rk x) k1 k2 (by omega) (by omega)
    show vc13 (r.length + 1) (x.natAbs + pl13 r) (ix13 (x :: r)) = x :: r
    show unr (pk (cn13 r.length) (x.natAbs + pl13 r) (ix13 (x :: r)) (2 * (x.natAbs + pl13 r))) :: vc13 r.length (x.natAbs + pl13 r - sz (pk (cn13 r.length) (x.natAbs + pl13 r) (ix13 (x :: r)) (2 * (x.natAbs + pl13 r)))) (ix13 (x :: r) - ah (cn13 r.length) (x.natAbs + pl13 r) (pk (cn13 r.length) (x.natAbs + pl13 r) (ix13 (x :: r)) (2 * (x.natAbs + pl13 r)))) = x :: r
    rw [hr, unr_rk, sz_rk, Nat.add_sub_cancel_left, e, Nat.add_sub_cancel_left, ih]
/-- Vectors with the same number, of as many numbers and pulses, are the same. -/
theorem ix_inj (y z : List Int) (h1 : y.length = z.length) (h2 : pl13 y = pl13 z) (h3 : ix13 y = ix13 z) : y = z := by
  rw [← vc_ix y, h1, h2, h3, vc_ix]
/-- The order goes by the first number that is unlike. -/
theorem ix_first (p : List Int) : ∀ (x x' : Int) (r r' : List Int), r.length = r'.length → pl13 (p ++ x :: r) = pl13 (p ++ x' :: r') → rk x < rk x' → ix13 (p ++ x :: r) < ix13 (p ++ x' :: r') := by
  induction p with
  | nil =>
    intro x x' r r' hl hp hr
    have hp' : x.natAbs + pl13 r = x'.natAbs + pl13 r' := hp
    have h1 := ah_next (cn13 r.length) x (pl13 r)
    have h2 := ix_lt r
    have h3 := ah_mono (cn13 r.length) (x.natAbs + pl13 r) (rk x + 1) (rk x') hr
    show ah (cn13 r.length) (x.natAbs + pl13 r) (rk x) + ix13 r < ah (cn13 r'.length) (x'.natAbs + pl13 r') (rk x') + ix13 r'
    rw [← hl, ← hp']
    omega
  | cons t p ih =>
    intro x x' r r' hl hp hr
    have hp' : t.natAbs + pl13 (p ++ x :: r) = t.natAbs + pl13 (p ++ x' :: r') := hp
    have h1 := ih x x' r r' hl (by omega) hr
    show ah (cn13 (p ++ x :: r).length) (t.natAbs + pl13 (p ++ x :: r)) (rk t) + ix13 (p ++ x :: r) < ah (cn13 (p ++ x' :: r').length) (t.natAbs + pl13 (p ++ x' :: r')) (rk t) + ix13 (p ++ x' :: r')
    have e : (p ++ x :: r).length = (p ++ x' :: r').length := by simp [hl]
    rw [e, hp']
    omega
/-- Vectors that begin with 0 come first. -/
theorem vc_zero (n k i : Nat) (h : i < cn13 n k) : vc13 (n + 1) k i = 0 :: vc13 n k i := by
  have e1 : ah (cn13 n) k 1 = cn13 n k := by
    show 0 + cn13 n (k - sz 0) = _
    rw [show sz 0 = 0 from rfl, Nat.sub_zero, Nat.zero_add]
  have hlt : i < ah (cn13 n) k (2 * k + 1) := Nat.lt_of_lt_of_le (by rw [e1]; exact h) (ah_mono _ _ 1 _ (by omega))
  obtain ⟨k1, k2, k3⟩ := pk_at (cn13 n) k i (2 * k) hlt
  have hr := ah_one (cn13 n) k i _ 0 k1 k2 (Nat.zero_le _) (by rw [e1]; exact h)
  show unr (pk (cn13 n) k i (2 * k)) :: vc13 n (k - sz (pk (cn13 n) k i (2 * k))) (i - ah (cn13 n) k (pk (cn13 n) k i (2 * k))) = 0 :: vc13 n k i
  rw [hr]
  rfl
theorem cn_none (n : Nat) : cn13 n 0 = 1 := by
  induction n with
  | zero => rfl
  | succ n ih => show 0 + cn13 n 0 = 1; omega
/-- Counts of one pulse more. -/
theorem ah_shift (f : Nat → Nat) (k : Nat) : ∀ r, r ≤ k → ah f (k + 1) (2 * r + 3) = f (k + 1) + f k + ah f k (2 * r + 1)
  | 0, _ => by
    show 0 + f (k + 1 - 0) + f (k + 1 - 1) + f (k + 1 - 1) = f (k + 1) + f k + (0 + f (k - 0))
    rw [Nat.sub_zero, Nat.add_sub_cancel, Nat.sub_zero]
    omega
  | r + 1, h => by
    have ih := ah_shift f k r (by omega)
    have e1 : ah f (k + 1) (2 * (r + 1) + 3) = ah f (k + 1) (2 * r + 3) + f (k + 1 - sz (2 * r + 3)) + f (k + 1 - sz (2 * r + 4)) := rfl
    have e2 : ah f k (2 * (r + 1) + 1) = ah f k (2 * r + 1) + f (k - sz (2 * r + 1)) + f (k - sz (2 * r + 2)) := rfl
    have s1 : sz (2 * r + 3) = r + 2 := by unfold sz; omega
    have s2 : sz (2 * r + 4) = r + 2 := by unfold sz; omega
    have s3 : sz (2 * r + 1) = r + 1 := by unfold sz; omega
    have s4 : sz (2 * r + 2) = r + 1 := by unfold sz; omega
    rw [e1, e2, ih, s1, s2, s3, s4, show k + 1 - (r + 2) = k - (r + 1) by omega]
    omega
theorem cn_step (n k : Nat) : cn13 (n + 1) (k + 1) = cn13 n (k + 1) + cn13 n k + cn13 (n + 1) k := by
  show ah (cn13 n) (k + 1) (2 * (k + 1) + 1) = _ + _ + ah (cn13 n) k (2 * k + 1)
  exact ah_shift (cn13 n) k k (Nat.le_refl _)
end Go.Proofs.YtalbcimnnihmnaaGreat.M

/- Plain facts of layer 13: how counts of n numbers are made of those of n - 1, place by place, and how great they are; how few bits numbers below a count fit into. No program is named here. No conditions but those that each fact names. -/
namespace Go.Proofs.YtalbcimnnihmnaaGreat.M
theorem ah_bd (f : Nat → Nat) (k M : Nat) (h : ∀ j, j ≤ k → f j ≤ M) : ∀ R, ah f k R ≤ R * M
  | 0 => Nat.zero_le _
  | R + 1 => by
    have h1 := ah_bd f k M h R
    have h2 := h (k - sz R) (Nat.sub_le _ _)
    show ah f k R + f (k - sz R) ≤ (R + 1) * M
    rw [Nat.succ_mul]
    omega
/-- How great counts are, of no more than 12 pulses. -/
theorem cn_bd : ∀ n k, k ≤ 12 → cn13 n k ≤ 25 ^ n
  | 0, k, _ => by unfold cn13; split <;> omega
  | n + 1, k, h => by
    have h1 := ah_bd (cn13 n) k (25 ^ n) (fun j hj => cn_bd n j (by omega)) (2 * k + 1)
    have h2 : (2 * k + 1) * 25 ^ n ≤ 25 * 25 ^ n := Nat.mul_le_mul_right _ (by omega)
    show ah (cn13 n) k (2 * k + 1) ≤ 25 ^ (n + 1)
    rw [Nat.pow_succ, Nat.mul_comm (25 ^ n) 25]
    omega
theorem cn_bd8 (n k : Nat) (hn : n ≤ 8) (hk : k ≤ 12) : cn13 n k ≤ 152587890625 := Nat.le_trans (cn_bd n k hk) (Nat.le_trans (Nat.pow_le_pow_right (by decide) hn) (by decide))
/-- A count as far as x pulses of its first number. -/
def ax13 (f : Nat → Nat) (a x : Nat) : Nat := if x = 0 then 0 else ah f a (2 * x - 1)
theorem ax_zero (f : Nat → Nat) (a : Nat) : ax13 f a 0 = 0 := rfl
theorem ax_first (f : Nat → Nat) (a : Nat) : ax13 f a 0 + f (a - 0) = ax13 f a 1 := by
  show 0 + f (a - 0) = 0 + f (a - sz 0)
  rfl
theorem ax_step (f : Nat → Nat) (a x : Nat) (h : 0 < x) : ax13 f a x + f (a - x) + f (a - x) = ax13 f a (x + 1) := by
  obtain ⟨y, rfl⟩ : ∃ y, x = y + 1 := ⟨x - 1, by omega⟩
  unfold ax13
  rw [if_neg (by omega), if_neg (by omega), show 2 * (y + 1) - 1 = 2 * y + 1 by omega, show 2 * (y + 1 + 1) - 1 = 2 * y + 1 + 1 + 1 by omega]
  have s1 : sz (2 * y + 1) = y + 1 := by unfold sz; omega
  have s2 : sz (2 * y + 1 + 1) = y + 1 := by unfold sz; omega
  show _ = ah f a (2 * y + 1) + f (a - sz (2 * y + 1)) + f (a - sz (2 * y + 1 + 1))
  rw [s1, s2]
theorem ax_full (n a : Nat) : ax13 (cn13 n) a (a + 1) = cn13 (n + 1) a := by
  unfold ax13
  rw [if_neg (by omega), show 2 * (a + 1) - 1 = 2 * a + 1 by omega]
  rfl
theorem ax_bd (n a x : Nat) (hn : n < 8) (ha : a ≤ 12) (hx : x ≤ a + 1) : ax13 (cn13 n) a x ≤ 152587890625 := by
  have h := cn_bd8 (n + 1) a (by omega) ha
  rw [← ax_full] at h
  refine Nat.le_trans ?_ h
  unfold ax13
  by_cases e : x = 0
  · rw [if_pos e]; exact Nat.zero_le _
  · rw [if_neg e, if_neg (by omega)]
    exact ah_mono _ _ _ _ (by omega)
/-- The counts of n numbers, with 0 to k pulses; those of the next number as far as a pulses, and x of the first number. -/
def wy13 (n k : Nat) : List Int := (List.range (k + 1)).map fun j => (cn13 n j : Int)
def nx13 (n k a x : Nat) : List Int := (List.range (k + 1)).map fun j => if j < a then (cn13 (n + 1) j : Int) else if j = a then (ax13 (cn13 n) a x : Int) else 0
theorem wy_len (n k : Nat) : (wy13 n k).length = k + 1 := by simp [wy13]
theorem nx_len (n k a x : Nat) : (nx13 n k a x).length = k + 1 := by simp [nx13]
theorem wy_at (n k j : Nat) (h : j ≤ k) : (wy13 n k).getD j 0 = (cn13 n j : Int) := by
  unfold wy13
  rw [List.getD_eq_getElem?_getD, List.getElem?_map, List.getElem?_range (by omega)]
  rfl
theorem nx_at (n k a x : Nat) (h : a ≤ k) : (nx13 n k a x).getD a 0 = (ax13 (cn13 n) a x : Int) := by
  unfold nx13
  rw [List.getD_eq_getElem?_getD, List.getElem?_map, List.getElem?_range (by omega)]
  show (if a < a then _ else if a = a then _ else _) = _
  rw [if_neg (by omega), if_pos rfl]
theorem rgs13 {α : Type} (n : Nat) (f g : Nat → α) (j : Nat) (x : α) (hj : x = g j) (ho : ∀ i, i < n → i ≠ j → f i = g i) : ((List.range n).map f).set j x = (List.range n).map g := by
  apply List.ext_getElem
  · simp
  · intro i h1 h2
    simp only [List.length_set, List.length_map, List.length_range] at h1
    rw [List.getElem_set]
    by_cases e : j = i
    · rw [if_pos e, hj, e]; simp
    · rw [if_neg e]
      simp only [List.getElem_map, List.getElem_range]
      exact ho i h1 fun q => e q.symm
theorem nx_set (n k a x y : Nat) : (nx13 n k a x).set a (ax13 (cn13 n) a y : Int) = nx13 n k a y := by
  unfold nx13
  refine rgs13 _ _ _ _ _ ?_ ?_
  · rw [if_neg (by omega), if_pos rfl]
  · intro i _ hne
    rw [if_neg hne, if_neg hne]
theorem nx_zero (n k : Nat) : nx13 n k 0 0 = List.replicate (k + 1) 0 := by
  unfold nx13
  have e : (fun j => if j < 0 then (cn13 (n + 1) j : Int) else if j = 0 then (ax13 (cn13 n) 0 0 : Int) else 0) = fun _ => 0 := by
    funext j
    rw [if_neg (by omega)]
    split <;> rfl
  rw [e, List.map_const', List.length_range]
/-- The next place. -/
theorem nx_next (n k a : Nat) : nx13 n k a (a + 1) = nx13 n k (a + 1) 0 := by
  unfold nx13
  congr 1
  funext j
  by_cases h1 : j < a
  · rw [if_pos h1, if_pos (by omega)]
  · by_cases h2 : j = a
    · subst h2
      rw [if_neg h1, if_pos rfl, if_pos (by omega), ax_full]
    · rw [if_neg h1, if_neg h2, if_neg (by omega)]
      split <;> rfl
theorem nx_full (n k : Nat) : nx13 n k (k + 1) 0 = wy13 (n + 1) k := by
  unfold nx13 wy13
  refine List.map_congr_left fun j hj => ?_
  rw [if_pos (List.mem_range.1 hj)]
theorem wy_zero (k : Nat) : wy13 0 k = (List.replicate (k + 1) 0).set 0 1 := by
  rw [show List.replicate (k + 1) (0 : Int) = (List.range (k + 1)).map fun _ => 0 by rw [List.map_const', List.length_range]]
  refine Eq.symm (rgs13 _ _ _ _ _ rfl ?_)
  intro i _ hne
  show (0 : Int) = ((cn13 0 i : Nat) : Int)
  unfold cn13
  rw [if_neg hne]
  rfl
/-- How few bits the numbers below a count fit into, a half at a time. -/
def bl13 : Nat → Nat → Nat
  | 0, _ => 0
  | f + 1, m => if 0 < m then bl13 f (m / 2) + 1 else 0
theorem bl_pow : ∀ f m, m < 2 ^ f → m < 2 ^ bl13 f m ∧ (0 < m → 2 ^ bl13 f m ≤ 2 * m)
  | 0, m, h => by
    have : m = 0 := by omega
    subst this
    exact ⟨by decide, fun h => by omega⟩
  | f + 1, m, h => by
    show m < 2 ^ (if 0 < m then bl13 f (m / 2) + 1 else 0) ∧ _
    by_cases e : 0 < m
    · rw [if_pos e]
      rw [Nat.pow_succ] at h
      obtain ⟨h1, h2⟩ := bl_pow f (m / 2) (by omega)
      rw [Nat.pow_succ]
      refine ⟨by omega, fun _ => ?_⟩
      show 2 ^ (if 0 < m then bl13 f (m / 2) + 1 else 0) ≤ 2 * m
      rw [if_pos e, Nat.pow_succ]
      by_cases g : 0 < m / 2
      · have := h2 g; omega
      · have e3 : m / 2 = 0 := by omega
        rw [e3]
        have : bl13 f 0 = 0 := by cases f <;> rfl
        rw [this]
        omega
    · rw [if_neg e]
      exact ⟨by omega, fun h => absurd h e⟩
end Go.Proofs.YtalbcimnnihmnaaGreat.M
