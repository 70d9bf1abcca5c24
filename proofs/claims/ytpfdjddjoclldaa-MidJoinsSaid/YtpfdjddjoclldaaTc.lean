/-
  Plain facts of layers 9 and 10: the undoing of a turn by any angle; that it is nearly a rotation, too; how squares' sums stay, more sharply. No program is named here. No conditions but those that each fact names.
-/
import Derived.Test.YtpfdjddjoclldaaTb
namespace Go.Proofs.Ytpfdjddjoclldaa.M

/-- The undoing of a turn. -/
def lfb (v : Int × Int) (k : Int) : Int × Int :=
  if ang k % 128 ≤ 64 then sm2 (qts v (4 - ang k / 128)) (fac9.getD (ang k % 128) (0, 0)) else sm1 (qts v (3 - ang k / 128)) (fac9.getD (128 - ang k % 128) (0, 0))
theorem lfb_lft (v : Int × Int) (k : Int) : lfb (lft v k) k = v := by
  have hlt := ang_lt k
  unfold lfb lft
  by_cases h : ang k % 128 ≤ 64
  · rw [if_pos h, if_pos h, ← qts_add, show ang k / 128 + (4 - ang k / 128) = 4 by omega, qts_four, sm2_sm1]
  · rw [if_neg h, if_neg h, ← qts_add, show ang k / 128 + 1 + (3 - ang k / 128) = 4 by omega, qts_four, sm1_sm2]
theorem lft_lfb (v : Int × Int) (k : Int) : lft (lfb v k) k = v := by
  have hlt := ang_lt k
  unfold lfb lft
  by_cases h : ang k % 128 ≤ 64
  · rw [if_pos h, if_pos h, sm1_sm2, ← qts_add, show 4 - ang k / 128 + ang k / 128 = 4 by omega, qts_four]
  · rw [if_neg h, if_neg h, sm2_sm1, ← qts_add, show 3 - ang k / 128 + (ang k / 128 + 1) = 4 by omega, qts_four]
theorem lft_inj (v w : Int × Int) (k : Int) (h : lft v k = lft w k) : v = w := by rw [← lfb_lft v k, h, lfb_lft]
theorem lft_128 (v : Int × Int) (k : Int) : lft v (k + 128) = qt (lft v k) := by
  have hlt := ang_lt k
  have hr : ang (k + 128) % 128 = ang k % 128 := by unfold ang; omega
  unfold lft
  rw [hr]
  rcases Nat.lt_or_ge (ang k) 384 with h1 | h1
  · have h2 : ang (k + 128) / 128 = ang k / 128 + 1 := by unfold ang at *; omega
    rw [h2]
    split <;> rfl
  · have h2 : ang (k + 128) / 128 = 0 := by unfold ang at *; omega
    have h3 : ang k / 128 = 3 := by omega
    rw [h2, h3]
    split
    · exact (qts_four _).symm
    · show qts _ 1 = qts _ 5
      rw [show (5 : Nat) = 4 + 1 from rfl, qts_add, qts_four]
theorem lft_512 (v : Int × Int) (k : Int) : lft v (k + 512) = lft v k := by unfold lft ang; rw [show (k + 512) % 512 = k % 512 by omega]
theorem facOf_zero : fac9.getD 0 (0, 0) = (0, 0) := rfl
theorem lft_zero (v : Int × Int) : lft v 0 = v := by
  show qts (sm1 v (fac9.getD 0 (0, 0))) 0 = v
  rw [facOf_zero]
  exact sm1_zero v
theorem lft_256 (v : Int × Int) : lft v 256 = (-v.1, -v.2) := by
  have h1 := lft_128 v 0
  have h2 := lft_128 v (0 + 128)
  rw [h1, lft_zero] at h2
  rw [show (256 : Int) = 0 + 128 + 128 by omega, h2]
  rfl

/-- A cosine and a sine. -/
structure Unit8 (z : Int × Int) : Prop where
  x : -1073741824 ≤ z.1 ∧ z.1 ≤ 1073741824
  y : -1073741824 ≤ z.2 ∧ z.2 ≤ 1073741824
  s : -4398046511104 ≤ z.1 * z.1 + z.2 * z.2 - 1152921504606846976 ∧ z.1 * z.1 + z.2 * z.2 - 1152921504606846976 ≤ 4398046511104
theorem unit_trg (k : Int) : Unit8 (trg k) := by
  obtain ⟨h1, h2, h3, h4, h5, h6⟩ := trg_bd k
  exact ⟨⟨h1, h2⟩, ⟨h3, h4⟩, ⟨h5, h6⟩⟩
theorem Unit8.qt {z : Int × Int} (h : Unit8 z) : Unit8 (qt z) := by
  obtain ⟨C, S⟩ := z
  obtain ⟨⟨x0, x1⟩, ⟨y0, y1⟩, s⟩ := h
  simp only at x0 x1 y0 y1 s
  refine ⟨?_, ⟨x0, x1⟩, ?_⟩
  · show -1073741824 ≤ -S ∧ -S ≤ 1073741824
    omega
  · show -4398046511104 ≤ -S * -S + C * C - 1152921504606846976 ∧ -S * -S + C * C - 1152921504606846976 ≤ 4398046511104
    rw [Int.neg_mul_neg]
    omega
theorem Unit8.qts {z : Int × Int} (h : Unit8 z) (n : Nat) : Unit8 (qts z n) := by
  induction n with
  | zero => exact h
  | succ n ih => exact ih.qt
theorem Unit8.conj {z : Int × Int} (h : Unit8 z) : Unit8 (z.1, -z.2) := by
  obtain ⟨C, S⟩ := z
  obtain ⟨⟨x0, x1⟩, ⟨y0, y1⟩, s⟩ := h
  simp only at x0 x1 y0 y1 s
  refine ⟨⟨x0, x1⟩, ?_, ?_⟩
  · show -1073741824 ≤ -S ∧ -S ≤ 1073741824
    omega
  · show -4398046511104 ≤ C * C + -S * -S - 1152921504606846976 ∧ C * C + -S * -S - 1152921504606846976 ≤ 4398046511104
    rw [Int.neg_mul_neg]
    omega
theorem unit_tab (k : Nat) (hk : k < 128) : Unit8 (tab8.getD k (0, 0)) := by
  have h := unit_trg (k : Int)
  rw [trN_trg k (by omega)] at h
  have e : trN k = tab8.getD k (0, 0) := by unfold trN; rw [Nat.mod_eq_of_lt hk, Nat.div_eq_of_lt hk]; rfl
  rw [e] at h
  exact h
/-- What is turned is a quarter on. -/
theorem Rot.arg {z v w : Int × Int} {A B : Int} (h : Rot z (M.qt v) w A B) : Rot (M.qt z) v w A B := by
  obtain ⟨C, S⟩ := z
  obtain ⟨a, b⟩ := v
  obtain ⟨c, d⟩ := w
  obtain ⟨⟨x0, x1⟩, ⟨y0, y1⟩, m0⟩ := h
  simp only [M.qt] at x0 x1 y0 y1
  refine ⟨?_, ?_, m0⟩
  · show -B ≤ 1073741824 * c - (-S * a - C * b) ∧ 1073741824 * c - (-S * a - C * b) ≤ B
    rw [Int.neg_mul]
    rw [Int.mul_neg] at x0 x1
    omega
  · show -B ≤ 1073741824 * d - (C * a + -S * b) ∧ 1073741824 * d - (C * a + -S * b) ≤ B
    rw [Int.neg_mul]
    rw [Int.mul_neg] at y0 y1
    omega
theorem Rot.args {z v w : Int × Int} {A B : Int} : ∀ (n : Nat), Rot z (M.qts v n) w A B → Rot (M.qts z n) v w A B := by
  intro n
  induction n generalizing z with
  | zero => exact fun h => h
  | succ n ih =>
    intro h
    have h1 : Rot (M.qt z) (M.qts v n) w A B := Rot.arg h
    have h2 := ih h1
    have e : M.qts (M.qt z) n = M.qts z (n + 1) := by rw [Nat.add_comm n 1, qts_add]; rfl
    rw [e] at h2
    exact h2
theorem qts_bd (v : Int × Int) (m : Int) (h1 : -m ≤ v.1) (h2 : v.1 ≤ m) (h3 : -m ≤ v.2) (h4 : v.2 ≤ m) (n : Nat) : -m ≤ (qts v n).1 ∧ (qts v n).1 ≤ m ∧ -m ≤ (qts v n).2 ∧ (qts v n).2 ≤ m := by
  induction n with
  | zero => exact ⟨h1, h2, h3, h4⟩
  | succ n ih =>
    obtain ⟨k1, k2, k3, k4⟩ := ih
    show -m ≤ -(qts v n).2 ∧ -(qts v n).2 ≤ m ∧ -m ≤ (qts v n).1 ∧ (qts v n).1 ≤ m
    omega
/-- The undoing is nearly a rotation, too. -/
theorem lfb_rot (v : Int × Int) (k m : Int) (h1 : -m ≤ v.1) (h2 : v.1 ≤ m) (h3 : -m ≤ v.2) (h4 : v.2 ≤ m) : ∃ z, Unit8 z ∧ Rot z v (lfb v k) m (65536 * m + 1610612736) := by
  have hlt := ang_lt k
  unfold lfb
  by_cases h : ang k % 128 ≤ 64
  · rw [if_pos h]
    obtain ⟨k1, k2, k3, k4⟩ := qts_bd v m h1 h2 h3 h4 (4 - ang k / 128)
    exact ⟨_, (unit_tab _ (by omega)).conj.qts (4 - ang k / 128), (Rot.args _ (sm2_rot _ _ _ m (fac_ok _ h) k1 k2 k3 k4)).more (by omega)⟩
  · rw [if_neg h]
    obtain ⟨k1, k2, k3, k4⟩ := qts_bd v m h1 h2 h3 h4 (3 - ang k / 128)
    exact ⟨_, (unit_tab _ (by omega)).qts (3 - ang k / 128), (Rot.args _ (sm1_rot _ _ _ m (fac_ok (128 - ang k % 128) (by omega)) k1 k2 k3 k4)).more (by omega)⟩
theorem lft_rot' (v : Int × Int) (k m : Int) (h1 : -m ≤ v.1) (h2 : v.1 ≤ m) (h3 : -m ≤ v.2) (h4 : v.2 ≤ m) : ∃ z, Unit8 z ∧ Rot z v (lft v k) m (65536 * m + 1610612736) :=
  ⟨_, unit_trg k, lft_rot v k m h1 h2 h3 h4⟩

/-- A number whose square is no greater than another one's. -/
theorem sq_le (t r : Int) (hr : 0 ≤ r) (h : t * t ≤ r * r) : -r ≤ t ∧ t ≤ r := by
  rcases Int.lt_or_le r t with k | k
  · have := Int.mul_le_mul (show r + 1 ≤ t by omega) (show r + 1 ≤ t by omega) (by omega) (by omega)
    have e : (r + 1) * (r + 1) = r * r + 2 * r + 1 := by grind
    omega
  · rcases Int.lt_or_le t (-r) with k2 | k2
    · have := Int.mul_le_mul (show r + 1 ≤ -t by omega) (show r + 1 ≤ -t by omega) (by omega) (by omega)
      have e : (r + 1) * (r + 1) = r * r + 2 * r + 1 := by grind
      rw [Int.neg_mul_neg] at this
      omega
    · exact ⟨k2, k⟩
theorem brah (a b C S : Int) : (C * a - S * b) * (C * a - S * b) + (S * a + C * b) * (S * a + C * b) = (C * C + S * S) * (a * a + b * b) := by grind
theorem sq_split (a b C S : Int) : (C * C + S * S) * (a * a + b * b) = 1152921504606846976 * (a * a + b * b) + (C * C + S * S - 1152921504606846976) * (a * a + b * b) := by grind
/-- How the squares' sum stays under what is nearly a rotation. -/
theorem rot_size (z v w : Int × Int) (m : Int) (hz : Unit8 z) (hr : Rot z v w m (65536 * m + 1610612736)) (h1 : -m ≤ v.1) (h2 : v.1 ≤ m) (h3 : -m ≤ v.2) (h4 : v.2 ≤ m) (hm : m * m ≤ v.1 * v.1 + v.2 * v.2) :
    2500 * (w.1 * w.1 + w.2 * w.2 - (v.1 * v.1 + v.2 * v.2)) ≤ (v.1 * v.1 + v.2 * v.2) + 21500 * m + 15000 ∧
    2500 * (v.1 * v.1 + v.2 * v.2 - (w.1 * w.1 + w.2 * w.2)) ≤ (v.1 * v.1 + v.2 * v.2) + 21500 * m + 15000 := by
  obtain ⟨a, b⟩ := v
  obtain ⟨c, d⟩ := w
  obtain ⟨C, S⟩ := z
  obtain ⟨⟨b1, b2⟩, ⟨b3, b4⟩, b5, b6⟩ := hz
  obtain ⟨⟨x0, x1⟩, ⟨y0, y1⟩, m0⟩ := hr
  simp only at *
  have i1 := size_id a b c d C S
  have j1 := mulb a a m m h1 h2 h1 h2
  have j2 := mulb b b m m h3 h4 h3 h4
  have q1 := sqnn a
  have q2 := sqnn b
  have k9 := mulb (C * C + S * S - 1152921504606846976) (a * a + b * b) 4398046511104 (a * a + b * b) b5 b6 (by omega) (by omega)
  have e0 := brah a b C S
  rw [sq_split] at e0
  have s1 := sqnn (C * a - S * b)
  have s2 := sqnn (S * a + C * b)
  have e3 : (1518600000 * m) * (1518600000 * m) = 2306145960000000000 * (m * m) := by grind
  have n1 := sq_le (C * a - S * b) (1518600000 * m) (by omega) (by rw [e3]; omega)
  have n2 := sq_le (S * a + C * b) (1518600000 * m) (by omega) (by rw [e3]; omega)
  obtain ⟨F, hF⟩ : ∃ F, 1073741824 * c - (C * a - S * b) = F := ⟨_, rfl⟩
  obtain ⟨G, hG⟩ : ∃ G, 1073741824 * d - (S * a + C * b) = G := ⟨_, rfl⟩
  rw [hF, hG] at i1
  rw [hF] at x0 x1
  rw [hG] at y0 y1
  have k5 := mulb F (C * a - S * b) (65536 * m + 1610612736) (1518600000 * m) x0 x1 n1.1 n1.2
  have k6 := mulb G (S * a + C * b) (65536 * m + 1610612736) (1518600000 * m) y0 y1 n2.1 n2.2
  have k7 := mulb F F (65536 * m + 1610612736) (65536 * m + 1610612736) x0 x1 x0 x1
  have k8 := mulb G G (65536 * m + 1610612736) (65536 * m + 1610612736) y0 y1 y0 y1
  have e1 : (65536 * m + 1610612736) * (1518600000 * m) = 99522969600000 * (m * m) + 2445876500889600000 * m := by grind
  have e2 : (65536 * m + 1610612736) * (65536 * m + 1610612736) = 4294967296 * (m * m) + 211106232532992 * m + 2594073385365405696 := by grind
  rw [e1] at k5 k6
  rw [e2] at k7 k8
  generalize (C * C + S * S - 1152921504606846976) * (a * a + b * b) = t1 at *
  generalize F * (C * a - S * b) = t2 at *
  generalize G * (S * a + C * b) = t3 at *
  generalize F * F = t4 at *
  generalize G * G = t5 at *
  generalize a * a = A at *
  generalize b * b = B at *
  generalize c * c = U at *
  generalize d * d = V at *
  generalize m * m = Q at *
  clear hF hG b1 b2 b3 b4 b5 b6 x0 x1 y0 y1 h1 h2 h3 h4 e1 e2 e3 n1 n2 s1 s2 e0
  refine ⟨?_, ?_⟩ <;> omega
end Go.Proofs.Ytpfdjddjoclldaa.M
