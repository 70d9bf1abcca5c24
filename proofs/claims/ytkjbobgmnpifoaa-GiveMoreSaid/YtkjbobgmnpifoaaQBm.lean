/-
  Plain facts on lists of bits: how they are packed into bytes, what a number's bits are, what bits' number is. No function of the program is named here. No conditions.
-/
import Derived.Lib.Hide
namespace Go.Proofs.Ytkjbobgmnpifoaa.M

def bt (bs : List Bool) (j : Nat) : Nat := (bs.getD j false).toNat
def byteAt (bs : List Bool) (i : Nat) : Nat :=
  128 * bt bs (8 * i + 0) + 64 * bt bs (8 * i + 1) + 32 * bt bs (8 * i + 2) + 16 * bt bs (8 * i + 3) + 8 * bt bs (8 * i + 4) + 4 * bt bs (8 * i + 5) + 2 * bt bs (8 * i + 6) + bt bs (8 * i + 7)
def packN (bs : List Bool) (m : Nat) : List UInt8 := (List.range m).map fun i => UInt8.ofNat (byteAt bs i)
def pack (bs : List Bool) : List UInt8 := packN bs ((bs.length + 7) / 8)

theorem bt_le (bs : List Bool) (j : Nat) : bt bs j ≤ 1 := by unfold bt; cases bs.getD j false <;> decide
theorem bt_out (bs : List Bool) (j : Nat) (h : bs.length ≤ j) : bt bs j = 0 := by
  unfold bt; rw [List.getD_eq_getElem?_getD, List.getElem?_eq_none h]; rfl
theorem bt_app (bs : List Bool) (b : Bool) (j : Nat) (h : j < bs.length) : bt (bs ++ [b]) j = bt bs j := by
  unfold bt; rw [List.getD_eq_getElem?_getD, List.getD_eq_getElem?_getD, List.getElem?_append_left h]
theorem bt_new (bs : List Bool) (b : Bool) : bt (bs ++ [b]) bs.length = b.toNat := by
  unfold bt; rw [List.getD_eq_getElem?_getD, List.getElem?_append_right (Nat.le_refl _)]; simp
theorem byteAt_lt (bs : List Bool) (i : Nat) : byteAt bs i < 256 := by
  have h0 := bt_le bs (8 * i + 0)
  have h1 := bt_le bs (8 * i + 1)
  have h2 := bt_le bs (8 * i + 2)
  have h3 := bt_le bs (8 * i + 3)
  have h4 := bt_le bs (8 * i + 4)
  have h5 := bt_le bs (8 * i + 5)
  have h6 := bt_le bs (8 * i + 6)
  have h7 := bt_le bs (8 * i + 7)
  unfold byteAt; omega
theorem packN_length (bs : List Bool) (m : Nat) : (packN bs m).length = m := by simp [packN]
theorem pack_length (bs : List Bool) : (pack bs).length = (bs.length + 7) / 8 := packN_length _ _
theorem packN_get (bs : List Bool) (m i : Nat) (h : i < m) : (packN bs m)[i]? = some (UInt8.ofNat (byteAt bs i)) := by simp [packN, h]
theorem byteAt_out (bs : List Bool) (i : Nat) (h : bs.length ≤ 8 * i) : byteAt bs i = 0 := by
  unfold byteAt
  rw [bt_out _ _ (by omega), bt_out _ _ (by omega), bt_out _ _ (by omega), bt_out _ _ (by omega), bt_out _ _ (by omega), bt_out _ _ (by omega), bt_out _ _ (by omega), bt_out _ _ (by omega)]
theorem byteAt_app (bs : List Bool) (b : Bool) (i : Nat) (h : 8 * i + 8 ≤ bs.length) : byteAt (bs ++ [b]) i = byteAt bs i := by
  unfold byteAt
  rw [bt_app _ _ _ (by omega), bt_app _ _ _ (by omega), bt_app _ _ _ (by omega), bt_app _ _ _ (by omega), bt_app _ _ _ (by omega), bt_app _ _ _ (by omega), bt_app _ _ _ (by omega), bt_app _ _ _ (by omega)]
theorem pack_open (bs : List Bool) (h : bs.length % 8 = 0) : pack bs ++ [0] = packN bs (bs.length / 8 + 1) := by
  have e : (bs.length + 7) / 8 = bs.length / 8 := by omega
  unfold pack
  rw [e]
  unfold packN
  rw [List.range_succ, List.map_append, List.map_cons, List.map_nil, byteAt_out bs _ (by omega)]
  rfl
theorem pack_mid (bs : List Bool) (h : bs.length % 8 ≠ 0) : pack bs = packN bs (bs.length / 8 + 1) := by
  have e : (bs.length + 7) / 8 = bs.length / 8 + 1 := by omega
  unfold pack
  rw [e]

theorem or8 (r : Nat) (hr : r < 8) (c0 c1 c2 c3 c4 c5 c6 c7 b : Bool)
    (h : ∀ k, r ≤ k → k < 8 → [c0, c1, c2, c3, c4, c5, c6, c7].getD k false = false) :
    128 * ([c0, c1, c2, c3, c4, c5, c6, c7].set r b |>.getD 0 false).toNat + 64 * ([c0, c1, c2, c3, c4, c5, c6, c7].set r b |>.getD 1 false).toNat + 32 * ([c0, c1, c2, c3, c4, c5, c6, c7].set r b |>.getD 2 false).toNat + 16 * ([c0, c1, c2, c3, c4, c5, c6, c7].set r b |>.getD 3 false).toNat
     + 8 * ([c0, c1, c2, c3, c4, c5, c6, c7].set r b |>.getD 4 false).toNat + 4 * ([c0, c1, c2, c3, c4, c5, c6, c7].set r b |>.getD 5 false).toNat + 2 * ([c0, c1, c2, c3, c4, c5, c6, c7].set r b |>.getD 6 false).toNat + ([c0, c1, c2, c3, c4, c5, c6, c7].set r b |>.getD 7 false).toNat
     = (128 * c0.toNat + 64 * c1.toNat + 32 * c2.toNat + 16 * c3.toNat + 8 * c4.toNat + 4 * c5.toNat + 2 * c6.toNat + c7.toNat) ||| (b.toNat <<< (7 - r)) := by
  match r, hr with
  | 0, _ =>
    have g0 := h 0 (by omega) (by omega); have g1 := h 1 (by omega) (by omega); have g2 := h 2 (by omega) (by omega); have g3 := h 3 (by omega) (by omega); have g4 := h 4 (by omega) (by omega); have g5 := h 5 (by omega) (by omega); have g6 := h 6 (by omega) (by omega); have g7 := h 7 (by omega) (by omega)
    clear h; simp at g0 g1 g2 g3 g4 g5 g6 g7; subst g0 g1 g2 g3 g4 g5 g6 g7; revert b; decide
  | 1, _ =>
    have g1 := h 1 (by omega) (by omega); have g2 := h 2 (by omega) (by omega); have g3 := h 3 (by omega) (by omega); have g4 := h 4 (by omega) (by omega); have g5 := h 5 (by omega) (by omega); have g6 := h 6 (by omega) (by omega); have g7 := h 7 (by omega) (by omega)
    clear h; simp at g1 g2 g3 g4 g5 g6 g7; subst g1 g2 g3 g4 g5 g6 g7; revert b c0; decide
  | 2, _ =>
    have g2 := h 2 (by omega) (by omega); have g3 := h 3 (by omega) (by omega); have g4 := h 4 (by omega) (by omega); have g5 := h 5 (by omega) (by omega); have g6 := h 6 (by omega) (by omega); have g7 := h 7 (by omega) (by omega)
    clear h; simp at g2 g3 g4 g5 g6 g7; subst g2 g3 g4 g5 g6 g7; revert b c0 c1; decide
  | 3, _ =>
    have g3 := h 3 (by omega) (by omega); have g4 := h 4 (by omega) (by omega); have g5 := h 5 (by omega) (by omega); have g6 := h 6 (by omega) (by omega); have g7 := h 7 (by omega) (by omega)
    clear h; simp at g3 g4 g5 g6 g7; subst g3 g4 g5 g6 g7; revert b c0 c1 c2; decide
  | 4, _ =>
    have g4 := h 4 (by omega) (by omega); have g5 := h 5 (by omega) (by omega); have g6 := h 6 (by omega) (by omega); have g7 := h 7 (by omega) (by omega)
    clear h; simp at g4 g5 g6 g7; subst g4 g5 g6 g7; revert b c0 c1 c2 c3; decide
  | 5, _ =>
    have g5 := h 5 (by omega) (by omega); have g6 := h 6 (by omega) (by omega); have g7 := h 7 (by omega) (by omega)
    clear h; simp at g5 g6 g7; subst g5 g6 g7; revert b c0 c1 c2 c3 c4; decide
  | 6, _ =>
    have g6 := h 6 (by omega) (by omega); have g7 := h 7 (by omega) (by omega)
    clear h; simp at g6 g7; subst g6 g7; revert b c0 c1 c2 c3 c4 c5; decide
  | 7, _ =>
    have g7 := h 7 (by omega) (by omega)
    clear h; simp at g7; subst g7; revert b c0 c1 c2 c3 c4 c5 c6; decide
  | n + 8, h' => omega
theorem getD_app (bs : List Bool) (b : Bool) (j : Nat) : (bs ++ [b]).getD j false = if j = bs.length then b else bs.getD j false := by
  simp only [List.getD_eq_getElem?_getD]
  by_cases h : j < bs.length
  · rw [List.getElem?_append_left h, if_neg (by omega)]
  · rw [List.getElem?_append_right (by omega)]
    by_cases h2 : j = bs.length
    · subst h2; simp
    · rw [if_neg h2, List.getElem?_eq_none (by simp; omega), List.getElem?_eq_none (by omega)]
theorem byteAt_new (bs : List Bool) (b : Bool) : byteAt (bs ++ [b]) (bs.length / 8) = byteAt bs (bs.length / 8) ||| (b.toNat <<< (7 - bs.length % 8)) := by
  have hr : bs.length % 8 < 8 := Nat.mod_lt _ (by decide)
  have hL := Nat.div_add_mod bs.length 8
  generalize hrr : bs.length % 8 = r at *
  generalize hqq : bs.length / 8 = q at *
  have hout : ∀ k, r ≤ k → k < 8 → [bs.getD (8 * q + 0) false, bs.getD (8 * q + 1) false, bs.getD (8 * q + 2) false, bs.getD (8 * q + 3) false, bs.getD (8 * q + 4) false, bs.getD (8 * q + 5) false, bs.getD (8 * q + 6) false, bs.getD (8 * q + 7) false].getD k false = false := by
    intro k h1 h2
    have e : [bs.getD (8 * q + 0) false, bs.getD (8 * q + 1) false, bs.getD (8 * q + 2) false, bs.getD (8 * q + 3) false, bs.getD (8 * q + 4) false, bs.getD (8 * q + 5) false, bs.getD (8 * q + 6) false, bs.getD (8 * q + 7) false].getD k false = bs.getD (8 * q + k) false := by
      match k, h2 with
      | 0, _ => rfl
      | 1, _ => rfl
      | 2, _ => rfl
      | 3, _ => rfl
      | 4, _ => rfl
      | 5, _ => rfl
      | 6, _ => rfl
      | 7, _ => rfl
      | n + 8, h' => omega
    rw [e, List.getD_eq_getElem?_getD, List.getElem?_eq_none (by omega)]
    rfl
  have := or8 r hr _ _ _ _ _ _ _ _ b hout
  unfold byteAt bt
  rw [← this]
  simp only [getD_app, ← hL]
  match r, hr with
  | 0, _ => simp
  | 1, _ => simp
  | 2, _ => simp
  | 3, _ => simp
  | 4, _ => simp
  | 5, _ => simp
  | 6, _ => simp
  | 7, _ => simp
  | n + 8, h' => omega
theorem pack_lay (bs : List Bool) (b : Bool) :
    (packN bs (bs.length / 8 + 1)).set (bs.length / 8) (UInt8.ofNat (byteAt bs (bs.length / 8) ||| (b.toNat <<< (7 - bs.length % 8)))) = pack (bs ++ [b]) := by
  have hL := Nat.div_add_mod bs.length 8
  have hr : bs.length % 8 < 8 := Nat.mod_lt _ (by decide)
  have e : ((bs ++ [b]).length + 7) / 8 = bs.length / 8 + 1 := by simp; omega
  unfold pack
  rw [e]
  apply List.ext_getElem?
  intro i
  rw [List.getElem?_set, packN_length]
  by_cases h1 : i < bs.length / 8 + 1
  · rw [packN_get _ _ _ h1, packN_get _ _ _ h1]
    by_cases h2 : bs.length / 8 = i
    · subst h2
      rw [if_pos rfl, if_pos (by omega), byteAt_new]
    · rw [if_neg h2, byteAt_app _ _ _ (by omega)]
  · rw [if_neg (by omega), List.getElem?_eq_none (by rw [packN_length]; omega), List.getElem?_eq_none (by rw [packN_length]; omega)]

/-- A number's n bits, the highest first. -/
def bitsOf (x n : Nat) : List Bool := (List.range n).map fun i => x.testBit (n - 1 - i)
def numOf (l : List Bool) : Nat := l.foldl (fun x b => 2 * x + b.toNat) 0
theorem bitsOf_length (x n : Nat) : (bitsOf x n).length = n := by simp [bitsOf]
theorem bitsOf_take (x n k : Nat) (h : k < n) : (bitsOf x n).take (k + 1) = (bitsOf x n).take k ++ [x.testBit (n - 1 - k)] := by
  rw [List.take_succ_eq_append_getElem (by rw [bitsOf_length]; exact h)]
  simp [bitsOf]
theorem numOf_app (l : List Bool) (b : Bool) : numOf (l ++ [b]) = 2 * numOf l + b.toNat := by simp [numOf]
theorem bitsOf_succ (x n : Nat) : bitsOf x (n + 1) = bitsOf (x / 2) n ++ [x.testBit 0] := by
  unfold bitsOf
  rw [List.range_succ, List.map_append]
  congr 1
  · apply List.map_congr_left
    intro i hi
    have : i < n := by simpa using hi
    rw [show n + 1 - 1 - i = (n - 1 - i) + 1 by omega, Nat.testBit_succ]
  · simp
theorem numOf_bitsOf (n : Nat) : ∀ x, x < 2 ^ n → numOf (bitsOf x n) = x := by
  induction n with
  | zero => intro x h; have : x = 0 := by simpa using h
            subst this; rfl
  | succ n ih =>
    intro x h
    rw [bitsOf_succ, numOf_app, ih (x / 2) (by rw [Nat.pow_succ] at h; omega), Nat.testBit_zero]
    have := Nat.div_add_mod x 2
    rcases Nat.mod_two_eq_zero_or_one x with h2 | h2 <;> simp [h2] <;> omega
theorem numOf_lt' (n : Nat) : ∀ l : List Bool, l.length = n → numOf l < 2 ^ n := by
  induction n with
  | zero => intro l h; rw [List.eq_nil_of_length_eq_zero h]; decide
  | succ n ih =>
    intro l h
    rcases List.eq_nil_or_concat l with rfl | ⟨l', b, rfl⟩
    · simp at h
    · have := ih l' (by simpa using h)
      rw [List.concat_eq_append, numOf_app, Nat.pow_succ]
      have : b.toNat ≤ 1 := by cases b <;> decide
      omega
theorem numOf_lt (l : List Bool) : numOf l < 2 ^ l.length := numOf_lt' _ l rfl

/-- A text's bits. -/
def sb (s : List UInt8) (j : Nat) : Bool := (s.getD (j / 8) 0).toNat.testBit (7 - j % 8)
def readB (s : List UInt8) (a n : Nat) : List Bool := (List.range n).map fun i => sb s (a + i)
theorem readB_length (s : List UInt8) (a n : Nat) : (readB s a n).length = n := by simp [readB]
theorem readB_succ (s : List UInt8) (a n : Nat) : readB s a (n + 1) = readB s a n ++ [sb s (a + n)] := by
  unfold readB; rw [List.range_succ, List.map_append]; rfl
theorem readB_add (s : List UInt8) (a m n : Nat) : readB s a (m + n) = readB s a m ++ readB s (a + m) n := by
  induction n with
  | zero => simp [readB]
  | succ n ih => rw [← Nat.add_assoc, readB_succ, ih, readB_succ, List.append_assoc, Nat.add_assoc]
theorem byte_bit (k : Nat) (hk : k < 8) (c0 c1 c2 c3 c4 c5 c6 c7 : Bool) :
    (128 * c0.toNat + 64 * c1.toNat + 32 * c2.toNat + 16 * c3.toNat + 8 * c4.toNat + 4 * c5.toNat + 2 * c6.toNat + c7.toNat).testBit (7 - k) = [c0, c1, c2, c3, c4, c5, c6, c7].getD k false := by
  match k, hk with
  | 0, _ => revert c0 c1 c2 c3 c4 c5 c6 c7; decide
  | 1, _ => revert c0 c1 c2 c3 c4 c5 c6 c7; decide
  | 2, _ => revert c0 c1 c2 c3 c4 c5 c6 c7; decide
  | 3, _ => revert c0 c1 c2 c3 c4 c5 c6 c7; decide
  | 4, _ => revert c0 c1 c2 c3 c4 c5 c6 c7; decide
  | 5, _ => revert c0 c1 c2 c3 c4 c5 c6 c7; decide
  | 6, _ => revert c0 c1 c2 c3 c4 c5 c6 c7; decide
  | 7, _ => revert c0 c1 c2 c3 c4 c5 c6 c7; decide
  | n + 8, h' => omega
theorem byteAt_bit (bs : List Bool) (i k : Nat) (hk : k < 8) : (byteAt bs i).testBit (7 - k) = bs.getD (8 * i + k) false := by
  unfold byteAt bt
  rw [byte_bit k hk]
  match k, hk with
  | 0, _ => rfl
  | 1, _ => rfl
  | 2, _ => rfl
  | 3, _ => rfl
  | 4, _ => rfl
  | 5, _ => rfl
  | 6, _ => rfl
  | 7, _ => rfl
  | n + 8, h' => omega
theorem sb_pack (bs : List Bool) (j : Nat) : sb (pack bs) j = bs.getD j false := by
  have hj := Nat.div_add_mod j 8
  have hr : j % 8 < 8 := Nat.mod_lt _ (by decide)
  unfold sb
  by_cases h : j / 8 < (bs.length + 7) / 8
  · unfold pack
    rw [List.getD_eq_getElem?_getD, packN_get _ _ _ h]
    show (UInt8.ofNat (byteAt bs (j / 8))).toNat.testBit _ = _
    rw [UInt8.toNat_ofNat_of_lt' (byteAt_lt _ _), byteAt_bit _ _ _ hr, hj]
  · rw [List.getD_eq_getElem?_getD, List.getElem?_eq_none (by rw [pack_length]; omega), List.getD_eq_getElem?_getD, List.getElem?_eq_none (by omega)]
    simp
theorem readB_pack (bs l cs : List Bool) (a : Nat) (hl : a = bs.length) : readB (pack (bs ++ l ++ cs)) a l.length = l := by
  subst hl
  apply List.ext_getElem (by rw [readB_length])
  intro i h1 h2
  simp only [readB, List.getElem_map, List.getElem_range, sb_pack]
  rw [List.getD_eq_getElem?_getD, List.append_assoc, List.getElem?_append_right (by omega), List.getElem?_append_left (by omega), show bs.length + i - bs.length = i by omega, List.getElem?_eq_getElem h2]
  rfl
theorem readB_byte (l : List UInt8) (j : Nat) : readB l (8 * j) 8 = bitsOf (l.getD j 0).toNat 8 := by
  unfold readB bitsOf
  apply List.map_congr_left
  intro i hi
  have : i < 8 := by simpa using hi
  unfold sb
  rw [show (8 * j + i) / 8 = j by omega, show (8 * j + i) % 8 = i by omega]
theorem readB_bytes (l : List UInt8) (j : Nat) : readB l 0 (8 * (j + 1)) = readB l 0 (8 * j) ++ bitsOf (l.getD j 0).toNat 8 := by
  rw [show 8 * (j + 1) = 8 * j + 8 by omega, readB_add, Nat.zero_add, readB_byte]
end Go.Proofs.Ytkjbobgmnpifoaa.M
