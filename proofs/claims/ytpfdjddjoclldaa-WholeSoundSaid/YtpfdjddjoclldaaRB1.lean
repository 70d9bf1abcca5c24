/-
  Contracts and plain facts that the laws share; each piece is headed by what it holds and its conditions.
-/
import Derived.Test.YtpfdjddjoclldaaRM1
import Derived.Lib.Hide
import Derived.Test.YtpfdjddjoclldaaChecked
import Derived.Handy
import Derived.WalkLawsBesides
import Derived.WalkSpells
import Derived.Outline
import Derived.IntWalk
import Derived.Deep.QuietTactic
import Derived.BigQuiet
import Derived.RegionTactic
import Derived.Deep.OwnRows
import Derived.Deep.AppendLies
import Derived.Lib.QuietBelow
import Derived.Laws.BitsAllLaws
import Derived.Deep.WholeRow

/- Plain facts on lists of bits: how they are packed into bytes, what a number's bits are, what bits' number is. No function of the program is named here. No conditions. -/
namespace Go.Proofs.Ytpfdjddjoclldaa.M

def bt (bs : List Bool) (j : Nat) : Nat := (bs.getD j false).toNat
def byteAt (bs : List Bool) (i : Nat) : Nat :=
  128 * bt bs (8 * i + 0) + 64 * bt bs (8 * i + 1) + 32 * bt bs (8 * i + 2) + 16 * bt bs (8 * i + 3) + 8 * bt bs (8 * i + 4) + 4 * bt bs (8 * i + 5) + 2 * bt bs (8 * i + 6) + bt bs (8 * i + 7)
def packN (bs : List Bool) (m : Nat) : List UInt8 := (List.range m).map fun i => UInt8.ofNat (byteAt bs i)
def pack (bs : List Bool) : List UInt8 := packN bs ((bs.length + 7) / 8)

theorem bt_le (bs : List Bool) (j : Nat) : bt bs j ≤ 1 := by unfold bt; cases bs.getD j false <;> decide
theorem bt_out (bs : List Bool) (j : Nat) (h : bs.length ≤ j) : bt bs j = 0 := by
  unfold bt; rw [List.getD_eq_getElem?_getD, List.getElem?_eq_none h]; rfl
theorem bt_app (bs : List Bool) (b : Bool) (j : Nat) (h : j < bs.length) : bt (bs ++ [b]) j = bt bs j := by
  unfold bt; rw [List.getD_eq_getElem?_getD, List.getD_eq_getElem?_getD, List.getElem?_append_left h]
theorem bt_new (bs : List Bool) (b : Bool) : bt (bs ++ [b]) bs.length = b.toNat := by
  unfold bt; rw [List.getD_eq_getElem?_getD, List.getElem?_append_right (Nat.le_refl _)]; simp
theorem byteAt_lt (bs : List Bool) (i : Nat) : byteAt bs i < 256 := by
  have h0 := bt_le bs (8 * i + 0)
  have h1 := bt_le bs (8 * i + 1)
  have h2 := bt_le bs (8 * i + 2)
  have h3 := bt_le bs (8 * i + 3)
  have h4 := bt_le bs (8 * i + 4)
  have h5 := bt_le bs (8 * i + 5)
  have h6 := bt_le bs (8 * i + 6)
  have h7 := bt_le bs (8 * i + 7)
  unfold byteAt; omega
theorem packN_length (bs : List Bool) (m : Nat) : (packN bs m).length = m := by simp [packN]
theorem pack_length (bs : List Bool) : (pack bs).length = (bs.length + 7) / 8 := packN_length _ _
theorem packN_get (bs : List Bool) (m i : Nat) (h : i < m) : (packN bs m)[i]? = some (UInt8.ofNat (byteAt bs i)) := by simp [packN, h]
theorem byteAt_out (bs : List Bool) (i : Nat) (h : bs.length ≤ 8 * i) : byteAt bs i = 0 := by
  unfold byteAt
  rw [bt_out _ _ (by omega), bt_out _ _ (by omega), bt_out _ _ (by omega), bt_out _ _ (by omega), bt_out _ _ (by omega), bt_out _ _ (by omega), bt_out _ _ (by omega), bt_out _ _ (by omega)]
theorem byteAt_app (bs : List Bool) (b : Bool) (i : Nat) (h : 8 * i + 8 ≤ bs.length) : byteAt (bs ++ [b]) i = byteAt bs i := by
  unfold byteAt
  rw [bt_app _ _ _ (by omega), bt_app _ _ _ (by omega), bt_app _ _ _ (by omega), bt_app _ _ _ (by omega), bt_app _ _ _ (by omega), bt_app _ _ _ (by omega), bt_app _ _ _ (by omega), bt_app _ _ _ (by omega)]
theorem pack_open (bs : List Bool) (h : bs.length % 8 = 0) : pack bs ++ [0] = packN bs (bs.length / 8 + 1) := by
  have e : (bs.length + 7) / 8 = bs.length / 8 := by omega
  unfold pack
  rw [e]
  unfold packN
  rw [List.range_succ, List.map_append, List.map_cons, List.map_nil, byteAt_out bs _ (by omega)]
  rfl
theorem pack_mid (bs : List Bool) (h : bs.length % 8 ≠ 0) : pack bs = packN bs (bs.length / 8 + 1) := by
  have e : (bs.length + 7) / 8 = bs.length / 8 + 1 := by omega
  unfold pack
  rw [e]

theorem or8 (r : Nat) (hr : r < 8) (c0 c1 c2 c3 c4 c5 c6 c7 b : Bool)
    (h : ∀ k, r ≤ k → k < 8 → [c0, c1, c2, c3, c4, c5, c6, c7].getD k false = false) :
    128 * ([c0, c1, c2, c3, c4, c5, c6, c7].set r b |>.getD 0 false).toNat + 64 * ([c0, c1, c2, c3, c4, c5, c6, c7].set r b |>.getD 1 false).toNat + 32 * ([c0, c1, c2, c3, c4, c5, c6, c7].set r b |>.getD 2 false).toNat + 16 * ([c0, c1, c2, c3, c4, c5, c6, c7].set r b |>.getD 3 false).toNat
     + 8 * ([c0, c1, c2, c3, c4, c5, c6, c7].set r b |>.getD 4 false).toNat + 4 * ([c0, c1, c2, c3, c4, c5, c6, c7].set r b |>.getD 5 false).toNat + 2 * ([c0, c1, c2, c3, c4, c5, c6, c7].set r b |>.getD 6 false).toNat + ([c0, c1, c2, c3, c4, c5, c6, c7].set r b |>.getD 7 false).toNat
     = (128 * c0.toNat + 64 * c1.toNat + 32 * c2.toNat + 16 * c3.toNat + 8 * c4.toNat + 4 * c5.toNat + 2 * c6.toNat + c7.toNat) ||| (b.toNat <<< (7 - r)) := by
  match r, hr with
  | 0, _ =>
    have g0 := h 0 (by omega) (by omega); have g1 := h 1 (by omega) (by omega); have g2 := h 2 (by omega) (by omega); have g3 := h 3 (by omega) (by omega); have g4 := h 4 (by omega) (by omega); have g5 := h 5 (by omega) (by omega); have g6 := h 6 (by omega) (by omega); have g7 := h 7 (by omega) (by omega)
    clear h; simp at g0 g1 g2 g3 g4 g5 g6 g7; subst g0 g1 g2 g3 g4 g5 g6 g7; revert b; decide
  | 1, _ =>
    have g1 := h 1 (by omega) (by omega); have g2 := h 2 (by omega) (by omega); have g3 := h 3 (by omega) (by omega); have g4 := h 4 (by omega) (by omega); have g5 := h 5 (by omega) (by omega); have g6 := h 6 (by omega) (by omega); have g7 := h 7 (by omega) (by omega)
    clear h; simp at g1 g2 g3 g4 g5 g6 g7; subst g1 g2 g3 g4 g5 g6 g7; revert b c0; decide
  | 2, _ =>
    have g2 := h 2 (by omega) (by omega); have g3 := h 3 (by omega) (by omega); have g4 := h 4 (by omega) (by omega); have g5 := h 5 (by omega) (by omega); have g6 := h 6 (by omega) (by omega); have g7 := h 7 (by omega) (by omega)
    clear h; simp at g2 g3 g4 g5 g6 g7; subst g2 g3 g4 g5 g6 g7; revert b c0 c1; decide
  | 3, _ =>
    have g3 := h 3 (by omega) (by omega); have g4 := h 4 (by omega) (by omega); have g5 := h 5 (by omega) (by omega); have g6 := h 6 (by omega) (by omega); have g7 := h 7 (by omega) (by omega)
    clear h; simp at g3 g4 g5 g6 g7; subst g3 g4 g5 g6 g7; revert b c0 c1 c2; decide
  | 4, _ =>
    have g4 := h 4 (by omega) (by omega); have g5 := h 5 (by omega) (by omega); have g6 := h 6 (by omega) (by omega); have g7 := h 7 (by omega) (by omega)
    clear h; simp at g4 g5 g6 g7; subst g4 g5 g6 g7; revert b c0 c1 c2 c3; decide
  | 5, _ =>
    have g5 := h 5 (by omega) (by omega); have g6 := h 6 (by omega) (by omega); have g7 := h 7 (by omega) (by omega)
    clear h; simp at g5 g6 g7; subst g5 g6 g7; revert b c0 c1 c2 c3 c4; decide
  | 6, _ =>
    have g6 := h 6 (by omega) (by omega); have g7 := h 7 (by omega) (by omega)
    clear h; simp at g6 g7; subst g6 g7; revert b c0 c1 c2 c3 c4 c5; decide
  | 7, _ =>
    have g7 := h 7 (by omega) (by omega)
    clear h; simp at g7; subst g7; revert b c0 c1 c2 c3 c4 c5 c6; decide
  | n + 8, h' => omega
theorem getD_app (bs : List Bool) (b : Bool) (j : Nat) : (bs ++ [b]).getD j false = if j = bs.length then b else bs.getD j false := by
  simp only [List.getD_eq_getElem?_getD]
  by_cases h : j < bs.length
  · rw [List.getElem?_append_left h, if_neg (by omega)]
  · rw [List.getElem?_append_right (by omega)]
    by_cases h2 : j = bs.length
    · subst h2; simp
    · rw [if_neg h2, List.getElem?_eq_none (by simp; omega), List.getElem?_eq_none (by omega)]
theorem byteAt_new (bs : List Bool) (b : Bool) : byteAt (bs ++ [b]) (bs.length / 8) = byteAt bs (bs.length / 8) ||| (b.toNat <<< (7 - bs.length % 8)) := by
  have hr : bs.length % 8 < 8 := Nat.mod_lt _ (by decide)
  have hL := Nat.div_add_mod bs.length 8
  generalize hrr : bs.length % 8 = r at *
  generalize hqq : bs.length / 8 = q at *
  have hout : ∀ k, r ≤ k → k < 8 → [bs.getD (8 * q + 0) false, bs.getD (8 * q + 1) false, bs.getD (8 * q + 2) false, bs.getD (8 * q + 3) false, bs.getD (8 * q + 4) false, bs.getD (8 * q + 5) false, bs.getD (8 * q + 6) false, bs.getD (8 * q + 7) false].getD k false = false := by
    intro k h1 h2
    have e : [bs.getD (8 * q + 0) false, bs.getD (8 * q + 1) false, bs.getD (8 * q + 2) false, bs.getD (8 * q + 3) false, bs.getD (8 * q + 4) false, bs.getD (8 * q + 5) false, bs.getD (8 * q + 6) false, bs.getD (8 * q + 7) false].getD k false = bs.getD (8 * q + k) false := by
      match k, h2 with
      | 0, _ => rfl
      | 1, _ => rfl
      | 2, _ => rfl
      | 3, _ => rfl
      | 4, _ => rfl
      | 5, _ => rfl
      | 6, _ => rfl
      | 7, _ => rfl
      | n + 8, h' => omega
    rw [e, List.getD_eq_getElem?_getD, List.getElem?_eq_none (by omega)]
    rfl
  have := or8 r hr _ _ _ _ _ _ _ _ b hout
  unfold byteAt bt
  rw [← this]
  simp only [getD_app, ← hL]
  match r, hr with
  | 0, _ => simp
  | 1, _ => simp
  | 2, _ => simp
  | 3, _ => simp
  | 4, _ => simp
  | 5, _ => simp
  | 6, _ => simp
  | 7, _ => simp
  | n + 8, h' => omega
theorem pack_lay (bs : List Bool) (b : Bool) :
    (packN bs (bs.length / 8 + 1)).set (bs.length / 8) (UInt8.ofNat (byteAt bs (bs.length / 8) ||| (b.toNat <<< (7 - bs.length % 8)))) = pack (bs ++ [b]) := by
  have hL := Nat.div_add_mod bs.length 8
  have hr : bs.length % 8 < 8 := Nat.mod_lt _ (by decide)
  have e : ((bs ++ [b]).length + 7) / 8 = bs.length / 8 + 1 := by simp; omega
  unfold pack
  rw [e]
  apply List.ext_getElem?
  intro i
  rw [List.getElem?_set, packN_length]
  by_cases h1 : i < bs.length / 8 + 1
  · rw [packN_get _ _ _ h1, packN_get _ _ _ h1]
    by_cases h2 : bs.length / 8 = i
    · subst h2
      rw [if_pos rfl, if_pos (by omega), byteAt_new]
    · rw [if_neg h2, byteAt_app _ _ _ (by omega)]
  · rw [if_neg (by omega), List.getElem?_eq_none (by rw [packN_length]; omega), List.getElem?_eq_none (by rw [packN_length]; omega)]

/-- A number's n bits, the highest first. -/
def bitsOf (x n : Nat) : List Bool := (List.range n).map fun i => x.testBit (n - 1 - i)
def numOf (l : List Bool) : Nat := l.foldl (fun x b => 2 * x + b.toNat) 0
theorem bitsOf_length (x n : Nat) : (bitsOf x n).length = n := by simp [bitsOf]
theorem bitsOf_take (x n k : Nat) (h : k < n) : (bitsOf x n).take (k + 1) = (bitsOf x n).take k ++ [x.testBit (n - 1 - k)] := by
  rw [List.take_succ_eq_append_getElem (by rw [bitsOf_length]; exact h)]
  simp [bitsOf]
theorem numOf_app (l : List Bool) (b : Bool) : numOf (l ++ [b]) = 2 * numOf l + b.toNat := by simp [numOf]
theorem bitsOf_succ (x n : Nat) : bitsOf x (n + 1) = bitsOf (x / 2) n ++ [x.testBit 0] := by
  unfold bitsOf
  rw [List.range_succ, List.map_append]
  congr 1
  · apply List.map_congr_left
    intro i hi
    have : i < n := by simpa using hi
    rw [show n + 1 - 1 - i = (n - 1 - i) + 1 by omega, Nat.testBit_succ]
  · simp
theorem numOf_bitsOf (n : Nat) : ∀ x, x < 2 ^ n → numOf (bitsOf x n) = x := by
  induction n with
  | zero => intro x h; have : x = 0 := by simpa using h
            subst this; rfl
  | succ n ih =>
    intro x h
    rw [bitsOf_succ, numOf_app, ih (x / 2) (by rw [Nat.pow_succ] at h; omega), Nat.testBit_zero]
    have := Nat.div_add_mod x 2
    rcases Nat.mod_two_eq_zero_or_one x with h2 | h2 <;> simp [h2] <;> omega
theorem numOf_lt' (n : Nat) : ∀ l : List Bool, l.length = n → numOf l < 2 ^ n := by
  induction n with
  | zero => intro l h; rw [List.eq_nil_of_length_eq_zero h]; decide
  | succ n ih =>
    intro l h
    rcases List.eq_nil_or_concat l with rfl | ⟨l', b, rfl⟩
    · simp at h
    · have := ih l' (by simpa using h)
      rw [List.concat_eq_append, numOf_app, Nat.pow_succ]
      have : b.toNat ≤ 1 := by cases b <;> decide
      omega
theorem numOf_lt (l : List Bool) : numOf l < 2 ^ l.length := numOf_lt' _ l rfl

/-- A text's bits. -/
def sb (s : List UInt8) (j : Nat) : Bool := (s.getD (j / 8) 0).toNat.testBit (7 - j % 8)
def readB (s : List UInt8) (a n : Nat) : List Bool := (List.range n).map fun i => sb s (a + i)
theorem readB_length (s : List UInt8) (a n : Nat) : (readB s a n).length = n := by simp [readB]
theorem readB_succ (s : List UInt8) (a n : Nat) : readB s a (n + 1) = readB s a n ++ [sb s (a + n)] := by
  unfold readB; rw [List.range_succ, List.map_append]; rfl
theorem readB_add (s : List UInt8) (a m n : Nat) : readB s a (m + n) = readB s a m ++ readB s (a + m) n := by
  induction n with
  | zero => simp [readB]
  | succ n ih => rw [← Nat.add_assoc, readB_succ, ih, readB_succ, List.append_assoc, Nat.add_assoc]
theorem byte_bit (k : Nat) (hk : k < 8) (c0 c1 c2 c3 c4 c5 c6 c7 : Bool) :
    (128 * c0.toNat + 64 * c1.toNat + 32 * c2.toNat + 16 * c3.toNat + 8 * c4.toNat + 4 * c5.toNat + 2 * c6.toNat + c7.toNat).testBit (7 - k) = [c0, c1, c2, c3, c4, c5, c6, c7].getD k false := by
  match k, hk with
  | 0, _ => revert c0 c1 c2 c3 c4 c5 c6 c7; decide
  | 1, _ => revert c0 c1 c2 c3 c4 c5 c6 c7; decide
  | 2, _ => revert c0 c1 c2 c3 c4 c5 c6 c7; decide
  | 3, _ => revert c0 c1 c2 c3 c4 c5 c6 c7; decide
  | 4, _ => revert c0 c1 c2 c3 c4 c5 c6 c7; decide
  | 5, _ => revert c0 c1 c2 c3 c4 c5 c6 c7; decide
  | 6, _ => revert c0 c1 c2 c3 c4 c5 c6 c7; decide
  | 7, _ => revert c0 c1 c2 c3 c4 c5 c6 c7; decide
  | n + 8, h' => omega
theorem byteAt_bit (bs : List Bool) (i k : Nat) (hk : k < 8) : (byteAt bs i).testBit (7 - k) = bs.getD (8 * i + k) false := by
  unfold byteAt bt
  rw [byte_bit k hk]
  match k, hk with
  | 0, _ => rfl
  | 1, _ => rfl
  | 2, _ => rfl
  | 3, _ => rfl
  | 4, _ => rfl
  | 5, _ => rfl
  | 6, _ => rfl
  | 7, _ => rfl
  | n + 8, h' => omega
theorem sb_pack (bs : List Bool) (j : Nat) : sb (pack bs) j = bs.getD j false := by
  have hj := Nat.div_add_mod j 8
  have hr : j % 8 < 8 := Nat.mod_lt _ (by decide)
  unfold sb
  by_cases h : j / 8 < (bs.length + 7) / 8
  · unfold pack
    rw [List.getD_eq_getElem?_getD, packN_get _ _ _ h]
    show (UInt8.ofNat (byteAt bs (j / 8))).toNat.testBit _ = _
    rw [UInt8.toNat_ofNat_of_lt' (byteAt_lt _ _), byteAt_bit _ _ _ hr, hj]
  · rw [List.getD_eq_getElem?_getD, List.getElem?_eq_none (by rw [pack_length]; omega), List.getD_eq_getElem?_getD, List.getElem?_eq_none (by omega)]
    simp
theorem readB_pack (bs l cs : List Bool) (a : Nat) (hl : a = bs.length) : readB (pack (bs ++ l ++ cs)) a l.length = l := by
  subst hl
  apply List.ext_getElem (by rw [readB_length])
  intro i h1 h2
  simp only [readB, List.getElem_map, List.getElem_range, sb_pack]
  rw [List.getD_eq_getElem?_getD, List.append_assoc, List.getElem?_append_right (by omega), List.getElem?_append_left (by omega), show bs.length + i - bs.length = i by omega, List.getElem?_eq_getElem h2]
  rfl
theorem readB_byte (l : List UInt8) (j : Nat) : readB l (8 * j) 8 = bitsOf (l.getD j 0).toNat 8 := by
  unfold readB bitsOf
  apply List.map_congr_left
  intro i hi
  have : i < 8 := by simpa using hi
  unfold sb
  rw [show (8 * j + i) / 8 = j by omega, show (8 * j + i) % 8 = i by omega]
theorem readB_bytes (l : List UInt8) (j : Nat) : readB l 0 (8 * (j + 1)) = readB l 0 (8 * j) ++ bitsOf (l.getD j 0).toNat 8 := by
  rw [show 8 * (j + 1) = 8 * j + 8 by omega, readB_add, Nat.zero_add, readB_byte]
end Go.Proofs.Ytpfdjddjoclldaa.M

/- What the walks of all layers share: facts on blocks, on rows that were appended to, on bytes, on texts made of bytes; no function of the program is named here. No conditions. -/
namespace Go.Proofs.Ytpfdjddjoclldaa
open Go.RowKit
open M

theorem ret_eq {k : IntKind} {a b : Int} (h : a = b) : Ending.returned (.int k a) = .returned (.int k b) := by rw [h]
/-- Only block g has turned, and no block is new. -/
structure Only (g : Nat) (w w' : World) : Prop where
  os : w'.os = w.os
  tape : w'.tape = w.tape
  output : w'.output = w.output
  size : w'.heap.size = w.heap.size
  block : ∀ k, k ≠ g → w'.heap[k]? = w.heap[k]?
theorem Only.refl (g : Nat) (w : World) : Only g w w := ⟨rfl, rfl, rfl, rfl, fun _ _ => rfl⟩
theorem Only.trans {g : Nat} {a b c : World} (h : Only g a b) (k : Only g b c) : Only g a c :=
  ⟨k.os.trans h.os, k.tape.trans h.tape, k.output.trans h.output, k.size.trans h.size, fun i hi => (k.block i hi).trans (h.block i hi)⟩
theorem Only.setCell {g : Nat} {a w : World} (h : Only g a w) (i : Nat) (m : Option Nat) (u : Value) : Only g a (w.setCell ⟨g, i, m⟩ u) :=
  h.trans ⟨rfl, rfl, rfl, by simp [World.setCell], fun k hk => Below.heap_setCell _ _ _ _ hk⟩
theorem Only.drew {g : Nat} {a w : World} (h : Only g a w) : Only g a w.drew := ⟨h.os, h.tape, h.output, h.size, h.block⟩
theorem Only.drewN {g : Nat} {a w : World} (h : Only g a w) (n : Nat) : Only g a (w.drewN n) := ⟨h.os, h.tape, h.output, h.size, h.block⟩
theorem Only.below {g : Nat} {w w' : World} (h : Only g w w') {B : Nat} (hB : B ≤ g) : Below B w w' := ⟨h.os, h.tape, h.output, by have := h.size; omega, fun k hk => h.block k (by omega)⟩
/-- Block g is just these cells. -/
def Row (w : World) (g : Nat) (t : TypeId) (cs : Array Value) : Prop := w.heap[g]? = some (.cells cs t (0, 0))
theorem Row.set {w : World} {g : Nat} {t : TypeId} {cs : Array Value} (h : Row w g t cs) (i : Nat) (u : Value) : Row (w.setCell ⟨g, i, none⟩ u) g t (cs.setIfInBounds i u) :=
  heap_setCell_same w g i cs t u h
theorem Row.drewN {w : World} {g : Nat} {t : TypeId} {cs : Array Value} (h : Row w g t cs) (n : Nat) : Row (w.drewN n) g t cs := h
theorem Row.free {w : World} {g : Nat} {t : TypeId} {cs : Array Value} (h : Row w g t cs) (j : Nat) : w.frozen? ⟨g, j, none⟩ = false := frozen_of_row _ _ _ _ _ h
def byteCells (k : List UInt8) : Array Value := (k.map fun b => Value.int .u8 (b.toNat : Int)).toArray
theorem byteCells_get (k : List UInt8) (i : Nat) (h : i < k.length) : (byteCells k)[i]? = some (.int .u8 (k[i].toNat : Int)) := by
  simp [byteCells, h]
theorem strOfNums_ofB (l : List UInt8) : strOfNums (l.map fun b => (b.toNat : Int)) = ofB l := by
  have h : (l.map fun b => (b.toNat : Int)).map (fun n : Int => UInt8.ofNat n.toNat) = l := by
    rw [List.map_map]
    have : ((fun n : Int => UInt8.ofNat n.toNat) ∘ fun b : UInt8 => (b.toNat : Int)) = id := by
      funext b; simp
    rw [this, List.map_id]
  unfold strOfNums ofB
  rw [h]
theorem own_ne {w : World} {base n size : Nat} {e : TypeId} {v : Value} {xs : List Value} (h : w.ownsRow base e size v n xs) (g : Nat) (hg : g < base) : some g ≠ v.ownBlock := by
  rcases h.2 with ⟨rfl, _⟩ | ⟨g', cap, cur, rfl, hb, _⟩
  · simp [Value.ownBlock]
  · simp [Value.ownBlock]; omega
theorem own_ge {w : World} {base n size : Nat} {e : TypeId} {v : Value} {xs : List Value} (h : w.ownsRow base e size v n xs) (g : Nat) (hg : v.ownBlock = some g) : base ≤ g := by
  rcases h.2 with ⟨rfl, _⟩ | ⟨g', cap, cur, rfl, hb, _⟩
  · simp [Value.ownBlock] at hg
  · simp [Value.ownBlock] at hg; omega
theorem Row.grown {w w' : World} {g : Nat} {t : TypeId} {cs : Array Value} {row : Option Nat} (h : Row w g t cs) (hg : w.grownBy w' row) (hlt : g < w.heap.size) (hne : some g ≠ row) : Row w' g t cs :=
  (hg.block g hlt hne).trans h
theorem Row.lt {w : World} {g : Nat} {t : TypeId} {cs : Array Value} (h : Row w g t cs) : g < w.heap.size := by
  rcases Nat.lt_or_ge g w.heap.size with h1 | h1
  · exact h1
  · unfold Row at h; rw [Array.getElem?_eq_none h1] at h; cases h
theorem Row.alloc {w : World} {g : Nat} {t : TypeId} {cs : Array Value} (h : Row w g t cs) (o : Obj) : Row (w.alloc o) g t cs := (Below.heap_alloc w o g h.lt).trans h
theorem Row.below {B : Nat} {w w' : World} {g : Nat} {t : TypeId} {cs : Array Value} (h : Row w g t cs) (hb : Below B w w') (hg : g < B) : Row w' g t cs := (hb.block g hg).trans h
theorem Row.far {w : World} {g : Nat} {t : TypeId} {cs : Array Value} (h : Row w g t cs) {p : Addr} (hp : g ≠ p.block) (u : Value) : Row (w.setCell p u) g t cs := (Below.heap_setCell w p u g hp).trans h
theorem Row.setRow {w : World} {g : Nat} {t : TypeId} {cs : Array Value} (h : Row w g t cs) (ds : Array Value) : Row (w.setRow g ds) g t ds := setRow_heap w g cs ds t _ h
theorem below_setRow {B g : Nat} {w0 w : World} (hb : Below B w0 w) (hg : B ≤ g) (cs : Array Value) : Below B w0 (w.setRow g cs) :=
  hb.trans ⟨rfl, rfl, rfl, by simp, fun k hk => setRow_other w g k cs (by omega)⟩
theorem one_new (w : World) (g : Nat) (hg : w.heap.size = g) (x : Value) (t : TypeId) : ∀ (j : Nat) (u : Value), [x][j]? = some u → (w.alloc (.cells #[x] t)).cell? ((⟨g, 0, none⟩ : Addr).add j) = some u := by
  subst hg; exact cell_one_new _ _ _
theorem one_cell {k : IntKind} {n : Int} : ∀ u ∈ [Value.int k n], u.oneCell' = true := by
  intro u hu; simp at hu; subst hu; rfl
theorem byteCells_one (k : List UInt8) : (byteCells k).all (·.oneCell') = true := by
  simp [byteCells, Value.oneCell']
theorem byteCells_size (k : List UInt8) : (byteCells k).size = k.length := by simp [byteCells]
theorem Below.drewN {B : Nat} {a w : World} (h : Below B a w) (n : Nat) : Below B a (w.drewN n) := ⟨h.os, h.tape, h.output, h.size, h.block⟩
theorem toList_bl (s : ByteArray) : s.toList = bl s := ByteArray.toList_eq s
theorem bl_inj {s t : ByteArray} (h : bl s = bl t) : s = t := by rw [← ofB_bl s, h, ofB_bl]
theorem row_new (w : World) (g : Nat) (hg : w.heap.size = g) (cs : Array Value) (t : TypeId) : Row (w.alloc (.cells cs t)) g t cs := by
  subst hg; exact heap_alloc_new _ _
theorem below_rules {W w1 : World} (hb : Below W.heap.size W w1) : (∀ b o, b < W.heap.size → w1.cell? ⟨b, o, none⟩ = W.cell? ⟨b, o, none⟩) ∧ (∀ b o, b < W.heap.size → w1.frozen? ⟨b, o, none⟩ = W.frozen? ⟨b, o, none⟩) :=
  ⟨fun b o h => hb.cell (p := ⟨b, o, none⟩) h, fun b o h => hb.frozen (p := ⟨b, o, none⟩) h⟩
theorem own_cells {w : World} {base n : Nat} {e : TypeId} {v : Value} {xs : List Value} (h : w.ownsRow base e 1 v n xs) (hn : 0 < n) :
    ∃ g cap, v = .slice (some ⟨g, 0, none⟩) n cap ∧ base ≤ g ∧ g < w.heap.size ∧ ∀ i, i < n → w.cell? ⟨g, i, none⟩ = xs[i]? := by
  rcases h.2 with ⟨_, h0⟩ | ⟨g, cap, cur, hv, hb, hg, _, _, hsz, htk⟩
  · omega
  · refine ⟨g, cap, hv, hb, Row.lt hg, fun i hi => ?_⟩
    rw [cell_of_row _ _ _ _ _ _ hg, ← htk, List.getElem?_take, if_pos (by omega), Array.getElem?_toList]
theorem gb_trans {a b c : World} {row : Option Nat} (h : a.grownBy b row) (k : b.grownBy c row) : a.grownBy c row :=
  ⟨k.os.trans h.os, k.tape.trans h.tape, k.output.trans h.output, Nat.le_trans h.size k.size, fun i hi hn => (k.block i (Nat.lt_of_lt_of_le hi h.size) hn).trans (h.block i hi hn)⟩
theorem gb_below {a b c : World} {row : Option Nat} (h : a.grownBy b row) (k : Below b.heap.size b c) : a.grownBy c row :=
  ⟨k.os.trans h.os, k.tape.trans h.tape, k.output.trans h.output, Nat.le_trans h.size k.size, fun i hi hn => (k.block i (Nat.lt_of_lt_of_le hi h.size)).trans (h.block i hi hn)⟩
theorem gb_only {a b c : World} {g : Nat} (h : a.grownBy b (some g)) (k : Only g b c) : a.grownBy c (some g) :=
  ⟨k.os.trans h.os, k.tape.trans h.tape, k.output.trans h.output, by have := h.size; have := k.size; omega, fun i hi hn => (k.block i (fun e => hn (by rw [e]))).trans (h.block i hi hn)⟩
theorem gb_cell {a b : World} {g : Nat} (h : a.grownBy b (some g)) {p : Addr} (hp : p.block < a.heap.size) (hn : p.block ≠ g) : b.cell? p = a.cell? p :=
  World.cell?_of_block (h.block p.block hp (fun e => hn (by injection e)))
/-- A byte as the model's number. -/
def ub (x : UInt8) : Int := (x.toNat : Int)
theorem ub_bd (x : UInt8) : 0 ≤ ub x ∧ ub x < 256 := by
  have := x.toNat_lt
  unfold ub; omega
theorem bl_append (s t : ByteArray) : bl (s ++ t) = bl s ++ bl t := by simp [bl]
theorem byte_of_wf {n : Int} (h : (Lit.int .u8 n).wf = true) : ∃ x, n = ub x := by
  have := Go.bounds_u8 h
  refine ⟨UInt8.ofNat n.toNat, ?_⟩
  unfold ub
  rw [UInt8.toNat_ofNat_of_lt' (by show n.toNat < 256; omega)]
  omega
theorem word_of_wf {n : Int} (h : (Lit.int .u64 n).wf = true) : ∃ x, n = un x := by
  have := Go.bounds_u64 h
  exact ⟨_, un_of n this.1 (by omega)⟩
/-- A list of numbers, as it lies. -/
def natCells (l : List Nat) : Array Value := (l.map fun x : Nat => Value.int .i64 (x : Int)).toArray
theorem natCells_size (l : List Nat) : (natCells l).size = l.length := by simp [natCells]
theorem natCells_get (l : List Nat) (i : Nat) (h : i < l.length) : (natCells l)[i]? = some (.int .i64 (l.getD i 0 : Nat)) := by
  simp [natCells, h]
theorem natCells_set (l : List Nat) (i x : Nat) : (natCells l).setIfInBounds i (.int .i64 (x : Int)) = natCells (l.set i x) := by
  simp [natCells, List.map_set]
theorem int_info : (Try.prog.info? 3).map (fun i => (i.zero, i.size, i.bytes)) = some (some (.int .i64 0), 1, 8) := by kernel_rfl
theorem below_drew1 {B : Nat} {a w : World} (h : Below B a w) : Below B a w.drew := ⟨h.os, h.tape, h.output, h.size, h.block⟩
theorem Row.box {w w1 : World} {g : Nat} {t : TypeId} {cs : Array Value} (h : Row w g t cs) (hb : Below w.heap.size w w1) : Row w1 g t cs := h.below hb h.lt
end Go.Proofs.Ytpfdjddjoclldaa

/- Lists of ints as they lie, cell by cell. No conditions. -/
namespace Go.Proofs.Ytpfdjddjoclldaa
open Go.RowKit
open M
/-- A list of ints, as it lies. -/
def iCells (l : List Int) : Array Value := (l.map fun x => Value.int .i64 x).toArray
theorem iCells_size (l : List Int) : (iCells l).size = l.length := by simp [iCells]
theorem iCells_get (l : List Int) (i : Nat) (h : i < l.length) : (iCells l)[i]? = some (.int .i64 (l.getD i 0)) := by
  simp [iCells, List.getD_eq_getElem?_getD, h]
theorem iCells_set (l : List Int) (i : Nat) (x : Int) : (iCells l).setIfInBounds i (.int .i64 x) = iCells (l.set i x) := by
  simp [iCells, List.map_set]
theorem iCells_one (l : List Int) : (iCells l).all (·.oneCell') = true := by
  simp [iCells, Value.oneCell']
theorem i_at {w : World} {g : Nat} {l : List Int} {t : TypeId} (h : Row w g t (iCells l)) (i : Nat) (hi : i < l.length) : w.cell? ⟨g, i, none⟩ = some (.int .i64 (l.getD i 0)) :=
  (cell_of_row w g i (iCells l) t (0, 0) h).trans (iCells_get l i hi)
end Go.Proofs.Ytpfdjddjoclldaa

/- int's and, or, xor, shifts on natural numbers, as the model has them. No function of the program is named here. No conditions. -/
namespace Go.Proofs.Ytpfdjddjoclldaa
open Go.RowKit
open M
theorem ofInt_i64 (a : Nat) (ha : a < 9223372036854775808) : (BitVec.ofInt 64 (a : Int)).toNat = a := ofInt_u64 a (by omega)
theorem i64_and_nat (a b : Nat) (ha : a < 9223372036854775808) (hb : b < 9223372036854775808) : bits .and .i64 (a : Int) (b : Int) = ((a &&& b : Nat) : Int) := by
  have hx : a &&& b < 2 ^ 63 := Nat.and_lt_two_pow _ (by omega)
  show IntKind.i64.wrap ((BitVec.ofInt 64 (a : Int) &&& BitVec.ofInt 64 (b : Int)).toNat : Int) = _
  rw [BitVec.toNat_and, ofInt_i64 a ha, ofInt_i64 b hb, IntKind.wrap_i64]
  omega
theorem i64_or_nat (a b : Nat) (ha : a < 9223372036854775808) (hb : b < 9223372036854775808) : bits .or .i64 (a : Int) (b : Int) = ((a ||| b : Nat) : Int) := by
  have hx : a ||| b < 2 ^ 63 := Nat.or_lt_two_pow (by omega) (by omega)
  show IntKind.i64.wrap ((BitVec.ofInt 64 (a : Int) ||| BitVec.ofInt 64 (b : Int)).toNat : Int) = _
  rw [BitVec.toNat_or, ofInt_i64 a ha, ofInt_i64 b hb, IntKind.wrap_i64]
  omega
theorem i64_xor_nat (a b : Nat) (ha : a < 9223372036854775808) (hb : b < 9223372036854775808) : bits .xor .i64 (a : Int) (b : Int) = ((a ^^^ b : Nat) : Int) := by
  have hx : a ^^^ b < 2 ^ 63 := Nat.xor_lt_two_pow (by omega) (by omega)
  show IntKind.i64.wrap ((BitVec.ofInt 64 (a : Int) ^^^ BitVec.ofInt 64 (b : Int)).toNat : Int) = _
  rw [BitVec.toNat_xor, ofInt_i64 a ha, ofInt_i64 b hb, IntKind.wrap_i64]
  omega
theorem div_pow (c k : Nat) : (c : Int) / 2 ^ k = ((c / 2 ^ k : Nat) : Int) := by
  rw [Int.natCast_ediv, Int.natCast_pow]; rfl
theorem bit_walk (c k : Nat) (hc : c < 9223372036854775808) : bits .and .i64 ((c : Int) / 2 ^ k) 1 = ((c.testBit k).toNat : Int) := by
  have h2 : c / 2 ^ k ≤ c := Nat.div_le_self _ _
  rw [div_pow, show (1 : Int) = ((1 : Nat) : Int) from rfl, i64_and_nat _ _ (by omega) (by decide), Nat.and_one_is_mod, Nat.testBit_eq_decide_div_mod_eq]
  rcases Nat.mod_two_eq_zero_or_one (c / 2 ^ k) with h | h <;> simp [h]
theorem byte_walk (c k : Nat) (hc : c < 256) (hk : k ≤ 7) : bits .and .i64 (wrap64 (c : Int) / 2 ^ min k 64) 1 = ((c.testBit k).toNat : Int) := by
  rw [IntWalk.wrap64_in _ (by omega), Nat.min_eq_left (by omega), bit_walk c k (by omega)]
theorem or_bit (x : Nat) (b : Bool) : (2 * x) ||| b.toNat = 2 * x + b.toNat := by
  cases b
  · simp
  · show 2 * x ||| 1 = 2 * x + 1
    have := Nat.shiftLeft_add_eq_or_of_lt (i := 1) (b := 1) (by decide) x
    rw [Nat.shiftLeft_eq] at this
    rw [show 2 * x = x * 2 ^ 1 by omega]
    exact this.symm
theorem join_walk (x : Nat) (b : Bool) (hx : x < 4611686018427387904) : bits .or .i64 ((x : Int) * 2) ((b.toNat : Nat) : Int) = ((2 * x + b.toNat : Nat) : Int) := by
  have : b.toNat ≤ 1 := by cases b <;> decide
  rw [show (x : Int) * 2 = ((2 * x : Nat) : Int) by omega, i64_or_nat _ _ (by omega) (by omega), or_bit]
end Go.Proofs.Ytpfdjddjoclldaa

/- Two results, one or both of them whole arrays. No program is named here. No conditions. -/
namespace Go.Proofs.Ytpfdjddjoclldaa
open Go.RowKit
open M
theorem results_row_tmp {P : Program} {fn : Func} {p u : Tmp} {ty : TypeId} (h : fn.results = #[.cell p ty, .tmp u]) (tmps : Array Value) (w : World) (g : Nat) (t : TypeId) (cs : Array Value) (fr : Nat × Nat) (d : TypeDesc)
    (hp : tmps.getD p undef = .pointer (some ⟨g, 0, none⟩)) (hg : w.heap[g]? = some (.cells cs t fr))
    (hu : P.underlying ty = some d) (hd : (match d with | .struct _ | .array _ _ => true | _ => false) = true) (hi : (P.info? ty).map (·.size) = some cs.size) :
    (results fn tmps).run P w = .ok (.tuple #[.agg cs, tmps.getD u undef]) w := by
  rw [results_cell_tmp h, hp]
  simp [asAddr, run_loadVar_row w g t ty cs fr d hg hu hd hi]
theorem results_row_row {P : Program} {fn : Func} {p q : Tmp} {ty : TypeId} (h : fn.results = #[.cell p ty, .cell q ty]) (tmps : Array Value) (w : World) (g g2 : Nat) (t t2 : TypeId) (cs cs2 : Array Value) (fr fr2 : Nat × Nat) (d : TypeDesc)
    (hp : tmps.getD p undef = .pointer (some ⟨g, 0, none⟩)) (hg : w.heap[g]? = some (.cells cs t fr)) (hq : tmps.getD q undef = .pointer (some ⟨g2, 0, none⟩)) (hg2 : w.heap[g2]? = some (.cells cs2 t2 fr2))
    (hu : P.underlying ty = some d) (hd : (match d with | .struct _ | .array _ _ => true | _ => false) = true) (hi : (P.info? ty).map (·.size) = some cs.size) (hi2 : (P.info? ty).map (·.size) = some cs2.size) :
    (results fn tmps).run P w = .ok (.tuple #[.agg cs, .agg cs2]) w := by
  have hp' : tmps[p]?.getD undef = .pointer (some ⟨g, 0, none⟩) := by simpa using hp
  have hq' : tmps[q]?.getD undef = .pointer (some ⟨g2, 0, none⟩) := by simpa using hq
  simp [results, h, hp', hq', asAddr, Sem.run_bind, run_loadVar_row w g t ty cs fr d hg hu hd hi, run_loadVar_row w g2 t2 ty cs2 fr2 d hg2 hu hd hi2]
end Go.Proofs.Ytpfdjddjoclldaa
