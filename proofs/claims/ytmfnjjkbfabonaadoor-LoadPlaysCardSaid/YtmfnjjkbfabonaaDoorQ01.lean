/-
  Contracts and plain facts that the laws share, part 1; each piece is headed by what it holds and its conditions.
-/
import Derived.Laws.BitsAllLaws
import Derived.Laws.Bits64
import Derived.Lib.Hide
import Derived.IntWalk
import Derived.Handy

/- Plain facts on words of 64 bits, on bytes laid the lowest first, and on the rounds of layer 1: no program is named here. No conditions. -/
namespace Go.Proofs.YtmfnjjkbfabonaaDoor
namespace M

/-- A word as the model's number. -/
def un (x : BitVec 64) : Int := (x.toNat : Int)

theorem un_bd (x : BitVec 64) : 0 ≤ un x ∧ un x < 18446744073709551616 := by
  have := x.isLt
  unfold un
  omega
theorem un_nonneg (x : BitVec 64) : 0 ≤ un x := (un_bd x).1
theorem un_inj {x y : BitVec 64} : un x = un y ↔ x = y :=
  ⟨fun h => BitVec.eq_of_toNat_eq (by unfold un at h; omega), fun h => by rw [h]⟩
theorem un_beq (x y : BitVec 64) : (un x == un y) = (x == y) := by
  rw [Bool.eq_iff_iff]; simp [un_inj]
theorem un_bne (x y : BitVec 64) : (un x != un y) = (x != y) := by
  simp only [bne, un_beq]
theorem un_add (x y : BitVec 64) : IntKind.u64.wrap (un x + un y) = un (x + y) := by
  rw [IntKind.wrap_u64]; unfold un; rw [BitVec.toNat_add]; omega
theorem un_sub (x y : BitVec 64) : IntKind.u64.wrap (un x - un y) = un (x - y) := by
  rw [IntKind.wrap_u64]; unfold un; rw [BitVec.toNat_sub]; have := x.isLt; have := y.isLt; omega
theorem un_xor (x y : BitVec 64) : bits .xor .u64 (un x) (un y) = un (x ^^^ y) := by
  unfold un; rw [u64_xor_nat _ _ x.isLt y.isLt, BitVec.toNat_xor]
theorem un_or (x y : BitVec 64) : bits .or .u64 (un x) (un y) = un (x ||| y) := by
  unfold un; rw [u64_or_nat _ _ x.isLt y.isLt, BitVec.toNat_or]
/-- Any number that is within its kind is a word. -/
theorem un_of (n : Int) (h0 : 0 ≤ n) (h1 : n < 18446744073709551616) : n = un (BitVec.ofNat 64 n.toNat) := by
  unfold un; rw [BitVec.toNat_ofNat]; omega
theorem un_lit (n : Nat) (h : n < 18446744073709551616) : un (BitVec.ofNat 64 n) = (n : Int) := by
  unfold un; rw [BitVec.toNat_ofNat]; omega

theorem un_xor_255 (x : BitVec 64) : bits .xor .u64 (un x) 255 = un (x ^^^ 255#64) := un_xor x 255#64

/-- A word turned left. -/
def rot (x : BitVec 64) (n : Int) : BitVec 64 := x.rotateLeft (n % 64).toNat

theorem rl_rl (x : BitVec 64) (a b : Nat) (ha : a < 64) (hb : b < 64) : (x.rotateLeft a).rotateLeft b = x.rotateLeft ((a + b) % 64) := by
  apply BitVec.eq_of_getLsbD_eq
  intro i hi
  simp only [BitVec.getLsbD_rotateLeft, Nat.mod_eq_of_lt ha, Nat.mod_eq_of_lt hb, Nat.mod_mod]
  by_cases h1 : i < b <;> by_cases h2 : a + b < 64
  · rw [Nat.mod_eq_of_lt h2]
    simp only [h1, show i < a + b by omega, decide_true, cond_true, show ¬ 64 - b + i < a by omega, decide_false, cond_false, show 64 - b + i < 64 by omega, Bool.true_and]
    congr 1; omega
  · rw [show (a + b) % 64 = a + b - 64 by omega]
    by_cases h3 : i < a + b - 64
    · simp only [h1, h3, decide_true, cond_true, show 64 - b + i < a by omega]
      congr 1; omega
    · simp only [h1, h3, decide_true, cond_true, decide_false, cond_false, show ¬ 64 - b + i < a by omega, show 64 - b + i < 64 by omega, hi, Bool.true_and]
      congr 1; omega
  · rw [Nat.mod_eq_of_lt h2]
    by_cases h3 : i < a + b
    · simp only [h1, h3, hi, decide_true, decide_false, cond_true, cond_false, show i - b < a by omega, Bool.true_and]
      congr 1; omega
    · simp only [h1, h3, hi, decide_true, decide_false, cond_false, show ¬ i - b < a by omega, show i - b < 64 by omega, Bool.true_and]
      congr 1; omega
  · rw [show (a + b) % 64 = a + b - 64 by omega]
    simp only [h1, hi, decide_true, decide_false, cond_true, cond_false, show i - b < a by omega, show ¬ i < a + b - 64 by omega, Bool.true_and]
    congr 1; omega

theorem rot_rot (x : BitVec 64) (n m : Int) : rot (rot x n) m = rot x (n + m) := by
  unfold rot
  rw [rl_rl _ _ _ (by omega) (by omega)]
  congr 1; omega
theorem rot_period (x : BitVec 64) (n : Int) : rot x (n + 64) = rot x n := by
  unfold rot; congr 1; omega
theorem rot_zero (x : BitVec 64) : rot x 0 = x := by
  unfold rot
  apply BitVec.eq_of_getLsbD_eq
  intro i hi
  simp [hi]
theorem rot_back (x : BitVec 64) (n : Int) : rot (rot x n) (-n) = x := by
  rw [rot_rot, show n + -n = 0 by omega, rot_zero]
theorem rot_back' (x : BitVec 64) (n : Int) : rot (rot x (-n)) n = x := by
  rw [rot_rot, show -n + n = 0 by omega, rot_zero]

/-- What RotateLeft64 reckons: two shifts and an or. -/
theorem rot_shifts (x : BitVec 64) (k : Nat) (hk : k < 64) : bits .or .u64 (IntKind.u64.wrap (un x * 2 ^ k)) (un x / 2 ^ (64 - k)) = un (x.rotateLeft k) := by
  have hx := x.isLt
  have e1 : IntKind.u64.wrap (un x * 2 ^ k) = ((x.toNat * 2 ^ k % 18446744073709551616 : Nat) : Int) := by
    rw [IntKind.wrap_u64]; unfold un
    have : ((x.toNat : Int) * 2 ^ k) = ((x.toNat * 2 ^ k : Nat) : Int) := by simp
    rw [this]; omega
  have e2 : un x / 2 ^ (64 - k) = ((x.toNat / 2 ^ (64 - k) : Nat) : Int) := by unfold un; simp
  rw [e1, e2, u64_or_nat _ _ (Nat.mod_lt _ (by omega)) (Nat.lt_of_le_of_lt (Nat.div_le_self _ _) hx)]
  unfold un
  rw [BitVec.toNat_rotateLeft, Nat.mod_eq_of_lt hk, Nat.shiftLeft_eq, Nat.shiftRight_eq_div_pow]

/-- One step of the reference's turn. -/
def dbl (x : BitVec 64) : BitVec 64 := x.rotateLeft 1
theorem dbl_nat (x : BitVec 64) : un (dbl x) = (2 * un x) % 18446744073709551616 + (if 9223372036854775808 ≤ un x then 1 else 0) := by
  have hx := x.isLt
  unfold dbl un
  rw [BitVec.toNat_rotateLeft, show 1 % 64 = 1 from rfl, Nat.shiftLeft_eq, Nat.shiftRight_eq_div_pow, show 64 - 1 = 63 from rfl]
  rw [nat_join 1 _ _ (by omega) (by omega)]
  split <;> omega
theorem dbl_hi (y : BitVec 64) (h : 9223372036854775808 ≤ un y) : IntKind.u64.wrap (IntKind.u64.wrap (2 * un y) + 1) = un (dbl y) := by
  have := un_bd y
  rw [dbl_nat, if_pos h, IntKind.wrap_u64, IntKind.wrap_u64]; omega
theorem dbl_lo (y : BitVec 64) (h : ¬ 9223372036854775808 ≤ un y) : IntKind.u64.wrap (2 * un y) = un (dbl y) := by
  rw [dbl_nat, if_neg h, IntKind.wrap_u64]; omega
/-- Is the highest bit set? -/
def top (y : BitVec 64) : Bool := decide (9223372036854775808 ≤ un y)
theorem top_def (y : BitVec 64) : decide (9223372036854775808 ≤ un y) = top y := rfl
theorem dbl_top (y : BitVec 64) (h : top y = true) : IntKind.u64.wrap (IntKind.u64.wrap (2 * un y) + 1) = un (dbl y) := dbl_hi y (of_decide_eq_true h)
theorem dbl_not (y : BitVec 64) (h : top y = false) : IntKind.u64.wrap (2 * un y) = un (dbl y) := dbl_lo y (of_decide_eq_false h)
def lefts : Nat → BitVec 64 → BitVec 64
  | 0, x => x
  | n + 1, x => dbl (lefts n x)
theorem lefts_rot (n : Nat) (x : BitVec 64) : lefts n x = rot x n := by
  induction n with
  | zero => exact (rot_zero x).symm
  | succ n ih =>
    show dbl (lefts n x) = _
    have e : dbl (lefts n x) = rot (lefts n x) 1 := rfl
    rw [e, ih, rot_rot]; rfl

/-- Four words. -/
structure V4 where
  a : BitVec 64
  b : BitVec 64
  c : BitVec 64
  d : BitVec 64

def V4.round (v : V4) : V4 :=
  let a1 := v.a + v.b
  let b1 := rot v.b 13 ^^^ a1
  let a2 := rot a1 32
  let c1 := v.c + v.d
  let d1 := rot v.d 16 ^^^ c1
  let a3 := a2 + d1
  let d2 := rot d1 21 ^^^ a3
  let c2 := c1 + b1
  let b2 := rot b1 17 ^^^ c2
  let c3 := rot c2 32
  ⟨a3, b2, c3, d2⟩

def rounds : Nat → V4 → V4
  | 0, v => v
  | n + 1, v => (rounds n v).round

def V4.back (v : V4) : V4 :=
  let c1 := rot v.c (-32)
  let b1 := rot (v.b ^^^ c1) (-17)
  let c2 := c1 - b1
  let d1 := rot (v.d ^^^ v.a) (-21)
  let a1 := v.a - d1
  let d2 := rot (d1 ^^^ c2) (-16)
  let c3 := c2 - d2
  let a2 := rot a1 (-32)
  let b2 := rot (b1 ^^^ a2) (-13)
  let a3 := a2 - b2
  ⟨a3, b2, c3, d2⟩

theorem xx (x y : BitVec 64) : (x ^^^ y) ^^^ y = x := by rw [BitVec.xor_assoc, BitVec.xor_self, BitVec.xor_zero]
theorem V4.back_round (v : V4) : v.round.back = v := by
  obtain ⟨a, b, c, d⟩ := v
  simp only [V4.round, V4.back, rot_back, xx, BitVec.add_sub_cancel]

/-- The number that bytes are, the lowest first. -/
def le : List UInt8 → Nat
  | [] => 0
  | b :: r => b.toNat + 256 * le r
theorem le_lt : ∀ l : List UInt8, le l < 256 ^ l.length
  | [] => by simp [le]
  | b :: r => by
    have := le_lt r
    have hb := b.toNat_lt
    simp only [le, List.length_cons, Nat.pow_succ]
    omega
theorem le_snoc (l : List UInt8) (b : UInt8) : le (l ++ [b]) = le l + b.toNat * 256 ^ l.length := by
  induction l with
  | nil => simp [le]
  | cons c r ih =>
    simp only [List.cons_append, le, List.length_cons, ih, Nat.pow_succ, Nat.mul_add]
    have e : 256 * (b.toNat * 256 ^ r.length) = b.toNat * (256 ^ r.length * 256) := by
      rw [Nat.mul_comm 256, Nat.mul_assoc]
    omega
theorem le_append (l m : List UInt8) : le (l ++ m) = le l + le m * 256 ^ l.length := by
  induction l with
  | nil => simp [le]
  | cons c r ih =>
    simp only [List.cons_append, le, List.length_cons, ih, Nat.pow_succ, Nat.mul_add]
    have e : 256 * (le m * 256 ^ r.length) = le m * (256 ^ r.length * 256) := by
      rw [Nat.mul_comm 256, Nat.mul_assoc]
    omega
theorem le_inj : ∀ l m : List UInt8, l.length = m.length → le l = le m → l = m
  | [], [], _, _ => rfl
  | [], _ :: _, h, _ => by simp at h
  | _ :: _, [], h, _ => by simp at h
  | b :: r, c :: t, h, e => by
    simp only [le] at e
    have hb := b.toNat_lt
    have hc := c.toNat_lt
    have e1 : b.toNat = c.toNat := by omega
    have e2 : le r = le t := by omega
    rw [le_inj r t (by simpa using h) e2, UInt8.toNat_inj.1 e1]
theorem le_lt8 (l : List UInt8) (h : l.length ≤ 8) : le l < 18446744073709551616 := by
  have h1 := le_lt l
  have h2 : (256 : Nat) ^ l.length ≤ 256 ^ 8 := Nat.pow_le_pow_right (by omega) h
  have h3 : (256 : Nat) ^ 8 = 18446744073709551616 := by decide
  omega
theorem le_lt7 (l : List UInt8) (h : l.length ≤ 7) : le l < 72057594037927936 := by
  have h1 := le_lt l
  have h2 : (256 : Nat) ^ l.length ≤ 256 ^ 7 := Nat.pow_le_pow_right (by omega) h
  have h3 : (256 : Nat) ^ 7 = 72057594037927936 := by decide
  omega

/-- A text's bytes. -/
def bl (s : ByteArray) : List UInt8 := s.data.toList
theorem bl_length (s : ByteArray) : (bl s).length = s.size := by simp [bl]
/-- A text of these bytes. -/
def ofB (l : List UInt8) : ByteArray := ⟨l.toArray⟩
theorem bl_ofB (l : List UInt8) : bl (ofB l) = l := rfl
theorem ofB_bl (s : ByteArray) : ofB (bl s) = s := by
  obtain ⟨⟨l⟩⟩ := s
  rfl
theorem ofB_size (l : List UInt8) : (ofB l).size = l.length := by simp [ofB, ByteArray.size]
/-- Bytes as a word. -/
def word (l : List UInt8) : BitVec 64 := BitVec.ofNat 64 (le l)
theorem un_word (l : List UInt8) (h : l.length ≤ 8) : un (word l) = (le l : Int) := un_lit _ (le_lt8 l h)

theorem un_word_nil : un (word []) = 0 := by rw [un_word [] (by simp)]; rfl
theorem take_snoc (s : ByteArray) (k : Nat) (h : k < s.size) : (bl s).take (k + 1) = (bl s).take k ++ [s[k]] := by
  unfold bl
  rw [List.take_succ_eq_append_getElem (by simpa using h)]; rfl

/-- One step of join: the k-th byte is laid ahead of those that are there. -/
theorem join_step (l : List UInt8) (b : UInt8) (k : Nat) (hk : l.length = k) (h : k < 8) :
    bits .or .u64 (un (word l)) (IntKind.u64.wrap ((b.toNat : Int) * 2 ^ (8 * k))) = un (word (l ++ [b])) := by
  have hb := b.toNat_lt
  have e256 : (2 : Nat) ^ (8 * k) = 256 ^ k := by rw [Nat.pow_mul]
  have hp : 256 ^ k * 256 ≤ 18446744073709551616 := by
    have h2 : (256 : Nat) ^ (k + 1) ≤ 256 ^ 8 := Nat.pow_le_pow_right (by omega) h
    have h3 : (256 : Nat) ^ 8 = 18446744073709551616 := by decide
    rw [Nat.pow_succ] at h2; omega
  have hm : b.toNat * 256 ^ k < 18446744073709551616 := by
    have : b.toNat * 256 ^ k ≤ 255 * 256 ^ k := Nat.mul_le_mul_right _ (by omega)
    have h0 : 0 < 256 ^ k := Nat.pow_pos (by omega)
    omega
  have e1 : IntKind.u64.wrap ((b.toNat : Int) * 2 ^ (8 * k)) = ((b.toNat * 256 ^ k : Nat) : Int) := by
    rw [IntKind.wrap_u64, ← e256]
    have : ((b.toNat : Int) * 2 ^ (8 * k)) = ((b.toNat * 2 ^ (8 * k) : Nat) : Int) := by simp
    rw [this]; rw [← e256] at hm; omega
  have hl := le_lt l
  rw [hk] at hl
  rw [e1, un_word l (by omega), un_word _ (by simp; omega), u64_or_nat _ _ (le_lt8 l (by omega)) hm, le_snoc, hk, Nat.or_comm,
    nat_join (8 * k) _ _ (by rw [e256]; exact Nat.mul_mod_left _ _) (by rw [e256]; exact hl)]
  omega

theorem join_step' (s : ByteArray) (k : Nat) (hk : k < s.size) (h : k < 8) :
    bits .or .u64 (un (word ((bl s).take k))) (IntKind.u64.wrap (IntKind.u64.wrap (s[k].toNat : Int) * 2 ^ (8 * k))) = un (word ((bl s).take (k + 1))) := by
  have hb := s[k].toNat_lt
  rw [show IntKind.u64.wrap (s[k].toNat : Int) = s[k].toNat by rw [IntKind.wrap_u64]; omega, take_snoc s k hk]
  exact join_step _ _ k (by simp [bl_length]; omega) h

/-- The eight bytes from a place on, but for the first k: what the reference has taken so far. -/
def tail8 (s : ByteArray) (p k : Nat) : BitVec 64 := word ((s.data.toList.drop (p + k)).take (8 - k))
theorem tail8_end (s : ByteArray) (p : Nat) : un (tail8 s p 8) = 0 := by
  unfold tail8; rw [show 8 - 8 = 0 from rfl, List.take_zero, un_word_nil]
theorem tail8_in (s : ByteArray) (p j : Nat) (hj : j < 8) (h : p + j < s.size) :
    IntKind.u64.wrap (IntKind.u64.wrap (256 * un (tail8 s p (j + 1))) + IntKind.u64.wrap (s[p + j].toNat : Int)) = un (tail8 s p j) := by
  have e : (s.data.toList.drop (p + j)).take (8 - j) = s[p + j] :: (s.data.toList.drop (p + (j + 1))).take (8 - (j + 1)) := by
    rw [List.drop_eq_getElem_cons (by simpa using h), show 8 - j = (8 - (j + 1)) + 1 by omega, List.take_succ_cons]; rfl
  have hl : ((s.data.toList.drop (p + (j + 1))).take (8 - (j + 1))).length ≤ 7 := by simp; omega
  have h7 := le_lt7 _ hl
  have hb := s[p + j].toNat_lt
  unfold tail8
  rw [e, un_word ((s.data.toList.drop (p + (j + 1))).take (8 - (j + 1))) (by omega), un_word _ (by rw [List.length_cons]; omega), IntKind.wrap_u64, IntKind.wrap_u64, IntKind.wrap_u64]
  simp only [le]; omega
theorem tail8_out (s : ByteArray) (p j : Nat) (h : ¬ p + j < s.size) :
    IntKind.u64.wrap (256 * un (tail8 s p (j + 1))) = un (tail8 s p j) := by
  have hs : s.data.toList.length = s.size := by simp
  unfold tail8
  rw [List.drop_of_length_le (by omega), List.drop_of_length_le (by omega), List.take_nil, List.take_nil, un_word_nil, IntKind.wrap_u64]
  rfl

/-- The last word of a text: the bytes that are left, and how many there are in all. -/
def lastWord (l : List UInt8) (n : Nat) : BitVec 64 := BitVec.ofNat 64 (le l + n % 256 * 72057594037927936)
theorem un_lastWord (l : List UInt8) (n : Nat) (h : l.length ≤ 7) : un (lastWord l n) = (le l + n % 256 * 72057594037927936 : Nat) :=
  un_lit _ (by have := le_lt7 l h; omega)
theorem last_or (l : List UInt8) (n : Nat) (h : l.length ≤ 7) :
    bits .or .u64 (un (word l)) (IntKind.u64.wrap ((n : Int) * 72057594037927936)) = un (lastWord l n) := by
  have h7 := le_lt7 l h
  have e1 : IntKind.u64.wrap ((n : Int) * 72057594037927936) = ((n % 256 * 72057594037927936 : Nat) : Int) := by
    rw [IntKind.wrap_u64]; omega
  rw [e1, un_word l (by omega), un_lastWord l n h, u64_or_nat _ _ (by omega) (by omega), Nat.or_comm, nat_join 56 _ _ (by simp) (by omega)]
  omega
theorem last_add (l : List UInt8) (n : Nat) (h : l.length ≤ 7) :
    IntKind.u64.wrap (un (word l) + IntKind.u64.wrap (((n % 256 : Nat) : Int) * 72057594037927936)) = un (lastWord l n) := by
  have h7 := le_lt7 l h
  rw [IntKind.wrap_u64, IntKind.wrap_u64, un_word l (by omega), un_lastWord l n h]
  omega

/-- The i-th word of a text. -/
def wordAt (s : List UInt8) (i : Nat) : BitVec 64 :=
  if 8 * i + 8 ≤ s.length then word ((s.drop (8 * i)).take 8) else lastWord (s.drop (8 * i)) s.length
theorem ext_drop (s : ByteArray) (i : Nat) : (s.extract (i * 8) s.size).data.toList = s.data.toList.drop (8 * i) := by
  simp only [ByteArray.data_extract, Array.toList_extract, List.extract_eq_take_drop]
  rw [Nat.mul_comm, List.take_of_length_le (by simp)]
theorem ext_first (s : ByteArray) : (s.extract 0 8).data.toList = s.data.toList.take 8 := by
  simp only [ByteArray.data_extract, Array.toList_extract, List.extract_eq_take_drop, List.drop_zero, Nat.sub_zero]
theorem wordAt_in (s : ByteArray) (i : Nat) (h : 8 * i + 8 ≤ s.size) : word (bl ((s.extract (i * 8) s.size).extract 0 8)) = wordAt (bl s) i := by
  have hs := bl_length s
  unfold wordAt
  rw [if_pos (by omega)]
  unfold bl
  rw [ext_first, ext_drop]
theorem wordAt_last (s : ByteArray) (i : Nat) (h : ¬ 8 * i + 8 ≤ s.size) (h' : 8 * i ≤ s.size) :
    bits .or .u64 (un (word (bl (s.extract (i * 8) s.size)))) (IntKind.u64.wrap ((s.size : Int) * 72057594037927936)) = un (wordAt (bl s) i) := by
  have hs := bl_length s
  unfold wordAt
  rw [if_neg (by omega), hs]
  unfold bl at hs ⊢
  rw [ext_drop, last_or _ _ (by rw [List.length_drop]; omega)]
def words (s : List UInt8) : List (BitVec 64) := (List.range (s.length / 8 + 1)).map (wordAt s)
theorem words_length (s : List UInt8) : (words s).length = s.length / 8 + 1 := by simp [words]
theorem words_get (s : List UInt8) (i : Nat) (h : i < s.length / 8 + 1) : (words s)[i]? = some (wordAt s i) := by
  simp [words, h]

theorem lastWord_inj {l m : List UInt8} {a b : Nat} (hl : l.length ≤ 7) (hm : m.length ≤ 7) (ha : a ≤ 255) (hb : b ≤ 255) (h : lastWord l a = lastWord m b) : le l = le m ∧ a = b := by
  have h1 := un_lastWord l a hl
  have h2 := un_lastWord m b hm
  rw [h, h2] at h1
  have := le_lt7 l hl
  have := le_lt7 m hm
  omega
theorem word_inj {l m : List UInt8} (hl : l.length = 8) (hm : m.length = 8) (h : word l = word m) : l = m := by
  have h1 := un_word l (by omega)
  rw [h, un_word m (by omega)] at h1
  exact le_inj l m (by omega) (by omega)
/-- Unlike texts have unlike words. -/
theorem words_inj {l m : List UInt8} (hl : l.length ≤ 255) (hm : m.length ≤ 255) (h : words l = words m) : l = m := by
  have hn : l.length / 8 = m.length / 8 := by
    have := congrArg List.length h
    rw [words_length, words_length] at this; omega
  have hat : ∀ i, i < l.length / 8 + 1 → wordAt l i = wordAt m i := by
    intro i hi
    have h1 := words_get l i hi
    have h2 := words_get m i (by omega)
    rw [h] at h1
    rw [h2] at h1
    exact (Option.some.inj h1).symm
  have hlast := hat (l.length / 8) (by omega)
  unfold wordAt at hlast
  rw [if_neg (by omega), if_neg (by omega)] at hlast
  obtain ⟨e1, e2⟩ := lastWord_inj (by rw [List.length_drop]; omega) (by rw [List.length_drop]; omega) hl hm hlast
  have e3 := le_inj _ _ (by rw [List.length_drop, List.length_drop]; omega) e1
  have htake : ∀ i, i ≤ l.length / 8 → l.take (8 * i) = m.take (8 * i) := by
    intro i
    induction i with
    | zero => intro _; rfl
    | succ i ih =>
      intro hi
      have h1 := hat i (by omega)
      unfold wordAt at h1
      rw [if_pos (by omega), if_pos (by omega)] at h1
      have h2 := word_inj (by rw [List.length_take, List.length_drop]; omega) (by rw [List.length_take, List.length_drop]; omega) h1
      rw [show 8 * (i + 1) = 8 * i + 8 by omega, List.take_add, List.take_add, ih (by omega), h2]
  have ht := htake (l.length / 8) (by omega)
  rw [← List.take_append_drop (8 * (l.length / 8)) l, ht, e3, List.take_append_drop]

/-- What a word does to the four. -/
def V4.take (v : V4) (w : BitVec 64) : V4 :=
  let u := (V4.mk v.a v.b v.c (v.d ^^^ w)).round.round
  ⟨u.a ^^^ w, u.b, u.c, u.d⟩
def V4.start (k l : BitVec 64) : V4 :=
  ⟨k ^^^ 8317987319222330741#64, l ^^^ 7237128888997146477#64, k ^^^ 7816392313619706465#64, l ^^^ 8387220255154660723#64⟩
def V4.done (v : V4) : BitVec 64 :=
  let u := (V4.mk v.a v.b (v.c ^^^ 255#64) v.d).round.round.round.round
  u.a ^^^ u.b ^^^ u.c ^^^ u.d
/-- The sum of a text under a key of sixteen bytes. -/
def sum (k s : List UInt8) : BitVec 64 := (((words s).foldl V4.take (V4.start (word (k.take 8)) (word (k.drop 8)))).done)

/-- The four behind the first n words. -/
def upto (k s : List UInt8) (n : Nat) : V4 := ((words s).take n).foldl V4.take (V4.start (word (k.take 8)) (word (k.drop 8)))
theorem upto_zero (k s : List UInt8) : upto k s 0 = V4.start (word (k.take 8)) (word (k.drop 8)) := rfl
theorem upto_succ (k s : List UInt8) (n : Nat) (h : n < s.length / 8 + 1) : upto k s (n + 1) = (upto k s n).take (wordAt s n) := by
  unfold upto
  have e : (words s).take (n + 1) = (words s).take n ++ [wordAt s n] := by
    rw [List.take_add_one, words_get s n h]; rfl
  rw [e, List.foldl_append]; rfl
theorem upto_done (k s : List UInt8) (n : Nat) (h : n = s.length / 8 + 1) : (upto k s n).done = sum k s := by
  have e : (words s).take n = words s := List.take_of_length_le (by rw [words_length]; omega)
  unfold upto sum
  rw [e]

theorem rot_neg (x : BitVec 64) (n : Int) : rot x (n + -n) = x := by rw [show n + -n = 0 by omega, rot_zero]

/-- A word's j-th byte, the lowest first. -/
def byteN (x : BitVec 64) (j : Nat) : UInt8 := UInt8.ofNat (x.toNat / 2 ^ (8 * j) % 256)
theorem byteN_nat (x : BitVec 64) (j : Nat) : (byteN x j).toNat = x.toNat / 2 ^ (8 * j) % 256 := by
  unfold byteN; exact UInt8.toNat_ofNat_of_lt' (Nat.mod_lt _ (by decide))
theorem byteN_wrap (x : BitVec 64) (j : Nat) : IntKind.u8.wrap (un x / 2 ^ (8 * j)) = ((byteN x j).toNat : Int) := by
  have e : un x / 2 ^ (8 * j) = ((x.toNat / 2 ^ (8 * j) : Nat) : Int) := by unfold un; simp
  rw [e, IntKind.wrap_u8', byteN_nat, Int.natCast_emod]
  rfl
/-- A word's eight bytes. -/
def bytes8 (x : BitVec 64) : List UInt8 := [byteN x 0, byteN x 1, byteN x 2, byteN x 3, byteN x 4, byteN x 5, byteN x 6, byteN x 7]
theorem word_bytes8 (x : BitVec 64) : word (bytes8 x) = x := by
  apply BitVec.eq_of_toNat_eq
  have hx := x.isLt
  have h := un_word (bytes8 x) (Nat.le_refl 8)
  unfold un at h
  have h2 : (word (bytes8 x)).toNat = le (bytes8 x) := by omega
  rw [h2]
  simp only [bytes8, le, byteN_nat]
  omega
/-- The key of two words, as far as its loop has come. -/
def keyI (a b : BitVec 64) (i : Nat) : List UInt8 := (bytes8 a).take i ++ List.replicate (8 - i) 0 ++ ((bytes8 b).take i ++ List.replicate (8 - i) 0)
theorem keyI_length (a b : BitVec 64) (i : Nat) (h : i ≤ 8) : (keyI a b i).length = 16 := by
  simp [keyI, bytes8]; omega

/-- The bytes 0, 1, 2 .. -/
def asc (n : Nat) : List UInt8 := (List.range n).map UInt8.ofNat
/-- The document's key, as far as its loop has come. -/
def keyU (i : Nat) : List UInt8 := asc i ++ List.replicate (16 - i) 0
theorem asc_length (n : Nat) : (asc n).length = n := by simp [asc]
theorem asc_succ (n : Nat) : asc (n + 1) = asc n ++ [UInt8.ofNat n] := by simp [asc, List.range_succ]

theorem awake : sum [0, 1, 2, 3, 4, 5, 6, 7, 8, 9, 10, 11, 12, 13, 14, 15] [0, 1, 2, 3, 4, 5, 6, 7, 8, 9, 10, 11, 12, 13, 14] = 11613035633349379557#64 := by
  decide +kernel
theorem un_awake : un (sum (keyU 16) (bl (ofB (asc 15)))) = 11613035633349379557 := by
  have e : sum (keyU 16) (bl (ofB (asc 15))) = 11613035633349379557#64 := awake
  rw [e]; exact un_lit 11613035633349379557 (by decide)

end M
end Go.Proofs.YtmfnjjkbfabonaaDoor

/- Plain facts on lists of bits: how they are packed into bytes, what a number's bits are, what bits' number is. No function of the program is named here. No conditions. -/
namespace Go.Proofs.YtmfnjjkbfabonaaDoor.M

def bt (bs : List Bool) (j : Nat) : Nat := (bs.getD j false).toNat
def byteAt (bs : List Bool) (i : Nat) : Nat :=
  128 * bt bs (8 * i + 0) + 64 * bt bs (8 * i + 1) + 32 * bt bs (8 * i + 2) + 16 * bt bs (8 * i + 3) + 8 * bt bs (8 * i + 4) + 4 * bt bs (8 * i + 5) + 2 * bt bs (8 * i + 6) + bt bs (8 * i + 7)
def packN (bs : List Bool) (m : Nat) : List UInt8 := (List.range m).map fun i => UInt8.ofNat (byteAt bs i)
def pack (bs : List Bool) : List UInt8 := packN bs ((bs.length + 7) / 8)

theorem bt_le (bs : List Bool) (j : Nat) : bt bs j ≤ 1 := by unfold bt; cases bs.getD j false <;> decide
theorem bt_out (bs : List Bool) (j : Nat) (h : bs.length ≤ j) : bt bs j = 0 := by
  unfold bt; rw [List.getD_eq_getElem?_getD, List.getElem?_eq_none h]; rfl
theorem bt_app (bs : List Bool) (b : Bool) (j : Nat) (h : j < bs.length) : bt (bs ++ [b]) j = bt bs j := by
  unfold bt; rw [List.getD_eq_getElem?_getD, List.getD_eq_getElem?_getD, List.getElem?_append_left h]
theorem bt_new (bs : List Bool) (b : Bool) : bt (bs ++ [b]) bs.length = b.toNat := by
  unfold bt; rw [List.getD_eq_getElem?_getD, List.getElem?_append_right (Nat.le_refl _)]; simp
theorem byteAt_lt (bs : List Bool) (i : Nat) : byteAt bs i < 256 := by
  have h0 := bt_le bs (8 * i + 0)
  have h1 := bt_le bs (8 * i + 1)
  have h2 := bt_le bs (8 * i + 2)
  have h3 := bt_le bs (8 * i + 3)
  have h4 := bt_le bs (8 * i + 4)
  have h5 := bt_le bs (8 * i + 5)
  have h6 := bt_le bs (8 * i + 6)
  have h7 := bt_le bs (8 * i + 7)
  unfold byteAt; omega
theorem packN_length (bs : List Bool) (m : Nat) : (packN bs m).length = m := by simp [packN]
theorem pack_length (bs : List Bool) : (pack bs).length = (bs.length + 7) / 8 := packN_length _ _
theorem packN_get (bs : List Bool) (m i : Nat) (h : i < m) : (packN bs m)[i]? = some (UInt8.ofNat (byteAt bs i)) := by simp [packN, h]
theorem byteAt_out (bs : List Bool) (i : Nat) (h : bs.length ≤ 8 * i) : byteAt bs i = 0 := by
  unfold byteAt
  rw [bt_out _ _ (by omega), bt_out _ _ (by omega), bt_out _ _ (by omega), bt_out _ _ (by omega), bt_out _ _ (by omega), bt_out _ _ (by omega), bt_out _ _ (by omega), bt_out _ _ (by omega)]
theorem byteAt_app (bs : List Bool) (b : Bool) (i : Nat) (h : 8 * i + 8 ≤ bs.length) : byteAt (bs ++ [b]) i = byteAt bs i := by
  unfold byteAt
  rw [bt_app _ _ _ (by omega), bt_app _ _ _ (by omega), bt_app _ _ _ (by omega), bt_app _ _ _ (by omega), bt_app _ _ _ (by omega), bt_app _ _ _ (by omega), bt_app _ _ _ (by omega), bt_app _ _ _ (by omega)]
theorem pack_open (bs : List Bool) (h : bs.length % 8 = 0) : pack bs ++ [0] = packN bs (bs.length / 8 + 1) := by
  have e : (bs.length + 7) / 8 = bs.length / 8 := by omega
  unfold pack
  rw [e]
  unfold packN
  rw [List.range_succ, List.map_append, List.map_cons, List.map_nil, byteAt_out bs _ (by omega)]
  rfl
theorem pack_mid (bs : List Bool) (h : bs.length % 8 ≠ 0) : pack bs = packN bs (bs.length / 8 + 1) := by
  have e : (bs.length + 7) / 8 = bs.length / 8 + 1 := by omega
  unfold pack
  rw [e]

theorem or8 (r : Nat) (hr : r < 8) (c0 c1 c2 c3 c4 c5 c6 c7 b : Bool)
    (h : ∀ k, r ≤ k → k < 8 → [c0, c1, c2, c3, c4, c5, c6, c7].getD k false = false) :
    128 * ([c0, c1, c2, c3, c4, c5, c6, c7].set r b |>.getD 0 false).toNat + 64 * ([c0, c1, c2, c3, c4, c5, c6, c7].set r b |>.getD 1 false).toNat + 32 * ([c0, c1, c2, c3, c4, c5, c6, c7].set r b |>.getD 2 false).toNat + 16 * ([c0, c1, c2, c3, c4, c5, c6, c7].set r b |>.getD 3 false).toNat
     + 8 * ([c0, c1, c2, c3, c4, c5, c6, c7].set r b |>.getD 4 false).toNat + 4 * ([c0, c1, c2, c3, c4, c5, c6, c7].set r b |>.getD 5 false).toNat + 2 * ([c0, c1, c2, c3, c4, c5, c6, c7].set r b |>.getD 6 false).toNat + ([c0, c1, c2, c3, c4, c5, c6, c7].set r b |>.getD 7 false).toNat
     = (128 * c0.toNat + 64 * c1.toNat + 32 * c2.toNat + 16 * c3.toNat + 8 * c4.toNat + 4 * c5.toNat + 2 * c6.toNat + c7.toNat) ||| (b.toNat <<< (7 - r)) := by
  match r, hr with
  | 0, _ =>
    have g0 := h 0 (by omega) (by omega); have g1 := h 1 (by omega) (by omega); have g2 := h 2 (by omega) (by omega); have g3 := h 3 (by omega) (by omega); have g4 := h 4 (by omega) (by omega); have g5 := h 5 (by omega) (by omega); have g6 := h 6 (by omega) (by omega); have g7 := h 7 (by omega) (by omega)
    clear h; simp at g0 g1 g2 g3 g4 g5 g6 g7; subst g0 g1 g2 g3 g4 g5 g6 g7; revert b; decide
  | 1, _ =>
    have g1 := h 1 (by omega) (by omega); have g2 := h 2 (by omega) (by omega); have g3 := h 3 (by omega) (by omega); have g4 := h 4 (by omega) (by omega); have g5 := h 5 (by omega) (by omega); have g6 := h 6 (by omega) (by omega); have g7 := h 7 (by omega) (by omega)
    clear h; simp at g1 g2 g3 g4 g5 g6 g7; subst g1 g2 g3 g4 g5 g6 g7; revert b c0; decide
  | 2, _ =>
    have g2 := h 2 (by omega) (by omega); have g3 := h 3 (by omega) (by omega); have g4 := h 4 (by omega) (by omega); have g5 := h 5 (by omega) (by omega); have g6 := h 6 (by omega) (by omega); have g7 := h 7 (by omega) (by omega)
    clear h; simp at g2 g3 g4 g5 g6 g7; subst g2 g3 g4 g5 g6 g7; revert b c0 c1; decide
  | 3, _ =>
    have g3 := h 3 (by omega) (by omega); have g4 := h 4 (by omega) (by omega); have g5 := h 5 (by omega) (by omega); have g6 := h 6 (by omega) (by omega); have g7 := h 7 (by omega) (by omega)
    clear h; simp at g3 g4 g5 g6 g7; subst g3 g4 g5 g6 g7; revert b c0 c1 c2; decide
  | 4, _ =>
    have g4 := h 4 (by omega) (by omega); have g5 := h 5 (by omega) (by omega); have g6 := h 6 (by omega) (by omega); have g7 := h 7 (by omega) (by omega)
    clear h; simp at g4 g5 g6 g7; subst g4 g5 g6 g7; revert b c0 c1 c2 c3; decide
  | 5, _ =>
    have g5 := h 5 (by omega) (by omega); have g6 := h 6 (by omega) (by omega); have g7 := h 7 (by omega) (by omega)
    clear h; simp at g5 g6 g7; subst g5 g6 g7; revert b c0 c1 c2 c3 c4; decide
  | 6, _ =>
    have g6 := h 6 (by omega) (by omega); have g7 := h 7 (by omega) (by omega)
    clear h; simp at g6 g7; subst g6 g7; revert b c0 c1 c2 c3 c4 c5; decide
  | 7, _ =>
    have g7 := h 7 (by omega) (by omega)
    clear h; simp at g7; subst g7; revert b c0 c1 c2 c3 c4 c5 c6; decide
  | n + 8, h' => omega
theorem getD_app (bs : List Bool) (b : Bool) (j : Nat) : (bs ++ [b]).getD j false = if j = bs.length then b else bs.getD j false := by
  simp only [List.getD_eq_getElem?_getD]
  by_cases h : j < bs.length
  · rw [List.getElem?_append_left h, if_neg (by omega)]
  · rw [List.getElem?_append_right (by omega)]
    by_cases h2 : j = bs.length
    · subst h2; simp
    · rw [if_neg h2, List.getElem?_eq_none (by simp; omega), List.getElem?_eq_none (by omega)]
theorem byteAt_new (bs : List Bool) (b : Bool) : byteAt (bs ++ [b]) (bs.length / 8) = byteAt bs (bs.length / 8) ||| (b.toNat <<< (7 - bs.length % 8)) := by
  have hr : bs.length % 8 < 8 := Nat.mod_lt _ (by decide)
  have hL := Nat.div_add_mod bs.length 8
  generalize hrr : bs.length % 8 = r at *
  generalize hqq : bs.length / 8 = q at *
  have hout : ∀ k, r ≤ k → k < 8 → [bs.getD (8 * q + 0) false, bs.getD (8 * q + 1) false, bs.getD (8 * q + 2) false, bs.getD (8 * q + 3) false, bs.getD (8 * q + 4) false, bs.getD (8 * q + 5) false, bs.getD (8 * q + 6) false, bs.getD (8 * q + 7) false].getD k false = false := by
    intro k h1 h2
    have e : [bs.getD (8 * q + 0) false, bs.getD (8 * q + 1) false, bs.getD (8 * q + 2) false, bs.getD (8 * q + 3) false, bs.getD (8 * q + 4) false, bs.getD (8 * q + 5) false, bs.getD (8 * q + 6) false, bs.getD (8 * q + 7) false].getD k false = bs.getD (8 * q + k) false := by
      match k, h2 with
      | 0, _ => rfl
      | 1, _ => rfl
      | 2, _ => rfl
      | 3, _ => rfl
      | 4, _ => rfl
      | 5, _ => rfl
      | 6, _ => rfl
      | 7, _ => rfl
      | n + 8, h' => omega
    rw [e, List.getD_eq_getElem?_getD, List.getElem?_eq_none (by omega)]
    rfl
  have := or8 r hr _ _ _ _ _ _ _ _ b hout
  unfold byteAt bt
  rw [← this]
  simp only [getD_app, ← hL]
  match r, hr with
  | 0, _ => simp
  | 1, _ => simp
  | 2, _ => simp
  | 3, _ => simp
  | 4, _ => simp
  | 5, _ => simp
  | 6, _ => simp
  | 7, _ => simp
  | n + 8, h' => omega
theorem pack_lay (bs : List Bool) (b : Bool) :
    (packN bs (bs.length / 8 + 1)).set (bs.length / 8) (UInt8.ofNat (byteAt bs (bs.length / 8) ||| (b.toNat <<< (7 - bs.length % 8)))) = pack (bs ++ [b]) := by
  have hL := Nat.div_add_mod bs.length 8
  have hr : bs.length % 8 < 8 := Nat.mod_lt _ (by decide)
  have e : ((bs ++ [b]).length + 7) / 8 = bs.length / 8 + 1 := by simp; omega
  unfold pack
  rw [e]
  apply List.ext_getElem?
  intro i
  rw [List.getElem?_set, packN_length]
  by_cases h1 : i < bs.length / 8 + 1
  · rw [packN_get _ _ _ h1, packN_get _ _ _ h1]
    by_cases h2 : bs.length / 8 = i
    · subst h2
      rw [if_pos rfl, if_pos (by omega), byteAt_new]
    · rw [if_neg h2, byteAt_app _ _ _ (by omega)]
  · rw [if_neg (by omega), List.getElem?_eq_none (by rw [packN_length]; omega), List.getElem?_eq_none (by rw [packN_length]; omega)]

/-- A number's n bits, the highest first. -/
def bitsOf (x n : Nat) : List Bool := (List.range n).map fun i => x.testBit (n - 1 - i)
def numOf (l : List Bool) : Nat := l.foldl (fun x b => 2 * x + b.toNat) 0
theorem bitsOf_length (x n : Nat) : (bitsOf x n).length = n := by simp [bitsOf]
theorem bitsOf_take (x n k : Nat) (h : k < n) : (bitsOf x n).take (k + 1) = (bitsOf x n).take k ++ [x.testBit (n - 1 - k)] := by
  rw [List.take_succ_eq_append_getElem (by rw [bitsOf_length]; exact h)]
  simp [bitsOf]
theorem numOf_app (l : List Bool) (b : Bool) : numOf (l ++ [b]) = 2 * numOf l + b.toNat := by simp [numOf]
theorem bitsOf_succ (x n : Nat) : bitsOf x (n + 1) = bitsOf (x / 2) n ++ [x.testBit 0] := by
  unfold bitsOf
  rw [List.range_succ, List.map_append]
  congr 1
  · apply List.map_congr_left
    intro i hi
    have : i < n := by simpa using hi
    rw [show n + 1 - 1 - i = (n - 1 - i) + 1 by omega, Nat.testBit_succ]
  · simp
theorem numOf_bitsOf (n : Nat) : ∀ x, x < 2 ^ n → numOf (bitsOf x n) = x := by
  induction n with
  | zero => intro x h; have : x = 0 := by simpa using h
            subst this; rfl
  | succ n ih =>
    intro x h
    rw [bitsOf_succ, numOf_app, ih (x / 2) (by rw [Nat.pow_succ] at h; omega), Nat.testBit_zero]
    have := Nat.div_add_mod x 2
    rcases Nat.mod_two_eq_zero_or_one x with h2 | h2 <;> simp [h2] <;> omega
theorem numOf_lt' (n : Nat) : ∀ l : List Bool, l.length = n → numOf l < 2 ^ n := by
  induction n with
  | zero => intro l h; rw [List.eq_nil_of_length_eq_zero h]; decide
  | succ n ih =>
    intro l h
    rcases List.eq_nil_or_concat l with rfl | ⟨l', b, rfl⟩
    · simp at h
    · have := ih l' (by simpa using h)
      rw [List.concat_eq_append, numOf_app, Nat.pow_succ]
      have : b.toNat ≤ 1 := by cases b <;> decide
      omega
theorem numOf_lt (l : List Bool) : numOf l < 2 ^ l.length := numOf_lt' _ l rfl

/-- A text's bits. -/
def sb (s : List UInt8) (j : Nat) : Bool := (s.getD (j / 8) 0).toNat.testBit (7 - j % 8)
def readB (s : List UInt8) (a n : Nat) : List Bool := (List.range n).map fun i => sb s (a + i)
theorem readB_length (s : List UInt8) (a n : Nat) : (readB s a n).length = n := by simp [readB]
theorem readB_succ (s : List UInt8) (a n : Nat) : readB s a (n + 1) = readB s a n ++ [sb s (a + n)] := by
  unfold readB; rw [List.range_succ, List.map_append]; rfl
theorem readB_add (s : List UInt8) (a m n : Nat) : readB s a (m + n) = readB s a m ++ readB s (a + m) n := by
  induction n with
  | zero => simp [readB]
  | succ n ih => rw [← Nat.add_assoc, readB_succ, ih, readB_succ, List.append_assoc, Nat.add_assoc]
theorem byte_bit (k : Nat) (hk : k < 8) (c0 c1 c2 c3 c4 c5 c6 c7 : Bool) :
    (128 * c0.toNat + 64 * c1.toNat + 32 * c2.toNat + 16 * c3.toNat + 8 * c4.toNat + 4 * c5.toNat + 2 * c6.toNat + c7.toNat).testBit (7 - k) = [c0, c1, c2, c3, c4, c5, c6, c7].getD k false := by
  match k, hk with
  | 0, _ => revert c0 c1 c2 c3 c4 c5 c6 c7; decide
  | 1, _ => revert c0 c1 c2 c3 c4 c5 c6 c7; decide
  | 2, _ => revert c0 c1 c2 c3 c4 c5 c6 c7; decide
  | 3, _ => revert c0 c1 c2 c3 c4 c5 c6 c7; decide
  | 4, _ => revert c0 c1 c2 c3 c4 c5 c6 c7; decide
  | 5, _ => revert c0 c1 c2 c3 c4 c5 c6 c7; decide
  | 6, _ => revert c0 c1 c2 c3 c4 c5 c6 c7; decide
  | 7, _ => revert c0 c1 c2 c3 c4 c5 c6 c7; decide
  | n + 8, h' => omega
theorem byteAt_bit (bs : List Bool) (i k : Nat) (hk : k < 8) : (byteAt bs i).testBit (7 - k) = bs.getD (8 * i + k) false := by
  unfold byteAt bt
  rw [byte_bit k hk]
  match k, hk with
  | 0, _ => rfl
  | 1, _ => rfl
  | 2, _ => rfl
  | 3, _ => rfl
  | 4, _ => rfl
  | 5, _ => rfl
  | 6, _ => rfl
  | 7, _ => rfl
  | n + 8, h' => omega
theorem sb_pack (bs : List Bool) (j : Nat) : sb (pack bs) j = bs.getD j false := by
  have hj := Nat.div_add_mod j 8
  have hr : j % 8 < 8 := Nat.mod_lt _ (by decide)
  unfold sb
  by_cases h : j / 8 < (bs.length + 7) / 8
  · unfold pack
    rw [List.getD_eq_getElem?_getD, packN_get _ _ _ h]
    show (UInt8.ofNat (byteAt bs (j / 8))).toNat.testBit _ = _
    rw [UInt8.toNat_ofNat_of_lt' (byteAt_lt _ _), byteAt_bit _ _ _ hr, hj]
  · rw [List.getD_eq_getElem?_getD, List.getElem?_eq_none (by rw [pack_length]; omega), List.getD_eq_getElem?_getD, List.getElem?_eq_none (by omega)]
    simp
theorem readB_pack (bs l cs : List Bool) (a : Nat) (hl : a = bs.length) : readB (pack (bs ++ l ++ cs)) a l.length = l := by
  subst hl
  apply List.ext_getElem (by rw [readB_length])
  intro i h1 h2
  simp only [readB, List.getElem_map, List.getElem_range, sb_pack]
  rw [List.getD_eq_getElem?_getD, List.append_assoc, List.getElem?_append_right (by omega), List.getElem?_append_left (by omega), show bs.length + i - bs.length = i by omega, List.getElem?_eq_getElem h2]
  rfl
theorem readB_byte (l : List UInt8) (j : Nat) : readB l (8 * j) 8 = bitsOf (l.getD j 0).toNat 8 := by
  unfold readB bitsOf
  apply List.map_congr_left
  intro i hi
  have : i < 8 := by simpa using hi
  unfold sb
  rw [show (8 * j + i) / 8 = j by omega, show (8 * j + i) % 8 = i by omega]
theorem readB_bytes (l : List UInt8) (j : Nat) : readB l 0 (8 * (j + 1)) = readB l 0 (8 * j) ++ bitsOf (l.getD j 0).toNat 8 := by
  rw [show 8 * (j + 1) = 8 * j + 8 by omega, readB_add, Nat.zero_add, readB_byte]
end Go.Proofs.YtmfnjjkbfabonaaDoor.M

/- int's and, or, xor, shifts on natural numbers, as the model has them. No function of the program is named here. No conditions. -/
namespace Go.Proofs.YtmfnjjkbfabonaaDoor
open Go.RowKit
open M
theorem ofInt_i64 (a : Nat) (ha : a < 9223372036854775808) : (BitVec.ofInt 64 (a : Int)).toNat = a := ofInt_u64 a (by omega)
theorem i64_and_nat (a b : Nat) (ha : a < 9223372036854775808) (hb : b < 9223372036854775808) : bits .and .i64 (a : Int) (b : Int) = ((a &&& b : Nat) : Int) := by
  have hx : a &&& b < 2 ^ 63 := Nat.and_lt_two_pow _ (by omega)
  show IntKind.i64.wrap ((BitVec.ofInt 64 (a : Int) &&& BitVec.ofInt 64 (b : Int)).toNat : Int) = _
  rw [BitVec.toNat_and, ofInt_i64 a ha, ofInt_i64 b hb, IntKind.wrap_i64]
  omega
theorem i64_or_nat (a b : Nat) (ha : a < 9223372036854775808) (hb : b < 9223372036854775808) : bits .or .i64 (a : Int) (b : Int) = ((a ||| b : Nat) : Int) := by
  have hx : a ||| b < 2 ^ 63 := Nat.or_lt_two_pow (by omega) (by omega)
  show IntKind.i64.wrap ((BitVec.ofInt 64 (a : Int) ||| BitVec.ofInt 64 (b : Int)).toNat : Int) = _
  rw [BitVec.toNat_or, ofInt_i64 a ha, ofInt_i64 b hb, IntKind.wrap_i64]
  omega
theorem i64_xor_nat (a b : Nat) (ha : a < 9223372036854775808) (hb : b < 9223372036854775808) : bits .xor .i64 (a : Int) (b : Int) = ((a ^^^ b : Nat) : Int) := by
  have hx : a ^^^ b < 2 ^ 63 := Nat.xor_lt_two_pow (by omega) (by omega)
  show IntKind.i64.wrap ((BitVec.ofInt 64 (a : Int) ^^^ BitVec.ofInt 64 (b : Int)).toNat : Int) = _
  rw [BitVec.toNat_xor, ofInt_i64 a ha, ofInt_i64 b hb, IntKind.wrap_i64]
  omega
theorem div_pow (c k : Nat) : (c : Int) / 2 ^ k = ((c / 2 ^ k : Nat) : Int) := by
  rw [Int.natCast_ediv, Int.natCast_pow]; rfl
theorem bit_walk (c k : Nat) (hc : c < 9223372036854775808) : bits .and .i64 ((c : Int) / 2 ^ k) 1 = ((c.testBit k).toNat : Int) := by
  have h2 : c / 2 ^ k ≤ c := Nat.div_le_self _ _
  rw [div_pow, show (1 : Int) = ((1 : Nat) : Int) from rfl, i64_and_nat _ _ (by omega) (by decide), Nat.and_one_is_mod, Nat.testBit_eq_decide_div_mod_eq]
  rcases Nat.mod_two_eq_zero_or_one (c / 2 ^ k) with h | h <;> simp [h]
theorem byte_walk (c k : Nat) (hc : c < 256) (hk : k ≤ 7) : bits .and .i64 (wrap64 (c : Int) / 2 ^ min k 64) 1 = ((c.testBit k).toNat : Int) := by
  rw [IntWalk.wrap64_in _ (by omega), Nat.min_eq_left (by omega), bit_walk c k (by omega)]
theorem or_bit (x : Nat) (b : Bool) : (2 * x) ||| b.toNat = 2 * x + b.toNat := by
  cases b
  · simp
  · show 2 * x ||| 1 = 2 * x + 1
    have := Nat.shiftLeft_add_eq_or_of_lt (i := 1) (b := 1) (by decide) x
    rw [Nat.shiftLeft_eq] at this
    rw [show 2 * x = x * 2 ^ 1 by omega]
    exact this.symm
theorem join_walk (x : Nat) (b : Bool) (hx : x < 4611686018427387904) : bits .or .i64 ((x : Int) * 2) ((b.toNat : Nat) : Int) = ((2 * x + b.toNat : Nat) : Int) := by
  have : b.toNat ≤ 1 := by cases b <;> decide
  rw [show (x : Int) * 2 = ((2 * x : Nat) : Int) by omega, i64_or_nat _ _ (by omega) (by omega), or_bit]
end Go.Proofs.YtmfnjjkbfabonaaDoor
