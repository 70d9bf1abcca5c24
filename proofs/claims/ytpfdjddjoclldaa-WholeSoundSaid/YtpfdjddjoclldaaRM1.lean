/-
  Contracts and plain facts that the laws share; each piece is headed by what it holds and its conditions.
-/
import Derived.Laws.BitsAllLaws
import Derived.Laws.Bits64

/- Plain facts on words of 64 bits, on bytes laid the lowest first, and on the rounds of layer 1: no program is named here. No conditions. -/
namespace Go.Proofs.Ytpfdjddjoclldaa
namespace M

/-- A word as the model's number. -/
def un (x : BitVec 64) : Int := (x.toNat : Int)

theorem un_bd (x : BitVec 64) : 0 ≤ un x ∧ un x < 18446744073709551616 := by
  have := x.isLt
  unfold un
  omega
theorem un_nonneg (x : BitVec 64) : 0 ≤ un x := (un_bd x).1
theorem un_inj {x y : BitVec 64} : un x = un y ↔ x = y :=
  ⟨fun h => BitVec.eq_of_toNat_eq (by unfold un at h; omega), fun h => by rw [h]⟩
theorem un_beq (x y : BitVec 64) : (un x == un y) = (x == y) := by
  rw [Bool.eq_iff_iff]; simp [un_inj]
theorem un_bne (x y : BitVec 64) : (un x != un y) = (x != y) := by
  simp only [bne, un_beq]
theorem un_add (x y : BitVec 64) : IntKind.u64.wrap (un x + un y) = un (x + y) := by
  rw [IntKind.wrap_u64]; unfold un; rw [BitVec.toNat_add]; omega
theorem un_sub (x y : BitVec 64) : IntKind.u64.wrap (un x - un y) = un (x - y) := by
  rw [IntKind.wrap_u64]; unfold un; rw [BitVec.toNat_sub]; have := x.isLt; have := y.isLt; omega
theorem un_xor (x y : BitVec 64) : bits .xor .u64 (un x) (un y) = un (x ^^^ y) := by
  unfold un; rw [u64_xor_nat _ _ x.isLt y.isLt, BitVec.toNat_xor]
theorem un_or (x y : BitVec 64) : bits .or .u64 (un x) (un y) = un (x ||| y) := by
  unfold un; rw [u64_or_nat _ _ x.isLt y.isLt, BitVec.toNat_or]
/-- Any number that is within its kind is a word. -/
theorem un_of (n : Int) (h0 : 0 ≤ n) (h1 : n < 18446744073709551616) : n = un (BitVec.ofNat 64 n.toNat) := by
  unfold un; rw [BitVec.toNat_ofNat]; omega
theorem un_lit (n : Nat) (h : n < 18446744073709551616) : un (BitVec.ofNat 64 n) = (n : Int) := by
  unfold un; rw [BitVec.toNat_ofNat]; omega

theorem un_xor_255 (x : BitVec 64) : bits .xor .u64 (un x) 255 = un (x ^^^ 255#64) := un_xor x 255#64

/-- A word turned left. -/
def rot (x : BitVec 64) (n : Int) : BitVec 64 := x.rotateLeft (n % 64).toNat

theorem rl_rl (x : BitVec 64) (a b : Nat) (ha : a < 64) (hb : b < 64) : (x.rotateLeft a).rotateLeft b = x.rotateLeft ((a + b) % 64) := by
  apply BitVec.eq_of_getLsbD_eq
  intro i hi
  simp only [BitVec.getLsbD_rotateLeft, Nat.mod_eq_of_lt ha, Nat.mod_eq_of_lt hb, Nat.mod_mod]
  by_cases h1 : i < b <;> by_cases h2 : a + b < 64
  · rw [Nat.mod_eq_of_lt h2]
    simp only [h1, show i < a + b by omega, decide_true, cond_true, show ¬ 64 - b + i < a by omega, decide_false, cond_false, show 64 - b + i < 64 by omega, Bool.true_and]
    congr 1; omega
  · rw [show (a + b) % 64 = a + b - 64 by omega]
    by_cases h3 : i < a + b - 64
    · simp only [h1, h3, decide_true, cond_true, show 64 - b + i < a by omega]
      congr 1; omega
    · simp only [h1, h3, decide_true, cond_true, decide_false, cond_false, show ¬ 64 - b + i < a by omega, show 64 - b + i < 64 by omega, hi, Bool.true_and]
      congr 1; omega
  · rw [Nat.mod_eq_of_lt h2]
    by_cases h3 : i < a + b
    · simp only [h1, h3, hi, decide_true, decide_false, cond_true, cond_false, show i - b < a by omega, Bool.true_and]
      congr 1; omega
    · simp only [h1, h3, hi, decide_true, decide_false, cond_false, show ¬ i - b < a by omega, show i - b < 64 by omega, Bool.true_and]
      congr 1; omega
  · rw [show (a + b) % 64 = a + b - 64 by omega]
    simp only [h1, hi, decide_true, decide_false, cond_true, cond_false, show i - b < a by omega, show ¬ i < a + b - 64 by omega, Bool.true_and]
    congr 1; omega

theorem rot_rot (x : BitVec 64) (n m : Int) : rot (rot x n) m = rot x (n + m) := by
  unfold rot
  rw [rl_rl _ _ _ (by omega) (by omega)]
  congr 1; omega
theorem rot_period (x : BitVec 64) (n : Int) : rot x (n + 64) = rot x n := by
  unfold rot; congr 1; omega
theorem rot_zero (x : BitVec 64) : rot x 0 = x := by
  unfold rot
  apply BitVec.eq_of_getLsbD_eq
  intro i hi
  simp [hi]
theorem rot_back (x : BitVec 64) (n : Int) : rot (rot x n) (-n) = x := by
  rw [rot_rot, show n + -n = 0 by omega, rot_zero]
theorem rot_back' (x : BitVec 64) (n : Int) : rot (rot x (-n)) n = x := by
  rw [rot_rot, show -n + n = 0 by omega, rot_zero]

/-- What RotateLeft64 reckons: two shifts and an or. -/
theorem rot_shifts (x : BitVec 64) (k : Nat) (hk : k < 64) : bits .or .u64 (IntKind.u64.wrap (un x * 2 ^ k)) (un x / 2 ^ (64 - k)) = un (x.rotateLeft k) := by
  have hx := x.isLt
  have e1 : IntKind.u64.wrap (un x * 2 ^ k) = ((x.toNat * 2 ^ k % 18446744073709551616 : Nat) : Int) := by
    rw [IntKind.wrap_u64]; unfold un
    have : ((x.toNat : Int) * 2 ^ k) = ((x.toNat * 2 ^ k : Nat) : Int) := by simp
    rw [this]; omega
  have e2 : un x / 2 ^ (64 - k) = ((x.toNat / 2 ^ (64 - k) : Nat) : Int) := by unfold un; simp
  rw [e1, e2, u64_or_nat _ _ (Nat.mod_lt _ (by omega)) (Nat.lt_of_le_of_lt (Nat.div_le_self _ _) hx)]
  unfold un
  rw [BitVec.toNat_rotateLeft, Nat.mod_eq_of_lt hk, Nat.shiftLeft_eq, Nat.shiftRight_eq_div_pow]

/-- One step of the reference's turn. -/
def dbl (x : BitVec 64) : BitVec 64 := x.rotateLeft 1
theorem dbl_nat (x : BitVec 64) : un (dbl x) = (2 * un x) % 18446744073709551616 + (if 9223372036854775808 ≤ un x then 1 else 0) := by
  have hx := x.isLt
  unfold dbl un
  rw [BitVec.toNat_rotateLeft, show 1 % 64 = 1 from rfl, Nat.shiftLeft_eq, Nat.shiftRight_eq_div_pow, show 64 - 1 = 63 from rfl]
  rw [nat_join 1 _ _ (by omega) (by omega)]
  split <;> omega
theorem dbl_hi (y : BitVec 64) (h : 9223372036854775808 ≤ un y) : IntKind.u64.wrap (IntKind.u64.wrap (2 * un y) + 1) = un (dbl y) := by
  have := un_bd y
  rw [dbl_nat, if_pos h, IntKind.wrap_u64, IntKind.wrap_u64]; omega
theorem dbl_lo (y : BitVec 64) (h : ¬ 9223372036854775808 ≤ un y) : IntKind.u64.wrap (2 * un y) = un (dbl y) := by
  rw [dbl_nat, if_neg h, IntKind.wrap_u64]; omega
/-- Is the highest bit set? -/
def top (y : BitVec 64) : Bool := decide (9223372036854775808 ≤ un y)
theorem top_def (y : BitVec 64) : decide (9223372036854775808 ≤ un y) = top y := rfl
theorem dbl_top (y : BitVec 64) (h : top y = true) : IntKind.u64.wrap (IntKind.u64.wrap (2 * un y) + 1) = un (dbl y) := dbl_hi y (of_decide_eq_true h)
theorem dbl_not (y : BitVec 64) (h : top y = false) : IntKind.u64.wrap (2 * un y) = un (dbl y) := dbl_lo y (of_decide_eq_false h)
def lefts : Nat → BitVec 64 → BitVec 64
  | 0, x => x
  | n + 1, x => dbl (lefts n x)
theorem lefts_rot (n : Nat) (x : BitVec 64) : lefts n x = rot x n := by
  induction n with
  | zero => exact (rot_zero x).symm
  | succ n ih =>
    show dbl (lefts n x) = _
    have e : dbl (lefts n x) = rot (lefts n x) 1 := rfl
    rw [e, ih, rot_rot]; rfl

/-- Four words. -/
structure V4 where
  a : BitVec 64
  b : BitVec 64
  c : BitVec 64
  d : BitVec 64

def V4.round (v : V4) : V4 :=
  let a1 := v.a + v.b
  let b1 := rot v.b 13 ^^^ a1
  let a2 := rot a1 32
  let c1 := v.c + v.d
  let d1 := rot v.d 16 ^^^ c1
  let a3 := a2 + d1
  let d2 := rot d1 21 ^^^ a3
  let c2 := c1 + b1
  let b2 := rot b1 17 ^^^ c2
  let c3 := rot c2 32
  ⟨a3, b2, c3, d2⟩

def rounds : Nat → V4 → V4
  | 0, v => v
  | n + 1, v => (rounds n v).round

def V4.back (v : V4) : V4 :=
  let c1 := rot v.c (-32)
  let b1 := rot (v.b ^^^ c1) (-17)
  let c2 := c1 - b1
  let d1 := rot (v.d ^^^ v.a) (-21)
  let a1 := v.a - d1
  let d2 := rot (d1 ^^^ c2) (-16)
  let c3 := c2 - d2
  let a2 := rot a1 (-32)
  let b2 := rot (b1 ^^^ a2) (-13)
  let a3 := a2 - b2
  ⟨a3, b2, c3, d2⟩

theorem xx (x y : BitVec 64) : (x ^^^ y) ^^^ y = x := by rw [BitVec.xor_assoc, BitVec.xor_self, BitVec.xor_zero]
theorem V4.back_round (v : V4) : v.round.back = v := by
  obtain ⟨a, b, c, d⟩ := v
  simp only [V4.round, V4.back, rot_back, xx, BitVec.add_sub_cancel]

/-- The number that bytes are, the lowest first. -/
def le : List UInt8 → Nat
  | [] => 0
  | b :: r => b.toNat + 256 * le r
theorem le_lt : ∀ l : List UInt8, le l < 256 ^ l.length
  | [] => by simp [le]
  | b :: r => by
    have := le_lt r
    have hb := b.toNat_lt
    simp only [le, List.length_cons, Nat.pow_succ]
    omega
theorem le_snoc (l : List UInt8) (b : UInt8) : le (l ++ [b]) = le l + b.toNat * 256 ^ l.length := by
  induction l with
  | nil => simp [le]
  | cons c r ih =>
    simp only [List.cons_append, le, List.length_cons, ih, Nat.pow_succ, Nat.mul_add]
    have e : 256 * (b.toNat * 256 ^ r.length) = b.toNat * (256 ^ r.length * 256) := by
      rw [Nat.mul_comm 256, Nat.mul_assoc]
    omega
theorem le_append (l m : List UInt8) : le (l ++ m) = le l + le m * 256 ^ l.length := by
  induction l with
  | nil => simp [le]
  | cons c r ih =>
    simp only [List.cons_append, le, List.length_cons, ih, Nat.pow_succ, Nat.mul_add]
    have e : 256 * (le m * 256 ^ r.length) = le m * (256 ^ r.length * 256) := by
      rw [Nat.mul_comm 256, Nat.mul_assoc]
    omega
theorem le_inj : ∀ l m : List UInt8, l.length = m.length → le l = le m → l = m
  | [], [], _, _ => rfl
  | [], _ :: _, h, _ => by simp at h
  | _ :: _, [], h, _ => by simp at h
  | b :: r, c :: t, h, e => by
    simp only [le] at e
    have hb := b.toNat_lt
    have hc := c.toNat_lt
    have e1 : b.toNat = c.toNat := by omega
    have e2 : le r = le t := by omega
    rw [le_inj r t (by simpa using h) e2, UInt8.toNat_inj.1 e1]
theorem le_lt8 (l : List UInt8) (h : l.length ≤ 8) : le l < 18446744073709551616 := by
  have h1 := le_lt l
  have h2 : (256 : Nat) ^ l.length ≤ 256 ^ 8 := Nat.pow_le_pow_right (by omega) h
  have h3 : (256 : Nat) ^ 8 = 18446744073709551616 := by decide
  omega
theorem le_lt7 (l : List UInt8) (h : l.length ≤ 7) : le l < 72057594037927936 := by
  have h1 := le_lt l
  have h2 : (256 : Nat) ^ l.length ≤ 256 ^ 7 := Nat.pow_le_pow_right (by omega) h
  have h3 : (256 : Nat) ^ 7 = 72057594037927936 := by decide
  omega

/-- A text's bytes. -/
def bl (s : ByteArray) : List UInt8 := s.data.toList
theorem bl_length (s : ByteArray) : (bl s).length = s.size := by simp [bl]
/-- A text of these bytes. -/
def ofB (l : List UInt8) : ByteArray := ⟨l.toArray⟩
theorem bl_ofB (l : List UInt8) : bl (ofB l) = l := rfl
theorem ofB_bl (s : ByteArray) : ofB (bl s) = s := by
  obtain ⟨⟨l⟩⟩ := s
  rfl
theorem ofB_size (l : List UInt8) : (ofB l).size = l.length := by simp [ofB, ByteArray.size]
/-- Bytes as a word. -/
def word (l : List UInt8) : BitVec 64 := BitVec.ofNat 64 (le l)
theorem un_word (l : List UInt8) (h : l.length ≤ 8) : un (word l) = (le l : Int) := un_lit _ (le_lt8 l h)

theorem un_word_nil : un (word []) = 0 := by rw [un_word [] (by simp)]; rfl
theorem take_snoc (s : ByteArray) (k : Nat) (h : k < s.size) : (bl s).take (k + 1) = (bl s).take k ++ [s[k]] := by
  unfold bl
  rw [List.take_succ_eq_append_getElem (by simpa using h)]; rfl

/-- One step of join: the k-th byte is laid ahead of those that are there. -/
theorem join_step (l : List UInt8) (b : UInt8) (k : Nat) (hk : l.length = k) (h : k < 8) :
    bits .or .u64 (un (word l)) (IntKind.u64.wrap ((b.toNat : Int) * 2 ^ (8 * k))) = un (word (l ++ [b])) := by
  have hb := b.toNat_lt
  have e256 : (2 : Nat) ^ (8 * k) = 256 ^ k := by rw [Nat.pow_mul]
  have hp : 256 ^ k * 256 ≤ 18446744073709551616 := by
    have h2 : (256 : Nat) ^ (k + 1) ≤ 256 ^ 8 := Nat.pow_le_pow_right (by omega) h
    have h3 : (256 : Nat) ^ 8 = 18446744073709551616 := by decide
    rw [Nat.pow_succ] at h2; omega
  have hm : b.toNat * 256 ^ k < 18446744073709551616 := by
    have : b.toNat * 256 ^ k ≤ 255 * 256 ^ k := Nat.mul_le_mul_right _ (by omega)
    have h0 : 0 < 256 ^ k := Nat.pow_pos (by omega)
    omega
  have e1 : IntKind.u64.wrap ((b.toNat : Int) * 2 ^ (8 * k)) = ((b.toNat * 256 ^ k : Nat) : Int) := by
    rw [IntKind.wrap_u64, ← e256]
    have : ((b.toNat : Int) * 2 ^ (8 * k)) = ((b.toNat * 2 ^ (8 * k) : Nat) : Int) := by simp
    rw [this]; rw [← e256] at hm; omega
  have hl := le_lt l
  rw [hk] at hl
  rw [e1, un_word l (by omega), un_word _ (by simp; omega), u64_or_nat _ _ (le_lt8 l (by omega)) hm, le_snoc, hk, Nat.or_comm,
    nat_join (8 * k) _ _ (by rw [e256]; exact Nat.mul_mod_left _ _) (by rw [e256]; exact hl)]
  omega

theorem join_step' (s : ByteArray) (k : Nat) (hk : k < s.size) (h : k < 8) :
    bits .or .u64 (un (word ((bl s).take k))) (IntKind.u64.wrap (IntKind.u64.wrap (s[k].toNat : Int) * 2 ^ (8 * k))) = un (word ((bl s).take (k + 1))) := by
  have hb := s[k].toNat_lt
  rw [show IntKind.u64.wrap (s[k].toNat : Int) = s[k].toNat by rw [IntKind.wrap_u64]; omega, take_snoc s k hk]
  exact join_step _ _ k (by simp [bl_length]; omega) h

/-- The eight bytes from a place on, but for the first k: what the reference has taken so far. -/
def tail8 (s : ByteArray) (p k : Nat) : BitVec 64 := word ((s.data.toList.drop (p + k)).take (8 - k))
theorem tail8_end (s : ByteArray) (p : Nat) : un (tail8 s p 8) = 0 := by
  unfold tail8; rw [show 8 - 8 = 0 from rfl, List.take_zero, un_word_nil]
theorem tail8_in (s : ByteArray) (p j : Nat) (hj : j < 8) (h : p + j < s.size) :
    IntKind.u64.wrap (IntKind.u64.wrap (256 * un (tail8 s p (j + 1))) + IntKind.u64.wrap (s[p + j].toNat : Int)) = un (tail8 s p j) := by
  have e : (s.data.toList.drop (p + j)).take (8 - j) = s[p + j] :: (s.data.toList.drop (p + (j + 1))).take (8 - (j + 1)) := by
    rw [List.drop_eq_getElem_cons (by simpa using h), show 8 - j = (8 - (j + 1)) + 1 by omega, List.take_succ_cons]; rfl
  have hl : ((s.data.toList.drop (p + (j + 1))).take (8 - (j + 1))).length ≤ 7 := by simp; omega
  have h7 := le_lt7 _ hl
  have hb := s[p + j].toNat_lt
  unfold tail8
  rw [e, un_word ((s.data.toList.drop (p + (j + 1))).take (8 - (j + 1))) (by omega), un_word _ (by rw [List.length_cons]; omega), IntKind.wrap_u64, IntKind.wrap_u64, IntKind.wrap_u64]
  simp only [le]; omega
theorem tail8_out (s : ByteArray) (p j : Nat) (h : ¬ p + j < s.size) :
    IntKind.u64.wrap (256 * un (tail8 s p (j + 1))) = un (tail8 s p j) := by
  have hs : s.data.toList.length = s.size := by simp
  unfold tail8
  rw [List.drop_of_length_le (by omega), List.drop_of_length_le (by omega), List.take_nil, List.take_nil, un_word_nil, IntKind.wrap_u64]
  rfl

/-- The last word of a text: the bytes that are left, and how many there are in all. -/
def lastWord (l : List UInt8) (n : Nat) : BitVec 64 := BitVec.ofNat 64 (le l + n % 256 * 72057594037927936)
theorem un_lastWord (l : List UInt8) (n : Nat) (h : l.length ≤ 7) : un (lastWord l n) = (le l + n % 256 * 72057594037927936 : Nat) :=
  un_lit _ (by have := le_lt7 l h; omega)
theorem last_or (l : List UInt8) (n : Nat) (h : l.length ≤ 7) :
    bits .or .u64 (un (word l)) (IntKind.u64.wrap ((n : Int) * 72057594037927936)) = un (lastWord l n) := by
  have h7 := le_lt7 l h
  have e1 : IntKind.u64.wrap ((n : Int) * 72057594037927936) = ((n % 256 * 72057594037927936 : Nat) : Int) := by
    rw [IntKind.wrap_u64]; omega
  rw [e1, un_word l (by omega), un_lastWord l n h, u64_or_nat _ _ (by omega) (by omega), Nat.or_comm, nat_join 56 _ _ (by simp) (by omega)]
  omega
theorem last_add (l : List UInt8) (n : Nat) (h : l.length ≤ 7) :
    IntKind.u64.wrap (un (word l) + IntKind.u64.wrap (((n % 256 : Nat) : Int) * 72057594037927936)) = un (lastWord l n) := by
  have h7 := le_lt7 l h
  rw [IntKind.wrap_u64, IntKind.wrap_u64, un_word l (by omega), un_lastWord l n h]
  omega

/-- The i-th word of a text. -/
def wordAt (s : List UInt8) (i : Nat) : BitVec 64 :=
  if 8 * i + 8 ≤ s.length then word ((s.drop (8 * i)).take 8) else lastWord (s.drop (8 * i)) s.length
theorem ext_drop (s : ByteArray) (i : Nat) : (s.extract (i * 8) s.size).data.toList = s.data.toList.drop (8 * i) := by
  simp only [ByteArray.data_extract, Array.toList_extract, List.extract_eq_take_drop]
  rw [Nat.mul_comm, List.take_of_length_le (by simp)]
theorem ext_first (s : ByteArray) : (s.extract 0 8).data.toList = s.data.toList.take 8 := by
  simp only [ByteArray.data_extract, Array.toList_extract, List.extract_eq_take_drop, List.drop_zero, Nat.sub_zero]
theorem wordAt_in (s : ByteArray) (i : Nat) (h : 8 * i + 8 ≤ s.size) : word (bl ((s.extract (i * 8) s.size).extract 0 8)) = wordAt (bl s) i := by
  have hs := bl_length s
  unfold wordAt
  rw [if_pos (by omega)]
  unfold bl
  rw [ext_first, ext_drop]
theorem wordAt_last (s : ByteArray) (i : Nat) (h : ¬ 8 * i + 8 ≤ s.size) (h' : 8 * i ≤ s.size) :
    bits .or .u64 (un (word (bl (s.extract (i * 8) s.size)))) (IntKind.u64.wrap ((s.size : Int) * 72057594037927936)) = un (wordAt (bl s) i) := by
  have hs := bl_length s
  unfold wordAt
  rw [if_neg (by omega), hs]
  unfold bl at hs ⊢
  rw [ext_drop, last_or _ _ (by rw [List.length_drop]; omega)]
def words (s : List UInt8) : List (BitVec 64) := (List.range (s.length / 8 + 1)).map (wordAt s)
theorem words_length (s : List UInt8) : (words s).length = s.length / 8 + 1 := by simp [words]
theorem words_get (s : List UInt8) (i : Nat) (h : i < s.length / 8 + 1) : (words s)[i]? = some (wordAt s i) := by
  simp [words, h]

theorem lastWord_inj {l m : List UInt8} {a b : Nat} (hl : l.length ≤ 7) (hm : m.length ≤ 7) (ha : a ≤ 255) (hb : b ≤ 255) (h : lastWord l a = lastWord m b) : le l = le m ∧ a = b := by
  have h1 := un_lastWord l a hl
  have h2 := un_lastWord m b hm
  rw [h, h2] at h1
  have := le_lt7 l hl
  have := le_lt7 m hm
  omega
theorem word_inj {l m : List UInt8} (hl : l.length = 8) (hm : m.length = 8) (h : word l = word m) : l = m := by
  have h1 := un_word l (by omega)
  rw [h, un_word m (by omega)] at h1
  exact le_inj l m (by omega) (by omega)
/-- Unlike texts have unlike words. -/
theorem words_inj {l m : List UInt8} (hl : l.length ≤ 255) (hm : m.length ≤ 255) (h : words l = words m) : l = m := by
  have hn : l.length / 8 = m.length / 8 := by
    have := congrArg List.length h
    rw [words_length, words_length] at this; omega
  have hat : ∀ i, i < l.length / 8 + 1 → wordAt l i = wordAt m i := by
    intro i hi
    have h1 := words_get l i hi
    have h2 := words_get m i (by omega)
    rw [h] at h1
    rw [h2] at h1
    exact (Option.some.inj h1).symm
  have hlast := hat (l.length / 8) (by omega)
  unfold wordAt at hlast
  rw [if_neg (by omega), if_neg (by omega)] at hlast
  obtain ⟨e1, e2⟩ := lastWord_inj (by rw [List.length_drop]; omega) (by rw [List.length_drop]; omega) hl hm hlast
  have e3 := le_inj _ _ (by rw [List.length_drop, List.length_drop]; omega) e1
  have htake : ∀ i, i ≤ l.length / 8 → l.take (8 * i) = m.take (8 * i) := by
    intro i
    induction i with
    | zero => intro _; rfl
    | succ i ih =>
      intro hi
      have h1 := hat i (by omega)
      unfold wordAt at h1
      rw [if_pos (by omega), if_pos (by omega)] at h1
      have h2 := word_inj (by rw [List.length_take, List.length_drop]; omega) (by rw [List.length_take, List.length_drop]; omega) h1
      rw [show 8 * (i + 1) = 8 * i + 8 by omega, List.take_add, List.take_add, ih (by omega), h2]
  have ht := htake (l.length / 8) (by omega)
  rw [← List.take_append_drop (8 * (l.length / 8)) l, ht, e3, List.take_append_drop]

/-- What a word does to the four. -/
def V4.take (v : V4) (w : BitVec 64) : V4 :=
  let u := (V4.mk v.a v.b v.c (v.d ^^^ w)).round.round
  ⟨u.a ^^^ w, u.b, u.c, u.d⟩
def V4.start (k l : BitVec 64) : V4 :=
  ⟨k ^^^ 8317987319222330741#64, l ^^^ 7237128888997146477#64, k ^^^ 7816392313619706465#64, l ^^^ 8387220255154660723#64⟩
def V4.done (v : V4) : BitVec 64 :=
  let u := (V4.mk v.a v.b (v.c ^^^ 255#64) v.d).round.round.round.round
  u.a ^^^ u.b ^^^ u.c ^^^ u.d
/-- The sum of a text under a key of sixteen bytes. -/
def sum (k s : List UInt8) : BitVec 64 := (((words s).foldl V4.take (V4.start (word (k.take 8)) (word (k.drop 8)))).done)

/-- The four behind the first n words. -/
def upto (k s : List UInt8) (n : Nat) : V4 := ((words s).take n).foldl V4.take (V4.start (word (k.take 8)) (word (k.drop 8)))
theorem upto_zero (k s : List UInt8) : upto k s 0 = V4.start (word (k.take 8)) (word (k.drop 8)) := rfl
theorem upto_succ (k s : List UInt8) (n : Nat) (h : n < s.length / 8 + 1) : upto k s (n + 1) = (upto k s n).take (wordAt s n) := by
  unfold upto
  have e : (words s).take (n + 1) = (words s).take n ++ [wordAt s n] := by
    rw [List.take_add_one, words_get s n h]; rfl
  rw [e, List.foldl_append]; rfl
theorem upto_done (k s : List UInt8) (n : Nat) (h : n = s.length / 8 + 1) : (upto k s n).done = sum k s := by
  have e : (words s).take n = words s := List.take_of_length_le (by rw [words_length]; omega)
  unfold upto sum
  rw [e]

theorem rot_neg (x : BitVec 64) (n : Int) : rot x (n + -n) = x := by rw [show n + -n = 0 by omega, rot_zero]

/-- A word's j-th byte, the lowest first. -/
def byteN (x : BitVec 64) (j : Nat) : UInt8 := UInt8.ofNat (x.toNat / 2 ^ (8 * j) % 256)
theorem byteN_nat (x : BitVec 64) (j : Nat) : (byteN x j).toNat = x.toNat / 2 ^ (8 * j) % 256 := by
  unfold byteN; exact UInt8.toNat_ofNat_of_lt' (Nat.mod_lt _ (by decide))
theorem byteN_wrap (x : BitVec 64) (j : Nat) : IntKind.u8.wrap (un x / 2 ^ (8 * j)) = ((byteN x j).toNat : Int) := by
  have e : un x / 2 ^ (8 * j) = ((x.toNat / 2 ^ (8 * j) : Nat) : Int) := by unfold un; simp
  rw [e, IntKind.wrap_u8', byteN_nat, Int.natCast_emod]
  rfl
/-- A word's eight bytes. -/
def bytes8 (x : BitVec 64) : List UInt8 := [byteN x 0, byteN x 1, byteN x 2, byteN x 3, byteN x 4, byteN x 5, byteN x 6, byteN x 7]
theorem word_bytes8 (x : BitVec 64) : word (bytes8 x) = x := by
  apply BitVec.eq_of_toNat_eq
  have hx := x.isLt
  have h := un_word (bytes8 x) (Nat.le_refl 8)
  unfold un at h
  have h2 : (word (bytes8 x)).toNat = le (bytes8 x) := by omega
  rw [h2]
  simp only [bytes8, le, byteN_nat]
  omega
/-- The key of two words, as far as its loop has come. -/
def keyI (a b : BitVec 64) (i : Nat) : List UInt8 := (bytes8 a).take i ++ List.replicate (8 - i) 0 ++ ((bytes8 b).take i ++ List.replicate (8 - i) 0)
theorem keyI_length (a b : BitVec 64) (i : Nat) (h : i ≤ 8) : (keyI a b i).length = 16 := by
  simp [keyI, bytes8]; omega

/-- The bytes 0, 1, 2 .. -/
def asc (n : Nat) : List UInt8 := (List.range n).map UInt8.ofNat
/-- The document's key, as far as its loop has come. -/
def keyU (i : Nat) : List UInt8 := asc i ++ List.replicate (16 - i) 0
theorem asc_length (n : Nat) : (asc n).length = n := by simp [asc]
theorem asc_succ (n : Nat) : asc (n + 1) = asc n ++ [UInt8.ofNat n] := by simp [asc, List.range_succ]

theorem awake : sum [0, 1, 2, 3, 4, 5, 6, 7, 8, 9, 10, 11, 12, 13, 14, 15] [0, 1, 2, 3, 4, 5, 6, 7, 8, 9, 10, 11, 12, 13, 14] = 11613035633349379557#64 := by
  decide +kernel
theorem un_awake : un (sum (keyU 16) (bl (ofB (asc 15)))) = 11613035633349379557 := by
  have e : sum (keyU 16) (bl (ofB (asc 15))) = 11613035633349379557#64 := awake
  rw [e]; exact un_lit 11613035633349379557 (by decide)

end M
end Go.Proofs.Ytpfdjddjoclldaa

/- Plain facts of layer 8: roots, the cosines and sines of the halves, the table of the angles 0 to 127, any angle's; that from 0 to 128 cosines fall and sines rise, how near they are, and how near two angles' sum's are to what is made of theirs. No program is named here. No conditions. -/
namespace Go.Proofs.Ytpfdjddjoclldaa.M

/-- The whole part of a number's square root. -/
def IsRoot (n r : Nat) : Prop := r * r ≤ n ∧ n < (r + 1) * (r + 1)
theorem isRoot_one (n r s : Nat) (h : IsRoot n r) (k : IsRoot n s) : r = s := by
  rcases Nat.lt_trichotomy r s with e | e | e
  · have : (r + 1) * (r + 1) ≤ s * s := Nat.mul_le_mul (by omega) (by omega)
    have := h.2
    have := k.1
    omega
  · exact e
  · have : (s + 1) * (s + 1) ≤ r * r := Nat.mul_le_mul (by omega) (by omega)
    have := k.2
    have := h.1
    omega
theorem root_mono (n r m : Nat) (h : IsRoot n r) : m * m ≤ n ↔ m ≤ r := by
  constructor
  · intro k
    rcases Nat.lt_or_ge r m with e | e
    · have : (r + 1) * (r + 1) ≤ m * m := Nat.mul_le_mul (by omega) (by omega)
      have := h.2
      omega
    · exact e
  · intro k
    exact Nat.le_trans (Nat.mul_le_mul k k) h.1

/-- The cosines and sines of the angles 64, 32, .. 1. -/
def halves : List (Nat × Nat) := [(759250124, 759250124), (992008094, 410903207), (1053110175, 209476638), (1068571463, 105245105), (1072448454, 52686017), (1073418432, 26350953), (1073660972, 13176485)]
def isRootB (n r : Nat) : Bool := decide (r * r ≤ n) && decide (n < (r + 1) * (r + 1))
theorem isRootB_iff (n r : Nat) : isRootB n r = true ↔ IsRoot n r := by
  unfold isRootB IsRoot
  rw [Bool.and_eq_true, decide_eq_true_iff, decide_eq_true_iff]
/-- The cosine ahead of the half number i. -/
def ahead (i : Nat) : Nat := if i = 0 then 0 else (halves.getD (i - 1) (0, 0)).1
theorem halves_all : ((List.range 7).all fun i => isRootB ((1073741824 + ahead i) * 536870912) (halves.getD i (0, 0)).1 && isRootB ((1073741824 - ahead i) * 536870912) (halves.getD i (0, 0)).2) = true := by decide +kernel
theorem halves_root (i : Nat) (hi : i < 7) : IsRoot ((1073741824 + ahead i) * 536870912) (halves.getD i (0, 0)).1 ∧ IsRoot ((1073741824 - ahead i) * 536870912) (halves.getD i (0, 0)).2 := by
  have := List.all_eq_true.1 halves_all i (List.mem_range.2 hi)
  rw [Bool.and_eq_true, isRootB_iff, isRootB_iff] at this
  exact this
theorem halves_bd (i : Nat) (hi : i < 7) : (halves.getD i (0, 0)).1 ≤ 1073741824 ∧ (halves.getD i (0, 0)).2 ≤ 1073741824 := by
  have h : ((List.range 7).all fun i => decide ((halves.getD i (0, 0)).1 ≤ 1073741824) && decide ((halves.getD i (0, 0)).2 ≤ 1073741824)) = true := by decide +kernel
  have := List.all_eq_true.1 h i (List.mem_range.2 hi)
  rw [Bool.and_eq_true, decide_eq_true_iff, decide_eq_true_iff] at this
  exact this

/-- A number by 2^30, rounded (half of it is added ahead). -/
def dn (n : Int) : Int := (n + 536870912) / 1073741824
/-- Two numbers turned by an angle with this cosine and sine. -/
def by1 (p : Int × Int) (c s : Nat) : Int × Int := (dn (p.1 * c - p.2 * s), dn (p.1 * s + p.2 * c))
/-- The cosine and the sine of an angle from 0 to 127, as far as its first i bits go. -/
def csN (k : Nat) : Nat → Int × Int
  | 0 => (1073741824, 0)
  | i + 1 => if k / 2 ^ (6 - i) % 2 = 1 then by1 (csN k i) (halves.getD i (0, 0)).1 (halves.getD i (0, 0)).2 else csN k i
/-- .. all of it: the table. -/
def tab8 : List (Int × Int) := [(1073741824, 0), (1073660972, 13176485), (1073418432, 26350953), (1073014237, 39521485), (1072448454, 52686017), (1071721160, 65842663), (1070832471, 78989361), (1069782516, 92124196), (1068571463, 105245105), (1067199479, 118350217), (1065666783, 131437473), (1063973596, 144504968), (1062120188, 157550652), (1060106819, 170572658), (1057933808, 183568944), (1055601469, 196537617), (1053110175, 209476638), (1050460272, 222384167), (1047652181, 235258174), (1044686309, 248096784), (1041563125, 260897984), (1038283071, 273659941), (1034846665, 286380654), (1031254405, 299058271), (1027506860, 311690800), (1023604558, 324276440), (1019548115, 336813214), (1015338121, 349299296), (1010975239, 361732729), (1006460089, 374111732), (1001793382, 386434365), (996975796, 398698832), (992008094, 410903207), (986890974, 423045751), (981625246, 435124556), (976211674, 447137863), (970651110, 459083788), (964944347, 470960621), (959092283, 482766499), (953095767, 494499704), (946955745, 506158394), (940673088, 517740903), (934248785, 529245414), (927683771, 540670250), (920979078, 552013622), (914135662, 563273904), (907154598, 574449331), (900036902, 585538276), (892783697, 596538995), (885396008, 607449923), (877875001, 618269345), (870221770, 628995684), (862437516, 639627259), (854523352, 650162547), (846480521, 660599898), (838310192, 670937790), (830013651, 681174603), (821592078, 691308872), (813046798, 701339007), (804379054, 711263548), (795590207, 721080939), (786681513, 730789773), (777654371, 740388530), (768510093, 749875810), (759250124, 759250124), (749875771, 768510135), (740388514, 777654389), (730789732, 786681553), (721080933, 795590213), (711263505, 804379092), (701338988, 813046814), (691308827, 821592114), (681174599, 830013654), (670937746, 838310228), (660599879, 846480536), (650162501, 854523386), (639627252, 862437521), (628995637, 870221803), (618269324, 877875014), (607449875, 885396038), (596538994, 892783696), (585538228, 900036933), (574449310, 907154610), (563273854, 914135690), (552013614, 920979081), (540670200, 927683799), (529245391, 934248796), (517740851, 940673113), (506158389, 946955745), (494499653, 953095792), (482766477, 959092292), (470960568, 964944370), (459083780, 970651111), (447137810, 976211695), (435124533, 981625252), (423045697, 986890992), (410903206, 992008093), (398698780, 996975818), (386434343, 1001793391), (374111679, 1006460108), (361732722, 1010975241), (349299243, 1015338139), (336813191, 1019548122), (324276385, 1023604573), (311690796, 1027506860), (299058216, 1031254421), (286380630, 1034846671), (273659885, 1038283084), (260897976, 1041563125), (248096728, 1044686321), (235258150, 1047652184), (222384111, 1050460281), (209476638, 1053110173), (196537562, 1055601479), (183568921, 1057933811), (170572602, 1060106826), (157550644, 1062120187), (144504911, 1063973602), (131437449, 1065666783), (118350160, 1067199481), (105245101, 1068571460), (92124140, 1069782519), (78989337, 1070832470), (65842606, 1071721159), (52686009, 1072448451), (39521428, 1073014236), (26350929, 1073418428), (13176428, 1073660967)]
set_option maxRecDepth 100000 in
theorem tab8_length : tab8.length = 128 := by decide +kernel
set_option maxRecDepth 100000 in
theorem tab8_all : ((List.range 128).map fun k => csN k 7) = tab8 := by decide +kernel
theorem tab8_cs (k : Nat) (hk : k < 128) : tab8.getD k (0, 0) = csN k 7 := by
  rw [← tab8_all, List.getD_eq_getElem?_getD, List.getElem?_map, List.getElem?_range hk]; rfl
/-- How great the numbers are on the way. -/
theorem csN_bd (k i : Nat) (hk : k < 128) (hi : i ≤ 7) : -1073741824 ≤ (csN k i).1 ∧ (csN k i).1 ≤ 1073741824 ∧ -1073741824 ≤ (csN k i).2 ∧ (csN k i).2 ≤ 1073741824 := by
  have h : ((List.range 128).all fun k => (List.range 8).all fun i => decide (-1073741824 ≤ (csN k i).1) && decide ((csN k i).1 ≤ 1073741824) && decide (-1073741824 ≤ (csN k i).2) && decide ((csN k i).2 ≤ 1073741824)) = true := by decide +kernel
  have h1 := List.all_eq_true.1 h k (List.mem_range.2 hk)
  have h2 := List.all_eq_true.1 h1 i (List.mem_range.2 (by omega))
  rw [Bool.and_eq_true, Bool.and_eq_true, Bool.and_eq_true, decide_eq_true_iff, decide_eq_true_iff, decide_eq_true_iff, decide_eq_true_iff] at h2
  omega
/-- A right angle on. -/
def qt (p : Int × Int) : Int × Int := (-p.2, p.1)
def qts (p : Int × Int) : Nat → Int × Int
  | 0 => p
  | n + 1 => qt (qts p n)
theorem qts_four (p : Int × Int) : qts p 4 = p := by
  obtain ⟨x, y⟩ := p
  simp [qts, qt]
theorem qts_add (p : Int × Int) (m n : Nat) : qts p (m + n) = qts (qts p m) n := by
  induction n with
  | zero => rfl
  | succ n ih => rw [← Nat.add_assoc]; show qt (qts p (m + n)) = qt (qts (qts p m) n); rw [ih]
/-- Where an angle stands in the circle. -/
def ang (k : Int) : Nat := (k % 512).toNat
theorem ang_lt (k : Int) : ang k < 512 := by unfold ang; omega
/-- The cosine and the sine of any angle. -/
def trg (k : Int) : Int × Int := qts (tab8.getD (ang k % 128) (0, 0)) (ang k / 128)
def trN (k : Nat) : Int × Int := qts (tab8.getD (k % 128) (0, 0)) (k / 128)
theorem trg_ang (k : Int) : trg k = trN (ang k) := rfl
theorem trg_512 (k : Int) : trg (k + 512) = trg k := by unfold trg ang; rw [show (k + 512) % 512 = k % 512 by omega]
theorem trg_m512 (k : Int) : trg (k - 512) = trg k := by unfold trg ang; rw [show (k - 512) % 512 = k % 512 by omega]
theorem trg_128 (k : Int) : trg (k + 128) = qt (trg k) := by
  unfold trg
  have hlt := ang_lt k
  have h : ang (k + 128) % 128 = ang k % 128 := by unfold ang; omega
  rw [h]
  rcases Nat.lt_or_ge (ang k) 384 with h1 | h1
  · have h2 : ang (k + 128) / 128 = ang k / 128 + 1 := by unfold ang at *; omega
    rw [h2]; rfl
  · have h2 : ang (k + 128) / 128 = 0 := by unfold ang at *; omega
    have h3 : ang k / 128 = 3 := by omega
    rw [h2, h3]
    exact (qts_four _).symm
theorem trg_256 (k : Int) : trg (k + 256) = (-(trg k).1, -(trg k).2) := by
  rw [show k + 256 = k + 128 + 128 by omega, trg_128, trg_128]
  obtain ⟨x, y⟩ := trg k
  rfl
theorem all_512 (p : Int × Int → Bool) (h : ((List.range 512).all fun k => p (trN k)) = true) (k : Int) : p (trg k) = true := by
  rw [trg_ang]
  exact List.all_eq_true.1 h _ (List.mem_range.2 (ang_lt k))
/-- From 0 to 128 cosines fall, and sines rise. -/
theorem trg_rises (k : Nat) (hk : k < 128) : (trg (k + 1)).1 < (trg k).1 ∧ (trg k).2 < (trg (k + 1)).2 := by
  have h : ((List.range 128).all fun k => decide ((trN (k + 1)).1 < (trN k).1) && decide ((trN k).2 < (trN (k + 1)).2)) = true := by decide +kernel
  have h1 := List.all_eq_true.1 h k (List.mem_range.2 hk)
  rw [Bool.and_eq_true, decide_eq_true_iff, decide_eq_true_iff] at h1
  have e1 : trg (k : Int) = trN k := by rw [trg_ang, show ang (k : Int) = k by unfold ang; omega]
  have e2 : trg ((k : Int) + 1) = trN (k + 1) := by rw [trg_ang, show ang ((k : Int) + 1) = k + 1 by unfold ang; omega]
  rw [e1, e2]
  exact h1
/-- How great they are, and their squares' sum. -/
theorem trg_bd (k : Int) : -1073741824 ≤ (trg k).1 ∧ (trg k).1 ≤ 1073741824 ∧ -1073741824 ≤ (trg k).2 ∧ (trg k).2 ≤ 1073741824 ∧
    -4398046511104 ≤ (trg k).1 * (trg k).1 + (trg k).2 * (trg k).2 - 1152921504606846976 ∧ (trg k).1 * (trg k).1 + (trg k).2 * (trg k).2 - 1152921504606846976 ≤ 4398046511104 := by
  have h := all_512 (fun p => decide (-1073741824 ≤ p.1 ∧ p.1 ≤ 1073741824 ∧ -1073741824 ≤ p.2 ∧ p.2 ≤ 1073741824 ∧ -4398046511104 ≤ p.1 * p.1 + p.2 * p.2 - 1152921504606846976 ∧ p.1 * p.1 + p.2 * p.2 - 1152921504606846976 ≤ 4398046511104)) (by decide +kernel) k
  exact of_decide_eq_true h
/-- The cosine of k is nearly the sine of 128 - k. -/
theorem trg_close (k : Int) : -2048 ≤ (trg k).1 - (trg (128 - k)).2 ∧ (trg k).1 - (trg (128 - k)).2 ≤ 2048 := by
  have h : ((List.range 512).all fun k => decide (-2048 ≤ (trN k).1 - (trN ((640 - k) % 512)).2 ∧ (trN k).1 - (trN ((640 - k) % 512)).2 ≤ 2048)) = true := by decide +kernel
  have h1 := of_decide_eq_true (List.all_eq_true.1 h _ (List.mem_range.2 (ang_lt k)))
  have e : (640 - ang k) % 512 = ang (128 - k) := by unfold ang; omega
  rw [e] at h1
  exact h1

/-- The two angles' product against their sum's. -/
def dif (p q r : Int × Int) : Int × Int := (p.1 * q.1 - p.2 * q.2 - 1073741824 * r.1, p.1 * q.2 + p.2 * q.1 - 1073741824 * r.2)
def near (d : Int × Int) : Bool := decide (-8796093022208 ≤ d.1 ∧ d.1 ≤ 8796093022208 ∧ -8796093022208 ≤ d.2 ∧ d.2 ≤ 8796093022208)
theorem near_qt (d : Int × Int) : near (qt d) = near d := by
  obtain ⟨x, y⟩ := d
  unfold near qt
  rw [decide_eq_decide]
  show (-8796093022208 ≤ -y ∧ -y ≤ 8796093022208 ∧ -8796093022208 ≤ x ∧ x ≤ 8796093022208) ↔ (-8796093022208 ≤ x ∧ x ≤ 8796093022208 ∧ -8796093022208 ≤ y ∧ y ≤ 8796093022208)
  omega
theorem dif_left (p q r : Int × Int) : dif (qt p) q (qt r) = qt (dif p q r) := by
  obtain ⟨a, b⟩ := p
  obtain ⟨c, d⟩ := q
  obtain ⟨e, f⟩ := r
  simp only [dif, qt, Prod.mk.injEq]
  refine ⟨?_, ?_⟩
  · rw [Int.neg_mul, Int.mul_neg]; omega
  · rw [Int.neg_mul]; omega
theorem dif_right (p q r : Int × Int) : dif p (qt q) (qt r) = qt (dif p q r) := by
  obtain ⟨a, b⟩ := p
  obtain ⟨c, d⟩ := q
  obtain ⟨e, f⟩ := r
  simp only [dif, qt, Prod.mk.injEq]
  refine ⟨?_, ?_⟩
  · rw [Int.mul_neg, Int.mul_neg]; omega
  · rw [Int.mul_neg]; omega
def tab8b : List (Int × Int) := tab8 ++ tab8.map qt
def row8 (p : Int × Int) : List (Int × Int) → List (Int × Int) → Bool
  | q :: l, r :: m => near (dif p q r) && row8 p l m
  | _, _ => true
def all8 : List (Int × Int) → List (Int × Int) → Bool
  | p :: l, m => row8 p tab8 m && all8 l (m.drop 1)
  | [], _ => true
set_option maxRecDepth 100000 in
theorem all8_ok : all8 tab8 tab8b = true := by decide +kernel
theorem row8_at (p : Int × Int) : ∀ (l m : List (Int × Int)) (i : Nat), row8 p l m = true → i < l.length → i < m.length → near (dif p (l.getD i (0, 0)) (m.getD i (0, 0))) = true
  | [], _, _, _, h, _ => by simp at h
  | _ :: _, [], _, _, _, h => by simp at h
  | q :: l, r :: m, 0, h, _, _ => by
    unfold row8 at h
    rw [Bool.and_eq_true] at h
    exact h.1
  | q :: l, r :: m, i + 1, h, h1, h2 => by
    unfold row8 at h
    rw [Bool.and_eq_true] at h
    exact row8_at p l m i h.2 (by simpa using h1) (by simpa using h2)
theorem all8_at : ∀ (l m : List (Int × Int)) (j : Nat), all8 l m = true → j < l.length → row8 (l.getD j (0, 0)) tab8 (m.drop j) = true
  | [], _, _, _, h => by simp at h
  | p :: l, m, 0, h, _ => by
    unfold all8 at h
    rw [Bool.and_eq_true] at h
    exact h.1
  | p :: l, m, j + 1, h, hj => by
    unfold all8 at h
    rw [Bool.and_eq_true] at h
    have := all8_at l (m.drop 1) j h.2 (by simpa using hj)
    rw [List.drop_drop] at this
    rw [show j + 1 = 1 + j by omega]
    rw [show 1 + j = j + 1 by omega, List.getD_cons_succ, show j + 1 = 1 + j by omega]
    exact this
theorem tab8b_at (m : Nat) (hm : m < 256) : tab8b.getD m (0, 0) = trN m := by
  unfold tab8b trN
  have hl := tab8_length
  rcases Nat.lt_or_ge m 128 with h | h
  · rw [List.getD_eq_getElem?_getD, List.getElem?_append_left (by omega), Nat.mod_eq_of_lt h, Nat.div_eq_of_lt h, List.getD_eq_getElem?_getD]; rfl
  · obtain ⟨p, hp⟩ : ∃ p, tab8[m - 128]? = some p := ⟨_, List.getElem?_eq_getElem (show m - 128 < tab8.length by omega)⟩
    rw [List.getD_eq_getElem?_getD, List.getElem?_append_right (by omega), hl, List.getElem?_map, show m % 128 = m - 128 by omega, show m / 128 = 1 by omega, List.getD_eq_getElem?_getD, hp]
    rfl
theorem near_base (j k : Nat) (hj : j < 128) (hk : k < 128) : near (dif (trN j) (trN k) (trN (j + k))) = true := by
  have hl := tab8_length
  have h := all8_at tab8 tab8b j all8_ok (by omega)
  have hb : tab8b.length = 256 := by unfold tab8b; rw [List.length_append, List.length_map, hl]
  have h2 := row8_at _ tab8 (tab8b.drop j) k h (by omega) (by rw [List.length_drop, hb]; omega)
  have e : (tab8b.drop j).getD k (0, 0) = tab8b.getD (j + k) (0, 0) := by
    rw [List.getD_eq_getElem?_getD, List.getElem?_drop, List.getD_eq_getElem?_getD]
  rw [e, tab8b_at (j + k) (by omega)] at h2
  have e1 : trN j = tab8.getD j (0, 0) := by unfold trN; rw [Nat.mod_eq_of_lt hj, Nat.div_eq_of_lt hj]; rfl
  have e2 : trN k = tab8.getD k (0, 0) := by unfold trN; rw [Nat.mod_eq_of_lt hk, Nat.div_eq_of_lt hk]; rfl
  rw [e1, e2]
  exact h2
theorem trN_trg (k : Nat) (hk : k < 512) : trg (k : Int) = trN k := by rw [trg_ang, show ang (k : Int) = k by unfold ang; omega]
theorem near_left (j k : Int) (h : near (dif (trg j) (trg k) (trg (j + k))) = true) : near (dif (trg (j + 128)) (trg k) (trg (j + 128 + k))) = true := by
  rw [show j + 128 + k = j + k + 128 by omega, trg_128, trg_128, dif_left, near_qt]; exact h
theorem near_right (j k : Int) (h : near (dif (trg j) (trg k) (trg (j + k))) = true) : near (dif (trg j) (trg (k + 128)) (trg (j + (k + 128)))) = true := by
  rw [show j + (k + 128) = j + k + 128 by omega, trg_128, trg_128, dif_right, near_qt]; exact h
theorem near_lefts (j k : Int) (h : near (dif (trg j) (trg k) (trg (j + k))) = true) (n : Nat) : near (dif (trg (j + 128 * n)) (trg k) (trg (j + 128 * n + k))) = true := by
  induction n with
  | zero => rw [show j + 128 * ((0 : Nat) : Int) = j by omega]; exact h
  | succ n ih =>
    have := near_left _ _ ih
    rw [show j + 128 * ((n + 1 : Nat) : Int) = j + 128 * (n : Int) + 128 by omega]
    exact this
theorem near_rights (j k : Int) (h : near (dif (trg j) (trg k) (trg (j + k))) = true) (n : Nat) : near (dif (trg j) (trg (k + 128 * n)) (trg (j + (k + 128 * n)))) = true := by
  induction n with
  | zero => rw [show k + 128 * ((0 : Nat) : Int) = k by omega]; exact h
  | succ n ih =>
    have := near_right _ _ ih
    rw [show k + 128 * ((n + 1 : Nat) : Int) = k + 128 * (n : Int) + 128 by omega]
    exact this
theorem trg_emod (k : Int) : trg k = trg (k % 512) := by unfold trg ang; rw [show k % 512 % 512 = k % 512 by omega]
theorem trg_eq (j k : Int) (h : j % 512 = k % 512) : trg j = trg k := by rw [trg_emod j, h, ← trg_emod]
/-- Two angles' product is nearly their sum's. -/
theorem near_all (j k : Int) : near (dif (trg j) (trg k) (trg (j + k))) = true := by
  have hj : (j % 128).toNat < 128 := by omega
  have hk : (k % 128).toNat < 128 := by omega
  have h0 := near_base _ _ hj hk
  rw [← trN_trg _ (by omega), ← trN_trg _ (by omega), ← trN_trg _ (by omega)] at h0
  have e : (((j % 128).toNat + (k % 128).toNat : Nat) : Int) = ((j % 128).toNat : Int) + ((k % 128).toNat : Int) := by omega
  rw [e] at h0
  have h1 := near_lefts _ _ h0 (j / 128 % 4).toNat
  have h2 := near_rights _ _ h1 (k / 128 % 4).toNat
  have e1 : trg (((j % 128).toNat : Int) + 128 * ((j / 128 % 4).toNat : Int)) = trg j := trg_eq _ _ (by omega)
  have e2 : trg (((k % 128).toNat : Int) + 128 * ((k / 128 % 4).toNat : Int)) = trg k := trg_eq _ _ (by omega)
  have e3 : trg (((j % 128).toNat : Int) + 128 * ((j / 128 % 4).toNat : Int) + (((k % 128).toNat : Int) + 128 * ((k / 128 % 4).toNat : Int))) = trg (j + k) := trg_eq _ _ (by omega)
  rw [e1, e2, e3] at h2
  exact h2
/-- .. by 2^30, rounded down. -/
theorem trg_sums (j k : Int) :
    -8192 ≤ ((trg j).1 * (trg k).1 - (trg j).2 * (trg k).2) / 1073741824 - (trg (j + k)).1 ∧ ((trg j).1 * (trg k).1 - (trg j).2 * (trg k).2) / 1073741824 - (trg (j + k)).1 ≤ 8192 ∧
    -8192 ≤ ((trg j).1 * (trg k).2 + (trg j).2 * (trg k).1) / 1073741824 - (trg (j + k)).2 ∧ ((trg j).1 * (trg k).2 + (trg j).2 * (trg k).1) / 1073741824 - (trg (j + k)).2 ≤ 8192 := by
  have h := of_decide_eq_true (near_all j k)
  unfold dif at h
  generalize (trg j).1 * (trg k).1 - (trg j).2 * (trg k).2 = P at *
  generalize (trg j).1 * (trg k).2 + (trg j).2 * (trg k).1 = Q at *
  generalize trg (j + k) = r at *
  obtain ⟨e, f⟩ := r
  simp only at h ⊢
  omega
end Go.Proofs.Ytpfdjddjoclldaa.M

/- Plain facts of layer 9: parts, the factors of the angles 0 to 64, turns and their undoing; that a turn is nearly the rotation, that the squares' sum nearly stays, that a turn behind a turn is nearly the turn by both angles. No program is named here. No conditions but those that each fact names. -/
namespace Go.Proofs.Ytpfdjddjoclldaa.M

/-- A number's part by a factor. -/
def prt (x m : Int) : Int := (x * m + 16384) / 32768
theorem prt_eq (x m : Int) : ∃ r, 32768 * prt x m = x * m + r ∧ -16384 ≤ r ∧ r ≤ 16384 := by
  refine ⟨32768 * prt x m - x * m, by omega, ?_, ?_⟩
  · unfold prt; generalize x * m = t; omega
  · unfold prt; generalize x * m = t; omega
theorem prt_zero (x : Int) : prt x 0 = 0 := by unfold prt; rw [Int.mul_zero]; rfl
theorem prt_one (x : Int) : prt x 32768 = x := by unfold prt; omega
theorem prt_nil (m : Int) : prt 0 m = 0 := by unfold prt; rw [Int.zero_mul]; rfl
/-- A product's size. -/
theorem mulb (a x A m : Int) (h1 : -A ≤ a) (h2 : a ≤ A) (h3 : -m ≤ x) (h4 : x ≤ m) : -(A * m) ≤ a * x ∧ a * x ≤ A * m := by
  have hA : 0 ≤ A := by omega
  have hm : 0 ≤ m := by omega
  have e1 : a.natAbs ≤ A.toNat := by omega
  have e2 : x.natAbs ≤ m.toNat := by omega
  have e3 := Nat.mul_le_mul e1 e2
  rw [← Int.natAbs_mul] at e3
  have e4 : ((A.toNat * m.toNat : Nat) : Int) = A * m := by rw [Int.natCast_mul, Int.toNat_of_nonneg hA, Int.toNat_of_nonneg hm]
  generalize a * x = t at *
  generalize A * m = s at *
  omega
/-- A part lies between nothing and all. -/
theorem prt_between (y f : Int) (h0 : 0 ≤ f) (h1 : f ≤ 32768) : min y 0 - 1 ≤ prt y f ∧ prt y f ≤ max y 0 + 1 := by
  obtain ⟨r, e, r1, r2⟩ := prt_eq y f
  rcases Int.le_total 0 y with h | h
  · have k1 := Int.mul_nonneg h h0
    have k2 := Int.mul_le_mul_of_nonneg_left h1 h
    generalize y * f = t at *
    omega
  · have k1 := Int.mul_nonneg (show 0 ≤ -y by omega) h0
    have k2 := Int.mul_le_mul_of_nonneg_left h1 (show 0 ≤ -y by omega)
    rw [Int.neg_mul] at k1
    rw [Int.neg_mul, Int.neg_mul] at k2
    generalize y * f = t at *
    omega

/-- The factors of the angles 0 to 64. -/
def fac9 : List (Int × Int) := [(0, 0), (201, 402), (402, 804), (603, 1206), (804, 1608), (1006, 2009), (1207, 2411), (1408, 2811), (1610, 3212), (1811, 3612), (2013, 4011), (2215, 4410), (2417, 4808), (2619, 5205), (2822, 5602), (3024, 5998), (3227, 6393), (3431, 6787), (3634, 7180), (3838, 7571), (4042, 7962), (4246, 8351), (4450, 8740), (4655, 9127), (4861, 9512), (5066, 9896), (5272, 10279), (5479, 10660), (5686, 11039), (5893, 11417), (6101, 11793), (6309, 12167), (6518, 12540), (6727, 12910), (6937, 13279), (7147, 13646), (7358, 14010), (7570, 14373), (7782, 14733), (7995, 15091), (8208, 15447), (8422, 15800), (8637, 16151), (8852, 16500), (9068, 16846), (9285, 17190), (9503, 17531), (9721, 17869), (9940, 18205), (10160, 18538), (10381, 18868), (10603, 19195), (10825, 19520), (11049, 19841), (11273, 20160), (11498, 20475), (11725, 20788), (11952, 21097), (12180, 21403), (12410, 21706), (12640, 22006), (12872, 22302), (13104, 22595), (13338, 22884), (13573, 23170)]
theorem fac9_length : fac9.length = 65 := by decide +kernel
def facOf (k : Nat) : Int × Int := if k = 0 then (0, 0) else (((1073741824 - (tab8.getD k (0, 0)).1) * 32768 + (tab8.getD k (0, 0)).2 / 2) / (tab8.getD k (0, 0)).2, ((tab8.getD k (0, 0)).2 + 16384) / 32768)
set_option maxRecDepth 100000 in
theorem fac9_all : ((List.range 65).map facOf) = fac9 := by decide +kernel
theorem fac9_of (k : Nat) (hk : k ≤ 64) : fac9.getD k (0, 0) = facOf k := by
  rw [← fac9_all, List.getD_eq_getElem?_getD, List.getElem?_map, List.getElem?_range (by omega)]; rfl
def okF (z f : Int × Int) : Bool :=
  decide (0 ≤ f.1 ∧ f.1 ≤ 13573 ∧ 0 ≤ f.2 ∧ f.2 ≤ 23170 ∧ -11127 ≤ 1073741824 - f.1 * f.2 - z.1 ∧ 1073741824 - f.1 * f.2 - z.1 ≤ 11127 ∧
    -1048576000 ≤ f.1 * (2147483648 - f.1 * f.2) - 32768 * z.2 ∧ f.1 * (2147483648 - f.1 * f.2) - 32768 * z.2 ≤ 1048576000 ∧ -16384 ≤ 32768 * f.2 - z.2 ∧ 32768 * f.2 - z.2 ≤ 16384)
set_option maxRecDepth 100000 in
theorem okF_all : ((List.range 65).all fun k => okF (tab8.getD k (0, 0)) (fac9.getD k (0, 0))) = true := by decide +kernel
structure FacOk (z f : Int × Int) : Prop where
  p : 0 ≤ f.1 ∧ f.1 ≤ 13573
  q : 0 ≤ f.2 ∧ f.2 ≤ 23170
  c : -11127 ≤ 1073741824 - f.1 * f.2 - z.1 ∧ 1073741824 - f.1 * f.2 - z.1 ≤ 11127
  s : -1048576000 ≤ f.1 * (2147483648 - f.1 * f.2) - 32768 * z.2 ∧ f.1 * (2147483648 - f.1 * f.2) - 32768 * z.2 ≤ 1048576000
  t : -16384 ≤ 32768 * f.2 - z.2 ∧ 32768 * f.2 - z.2 ≤ 16384
theorem fac_ok (k : Nat) (hk : k ≤ 64) : FacOk (tab8.getD k (0, 0)) (fac9.getD k (0, 0)) := by
  obtain ⟨h1, h2, h3, h4, h5, h6, h7, h8, h9, h10⟩ := of_decide_eq_true (List.all_eq_true.1 okF_all k (List.mem_range.2 (by omega)))
  exact ⟨⟨h1, h2⟩, ⟨h3, h4⟩, ⟨h5, h6⟩, ⟨h7, h8⟩, ⟨h9, h10⟩⟩

/-- A turn by up to 64, and its undoing, by factors. -/
def sm1 (v f : Int × Int) : Int × Int :=
  (v.1 - prt v.2 f.1 - prt (v.2 + prt (v.1 - prt v.2 f.1) f.2) f.1, v.2 + prt (v.1 - prt v.2 f.1) f.2)
def sm2 (v f : Int × Int) : Int × Int :=
  (v.1 + prt v.2 f.1 + prt (v.2 - prt (v.1 + prt v.2 f.1) f.2) f.1, v.2 - prt (v.1 + prt v.2 f.1) f.2)
theorem sm2_sm1 (v f : Int × Int) : sm2 (sm1 v f) f = v := by
  obtain ⟨a, b⟩ := v
  obtain ⟨p, q⟩ := f
  simp only [sm1, sm2]
  generalize hx : prt b p = x
  generalize hy : prt (a - x) q = y
  generalize hz : prt (b + y) p = z
  rw [show a - x - z + z = a - x by omega, hy, show b + y - y = b by omega, hx, show a - x + x = a by omega]
theorem sm1_sm2 (v f : Int × Int) : sm1 (sm2 v f) f = v := by
  obtain ⟨a, b⟩ := v
  obtain ⟨p, q⟩ := f
  simp only [sm1, sm2]
  generalize hx : prt b p = x
  generalize hy : prt (a + x) q = y
  generalize hz : prt (b - y) p = z
  rw [show a + x + z - z = a + x by omega, hy, show b - y + y = b by omega, hx, show a + x - x = a by omega]
theorem sm1_zero (v : Int × Int) : sm1 v (0, 0) = v := by
  obtain ⟨a, b⟩ := v
  simp only [sm1, prt_zero, Prod.mk.injEq]
  omega

/-- w is nearly v turned by what has cosine and sine z (by 2^30); v's numbers are no greater than m. -/
structure Rot (z v w : Int × Int) (A B : Int) : Prop where
  x : -B ≤ 1073741824 * w.1 - (z.1 * v.1 - z.2 * v.2) ∧ 1073741824 * w.1 - (z.1 * v.1 - z.2 * v.2) ≤ B
  y : -B ≤ 1073741824 * w.2 - (z.2 * v.1 + z.1 * v.2) ∧ 1073741824 * w.2 - (z.2 * v.1 + z.1 * v.2) ≤ B
  m : 0 ≤ A
theorem sm1_rot (z f v : Int × Int) (m : Int) (h : FacOk z f) (h1 : -m ≤ v.1) (h2 : v.1 ≤ m) (h3 : -m ≤ v.2) (h4 : v.2 ≤ m) : Rot z v (sm1 v f) m (45000 * m + 1610612736) := by
  obtain ⟨C, S⟩ := z
  obtain ⟨p, q⟩ := f
  obtain ⟨a, b⟩ := v
  obtain ⟨⟨p0, p1⟩, ⟨q0, q1⟩, ⟨c0, c1⟩, ⟨s0, s1⟩, t0, t1⟩ := h
  simp only at p0 p1 q0 q1 c0 c1 s0 s1 t0 t1 h1 h2 h3 h4
  obtain ⟨r1, e1, r10, r11⟩ := prt_eq b p
  obtain ⟨r2, e2, r20, r21⟩ := prt_eq (a - prt b p) q
  obtain ⟨r3, e3, r30, r31⟩ := prt_eq (b + prt (a - prt b p) q) p
  have k1 := mulb _ a 11127 m c0 c1 h1 h2
  have k2 := mulb _ b 1048576000 m s0 s1 h3 h4
  have k3 := mulb _ a 16384 m t0 t1 h1 h2
  have k4 := mulb _ b 11127 m c0 c1 h3 h4
  have k5 := mulb q r1 23170 16384 (by omega) q1 r10 r11
  have k6 := mulb p (32768 * r2 - q * r1) 13573 (32768 * 16384 + 23170 * 16384) (by omega) p1 (by omega) (by omega)
  generalize hx : prt b p = x at *
  generalize hy : prt (a - x) q = y at *
  generalize hz : prt (b + y) p = w at *
  have i1 : 32768 * (1073741824 * (a - x - w) - (C * a - S * b)) = 32768 * ((1073741824 - p * q - C) * a) - (p * (2147483648 - p * q) - 32768 * S) * b - 1073741824 * r1 - p * (32768 * r2 - q * r1) - 1073741824 * r3 := by grind
  have i2 : 1073741824 * (b + y) - (S * a + C * b) = (32768 * q - S) * a + (1073741824 - p * q - C) * b + (32768 * r2 - q * r1) := by grind
  refine ⟨?_, ?_, by omega⟩
  · simp only [sm1, hx, hy, hz]
    generalize 1073741824 * (a - x - w) - (C * a - S * b) = D at *
    generalize (1073741824 - p * q - C) * a = t1 at *
    generalize (p * (2147483648 - p * q) - 32768 * S) * b = t2 at *
    generalize p * (32768 * r2 - q * r1) = t3 at *
    omega
  · simp only [sm1, hx, hy]
    generalize 1073741824 * (b + y) - (S * a + C * b) = D at *
    generalize (32768 * q - S) * a = t1 at *
    generalize (1073741824 - p * q - C) * b = t2 at *
    generalize q * r1 = t3 at *
    omega
theorem sm2_rot (z f v : Int × Int) (m : Int) (h : FacOk z f) (h1 : -m ≤ v.1) (h2 : v.1 ≤ m) (h3 : -m ≤ v.2) (h4 : v.2 ≤ m) : Rot (z.1, -z.2) v (sm2 v f) m (45000 * m + 1610612736) := by
  obtain ⟨C, S⟩ := z
  obtain ⟨p, q⟩ := f
  obtain ⟨a, b⟩ := v
  obtain ⟨⟨p0, p1⟩, ⟨q0, q1⟩, ⟨c0, c1⟩, ⟨s0, s1⟩, t0, t1⟩ := h
  simp only at p0 p1 q0 q1 c0 c1 s0 s1 t0 t1 h1 h2 h3 h4
  obtain ⟨r1, e1, r10, r11⟩ := prt_eq b p
  obtain ⟨r2, e2, r20, r21⟩ := prt_eq (a + prt b p) q
  obtain ⟨r3, e3, r30, r31⟩ := prt_eq (b - prt (a + prt b p) q) p
  have k1 := mulb _ a 11127 m c0 c1 h1 h2
  have k2 := mulb _ b 1048576000 m s0 s1 h3 h4
  have k3 := mulb _ a 16384 m t0 t1 h1 h2
  have k4 := mulb _ b 11127 m c0 c1 h3 h4
  have k5 := mulb q r1 23170 16384 (by omega) q1 r10 r11
  have k6 := mulb p (32768 * r2 + q * r1) 13573 (32768 * 16384 + 23170 * 16384) (by omega) p1 (by omega) (by omega)
  generalize hx : prt b p = x at *
  generalize hy : prt (a + x) q = y at *
  generalize hz : prt (b - y) p = w at *
  have i1 : 32768 * (1073741824 * (a + x + w) - (C * a - -S * b)) = 32768 * ((1073741824 - p * q - C) * a) + (p * (2147483648 - p * q) - 32768 * S) * b + 1073741824 * r1 - p * (32768 * r2 + q * r1) + 1073741824 * r3 := by grind
  have i2 : 1073741824 * (b - y) - (-S * a + C * b) = -((32768 * q - S) * a) + (1073741824 - p * q - C) * b - (32768 * r2 + q * r1) := by grind
  refine ⟨?_, ?_, by omega⟩
  · simp only [sm2, hx, hy, hz]
    generalize 1073741824 * (a + x + w) - (C * a - -S * b) = D at *
    generalize (1073741824 - p * q - C) * a = t1 at *
    generalize (p * (2147483648 - p * q) - 32768 * S) * b = t2 at *
    generalize p * (32768 * r2 + q * r1) = t3 at *
    omega
  · simp only [sm2, hx, hy]
    generalize 1073741824 * (b - y) - (-S * a + C * b) = D at *
    generalize (32768 * q - S) * a = t1 at *
    generalize (1073741824 - p * q - C) * b = t2 at *
    generalize q * r1 = t3 at *
    omega
theorem Rot.qt {z v w : Int × Int} {A B : Int} (h : Rot z v w A B) : Rot (qt z) v (qt w) A B := by
  obtain ⟨C, S⟩ := z
  obtain ⟨a, b⟩ := v
  obtain ⟨c, d⟩ := w
  obtain ⟨⟨x0, x1⟩, ⟨y0, y1⟩, m0⟩ := h
  simp only at x0 x1 y0 y1
  refine ⟨?_, ?_, m0⟩
  · show -B ≤ 1073741824 * -d - (-S * a - C * b) ∧ 1073741824 * -d - (-S * a - C * b) ≤ B
    rw [Int.neg_mul]
    omega
  · show -B ≤ 1073741824 * c - (C * a + -S * b) ∧ 1073741824 * c - (C * a + -S * b) ≤ B
    rw [Int.neg_mul]
    omega
theorem Rot.qts {z v w : Int × Int} {A B : Int} (h : Rot z v w A B) (n : Nat) : Rot (qts z n) v (qts w n) A B := by
  induction n with
  | zero => exact h
  | succ n ih => exact ih.qt
/-- Another one that is near. -/
theorem Rot.near {z z' v w : Int × Int} {m B D : Int} (h : Rot z v w m B) (h1 : -D ≤ z'.1 - z.1) (h2 : z'.1 - z.1 ≤ D) (h3 : -D ≤ z'.2 - z.2) (h4 : z'.2 - z.2 ≤ D)
    (v1 : -m ≤ v.1) (v2 : v.1 ≤ m) (v3 : -m ≤ v.2) (v4 : v.2 ≤ m) : Rot z' v w m (B + 2 * (D * m)) := by
  obtain ⟨C, S⟩ := z
  obtain ⟨C', S'⟩ := z'
  obtain ⟨a, b⟩ := v
  obtain ⟨c, d⟩ := w
  obtain ⟨⟨x0, x1⟩, ⟨y0, y1⟩, m0⟩ := h
  simp only at x0 x1 y0 y1 h1 h2 h3 h4 v1 v2 v3 v4
  have k1 := mulb _ a D m h1 h2 v1 v2
  have k2 := mulb _ b D m h3 h4 v3 v4
  have k3 := mulb _ a D m h3 h4 v1 v2
  have k4 := mulb _ b D m h1 h2 v3 v4
  have i1 : C' * a - S' * b = (C * a - S * b) + (C' - C) * a - (S' - S) * b := by grind
  have i2 : S' * a + C' * b = (S * a + C * b) + (S' - S) * a + (C' - C) * b := by grind
  refine ⟨?_, ?_, m0⟩
  · simp only
    rw [i1]
    generalize (C' - C) * a = t1 at *
    generalize (S' - S) * b = t2 at *
    generalize D * m = t3 at *
    omega
  · simp only
    rw [i2]
    generalize (S' - S) * a = t1 at *
    generalize (C' - C) * b = t2 at *
    generalize D * m = t3 at *
    omega
theorem Rot.more {z v w : Int × Int} {A B B' : Int} (h : Rot z v w A B) (hb : B ≤ B') : Rot z v w A B' :=
  ⟨by have := h.x; omega, by have := h.y; omega, h.m⟩

/-- A turn by any angle. -/
def lft (v : Int × Int) (k : Int) : Int × Int :=
  if ang k % 128 ≤ 64 then qts (sm1 v (fac9.getD (ang k % 128) (0, 0))) (ang k / 128) else qts (sm2 v (fac9.getD (128 - ang k % 128) (0, 0))) (ang k / 128 + 1)
theorem trN_flip (r : Nat) (hr : 64 < r) (hr2 : r < 128) : -57 ≤ (tab8.getD r (0, 0)).1 - (tab8.getD (128 - r) (0, 0)).2 ∧ (tab8.getD r (0, 0)).1 - (tab8.getD (128 - r) (0, 0)).2 ≤ 57 ∧
    -57 ≤ (tab8.getD r (0, 0)).2 - (tab8.getD (128 - r) (0, 0)).1 ∧ (tab8.getD r (0, 0)).2 - (tab8.getD (128 - r) (0, 0)).1 ≤ 57 := by
  have h : ((List.range 128).all fun r => decide (64 < r → -57 ≤ (tab8.getD r (0, 0)).1 - (tab8.getD (128 - r) (0, 0)).2 ∧ (tab8.getD r (0, 0)).1 - (tab8.getD (128 - r) (0, 0)).2 ≤ 57 ∧
    -57 ≤ (tab8.getD r (0, 0)).2 - (tab8.getD (128 - r) (0, 0)).1 ∧ (tab8.getD r (0, 0)).2 - (tab8.getD (128 - r) (0, 0)).1 ≤ 57)) = true := by decide +kernel
  exact of_decide_eq_true (List.all_eq_true.1 h r (List.mem_range.2 hr2)) hr
/-- A turn is nearly the rotation. -/
theorem lft_rot (v : Int × Int) (k m : Int) (h1 : -m ≤ v.1) (h2 : v.1 ≤ m) (h3 : -m ≤ v.2) (h4 : v.2 ≤ m) : Rot (trg k) v (lft v k) m (65536 * m + 1610612736) := by
  have hlt := ang_lt k
  unfold lft trg
  by_cases h : ang k % 128 ≤ 64
  · rw [if_pos h]
    exact ((sm1_rot _ _ v m (fac_ok _ h) h1 h2 h3 h4).qts _).more (by omega)
  · rw [if_neg h]
    have hf := fac_ok (128 - ang k % 128) (by omega)
    have r0 := (sm2_rot _ _ v m hf h1 h2 h3 h4).qt
    obtain ⟨n1, n2, n3, n4⟩ := trN_flip (ang k % 128) (by omega) (by omega)
    have r1 := r0.near (z' := tab8.getD (ang k % 128) (0, 0)) (D := 57) (by simp only [qt]; omega) (by simp only [qt]; omega) (by simp only [qt]; omega) (by simp only [qt]; omega) h1 h2 h3 h4
    have r2 := r1.qts (ang k / 128)
    have e : ∀ (p : Int × Int) (n : Nat), qts (M.qt p) n = qts p (n + 1) := by
      intro p n
      rw [Nat.add_comm n 1, qts_add]; rfl
    rw [e] at r2
    exact r2.more (by omega)
/-- How great a turn makes numbers. -/
theorem rot_bd (k m : Int) (v w : Int × Int) (h : Rot (trg k) v w m (65536 * m + 1610612736)) (h1 : -m ≤ v.1) (h2 : v.1 ≤ m) (h3 : -m ≤ v.2) (h4 : v.2 ≤ m) :
    -(3 * m + 2) ≤ w.1 ∧ w.1 ≤ 3 * m + 2 ∧ -(3 * m + 2) ≤ w.2 ∧ w.2 ≤ 3 * m + 2 := by
  obtain ⟨b1, b2, b3, b4, _, _⟩ := trg_bd k
  have k1 := mulb _ v.1 1073741824 m b1 b2 h1 h2
  have k2 := mulb _ v.2 1073741824 m b3 b4 h3 h4
  have k3 := mulb _ v.1 1073741824 m b3 b4 h1 h2
  have k4 := mulb _ v.2 1073741824 m b1 b2 h3 h4
  obtain ⟨⟨x0, x1⟩, ⟨y0, y1⟩, m0⟩ := h
  generalize (trg k).1 * v.1 = t1 at *
  generalize (trg k).2 * v.2 = t2 at *
  generalize (trg k).2 * v.1 = t3 at *
  generalize (trg k).1 * v.2 = t4 at *
  omega
theorem twice_x (a b c d e g Cj Sj Ck Sk Cs Ss : Int) : 1073741824 * (1073741824 * (e - g)) = (Cj * Ck - Sj * Sk - 1073741824 * Cs) * a - (Cj * Sk + Sj * Ck - 1073741824 * Ss) * b + Ck * (1073741824 * c - (Cj * a - Sj * b)) - Sk * (1073741824 * d - (Sj * a + Cj * b)) + 1073741824 * (1073741824 * e - (Ck * c - Sk * d)) - 1073741824 * (1073741824 * g - (Cs * a - Ss * b)) := by grind
theorem twice_y (a b c d f h Cj Sj Ck Sk Cs Ss : Int) : 1073741824 * (1073741824 * (f - h)) = (Cj * Sk + Sj * Ck - 1073741824 * Ss) * a + (Cj * Ck - Sj * Sk - 1073741824 * Cs) * b + Sk * (1073741824 * c - (Cj * a - Sj * b)) + Ck * (1073741824 * d - (Sj * a + Cj * b)) + 1073741824 * (1073741824 * f - (Sk * c + Ck * d)) - 1073741824 * (1073741824 * h - (Ss * a + Cs * b)) := by grind
/-- A turn behind a turn. -/
theorem lft_twice (v : Int × Int) (j k m : Int) (h1 : -m ≤ v.1) (h2 : v.1 ≤ m) (h3 : -m ≤ v.2) (h4 : v.2 ≤ m) :
    -(m / 256 + 16) ≤ (lft (lft v j) k).1 - (lft v (j + k)).1 ∧ (lft (lft v j) k).1 - (lft v (j + k)).1 ≤ m / 256 + 16 ∧
    -(m / 256 + 16) ≤ (lft (lft v j) k).2 - (lft v (j + k)).2 ∧ (lft (lft v j) k).2 - (lft v (j + k)).2 ≤ m / 256 + 16 := by
  have ra := lft_rot v j m h1 h2 h3 h4
  obtain ⟨g1, g2, g3, g4⟩ := rot_bd j m v _ ra h1 h2 h3 h4
  have rb := lft_rot (lft v j) k (3 * m + 2) g1 g2 g3 g4
  have rc := lft_rot v (j + k) m h1 h2 h3 h4
  have hm : 0 ≤ m := by omega
  obtain ⟨n1, n2, n3, n4⟩ := of_decide_eq_true (near_all j k)
  obtain ⟨bj1, bj2, bj3, bj4, _, _⟩ := trg_bd j
  obtain ⟨bk1, bk2, bk3, bk4, _, _⟩ := trg_bd k
  simp only [dif] at n1 n2 n3 n4
  generalize lft (lft v j) k = u at *
  generalize lft v j = w at *
  generalize lft v (j + k) = t at *
  generalize trg j = zj at *
  generalize trg k = zk at *
  generalize trg (j + k) = zs at *
  obtain ⟨a, b⟩ := v
  obtain ⟨c, d⟩ := w
  obtain ⟨e, f⟩ := u
  obtain ⟨g, h⟩ := t
  obtain ⟨Cj, Sj⟩ := zj
  obtain ⟨Ck, Sk⟩ := zk
  obtain ⟨Cs, Ss⟩ := zs
  obtain ⟨⟨x0, x1⟩, ⟨y0, y1⟩, _⟩ := ra
  obtain ⟨⟨p0, p1⟩, ⟨q0, q1⟩, _⟩ := rb
  obtain ⟨⟨s0, s1⟩, ⟨t0, t1⟩, _⟩ := rc
  simp only at *
  obtain ⟨F, hF⟩ : ∃ F, 1073741824 * c - (Cj * a - Sj * b) = F := ⟨_, rfl⟩
  obtain ⟨G, hG⟩ : ∃ G, 1073741824 * d - (Sj * a + Cj * b) = G := ⟨_, rfl⟩
  obtain ⟨F2, hF2⟩ : ∃ F, 1073741824 * e - (Ck * c - Sk * d) = F := ⟨_, rfl⟩
  obtain ⟨G2, hG2⟩ : ∃ G, 1073741824 * f - (Sk * c + Ck * d) = G := ⟨_, rfl⟩
  obtain ⟨F3, hF3⟩ : ∃ F, 1073741824 * g - (Cs * a - Ss * b) = F := ⟨_, rfl⟩
  obtain ⟨G3, hG3⟩ : ∃ G, 1073741824 * h - (Ss * a + Cs * b) = G := ⟨_, rfl⟩
  rw [hF] at x0 x1
  rw [hG] at y0 y1
  rw [hF2] at p0 p1
  rw [hG2] at q0 q1
  rw [hF3] at s0 s1
  rw [hG3] at t0 t1
  have i1 := twice_x a b c d e g Cj Sj Ck Sk Cs Ss
  have i2 := twice_y a b c d f h Cj Sj Ck Sk Cs Ss
  rw [hF, hG, hF2, hF3] at i1
  rw [hF, hG, hG2, hG3] at i2
  have k1 := mulb _ a 8796093022208 m n1 n2 h1 h2
  have k2 := mulb _ b 8796093022208 m n3 n4 h3 h4
  have k3 := mulb _ a 8796093022208 m n3 n4 h1 h2
  have k4 := mulb _ b 8796093022208 m n1 n2 h3 h4
  have k5 := mulb Ck F 1073741824 (65536 * m + 1610612736) bk1 bk2 x0 x1
  have k6 := mulb Sk G 1073741824 (65536 * m + 1610612736) bk3 bk4 y0 y1
  have k7 := mulb Sk F 1073741824 (65536 * m + 1610612736) bk3 bk4 x0 x1
  have k8 := mulb Ck G 1073741824 (65536 * m + 1610612736) bk1 bk2 y0 y1
  generalize (Cj * Ck - Sj * Sk - 1073741824 * Cs) * a = t1 at *
  generalize (Cj * Sk + Sj * Ck - 1073741824 * Ss) * b = t2 at *
  generalize (Cj * Sk + Sj * Ck - 1073741824 * Ss) * a = t3 at *
  generalize (Cj * Ck - Sj * Sk - 1073741824 * Cs) * b = t4 at *
  generalize Ck * F = t5 at *
  generalize Sk * G = t6 at *
  generalize Sk * F = t7 at *
  generalize Ck * G = t8 at *
  clear hF hG hF2 hG2 hF3 hG3 bj1 bj2 bj3 bj4 bk1 bk2 bk3 bk4 n1 n2 n3 n4 g1 g2 g3 g4 x0 x1 y0 y1 h1 h2 h3 h4
  refine ⟨?_, ?_, ?_, ?_⟩ <;> omega
theorem sqnn (a : Int) : 0 ≤ a * a := by
  rcases Int.le_total 0 a with h | h
  · exact Int.mul_nonneg h h
  · have := Int.mul_nonneg (show 0 ≤ -a by omega) (show 0 ≤ -a by omega)
    rwa [Int.neg_mul_neg] at this
theorem size_id (a b c d C S : Int) : 1152921504606846976 * (c * c + d * d) = 1152921504606846976 * (a * a + b * b) + (C * C + S * S - 1152921504606846976) * (a * a + b * b) + 2 * ((1073741824 * c - (C * a - S * b)) * (C * a - S * b)) + 2 * ((1073741824 * d - (S * a + C * b)) * (S * a + C * b)) + (1073741824 * c - (C * a - S * b)) * (1073741824 * c - (C * a - S * b)) + (1073741824 * d - (S * a + C * b)) * (1073741824 * d - (S * a + C * b)) := by grind
/-- The squares' sum nearly stays. -/
theorem lft_size (v : Int × Int) (k m : Int) (h1 : -m ≤ v.1) (h2 : v.1 ≤ m) (h3 : -m ≤ v.2) (h4 : v.2 ≤ m) (hm : m = v.1 ∨ m = -v.1 ∨ m = v.2 ∨ m = -v.2) :
    (lft v k).1 * (lft v k).1 + (lft v k).2 * (lft v k).2 ≤ v.1 * v.1 + v.2 * v.2 + ((v.1 * v.1 + v.2 * v.2) / 1024 + 4096 * m + 4096) ∧
    v.1 * v.1 + v.2 * v.2 ≤ (lft v k).1 * (lft v k).1 + (lft v k).2 * (lft v k).2 + ((v.1 * v.1 + v.2 * v.2) / 1024 + 4096 * m + 4096) := by
  have ra := lft_rot v k m h1 h2 h3 h4
  obtain ⟨b1, b2, b3, b4, b5, b6⟩ := trg_bd k
  generalize lft v k = w at *
  generalize trg k = z at *
  obtain ⟨a, b⟩ := v
  obtain ⟨c, d⟩ := w
  obtain ⟨C, S⟩ := z
  obtain ⟨⟨x0, x1⟩, ⟨y0, y1⟩, m0⟩ := ra
  simp only at *
  obtain ⟨F, hF⟩ : ∃ F, 1073741824 * c - (C * a - S * b) = F := ⟨_, rfl⟩
  obtain ⟨G, hG⟩ : ∃ G, 1073741824 * d - (S * a + C * b) = G := ⟨_, rfl⟩
  rw [hF] at x0 x1
  rw [hG] at y0 y1
  have i1 := size_id a b c d C S
  rw [hF, hG] at i1
  have k1 := mulb C a 1073741824 m b1 b2 h1 h2
  have k2 := mulb S b 1073741824 m b3 b4 h3 h4
  have k3 := mulb S a 1073741824 m b3 b4 h1 h2
  have k4 := mulb C b 1073741824 m b1 b2 h3 h4
  have k5 := mulb F (C * a - S * b) (65536 * m + 1610612736) (2147483648 * m) x0 x1 (by omega) (by omega)
  have k6 := mulb G (S * a + C * b) (65536 * m + 1610612736) (2147483648 * m) y0 y1 (by omega) (by omega)
  have k7 := mulb F F (65536 * m + 1610612736) (65536 * m + 1610612736) x0 x1 x0 x1
  have k8 := mulb G G (65536 * m + 1610612736) (65536 * m + 1610612736) y0 y1 y0 y1
  have j1 := mulb a a m m h1 h2 h1 h2
  have j2 := mulb b b m m h3 h4 h3 h4
  have q1 := sqnn a
  have q2 := sqnn b
  have k9 := mulb (C * C + S * S - 1152921504606846976) (a * a + b * b) 4398046511104 (a * a + b * b) b5 b6 (by omega) (by omega)
  have hmm : m * m ≤ a * a + b * b := by
    rcases hm with rfl | rfl | rfl | rfl
    · omega
    · rw [Int.neg_mul_neg]; omega
    · omega
    · rw [Int.neg_mul_neg]; omega
  have e1 : (65536 * m + 1610612736) * (2147483648 * m) = 140737488355328 * (m * m) + 3458764513820540928 * m := by grind
  have e2 : (65536 * m + 1610612736) * (65536 * m + 1610612736) = 4294967296 * (m * m) + 211106232532992 * m + 2594073385365405696 := by grind
  rw [e1] at k5 k6
  rw [e2] at k7 k8
  generalize (C * C + S * S - 1152921504606846976) * (a * a + b * b) = t1 at *
  generalize F * (C * a - S * b) = t2 at *
  generalize G * (S * a + C * b) = t3 at *
  generalize F * F = t4 at *
  generalize G * G = t5 at *
  generalize a * a = A at *
  generalize b * b = B at *
  generalize c * c = U at *
  generalize d * d = V at *
  generalize m * m = Q at *
  clear hF hG b1 b2 b3 b4 b5 b6 x0 x1 y0 y1 h1 h2 h3 h4 k1 k2 k3 k4 hm e1 e2
  refine ⟨?_, ?_⟩ <;> omega
end Go.Proofs.Ytpfdjddjoclldaa.M

/- Plain facts of layers 9 and 10: the undoing of a turn by any angle; that it is nearly a rotation, too; how squares' sums stay, more sharply. No program is named here. No conditions but those that each fact names. -/
namespace Go.Proofs.Ytpfdjddjoclldaa.M

/-- The undoing of a turn. -/
def lfb (v : Int × Int) (k : Int) : Int × Int :=
  if ang k % 128 ≤ 64 then sm2 (qts v (4 - ang k / 128)) (fac9.getD (ang k % 128) (0, 0)) else sm1 (qts v (3 - ang k / 128)) (fac9.getD (128 - ang k % 128) (0, 0))
theorem lfb_lft (v : Int × Int) (k : Int) : lfb (lft v k) k = v := by
  have hlt := ang_lt k
  unfold lfb lft
  by_cases h : ang k % 128 ≤ 64
  · rw [if_pos h, if_pos h, ← qts_add, show ang k / 128 + (4 - ang k / 128) = 4 by omega, qts_four, sm2_sm1]
  · rw [if_neg h, if_neg h, ← qts_add, show ang k / 128 + 1 + (3 - ang k / 128) = 4 by omega, qts_four, sm1_sm2]
theorem lft_lfb (v : Int × Int) (k : Int) : lft (lfb v k) k = v := by
  have hlt := ang_lt k
  unfold lfb lft
  by_cases h : ang k % 128 ≤ 64
  · rw [if_pos h, if_pos h, sm1_sm2, ← qts_add, show 4 - ang k / 128 + ang k / 128 = 4 by omega, qts_four]
  · rw [if_neg h, if_neg h, sm2_sm1, ← qts_add, show 3 - ang k / 128 + (ang k / 128 + 1) = 4 by omega, qts_four]
theorem lft_inj (v w : Int × Int) (k : Int) (h : lft v k = lft w k) : v = w := by rw [← lfb_lft v k, h, lfb_lft]
theorem lft_128 (v : Int × Int) (k : Int) : lft v (k + 128) = qt (lft v k) := by
  have hlt := ang_lt k
  have hr : ang (k + 128) % 128 = ang k % 128 := by unfold ang; omega
  unfold lft
  rw [hr]
  rcases Nat.lt_or_ge (ang k) 384 with h1 | h1
  · have h2 : ang (k + 128) / 128 = ang k / 128 + 1 := by unfold ang at *; omega
    rw [h2]
    split <;> rfl
  · have h2 : ang (k + 128) / 128 = 0 := by unfold ang at *; omega
    have h3 : ang k / 128 = 3 := by omega
    rw [h2, h3]
    split
    · exact (qts_four _).symm
    · show qts _ 1 = qts _ 5
      rw [show (5 : Nat) = 4 + 1 from rfl, qts_add, qts_four]
theorem lft_512 (v : Int × Int) (k : Int) : lft v (k + 512) = lft v k := by unfold lft ang; rw [show (k + 512) % 512 = k % 512 by omega]
theorem facOf_zero : fac9.getD 0 (0, 0) = (0, 0) := rfl
theorem lft_zero (v : Int × Int) : lft v 0 = v := by
  show qts (sm1 v (fac9.getD 0 (0, 0))) 0 = v
  rw [facOf_zero]
  exact sm1_zero v
theorem lft_256 (v : Int × Int) : lft v 256 = (-v.1, -v.2) := by
  have h1 := lft_128 v 0
  have h2 := lft_128 v (0 + 128)
  rw [h1, lft_zero] at h2
  rw [show (256 : Int) = 0 + 128 + 128 by omega, h2]
  rfl

/-- A cosine and a sine. -/
structure Unit8 (z : Int × Int) : Prop where
  x : -1073741824 ≤ z.1 ∧ z.1 ≤ 1073741824
  y : -1073741824 ≤ z.2 ∧ z.2 ≤ 1073741824
  s : -4398046511104 ≤ z.1 * z.1 + z.2 * z.2 - 1152921504606846976 ∧ z.1 * z.1 + z.2 * z.2 - 1152921504606846976 ≤ 4398046511104
theorem unit_trg (k : Int) : Unit8 (trg k) := by
  obtain ⟨h1, h2, h3, h4, h5, h6⟩ := trg_bd k
  exact ⟨⟨h1, h2⟩, ⟨h3, h4⟩, ⟨h5, h6⟩⟩
theorem Unit8.qt {z : Int × Int} (h : Unit8 z) : Unit8 (qt z) := by
  obtain ⟨C, S⟩ := z
  obtain ⟨⟨x0, x1⟩, ⟨y0, y1⟩, s⟩ := h
  simp only at x0 x1 y0 y1 s
  refine ⟨?_, ⟨x0, x1⟩, ?_⟩
  · show -1073741824 ≤ -S ∧ -S ≤ 1073741824
    omega
  · show -4398046511104 ≤ -S * -S + C * C - 1152921504606846976 ∧ -S * -S + C * C - 1152921504606846976 ≤ 4398046511104
    rw [Int.neg_mul_neg]
    omega
theorem Unit8.qts {z : Int × Int} (h : Unit8 z) (n : Nat) : Unit8 (qts z n) := by
  induction n with
  | zero => exact h
  | succ n ih => exact ih.qt
theorem Unit8.conj {z : Int × Int} (h : Unit8 z) : Unit8 (z.1, -z.2) := by
  obtain ⟨C, S⟩ := z
  obtain ⟨⟨x0, x1⟩, ⟨y0, y1⟩, s⟩ := h
  simp only at x0 x1 y0 y1 s
  refine ⟨⟨x0, x1⟩, ?_, ?_⟩
  · show -1073741824 ≤ -S ∧ -S ≤ 1073741824
    omega
  · show -4398046511104 ≤ C * C + -S * -S - 1152921504606846976 ∧ C * C + -S * -S - 1152921504606846976 ≤ 4398046511104
    rw [Int.neg_mul_neg]
    omega
theorem unit_tab (k : Nat) (hk : k < 128) : Unit8 (tab8.getD k (0, 0)) := by
  have h := unit_trg (k : Int)
  rw [trN_trg k (by omega)] at h
  have e : trN k = tab8.getD k (0, 0) := by unfold trN; rw [Nat.mod_eq_of_lt hk, Nat.div_eq_of_lt hk]; rfl
  rw [e] at h
  exact h
/-- What is turned is a quarter on. -/
theorem Rot.arg {z v w : Int × Int} {A B : Int} (h : Rot z (M.qt v) w A B) : Rot (M.qt z) v w A B := by
  obtain ⟨C, S⟩ := z
  obtain ⟨a, b⟩ := v
  obtain ⟨c, d⟩ := w
  obtain ⟨⟨x0, x1⟩, ⟨y0, y1⟩, m0⟩ := h
  simp only [M.qt] at x0 x1 y0 y1
  refine ⟨?_, ?_, m0⟩
  · show -B ≤ 1073741824 * c - (-S * a - C * b) ∧ 1073741824 * c - (-S * a - C * b) ≤ B
    rw [Int.neg_mul]
    rw [Int.mul_neg] at x0 x1
    omega
  · show -B ≤ 1073741824 * d - (C * a + -S * b) ∧ 1073741824 * d - (C * a + -S * b) ≤ B
    rw [Int.neg_mul]
    rw [Int.mul_neg] at y0 y1
    omega
theorem Rot.args {z v w : Int × Int} {A B : Int} : ∀ (n : Nat), Rot z (M.qts v n) w A B → Rot (M.qts z n) v w A B := by
  intro n
  induction n generalizing z with
  | zero => exact fun h => h
  | succ n ih =>
    intro h
    have h1 : Rot (M.qt z) (M.qts v n) w A B := Rot.arg h
    have h2 := ih h1
    have e : M.qts (M.qt z) n = M.qts z (n + 1) := by rw [Nat.add_comm n 1, qts_add]; rfl
    rw [e] at h2
    exact h2
theorem qts_bd (v : Int × Int) (m : Int) (h1 : -m ≤ v.1) (h2 : v.1 ≤ m) (h3 : -m ≤ v.2) (h4 : v.2 ≤ m) (n : Nat) : -m ≤ (qts v n).1 ∧ (qts v n).1 ≤ m ∧ -m ≤ (qts v n).2 ∧ (qts v n).2 ≤ m := by
  induction n with
  | zero => exact ⟨h1, h2, h3, h4⟩
  | succ n ih =>
    obtain ⟨k1, k2, k3, k4⟩ := ih
    show -m ≤ -(qts v n).2 ∧ -(qts v n).2 ≤ m ∧ -m ≤ (qts v n).1 ∧ (qts v n).1 ≤ m
    omega
/-- The undoing is nearly a rotation, too. -/
theorem lfb_rot (v : Int × Int) (k m : Int) (h1 : -m ≤ v.1) (h2 : v.1 ≤ m) (h3 : -m ≤ v.2) (h4 : v.2 ≤ m) : ∃ z, Unit8 z ∧ Rot z v (lfb v k) m (65536 * m + 1610612736) := by
  have hlt := ang_lt k
  unfold lfb
  by_cases h : ang k % 128 ≤ 64
  · rw [if_pos h]
    obtain ⟨k1, k2, k3, k4⟩ := qts_bd v m h1 h2 h3 h4 (4 - ang k / 128)
    exact ⟨_, (unit_tab _ (by omega)).conj.qts (4 - ang k / 128), (Rot.args _ (sm2_rot _ _ _ m (fac_ok _ h) k1 k2 k3 k4)).more (by omega)⟩
  · rw [if_neg h]
    obtain ⟨k1, k2, k3, k4⟩ := qts_bd v m h1 h2 h3 h4 (3 - ang k / 128)
    exact ⟨_, (unit_tab _ (by omega)).qts (3 - ang k / 128), (Rot.args _ (sm1_rot _ _ _ m (fac_ok (128 - ang k % 128) (by omega)) k1 k2 k3 k4)).more (by omega)⟩
theorem lft_rot' (v : Int × Int) (k m : Int) (h1 : -m ≤ v.1) (h2 : v.1 ≤ m) (h3 : -m ≤ v.2) (h4 : v.2 ≤ m) : ∃ z, Unit8 z ∧ Rot z v (lft v k) m (65536 * m + 1610612736) :=
  ⟨_, unit_trg k, lft_rot v k m h1 h2 h3 h4⟩

/-- A number whose square is no greater than another one's. -/
theorem sq_le (t r : Int) (hr : 0 ≤ r) (h : t * t ≤ r * r) : -r ≤ t ∧ t ≤ r := by
  rcases Int.lt_or_le r t with k | k
  · have := Int.mul_le_mul (show r + 1 ≤ t by omega) (show r + 1 ≤ t by omega) (by omega) (by omega)
    have e : (r + 1) * (r + 1) = r * r + 2 * r + 1 := by grind
    omega
  · rcases Int.lt_or_le t (-r) with k2 | k2
    · have := Int.mul_le_mul (show r + 1 ≤ -t by omega) (show r + 1 ≤ -t by omega) (by omega) (by omega)
      have e : (r + 1) * (r + 1) = r * r + 2 * r + 1 := by grind
      rw [Int.neg_mul_neg] at this
      omega
    · exact ⟨k2, k⟩
theorem brah (a b C S : Int) : (C * a - S * b) * (C * a - S * b) + (S * a + C * b) * (S * a + C * b) = (C * C + S * S) * (a * a + b * b) := by grind
theorem sq_split (a b C S : Int) : (C * C + S * S) * (a * a + b * b) = 1152921504606846976 * (a * a + b * b) + (C * C + S * S - 1152921504606846976) * (a * a + b * b) := by grind
/-- How the squares' sum stays under what is nearly a rotation. -/
theorem rot_size (z v w : Int × Int) (m : Int) (hz : Unit8 z) (hr : Rot z v w m (65536 * m + 1610612736)) (h1 : -m ≤ v.1) (h2 : v.1 ≤ m) (h3 : -m ≤ v.2) (h4 : v.2 ≤ m) (hm : m * m ≤ v.1 * v.1 + v.2 * v.2) :
    2500 * (w.1 * w.1 + w.2 * w.2 - (v.1 * v.1 + v.2 * v.2)) ≤ (v.1 * v.1 + v.2 * v.2) + 21500 * m + 15000 ∧
    2500 * (v.1 * v.1 + v.2 * v.2 - (w.1 * w.1 + w.2 * w.2)) ≤ (v.1 * v.1 + v.2 * v.2) + 21500 * m + 15000 := by
  obtain ⟨a, b⟩ := v
  obtain ⟨c, d⟩ := w
  obtain ⟨C, S⟩ := z
  obtain ⟨⟨b1, b2⟩, ⟨b3, b4⟩, b5, b6⟩ := hz
  obtain ⟨⟨x0, x1⟩, ⟨y0, y1⟩, m0⟩ := hr
  simp only at *
  have i1 := size_id a b c d C S
  have j1 := mulb a a m m h1 h2 h1 h2
  have j2 := mulb b b m m h3 h4 h3 h4
  have q1 := sqnn a
  have q2 := sqnn b
  have k9 := mulb (C * C + S * S - 1152921504606846976) (a * a + b * b) 4398046511104 (a * a + b * b) b5 b6 (by omega) (by omega)
  have e0 := brah a b C S
  rw [sq_split] at e0
  have s1 := sqnn (C * a - S * b)
  have s2 := sqnn (S * a + C * b)
  have e3 : (1518600000 * m) * (1518600000 * m) = 2306145960000000000 * (m * m) := by grind
  have n1 := sq_le (C * a - S * b) (1518600000 * m) (by omega) (by rw [e3]; omega)
  have n2 := sq_le (S * a + C * b) (1518600000 * m) (by omega) (by rw [e3]; omega)
  obtain ⟨F, hF⟩ : ∃ F, 1073741824 * c - (C * a - S * b) = F := ⟨_, rfl⟩
  obtain ⟨G, hG⟩ : ∃ G, 1073741824 * d - (S * a + C * b) = G := ⟨_, rfl⟩
  rw [hF, hG] at i1
  rw [hF] at x0 x1
  rw [hG] at y0 y1
  have k5 := mulb F (C * a - S * b) (65536 * m + 1610612736) (1518600000 * m) x0 x1 n1.1 n1.2
  have k6 := mulb G (S * a + C * b) (65536 * m + 1610612736) (1518600000 * m) y0 y1 n2.1 n2.2
  have k7 := mulb F F (65536 * m + 1610612736) (65536 * m + 1610612736) x0 x1 x0 x1
  have k8 := mulb G G (65536 * m + 1610612736) (65536 * m + 1610612736) y0 y1 y0 y1
  have e1 : (65536 * m + 1610612736) * (1518600000 * m) = 99522969600000 * (m * m) + 2445876500889600000 * m := by grind
  have e2 : (65536 * m + 1610612736) * (65536 * m + 1610612736) = 4294967296 * (m * m) + 211106232532992 * m + 2594073385365405696 := by grind
  rw [e1] at k5 k6
  rw [e2] at k7 k8
  generalize (C * C + S * S - 1152921504606846976) * (a * a + b * b) = t1 at *
  generalize F * (C * a - S * b) = t2 at *
  generalize G * (S * a + C * b) = t3 at *
  generalize F * F = t4 at *
  generalize G * G = t5 at *
  generalize a * a = A at *
  generalize b * b = B at *
  generalize c * c = U at *
  generalize d * d = V at *
  generalize m * m = Q at *
  clear hF hG b1 b2 b3 b4 b5 b6 x0 x1 y0 y1 h1 h2 h3 h4 e1 e2 e3 n1 n2 s1 s2 e0
  refine ⟨?_, ?_⟩ <;> omega
end Go.Proofs.Ytpfdjddjoclldaa.M
