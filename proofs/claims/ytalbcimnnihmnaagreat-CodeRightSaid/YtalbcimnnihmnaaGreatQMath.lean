/-
  Plain facts on words of 64 bits, on bytes laid the lowest first, and on the rounds of layer 1: no program is named here. No conditions.
-/
import Derived.Laws.BitsAllLaws
import Derived.Laws.Bits64
namespace Go.Proofs.YtalbcimnnihmnaaGreat
namespace M

/-- A word as the model's number. -/
def un (x : BitVec 64) : Int := (x.toNat : Int)

theorem un_bd (x : BitVec 64) : 0 ≤ un x ∧ un x < 18446744073709551616 := by
  have := x.isLt
  unfold un
  omega
theorem un_nonneg (x : BitVec 64) : 0 ≤ un x := (un_bd x).1
theorem un_inj {x y : BitVec 64} : un x = un y ↔ x = y :=
  ⟨fun h => BitVec.eq_of_toNat_eq (by unfold un at h; omega), fun h => by rw [h]⟩
theorem un_beq (x y : BitVec 64) : (un x == un y) = (x == y) := by
  rw [Bool.eq_iff_iff]; simp [un_inj]
theorem un_bne (x y : BitVec 64) : (un x != un y) = (x != y) := by
  simp only [bne, un_beq]
theorem un_add (x y : BitVec 64) : IntKind.u64.wrap (un x + un y) = un (x + y) := by
  rw [IntKind.wrap_u64]; unfold un; rw [BitVec.toNat_add]; omega
theorem un_sub (x y : BitVec 64) : IntKind.u64.wrap (un x - un y) = un (x - y) := by
  rw [IntKind.wrap_u64]; unfold un; rw [BitVec.toNat_sub]; have := x.isLt; have := y.isLt; omega
theorem un_xor (x y : BitVec 64) : bits .xor .u64 (un x) (un y) = un (x ^^^ y) := by
  unfold un; rw [u64_xor_nat _ _ x.isLt y.isLt, BitVec.toNat_xor]
theorem un_or (x y : BitVec 64) : bits .or .u64 (un x) (un y) = un (x ||| y) := by
  unfold un; rw [u64_or_nat _ _ x.isLt y.isLt, BitVec.toNat_or]
/-- Any number that is within its kind is a word. -/
theorem un_of (n : Int) (h0 : 0 ≤ n) (h1 : n < 18446744073709551616) : n = un (BitVec.ofNat 64 n.toNat) := by
  unfold un; rw [BitVec.toNat_ofNat]; omega
theorem un_lit (n : Nat) (h : n < 18446744073709551616) : un (BitVec.ofNat 64 n) = (n : Int) := by
  unfold un; rw [BitVec.toNat_ofNat]; omega

theorem un_xor_255 (x : BitVec 64) : bits .xor .u64 (un x) 255 = un (x ^^^ 255#64) := un_xor x 255#64

/-- A word turned left. -/
def rot (x : BitVec 64) (n : Int) : BitVec 64 := x.rotateLeft (n % 64).toNat

theorem rl_rl (x : BitVec 64) (a b : Nat) (ha : a < 64) (hb : b < 64) : (x.rotateLeft a).rotateLeft b = x.rotateLeft ((a + b) % 64) := by
  apply BitVec.eq_of_getLsbD_eq
  intro i hi
  simp only [BitVec.getLsbD_rotateLeft, Nat.mod_eq_of_lt ha, Nat.mod_eq_of_lt hb, Nat.mod_mod]
  by_cases h1 : i < b <;> by_cases h2 : a + b < 64
  · rw [Nat.mod_eq_of_lt h2]
    simp only [h1, show i < a + b by omega, decide_true, cond_true, show ¬ 64 - b + i < a by omega, decide_false, cond_false, show 64 - b + i < 64 by omega, Bool.true_and]
    congr 1; omega
  · rw [show (a + b) % 64 = a + b - 64 by omega]
    by_cases h3 : i < a + b - 64
    · simp only [h1, h3, decide_true, cond_true, show 64 - b + i < a by omega]
      congr 1; omega
    · simp only [h1, h3, decide_true, cond_true, decide_false, cond_false, show ¬ 64 - b + i < a by omega, show 64 - b + i < 64 by omega, hi, Bool.true_and]
      congr 1; omega
  · rw [Nat.mod_eq_of_lt h2]
    by_cases h3 : i < a + b
    · simp only [h1, h3, hi, decide_true, decide_false, cond_true, cond_false, show i - b < a by omega, Bool.true_and]
      congr 1; omega
    · simp only [h1, h3, hi, decide_true, decide_false, cond_false, show ¬ i - b < a by omega, show i - b < 64 by omega, Bool.true_and]
      congr 1; omega
  · rw [show (a + b) % 64 = a + b - 64 by omega]
    simp only [h1, hi, decide_true, decide_false, cond_true, cond_false, show i - b < a by omega, show ¬ i < a + b - 64 by omega, Bool.true_and]
    congr 1; omega

theorem rot_rot (x : BitVec 64) (n m : Int) : rot (rot x n) m = rot x (n + m) := by
  unfold rot
  rw [rl_rl _ _ _ (by omega) (by omega)]
  congr 1; omega
theorem rot_period (x : BitVec 64) (n : Int) : rot x (n + 64) = rot x n := by
  unfold rot; congr 1; omega
theorem rot_zero (x : BitVec 64) : rot x 0 = x := by
  unfold rot
  apply BitVec.eq_of_getLsbD_eq
  intro i hi
  simp [hi]
theorem rot_back (x : BitVec 64) (n : Int) : rot (rot x n) (-n) = x := by
  rw [rot_rot, show n + -n = 0 by omega, rot_zero]
theorem rot_back' (x : BitVec 64) (n : Int) : rot (rot x (-n)) n = x := by
  rw [rot_rot, show -n + n = 0 by omega, rot_zero]

/-- What RotateLeft64 reckons: two shifts and an or. -/
theorem rot_shifts (x : BitVec 64) (k : Nat) (hk : k < 64) : bits .or .u64 (IntKind.u64.wrap (un x * 2 ^ k)) (un x / 2 ^ (64 - k)) = un (x.rotateLeft k) := by
  have hx := x.isLt
  have e1 : IntKind.u64.wrap (un x * 2 ^ k) = ((x.toNat * 2 ^ k % 18446744073709551616 : Nat) : Int) := by
    rw [IntKind.wrap_u64]; unfold un
    have : ((x.toNat : Int) * 2 ^ k) = ((x.toNat * 2 ^ k : Nat) : Int) := by simp
    rw [this]; omega
  have e2 : un x / 2 ^ (64 - k) = ((x.toNat / 2 ^ (64 - k) : Nat) : Int) := by unfold un; simp
  rw [e1, e2, u64_or_nat _ _ (Nat.mod_lt _ (by omega)) (Nat.lt_of_le_of_lt (Nat.div_le_self _ _) hx)]
  unfold un
  rw [BitVec.toNat_rotateLeft, Nat.mod_eq_of_lt hk, Nat.shiftLeft_eq, Nat.shiftRight_eq_div_pow]

/-- One step of the reference's turn. -/
def dbl (x : BitVec 64) : BitVec 64 := x.rotateLeft 1
theorem dbl_nat (x : BitVec 64) : un (dbl x) = (2 * un x) % 18446744073709551616 + (if 9223372036854775808 ≤ un x then 1 else 0) := by
  have hx := x.isLt
  unfold dbl un
  rw [BitVec.toNat_rotateLeft, show 1 % 64 = 1 from rfl, Nat.shiftLeft_eq, Nat.shiftRight_eq_div_pow, show 64 - 1 = 63 from rfl]
  rw [nat_join 1 _ _ (by omega) (by omega)]
  split <;> omega
theorem dbl_hi (y : BitVec 64) (h : 9223372036854775808 ≤ un y) : IntKind.u64.wrap (IntKind.u64.wrap (2 * un y) + 1) = un (dbl y) := by
  have := un_bd y
  rw [dbl_nat, if_pos h, IntKind.wrap_u64, IntKind.wrap_u64]; omega
theorem dbl_lo (y : BitVec 64) (h : ¬ 9223372036854775808 ≤ un y) : IntKind.u64.wrap (2 * un y) = un (dbl y) := by
  rw [dbl_nat, if_neg h, IntKind.wrap_u64]; omega
/-- Is the highest bit set? -/
def top (y : BitVec 64) : Bool := decide (9223372036854775808 ≤ un y)
theorem top_def (y : BitVec 64) : decide (9223372036854775808 ≤ un y) = top y := rfl
theorem dbl_top (y : BitVec 64) (h : top y = true) : IntKind.u64.wrap (IntKind.u64.wrap (2 * un y) + 1) = un (dbl y) := dbl_hi y (of_decide_eq_true h)
theorem dbl_not (y : BitVec 64) (h : top y = false) : IntKind.u64.wrap (2 * un y) = un (dbl y) := dbl_lo y (of_decide_eq_false h)
def lefts : Nat → BitVec 64 → BitVec 64
  | 0, x => x
  | n + 1, x => dbl (lefts n x)
theorem lefts_rot (n : Nat) (x : BitVec 64) : lefts n x = rot x n := by
  induction n with
  | zero => exact (rot_zero x).symm
  | succ n ih =>
    show dbl (lefts n x) = _
    have e : dbl (lefts n x) = rot (lefts n x) 1 := rfl
    rw [e, ih, rot_rot]; rfl

/-- Four words. -/
structure V4 where
  a : BitVec 64
  b : BitVec 64
  c : BitVec 64
  d : BitVec 64

def V4.round (v : V4) : V4 :=
  let a1 := v.a + v.b
  let b1 := rot v.b 13 ^^^ a1
  let a2 := rot a1 32
  let c1 := v.c + v.d
  let d1 := rot v.d 16 ^^^ c1
  let a3 := a2 + d1
  let d2 := rot d1 21 ^^^ a3
  let c2 := c1 + b1
  let b2 := rot b1 17 ^^^ c2
  let c3 := rot c2 32
  ⟨a3, b2, c3, d2⟩

def rounds : Nat → V4 → V4
  | 0, v => v
  | n + 1, v => (rounds n v).round

def V4.back (v : V4) : V4 :=
  let c1 := rot v.c (-32)
  let b1 := rot (v.b ^^^ c1) (-17)
  let c2 := c1 - b1
  let d1 := rot (v.d ^^^ v.a) (-21)
  let a1 := v.a - d1
  let d2 := rot (d1 ^^^ c2) (-16)
  let c3 := c2 - d2
  let a2 := rot a1 (-32)
  let b2 := rot (b1 ^^^ a2) (-13)
  let a3 := a2 - b2
  ⟨a3, b2, c3, d2⟩

theorem xx (x y : BitVec 64) : (x ^^^ y) ^^^ y = x := by rw [BitVec.xor_assoc, BitVec.xor_self, BitVec.xor_zero]
theorem V4.back_round (v : V4) : v.round.back = v := by
  obtain ⟨a, b, c, d⟩ := v
  simp only [V4.round, V4.back, rot_back, xx, BitVec.add_sub_cancel]

/-- The number that bytes are, the lowest first. -/
def le : List UInt8 → Nat
  | [] => 0
  | b :: r => b.toNat + 256 * le r
theorem le_lt : ∀ l : List UInt8, le l < 256 ^ l.length
  | [] => by simp [le]
  | b :: r => by
    have := le_lt r
    have hb := b.toNat_lt
    simp only [le, List.length_cons, Nat.pow_succ]
    omega
theorem le_snoc (l : List UInt8) (b : UInt8) : le (l ++ [b]) = le l + b.toNat * 256 ^ l.length := by
  induction l with
  | nil => simp [le]
  | cons c r ih =>
    simp only [List.cons_append, le, List.length_cons, ih, Nat.pow_succ, Nat.mul_add]
    have e : 256 * (b.toNat * 256 ^ r.length) = b.toNat * (256 ^ r.length * 256) := by
      rw [Nat.mul_comm 256, Nat.mul_assoc]
    omega
theorem le_append (l m : List UInt8) : le (l ++ m) = le l + le m * 256 ^ l.length := by
  induction l with
  | nil => simp [le]
  | cons c r ih =>
    simp only [List.cons_append, le, List.length_cons, ih, Nat.pow_succ, Nat.mul_add]
    have e : 256 * (le m * 256 ^ r.length) = le m * (256 ^ r.length * 256) := by
      rw [Nat.mul_comm 256, Nat.mul_assoc]
    omega
theorem le_inj : ∀ l m : List UInt8, l.length = m.length → le l = le m → l = m
  | [], [], _, _ => rfl
  | [], _ :: _, h, _ => by simp at h
  | _ :: _, [], h, _ => by simp at h
  | b :: r, c :: t, h, e => by
    simp only [le] at e
    have hb := b.toNat_lt
    have hc := c.toNat_lt
    have e1 : b.toNat = c.toNat := by omega
    have e2 : le r = le t := by omega
    rw [le_inj r t (by simpa using h) e2, UInt8.toNat_inj.1 e1]
theorem le_lt8 (l : List UInt8) (h : l.length ≤ 8) : le l < 18446744073709551616 := by
  have h1 := le_lt l
  have h2 : (256 : Nat) ^ l.length ≤ 256 ^ 8 := Nat.pow_le_pow_right (by omega) h
  have h3 : (256 : Nat) ^ 8 = 18446744073709551616 := by decide
  omega
theorem le_lt7 (l : List UInt8) (h : l.length ≤ 7) : le l < 72057594037927936 := by
  have h1 := le_lt l
  have h2 : (256 : Nat) ^ l.length ≤ 256 ^ 7 := Nat.pow_le_pow_right (by omega) h
  have h3 : (256 : Nat) ^ 7 = 72057594037927936 := by decide
  omega

/-- A text's bytes. -/
def bl (s : ByteArray) : List UInt8 := s.data.toList
theorem bl_length (s : ByteArray) : (bl s).length = s.size := by simp [bl]
/-- A text of these bytes. -/
def ofB (l : List UInt8) : ByteArray := ⟨l.toArray⟩
theorem bl_ofB (l : List UInt8) : bl (ofB l) = l := rfl
theorem ofB_bl (s : ByteArray) : ofB (bl s) = s := by
  obtain ⟨⟨l⟩⟩ := s
  rfl
theorem ofB_size (l : List UInt8) : (ofB l).size = l.length := by simp [ofB, ByteArray.size]
/-- Bytes as a word. -/
def word (l : List UInt8) : BitVec 64 := BitVec.ofNat 64 (le l)
theorem un_word (l : List UInt8) (h : l.length ≤ 8) : un (word l) = (le l : Int) := un_lit _ (le_lt8 l h)

theorem un_word_nil : un (word []) = 0 := by rw [un_word [] (by simp)]; rfl
theorem take_snoc (s : ByteArray) (k : Nat) (h : k < s.size) : (bl s).take (k + 1) = (bl s).take k ++ [s[k]] := by
  unfold bl
  rw [List.take_succ_eq_append_getElem (by simpa using h)]; rfl

/-- One step of join: the k-th byte is laid ahead of those that are there. -/
theorem join_step (l : List UInt8) (b : UInt8) (k : Nat) (hk : l.length = k) (h : k < 8) :
    bits .or .u64 (un (word l)) (IntKind.u64.wrap ((b.toNat : Int) * 2 ^ (8 * k))) = un (word (l ++ [b])) := by
  have hb := b.toNat_lt
  have e256 : (2 : Nat) ^ (8 * k) = 256 ^ k := by rw [Nat.pow_mul]
  have hp : 256 ^ k * 256 ≤ 18446744073709551616 := by
    have h2 : (256 : Nat) ^ (k + 1) ≤ 256 ^ 8 := Nat.pow_le_pow_right (by omega) h
    have h3 : (256 : Nat) ^ 8 = 18446744073709551616 := by decide
    rw [Nat.pow_succ] at h2; omega
  have hm : b.toNat * 256 ^ k < 18446744073709551616 := by
    have : b.toNat * 256 ^ k ≤ 255 * 256 ^ k := Nat.mul_le_mul_right _ (by omega)
    have h0 : 0 < 256 ^ k := Nat.pow_pos (by omega)
    omega
  have e1 : IntKind.u64.wrap ((b.toNat : Int) * 2 ^ (8 * k)) = ((b.toNat * 256 ^ k : Nat) : Int) := by
    rw [IntKind.wrap_u64, ← e256]
    have : ((b.toNat : Int) * 2 ^ (8 * k)) = ((b.toNat * 2 ^ (8 * k) : Nat) : Int) := by simp
    rw [this]; rw [← e256] at hm; omega
  have hl := le_lt l
  rw [hk] at hl
  rw [e1, un_word l (by omega), un_word _ (by simp; omega), u64_or_nat _ _ (le_lt8 l (by omega)) hm, le_snoc, hk, Nat.or_comm,
    nat_join (8 * k) _ _ (by rw [e256]; exact Nat.mul_mod_left _ _) (by rw [e256]; exact hl)]
  omega

theorem join_step' (s : ByteArray) (k : Nat) (hk : k < s.size) (h : k < 8) :
    bits .or .u64 (un (word ((bl s).take k))) (IntKind.u64.wrap (IntKind.u64.wrap (s[k].toNat : Int) * 2 ^ (8 * k))) = un (word ((bl s).take (k + 1))) := by
  have hb := s[k].toNat_lt
  rw [show IntKind.u64.wrap (s[k].toNat : Int) = s[k].toNat by rw [IntKind.wrap_u64]; omega, take_snoc s k hk]
  exact join_step _ _ k (by simp [bl_length]; omega) h

/-- The eight bytes from a place on, but for the first k: what the reference has taken so far. -/
def tail8 (s : ByteArray) (p k : Nat) : BitVec 64 := word ((s.data.toList.drop (p + k)).take (8 - k))
theorem tail8_end (s : ByteArray) (p : Nat) : un (tail8 s p 8) = 0 := by
  unfold tail8; rw [show 8 - 8 = 0 from rfl, List.take_zero, un_word_nil]
theorem tail8_in (s : ByteArray) (p j : Nat) (hj : j < 8) (h : p + j < s.size) :
    IntKind.u64.wrap (IntKind.u64.wrap (256 * un (tail8 s p (j + 1))) + IntKind.u64.wrap (s[p + j].toNat : Int)) = un (tail8 s p j) := by
  have e : (s.data.toList.drop (p + j)).take (8 - j) = s[p + j] :: (s.data.toList.drop (p + (j + 1))).take (8 - (j + 1)) := by
    rw [List.drop_eq_getElem_cons (by simpa using h), show 8 - j = (8 - (j + 1)) + 1 by omega, List.take_succ_cons]; rfl
  have hl : ((s.data.toList.drop (p + (j + 1))).take (8 - (j + 1))).length ≤ 7 := by simp; omega
  have h7 := le_lt7 _ hl
  have hb := s[p + j].toNat_lt
  unfold tail8
  rw [e, un_word ((s.data.toList.drop (p + (j + 1))).take (8 - (j + 1))) (by omega), un_word _ (by rw [List.length_cons]; omega), IntKind.wrap_u64, IntKind.wrap_u64, IntKind.wrap_u64]
  simp only [le]; omega
theorem tail8_out (s : ByteArray) (p j : Nat) (h : ¬ p + j < s.size) :
    IntKind.u64.wrap (256 * un (tail8 s p (j + 1))) = un (tail8 s p j) := by
  have hs : s.data.toList.length = s.size := by simp
  unfold tail8
  rw [List.drop_of_length_le (by omega), List.drop_of_length_le (by omega), List.take_nil, List.take_nil, un_word_nil, IntKind.wrap_u64]
  rfl

/-- The last word of a text: the bytes that are left, and how many there are in all. -/
def lastWord (l : List UInt8) (n : Nat) : BitVec 64 := BitVec.ofNat 64 (le l + n % 256 * 72057594037927936)
theorem un_lastWord (l : List UInt8) (n : Nat) (h : l.length ≤ 7) : un (lastWord l n) = (le l + n % 256 * 72057594037927936 : Nat) :=
  un_lit _ (by have := le_lt7 l h; omega)
theorem last_or (l : List UInt8) (n : Nat) (h : l.length ≤ 7) :
    bits .or .u64 (un (word l)) (IntKind.u64.wrap ((n : Int) * 72057594037927936)) = un (lastWord l n) := by
  have h7 := le_lt7 l h
  have e1 : IntKind.u64.wrap ((n : Int) * 72057594037927936) = ((n % 256 * 72057594037927936 : Nat) : Int) := by
    rw [IntKind.wrap_u64]; omega
  rw [e1, un_word l (by omega), un_lastWord l n h, u64_or_nat _ _ (by omega) (by omega), Nat.or_comm, nat_join 56 _ _ (by simp) (by omega)]
  omega
theorem last_add (l : List UInt8) (n : Nat) (h : l.length ≤ 7) :
    IntKind.u64.wrap (un (word l) + IntKind.u64.wrap (((n % 256 : Nat) : Int) * 72057594037927936)) = un (lastWord l n) := by
  have h7 := le_lt7 l h
  rw [IntKind.wrap_u64, IntKind.wrap_u64, un_word l (by omega), un_lastWord l n h]
  omega

/-- The i-th word of a text. -/
def wordAt (s : List UInt8) (i : Nat) : BitVec 64 :=
  if 8 * i + 8 ≤ s.length then word ((s.drop (8 * i)).take 8) else lastWord (s.drop (8 * i)) s.length
theorem ext_drop (s : ByteArray) (i : Nat) : (s.extract (i * 8) s.size).data.toList = s.data.toList.drop (8 * i) := by
  simp only [ByteArray.data_extract, Array.toList_extract, List.extract_eq_take_drop]
  rw [Nat.mul_comm, List.take_of_length_le (by simp)]
theorem ext_first (s : ByteArray) : (s.extract 0 8).data.toList = s.data.toList.take 8 := by
  simp only [ByteArray.data_extract, Array.toList_extract, List.extract_eq_take_drop, List.drop_zero, Nat.sub_zero]
theorem wordAt_in (s : ByteArray) (i : Nat) (h : 8 * i + 8 ≤ s.size) : word (bl ((s.extract (i * 8) s.size).extract 0 8)) = wordAt (bl s) i := by
  have hs := bl_length s
  unfold wordAt
  rw [if_pos (by omega)]
  unfold bl
  rw [ext_first, ext_drop]
theorem wordAt_last (s : ByteArray) (i : Nat) (h : ¬ 8 * i + 8 ≤ s.size) (h' : 8 * i ≤ s.size) :
    bits .or .u64 (un (word (bl (s.extract (i * 8) s.size)))) (IntKind.u64.wrap ((s.size : Int) * 72057594037927936)) = un (wordAt (bl s) i) := by
  have hs := bl_length s
  unfold wordAt
  rw [if_neg (by omega), hs]
  unfold bl at hs ⊢
  rw [ext_drop, last_or _ _ (by rw [List.length_drop]; omega)]
def words (s : List UInt8) : List (BitVec 64) := (List.range (s.length / 8 + 1)).map (wordAt s)
theorem words_length (s : List UInt8) : (words s).length = s.length / 8 + 1 := by simp [words]
theorem words_get (s : List UInt8) (i : Nat) (h : i < s.length / 8 + 1) : (words s)[i]? = some (wordAt s i) := by
  simp [words, h]

theorem lastWord_inj {l m : List UInt8} {a b : Nat} (hl : l.length ≤ 7) (hm : m.length ≤ 7) (ha : a ≤ 255) (hb : b ≤ 255) (h : lastWord l a = lastWord m b) : le l = le m ∧ a = b := by
  have h1 := un_lastWord l a hl
  have h2 := un_lastWord m b hm
  rw [h, h2] at h1
  have := le_lt7 l hl
  have := le_lt7 m hm
  omega
theorem word_inj {l m : List UInt8} (hl : l.length = 8) (hm : m.length = 8) (h : word l = word m) : l = m := by
  have h1 := un_word l (by omega)
  rw [h, un_word m (by omega)] at h1
  exact le_inj l m (by omega) (by omega)
/-- Unlike texts have unlike words. -/
theorem words_inj {l m : List UInt8} (hl : l.length ≤ 255) (hm : m.length ≤ 255) (h : words l = words m) : l = m := by
  have hn : l.length / 8 = m.length / 8 := by
    have := congrArg List.length h
    rw [words_length, words_length] at this; omega
  have hat : ∀ i, i < l.length / 8 + 1 → wordAt l i = wordAt m i := by
    intro i hi
    have h1 := words_get l i hi
    have h2 := words_get m i (by omega)
    rw [h] at h1
    rw [h2] at h1
    exact (Option.some.inj h1).symm
  have hlast := hat (l.length / 8) (by omega)
  unfold wordAt at hlast
  rw [if_neg (by omega), if_neg (by omega)] at hlast
  obtain ⟨e1, e2⟩ := lastWord_inj (by rw [List.length_drop]; omega) (by rw [List.length_drop]; omega) hl hm hlast
  have e3 := le_inj _ _ (by rw [List.length_drop, List.length_drop]; omega) e1
  have htake : ∀ i, i ≤ l.length / 8 → l.take (8 * i) = m.take (8 * i) := by
    intro i
    induction i with
    | zero => intro _; rfl
    | succ i ih =>
      intro hi
      have h1 := hat i (by omega)
      unfold wordAt at h1
      rw [if_pos (by omega), if_pos (by omega)] at h1
      have h2 := word_inj (by rw [List.length_take, List.length_drop]; omega) (by rw [List.length_take, List.length_drop]; omega) h1
      rw [show 8 * (i + 1) = 8 * i + 8 by omega, List.take_add, List.take_add, ih (by omega), h2]
  have ht := htake (l.length / 8) (by omega)
  rw [← List.take_append_drop (8 * (l.length / 8)) l, ht, e3, List.take_append_drop]

/-- What a word does to the four. -/
def V4.take (v : V4) (w : BitVec 64) : V4 :=
  let u := (V4.mk v.a v.b v.c (v.d ^^^ w)).round.round
  ⟨u.a ^^^ w, u.b, u.c, u.d⟩
def V4.start (k l : BitVec 64) : V4 :=
  ⟨k ^^^ 8317987319222330741#64, l ^^^ 7237128888997146477#64, k ^^^ 7816392313619706465#64, l ^^^ 8387220255154660723#64⟩
def V4.done (v : V4) : BitVec 64 :=
  let u := (V4.mk v.a v.b (v.c ^^^ 255#64) v.d).round.round.round.round
  u.a ^^^ u.b ^^^ u.c ^^^ u.d
/-- The sum of a text under a key of sixteen bytes. -/
def sum (k s : List UInt8) : BitVec 64 := (((words s).foldl V4.take (V4.start (word (k.take 8)) (word (k.drop 8)))).done)

/-- The four behind the first n words. -/
def upto (k s : List UInt8) (n : Nat) : V4 := ((words s).take n).foldl V4.take (V4.start (word (k.take 8)) (word (k.drop 8)))
theorem upto_zero (k s : List UInt8) : upto k s 0 = V4.start (word (k.take 8)) (word (k.drop 8)) := rfl
theorem upto_succ (k s : List UInt8) (n : Nat) (h : n < s.length / 8 + 1) : upto k s (n + 1) = (upto k s n).take (wordAt s n) := by
  unfold upto
  have e : (words s).take (n + 1) = (words s).take n ++ [wordAt s n] := by
    rw [List.take_add_one, words_get s n h]; rfl
  rw [e, List.foldl_append]; rfl
theorem upto_done (k s : List UInt8) (n : Nat) (h : n = s.length / 8 + 1) : (upto k s n).done = sum k s := by
  have e : (words s).take n = words s := List.take_of_length_le (by rw [words_length]; omega)
  unfold upto sum
  rw [e]

theorem rot_neg (x : BitVec 64) (n : Int) : rot x (n + -n) = x := by rw [show n + -n = 0 by omega, rot_zero]

/-- A word's j-th byte, the lowest first. -/
def byteN (x : BitVec 64) (j : Nat) : UInt8 := UInt8.ofNat (x.toNat / 2 ^ (8 * j) % 256)
theorem byteN_nat (x : BitVec 64) (j : Nat) : (byteN x j).toNat = x.toNat / 2 ^ (8 * j) % 256 := by
  unfold byteN; exact UInt8.toNat_ofNat_of_lt' (Nat.mod_lt _ (by decide))
theorem byteN_wrap (x : BitVec 64) (j : Nat) : IntKind.u8.wrap (un x / 2 ^ (8 * j)) = ((byteN x j).toNat : Int) := by
  have e : un x / 2 ^ (8 * j) = ((x.toNat / 2 ^ (8 * j) : Nat) : Int) := by unfold un; simp
  rw [e, IntKind.wrap_u8', byteN_nat, Int.natCast_emod]
  rfl
/-- A word's eight bytes. -/
def bytes8 (x : BitVec 64) : List UInt8 := [byteN x 0, byteN x 1, byteN x 2, byteN x 3, byteN x 4, byteN x 5, byteN x 6, byteN x 7]
theorem word_bytes8 (x : BitVec 64) : word (bytes8 x) = x := by
  apply BitVec.eq_of_toNat_eq
  have hx := x.isLt
  have h := un_word (bytes8 x) (Nat.le_refl 8)
  unfold un at h
  have h2 : (word (bytes8 x)).toNat = le (bytes8 x) := by omega
  rw [h2]
  simp only [bytes8, le, byteN_nat]
  omega
/-- The key of two words, as far as its loop has come. -/
def keyI (a b : BitVec 64) (i : Nat) : List UInt8 := (bytes8 a).take i ++ List.replicate (8 - i) 0 ++ ((bytes8 b).take i ++ List.replicate (8 - i) 0)
theorem keyI_length (a b : BitVec 64) (i : Nat) (h : i ≤ 8) : (keyI a b i).length = 16 := by
  simp [keyI, bytes8]; omega

/-- The bytes 0, 1, 2 .. -/
def asc (n : Nat) : List UInt8 := (List.range n).map UInt8.ofNat
/-- The document's key, as far as its loop has come. -/
def keyU (i : Nat) : List UInt8 := asc i ++ List.replicate (16 - i) 0
theorem asc_length (n : Nat) : (asc n).length = n := by simp [asc]
theorem asc_succ (n : Nat) : asc (n + 1) = asc n ++ [UInt8.ofNat n] := by simp [asc, List.range_succ]

theorem awake : sum [0, 1, 2, 3, 4, 5, 6, 7, 8, 9, 10, 11, 12, 13, 14, 15] [0, 1, 2, 3, 4, 5, 6, 7, 8, 9, 10, 11, 12, 13, 14] = 11613035633349379557#64 := by
  decide +kernel
theorem un_awake : un (sum (keyU 16) (bl (ofB (asc 15)))) = 11613035633349379557 := by
  have e : sum (keyU 16) (bl (ofB (asc 15))) = 11613035633349379557#64 := awake
  rw [e]; exact un_lit 11613035633349379557 (by decide)

end M
end Go.Proofs.YtalbcimnnihmnaaGreat
