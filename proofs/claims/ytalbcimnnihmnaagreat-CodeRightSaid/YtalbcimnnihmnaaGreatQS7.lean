/-
  Contracts and plain facts that the laws share; each piece is headed by what it holds and its conditions.
-/
import Derived.Test.YtalbcimnnihmnaaGreatQS6
import Derived.Test.YtalbcimnnihmnaaGreatQS5
import Derived.Test.YtalbcimnnihmnaaGreatQS1

/- What the reference's Sum of layer 15 reckons: the first sixteen bits made one with the register's, the division, the sixteen bits that are left. Conditions: those that each fact names. -/
namespace Go.Proofs.YtalbcimnnihmnaaGreat
open Go.RowKit
open M
/-- A text's bits. -/
def tb15 (l : List UInt8) (n : Nat) : List Bool := (List.range n).map (bt15 l)
theorem tb_len (l : List UInt8) (n : Nat) : (tb15 l n).length = n := by simp [tb15]
/-- Bits as numbers. -/
def bm15 (L : List Bool) : List Int := L.map bI15
theorem bm_len (L : List Bool) : (bm15 L).length = L.length := by simp [bm15]
theorem bts_bm (l : List UInt8) (n : Nat) : bts15 l n = bm15 (tb15 l n) := by simp [bts15, bm15, tb15]
theorem bm_app (L : List Bool) (n : Nat) : bm15 L ++ List.replicate n 0 = bm15 (L ++ List.replicate n false) := by
  simp [bm15, bI15]
theorem bm_get (L : List Bool) (j : Nat) : (bm15 L).getD j 0 = bI15 (L.getD j false) := by
  simp only [bm15, List.getD_eq_getElem?_getD, List.getElem?_map]
  cases L[j]? <;> simp [bI15]
theorem bm_set (L : List Bool) (j : Nat) (b : Bool) : (bm15 L).set j (bI15 b) = bm15 (L.set j b) := by
  simp [bm15, List.map_set]
theorem bI_bd (b : Bool) : 0 ≤ bI15 b ∧ bI15 b ≤ 1 := by cases b <;> simp [bI15]
theorem bI_not (b : Bool) : 1 - bI15 b = bI15 (!b) := by cases b <;> rfl
/-- The first i of the first sixteen made one with the register's. -/
def xa15 (R : BitVec 16) (L : List Bool) (i : Nat) : List Bool := (List.range L.length).map fun k => if k < i then (L.getD k false != R.getLsbD (15 - k)) else L.getD k false
theorem xa_len (R : BitVec 16) (L : List Bool) (i : Nat) : (xa15 R L i).length = L.length := by simp [xa15]
theorem getD_ext (L M : List Bool) (h : L.length = M.length) (k : ∀ j, j < L.length → L.getD j false = M.getD j false) : L = M := by
  apply List.ext_getElem h
  intro j h1 h2
  have := k j h1
  rw [List.getD_eq_getElem?_getD, List.getD_eq_getElem?_getD, List.getElem?_eq_getElem h1, List.getElem?_eq_getElem h2] at this
  simpa using this
theorem xa_at (R : BitVec 16) (L : List Bool) (i k : Nat) (h : k < L.length) : (xa15 R L i).getD k false = if k < i then (L.getD k false != R.getLsbD (15 - k)) else L.getD k false := by
  simp only [xa15, List.getD_eq_getElem?_getD, List.getElem?_map, List.getElem?_range h, Option.map_some, Option.getD_some]
theorem xa_zero (R : BitVec 16) (L : List Bool) : xa15 R L 0 = L := getD_ext _ _ (xa_len R L 0) fun j hj => by
  rw [xa_at _ _ _ _ (by rwa [xa_len] at hj), if_neg (by omega)]
theorem xa_full (R : BitVec 16) (L : List Bool) : xa15 R L 16 = xw15 R L := getD_ext _ _ (by rw [xa_len, xw_len]) fun j hj => by
  rw [xa_len] at hj
  rw [xa_at _ _ _ _ hj, xw_at _ _ _ hj]
  by_cases h : j < 16
  · rw [if_pos h, show decide (j < 16) = true from decide_eq_true h, Bool.true_and]
  · rw [if_neg h, show decide (j < 16) = false from decide_eq_false h, Bool.false_and]
    cases L.getD j false <;> rfl
theorem getD_setB (L : List Bool) (i j : Nat) (b : Bool) (h : i < L.length) : (L.set i b).getD j false = if i = j then b else L.getD j false := by
  rw [List.getD_eq_getElem?_getD, List.getElem?_set]
  by_cases e : i = j
  · subst e; simp [h]
  · simp [e, List.getD_eq_getElem?_getD]
theorem xa_step (R : BitVec 16) (L : List Bool) (i : Nat) (h : i < L.length) : (xa15 R L i).set i (L.getD i false != R.getLsbD (15 - i)) = xa15 R L (i + 1) := getD_ext _ _ (by simp [xa_len]) fun j hj => by
  have hj2 : j < L.length := by simpa [xa_len] using hj
  rw [getD_setB _ _ _ _ (by rw [xa_len]; exact h), xa_at _ _ _ _ hj2, xa_at _ _ _ _ hj2]
  by_cases e : i = j
  · subst e
    rw [if_pos rfl, if_pos (by omega)]
  · rw [if_neg e]
    by_cases h2 : j < i
    · rw [if_pos h2, if_pos (by omega)]
    · rw [if_neg h2, if_neg (by omega)]
/-- A register's bit, by division. -/
theorem reg_bit (r0 i : Nat) (h : i < 16) (b : Bool) : (bI15 b + ((r0 / 2 ^ (15 - i) : Nat) : Int)) % 2 = bI15 (b != (BitVec.ofNat 16 r0).getLsbD (15 - i)) := by
  have hb : (BitVec.ofNat 16 r0).getLsbD (15 - i) = decide (r0 / 2 ^ (15 - i) % 2 = 1) := by
    rw [BitVec.getLsbD_ofNat, Nat.testBit_eq_decide_div_mod_eq]
    simp; intro _; omega
  rw [hb]
  generalize r0 / 2 ^ (15 - i) = x
  rcases Nat.mod_two_eq_zero_or_one x with h0 | h0 <;> cases b <;> simp [bI15, h0] <;> omega
/-- One step of the division, where its bit is 1. -/
theorem dv_one (R : BitVec 16) (l : List Bool) (i : Nat) (h : i < l.length) (hb : (dv15 R l i).getD i false = true) :
    (((((dv15 R l i).set i false).set (i + 4) (!(dv15 R l i).getD (i + 4) false)).set (i + 11) (!(dv15 R l i).getD (i + 11) false)).set (i + 16) (!(dv15 R l i).getD (i + 16) false)) = dv15 R l (i + 1) := by
  obtain ⟨b, h1, h2⟩ := dv_next R l i h
  rw [hb] at h1
  subst h1
  have hl := dv_len R l i (by omega)
  refine getD_ext _ _ (by simp [hl, dv_len R l (i + 1) (by omega)]) fun j hj => ?_
  have hj2 : j < l.length + 16 := by simpa [hl] using hj
  rw [getD_setB _ _ _ _ (by simp [hl]; omega), getD_setB _ _ _ _ (by simp [hl]; omega), getD_setB _ _ _ _ (by simp [hl]; omega), getD_setB _ _ _ _ (by rw [hl]; omega), h2 j hj2]
  by_cases e0 : j = i
  · subst e0
    rw [if_neg (by omega), if_neg (by omega), if_neg (by omega), if_pos rfl, if_pos rfl]
  · rw [if_neg e0]
    by_cases e1 : j = i + 4
    · subst e1; rw [if_neg (by omega), if_neg (by omega), if_pos rfl]; simp
    · by_cases e2 : j = i + 11
      · subst e2; rw [if_neg (by omega), if_pos rfl]; simp
      · by_cases e3 : j = i + 16
        · subst e3; rw [if_pos rfl]; simp
        · rw [if_neg (by omega), if_neg (by omega), if_neg (by omega), if_neg (by omega)]
          have : (j == i + 4 || j == i + 11 || j == i + 16) = false := by simp; omega
          rw [this]; simp
/-- .. where it is 0. -/
theorem dv_none (R : BitVec 16) (l : List Bool) (i : Nat) (h : i < l.length) (hb : (dv15 R l i).getD i false = false) : dv15 R l i = dv15 R l (i + 1) := by
  obtain ⟨b, h1, h2⟩ := dv_next R l i h
  rw [hb] at h1
  subst h1
  have hl := dv_len R l i (by omega)
  refine getD_ext _ _ (by rw [hl, dv_len R l (i + 1) (by omega)]) fun j hj => ?_
  rw [h2 j (by rwa [hl] at hj)]
  by_cases e0 : j = i
  · subst e0; rw [if_pos rfl, hb]
  · rw [if_neg e0, Bool.false_and]
    cases (dv15 R l i).getD j false <;> rfl
theorem iV_set15 (l : List Int) (i : Nat) (x : Int) : (iV l).set i (.int .i64 x) = iV (l.set i x) := by simp [iV, List.map_set]
theorem pw15 (k : Nat) (h : k < 15) : (2 : Nat) ^ (15 - k) / 2 = 2 ^ (15 - (k + 1)) := by
  have : 15 - k = (15 - (k + 1)) + 1 := by omega
  rw [this, Nat.pow_succ, Nat.mul_div_cancel _ (by decide)]
theorem pw15_bd (k : Nat) : 1 ≤ (2 : Nat) ^ (15 - k) ∧ (2 : Nat) ^ (15 - k) ≤ 32768 :=
  ⟨Nat.one_le_two_pow, Nat.pow_le_pow_right (n := 2) (by decide) (show 15 - k ≤ 15 by omega)⟩
/-- The highest k bits. -/
theorem top_step (x : BitVec 16) (k : Nat) (h : k < 16) : 2 * (x.toNat / 2 ^ (16 - k)) + (bI15 (x.getLsbD (15 - k))).toNat = x.toNat / 2 ^ (16 - (k + 1)) := by
  have e : 16 - k = (15 - k) + 1 := by omega
  have e2 : 16 - (k + 1) = 15 - k := by omega
  rw [e, e2, Nat.pow_succ, ← Nat.div_div_eq_div_mul, BitVec.getLsbD, Nat.testBit_eq_decide_div_mod_eq]
  generalize x.toNat / 2 ^ (15 - k) = y
  by_cases h2 : y % 2 = 1
  · simp [bI15, h2]; omega
  · simp [bI15, h2]; omega
/-- What the sum of bytes is, r being what it is at first. -/
def sm15 (r : Int) (l : List UInt8) : Nat := (crun (BitVec.ofNat 16 (r % 65536).toNat) (tb15 l (8 * l.length))).toNat
end Go.Proofs.YtalbcimnnihmnaaGreat

/- A sum's two bytes (plain). No conditions. -/
namespace Go.Proofs.YtalbcimnnihmnaaGreat
open Go.RowKit
open M
/-- A sum's bytes. -/
def ld15 (n : Nat) : ByteArray := ofB [UInt8.ofNat (n / 256), UInt8.ofNat (n % 256)]
theorem ub_hi (n : Nat) : ub (UInt8.ofNat (n / 256)) = ((n / 256 % 256 : Nat) : Int) := by unfold ub; rw [UInt8.toNat_ofNat']
theorem ub_lo (n : Nat) : ub (UInt8.ofNat (n % 256)) = ((n % 256 : Nat) : Int) := by unfold ub; rw [UInt8.toNat_ofNat', Nat.mod_mod]
end Go.Proofs.YtalbcimnnihmnaaGreat

/- Plain facts of layer 19: a shape's steps and pulses, whether it is right for a size, a packet's text. No conditions but those that each fact names. -/
namespace Go.Proofs.YtalbcimnnihmnaaGreat
open Go.RowKit
open M
/-- Is none of four too great for pulses? -/
def fw19 (y : List Int) : Bool := (List.range 4).all fun j => decide (-12 ≤ y.getD j 0 ∧ y.getD j 0 ≤ 12)
theorem fw_iff (y : List Int) : fw19 y = true ↔ ∀ j, j < 4 → -12 ≤ y.getD j 0 ∧ y.getD j 0 ≤ 12 := by
  unfold fw19
  rw [List.all_eq_true]
  exact ⟨fun h j hj => by simpa using h j (List.mem_range.2 hj), fun h j hj => by simpa using h j (List.mem_range.1 hj)⟩
/-- A band's pulses; 13: too many. -/
def pu19 (y : List Int) : Nat := if fw19 y = true then min (pl13 y) 13 else 13
theorem pu_few (y : List Int) (h : ∀ j, j < 4 → -12 ≤ y.getD j 0 ∧ y.getD j 0 ≤ 12) (h2 : pl13 y ≤ 12) : pu19 y = pl13 y := by
  unfold pu19
  rw [if_pos ((fw_iff y).2 h)]
  omega
theorem pu_not (y : List Int) (k : Nat) (hk : k < 4) (h : ¬ (-12 ≤ y.getD k 0 ∧ y.getD k 0 ≤ 12)) : pu19 y = 13 := by
  unfold pu19
  rw [if_neg fun e => h ((fw_iff y).1 e k hk)]
theorem pl_few19 : ∀ (y : List Int) (j : Nat), (y.getD j 0).natAbs ≤ pl13 y
  | [], j => by simp
  | x :: r, 0 => by simp [pl13]
  | x :: r, j + 1 => by
    have := pl_few19 r j
    simp only [List.getD_cons_succ, pl13]
    omega
theorem pu_pl (y : List Int) (h : pl13 y ≤ 12) : pu19 y = pl13 y := pu_few y (fun j _ => by have := pl_few19 y j; omega) h
/-- A shape's steps. -/
def sds (l : List Int) : List Int := pto l 0 8
/-- A shape's pulses in a band. -/
def sys (l : List Int) (b : Nat) : List Int := pto l (8 + b * 4) 4
/-- How many pulses its bands are given. -/
def gk19 (l : List Int) (n : Nat) : Nat → Nat := giv (fun b => (sds l).getD b 0) n
/-- Is a shape right for a size? -/
def rg19 (l : List Int) (z : Int) : Bool := decide (12 ≤ z ∧ z ≤ 24) && rt17 (sds l) && (List.range 8).all fun b => decide (pu19 (sys l b) = gk19 l (8 * z - 64).toNat b)
theorem rg_size (l : List Int) (z : Int) (h : ¬ (12 ≤ z ∧ z ≤ 24)) : rg19 l z = false := by
  unfold rg19; rw [decide_eq_false h]; rfl
theorem rg_steps (l : List Int) (z : Int) (h : rt17 (sds l) = false) : rg19 l z = false := by
  unfold rg19; rw [h, Bool.and_false]; rfl
theorem rg_band (l : List Int) (z : Int) (b : Nat) (hb : b < 8) (h : ¬ pu19 (sys l b) = gk19 l (8 * z - 64).toNat b) : rg19 l z = false := by
  unfold rg19
  have : (List.range 8).all (fun b => decide (pu19 (sys l b) = gk19 l (8 * z - 64).toNat b)) = false := by
    rw [List.all_eq_false]
    exact ⟨b, List.mem_range.2 hb, by simpa using h⟩
  rw [this, Bool.and_false]
theorem rg_yes (l : List Int) (z : Int) (h1 : 12 ≤ z ∧ z ≤ 24) (h2 : rt17 (sds l) = true) (h3 : ∀ b, b < 8 → pu19 (sys l b) = gk19 l (8 * z - 64).toNat b) : rg19 l z = true := by
  unfold rg19
  rw [decide_eq_true h1, h2, List.all_eq_true.2 fun b hb => by simpa using h3 b (List.mem_range.1 hb)]
  rfl
/-- A packet's first bits: its number, its first b steps. -/
def lb19 (fr : Nat) (l : List Int) : Nat → List Bool
  | 0 => bitsOf fr 16
  | b + 1 => lb19 fr l b ++ bitsOf (l.getD b 0).toNat 4
theorem lb19_len (fr : Nat) (l : List Int) (b : Nat) : (lb19 fr l b).length = 16 + 4 * b := by
  induction b with
  | zero => exact bitsOf_length _ _
  | succ b ih =>
    show (lb19 fr l b ++ bitsOf _ 4).length = _
    rw [List.length_append, ih, bitsOf_length]; omega
/-- .. and its first b bands' pulses. -/
def yb19 (fr : Nat) (l : List Int) : Nat → List Bool
  | 0 => lb19 fr l 8
  | b + 1 => yb19 fr l b ++ bitsOf (ix13 (sys l b)) (btc (pl13 (sys l b)))
theorem yb19_len (fr : Nat) (l : List Int) (b : Nat) : (yb19 fr l b).length ≤ 48 + 13 * b := by
  induction b with
  | zero => exact Nat.le_of_eq (lb19_len fr l 8)
  | succ b ih =>
    show (yb19 fr l b ++ bitsOf _ _).length ≤ _
    rw [List.length_append, bitsOf_length]
    have := btc_bd (pl13 (sys l b))
    omega
/-- .. and zero bits behind them. -/
def pb19 (fr : Nat) (l : List Int) (z : Nat) : List Bool := yb19 fr l 8 ++ List.replicate (8 * z - 16 - (yb19 fr l 8).length) false
/-- A packet: its text, and its sum behind it. -/
def ly19 (fr : Nat) (l : List Int) (z : Nat) : ByteArray :=
  ofB (pack (pb19 fr l z)) ++ ld15 (sm15 65535 (bl (ofB (pack (pb19 fr l z)))))
theorem sm15_lt (r : Int) (l : List UInt8) : sm15 r l < 65536 := (crun _ _).isLt
theorem w8_19 (h : Nat) (hh : h < 256) : wrap64 (h : Int) % 256 = (h : Int) := by rw [wrap64]; omega
/-- A sum's bytes, and the numbers that a walk makes them of. -/
theorem ld15_parts (X : Nat) : ∃ (a b : UInt8), ld15 X = ofB [a, b] ∧ IntKind.u8.wrap ((X : Int) / 256) = ub a ∧ (X : Int) % 256 = ub b ∧ IntKind.u8.wrap (ub b) = ub b ∧ wrap64 ((X : Int) / 256) % 256 = ub a := by
  refine ⟨UInt8.ofNat (X / 256), UInt8.ofNat (X % 256), rfl, ?_, ?_, ?_, ?_⟩
  · rw [IntKind.wrap_u8', ub_hi]; omega
  · rw [ub_lo]; omega
  · rw [IntKind.wrap_u8', ub_lo]; omega
  · rw [wrap64, ub_hi]; omega
end Go.Proofs.YtalbcimnnihmnaaGreat

/- Plain facts of layer 16: the greatest of four, a frame's band. No program is named here. No conditions. -/
namespace Go.Proofs.YtalbcimnnihmnaaGreat
open Go.RowKit
open M
/-- The greatest of four, without signs. -/
def gm16 (l : List Int) : Nat := max (max (l.getD 0 0).natAbs (l.getD 1 0).natAbs) (max (l.getD 2 0).natAbs (l.getD 3 0).natAbs)
/-- A band's four. -/
def bd16 (f : List Int) (b : Nat) : List Int := [f.getD (4 * b) 0, f.getD (4 * b + 1) 0, f.getD (4 * b + 2) 0, f.getD (4 * b + 3) 0]
end Go.Proofs.YtalbcimnnihmnaaGreat
