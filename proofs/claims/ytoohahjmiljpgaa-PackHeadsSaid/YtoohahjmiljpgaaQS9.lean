/-
  Contracts and plain facts that the laws share; each piece is headed by what it holds and its conditions.
-/
import Derived.Test.YtoohahjmiljpgaaQS8
import Derived.Test.YtoohahjmiljpgaaQS7
import Derived.Test.YtoohahjmiljpgaaQS1

/- A sum's two bytes, and the text of them. No conditions but those that each fact names. -/
namespace Go.Proofs.Ytoohahjmiljpgaa
open Go.RowKit
open M
/-- A sum's bytes. -/
def ld15 (n : Nat) : ByteArray := ofB [UInt8.ofNat (n / 256), UInt8.ofNat (n % 256)]
theorem conv_two (W : World) (g : Nat) (a b : UInt8) (t : TypeId) (hg : W.heap.size = g) :
    (convert 44 9 (.slice (some ⟨g, 0, none⟩) 2 2)).run Try.prog (W.alloc (.cells #[.int .u8 (ub a), .int .u8 (ub b)] t)) = .ok (.string (ofB [a, b])) (W.alloc (.cells #[.int .u8 (ub a), .int .u8 (ub b)] t)) := by
  subst hg
  refine run_conv _ W.heap.size 0 2 2 [a, b] rfl fun i hi => ?_
  rcases (show i = 0 ∨ i = 1 by simp at hi; omega) with rfl | rfl
  · exact cell_of_row _ _ _ _ _ _ (row_new W _ rfl #[.int .u8 (ub a), .int .u8 (ub b)] t)
  · exact cell_of_row _ _ _ _ _ _ (row_new W _ rfl #[.int .u8 (ub a), .int .u8 (ub b)] t)
theorem ub_hi (n : Nat) : ub (UInt8.ofNat (n / 256)) = ((n / 256 % 256 : Nat) : Int) := by unfold ub; rw [UInt8.toNat_ofNat']
theorem ub_lo (n : Nat) : ub (UInt8.ofNat (n % 256)) = ((n % 256 : Nat) : Int) := by unfold ub; rw [UInt8.toNat_ofNat', Nat.mod_mod]
end Go.Proofs.Ytoohahjmiljpgaa

/- Plain facts of layer 19: a shape's steps and pulses, whether it is right for a size, a packet's text. No conditions but those that each fact names. -/
namespace Go.Proofs.Ytoohahjmiljpgaa
open Go.RowKit
open M
/-- Is none of four too great for pulses? -/
def fw19 (y : List Int) : Bool := (List.range 4).all fun j => decide (-12 ≤ y.getD j 0 ∧ y.getD j 0 ≤ 12)
theorem fw_iff (y : List Int) : fw19 y = true ↔ ∀ j, j < 4 → -12 ≤ y.getD j 0 ∧ y.getD j 0 ≤ 12 := by
  unfold fw19
  rw [List.all_eq_true]
  exact ⟨fun h j hj => by simpa using h j (List.mem_range.2 hj), fun h j hj => by simpa using h j (List.mem_range.1 hj)⟩
/-- A band's pulses; 13: too many. -/
def pu19 (y : List Int) : Nat := if fw19 y = true then min (pl13 y) 13 else 13
theorem pu_few (y : List Int) (h : ∀ j, j < 4 → -12 ≤ y.getD j 0 ∧ y.getD j 0 ≤ 12) (h2 : pl13 y ≤ 12) : pu19 y = pl13 y := by
  unfold pu19
  rw [if_pos ((fw_iff y).2 h)]
  omega
theorem pu_not (y : List Int) (k : Nat) (hk : k < 4) (h : ¬ (-12 ≤ y.getD k 0 ∧ y.getD k 0 ≤ 12)) : pu19 y = 13 := by
  unfold pu19
  rw [if_neg fun e => h ((fw_iff y).1 e k hk)]
theorem pl_few19 : ∀ (y : List Int) (j : Nat), (y.getD j 0).natAbs ≤ pl13 y
  | [], j => by simp
  | x :: r, 0 => by simp [pl13]
  | x :: r, j + 1 => by
    have := pl_few19 r j
    simp only [List.getD_cons_succ, pl13]
    omega
theorem pu_pl (y : List Int) (h : pl13 y ≤ 12) : pu19 y = pl13 y := pu_few y (fun j _ => by have := pl_few19 y j; omega) h
/-- A shape's steps. -/
def sds (l : List Int) : List Int := pto l 0 8
/-- A shape's pulses in a band. -/
def sys (l : List Int) (b : Nat) : List Int := pto l (8 + b * 4) 4
/-- How many pulses its bands are given. -/
def gk19 (l : List Int) (n : Nat) : Nat → Nat := giv (fun b => (sds l).getD b 0) n
/-- Is a shape right for a size? -/
def rg19 (l : List Int) (z : Int) : Bool := decide (12 ≤ z ∧ z ≤ 24) && rt17 (sds l) && (List.range 8).all fun b => decide (pu19 (sys l b) = gk19 l (8 * z - 64).toNat b)
theorem rg_size (l : List Int) (z : Int) (h : ¬ (12 ≤ z ∧ z ≤ 24)) : rg19 l z = false := by
  unfold rg19; rw [decide_eq_false h]; rfl
theorem rg_steps (l : List Int) (z : Int) (h : rt17 (sds l) = false) : rg19 l z = false := by
  unfold rg19; rw [h, Bool.and_false]; rfl
theorem rg_band (l : List Int) (z : Int) (b : Nat) (hb : b < 8) (h : ¬ pu19 (sys l b) = gk19 l (8 * z - 64).toNat b) : rg19 l z = false := by
  unfold rg19
  have : (List.range 8).all (fun b => decide (pu19 (sys l b) = gk19 l (8 * z - 64).toNat b)) = false := by
    rw [List.all_eq_false]
    exact ⟨b, List.mem_range.2 hb, by simpa using h⟩
  rw [this, Bool.and_false]
theorem rg_yes (l : List Int) (z : Int) (h1 : 12 ≤ z ∧ z ≤ 24) (h2 : rt17 (sds l) = true) (h3 : ∀ b, b < 8 → pu19 (sys l b) = gk19 l (8 * z - 64).toNat b) : rg19 l z = true := by
  unfold rg19
  rw [decide_eq_true h1, h2, List.all_eq_true.2 fun b hb => by simpa using h3 b (List.mem_range.1 hb)]
  rfl
/-- A packet's first bits: its number, its first b steps. -/
def lb19 (fr : Nat) (l : List Int) : Nat → List Bool
  | 0 => bitsOf fr 16
  | b + 1 => lb19 fr l b ++ bitsOf (l.getD b 0).toNat 4
theorem lb19_len (fr : Nat) (l : List Int) (b : Nat) : (lb19 fr l b).length = 16 + 4 * b := by
  induction b with
  | zero => exact bitsOf_length _ _
  | succ b ih =>
    show (lb19 fr l b ++ bitsOf _ 4).length = _
    rw [List.length_append, ih, bitsOf_length]; omega
/-- .. and its first b bands' pulses. -/
def yb19 (fr : Nat) (l : List Int) : Nat → List Bool
  | 0 => lb19 fr l 8
  | b + 1 => yb19 fr l b ++ bitsOf (ix13 (sys l b)) (btc (pl13 (sys l b)))
theorem yb19_len (fr : Nat) (l : List Int) (b : Nat) : (yb19 fr l b).length ≤ 48 + 13 * b := by
  induction b with
  | zero => exact Nat.le_of_eq (lb19_len fr l 8)
  | succ b ih =>
    show (yb19 fr l b ++ bitsOf _ _).length ≤ _
    rw [List.length_append, bitsOf_length]
    have := btc_bd (pl13 (sys l b))
    omega
/-- .. and zero bits behind them. -/
def pb19 (fr : Nat) (l : List Int) (z : Nat) : List Bool := yb19 fr l 8 ++ List.replicate (8 * z - 16 - (yb19 fr l 8).length) false
/-- A packet: its text, and its sum behind it. -/
def ly19 (fr : Nat) (l : List Int) (z : Nat) : ByteArray :=
  ofB (pack (pb19 fr l z)) ++ ld15 (sm15 65535 (bl (ofB (pack (pb19 fr l z)))))
theorem sm15_lt (r : Int) (l : List UInt8) : sm15 r l < 65536 := (crun _ _).isLt
theorem w8_19 (h : Nat) (hh : h < 256) : wrap64 (h : Int) % 256 = (h : Int) := by rw [wrap64]; omega
/-- A sum's bytes, and the numbers that a walk makes them of. -/
theorem ld15_parts (X : Nat) : ∃ (a b : UInt8), ld15 X = ofB [a, b] ∧ IntKind.u8.wrap ((X : Int) / 256) = ub a ∧ (X : Int) % 256 = ub b ∧ IntKind.u8.wrap (ub b) = ub b ∧ wrap64 ((X : Int) / 256) % 256 = ub a := by
  refine ⟨UInt8.ofNat (X / 256), UInt8.ofNat (X % 256), rfl, ?_, ?_, ?_, ?_⟩
  · rw [IntKind.wrap_u8', ub_hi]; omega
  · rw [ub_lo]; omega
  · rw [IntKind.wrap_u8', ub_lo]; omega
  · rw [wrap64, ub_hi]; omega
end Go.Proofs.Ytoohahjmiljpgaa

/- Layer 19: what pack's Right is to answer, as a condition. No conditions. -/
namespace Go.Proofs.Ytoohahjmiljpgaa
open Go.RowKit
open M
def RigOk : Prop := ∀ (l : List Int) (z : Int) (w : World), l.length = 40 → Calls Try.prog 12 #[.agg (iCells l), .int .i64 z] w fun e w' => e = .returned (.bool (rg19 l z)) ∧ Below w.heap.size w w'
end Go.Proofs.Ytoohahjmiljpgaa

/- A text's bits, as layer 15's laws ask of them: texts one behind the other, a bit turned, what is sealed, bits changed within sixteen. No program is named here. Conditions: those that each fact names. -/
namespace Go.Proofs.Ytoohahjmiljpgaa
open Go.RowKit
open M
theorem gD_left {α : Type} (L M : List α) (d : α) (j : Nat) (h : j < L.length) : (L ++ M).getD j d = L.getD j d := by
  rw [List.getD_eq_getElem?_getD, List.getElem?_append_left h, ← List.getD_eq_getElem?_getD]
theorem gD_right {α : Type} (L M : List α) (d : α) (j : Nat) (h : L.length ≤ j) : (L ++ M).getD j d = M.getD (j - L.length) d := by
  rw [List.getD_eq_getElem?_getD, List.getElem?_append_right h, ← List.getD_eq_getElem?_getD]
theorem gD_rep (n j : Nat) : (List.replicate n false).getD j false = false := by
  rw [List.getD_eq_getElem?_getD, List.getElem?_replicate]
  split <;> rfl
theorem gD_take {α : Type} (L : List α) (d : α) (n j : Nat) (h : j < n) : (L.take n).getD j d = L.getD j d := by
  rw [List.getD_eq_getElem?_getD, List.getElem?_take, if_pos h, ← List.getD_eq_getElem?_getD]
theorem gD_drop {α : Type} (L : List α) (d : α) (n j : Nat) : (L.drop n).getD j d = L.getD (n + j) d := by
  rw [List.getD_eq_getElem?_getD, List.getElem?_drop, ← List.getD_eq_getElem?_getD]
theorem gD_set {α : Type} (L : List α) (i j : Nat) (v d : α) (h : i < L.length) : (L.set i v).getD j d = if i = j then v else L.getD j d := by
  rw [List.getD_eq_getElem?_getD, List.getElem?_set]
  by_cases e : i = j
  · subst e; simp [h]
  · simp [e, List.getD_eq_getElem?_getD]
/-- All bits of bytes. -/
def tbt (l : List UInt8) : List Bool := tb15 l (8 * l.length)
theorem tbt_len (l : List UInt8) : (tbt l).length = 8 * l.length := tb_len _ _
theorem tbt_at (l : List UInt8) (j : Nat) (h : j < 8 * l.length) : (tbt l).getD j false = bt15 l j := by
  simp [tbt, tb15, List.getD_eq_getElem?_getD, h]
theorem bt_test (l : List UInt8) (p : Nat) : bt15 l p = (l.getD (p / 8) 0).toNat.testBit (7 - p % 8) := by
  unfold bt15
  rw [Nat.testBit_eq_decide_div_mod_eq]
  rfl
theorem tbt_app (l m : List UInt8) : tbt (l ++ m) = tbt l ++ tbt m := getD_ext _ _ (by simp [tbt_len]; omega) fun j hj => by
  have hj2 : j < 8 * (l ++ m).length := by rwa [tbt_len] at hj
  rw [tbt_at _ _ hj2]
  by_cases h : j < 8 * l.length
  · rw [gD_left _ _ _ _ (by rw [tbt_len]; exact h), tbt_at _ _ h, bt_test, bt_test, gD_left _ _ _ _ (by omega)]
  · rw [gD_right _ _ _ _ (by rw [tbt_len]; omega), tbt_len, tbt_at _ _ (by rw [List.length_append] at hj2; omega), bt_test, bt_test, gD_right _ _ _ _ (by omega), show j / 8 - l.length = (j - 8 * l.length) / 8 by omega, show (j - 8 * l.length) % 8 = j % 8 by omega]
/-- A bit turned. -/
theorem tbt_flip (l : List UInt8) (p : Nat) (m : UInt8) (hp : p < 8 * l.length) (hm : m.toNat = 2 ^ (7 - p % 8)) : tbt (l.set (p / 8) (l.getD (p / 8) 0 ^^^ m)) = (tbt l).set p (!(tbt l).getD p false) := getD_ext _ _ (by simp [tbt_len]) fun j hj => by
  have hj2 : j < 8 * l.length := by simpa [tbt_len] using hj
  rw [getD_setB _ _ _ _ (by rw [tbt_len]; exact hp), tbt_at _ _ (by simpa using hj2), tbt_at _ _ hp, tbt_at _ _ hj2, bt_test, bt_test, bt_test]
  rw [gD_set _ _ _ _ _ (by omega)]
  by_cases e : p / 8 = j / 8
  · rw [if_pos e, UInt8.toNat_xor, Nat.testBit_xor, hm, Nat.testBit_two_pow, e]
    by_cases e2 : p = j
    · subst e2; rw [if_pos rfl]; simp
    · rw [if_neg e2, show decide (7 - p % 8 = 7 - j % 8) = false from decide_eq_false (by omega)]; simp
  · rw [if_neg e, if_neg (by intro h; exact e (by rw [h]))]
/-- Two bytes as a register. -/
theorem pack_two (a b : UInt8) : pk16 (tbt [a, b]) = BitVec.ofNat 16 (256 * a.toNat + b.toNat) := by
  apply BitVec.eq_of_getLsbD_eq
  intro i hi
  have h := pack_bit (tbt [a, b]) (15 - i) (by omega)
  rw [show 15 - (15 - i) = i by omega] at h
  rw [h, tbt_at _ _ (by show 15 - i < 16; omega), bt_test, BitVec.getLsbD_ofNat, show (256 : Nat) = 2 ^ 8 from rfl, Nat.testBit_two_pow_mul_add a.toNat b.toNat_lt]
  by_cases h8 : i < 8
  · rw [if_pos h8, show (15 - i) / 8 = 1 by omega, show 7 - (15 - i) % 8 = i by omega]
    simp; intro _; omega
  · rw [if_neg h8, show (15 - i) / 8 = 0 by omega, show 7 - (15 - i) % 8 = i - 8 by omega]
    simp; intro _; omega
theorem two_bd (a b : UInt8) : 256 * a.toNat + b.toNat < 65536 := by
  have := a.toNat_lt
  have := b.toNat_lt
  omega
/-- Whether bytes are the sum of those ahead. -/
theorem open_two (X : BitVec 16) (a b : UInt8) : crun X (tbt [a, b]) = 0 ↔ X.toNat = 256 * a.toNat + b.toNat := by
  constructor
  · intro h
    rw [crun_only (tbt [a, b]) X (by rw [tbt_len]; exact Nat.le_refl 16) h, pack_two, BitVec.toNat_ofNat, Nat.mod_eq_of_lt (two_bd a b)]
  · intro h
    have e : X = pk16 (tbt [a, b]) := by
      apply BitVec.eq_of_toNat_eq
      rw [pack_two, BitVec.toNat_ofNat, Nat.mod_eq_of_lt (two_bd a b), h]
    rw [e]
    exact crun_own _ (by rw [tbt_len]; exact Nat.le_refl 16)
theorem sealed_two (X : BitVec 16) : crun X (tbt [UInt8.ofNat (X.toNat / 256), UInt8.ofNat (X.toNat % 256)]) = 0 := by
  rw [open_two, UInt8.toNat_ofNat', UInt8.toNat_ofNat']
  have := X.isLt
  omega
theorem zip_at (L M : List Bool) (h : L.length = M.length) (j : Nat) (hj : j < L.length) : (List.zipWith (· != ·) L M).getD j false = (L.getD j false != M.getD j false) := by
  rw [List.getD_eq_getElem?_getD, List.getD_eq_getElem?_getD, List.getD_eq_getElem?_getD, List.getElem?_zipWith, List.getElem?_eq_getElem hj, List.getElem?_eq_getElem (by omega)]
  rfl
/-- Bits that are changed within sixteen. -/
theorem burst_same (R : BitVec 16) (L M : List Bool) (f : Nat) (h : L.length = M.length) (hs : ∀ j, j < L.length → (j < f ∨ f + 16 ≤ j) → L.getD j false = M.getD j false) (h1 : crun R L = 0) (h2 : crun R M = 0) : L = M := by
  obtain ⟨Z, hZ⟩ : ∃ Z, List.zipWith (· != ·) L M = Z := ⟨_, rfl⟩
  have hl : Z.length = L.length := by rw [← hZ, List.length_zipWith, ← h, Nat.min_self]
  have hz : ∀ j, j < L.length → Z.getD j false = (L.getD j false != M.getD j false) := fun j hj => by rw [← hZ, zip_at L M h j hj]
  have hx := crun_xor L M R R h
  rw [h1, h2, hZ, BitVec.xor_self] at hx
  have e : Z = List.replicate (min f L.length) false ++ ((Z.drop f).take 16) ++ List.replicate (L.length - (f + 16)) false := getD_ext _ _ (by simp [hl]; omega) fun j hj => by
    rw [hl] at hj
    have hm : ((Z.drop f).take 16).length = min 16 (L.length - f) := by simp [hl]
    by_cases a1 : j < f
    · rw [hz j hj, hs j hj (Or.inl a1), List.append_assoc, gD_left _ _ _ _ (by simp; omega), gD_rep]
      simp
    · by_cases a2 : j < f + 16
      · rw [List.append_assoc, gD_right _ _ _ _ (by simp; omega), List.length_replicate, gD_left _ _ _ _ (by rw [hm]; omega), gD_take _ _ _ _ (by omega), gD_drop, show f + (j - min f L.length) = j by omega]
      · rw [hz j hj, hs j hj (Or.inr (by omega)), gD_right _ _ _ _ (by rw [List.length_append, hm, List.length_replicate]; omega), gD_rep]
        simp
  rw [e] at hx
  have hb := crun_burst (min f L.length) (L.length - (f + 16)) ((Z.drop f).take 16) (by rw [List.length_take]; omega) hx
  refine getD_ext L M h fun j hj => ?_
  by_cases a : j < f ∨ f + 16 ≤ j
  · exact hs j hj a
  · have hmem : Z.getD j false ∈ (Z.drop f).take 16 := by
      have : ((Z.drop f).take 16)[j - f]? = Z[j]? := by
        rw [List.getElem?_take, if_pos (by omega), List.getElem?_drop, show f + (j - f) = j by omega]
      have h3 : Z[j]? = some (Z.getD j false) := by
        rw [List.getD_eq_getElem?_getD, List.getElem?_eq_getElem (by omega)]; rfl
      exact List.mem_of_getElem? (this.trans h3)
    have h4 := hb _ hmem
    rw [hz j hj] at h4
    cases h5 : L.getD j false <;> cases h6 : M.getD j false <;> rw [h5, h6] at h4 <;> simp at h4 ⊢
end Go.Proofs.Ytoohahjmiljpgaa
