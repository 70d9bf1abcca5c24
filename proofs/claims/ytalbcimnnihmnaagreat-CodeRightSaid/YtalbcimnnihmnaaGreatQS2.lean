/-
  Contracts and plain facts that the laws share; each piece is headed by what it holds and its conditions.
-/
import Derived.Test.YtalbcimnnihmnaaGreatQMath

/- Plain facts of layer 18: how pulses are given, one by one; that what is given fits, and no band can have one more; that steps greater by as much change nothing. No program is named here. No conditions but those that each fact names. -/
namespace Go.Proofs.YtalbcimnnihmnaaGreat.M

/-- What so many pulses cost; what one more costs. -/
def btl : List Nat := [0, 3, 5, 7, 8, 9, 10, 10, 11, 11, 12, 12, 13]
def btc (k : Nat) : Nat := btl.getD k 0
def inc (k : Nat) : Nat := btc (k + 1) - btc k
theorem bt_next (k : Nat) (h : k < 12) : btc (k + 1) = btc k + inc k := by
  have h2 : k = 0 ∨ k = 1 ∨ k = 2 ∨ k = 3 ∨ k = 4 ∨ k = 5 ∨ k = 6 ∨ k = 7 ∨ k = 8 ∨ k = 9 ∨ k = 10 ∨ k = 11 := by omega
  rcases h2 with rfl | rfl | rfl | rfl | rfl | rfl | rfl | rfl | rfl | rfl | rfl | rfl <;> rfl
/-- Can a band have one more? -/
def cang (k : Nat → Nat) (l b : Nat) : Bool := decide (k b < 12) && decide (inc (k b) ≤ l)
theorem cang_iff (k : Nat → Nat) (l b : Nat) : cang k l b = true ↔ k b < 12 ∧ inc (k b) ≤ l := by
  unfold cang
  rw [Bool.and_eq_true, decide_eq_true_iff, decide_eq_true_iff]
/-- Bits only fall: who can't have one can't have one later. -/
theorem cang_falls (k k' : Nat → Nat) (l l' b : Nat) (hk : k' b = k b) (hl : l' ≤ l) (h : cang k' l' b = true) : cang k l b = true := by
  rw [cang_iff] at h ⊢
  rw [hk] at h
  omega
/-- The first of the greatest that can. -/
def bst (s : Nat → Int) (k : Nat → Nat) (l : Nat) : Nat → Option Nat
  | 0 => none
  | n + 1 => match bst s k l n with
    | none => if cang k l n = true then some n else none
    | some a => if cang k l n = true ∧ s a - k a < s n - k n then some n else some a
theorem bst_none (s : Nat → Int) (k : Nat → Nat) (l n : Nat) : bst s k l n = none ↔ ∀ b, b < n → cang k l b = false := by
  induction n with
  | zero => exact ⟨fun _ b hb => by omega, fun _ => rfl⟩
  | succ n ih =>
    unfold bst
    cases hb : bst s k l n with
    | none =>
      have h0 := ih.1 hb
      by_cases hc : cang k l n = true
      · simp only [if_pos hc]
        constructor
        · intro h; cases h
        · intro h
          have := h n (by omega)
          rw [hc] at this; cases this
      · simp only [if_neg hc]
        constructor
        · intro _ b hbn
          by_cases e : b = n
          · subst e; simpa using hc
          · exact h0 b (by omega)
        · intro _; trivial
    | some a =>
      have h0 : ¬ ∀ b, b < n → cang k l b = false := fun h => by rw [ih.2 h] at hb; cases hb
      constructor
      · intro h
        exfalso
        simp only at h
        split at h <;> cases h
      · intro h
        exact absurd (fun b hbn => h b (by omega)) h0
theorem bst_some (s : Nat → Int) (k : Nat → Nat) (l n a : Nat) (h : bst s k l n = some a) : a < n ∧ cang k l a = true ∧ ∀ b, b < n → cang k l b = true → s b - k b ≤ s a - k a ∧ (b < a → s b - k b < s a - k a) := by
  induction n generalizing a with
  | zero => cases h
  | succ n ih =>
    unfold bst at h
    cases hb : bst s k l n with
    | none =>
      rw [hb] at h
      have h0 := (bst_none s k l n).1 hb
      by_cases hc : cang k l n = true
      · simp only [if_pos hc] at h
        injection h with h
        subst h
        refine ⟨by omega, hc, fun b hbn hcb => ?_⟩
        by_cases e : b = n
        · subst e; exact ⟨Int.le_refl _, fun h => by omega⟩
        · have := h0 b (by omega)
          rw [hcb] at this; cases this
      · simp only [if_neg hc] at h
        cases h
    | some c =>
      rw [hb] at h
      obtain ⟨h1, h2, h3⟩ := ih c hb
      simp only at h
      by_cases hc : cang k l n = true ∧ s c - k c < s n - k n
      · rw [if_pos hc] at h
        injection h with h
        subst h
        refine ⟨by omega, hc.1, fun b hbn hcb => ?_⟩
        by_cases e : b = n
        · subst e; exact ⟨Int.le_refl _, fun h => by omega⟩
        · have := (h3 b (by omega) hcb).1
          have := hc.2
          exact ⟨by omega, fun _ => by omega⟩
      · rw [if_neg hc] at h
        injection h with h
        subst h
        refine ⟨by omega, h2, fun b hbn hcb => ?_⟩
        by_cases e : b = n
        · subst e
          have : ¬ s c - k c < s b - k b := fun h => hc ⟨hcb, h⟩
          exact ⟨by omega, fun h => by omega⟩
        · exact h3 b (by omega) hcb
/-- There is one such band alone. -/
theorem bst_one (s : Nat → Int) (k : Nat → Nat) (l n a : Nat) (h1 : a < n) (h2 : cang k l a = true) (h3 : ∀ b, b < n → cang k l b = true → s b - k b ≤ s a - k a ∧ (b < a → s b - k b < s a - k a)) : bst s k l n = some a := by
  cases hb : bst s k l n with
  | none =>
    have := (bst_none s k l n).1 hb a h1
    rw [h2] at this; cases this
  | some c =>
    obtain ⟨c1, c2, c3⟩ := bst_some s k l n c hb
    have e1 := h3 c c1 c2
    have e2 := c3 a h1 h2
    rcases Nat.lt_trichotomy a c with h | h | h
    · have := e2.2 h
      omega
    · rw [h]
    · have := e1.2 h
      omega
theorem bst_louder (s s' : Nat → Int) (c : Int) (k : Nat → Nat) (l n : Nat) (h : ∀ b, s' b = s b + c) : bst s' k l n = bst s k l n := by
  induction n with
  | zero => rfl
  | succ n ih =>
    unfold bst
    rw [ih]
    cases bst s k l n with
    | none => rfl
    | some a =>
      simp only
      rw [h a, h n]
      by_cases hc : cang k l n = true ∧ s a - k a < s n - k n
      · rw [if_pos hc, if_pos ⟨hc.1, by omega⟩]
      · rw [if_neg hc, if_neg (fun e => hc ⟨e.1, by omega⟩)]
/-- One pulse more for a band. -/
def mor (k : Nat → Nat) (a : Nat) : Nat → Nat := fun b => if b = a then k b + 1 else k b
/-- Pulses are given, and what bits are left. -/
def gvn (s : Nat → Int) (k : Nat → Nat) (l : Nat) : Nat → (Nat → Nat) × Nat
  | 0 => (k, l)
  | f + 1 => match bst s k l 8 with
    | none => (k, l)
    | some a => gvn s (mor k a) (l - inc (k a)) f
def sum8 (g : Nat → Nat) : Nat := g 0 + g 1 + g 2 + g 3 + g 4 + g 5 + g 6 + g 7
theorem sum8_mor (k : Nat → Nat) (a : Nat) (ha : a < 8) (g : Nat → Nat) (c : Nat) (hg : g (k a + 1) = g (k a) + c) : sum8 (fun b => g (mor k a b)) = sum8 (fun b => g (k b)) + c := by
  have h2 : a = 0 ∨ a = 1 ∨ a = 2 ∨ a = 3 ∨ a = 4 ∨ a = 5 ∨ a = 6 ∨ a = 7 := by omega
  unfold sum8 mor
  rcases h2 with rfl | rfl | rfl | rfl | rfl | rfl | rfl | rfl <;> simp [hg] <;> omega
def cst8 (k : Nat → Nat) : Nat := sum8 fun b => btc (k b)
theorem cst_more (k : Nat → Nat) (l a : Nat) (ha : a < 8) (h : cang k l a = true) : cst8 (mor k a) + (l - inc (k a)) = cst8 k + l := by
  rw [cang_iff] at h
  have := sum8_mor k a ha btc (inc (k a)) (bt_next (k a) h.1)
  unfold cst8
  omega
theorem few_more (k : Nat → Nat) (l a : Nat) (h : cang k l a = true) (hk : ∀ b, b < 8 → k b ≤ 12) : ∀ b, b < 8 → mor k a b ≤ 12 := by
  intro b hb
  rw [cang_iff] at h
  unfold mor
  split
  · rename_i e; subst e; omega
  · exact hk b hb
theorem sum8_le (k : Nat → Nat) (hk : ∀ b, b < 8 → k b ≤ 12) : sum8 k ≤ 96 := by
  have h0 := hk 0 (by omega)
  have h1 := hk 1 (by omega)
  have h2 := hk 2 (by omega)
  have h3 := hk 3 (by omega)
  have h4 := hk 4 (by omega)
  have h5 := hk 5 (by omega)
  have h6 := hk 6 (by omega)
  have h7 := hk 7 (by omega)
  unfold sum8; omega
/-- What is given costs no more than there is; no band can have one more; none has lost one. -/
theorem gvn_all (s : Nat → Int) (f : Nat) : ∀ (k : Nat → Nat) (l : Nat), (∀ b, b < 8 → k b ≤ 12) → 97 ≤ f + sum8 k →
    (∀ b, b < 8 → (gvn s k l f).1 b ≤ 12) ∧ cst8 (gvn s k l f).1 + (gvn s k l f).2 = cst8 k + l ∧ (∀ b, b < 8 → cang (gvn s k l f).1 (gvn s k l f).2 b = false) ∧ ∀ b, k b ≤ (gvn s k l f).1 b := by
  induction f with
  | zero =>
    intro k l hk hf
    have := sum8_le k hk
    omega
  | succ f ih =>
    intro k l hk hf
    unfold gvn
    cases hb : bst s k l 8 with
    | none => exact ⟨hk, rfl, (bst_none s k l 8).1 hb, fun b => Nat.le_refl _⟩
    | some a =>
      obtain ⟨h1, h2, _⟩ := bst_some s k l 8 a hb
      have hs := sum8_mor k a h1 (fun x => x) 1 rfl
      have hs2 : sum8 (mor k a) = sum8 k + 1 := hs
      obtain ⟨i1, i2, i3, i4⟩ := ih (mor k a) (l - inc (k a)) (few_more k l a h2 hk) (by omega)
      refine ⟨i1, by rw [i2]; exact cst_more k l a h1 h2, i3, fun b => Nat.le_trans ?_ (i4 b)⟩
      unfold mor
      split <;> omega
theorem gvn_louder (s s' : Nat → Int) (c : Int) (h : ∀ b, s' b = s b + c) (f : Nat) : ∀ (k : Nat → Nat) (l : Nat), gvn s' k l f = gvn s k l f := by
  induction f with
  | zero => intro k l; rfl
  | succ f ih =>
    intro k l
    unfold gvn
    rw [bst_louder s s' c k l 8 h]
    cases bst s k l 8 with
    | none => rfl
    | some a => exact ih _ _
/-- All pulses of steps and bits. -/
def giv (s : Nat → Int) (l : Nat) : Nat → Nat := (gvn s (fun _ => 0) l 97).1
theorem giv_all (s : Nat → Int) (l : Nat) : (∀ b, b < 8 → giv s l b ≤ 12) ∧ cst8 (giv s l) ≤ l ∧ ∀ b, b < 8 → giv s l b < 12 → l - cst8 (giv s l) < inc (giv s l b) := by
  obtain ⟨h1, h2, h3, _⟩ := gvn_all s 97 (fun _ => 0) l (fun _ _ => by omega) (by unfold sum8; omega)
  have h0 : cst8 (fun _ => 0) = 0 := rfl
  rw [h0] at h2
  unfold giv
  refine ⟨h1, by omega, fun b hb hk => ?_⟩
  have := h3 b hb
  rcases Nat.lt_or_ge (l - cst8 (gvn s (fun _ => 0) l 97).1) (inc ((gvn s (fun _ => 0) l 97).1 b)) with h | h
  · exact h
  · have e : cang (gvn s (fun _ => 0) l 97).1 (gvn s (fun _ => 0) l 97).2 b = true := (cang_iff _ _ _).2 ⟨hk, by omega⟩
    rw [this] at e; cases e
/-- GiveLouder. -/
theorem giv_louder (s s' : Nat → Int) (c : Int) (h : ∀ b, s' b = s b + c) (l : Nat) : giv s' l = giv s l := by
  unfold giv
  rw [gvn_louder s s' c h]
/-- GiveMore. -/
theorem giv_more (s : Nat → Int) (l a : Nat) (ha : a < 8) (hl : 3 ≤ l) (h : ∀ b, b < 8 → s b ≤ s a ∧ (b < a → s b < s a)) : 0 < giv s l a := by
  have hc : ∀ b, cang (fun _ => 0) l b = true := fun b => (cang_iff _ _ _).2 ⟨by omega, hl⟩
  have hb := bst_one s (fun _ => 0) l 8 a ha (hc a) fun b hb _ => by
    have := h b hb
    exact ⟨by omega, fun e => by have := this.2 e; omega⟩
  have hm := (gvn_all s 96 (mor (fun _ => 0) a) (l - inc 0) (few_more _ l a (hc a) fun _ _ => by omega) (by
    have hs2 : sum8 (mor (fun _ => 0) a) = sum8 (fun _ => 0) + 1 := sum8_mor (fun _ => 0) a ha (fun x => x) 1 rfl
    rw [hs2]; unfold sum8; omega)).2.2.2 a
  unfold giv
  unfold gvn
  rw [hb]
  refine Nat.lt_of_lt_of_le ?_ hm
  unfold mor
  rw [if_pos rfl]; omega
theorem giv_none (s : Nat → Int) : giv s 0 = fun _ => 0 := by
  have hb : bst s (fun _ => 0) 0 8 = none := (bst_none _ _ _ _).2 fun b _ => by
    cases h : cang (fun _ => 0) 0 b with
    | false => rfl
    | true =>
      have := ((cang_iff _ _ _).1 h).2
      have e : inc 0 = 3 := rfl
      omega
  unfold giv gvn
  rw [hb]
end Go.Proofs.YtalbcimnnihmnaaGreat.M

/- Plain facts of layer 15: the sum of bits, one by one; that it is linear, that sixteen bits bring it to 0 just if they are its own, that a change within sixteen bits never goes unseen. No program is named here. No conditions but those that each fact names. -/
namespace Go.Proofs.YtalbcimnnihmnaaGreat.M

/-- One bit more; bits one behind the other. -/
def cst (r : BitVec 16) (b : Bool) : BitVec 16 := if r.msb != b then (r <<< 1) ^^^ 4129#16 else r <<< 1
def crun (r : BitVec 16) (l : List Bool) : BitVec 16 := l.foldl cst r
theorem crun_cons (r : BitVec 16) (b : Bool) (l : List Bool) : crun r (b :: l) = crun (cst r b) l := rfl
theorem crun_append (r : BitVec 16) (l m : List Bool) : crun r (l ++ m) = crun (crun r l) m := List.foldl_append
theorem cst_xor (r s : BitVec 16) (b c : Bool) : cst (r ^^^ s) (b != c) = cst r b ^^^ cst s c := by
  unfold cst
  rw [BitVec.msb_xor, BitVec.shiftLeft_xor_distrib]
  generalize r <<< 1 = x
  generalize s <<< 1 = y
  cases r.msb <;> cases s.msb <;> cases b <;> cases c <;> simp [BitVec.xor_assoc]
  all_goals
    first
    | rfl
    | (rw [← BitVec.xor_assoc, ← BitVec.xor_assoc, BitVec.xor_comm x y])
    | (rw [BitVec.xor_comm y, ← BitVec.xor_assoc 4129#16, BitVec.xor_self, BitVec.zero_xor])
    | (rw [BitVec.xor_comm y])
    | skip
theorem crun_xor (l m : List Bool) : ∀ (r s : BitVec 16), l.length = m.length → crun (r ^^^ s) (List.zipWith (· != ·) l m) = crun r l ^^^ crun s m := by
  induction l generalizing m with
  | nil =>
    intro r s h
    cases m with
    | nil => rfl
    | cons c m => simp at h
  | cons b l ih =>
    intro r s h
    cases m with
    | nil => simp at h
    | cons c m =>
      rw [List.zipWith_cons_cons, crun_cons, crun_cons, crun_cons, cst_xor]
      exact ih m _ _ (by simpa using h)
theorem cst_zero : cst 0 false = 0 := by decide
theorem crun_zeros (n : Nat) : crun 0 (List.replicate n false) = 0 := by
  induction n with
  | zero => rfl
  | succ n ih => rw [List.replicate_succ, crun_cons, cst_zero]; exact ih
/-- The lowest bit tells whether the polynomial was added. -/
theorem cst_low (r : BitVec 16) (b : Bool) : (cst r b).getLsbD 0 = (r.msb != b) := by
  unfold cst
  cases h : r.msb != b
  · simp
  · simp
theorem shl_eq (r s : BitVec 16) (h : r <<< 1 = s <<< 1) (hm : r.msb = s.msb) : r = s := by
  apply BitVec.eq_of_getLsbD_eq
  intro i hi
  rcases Nat.lt_or_ge i 15 with h1 | h1
  · have e : (r <<< 1).getLsbD (i + 1) = (s <<< 1).getLsbD (i + 1) := by rw [h]
    rw [BitVec.getLsbD_shiftLeft, BitVec.getLsbD_shiftLeft] at e
    simp [show i + 1 < 16 by omega] at e
    exact e
  · have e : i = 15 := by omega
    subst e
    rw [BitVec.msb_eq_getLsbD_last, BitVec.msb_eq_getLsbD_last] at hm
    exact hm
/-- Bits from the highest on. -/
def pk16 : List Bool → BitVec 16
  | [] => 0
  | b :: l => (if b then 32768#16 else 0#16) ||| (pk16 l >>> 1)
theorem pack_bit : ∀ (l : List Bool) (i : Nat), i < 16 → (pk16 l).getLsbD (15 - i) = l.getD i false
  | [], i, _ => by simp [pk16]
  | b :: l, 0, _ => by
    unfold pk16
    have e : (pk16 l).getLsbD (1 + (15 - 0)) = false := BitVec.getLsbD_of_ge _ _ (by decide)
    rw [BitVec.getLsbD_or, BitVec.getLsbD_ushiftRight, e, Bool.or_false]
    cases b <;> rfl
  | b :: l, i + 1, h => by
    have ih := pack_bit l i (by omega)
    unfold pk16
    rw [BitVec.getLsbD_or, BitVec.getLsbD_ushiftRight, show 1 + (15 - (i + 1)) = 15 - i by omega, ih, List.getD_cons_succ]
    have e : (if b then 32768#16 else 0#16).getLsbD (15 - (i + 1)) = false := by
      cases b
      · simp
      · have : 15 - (i + 1) < 15 := by omega
        have k : ∀ j, j < 15 → (32768#16).getLsbD j = false := by decide
        exact k _ this
    rw [e, Bool.false_or]
theorem pack_msb (b : Bool) (l : List Bool) : (pk16 (b :: l)).msb = b := by
  rw [BitVec.msb_eq_getLsbD_last]
  have := pack_bit (b :: l) 0 (by omega)
  exact this
theorem pack_shl (b : Bool) (l : List Bool) (h : l.length ≤ 15) : pk16 (b :: l) <<< 1 = pk16 l := by
  apply BitVec.eq_of_getLsbD_eq
  intro i hi
  rw [BitVec.getLsbD_shiftLeft]
  rcases Nat.eq_zero_or_pos i with h0 | h0
  · subst h0
    have := pack_bit l 15 (by omega)
    rw [show 15 - 15 = 0 by omega] at this
    rw [this, List.getD_eq_getElem?_getD, List.getElem?_eq_none h]
    simp
  · have e1 := pack_bit (b :: l) (16 - i) (by omega)
    have e2 := pack_bit l (15 - i) (by omega)
    rw [show 15 - (16 - i) = i - 1 by omega, show 16 - i = (15 - i) + 1 by omega, List.getD_cons_succ] at e1
    rw [show 15 - (15 - i) = i by omega] at e2
    rw [e1, e2]
    simp [hi, show ¬ (i < 1) by omega]
theorem cst_pack (b : Bool) (l : List Bool) (h : l.length ≤ 15) : cst (pk16 (b :: l)) b = pk16 l := by
  unfold cst
  rw [pack_msb, bne_self_eq_false, if_neg (by simp), pack_shl b l h]
/-- Its own bits bring a sum to 0 .. -/
theorem crun_own : ∀ l : List Bool, l.length ≤ 16 → crun (pk16 l) l = 0
  | [], _ => rfl
  | b :: l, h => by
    rw [List.length_cons] at h
    rw [crun_cons, cst_pack b l (by omega)]
    exact crun_own l (by omega)
/-- .. and no others do. -/
theorem crun_only : ∀ (l : List Bool) (r : BitVec 16), l.length ≤ 16 → crun r l = 0 → r = pk16 l
  | [], r, _, h => h
  | b :: l, r, hl, h => by
    rw [List.length_cons] at hl
    rw [crun_cons] at h
    have e := crun_only l (cst r b) (by omega) h
    have hlow := cst_low r b
    have hp := pack_bit l 15 (by omega)
    rw [show 15 - 15 = 0 by omega, List.getD_eq_getElem?_getD, List.getElem?_eq_none (by omega)] at hp
    rw [e, hp] at hlow
    have hb : r.msb = b := by
      cases hm : r.msb <;> cases b <;> simp_all
    have hs : r <<< 1 = pk16 l := by
      rw [← e]
      unfold cst
      rw [hb, bne_self_eq_false, if_neg (by simp)]
    exact shl_eq _ _ (by rw [hs, pack_shl b l (by omega)]) (by rw [hb, pack_msb])
theorem pack_nil (l : List Bool) (hl : l.length ≤ 16) (h : pk16 l = 0) : ∀ b ∈ l, b = false := by
  intro b hb
  obtain ⟨i, hi, rfl⟩ := List.getElem_of_mem hb
  have e := pack_bit l i (by omega)
  rw [h, List.getD_eq_getElem?_getD, List.getElem?_eq_getElem hi] at e
  simpa using e.symm
/-- Zeros never bring a sum to 0 that isn't. -/
theorem cst_inj (r : BitVec 16) (h : cst r false = 0) : r = 0 := crun_only [false] r (by decide) h
theorem crun_zeros_inj (n : Nat) : ∀ r, crun r (List.replicate n false) = 0 → r = 0 := by
  induction n with
  | zero => intro r h; exact h
  | succ n ih =>
    intro r h
    rw [List.replicate_succ, crun_cons] at h
    exact cst_inj r (ih _ h)
/-- A change within sixteen bits is seen. -/
theorem crun_burst (a c : Nat) (l : List Bool) (hl : l.length ≤ 16) (h : crun 0 (List.replicate a false ++ l ++ List.replicate c false) = 0) : ∀ b ∈ l, b = false := by
  rw [crun_append, crun_append, crun_zeros] at h
  have h1 := crun_zeros_inj c _ h
  exact pack_nil l hl (crun_only l 0 hl h1).symm
end Go.Proofs.YtalbcimnnihmnaaGreat.M

/- Plain facts of layer 15: the sum as a division of a list of bits, as the reference does it. No program is named here. No conditions but those that each fact names. -/
namespace Go.Proofs.YtalbcimnnihmnaaGreat.M
/-- Bits with a register's 16 bits made one with the first 16. -/
def xw15 (r : BitVec 16) (l : List Bool) : List Bool := (List.range l.length).map fun k => l.getD k false != (decide (k < 16) && r.getLsbD (15 - k))
theorem xw_len (r : BitVec 16) (l : List Bool) : (xw15 r l).length = l.length := by simp [xw15]
theorem xw_at (r : BitVec 16) (l : List Bool) (k : Nat) (h : k < l.length) : (xw15 r l).getD k false = (l.getD k false != (decide (k < 16) && r.getLsbD (15 - k))) := by
  simp [xw15, List.getD_eq_getElem?_getD, h]
/-- Which bits the polynomial has, the highest first, behind its first one. -/
def py (k : Nat) : Bool := k == 3 || k == 10 || k == 15
theorem poly_bit : ∀ k, k < 16 → (4129#16).getLsbD (15 - k) = py k := by decide
theorem cst_bit (r : BitVec 16) (b : Bool) (k : Nat) (hk : k < 16) : (cst r b).getLsbD (15 - k) = ((decide (k + 1 < 16) && r.getLsbD (15 - (k + 1))) != ((r.msb != b) && py k)) := by
  have hs : (r <<< 1).getLsbD (15 - k) = (decide (k + 1 < 16) && r.getLsbD (15 - (k + 1))) := by
    rw [BitVec.getLsbD_shiftLeft]
    by_cases h : k = 15
    · subst h; simp
    · have h1 : 15 - k < 16 := by omega
      have h2 : ¬ 15 - k < 1 := by omega
      have h3 : k + 1 < 16 := by omega
      have h4 : 15 - k - 1 = 15 - (k + 1) := by omega
      simp [h1, h2, h3, h4]
  unfold cst
  by_cases hb : (r.msb != b) = true
  · rw [if_pos hb, BitVec.getLsbD_xor, hs, poly_bit k hk, hb]
    cases (decide (k + 1 < 16) && r.getLsbD (15 - (k + 1))) <;> cases py k <;> rfl
  · have hb2 : (r.msb != b) = false := by simpa using hb
    rw [if_neg hb, hs, hb2]
    cases (decide (k + 1 < 16) && r.getLsbD (15 - (k + 1))) <;> rfl
theorem xw_head (r : BitVec 16) (b : Bool) (l : List Bool) : (xw15 r (b :: l)).getD 0 false = (b != r.msb) := by
  rw [xw_at _ _ _ (by simp)]
  show (b != (true && r.getLsbD 15)) = (b != r.msb)
  rw [Bool.true_and, BitVec.msb_eq_getLsbD_last]
/-- One step of the division: the first bit taken off; where it was 1, three others turned about. -/
theorem xw_step (r : BitVec 16) (b : Bool) (l : List Bool) (k : Nat) (hk : k < l.length) : (xw15 (cst r b) l).getD k false = ((xw15 r (b :: l)).getD (k + 1) false != ((b != r.msb) && py k)) := by
  rw [xw_at _ _ _ hk, xw_at _ _ _ (by simpa using hk)]
  rw [show (b :: l).getD (k + 1) false = l.getD k false from rfl]
  by_cases h : k < 16
  · rw [cst_bit r b k h, show decide (k < 16) = true from decide_eq_true h, Bool.true_and, show (r.msb != b) = (b != r.msb) by cases r.msb <;> cases b <;> rfl]
    cases l.getD k false <;> cases (decide (k + 1 < 16) && r.getLsbD (15 - (k + 1))) <;> cases ((b != r.msb) && py k) <;> rfl
  · have hp : py k = false := by unfold py; simp; omega
    rw [show decide (k < 16) = false from decide_eq_false h, show decide (k + 1 < 16) = false from decide_eq_false (by omega), hp, Bool.and_false]
    cases l.getD k false <;> rfl
/-- Behind all bits of the text the register stands alone. -/
theorem xw_end (r : BitVec 16) (k : Nat) (hk : k < 16) : (xw15 r (List.replicate 16 false)).getD k false = r.getLsbD (15 - k) := by
  rw [xw_at _ _ _ (by simpa using hk)]
  have : (List.replicate 16 false).getD k false = false := by
    rw [List.getD_eq_getElem?_getD, List.getElem?_replicate, if_pos hk]; rfl
  rw [this, show decide (k < 16) = true from decide_eq_true hk, Bool.true_and]
  cases r.getLsbD (15 - k) <;> rfl
/-- The division as far as i bits of l, with 16 zero bits behind them. -/
def dv15 (r : BitVec 16) (l : List Bool) (i : Nat) : List Bool := List.replicate i false ++ xw15 (crun r (l.take i)) (l.drop i ++ List.replicate 16 false)
theorem dv_len (r : BitVec 16) (l : List Bool) (i : Nat) (h : i ≤ l.length) : (dv15 r l i).length = l.length + 16 := by
  unfold dv15
  rw [List.length_append, List.length_replicate, xw_len, List.length_append, List.length_drop, List.length_replicate]
  omega
theorem dv_zero (r : BitVec 16) (l : List Bool) : dv15 r l 0 = xw15 r (l ++ List.replicate 16 false) := by
  unfold dv15
  rw [List.replicate_zero, List.nil_append]
  rfl
theorem dv_done (r : BitVec 16) (l : List Bool) (k : Nat) (hk : k < 16) : (dv15 r l l.length).getD (l.length + k) false = (crun r l).getLsbD (15 - k) := by
  unfold dv15
  rw [List.getD_eq_getElem?_getD, List.getElem?_append_right (by simp), List.length_replicate, Nat.add_sub_cancel_left, ← List.getD_eq_getElem?_getD, List.drop_length, List.nil_append, List.take_length, xw_end _ _ hk]
/-- The bit that a step looks at, and what it leaves. -/
theorem dv_next (r : BitVec 16) (l : List Bool) (i : Nat) (h : i < l.length) : ∃ b : Bool, (dv15 r l i).getD i false = b ∧
    ∀ j, j < l.length + 16 → (dv15 r l (i + 1)).getD j false = if j = i then false else ((dv15 r l i).getD j false != (b && (j == i + 4 || j == i + 11 || j == i + 16))) := by
  have hd : l.drop i = l.getD i false :: l.drop (i + 1) := by
    rw [List.drop_eq_getElem_cons h, List.getD_eq_getElem?_getD, List.getElem?_eq_getElem h]; rfl
  have ht : l.take (i + 1) = l.take i ++ [l.getD i false] := by
    rw [List.take_add_one, List.getD_eq_getElem?_getD, List.getElem?_eq_getElem h]; rfl
  obtain ⟨R, hR⟩ : ∃ R, crun r (l.take i) = R := ⟨_, rfl⟩
  obtain ⟨c, hc⟩ : ∃ c, l.getD i false = c := ⟨_, rfl⟩
  obtain ⟨m, hm⟩ : ∃ m, l.drop (i + 1) ++ List.replicate 16 false = m := ⟨_, rfl⟩
  have hml : m.length = l.length - (i + 1) + 16 := by rw [← hm]; simp
  have e1 : dv15 r l i = List.replicate i false ++ xw15 R (c :: m) := by
    unfold dv15; rw [hR, hd, hc, List.cons_append, hm]
  have e2 : dv15 r l (i + 1) = List.replicate (i + 1) false ++ xw15 (cst R c) m := by
    unfold dv15; rw [ht, crun_append, hR, hc, hm]; rfl
  have g1 : ∀ j, i ≤ j → (dv15 r l i).getD j false = (xw15 R (c :: m)).getD (j - i) false := fun j hj => by
    rw [e1, List.getD_eq_getElem?_getD, List.getElem?_append_right (by simpa using hj), List.length_replicate, ← List.getD_eq_getElem?_getD]
  have g0 : ∀ j, j < i → (dv15 r l i).getD j false = false := fun j hj => by
    rw [e1, List.getD_eq_getElem?_getD, List.getElem?_append_left (by simpa using hj), List.getElem?_replicate, if_pos hj]; rfl
  refine ⟨c != R.msb, by rw [g1 i (Nat.le_refl _), Nat.sub_self, xw_head], fun j hj => ?_⟩
  by_cases hji : j = i
  · subst hji
    rw [if_pos rfl, e2, List.getD_eq_getElem?_getD, List.getElem?_append_left (by simp), List.getElem?_replicate, if_pos (by omega)]
    rfl
  · rw [if_neg hji]
    rcases Nat.lt_or_ge j i with hlt | hge
    · rw [g0 j hlt, e2, List.getD_eq_getElem?_getD, List.getElem?_append_left (by simp; omega), List.getElem?_replicate, if_pos (by omega)]
      have : (j == i + 4 || j == i + 11 || j == i + 16) = false := by simp; omega
      rw [this, Bool.and_false]
      rfl
    · obtain ⟨k, rfl⟩ : ∃ k, j = i + 1 + k := ⟨j - (i + 1), by omega⟩
      rw [g1 _ (by omega), e2, List.getD_eq_getElem?_getD, List.getElem?_append_right (by simp), List.length_replicate, Nat.add_sub_cancel_left, ← List.getD_eq_getElem?_getD, xw_step R c m k (by omega), show i + 1 + k - i = k + 1 by omega]
      have : (i + 1 + k == i + 4 || i + 1 + k == i + 11 || i + 1 + k == i + 16) = py k := by
        unfold py
        rw [Bool.eq_iff_iff]
        simp
        omega
      rw [this]
end Go.Proofs.YtalbcimnnihmnaaGreat.M

/- Plain facts of layer 14: pulses given one by one, each where the distance falls most: no vector of as many pulses is nearer. No program is named here. No conditions but those that each fact names. -/
namespace Go.Proofs.YtalbcimnnihmnaaGreat.M

/-- A number without its sign. -/
def ab (t : Int) : Int := max t (-t)
/-- How far n pulses of the gain G are from x; how that grows by one more. -/
def gp (x G : Int) (n : Nat) : Int := ab (x - n * G)
def dl (x G : Int) (n : Nat) : Int := gp x G (n + 1) - gp x G n
theorem next_mul (G : Int) (n : Nat) : ((n + 1 : Nat) : Int) * G = n * G + G := by rw [Int.natCast_add]; grind
theorem dl_rise (x G : Int) (hG : 0 ≤ G) (n : Nat) : dl x G n ≤ dl x G (n + 1) := by
  unfold dl gp ab
  rw [next_mul G (n + 1), next_mul G n]
  generalize (n : Int) * G = t
  omega
theorem dl_least (x G : Int) (hG : 0 ≤ G) (n : Nat) : -G ≤ dl x G n := by
  unfold dl gp ab
  rw [next_mul G n]
  generalize (n : Int) * G = t
  omega
/-- The line under the distances at y. -/
theorem line_up (x G l : Int) (hG : 0 ≤ G) (y : Nat) (h : l ≤ dl x G y) (d : Nat) : gp x G y + l * d ≤ gp x G (y + d) ∧ l ≤ dl x G (y + d) := by
  induction d with
  | zero => exact ⟨by show gp x G y + l * 0 ≤ gp x G y; rw [Int.mul_zero]; omega, h⟩
  | succ d ih =>
    obtain ⟨h1, h2⟩ := ih
    have h3 := dl_rise x G hG (y + d)
    refine ⟨?_, by rw [← Nat.add_assoc]; omega⟩
    have e : l * ((d + 1 : Nat) : Int) = l * d + l := by rw [Int.natCast_add]; grind
    rw [e, ← Nat.add_assoc]
    unfold dl at h2
    omega
theorem line_dn (x G l : Int) (hG : 0 ≤ G) (d : Nat) : ∀ y, d ≤ y → (1 ≤ y → dl x G (y - 1) ≤ l) → gp x G y - l * d ≤ gp x G (y - d) := by
  induction d with
  | zero => intro y _ _; show gp x G y - l * 0 ≤ gp x G y; rw [Int.mul_zero]; omega
  | succ d ih =>
    intro y hy h
    have h1 := h (by omega)
    have h2 := ih (y - 1) (by omega) (fun hy1 => by
      have := dl_rise x G hG (y - 1 - 1)
      rw [show y - 1 - 1 + 1 = y - 1 by omega] at this
      omega)
    have e : l * ((d + 1 : Nat) : Int) = l * d + l := by rw [Int.natCast_add]; grind
    rw [e, show y - (d + 1) = y - 1 - d by omega]
    unfold dl at h1
    rw [show y - 1 + 1 = y by omega] at h1
    omega
theorem line_all (x G l : Int) (hG : 0 ≤ G) (y n : Nat) (h1 : 1 ≤ y → dl x G (y - 1) ≤ l) (h2 : l ≤ dl x G y) : gp x G y + l * ((n : Int) - y) ≤ gp x G n := by
  rcases Nat.le_total y n with h | h
  · have := (line_up x G l hG y h2 (n - y)).1
    rw [show y + (n - y) = n by omega, show ((n - y : Nat) : Int) = (n : Int) - y by omega] at this
    exact this
  · have := line_dn x G l hG (y - n) y (by omega) h1
    rw [show y - (y - n) = n by omega, show ((y - n : Nat) : Int) = (y : Int) - n by omega] at this
    have e : l * ((y : Int) - n) = -(l * ((n : Int) - y)) := by grind
    rw [e] at this
    omega

/-- A sum over four. -/
def s4 (f : Nat → Int) : Int := f 0 + f 1 + f 2 + f 3
/-- What pulses are, that were given one by one. -/
def Fair (x : Nat → Int) (G : Int) (y : Nat → Nat) : Prop := ∃ l, ∀ i, i < 4 → (1 ≤ y i → dl (x i) G (y i - 1) ≤ l) ∧ l ≤ dl (x i) G (y i)
theorem fair_none (x : Nat → Int) (G : Int) (hG : 0 ≤ G) : Fair x G fun _ => 0 := ⟨-G, fun i _ => ⟨fun h => by simp at h, dl_least (x i) G hG 0⟩⟩
/-- One pulse more. -/
def more (y : Nat → Nat) (i : Nat) : Nat → Nat := fun j => if j = i then y j + 1 else y j
theorem fair_more (x : Nat → Int) (G : Int) (hG : 0 ≤ G) (y : Nat → Nat) (h : Fair x G y) (i : Nat) (hi : i < 4) (hb : ∀ j, j < 4 → dl (x i) G (y i) ≤ dl (x j) G (y j)) : Fair x G (more y i) := by
  obtain ⟨l, hl⟩ := h
  refine ⟨dl (x i) G (y i), fun j hj => ?_⟩
  unfold more
  by_cases e : j = i
  · subst e
    rw [if_pos rfl, Nat.add_sub_cancel]
    exact ⟨fun _ => Int.le_refl _, dl_rise (x j) G hG (y j)⟩
  · rw [if_neg e]
    have h1 := (hl i hi).2
    exact ⟨fun h => Int.le_trans ((hl j hj).1 h) h1, hb j hj⟩
/-- No vector of as many pulses is nearer. -/
theorem fair_least (x : Nat → Int) (G : Int) (hG : 0 ≤ G) (y n : Nat → Nat) (h : Fair x G y) (hs : s4 (fun i => (y i : Int)) = s4 (fun i => (n i : Int))) : s4 (fun i => gp (x i) G (y i)) ≤ s4 (fun i => gp (x i) G (n i)) := by
  obtain ⟨l, hl⟩ := h
  have k := fun i (hi : i < 4) => line_all (x i) G l hG (y i) (n i) (hl i hi).1 (hl i hi).2
  have k0 := k 0 (by omega)
  have k1 := k 1 (by omega)
  have k2 := k 2 (by omega)
  have k3 := k 3 (by omega)
  simp only [s4] at hs ⊢
  have e : l * ((n 0 : Int) - y 0) + l * ((n 1 : Int) - y 1) + l * ((n 2 : Int) - y 2) + l * ((n 3 : Int) - y 3) = l * (((n 0 : Int) + n 1 + n 2 + n 3) - ((y 0 : Int) + y 1 + y 2 + y 3)) := by grind
  rw [hs, Int.sub_self, Int.mul_zero] at e
  omega
theorem ab_mul (z G : Int) (hG : 0 ≤ G) : ab (z * G) = (z.natAbs : Int) * G := by
  unfold ab
  rcases Int.le_total 0 z with h | h
  · have e : (z.natAbs : Int) = z := by omega
    have := Int.mul_nonneg h hG
    rw [e]; omega
  · have e : (z.natAbs : Int) = -z := by omega
    have := Int.mul_nonneg (show 0 ≤ -z by omega) hG
    rw [e, Int.neg_mul]
    rw [Int.neg_mul] at this
    omega
/-- A number's pulses are no nearer than as many of its own sign. -/
theorem gp_sign (c z G : Int) (hG : 0 ≤ G) : gp (ab c) G z.natAbs ≤ ab (c - z * G) := by
  have h := ab_mul z G hG
  unfold gp
  rw [← h]
  generalize z * G = t
  unfold ab
  omega
/-- Pulses of the coefficient's own sign. -/
def sgn (c : Int) (n : Nat) : Int := if 0 ≤ c then n else -n
theorem gp_own (c G : Int) (n : Nat) : ab (c - sgn c n * G) = gp (ab c) G n := by
  unfold sgn gp
  by_cases h : 0 ≤ c
  · rw [if_pos h]
    have e : ab c = c := by unfold ab; omega
    rw [e]
  · rw [if_neg h]
    have e : ab c = -c := by unfold ab; omega
    rw [e, Int.neg_mul]
    generalize (n : Int) * G = t
    unfold ab
    omega
theorem sgn_abs (c : Int) (n : Nat) : (sgn c n).natAbs = n := by
  unfold sgn
  split <;> omega
/-- The distance of pulses from coefficients. -/
def dis (c z : Nat → Int) (G : Int) : Int := s4 fun i => ab (c i - z i * G)
theorem dis_least (c z : Nat → Int) (G : Int) (hG : 0 ≤ G) (y : Nat → Nat) (h : Fair (fun i => ab (c i)) G y) (hs : s4 (fun i => (y i : Int)) = s4 (fun i => ((z i).natAbs : Int))) : dis c (fun i => sgn (c i) (y i)) G ≤ dis c z G := by
  have k := fair_least (fun i => ab (c i)) G hG y (fun i => (z i).natAbs) h hs
  simp only [dis, s4, gp_own]
  simp only [s4] at k
  have g0 := gp_sign (c 0) (z 0) G hG
  have g1 := gp_sign (c 1) (z 1) G hG
  have g2 := gp_sign (c 2) (z 2) G hG
  have g3 := gp_sign (c 3) (z 3) G hG
  omega
theorem ab_nn (t : Int) : 0 ≤ ab t := by unfold ab; omega
/-- Coefficients that pulses stand for are found as these. -/
theorem dis_exact (z : Nat → Int) (G : Int) (hG : 1 ≤ G) (y : Nat → Nat) (h : Fair (fun i => ab (z i * G)) G y) (hs : s4 (fun i => (y i : Int)) = s4 (fun i => ((z i).natAbs : Int))) (i : Nat) (hi : i < 4) : sgn (z i * G) (y i) = z i := by
  have k := dis_least (fun i => z i * G) z G (by omega) y h hs
  simp only [dis, s4, Int.sub_self] at k
  have n0 := ab_nn (z 0 * G - sgn (z 0 * G) (y 0) * G)
  have n1 := ab_nn (z 1 * G - sgn (z 1 * G) (y 1) * G)
  have n2 := ab_nn (z 2 * G - sgn (z 2 * G) (y 2) * G)
  have n3 := ab_nn (z 3 * G - sgn (z 3 * G) (y 3) * G)
  have e0 : ab 0 = 0 := rfl
  have hz : ab (z i * G - sgn (z i * G) (y i) * G) = 0 := by
    have hi4 : i = 0 ∨ i = 1 ∨ i = 2 ∨ i = 3 := by omega
    rcases hi4 with rfl | rfl | rfl | rfl <;> omega
  have hm : (z i - sgn (z i * G) (y i)) * G = 0 := by
    have e : (z i - sgn (z i * G) (y i)) * G = z i * G - sgn (z i * G) (y i) * G := by grind
    rw [e]
    unfold ab at hz
    omega
  rcases Int.mul_eq_zero.1 hm with h1 | h1
  · omega
  · omega
end Go.Proofs.YtalbcimnnihmnaaGreat.M
