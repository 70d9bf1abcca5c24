/-
  Plain facts of heaps as lists (layers 14 and 18): sifting down and up, what stands first is least, putting in, taking out, setting right. No program is named here. Condition: an order in which what is not less is so on.
-/
import Derived.Test.YtnjohdgdmnkjlaaMath
namespace Go.Proofs.Ytnjohdgdmnkjlaa.M

/-- An order by 'less', equals allowed. -/
structure Ls {α : Type} (lt : α → α → Bool) : Prop where
  asym : ∀ a b, lt a b = true → lt b a = false
  trans : ∀ a b c, lt b a = false → lt c b = false → lt c a = false
theorem Ls.irr {α : Type} {lt : α → α → Bool} (h : Ls lt) (a : α) : lt a a = false := by
  cases e : lt a a with
  | false => rfl
  | true => have := h.asym a a e; rw [e] at this; cases this
def swq {α : Type} (d : α) (l : List α) (i j : Nat) : List α := (l.set i (l.getD j d)).set j (l.getD i d)
theorem swq_len {α : Type} (d : α) (l : List α) (i j : Nat) : (swq d l i j).length = l.length := by simp [swq]
theorem stq_getD {α : Type} (l : List α) (d : α) (i k : Nat) (v : α) (h : i < l.length) : (l.set i v).getD k d = if i = k then v else l.getD k d := by
  rw [List.getD_eq_getElem?_getD, List.getElem?_set]
  by_cases e : i = k
  · rw [if_pos e, if_pos e, if_pos (by omega)]; rfl
  · rw [if_neg e, if_neg e, List.getD_eq_getElem?_getD]
theorem swq_getD {α : Type} (d : α) (l : List α) (i j k : Nat) (hi : i < l.length) (hj : j < l.length) : (swq d l i j).getD k d = if k = j then l.getD i d else if k = i then l.getD j d else l.getD k d := by
  unfold swq
  rw [stq_getD _ _ _ _ _ (by rw [List.length_set]; exact hj), stq_getD _ _ _ _ _ hi]
  by_cases e : j = k
  · rw [if_pos (show j = k from e), if_pos (show k = j from e.symm)]
  · rw [if_neg (show ¬ j = k from e), if_neg (show ¬ k = j from fun h => e h.symm)]
    by_cases e2 : i = k
    · rw [if_pos (show i = k from e2), if_pos (show k = i from e2.symm)]
    · rw [if_neg (show ¬ i = k from e2), if_neg (show ¬ k = i from fun h => e2 h.symm)]
/-- The parent of a place. -/
def pa (k : Nat) : Nat := (k - 1) / 2
def HpX {α : Type} (lt : α → α → Bool) (d : α) (l : List α) (n lo e : Nat) : Prop :=
  (∀ k, 0 < k → k < n → lo ≤ pa k → pa k ≠ e → lt (l.getD k d) (l.getD (pa k) d) = false) ∧ (∀ k, 0 < k → k < n → pa k = e → 0 < e → lo ≤ pa e → lt (l.getD k d) (l.getD (pa e) d) = false)
def Hp {α : Type} (lt : α → α → Bool) (d : α) (l : List α) (n lo : Nat) : Prop := ∀ k, 0 < k → k < n → lo ≤ pa k → lt (l.getD k d) (l.getD (pa k) d) = false
/-- The less one of two children. -/
def lch {α : Type} (lt : α → α → Bool) (d : α) (l : List α) (i n : Nat) : Nat := if 2 * i + 2 < n ∧ lt (l.getD (2 * i + 2) d) (l.getD (2 * i + 1) d) = true then 2 * i + 2 else 2 * i + 1
/-- Sifting down. -/
def hdn {α : Type} (lt : α → α → Bool) (d : α) (n : Nat) : Nat → List α → Nat → List α
  | 0, l, _ => l
  | f + 1, l, i => if n ≤ 2 * i + 1 then l else if lt (l.getD (lch lt d l i n) d) (l.getD i d) = true then hdn lt d n f (swq d l i (lch lt d l i n)) (lch lt d l i n) else l
theorem lch_is {α : Type} (lt : α → α → Bool) (h : Ls lt) (d : α) (l : List α) (i n : Nat) (hn : 2 * i + 1 < n) : pa (lch lt d l i n) = i ∧ i < lch lt d l i n ∧ lch lt d l i n < n ∧ ∀ k, 0 < k → k < n → pa k = i → lt (l.getD k d) (l.getD (lch lt d l i n) d) = false := by
  unfold lch
  by_cases hc : 2 * i + 2 < n ∧ lt (l.getD (2 * i + 2) d) (l.getD (2 * i + 1) d) = true
  · rw [if_pos hc]
    refine ⟨by unfold pa; omega, by omega, hc.1, fun k h0 hk hp => ?_⟩
    have hk2 : k = 2 * i + 1 ∨ k = 2 * i + 2 := by unfold pa at hp; omega
    rcases hk2 with rfl | rfl
    · exact h.asym _ _ hc.2
    · exact h.irr _
  · rw [if_neg hc]
    refine ⟨by unfold pa; omega, by omega, hn, fun k h0 hk hp => ?_⟩
    have hk2 : k = 2 * i + 1 ∨ k = 2 * i + 2 := by unfold pa at hp; omega
    rcases hk2 with rfl | rfl
    · exact h.irr _
    · cases e : lt (l.getD (2 * i + 2) d) (l.getD (2 * i + 1) d) with
      | false => rfl
      | true => exact absurd ⟨hk, e⟩ hc
theorem pa_lt (k : Nat) (h : 0 < k) : pa k < k := by unfold pa; omega
theorem hdn_heap {α : Type} (lt : α → α → Bool) (h : Ls lt) (d : α) (n lo : Nat) (f : Nat) : ∀ (l : List α) (i : Nat), n ≤ l.length → lo ≤ i → n ≤ i + f → HpX lt d l n lo i → Hp lt d (hdn lt d n f l i) n lo := by
  induction f with
  | zero =>
    intro l i _ _ hf hx k h0 hk hlo
    by_cases e : pa k = i
    · have := pa_lt k h0; omega
    · exact hx.1 k h0 hk hlo e
  | succ f ih =>
    intro l i hl hlo hf hx
    unfold hdn
    by_cases hn : n ≤ 2 * i + 1
    · rw [if_pos hn]
      intro k h0 hk hlk
      by_cases e : pa k = i
      · unfold pa at e; omega
      · exact hx.1 k h0 hk hlk e
    · rw [if_neg hn]
      obtain ⟨c1, c2, c3, c4⟩ := lch_is lt h d l i n (by omega)
      generalize lch lt d l i n = j at *
      by_cases hlt : lt (l.getD j d) (l.getD i d) = true
      · rw [if_pos hlt]
        have hi : i < l.length := by omega
        have hj : j < l.length := by omega
        refine ih (swq d l i j) j (by rw [swq_len]; exact hl) (by omega) (by omega) ⟨?_, ?_⟩
        · intro k h0 hk hlk hne
          rw [swq_getD d l i j _ hi hj, swq_getD d l i j _ hi hj, if_neg hne]
          by_cases e1 : pa k = i
          · rw [if_pos e1]
            by_cases e2 : k = j
            · rw [if_pos e2]; exact h.asym _ _ hlt
            · have : k ≠ i := by have := pa_lt k h0; omega
              rw [if_neg e2, if_neg this]
              exact c4 k h0 hk e1
          · rw [if_neg e1]
            have e2 : k ≠ j := by rintro rfl; exact e1 c1
            rw [if_neg e2]
            by_cases e3 : k = i
            · rw [if_pos e3, e3]
              exact hx.2 j (by omega) c3 c1 (by omega) (by rw [← e3]; exact hlk)
            · rw [if_neg e3]
              exact hx.1 k h0 hk hlk e1
        · intro k h0 hk hp _ hlk
          have hkj := pa_lt k h0
          rw [swq_getD d l i j _ hi hj, swq_getD d l i j _ hi hj, c1, if_neg (by omega), if_neg (by omega), if_neg (by omega), if_pos rfl, ← hp]
          exact hx.1 k h0 hk (by omega) (by omega)
      · rw [if_neg hlt]
        have hlf : lt (l.getD j d) (l.getD i d) = false := by simpa using hlt
        intro k h0 hk hlk
        by_cases e : pa k = i
        · rw [e]
          exact h.trans _ _ _ hlf (c4 k h0 hk e)
        · exact hx.1 k h0 hk hlk e
theorem hdn_len {α : Type} (lt : α → α → Bool) (d : α) (n : Nat) (f : Nat) : ∀ (l : List α) (i : Nat), (hdn lt d n f l i).length = l.length := by
  induction f with
  | zero => intro l i; rfl
  | succ f ih =>
    intro l i
    unfold hdn
    split
    · rfl
    · split
      · rw [ih, swq_len]
      · rfl
/-- Nothing from n on is touched. -/
theorem hdn_above {α : Type} (lt : α → α → Bool) (h : Ls lt) (d : α) (n : Nat) (f : Nat) : ∀ (l : List α) (i k : Nat), n ≤ l.length → n ≤ k → (hdn lt d n f l i).getD k d = l.getD k d := by
  induction f with
  | zero => intro l i k _ _; rfl
  | succ f ih =>
    intro l i k hl hk
    unfold hdn
    by_cases hn : n ≤ 2 * i + 1
    · rw [if_pos hn]
    · rw [if_neg hn]
      obtain ⟨c1, c2, c3, _⟩ := lch_is lt h d l i n (by omega)
      generalize lch lt d l i n = j at *
      by_cases hlt : lt (l.getD j d) (l.getD i d) = true
      · rw [if_pos hlt, ih _ _ _ (by rw [swq_len]; exact hl) hk, swq_getD d l i j k (by omega) (by omega), if_neg (by omega), if_neg (by omega)]
      · rw [if_neg hlt]
theorem swq_perm {α : Type} (d : α) (l : List α) (i j : Nat) (hi : i < l.length) (hj : j < l.length) : (swq d l i j).Perm l := by
  unfold swq
  rw [List.getD_eq_getElem?_getD, List.getD_eq_getElem?_getD, List.getElem?_eq_getElem hi, List.getElem?_eq_getElem hj]
  exact List.set_set_perm hi hj
theorem hdn_perm {α : Type} (lt : α → α → Bool) (h : Ls lt) (d : α) (n : Nat) (f : Nat) : ∀ (l : List α) (i : Nat), n ≤ l.length → (hdn lt d n f l i).Perm l := by
  induction f with
  | zero => intro l i _; exact List.Perm.refl _
  | succ f ih =>
    intro l i hl
    unfold hdn
    by_cases hn : n ≤ 2 * i + 1
    · rw [if_pos hn]
    · rw [if_neg hn]
      obtain ⟨c1, c2, c3, _⟩ := lch_is lt h d l i n (by omega)
      generalize lch lt d l i n = j at *
      by_cases hlt : lt (l.getD j d) (l.getD i d) = true
      · rw [if_pos hlt]
        exact (ih _ _ (by rw [swq_len]; exact hl)).trans (swq_perm d l i j (by omega) (by omega))
      · rw [if_neg hlt]
/-- What stands first is least. -/
theorem hp_least {α : Type} (lt : α → α → Bool) (h : Ls lt) (d : α) (l : List α) (n : Nat) (hp : Hp lt d l n 0) (k : Nat) (hk : k < n) : lt (l.getD k d) (l.getD 0 d) = false := by
  induction k using Nat.strongRecOn with
  | _ k ih =>
    by_cases e : k = 0
    · rw [e]; exact h.irr _
    · have h1 := pa_lt k (by omega)
      exact h.trans _ _ _ (ih (pa k) h1 (by omega)) (hp k (by omega) hk (Nat.zero_le _))
/-- Init: every list, from its middle down. -/
theorem hp_half {α : Type} (lt : α → α → Bool) (d : α) (l : List α) (n : Nat) : Hp lt d l n (n / 2) := by
  intro k h0 hk hlo
  unfold pa at hlo
  omega
theorem hp_next {α : Type} (lt : α → α → Bool) (h : Ls lt) (d : α) (l : List α) (n i : Nat) (hl : n ≤ l.length) (hp : Hp lt d l n (i + 1)) : Hp lt d (hdn lt d n n l i) n i := by
  refine hdn_heap lt h d n i n l i hl (Nat.le_refl _) (by omega) ⟨fun k h0 hk hlo hne => hp k h0 hk (by omega), fun k h0 hk hp2 he hlo => ?_⟩
  have := pa_lt i he
  omega
/-- Pop: the last one put first, and sifted down. -/
theorem hp_pop {α : Type} (lt : α → α → Bool) (h : Ls lt) (d : α) (l : List α) (n : Nat) (hl : n + 1 = l.length) (hp : Hp lt d l (n + 1) 0) :
    Hp lt d (hdn lt d n n (swq d l 0 n) 0) n 0 ∧ (hdn lt d n n (swq d l 0 n) 0).getD n d = l.getD 0 d := by
  constructor
  · refine hdn_heap lt h d n 0 n _ 0 (by rw [swq_len]; omega) (Nat.le_refl _) (by omega) ⟨fun k h0 hk _ hne => ?_, fun k _ _ _ he _ => by omega⟩
    have h1 := pa_lt k h0
    rw [swq_getD d l 0 n _ (by omega) (by omega), swq_getD d l 0 n _ (by omega) (by omega), if_neg (by omega), if_neg (by omega), if_neg (by omega), if_neg hne]
    exact hp k h0 (by omega) (Nat.zero_le _)
  · rw [hdn_above lt h d n n _ _ _ (by rw [swq_len]; omega) (Nat.le_refl _), swq_getD d l 0 n _ (by omega) (by omega), if_pos rfl]
/-- Sifting up. -/
def HpU {α : Type} (lt : α → α → Bool) (d : α) (l : List α) (n j : Nat) : Prop :=
  (∀ k, 0 < k → k < n → k ≠ j → lt (l.getD k d) (l.getD (pa k) d) = false) ∧ (∀ k, 0 < k → k < n → pa k = j → 0 < j → lt (l.getD k d) (l.getD (pa j) d) = false)
def hup {α : Type} (lt : α → α → Bool) (d : α) : Nat → List α → Nat → List α
  | 0, l, _ => l
  | f + 1, l, j => if pa j = j then l else if lt (l.getD j d) (l.getD (pa j) d) = true then hup lt d f (swq d l (pa j) j) (pa j) else l
theorem hup_heap {α : Type} (lt : α → α → Bool) (h : Ls lt) (d : α) (n : Nat) (f : Nat) : ∀ (l : List α) (j : Nat), n ≤ l.length → j < n → j < f → HpU lt d l n j → Hp lt d (hup lt d f l j) n 0 := by
  induction f with
  | zero => intro l j _ _ hf; omega
  | succ f ih =>
    intro l j hl hj hf hx
    unfold hup
    by_cases h0 : j = 0
    · subst h0
      rw [if_pos (show pa 0 = 0 from rfl)]
      intro k k0 hk _
      exact hx.1 k k0 hk (by omega)
    · have hp := pa_lt j (by omega)
      rw [if_neg (by omega)]
      by_cases hlt : lt (l.getD j d) (l.getD (pa j) d) = true
      · rw [if_pos hlt]
        have hi : pa j < l.length := by omega
        have hj2 : j < l.length := by omega
        have has := h.asym _ _ hlt
        refine ih (swq d l (pa j) j) (pa j) (by rw [swq_len]; exact hl) (by omega) (by omega) ⟨?_, ?_⟩
        · intro k k0 hk hne
          have hpk := pa_lt k k0
          rw [swq_getD d l (pa j) j _ hi hj2, swq_getD d l (pa j) j _ hi hj2]
          by_cases e1 : k = j
          · rw [if_pos e1, e1, if_neg (by omega), if_pos rfl]
            exact has
          · rw [if_neg e1, if_neg hne]
            by_cases e2 : pa k = j
            · rw [if_pos e2]
              exact hx.2 k k0 hk e2 (by omega)
            · rw [if_neg e2]
              by_cases e3 : pa k = pa j
              · rw [if_pos e3]
                have := hx.1 k k0 hk e1
                rw [e3] at this
                exact h.trans _ _ _ has this
              · rw [if_neg e3]
                exact hx.1 k k0 hk e1
        · intro k k0 hk hpk hpos
          have hpp := pa_lt (pa j) hpos
          rw [swq_getD d l (pa j) j _ hi hj2, swq_getD d l (pa j) j _ hi hj2, if_neg (show ¬ pa (pa j) = j by omega), if_neg (show ¬ pa (pa j) = pa j by omega)]
          have hup1 := hx.1 (pa j) hpos (by omega) (by omega)
          by_cases e1 : k = j
          · rw [if_pos e1]; exact hup1
          · have hkk := pa_lt k k0
            rw [if_neg e1, if_neg (by omega)]
            have := hx.1 k k0 hk e1
            rw [hpk] at this
            exact h.trans _ _ _ hup1 this
      · rw [if_neg hlt]
        have hlf : lt (l.getD j d) (l.getD (pa j) d) = false := by simpa using hlt
        intro k k0 hk _
        by_cases e : k = j
        · rw [e]; exact hlf
        · exact hx.1 k k0 hk e
theorem hup_len {α : Type} (lt : α → α → Bool) (d : α) (f : Nat) : ∀ (l : List α) (j : Nat), (hup lt d f l j).length = l.length := by
  induction f with
  | zero => intro l j; rfl
  | succ f ih =>
    intro l j
    unfold hup
    split
    · rfl
    · split
      · rw [ih, swq_len]
      · rfl
theorem hup_perm {α : Type} (lt : α → α → Bool) (d : α) (f : Nat) : ∀ (l : List α) (j : Nat), j < l.length → (hup lt d f l j).Perm l := by
  induction f with
  | zero => intro l j _; exact List.Perm.refl _
  | succ f ih =>
    intro l j hj
    unfold hup
    by_cases h0 : pa j = j
    · rw [if_pos h0]
    · rw [if_neg h0]
      have hp : pa j < j := by unfold pa at *; omega
      by_cases hlt : lt (l.getD j d) (l.getD (pa j) d) = true
      · rw [if_pos hlt]
        exact (ih _ _ (by rw [swq_len]; omega)).trans (swq_perm d l _ _ (by omega) hj)
      · rw [if_neg hlt]
/-- Push: one more at the end, sifted up. -/
theorem hp_push {α : Type} (lt : α → α → Bool) (h : Ls lt) (d : α) (l : List α) (x : α) (hp : Hp lt d l l.length 0) : Hp lt d (hup lt d (l.length + 1) (l ++ [x]) l.length) (l.length + 1) 0 := by
  have hg : ∀ k, k < l.length → (l ++ [x]).getD k d = l.getD k d := by
    intro k hk
    rw [List.getD_eq_getElem?_getD, List.getElem?_append_left hk, ← List.getD_eq_getElem?_getD]
  refine hup_heap lt h d (l.length + 1) (l.length + 1) _ _ (by simp) (by omega) (by omega) ⟨fun k k0 hk hne => ?_, fun k k0 hk hp2 _ => ?_⟩
  · have := pa_lt k k0
    rw [hg k (by omega), hg (pa k) (by omega)]
    exact hp k k0 (by omega) (Nat.zero_le _)
  · unfold pa at hp2; omega
/-- Fix of one that has become no less: sifted down; sifted up it stays. -/
theorem hp_fix {α : Type} (lt : α → α → Bool) (h : Ls lt) (d : α) (l : List α) (i : Nat) (v : α) (hi : i < l.length) (hp : Hp lt d l l.length 0) (hv : lt v (l.getD i d) = false) : Hp lt d (hdn lt d l.length l.length (l.set i v) i) l.length 0 := by
  refine hdn_heap lt h d l.length 0 l.length _ i (by rw [List.length_set]; exact Nat.le_refl _) (Nat.zero_le _) (by omega) ⟨fun k k0 hk _ hne => ?_, fun k k0 hk hpk hpos _ => ?_⟩
  · rw [stq_getD l d i k v hi, stq_getD l d i (pa k) v hi, if_neg (show ¬ i = pa k from fun e => hne e.symm)]
    by_cases e : i = k
    · rw [if_pos e]
      have := hp k k0 hk (Nat.zero_le _)
      rw [← e] at this ⊢
      exact h.trans _ _ _ this hv
    · rw [if_neg e]
      exact hp k k0 hk (Nat.zero_le _)
  · have h1 := pa_lt k k0
    have h2 := pa_lt i hpos
    rw [stq_getD l d i k v hi, stq_getD l d i (pa i) v hi, if_neg (by omega), if_neg (by omega)]
    have a := hp k k0 hk (Nat.zero_le _)
    rw [hpk] at a
    exact h.trans _ _ _ (hp i hpos hi (Nat.zero_le _)) a
theorem hup_heap_stays {α : Type} (lt : α → α → Bool) (d : α) (l : List α) (n j f : Nat) (hj : j < n) (hp : Hp lt d l n 0) : hup lt d f l j = l := by
  cases f with
  | zero => rfl
  | succ f =>
    unfold hup
    by_cases h0 : pa j = j
    · rw [if_pos h0]
    · rw [if_neg h0]
      have hj0 : 0 < j := by
        rcases Nat.eq_zero_or_pos j with e | e
        · subst e; exact absurd rfl h0
        · exact e
      rw [if_neg (by rw [hp j hj0 hj (Nat.zero_le _)]; simp)]
end Go.Proofs.Ytnjohdgdmnkjlaa.M
