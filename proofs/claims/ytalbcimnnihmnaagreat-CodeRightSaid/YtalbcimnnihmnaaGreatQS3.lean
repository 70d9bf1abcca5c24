/-
  Contracts and plain facts that the laws share; each piece is headed by what it holds and its conditions.
-/
import Derived.Test.YtalbcimnnihmnaaGreatQS2
import Derived.Test.YtalbcimnnihmnaaGreatQMath

/- Plain facts of layers 14 and 20: pulses as they are found, one by one; that no others are nearer; coefficients turned about. No program is named here. No conditions but those that each fact names. -/
namespace Go.Proofs.YtalbcimnnihmnaaGreat.M

/-- The first of the least of four. -/
def bs4 (g : Nat → Int) : Nat :=
  if g 3 < g (if g 2 < g (if g 1 < g 0 then 1 else 0) then 2 else if g 1 < g 0 then 1 else 0) then 3 else if g 2 < g (if g 1 < g 0 then 1 else 0) then 2 else if g 1 < g 0 then 1 else 0
theorem bs4_all (g : Nat → Int) : bs4 g < 4 ∧ ∀ j, j < 4 → g (bs4 g) ≤ g j ∧ (j < bs4 g → g (bs4 g) < g j) := by
  unfold bs4
  by_cases h1 : g 1 < g 0
  · rw [if_pos h1]
    by_cases h2 : g 2 < g 1
    · rw [if_pos h2]
      by_cases h3 : g 3 < g 2
      · rw [if_pos h3]
        refine ⟨by omega, fun j hj => ?_⟩
        have hj2 : j = 0 ∨ j = 1 ∨ j = 2 ∨ j = 3 := by omega
        rcases hj2 with rfl | rfl | rfl | rfl <;> constructor <;> first | omega | (intro _; omega)
      · rw [if_neg h3]
        refine ⟨by omega, fun j hj => ?_⟩
        have hj2 : j = 0 ∨ j = 1 ∨ j = 2 ∨ j = 3 := by omega
        rcases hj2 with rfl | rfl | rfl | rfl <;> constructor <;> first | omega | (intro _; omega)
    · rw [if_neg h2]
      by_cases h3 : g 3 < g 1
      · rw [if_pos h3]
        refine ⟨by omega, fun j hj => ?_⟩
        have hj2 : j = 0 ∨ j = 1 ∨ j = 2 ∨ j = 3 := by omega
        rcases hj2 with rfl | rfl | rfl | rfl <;> constructor <;> first | omega | (intro _; omega)
      · rw [if_neg h3]
        refine ⟨by omega, fun j hj => ?_⟩
        have hj2 : j = 0 ∨ j = 1 ∨ j = 2 ∨ j = 3 := by omega
        rcases hj2 with rfl | rfl | rfl | rfl <;> constructor <;> first | omega | (intro _; omega)
  · rw [if_neg h1]
    by_cases h2 : g 2 < g 0
    · rw [if_pos h2]
      by_cases h3 : g 3 < g 2
      · rw [if_pos h3]
        refine ⟨by omega, fun j hj => ?_⟩
        have hj2 : j = 0 ∨ j = 1 ∨ j = 2 ∨ j = 3 := by omega
        rcases hj2 with rfl | rfl | rfl | rfl <;> constructor <;> first | omega | (intro _; omega)
      · rw [if_neg h3]
        refine ⟨by omega, fun j hj => ?_⟩
        have hj2 : j = 0 ∨ j = 1 ∨ j = 2 ∨ j = 3 := by omega
        rcases hj2 with rfl | rfl | rfl | rfl <;> constructor <;> first | omega | (intro _; omega)
    · rw [if_neg h2]
      by_cases h3 : g 3 < g 0
      · rw [if_pos h3]
        refine ⟨by omega, fun j hj => ?_⟩
        have hj2 : j = 0 ∨ j = 1 ∨ j = 2 ∨ j = 3 := by omega
        rcases hj2 with rfl | rfl | rfl | rfl <;> constructor <;> first | omega | (intro _; omega)
      · rw [if_neg h3]
        refine ⟨by omega, fun j hj => ?_⟩
        have hj2 : j = 0 ∨ j = 1 ∨ j = 2 ∨ j = 3 := by omega
        rcases hj2 with rfl | rfl | rfl | rfl <;> constructor <;> first | omega | (intro _; omega)
/-- There is one such alone. -/
theorem bs4_one (g : Nat → Int) (a : Nat) (ha : a < 4) (h : ∀ j, j < 4 → g a ≤ g j ∧ (j < a → g a < g j)) : bs4 g = a := by
  obtain ⟨h1, h2⟩ := bs4_all g
  have e1 := h2 a ha
  have e2 := h (bs4 g) h1
  rcases Nat.lt_trichotomy a (bs4 g) with k | k | k
  · have := e1.2 k; omega
  · exact k.symm
  · have := e2.2 k; omega
/-- Pulses given, one by one: how many each has. -/
def fd4 (x : Nat → Int) (G : Int) : Nat → Nat → Nat
  | 0 => fun _ => 0
  | n + 1 => more (fd4 x G n) (bs4 fun i => dl (x i) G (fd4 x G n i))
theorem fd4_fair (x : Nat → Int) (G : Int) (hG : 0 ≤ G) (n : Nat) : Fair x G (fd4 x G n) := by
  induction n with
  | zero => exact fair_none x G hG
  | succ n ih =>
    obtain ⟨h1, h2⟩ := bs4_all fun i => dl (x i) G (fd4 x G n i)
    exact fair_more x G hG _ ih _ h1 fun j hj => (h2 j hj).1
theorem s4_more (y : Nat → Nat) (i : Nat) (hi : i < 4) : s4 (fun j => (more y i j : Int)) = s4 (fun j => (y j : Int)) + 1 := by
  have h : i = 0 ∨ i = 1 ∨ i = 2 ∨ i = 3 := by omega
  unfold s4 more
  rcases h with rfl | rfl | rfl | rfl <;> simp <;> omega
theorem fd4_sum (x : Nat → Int) (G : Int) (n : Nat) : s4 (fun i => (fd4 x G n i : Int)) = n := by
  induction n with
  | zero => rfl
  | succ n ih =>
    show s4 (fun i => (more (fd4 x G n) (bs4 fun i => dl (x i) G (fd4 x G n i)) i : Int)) = _
    rw [s4_more _ _ (bs4_all _).1, ih]; omega
/-- The pulses that are found. -/
def fnd (c : Nat → Int) (G : Int) (n : Nat) : Nat → Int := fun i => sgn (c i) (fd4 (fun i => ab (c i)) G n i)
theorem fnd_sum (c : Nat → Int) (G : Int) (n : Nat) : s4 (fun i => ((fnd c G n i).natAbs : Int)) = n := by
  have : (fun i => ((fnd c G n i).natAbs : Int)) = fun i => (fd4 (fun i => ab (c i)) G n i : Int) := by
    funext i
    unfold fnd
    rw [sgn_abs]
  rw [this, fd4_sum]
/-- PulseLeast: no vector of as many pulses is nearer. -/
theorem fnd_least (c z : Nat → Int) (G : Int) (hG : 0 ≤ G) (n : Nat) (hz : s4 (fun i => ((z i).natAbs : Int)) = n) : dis c (fnd c G n) G ≤ dis c z G :=
  dis_least c z G hG _ (fd4_fair _ G hG n) (by rw [fd4_sum, hz])
theorem fnd_sign (c : Nat → Int) (G : Int) (n i : Nat) (h : fnd c G n i ≠ 0) : fnd c G n i < 0 ↔ c i < 0 := by
  unfold fnd sgn at h ⊢
  by_cases hc : 0 ≤ c i
  · rw [if_pos hc] at h ⊢; omega
  · rw [if_neg hc] at h ⊢; omega
/-- PulseExact. -/
theorem fnd_exact (z : Nat → Int) (G : Int) (hG : 1 ≤ G) (n : Nat) (hz : s4 (fun i => ((z i).natAbs : Int)) = n) (i : Nat) (hi : i < 4) : fnd (fun i => z i * G) G n i = z i :=
  dis_exact z G hG _ (fd4_fair _ G (by omega) n) (by rw [fd4_sum, hz]) i hi
/-- PulseTurns. -/
theorem fnd_turn (c : Nat → Int) (G : Int) (n i : Nat) (h : c i ≠ 0) : fnd (fun i => -(c i)) G n i = -(fnd c G n i) := by
  have e : (fun i => ab (-(c i))) = fun i => ab (c i) := by
    funext j
    unfold ab; omega
  unfold fnd
  rw [e]
  unfold sgn
  simp only
  by_cases hc : 0 ≤ c i
  · rw [if_neg (by omega), if_pos hc]
  · rw [if_pos (by omega), if_neg hc]; omega
theorem dis_turn (c z : Nat → Int) (G : Int) : dis (fun i => -(c i)) (fun i => -(z i)) G = dis c z G := by
  unfold dis s4
  have e : ∀ j, ab (-(c j) - -(z j) * G) = ab (c j - z j * G) := by
    intro j
    rw [Int.neg_mul]
    unfold ab; omega
  simp only [e]
/-- One pulse more changes the distance by its own part. -/
theorem dis_more (c : Nat → Int) (G : Int) (y : Nat → Nat) (i : Nat) (hi : i < 4) : dis c (fun j => sgn (c j) (more y i j)) G = dis c (fun j => sgn (c j) (y j)) G + dl (ab (c i)) G (y i) := by
  have e : ∀ (w : Nat → Nat) j, ab (c j - sgn (c j) (w j) * G) = gp (ab (c j)) G (w j) := fun w j => gp_own (c j) G (w j)
  unfold dis
  have e1 : (fun j => ab (c j - sgn (c j) (more y i j) * G)) = fun j => gp (ab (c j)) G (more y i j) := by funext j; exact e _ j
  have e2 : (fun j => ab (c j - sgn (c j) (y j) * G)) = fun j => gp (ab (c j)) G (y j) := by funext j; exact e _ j
  rw [e1, e2]
  have h : i = 0 ∨ i = 1 ∨ i = 2 ∨ i = 3 := by omega
  unfold s4 dl more
  rcases h with rfl | rfl | rfl | rfl <;> simp <;> omega
end Go.Proofs.YtalbcimnnihmnaaGreat.M

/- Plain facts of heaps as lists (layers 14 and 18): sifting down and up, what stands first is least, putting in, taking out, setting right. No program is named here. Condition: an order in which what is not less is so on. -/
namespace Go.Proofs.YtalbcimnnihmnaaGreat.M

/-- An order by 'less', equals allowed. -/
structure Ls {α : Type} (lt : α → α → Bool) : Prop where
  asym : ∀ a b, lt a b = true → lt b a = false
  trans : ∀ a b c, lt b a = false → lt c b = false → lt c a = false
theorem Ls.irr {α : Type} {lt : α → α → Bool} (h : Ls lt) (a : α) : lt a a = false := by
  cases e : lt a a with
  | false => rfl
  | true => have := h.asym a a e; rw [e] at this; cases this
def swq {α : Type} (d : α) (l : List α) (i j : Nat) : List α := (l.set i (l.getD j d)).set j (l.getD i d)
theorem swq_len {α : Type} (d : α) (l : List α) (i j : Nat) : (swq d l i j).length = l.length := by simp [swq]
theorem stq_getD {α : Type} (l : List α) (d : α) (i k : Nat) (v : α) (h : i < l.length) : (l.set i v).getD k d = if i = k then v else l.getD k d := by
  rw [List.getD_eq_getElem?_getD, List.getElem?_set]
  by_cases e : i = k
  · rw [if_pos e, if_pos e, if_pos (by omega)]; rfl
  · rw [if_neg e, if_neg e, List.getD_eq_getElem?_getD]
theorem swq_getD {α : Type} (d : α) (l : List α) (i j k : Nat) (hi : i < l.length) (hj : j < l.length) : (swq d l i j).getD k d = if k = j then l.getD i d else if k = i then l.getD j d else l.getD k d := by
  unfold swq
  rw [stq_getD _ _ _ _ _ (by rw [List.length_set]; exact hj), stq_getD _ _ _ _ _ hi]
  by_cases e : j = k
  · rw [if_pos (show j = k from e), if_pos (show k = j from e.symm)]
  · rw [if_neg (show ¬ j = k from e), if_neg (show ¬ k = j from fun h => e h.symm)]
    by_cases e2 : i = k
    · rw [if_pos (show i = k from e2), if_pos (show k = i from e2.symm)]
    · rw [if_neg (show ¬ i = k from e2), if_neg (show ¬ k = i from fun h => e2 h.symm)]
/-- The parent of a place. -/
def pa (k : Nat) : Nat := (k - 1) / 2
def HpX {α : Type} (lt : α → α → Bool) (d : α) (l : List α) (n lo e : Nat) : Prop :=
  (∀ k, 0 < k → k < n → lo ≤ pa k → pa k ≠ e → lt (l.getD k d) (l.getD (pa k) d) = false) ∧ (∀ k, 0 < k → k < n → pa k = e → 0 < e → lo ≤ pa e → lt (l.getD k d) (l.getD (pa e) d) = false)
def Hp {α : Type} (lt : α → α → Bool) (d : α) (l : List α) (n lo : Nat) : Prop := ∀ k, 0 < k → k < n → lo ≤ pa k → lt (l.getD k d) (l.getD (pa k) d) = false
/-- The less one of two children. -/
def lch {α : Type} (lt : α → α → Bool) (d : α) (l : List α) (i n : Nat) : Nat := if 2 * i + 2 < n ∧ lt (l.getD (2 * i + 2) d) (l.getD (2 * i + 1) d) = true then 2 * i + 2 else 2 * i + 1
/-- Sifting down. -/
def hdn {α : Type} (lt : α → α → Bool) (d : α) (n : Nat) : Nat → List α → Nat → List α
  | 0, l, _ => l
  | f + 1, l, i => if n ≤ 2 * i + 1 then l else if lt (l.getD (lch lt d l i n) d) (l.getD i d) = true then hdn lt d n f (swq d l i (lch lt d l i n)) (lch lt d l i n) else l
theorem lch_is {α : Type} (lt : α → α → Bool) (h : Ls lt) (d : α) (l : List α) (i n : Nat) (hn : 2 * i + 1 < n) : pa (lch lt d l i n) = i ∧ i < lch lt d l i n ∧ lch lt d l i n < n ∧ ∀ k, 0 < k → k < n → pa k = i → lt (l.getD k d) (l.getD (lch lt d l i n) d) = false := by
  unfold lch
  by_cases hc : 2 * i + 2 < n ∧ lt (l.getD (2 * i + 2) d) (l.getD (2 * i + 1) d) = true
  · rw [if_pos hc]
    refine ⟨by unfold pa; omega, by omega, hc.1, fun k h0 hk hp => ?_⟩
    have hk2 : k = 2 * i + 1 ∨ k = 2 * i + 2 := by unfold pa at hp; omega
    rcases hk2 with rfl | rfl
    · exact h.asym _ _ hc.2
    · exact h.irr _
  · rw [if_neg hc]
    refine ⟨by unfold pa; omega, by omega, hn, fun k h0 hk hp => ?_⟩
    have hk2 : k = 2 * i + 1 ∨ k = 2 * i + 2 := by unfold pa at hp; omega
    rcases hk2 with rfl | rfl
    · exact h.irr _
    · cases e : lt (l.getD (2 * i + 2) d) (l.getD (2 * i + 1) d) with
      | false => rfl
      | true => exact absurd ⟨hk, e⟩ hc
theorem pa_lt (k : Nat) (h : 0 < k) : pa k < k := by unfold pa; omega
theorem hdn_heap {α : Type} (lt : α → α → Bool) (h : Ls lt) (d : α) (n lo : Nat) (f : Nat) : ∀ (l : List α) (i : Nat), n ≤ l.length → lo ≤ i → n ≤ i + f → HpX lt d l n lo i → Hp lt d (hdn lt d n f l i) n lo := by
  induction f with
  | zero =>
    intro l i _ _ hf hx k h0 hk hlo
    by_cases e : pa k = i
    · have := pa_lt k h0; omega
    · exact hx.1 k h0 hk hlo e
  | succ f ih =>
    intro l i hl hlo hf hx
    unfold hdn
    by_cases hn : n ≤ 2 * i + 1
    · rw [if_pos hn]
      intro k h0 hk hlk
      by_cases e : pa k = i
      · unfold pa at e; omega
      · exact hx.1 k h0 hk hlk e
    · rw [if_neg hn]
      obtain ⟨c1, c2, c3, c4⟩ := lch_is lt h d l i n (by omega)
      generalize lch lt d l i n = j at *
      by_cases hlt : lt (l.getD j d) (l.getD i d) = true
      · rw [if_pos hlt]
        have hi : i < l.length := by omega
        have hj : j < l.length := by omega
        refine ih (swq d l i j) j (by rw [swq_len]; exact hl) (by omega) (by omega) ⟨?_, ?_⟩
        · intro k h0 hk hlk hne
          rw [swq_getD d l i j _ hi hj, swq_getD d l i j _ hi hj, if_neg hne]
          by_cases e1 : pa k = i
          · rw [if_pos e1]
            by_cases e2 : k = j
            · rw [if_pos e2]; exact h.asym _ _ hlt
            · have : k ≠ i := by have := pa_lt k h0; omega
              rw [if_neg e2, if_neg this]
              exact c4 k h0 hk e1
          · rw [if_neg e1]
            have e2 : k ≠ j := by rintro rfl; exact e1 c1
            rw [if_neg e2]
            by_cases e3 : k = i
            · rw [if_pos e3, e3]
              exact hx.2 j (by omega) c3 c1 (by omega) (by rw [← e3]; exact hlk)
            · rw [if_neg e3]
              exact hx.1 k h0 hk hlk e1
        · intro k h0 hk hp _ hlk
          have hkj := pa_lt k h0
          rw [swq_getD d l i j _ hi hj, swq_getD d l i j _ hi hj, c1, if_neg (by omega), if_neg (by omega), if_neg (by omega), if_pos rfl, ← hp]
          exact hx.1 k h0 hk (by omega) (by omega)
      · rw [if_neg hlt]
        have hlf : lt (l.getD j d) (l.getD i d) = false := by simpa using hlt
        intro k h0 hk hlk
        by_cases e : pa k = i
        · rw [e]
          exact h.trans _ _ _ hlf (c4 k h0 hk e)
        · exact hx.1 k h0 hk hlk e
theorem hdn_len {α : Type} (lt : α → α → Bool) (d : α) (n : Nat) (f : Nat) : ∀ (l : List α) (i : Nat), (hdn lt d n f l i).length = l.length := by
  induction f with
  | zero => intro l i; rfl
  | succ f ih =>
    intro l i
    unfold hdn
    split
    · rfl
    · split
      · rw [ih, swq_len]
      · rfl
/-- Nothing from n on is touched. -/
theorem hdn_above {α : Type} (lt : α → α → Bool) (h : Ls lt) (d : α) (n : Nat) (f : Nat) : ∀ (l : List α) (i k : Nat), n ≤ l.length → n ≤ k → (hdn lt d n f l i).getD k d = l.getD k d := by
  induction f with
  | zero => intro l i k _ _; rfl
  | succ f ih =>
    intro l i k hl hk
    unfold hdn
    by_cases hn : n ≤ 2 * i + 1
    · rw [if_pos hn]
    · rw [if_neg hn]
      obtain ⟨c1, c2, c3, _⟩ := lch_is lt h d l i n (by omega)
      generalize lch lt d l i n = j at *
      by_cases hlt : lt (l.getD j d) (l.getD i d) = true
      · rw [if_pos hlt, ih _ _ _ (by rw [swq_len]; exact hl) hk, swq_getD d l i j k (by omega) (by omega), if_neg (by omega), if_neg (by omega)]
      · rw [if_neg hlt]
theorem swq_perm {α : Type} (d : α) (l : List α) (i j : Nat) (hi : i < l.length) (hj : j < l.length) : (swq d l i j).Perm l := by
  unfold swq
  rw [List.getD_eq_getElem?_getD, List.getD_eq_getElem?_getD, List.getElem?_eq_getElem hi, List.getElem?_eq_getElem hj]
  exact List.set_set_perm hi hj
theorem hdn_perm {α : Type} (lt : α → α → Bool) (h : Ls lt) (d : α) (n : Nat) (f : Nat) : ∀ (l : List α) (i : Nat), n ≤ l.length → (hdn lt d n f l i).Perm l := by
  induction f with
  | zero => intro l i _; exact List.Perm.refl _
  | succ f ih =>
    intro l i hl
    unfold hdn
    by_cases hn : n ≤ 2 * i + 1
    · rw [if_pos hn]
    · rw [if_neg hn]
      obtain ⟨c1, c2, c3, _⟩ := lch_is lt h d l i n (by omega)
      generalize lch lt d l i n = j at *
      by_cases hlt : lt (l.getD j d) (l.getD i d) = true
      · rw [if_pos hlt]
        exact (ih _ _ (by rw [swq_len]; exact hl)).trans (swq_perm d l i j (by omega) (by omega))
      · rw [if_neg hlt]
/-- What stands first is least. -/
theorem hp_least {α : Type} (lt : α → α → Bool) (h : Ls lt) (d : α) (l : List α) (n : Nat) (hp : Hp lt d l n 0) (k : Nat) (hk : k < n) : lt (l.getD k d) (l.getD 0 d) = false := by
  induction k using Nat.strongRecOn with
  | _ k ih =>
    by_cases e : k = 0
    · rw [e]; exact h.irr _
    · have h1 := pa_lt k (by omega)
      exact h.trans _ _ _ (ih (pa k) h1 (by omega)) (hp k (by omega) hk (Nat.zero_le _))
/-- Init: every list, from its middle down. -/
theorem hp_half {α : Type} (lt : α → α → Bool) (d : α) (l : List α) (n : Nat) : Hp lt d l n (n / 2) := by
  intro k h0 hk hlo
  unfold pa at hlo
  omega
theorem hp_next {α : Type} (lt : α → α → Bool) (h : Ls lt) (d : α) (l : List α) (n i : Nat) (hl : n ≤ l.length) (hp : Hp lt d l n (i + 1)) : Hp lt d (hdn lt d n n l i) n i := by
  refine hdn_heap lt h d n i n l i hl (Nat.le_refl _) (by omega) ⟨fun k h0 hk hlo hne => hp k h0 hk (by omega), fun k h0 hk hp2 he hlo => ?_⟩
  have := pa_lt i he
  omega
/-- Pop: the last one put first, and sifted down. -/
theorem hp_pop {α : Type} (lt : α → α → Bool) (h : Ls lt) (d : α) (l : List α) (n : Nat) (hl : n + 1 = l.length) (hp : Hp lt d l (n + 1) 0) :
    Hp lt d (hdn lt d n n (swq d l 0 n) 0) n 0 ∧ (hdn lt d n n (swq d l 0 n) 0).getD n d = l.getD 0 d := by
  constructor
  · refine hdn_heap lt h d n 0 n _ 0 (by rw [swq_len]; omega) (Nat.le_refl _) (by omega) ⟨fun k h0 hk _ hne => ?_, fun k _ _ _ he _ => by omega⟩
    have h1 := pa_lt k h0
    rw [swq_getD d l 0 n _ (by omega) (by omega), swq_getD d l 0 n _ (by omega) (by omega), if_neg (by omega), if_neg (by omega), if_neg (by omega), if_neg hne]
    exact hp k h0 (by omega) (Nat.zero_le _)
  · rw [hdn_above lt h d n n _ _ _ (by rw [swq_len]; omega) (Nat.le_refl _), swq_getD d l 0 n _ (by omega) (by omega), if_pos rfl]
/-- Sifting up. -/
def HpU {α : Type} (lt : α → α → Bool) (d : α) (l : List α) (n j : Nat) : Prop :=
  (∀ k, 0 < k → k < n → k ≠ j → lt (l.getD k d) (l.getD (pa k) d) = false) ∧ (∀ k, 0 < k → k < n → pa k = j → 0 < j → lt (l.getD k d) (l.getD (pa j) d) = false)
def hup {α : Type} (lt : α → α → Bool) (d : α) : Nat → List α → Nat → List α
  | 0, l, _ => l
  | f + 1, l, j => if pa j = j then l else if lt (l.getD j d) (l.getD (pa j) d) = true then hup lt d f (swq d l (pa j) j) (pa j) else l
theorem hup_heap {α : Type} (lt : α → α → Bool) (h : Ls lt) (d : α) (n : Nat) (f : Nat) : ∀ (l : List α) (j : Nat), n ≤ l.length → j < n → j < f → HpU lt d l n j → Hp lt d (hup lt d f l j) n 0 := by
  induction f with
  | zero => intro l j _ _ hf; omega
  | succ f ih =>
    intro l j hl hj hf hx
    unfold hup
    by_cases h0 : j = 0
    · subst h0
      rw [if_pos (show pa 0 = 0 from rfl)]
      intro k k0 hk _
      exact hx.1 k k0 hk (by omega)
    · have hp := pa_lt j (by omega)
      rw [if_neg (by omega)]
      by_cases hlt : lt (l.getD j d) (l.getD (pa j) d) = true
      · rw [if_pos hlt]
        have hi : pa j < l.length := by omega
        have hj2 : j < l.length := by omega
        have has := h.asym _ _ hlt
        refine ih (swq d l (pa j) j) (pa j) (by rw [swq_len]; exact hl) (by omega) (by omega) ⟨?_, ?_⟩
        · intro k k0 hk hne
          have hpk := pa_lt k k0
          rw [swq_getD d l (pa j) j _ hi hj2, swq_getD d l (pa j) j _ hi hj2]
          by_cases e1 : k = j
          · rw [if_pos e1, e1, if_neg (by omega), if_pos rfl]
            exact has
          · rw [if_neg e1, if_neg hne]
            by_cases e2 : pa k = j
            · rw [if_pos e2]
              exact hx.2 k k0 hk e2 (by omega)
            · rw [if_neg e2]
              by_cases e3 : pa k = pa j
              · rw [if_pos e3]
                have := hx.1 k k0 hk e1
                rw [e3] at this
                exact h.trans _ _ _ has this
              · rw [if_neg e3]
                exact hx.1 k k0 hk e1
        · intro k k0 hk hpk hpos
          have hpp := pa_lt (pa j) hpos
          rw [swq_getD d l (pa j) j _ hi hj2, swq_getD d l (pa j) j _ hi hj2, if_neg (show ¬ pa (pa j) = j by omega), if_neg (show ¬ pa (pa j) = pa j by omega)]
          have hup1 := hx.1 (pa j) hpos (by omega) (by omega)
          by_cases e1 : k = j
          · rw [if_pos e1]; exact hup1
          · have hkk := pa_lt k k0
            rw [if_neg e1, if_neg (by omega)]
            have := hx.1 k k0 hk e1
            rw [hpk] at this
            exact h.trans _ _ _ hup1 this
      · rw [if_neg hlt]
        have hlf : lt (l.getD j d) (l.getD (pa j) d) = false := by simpa using hlt
        intro k k0 hk _
        by_cases e : k = j
        · rw [e]; exact hlf
        · exact hx.1 k k0 hk e
theorem hup_len {α : Type} (lt : α → α → Bool) (d : α) (f : Nat) : ∀ (l : List α) (j : Nat), (hup lt d f l j).length = l.length := by
  induction f with
  | zero => intro l j; rfl
  | succ f ih =>
    intro l j
    unfold hup
    split
    · rfl
    · split
      · rw [ih, swq_len]
      · rfl
theorem hup_perm {α : Type} (lt : α → α → Bool) (d : α) (f : Nat) : ∀ (l : List α) (j : Nat), j < l.length → (hup lt d f l j).Perm l := by
  induction f with
  | zero => intro l j _; exact List.Perm.refl _
  | succ f ih =>
    intro l j hj
    unfold hup
    by_cases h0 : pa j = j
    · rw [if_pos h0]
    · rw [if_neg h0]
      have hp : pa j < j := by unfold pa at *; omega
      by_cases hlt : lt (l.getD j d) (l.getD (pa j) d) = true
      · rw [if_pos hlt]
        exact (ih _ _ (by rw [swq_len]; omega)).trans (swq_perm d l _ _ (by omega) hj)
      · rw [if_neg hlt]
/-- Push: one more at the end, sifted up. -/
theorem hp_push {α : Type} (lt : α → α → Bool) (h : Ls lt) (d : α) (l : List α) (x : α) (hp : Hp lt d l l.length 0) : Hp lt d (hup lt d (l.length + 1) (l ++ [x]) l.length) (l.length + 1) 0 := by
  have hg : ∀ k, k < l.length → (l ++ [x]).getD k d = l.getD k d := by
    intro k hk
    rw [List.getD_eq_getElem?_getD, List.getElem?_append_left hk, ← List.getD_eq_getElem?_getD]
  refine hup_heap lt h d (l.length + 1) (l.length + 1) _ _ (by simp) (by omega) (by omega) ⟨fun k k0 hk hne => ?_, fun k k0 hk hp2 _ => ?_⟩
  · have := pa_lt k k0
    rw [hg k (by omega), hg (pa k) (by omega)]
    exact hp k k0 (by omega) (Nat.zero_le _)
  · unfold pa at hp2; omega
/-- Fix of one that has become no less: sifted down; sifted up it stays. -/
theorem hp_fix {α : Type} (lt : α → α → Bool) (h : Ls lt) (d : α) (l : List α) (i : Nat) (v : α) (hi : i < l.length) (hp : Hp lt d l l.length 0) (hv : lt v (l.getD i d) = false) : Hp lt d (hdn lt d l.length l.length (l.set i v) i) l.length 0 := by
  refine hdn_heap lt h d l.length 0 l.length _ i (by rw [List.length_set]; exact Nat.le_refl _) (Nat.zero_le _) (by omega) ⟨fun k k0 hk _ hne => ?_, fun k k0 hk hpk hpos _ => ?_⟩
  · rw [stq_getD l d i k v hi, stq_getD l d i (pa k) v hi, if_neg (show ¬ i = pa k from fun e => hne e.symm)]
    by_cases e : i = k
    · rw [if_pos e]
      have := hp k k0 hk (Nat.zero_le _)
      rw [← e] at this ⊢
      exact h.trans _ _ _ this hv
    · rw [if_neg e]
      exact hp k k0 hk (Nat.zero_le _)
  · have h1 := pa_lt k k0
    have h2 := pa_lt i hpos
    rw [stq_getD l d i k v hi, stq_getD l d i (pa i) v hi, if_neg (by omega), if_neg (by omega)]
    have a := hp k k0 hk (Nat.zero_le _)
    rw [hpk] at a
    exact h.trans _ _ _ (hp i hpos hi (Nat.zero_le _)) a
theorem hup_heap_stays {α : Type} (lt : α → α → Bool) (d : α) (l : List α) (n j f : Nat) (hj : j < n) (hp : Hp lt d l n 0) : hup lt d f l j = l := by
  cases f with
  | zero => rfl
  | succ f =>
    unfold hup
    by_cases h0 : pa j = j
    · rw [if_pos h0]
    · rw [if_neg h0]
      have hj0 : 0 < j := by
        rcases Nat.eq_zero_or_pos j with e | e
        · subst e; exact absurd rfl h0
        · exact e
      rw [if_neg (by rw [hp j hj0 hj (Nat.zero_le _)]; simp)]
end Go.Proofs.YtalbcimnnihmnaaGreat.M

/- Plain facts of layers 14 and 18: a heap of four, each with its number: what stands first is the first of the least; one of them changed, in its place or taken out and put in. No program is named here. No conditions but those that each fact names. -/
namespace Go.Proofs.YtalbcimnnihmnaaGreat.M
/-- Less, or as much and ahead. -/
def ltE (p q : Int × Nat) : Bool := decide (p.1 < q.1 ∨ (p.1 = q.1 ∧ p.2 < q.2))
theorem ltE_true (p q : Int × Nat) : ltE p q = true ↔ (p.1 < q.1 ∨ (p.1 = q.1 ∧ p.2 < q.2)) := by unfold ltE; exact decide_eq_true_iff
theorem ltE_false (p q : Int × Nat) : ltE p q = false ↔ ¬ (p.1 < q.1 ∨ (p.1 = q.1 ∧ p.2 < q.2)) := by unfold ltE; exact decide_eq_false_iff_not
theorem ltE_ls : Ls ltE := ⟨fun a b h => by rw [ltE_true] at h; rw [ltE_false]; omega, fun a b c h k => by rw [ltE_false] at h k ⊢; omega⟩
/-- Four, each with its number. -/
def q4 (g : Nat → Int) : List (Int × Nat) := [(g 0, 0), (g 1, 1), (g 2, 2), (g 3, 3)]
theorem q4_mem (g : Nat → Int) (p : Int × Nat) : p ∈ q4 g ↔ p.2 < 4 ∧ p.1 = g p.2 := by
  obtain ⟨v, a⟩ := p
  simp only [q4, List.mem_cons, Prod.mk.injEq, List.not_mem_nil, or_false]
  constructor
  · rintro (⟨rfl, rfl⟩ | ⟨rfl, rfl⟩ | ⟨rfl, rfl⟩ | ⟨rfl, rfl⟩) <;> exact ⟨by decide, rfl⟩
  · rintro ⟨ha, rfl⟩
    have h : a = 0 ∨ a = 1 ∨ a = 2 ∨ a = 3 := by omega
    rcases h with rfl | rfl | rfl | rfl <;> simp
theorem mem_getD {α : Type} (l : List α) (d x : α) (h : x ∈ l) : ∃ k, k < l.length ∧ l.getD k d = x := by
  obtain ⟨k, hk, rfl⟩ := List.getElem_of_mem h
  exact ⟨k, hk, by rw [List.getD_eq_getElem?_getD, List.getElem?_eq_getElem hk]; rfl⟩
theorem getD_mem13 {α : Type} (l : List α) (d : α) (k : Nat) (h : k < l.length) : l.getD k d ∈ l := by
  rw [List.getD_eq_getElem?_getD, List.getElem?_eq_getElem h]
  exact List.getElem_mem h
theorem q4_len (g : Nat → Int) (L : List (Int × Nat)) (hp : L.Perm (q4 g)) : L.length = 4 := hp.length_eq
/-- What stands first. -/
theorem q4_least (g : Nat → Int) (d : Int × Nat) (L : List (Int × Nat)) (hp : L.Perm (q4 g)) (hh : Hp ltE d L 4 0) : L.getD 0 d = (g (bs4 g), bs4 g) := by
  have hl := q4_len g L hp
  have h0 := getD_mem13 L d 0 (by omega)
  have hf := fun k hk => hp_least ltE ltE_ls d L 4 hh k hk
  obtain ⟨⟨v, a⟩, hq⟩ : ∃ p, L.getD 0 d = p := ⟨_, rfl⟩
  rw [hq] at h0 hf
  obtain ⟨ha, hv⟩ := (q4_mem g (v, a)).1 (hp.mem_iff.1 h0)
  simp only at ha hv
  subst hv
  have hb : bs4 g = a := by
    refine bs4_one g a ha fun j hj => ?_
    obtain ⟨k, hk, he⟩ := mem_getD L d (g j, j) (hp.mem_iff.2 ((q4_mem g (g j, j)).2 ⟨hj, rfl⟩))
    have h1 := hf k (by omega)
    rw [he, ltE_false] at h1
    simp only at h1
    omega
  rw [hb, hq]
/-- One of the four has another number now. -/
def gup (g : Nat → Int) (a : Nat) (v : Int) : Nat → Int := fun i => if i = a then v else g i
theorem q4_split (g : Nat → Int) (a : Nat) (v : Int) (ha : a < 4) : ∃ r, (q4 g).Perm ((g a, a) :: r) ∧ (q4 (gup g a v)).Perm ((v, a) :: r) := by
  have h : a = 0 ∨ a = 1 ∨ a = 2 ∨ a = 3 := by omega
  rcases h with rfl | rfl | rfl | rfl
  · exact ⟨[(g 1, 1), (g 2, 2), (g 3, 3)], List.Perm.refl _, by simp [q4, gup]⟩
  · exact ⟨[(g 0, 0), (g 2, 2), (g 3, 3)], List.perm_middle (l₁ := [(g 0, 0)]), by simpa [q4, gup] using List.perm_middle (a := (v, 1)) (l₁ := [(g 0, 0)]) (l₂ := [(g 2, 2), (g 3, 3)])⟩
  · exact ⟨[(g 0, 0), (g 1, 1), (g 3, 3)], List.perm_middle (l₁ := [(g 0, 0), (g 1, 1)]), by simpa [q4, gup] using List.perm_middle (a := (v, 2)) (l₁ := [(g 0, 0), (g 1, 1)]) (l₂ := [(g 3, 3)])⟩
  · exact ⟨[(g 0, 0), (g 1, 1), (g 2, 2)], List.perm_middle (l₁ := [(g 0, 0), (g 1, 1), (g 2, 2)]), by simpa [q4, gup] using List.perm_middle (a := (v, 3)) (l₁ := [(g 0, 0), (g 1, 1), (g 2, 2)]) (l₂ := [])⟩
/-- The first one changed in its place. -/
theorem q4_set (g : Nat → Int) (d : Int × Nat) (L : List (Int × Nat)) (a : Nat) (v : Int) (ha : a < 4) (hp : L.Perm (q4 g)) (h0 : L.getD 0 d = (g a, a)) : (L.set 0 (v, a)).Perm (q4 (gup g a v)) := by
  obtain ⟨r, h1, h2⟩ := q4_split g a v ha
  cases L with
  | nil => have := q4_len g [] hp; simp at this
  | cons x R =>
    obtain rfl : x = (g a, a) := h0
    have h3 := (hp.trans h1).cons_inv
    exact (h3.cons (v, a)).trans h2.symm
/-- One taken out at the end, and put in again. -/
theorem q4_last (g : Nat → Int) (d : Int × Nat) (L : List (Int × Nat)) (a : Nat) (v : Int) (ha : a < 4) (hp : L.Perm (q4 g)) (h0 : L.getD 3 d = (g a, a)) : (L.take 3 ++ [(v, a)]).Perm (q4 (gup g a v)) := by
  obtain ⟨r, h1, h2⟩ := q4_split g a v ha
  have hl := q4_len g L hp
  have e : L = L.take 3 ++ [(g a, a)] := by
    have h3 : L.drop 3 = [(g a, a)] := by
      have hd : (L.drop 3).length = 1 := by rw [List.length_drop]; omega
      obtain ⟨x, hx⟩ := List.length_eq_one_iff.1 hd
      rw [hx]
      have : L.getD 3 d = x := by
        rw [List.getD_eq_getElem?_getD, ← List.getElem?_drop (i := 3) (j := 0), hx]
        rfl
      rw [← h0, this]
    conv => lhs; rw [← List.take_append_drop 3 L, h3]
  have h4 : (L.take 3 ++ [(g a, a)]).Perm ((g a, a) :: r) := by rw [← e]; exact hp.trans h1
  have h5 := ((List.perm_append_comm (l₁ := L.take 3) (l₂ := [(g a, a)])).symm.trans h4).cons_inv
  exact (List.perm_append_comm (l₁ := L.take 3) (l₂ := [(v, a)])).trans ((h5.cons (v, a)).trans h2.symm)
/-- A pulse more: whose, and what a pulse is worth then. -/
theorem fd4_next (x : Nat → Int) (G : Int) (n : Nat) (g : Nat → Int) (hg : g = fun i => dl (x i) G (fd4 x G n i)) : (fun i => dl (x i) G (fd4 x G (n + 1) i)) = gup g (bs4 g) (dl (x (bs4 g)) G (fd4 x G n (bs4 g) + 1)) := by
  subst hg
  funext i
  show dl (x i) G (more (fd4 x G n) (bs4 fun i => dl (x i) G (fd4 x G n i)) i) = _
  unfold more gup
  by_cases e : i = bs4 fun i => dl (x i) G (fd4 x G n i)
  · rw [if_pos e, if_pos e, ← e]
  · rw [if_neg e, if_neg e]
/-- More fuel sifts up as far. -/
theorem hup_fuel {α : Type} (lt : α → α → Bool) (d : α) : ∀ (f : Nat) (l : List α) (j : Nat), j < f → hup lt d (f + 1) l j = hup lt d f l j
  | 0, _, _, h => absurd h (by omega)
  | f + 1, l, j, h => by
    show (if pa j = j then l else if lt (l.getD j d) (l.getD (pa j) d) = true then hup lt d (f + 1) (swq d l (pa j) j) (pa j) else l) = (if pa j = j then l else if lt (l.getD j d) (l.getD (pa j) d) = true then hup lt d f (swq d l (pa j) j) (pa j) else l)
    by_cases e : pa j = j
    · rw [if_pos e, if_pos e]
    · rw [if_neg e, if_neg e]
      have hj : pa j < f := by
        have : 0 < j := by
          rcases Nat.eq_zero_or_pos j with h0 | h0
          · subst h0; exact absurd rfl e
          · exact h0
        have := pa_lt j this
        omega
      rw [hup_fuel lt d f _ _ hj]
end Go.Proofs.YtalbcimnnihmnaaGreat.M

/- Plain facts of layer 14: a heap of four, out of which the first is taken, and put in again with less left; pulses as they are found thereby. No program is named here. No conditions but those that each fact names. -/
namespace Go.Proofs.YtalbcimnnihmnaaGreat.M
theorem mem_take14 {α : Type} (d : α) (L : List α) (n : Nat) (h : L.length = n + 1) : L = L.take n ++ [L.getD n d] := by
  have h3 : L.drop n = [L.getD n d] := by
    have hd : (L.drop n).length = 1 := by rw [List.length_drop]; omega
    obtain ⟨x, hx⟩ := List.length_eq_one_iff.1 hd
    rw [hx]
    have : L.getD n d = x := by
      rw [List.getD_eq_getElem?_getD]
      have := List.getElem?_drop (xs := L) (i := n) (j := 0)
      rw [hx] at this
      rw [← Nat.add_zero n, ← this]
      rfl
    rw [this]
  conv => lhs; rw [← List.take_append_drop n L, h3]
/-- One put in. -/
theorem heap_push {α : Type} (lt : α → α → Bool) (h : Ls lt) (d : α) (L : List α) (x : α) (hp : Hp lt d L L.length 0) :
    Hp lt d (hup lt d (L.length + 1 + 1) (L ++ [x]) L.length) (hup lt d (L.length + 1 + 1) (L ++ [x]) L.length).length 0 ∧ (hup lt d (L.length + 1 + 1) (L ++ [x]) L.length).Perm (L ++ [x]) := by
  rw [hup_fuel lt d (L.length + 1) (L ++ [x]) L.length (by omega)]
  refine ⟨?_, hup_perm lt d _ _ _ (by simp)⟩
  rw [hup_len, List.length_append]
  exact hp_push lt h d L x hp
/-- The first one taken out. -/
theorem heap_pop {α : Type} (lt : α → α → Bool) (h : Ls lt) (d : α) (L : List α) (n : Nat) (hl : L.length = n + 1) (hp : Hp lt d L L.length 0) :
    (hdn lt d n n (swq d L 0 n) 0).getD n d = L.getD 0 d ∧ ((hdn lt d n n (swq d L 0 n) 0).take n).length = n ∧ Hp lt d ((hdn lt d n n (swq d L 0 n) 0).take n) ((hdn lt d n n (swq d L 0 n) 0).take n).length 0 ∧ L.Perm (L.getD 0 d :: (hdn lt d n n (swq d L 0 n) 0).take n) := by
  rw [hl] at hp
  obtain ⟨h1, h2⟩ := hp_pop lt h d L n hl.symm hp
  have hp3 := (hdn_perm lt h d n n (swq d L 0 n) 0 (by rw [swq_len]; omega)).trans (swq_perm d L 0 n (by omega) (by omega))
  obtain ⟨M, hM⟩ : ∃ M, hdn lt d n n (swq d L 0 n) 0 = M := ⟨_, rfl⟩
  rw [hM] at h1 h2 hp3 ⊢
  have hml : M.length = n + 1 := by rw [hp3.length_eq, hl]
  have htl : (M.take n).length = n := by rw [List.length_take]; omega
  refine ⟨h2, htl, ?_, ?_⟩
  · rw [htl]
    intro k k0 hk hlo
    have hg : ∀ j, j < n → (M.take n).getD j d = M.getD j d := fun j hj => by
      rw [List.getD_eq_getElem?_getD, List.getD_eq_getElem?_getD, List.getElem?_take, if_pos hj]
    have := pa_lt k k0
    rw [hg k hk, hg (pa k) (by omega)]
    exact h1 k k0 hk hlo
  · have e := mem_take14 d M n hml
    rw [h2] at e
    have := hp3.symm
    rw [e] at this
    exact this.trans List.perm_append_comm
theorem heap_none {α : Type} (lt : α → α → Bool) (d : α) : Hp lt d [] 0 0 := fun k _ hk _ => absurd hk (by omega)
/-- Four, each with what is left of it. -/
def r4 (u : Nat → Int) : List (Nat × Int) := [(0, u 0), (1, u 1), (2, u 2), (3, u 3)]
theorem r4_mem (u : Nat → Int) (p : Nat × Int) : p ∈ r4 u ↔ p.1 < 4 ∧ p.2 = u p.1 := by
  obtain ⟨a, v⟩ := p
  simp only [r4, List.mem_cons, Prod.mk.injEq, List.not_mem_nil, or_false]
  constructor
  · rintro (⟨rfl, rfl⟩ | ⟨rfl, rfl⟩ | ⟨rfl, rfl⟩ | ⟨rfl, rfl⟩) <;> exact ⟨by decide, rfl⟩
  · rintro ⟨ha, rfl⟩
    have h : a = 0 ∨ a = 1 ∨ a = 2 ∨ a = 3 := by omega
    rcases h with rfl | rfl | rfl | rfl <;> simp
theorem r4_split (u : Nat → Int) (a : Nat) (v : Int) (ha : a < 4) : ∃ r, (r4 u).Perm ((a, u a) :: r) ∧ (r4 (gup u a v)).Perm ((a, v) :: r) := by
  have h : a = 0 ∨ a = 1 ∨ a = 2 ∨ a = 3 := by omega
  rcases h with rfl | rfl | rfl | rfl
  · exact ⟨[(1, u 1), (2, u 2), (3, u 3)], List.Perm.refl _, by simp [r4, gup]⟩
  · exact ⟨[(0, u 0), (2, u 2), (3, u 3)], List.perm_middle (l₁ := [(0, u 0)]), by simpa [r4, gup] using List.perm_middle (a := (1, v)) (l₁ := [(0, u 0)]) (l₂ := [(2, u 2), (3, u 3)])⟩
  · exact ⟨[(0, u 0), (1, u 1), (3, u 3)], List.perm_middle (l₁ := [(0, u 0), (1, u 1)]), by simpa [r4, gup] using List.perm_middle (a := (2, v)) (l₁ := [(0, u 0), (1, u 1)]) (l₂ := [(3, u 3)])⟩
  · exact ⟨[(0, u 0), (1, u 1), (2, u 2)], List.perm_middle (l₁ := [(0, u 0), (1, u 1), (2, u 2)]), by simpa [r4, gup] using List.perm_middle (a := (3, v)) (l₁ := [(0, u 0), (1, u 1), (2, u 2)]) (l₂ := [])⟩
/-- Whose distance falls most, of as much the first one. -/
def fk (G : Int) (p : Nat × Int) : Int × Nat := (ab (p.2 - G) - ab p.2, p.1)
def lt14 (G : Int) (p q : Nat × Int) : Bool := ltE (fk G p) (fk G q)
theorem lt14_ls (G : Int) : Ls (lt14 G) := ⟨fun _ _ h => ltE_ls.1 _ _ h, fun _ _ _ h k => ltE_ls.2 _ _ _ h k⟩
theorem r4_first (G : Int) (u : Nat → Int) (d : Nat × Int) (L : List (Nat × Int)) (hp : L.Perm (r4 u)) (hh : Hp (lt14 G) d L L.length 0) (g : Nat → Int) (hg : ∀ i, i < 4 → g i = ab (u i - G) - ab (u i)) : L.getD 0 d = (bs4 g, u (bs4 g)) := by
  have hl : L.length = 4 := hp.length_eq
  have hm : ∀ k, (L.map (fk G)).getD k (fk G d) = fk G (L.getD k d) := fun k => by
    rw [List.getD_eq_getElem?_getD, List.getD_eq_getElem?_getD, List.getElem?_map]
    cases L[k]? <;> rfl
  have h1 : Hp ltE (fk G d) (L.map (fk G)) 4 0 := fun k k0 hk hlo => by
    rw [hm, hm]
    exact hh k k0 (by omega) hlo
  have h2 : (L.map (fk G)).Perm (q4 g) := by
    have := hp.map (fk G)
    refine this.trans ?_
    rw [show (r4 u).map (fk G) = q4 g from ?_]
    simp only [r4, q4, List.map_cons, List.map_nil, fk]
    rw [hg 0 (by omega), hg 1 (by omega), hg 2 (by omega), hg 3 (by omega)]
  have h3 := q4_least g (fk G d) (L.map (fk G)) h2 h1
  rw [hm] at h3
  have h4 := (r4_mem u _).1 (hp.mem_iff.1 (getD_mem13 L d 0 (by omega)))
  have h5 : (L.getD 0 d).1 = bs4 g := congrArg Prod.snd h3
  rw [h5] at h4
  exact Prod.ext h5 h4.2
/-- One pulse given: out of the queue, and in again with a gain less. -/
theorem r4_next (u : Nat → Int) (d : Nat × Int) (L R : List (Nat × Int)) (b : Nat) (v : Int) (hb : b < 4) (hp : L.Perm (r4 u)) (h0 : L.getD 0 d = (b, u b)) (hr : L.Perm (L.getD 0 d :: R)) : (R ++ [(b, v)]).Perm (r4 (gup u b v)) := by
  obtain ⟨r, h1, h2⟩ := r4_split u b v hb
  rw [h0] at hr
  have h3 : R.Perm r := ((hr.symm.trans hp).trans h1).cons_inv
  exact (List.perm_append_comm.trans (h3.cons (b, v))).trans h2.symm
/-- What is left behind n pulses. -/
def lf4 (x : Nat → Int) (G : Int) (n : Nat) : Nat → Int := fun i => x i - fd4 x G n i * G
theorem lf4_zero (x : Nat → Int) (G : Int) : lf4 x G 0 = x := by
  funext i
  show x i - ((0 : Nat) : Int) * G = x i
  rw [Int.natCast_zero, Int.zero_mul, Int.sub_zero]
theorem lf4_dl (x : Nat → Int) (G : Int) (n i : Nat) : dl (x i) G (fd4 x G n i) = ab (lf4 x G n i - G) - ab (lf4 x G n i) := by
  unfold dl gp lf4
  rw [next_mul]
  congr 2
  omega
theorem lf4_next (x : Nat → Int) (G : Int) (n b : Nat) (hb : b = bs4 fun i => dl (x i) G (fd4 x G n i)) : lf4 x G (n + 1) = gup (lf4 x G n) b (lf4 x G n b - G) := by
  funext i
  unfold lf4 gup
  show x i - (more (fd4 x G n) (bs4 fun i => dl (x i) G (fd4 x G n i)) i : Int) * G = _
  rw [← hb]
  unfold more
  by_cases e : i = b
  · subst e
    rw [if_pos rfl, if_pos rfl, next_mul]
    omega
  · rw [if_neg e, if_neg e]
theorem fd4_le (x : Nat → Int) (G : Int) (n i : Nat) (hi : i < 4) : fd4 x G n i ≤ n := by
  have h := fd4_sum x G n
  simp only [s4] at h
  have hj : i = 0 ∨ i = 1 ∨ i = 2 ∨ i = 3 := by omega
  rcases hj with rfl | rfl | rfl | rfl <;> omega
theorem lf4_bd (x : Nat → Int) (G : Int) (n i : Nat) (hi : i < 4) (hn : n ≤ 12) (hG0 : 0 ≤ G) (hG : G ≤ 32768) (hx : 0 ≤ x i ∧ x i ≤ 1048576) : -4194304 ≤ lf4 x G n i ∧ lf4 x G n i ≤ 4194304 := by
  unfold lf4
  have h1 := fd4_le x G n i hi
  have h2 : ((fd4 x G n i : Nat) : Int) ≤ 12 := by omega
  have h3 := Int.mul_le_mul_of_nonneg_right h2 hG0
  have h4 : 0 ≤ ((fd4 x G n i : Nat) : Int) * G := Int.mul_nonneg (by omega) hG0
  omega
/-- The pulses that are found, as a list. -/
def fl4 (c : Nat → Int) (G : Int) (n : Nat) : List Int := [fnd c G n 0, fnd c G n 1, fnd c G n 2, fnd c G n 3]
theorem fl4_get (c : Nat → Int) (G : Int) (n i : Nat) (hi : i < 4) : (fl4 c G n).getD i 0 = fnd c G n i := by
  have hj : i = 0 ∨ i = 1 ∨ i = 2 ∨ i = 3 := by omega
  rcases hj with rfl | rfl | rfl | rfl <;> rfl
theorem fl4_zero (c : Nat → Int) (G : Int) : fl4 c G 0 = [0, 0, 0, 0] := by
  have h : ∀ i, fnd c G 0 i = 0 := fun i => by
    show sgn (c i) 0 = 0
    unfold sgn
    split <;> rfl
  unfold fl4
  rw [h, h, h, h]
theorem fnd_next (c : Nat → Int) (G : Int) (n b i : Nat) (hb : b = bs4 fun i => dl (ab (c i)) G (fd4 (fun i => ab (c i)) G n i)) : fnd c G (n + 1) i = if i = b then fnd c G n i + (if 0 ≤ c i then 1 else -1) else fnd c G n i := by
  unfold fnd
  show sgn (c i) (more (fd4 (fun i => ab (c i)) G n) (bs4 fun i => dl (ab (c i)) G (fd4 (fun i => ab (c i)) G n i)) i) = _
  rw [← hb]
  unfold more
  by_cases e : i = b
  · rw [if_pos e, if_pos e]
    unfold sgn
    by_cases h : 0 ≤ c i
    · rw [if_pos h, if_pos h, if_pos h]; omega
    · rw [if_neg h, if_neg h, if_neg h]; omega
  · rw [if_neg e, if_neg e]
theorem fl4_next (c : Nat → Int) (G : Int) (n b : Nat) (h4 : b < 4) (hb : b = bs4 fun i => dl (ab (c i)) G (fd4 (fun i => ab (c i)) G n i)) : (fl4 c G n).set b (fnd c G n b + (if 0 ≤ c b then 1 else -1)) = fl4 c G (n + 1) := by
  have h := fun i => fnd_next c G n b i hb
  unfold fl4
  rw [h, h, h, h]
  have hj : b = 0 ∨ b = 1 ∨ b = 2 ∨ b = 3 := by omega
  clear h hb
  rcases hj with rfl | rfl | rfl | rfl <;> simp
theorem fnd_bd (c : Nat → Int) (G : Int) (n i : Nat) (hi : i < 4) : -(n : Int) ≤ fnd c G n i ∧ fnd c G n i ≤ n := by
  have h := fd4_le (fun i => ab (c i)) G n i hi
  unfold fnd sgn
  split <;> omega
end Go.Proofs.YtalbcimnnihmnaaGreat.M
