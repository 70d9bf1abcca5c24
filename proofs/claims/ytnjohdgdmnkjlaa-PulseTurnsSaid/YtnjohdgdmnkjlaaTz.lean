/-
  Plain facts of layers 14 and 18: a heap of four, each with its number: what stands first is the first of the least; one of them changed, in its place or taken out and put in. No program is named here. No conditions but those that each fact names.
-/
import Derived.Test.YtnjohdgdmnkjlaaTs
import Derived.Test.YtnjohdgdmnkjlaaTy
namespace Go.Proofs.Ytnjohdgdmnkjlaa.M
/-- Less, or as much and ahead. -/
def ltE (p q : Int × Nat) : Bool := decide (p.1 < q.1 ∨ (p.1 = q.1 ∧ p.2 < q.2))
theorem ltE_true (p q : Int × Nat) : ltE p q = true ↔ (p.1 < q.1 ∨ (p.1 = q.1 ∧ p.2 < q.2)) := by unfold ltE; exact decide_eq_true_iff
theorem ltE_false (p q : Int × Nat) : ltE p q = false ↔ ¬ (p.1 < q.1 ∨ (p.1 = q.1 ∧ p.2 < q.2)) := by unfold ltE; exact decide_eq_false_iff_not
theorem ltE_ls : Ls ltE := ⟨fun a b h => by rw [ltE_true] at h; rw [ltE_false]; omega, fun a b c h k => by rw [ltE_false] at h k ⊢; omega⟩
/-- Four, each with its number. -/
def q4 (g : Nat → Int) : List (Int × Nat) := [(g 0, 0), (g 1, 1), (g 2, 2), (g 3, 3)]
theorem q4_mem (g : Nat → Int) (p : Int × Nat) : p ∈ q4 g ↔ p.2 < 4 ∧ p.1 = g p.2 := by
  obtain ⟨v, a⟩ := p
  simp only [q4, List.mem_cons, Prod.mk.injEq, List.not_mem_nil, or_false]
  constructor
  · rintro (⟨rfl, rfl⟩ | ⟨rfl, rfl⟩ | ⟨rfl, rfl⟩ | ⟨rfl, rfl⟩) <;> exact ⟨by decide, rfl⟩
  · rintro ⟨ha, rfl⟩
    have h : a = 0 ∨ a = 1 ∨ a = 2 ∨ a = 3 := by omega
    rcases h with rfl | rfl | rfl | rfl <;> simp
theorem mem_getD {α : Type} (l : List α) (d x : α) (h : x ∈ l) : ∃ k, k < l.length ∧ l.getD k d = x := by
  obtain ⟨k, hk, rfl⟩ := List.getElem_of_mem h
  exact ⟨k, hk, by rw [List.getD_eq_getElem?_getD, List.getElem?_eq_getElem hk]; rfl⟩
theorem getD_mem13 {α : Type} (l : List α) (d : α) (k : Nat) (h : k < l.length) : l.getD k d ∈ l := by
  rw [List.getD_eq_getElem?_getD, List.getElem?_eq_getElem h]
  exact List.getElem_mem h
theorem q4_len (g : Nat → Int) (L : List (Int × Nat)) (hp : L.Perm (q4 g)) : L.length = 4 := hp.length_eq
/-- What stands first. -/
theorem q4_least (g : Nat → Int) (d : Int × Nat) (L : List (Int × Nat)) (hp : L.Perm (q4 g)) (hh : Hp ltE d L 4 0) : L.getD 0 d = (g (bs4 g), bs4 g) := by
  have hl := q4_len g L hp
  have h0 := getD_mem13 L d 0 (by omega)
  have hf := fun k hk => hp_least ltE ltE_ls d L 4 hh k hk
  obtain ⟨⟨v, a⟩, hq⟩ : ∃ p, L.getD 0 d = p := ⟨_, rfl⟩
  rw [hq] at h0 hf
  obtain ⟨ha, hv⟩ := (q4_mem g (v, a)).1 (hp.mem_iff.1 h0)
  simp only at ha hv
  subst hv
  have hb : bs4 g = a := by
    refine bs4_one g a ha fun j hj => ?_
    obtain ⟨k, hk, he⟩ := mem_getD L d (g j, j) (hp.mem_iff.2 ((q4_mem g (g j, j)).2 ⟨hj, rfl⟩))
    have h1 := hf k (by omega)
    rw [he, ltE_false] at h1
    simp only at h1
    omega
  rw [hb, hq]
/-- One of the four has another number now. -/
def gup (g : Nat → Int) (a : Nat) (v : Int) : Nat → Int := fun i => if i = a then v else g i
theorem q4_split (g : Nat → Int) (a : Nat) (v : Int) (ha : a < 4) : ∃ r, (q4 g).Perm ((g a, a) :: r) ∧ (q4 (gup g a v)).Perm ((v, a) :: r) := by
  have h : a = 0 ∨ a = 1 ∨ a = 2 ∨ a = 3 := by omega
  rcases h with rfl | rfl | rfl | rfl
  · exact ⟨[(g 1, 1), (g 2, 2), (g 3, 3)], List.Perm.refl _, by simp [q4, gup]⟩
  · exact ⟨[(g 0, 0), (g 2, 2), (g 3, 3)], List.perm_middle (l₁ := [(g 0, 0)]), by simpa [q4, gup] using List.perm_middle (a := (v, 1)) (l₁ := [(g 0, 0)]) (l₂ := [(g 2, 2), (g 3, 3)])⟩
  · exact ⟨[(g 0, 0), (g 1, 1), (g 3, 3)], List.perm_middle (l₁ := [(g 0, 0), (g 1, 1)]), by simpa [q4, gup] using List.perm_middle (a := (v, 2)) (l₁ := [(g 0, 0), (g 1, 1)]) (l₂ := [(g 3, 3)])⟩
  · exact ⟨[(g 0, 0), (g 1, 1), (g 2, 2)], List.perm_middle (l₁ := [(g 0, 0), (g 1, 1), (g 2, 2)]), by simpa [q4, gup] using List.perm_middle (a := (v, 3)) (l₁ := [(g 0, 0), (g 1, 1), (g 2, 2)]) (l₂ := [])⟩
/-- The first one changed in its place. -/
theorem q4_set (g : Nat → Int) (d : Int × Nat) (L : List (Int × Nat)) (a : Nat) (v : Int) (ha : a < 4) (hp : L.Perm (q4 g)) (h0 : L.getD 0 d = (g a, a)) : (L.set 0 (v, a)).Perm (q4 (gup g a v)) := by
  obtain ⟨r, h1, h2⟩ := q4_split g a v ha
  cases L with
  | nil => have := q4_len g [] hp; simp at this
  | cons x R =>
    obtain rfl : x = (g a, a) := h0
    have h3 := (hp.trans h1).cons_inv
    exact (h3.cons (v, a)).trans h2.symm
/-- One taken out at the end, and put in again. -/
theorem q4_last (g : Nat → Int) (d : Int × Nat) (L : List (Int × Nat)) (a : Nat) (v : Int) (ha : a < 4) (hp : L.Perm (q4 g)) (h0 : L.getD 3 d = (g a, a)) : (L.take 3 ++ [(v, a)]).Perm (q4 (gup g a v)) := by
  obtain ⟨r, h1, h2⟩ := q4_split g a v ha
  have hl := q4_len g L hp
  have e : L = L.take 3 ++ [(g a, a)] := by
    have h3 : L.drop 3 = [(g a, a)] := by
      have hd : (L.drop 3).length = 1 := by rw [List.length_drop]; omega
      obtain ⟨x, hx⟩ := List.length_eq_one_iff.1 hd
      rw [hx]
      have : L.getD 3 d = x := by
        rw [List.getD_eq_getElem?_getD, ← List.getElem?_drop (i := 3) (j := 0), hx]
        rfl
      rw [← h0, this]
    conv => lhs; rw [← List.take_append_drop 3 L, h3]
  have h4 : (L.take 3 ++ [(g a, a)]).Perm ((g a, a) :: r) := by rw [← e]; exact hp.trans h1
  have h5 := ((List.perm_append_comm (l₁ := L.take 3) (l₂ := [(g a, a)])).symm.trans h4).cons_inv
  exact (List.perm_append_comm (l₁ := L.take 3) (l₂ := [(v, a)])).trans ((h5.cons (v, a)).trans h2.symm)
/-- A pulse more: whose, and what a pulse is worth then. -/
theorem fd4_next (x : Nat → Int) (G : Int) (n : Nat) (g : Nat → Int) (hg : g = fun i => dl (x i) G (fd4 x G n i)) : (fun i => dl (x i) G (fd4 x G (n + 1) i)) = gup g (bs4 g) (dl (x (bs4 g)) G (fd4 x G n (bs4 g) + 1)) := by
  subst hg
  funext i
  show dl (x i) G (more (fd4 x G n) (bs4 fun i => dl (x i) G (fd4 x G n i)) i) = _
  unfold more gup
  by_cases e : i = bs4 fun i => dl (x i) G (fd4 x G n i)
  · rw [if_pos e, if_pos e, ← e]
  · rw [if_neg e, if_neg e]
/-- More fuel sifts up as far. -/
theorem hup_fuel {α : Type} (lt : α → α → Bool) (d : α) : ∀ (f : Nat) (l : List α) (j : Nat), j < f → hup lt d (f + 1) l j = hup lt d f l j
  | 0, _, _, h => absurd h (by omega)
  | f + 1, l, j, h => by
    show (if pa j = j then l else if lt (l.getD j d) (l.getD (pa j) d) = true then hup lt d (f + 1) (swq d l (pa j) j) (pa j) else l) = (if pa j = j then l else if lt (l.getD j d) (l.getD (pa j) d) = true then hup lt d f (swq d l (pa j) j) (pa j) else l)
    by_cases e : pa j = j
    · rw [if_pos e, if_pos e]
    · rw [if_neg e, if_neg e]
      have hj : pa j < f := by
        have : 0 < j := by
          rcases Nat.eq_zero_or_pos j with h0 | h0
          · subst h0; exact absurd rfl e
          · exact h0
        have := pa_lt j this
        omega
      rw [hup_fuel lt d f _ _ hj]
end Go.Proofs.Ytnjohdgdmnkjlaa.M
