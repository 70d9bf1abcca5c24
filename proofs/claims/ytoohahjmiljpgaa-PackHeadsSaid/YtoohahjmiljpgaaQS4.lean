/-
  Contracts and plain facts that the laws share; each piece is headed by what it holds and its conditions.
-/
import Derived.Test.YtoohahjmiljpgaaQS3

/- Plain facts of layers 14 and 18: a heap of four, each with its number: what stands first is the first of the least; one of them changed, in its place or taken out and put in. No program is named here. No conditions but those that each fact names. -/
namespace Go.Proofs.Ytoohahjmiljpgaa.M
/-- Less, or as much and ahead. -/
def ltE (p q : Int × Nat) : Bool := decide (p.1 < q.1 ∨ (p.1 = q.1 ∧ p.2 < q.2))
theorem ltE_true (p q : Int × Nat) : ltE p q = true ↔ (p.1 < q.1 ∨ (p.1 = q.1 ∧ p.2 < q.2)) := by unfold ltE; exact decide_eq_true_iff
theorem ltE_false (p q : Int × Nat) : ltE p q = false ↔ ¬ (p.1 < q.1 ∨ (p.1 = q.1 ∧ p.2 < q.2)) := by unfold ltE; exact decide_eq_false_iff_not
theorem ltE_ls : Ls ltE := ⟨fun a b h => by rw [ltE_true] at h; rw [ltE_false]; omega, fun a b c h k => by rw [ltE_false] at h k ⊢; omega⟩
/-- Four, each with its number. -/
def q4 (g : Nat → Int) : List (Int × Nat) := [(g 0, 0), (g 1, 1), (g 2, 2), (g 3, 3)]
theorem q4_mem (g : Nat → Int) (p : Int × Nat) : p ∈ q4 g ↔ p.2 < 4 ∧ p.1 = g p.2 := by
  obtain ⟨v, a⟩ := p
  simp only [q4, List.mem_cons, Prod.mk.injEq, List.not_mem_nil, or_false]
  constructor
  · rintro (⟨rfl, rfl⟩ | ⟨rfl, rfl⟩ | ⟨rfl, rfl⟩ | ⟨rfl, rfl⟩) <;> exact ⟨by decide, rfl⟩
  · rintro ⟨ha, rfl⟩
    have h : a = 0 ∨ a = 1 ∨ a = 2 ∨ a = 3 := by omega
    rcases h with rfl | rfl | rfl | rfl <;> simp
theorem mem_getD {α : Type} (l : List α) (d x : α) (h : x ∈ l) : ∃ k, k < l.length ∧ l.getD k d = x := by
  obtain ⟨k, hk, rfl⟩ := List.getElem_of_mem h
  exact ⟨k, hk, by rw [List.getD_eq_getElem?_getD, List.getElem?_eq_getElem hk]; rfl⟩
theorem getD_mem13 {α : Type} (l : List α) (d : α) (k : Nat) (h : k < l.length) : l.getD k d ∈ l := by
  rw [List.getD_eq_getElem?_getD, List.getElem?_eq_getElem h]
  exact List.getElem_mem h
theorem q4_len (g : Nat → Int) (L : List (Int × Nat)) (hp : L.Perm (q4 g)) : L.length = 4 := hp.length_eq
/-- What stands first. -/
theorem q4_least (g : Nat → Int) (d : Int × Nat) (L : List (Int × Nat)) (hp : L.Perm (q4 g)) (hh : Hp ltE d L 4 0) : L.getD 0 d = (g (bs4 g), bs4 g) := by
  have hl := q4_len g L hp
  have h0 := getD_mem13 L d 0 (by omega)
  have hf := fun k hk => hp_least ltE ltE_ls d L 4 hh k hk
  obtain ⟨⟨v, a⟩, hq⟩ : ∃ p, L.getD 0 d = p := ⟨_, rfl⟩
  rw [hq] at h0 hf
  obtain ⟨ha, hv⟩ := (q4_mem g (v, a)).1 (hp.mem_iff.1 h0)
  simp only at ha hv
  subst hv
  have hb : bs4 g = a := by
    refine bs4_one g a ha fun j hj => ?_
    obtain ⟨k, hk, he⟩ := mem_getD L d (g j, j) (hp.mem_iff.2 ((q4_mem g (g j, j)).2 ⟨hj, rfl⟩))
    have h1 := hf k (by omega)
    rw [he, ltE_false] at h1
    simp only at h1
    omega
  rw [hb, hq]
/-- One of the four has another number now. -/
def gup (g : Nat → Int) (a : Nat) (v : Int) : Nat → Int := fun i => if i = a then v else g i
theorem q4_split (g : Nat → Int) (a : Nat) (v : Int) (ha : a < 4) : ∃ r, (q4 g).Perm ((g a, a) :: r) ∧ (q4 (gup g a v)).Perm ((v, a) :: r) := by
  have h : a = 0 ∨ a = 1 ∨ a = 2 ∨ a = 3 := by omega
  rcases h with rfl | rfl | rfl | rfl
  · exact ⟨[(g 1, 1), (g 2, 2), (g 3, 3)], List.Perm.refl _, by simp [q4, gup]⟩
  · exact ⟨[(g 0, 0), (g 2, 2), (g 3, 3)], List.perm_middle (l₁ := [(g 0, 0)]), by simpa [q4, gup] using List.perm_middle (a := (v, 1)) (l₁ := [(g 0, 0)]) (l₂ := [(g 2, 2), (g 3, 3)])⟩
  · exact ⟨[(g 0, 0), (g 1, 1), (g 3, 3)], List.perm_middle (l₁ := [(g 0, 0), (g 1, 1)]), by simpa [q4, gup] using List.perm_middle (a := (v, 2)) (l₁ := [(g 0, 0), (g 1, 1)]) (l₂ := [(g 3, 3)])⟩
  · exact ⟨[(g 0, 0), (g 1, 1), (g 2, 2)], List.perm_middle (l₁ := [(g 0, 0), (g 1, 1), (g 2, 2)]), by simpa [q4, gup] using List.perm_middle (a := (v, 3)) (l₁ := [(g 0, 0), (g 1, 1), (g 2, 2)]) (l₂ := [])⟩
/-- The first one changed in its place. -/
theorem q4_set (g : Nat → Int) (d : Int × Nat) (L : List (Int × Nat)) (a : Nat) (v : Int) (ha : a < 4) (hp : L.Perm (q4 g)) (h0 : L.getD 0 d = (g a, a)) : (L.set 0 (v, a)).Perm (q4 (gup g a v)) := by
  obtain ⟨r, h1, h2⟩ := q4_split g a v ha
  cases L with
  | nil => have := q4_len g [] hp; simp at this
  | cons x R =>
    obtain rfl : x = (g a, a) := h0
    have h3 := (hp.trans h1).cons_inv
    exact (h3.cons (v, a)).trans h2.symm
/-- One taken out at the end, and put in again. -/
theorem q4_last (g : Nat → Int) (d : Int × Nat) (L : List (Int × Nat)) (a : Nat) (v : Int) (ha : a < 4) (hp : L.Perm (q4 g)) (h0 : L.getD 3 d = (g a, a)) : (L.take 3 ++ [(v, a)]).Perm (q4 (gup g a v)) := by
  obtain ⟨r, h1, h2⟩ := q4_split g a v ha
  have hl := q4_len g L hp
  have e : L = L.take 3 ++ [(g a, a)] := by
    have h3 : L.drop 3 = [(g a, a)] := by
      have hd : (L.drop 3).length = 1 := by rw [List.length_drop]; omega
      obtain ⟨x, hx⟩ := List.length_eq_one_iff.1 hd
      rw [hx]
      have : L.getD 3 d = x := by
        rw [List.getD_eq_getElem?_getD, ← List.getElem?_drop (i := 3) (j := 0), hx]
        rfl
      rw [← h0, this]
    conv => lhs; rw [← List.take_append_drop 3 L, h3]
  have h4 : (L.take 3 ++ [(g a, a)]).Perm ((g a, a) :: r) := by rw [← e]; exact hp.trans h1
  have h5 := ((List.perm_append_comm (l₁ := L.take 3) (l₂ := [(g a, a)])).symm.trans h4).cons_inv
  exact (List.perm_append_comm (l₁ := L.take 3) (l₂ := [(v, a)])).trans ((h5.cons (v, a)).trans h2.symm)
/-- A pulse more: whose, and what a pulse is worth then. -/
theorem fd4_next (x : Nat → Int) (G : Int) (n : Nat) (g : Nat → Int) (hg : g = fun i => dl (x i) G (fd4 x G n i)) : (fun i => dl (x i) G (fd4 x G (n + 1) i)) = gup g (bs4 g) (dl (x (bs4 g)) G (fd4 x G n (bs4 g) + 1)) := by
  subst hg
  funext i
  show dl (x i) G (more (fd4 x G n) (bs4 fun i => dl (x i) G (fd4 x G n i)) i) = _
  unfold more gup
  by_cases e : i = bs4 fun i => dl (x i) G (fd4 x G n i)
  · rw [if_pos e, if_pos e, ← e]
  · rw [if_neg e, if_neg e]
/-- More fuel sifts up as far. -/
theorem hup_fuel {α : Type} (lt : α → α → Bool) (d : α) : ∀ (f : Nat) (l : List α) (j : Nat), j < f → hup lt d (f + 1) l j = hup lt d f l j
  | 0, _, _, h => absurd h (by omega)
  | f + 1, l, j, h => by
    show (if pa j = j then l else if lt (l.getD j d) (l.getD (pa j) d) = true then hup lt d (f + 1) (swq d l (pa j) j) (pa j) else l) = (if pa j = j then l else if lt (l.getD j d) (l.getD (pa j) d) = true then hup lt d f (swq d l (pa j) j) (pa j) else l)
    by_cases e : pa j = j
    · rw [if_pos e, if_pos e]
    · rw [if_neg e, if_neg e]
      have hj : pa j < f := by
        have : 0 < j := by
          rcases Nat.eq_zero_or_pos j with h0 | h0
          · subst h0; exact absurd rfl e
          · exact h0
        have := pa_lt j this
        omega
      rw [hup_fuel lt d f _ _ hj]
end Go.Proofs.Ytoohahjmiljpgaa.M

/- Plain facts of layer 14: a heap of four, out of which the first is taken, and put in again with less left; pulses as they are found thereby. No program is named here. No conditions but those that each fact names. -/
namespace Go.Proofs.Ytoohahjmiljpgaa.M
theorem mem_take14 {α : Type} (d : α) (L : List α) (n : Nat) (h : L.length = n + 1) : L = L.take n ++ [L.getD n d] := by
  have h3 : L.drop n = [L.getD n d] := by
    have hd : (L.drop n).length = 1 := by rw [List.length_drop]; omega
    obtain ⟨x, hx⟩ := List.length_eq_one_iff.1 hd
    rw [hx]
    have : L.getD n d = x := by
      rw [List.getD_eq_getElem?_getD]
      have := List.getElem?_drop (xs := L) (i := n) (j := 0)
      rw [hx] at this
      rw [← Nat.add_zero n, ← this]
      rfl
    rw [this]
  conv => lhs; rw [← List.take_append_drop n L, h3]
/-- One put in. -/
theorem heap_push {α : Type} (lt : α → α → Bool) (h : Ls lt) (d : α) (L : List α) (x : α) (hp : Hp lt d L L.length 0) :
    Hp lt d (hup lt d (L.length + 1 + 1) (L ++ [x]) L.length) (hup lt d (L.length + 1 + 1) (L ++ [x]) L.length).length 0 ∧ (hup lt d (L.length + 1 + 1) (L ++ [x]) L.length).Perm (L ++ [x]) := by
  rw [hup_fuel lt d (L.length + 1) (L ++ [x]) L.length (by omega)]
  refine ⟨?_, hup_perm lt d _ _ _ (by simp)⟩
  rw [hup_len, List.length_append]
  exact hp_push lt h d L x hp
/-- The first one taken out. -/
theorem heap_pop {α : Type} (lt : α → α → Bool) (h : Ls lt) (d : α) (L : List α) (n : Nat) (hl : L.length = n + 1) (hp : Hp lt d L L.length 0) :
    (hdn lt d n n (swq d L 0 n) 0).getD n d = L.getD 0 d ∧ ((hdn lt d n n (swq d L 0 n) 0).take n).length = n ∧ Hp lt d ((hdn lt d n n (swq d L 0 n) 0).take n) ((hdn lt d n n (swq d L 0 n) 0).take n).length 0 ∧ L.Perm (L.getD 0 d :: (hdn lt d n n (swq d L 0 n) 0).take n) := by
  rw [hl] at hp
  obtain ⟨h1, h2⟩ := hp_pop lt h d L n hl.symm hp
  have hp3 := (hdn_perm lt h d n n (swq d L 0 n) 0 (by rw [swq_len]; omega)).trans (swq_perm d L 0 n (by omega) (by omega))
  obtain ⟨M, hM⟩ : ∃ M, hdn lt d n n (swq d L 0 n) 0 = M := ⟨_, rfl⟩
  rw [hM] at h1 h2 hp3 ⊢
  have hml : M.length = n + 1 := by rw [hp3.length_eq, hl]
  have htl : (M.take n).length = n := by rw [List.length_take]; omega
  refine ⟨h2, htl, ?_, ?_⟩
  · rw [htl]
    intro k k0 hk hlo
    have hg : ∀ j, j < n → (M.take n).getD j d = M.getD j d := fun j hj => by
      rw [List.getD_eq_getElem?_getD, List.getD_eq_getElem?_getD, List.getElem?_take, if_pos hj]
    have := pa_lt k k0
    rw [hg k hk, hg (pa k) (by omega)]
    exact h1 k k0 hk hlo
  · have e := mem_take14 d M n hml
    rw [h2] at e
    have := hp3.symm
    rw [e] at this
    exact this.trans List.perm_append_comm
theorem heap_none {α : Type} (lt : α → α → Bool) (d : α) : Hp lt d [] 0 0 := fun k _ hk _ => absurd hk (by omega)
/-- Four, each with what is left of it. -/
def r4 (u : Nat → Int) : List (Nat × Int) := [(0, u 0), (1, u 1), (2, u 2), (3, u 3)]
theorem r4_mem (u : Nat → Int) (p : Nat × Int) : p ∈ r4 u ↔ p.1 < 4 ∧ p.2 = u p.1 := by
  obtain ⟨a, v⟩ := p
  simp only [r4, List.mem_cons, Prod.mk.injEq, List.not_mem_nil, or_false]
  constructor
  · rintro (⟨rfl, rfl⟩ | ⟨rfl, rfl⟩ | ⟨rfl, rfl⟩ | ⟨rfl, rfl⟩) <;> exact ⟨by decide, rfl⟩
  · rintro ⟨ha, rfl⟩
    have h : a = 0 ∨ a = 1 ∨ a = 2 ∨ a = 3 := by omega
    rcases h with rfl | rfl | rfl | rfl <;> simp
theorem r4_split (u : Nat → Int) (a : Nat) (v : Int) (ha : a < 4) : ∃ r, (r4 u).Perm ((a, u a) :: r) ∧ (r4 (gup u a v)).Perm ((a, v) :: r) := by
  have h : a = 0 ∨ a = 1 ∨ a = 2 ∨ a = 3 := by omega
  rcases h with rfl | rfl | rfl | rfl
  · exact ⟨[(1, u 1), (2, u 2), (3, u 3)], List.Perm.refl _, by simp [r4, gup]⟩
  · exact ⟨[(0, u 0), (2, u 2), (3, u 3)], List.perm_middle (l₁ := [(0, u 0)]), by simpa [r4, gup] using List.perm_middle (a := (1, v)) (l₁ := [(0, u 0)]) (l₂ := [(2, u 2), (3, u 3)])⟩
  · exact ⟨[(0, u 0), (1, u 1), (3, u 3)], List.perm_middle (l₁ := [(0, u 0), (1, u 1)]), by simpa [r4, gup] using List.perm_middle (a := (2, v)) (l₁ := [(0, u 0), (1, u 1)]) (l₂ := [(3, u 3)])⟩
  · exact ⟨[(0, u 0), (1, u 1), (2, u 2)], List.perm_middle (l₁ := [(0, u 0), (1, u 1), (2, u 2)]), by simpa [r4, gup] using List.perm_middle (a := (3, v)) (l₁ := [(0, u 0), (1, u 1), (2, u 2)]) (l₂ := [])⟩
/-- Whose distance falls most, of as much the first one. -/
def fk (G : Int) (p : Nat × Int) : Int × Nat := (ab (p.2 - G) - ab p.2, p.1)
def lt14 (G : Int) (p q : Nat × Int) : Bool := ltE (fk G p) (fk G q)
theorem lt14_ls (G : Int) : Ls (lt14 G) := ⟨fun _ _ h => ltE_ls.1 _ _ h, fun _ _ _ h k => ltE_ls.2 _ _ _ h k⟩
theorem r4_first (G : Int) (u : Nat → Int) (d : Nat × Int) (L : List (Nat × Int)) (hp : L.Perm (r4 u)) (hh : Hp (lt14 G) d L L.length 0) (g : Nat → Int) (hg : ∀ i, i < 4 → g i = ab (u i - G) - ab (u i)) : L.getD 0 d = (bs4 g, u (bs4 g)) := by
  have hl : L.length = 4 := hp.length_eq
  have hm : ∀ k, (L.map (fk G)).getD k (fk G d) = fk G (L.getD k d) := fun k => by
    rw [List.getD_eq_getElem?_getD, List.getD_eq_getElem?_getD, List.getElem?_map]
    cases L[k]? <;> rfl
  have h1 : Hp ltE (fk G d) (L.map (fk G)) 4 0 := fun k k0 hk hlo => by
    rw [hm, hm]
    exact hh k k0 (by omega) hlo
  have h2 : (L.map (fk G)).Perm (q4 g) := by
    have := hp.map (fk G)
    refine this.trans ?_
    rw [show (r4 u).map (fk G) = q4 g from ?_]
    simp only [r4, q4, List.map_cons, List.map_nil, fk]
    rw [hg 0 (by omega), hg 1 (by omega), hg 2 (by omega), hg 3 (by omega)]
  have h3 := q4_least g (fk G d) (L.map (fk G)) h2 h1
  rw [hm] at h3
  have h4 := (r4_mem u _).1 (hp.mem_iff.1 (getD_mem13 L d 0 (by omega)))
  have h5 : (L.getD 0 d).1 = bs4 g := congrArg Prod.snd h3
  rw [h5] at h4
  exact Prod.ext h5 h4.2
/-- One pulse given: out of the queue, and in again with a gain less. -/
theorem r4_next (u : Nat → Int) (d : Nat × Int) (L R : List (Nat × Int)) (b : Nat) (v : Int) (hb : b < 4) (hp : L.Perm (r4 u)) (h0 : L.getD 0 d = (b, u b)) (hr : L.Perm (L.getD 0 d :: R)) : (R ++ [(b, v)]).Perm (r4 (gup u b v)) := by
  obtain ⟨r, h1, h2⟩ := r4_split u b v hb
  rw [h0] at hr
  have h3 : R.Perm r := ((hr.symm.trans hp).trans h1).cons_inv
  exact (List.perm_append_comm.trans (h3.cons (b, v))).trans h2.symm
/-- What is left behind n pulses. -/
def lf4 (x : Nat → Int) (G : Int) (n : Nat) : Nat → Int := fun i => x i - fd4 x G n i * G
theorem lf4_zero (x : Nat → Int) (G : Int) : lf4 x G 0 = x := by
  funext i
  show x i - ((0 : Nat) : Int) * G = x i
  rw [Int.natCast_zero, Int.zero_mul, Int.sub_zero]
theorem lf4_dl (x : Nat → Int) (G : Int) (n i : Nat) : dl (x i) G (fd4 x G n i) = ab (lf4 x G n i - G) - ab (lf4 x G n i) := by
  unfold dl gp lf4
  rw [next_mul]
  congr 2
  omega
theorem lf4_next (x : Nat → Int) (G : Int) (n b : Nat) (hb : b = bs4 fun i => dl (x i) G (fd4 x G n i)) : lf4 x G (n + 1) = gup (lf4 x G n) b (lf4 x G n b - G) := by
  funext i
  unfold lf4 gup
  show x i - (more (fd4 x G n) (bs4 fun i => dl (x i) G (fd4 x G n i)) i : Int) * G = _
  rw [← hb]
  unfold more
  by_cases e : i = b
  · subst e
    rw [if_pos rfl, if_pos rfl, next_mul]
    omega
  · rw [if_neg e, if_neg e]
theorem fd4_le (x : Nat → Int) (G : Int) (n i : Nat) (hi : i < 4) : fd4 x G n i ≤ n := by
  have h := fd4_sum x G n
  simp only [s4] at h
  have hj : i = 0 ∨ i = 1 ∨ i = 2 ∨ i = 3 := by omega
  rcases hj with rfl | rfl | rfl | rfl <;> omega
theorem lf4_bd (x : Nat → Int) (G : Int) (n i : Nat) (hi : i < 4) (hn : n ≤ 12) (hG0 : 0 ≤ G) (hG : G ≤ 32768) (hx : 0 ≤ x i ∧ x i ≤ 1048576) : -4194304 ≤ lf4 x G n i ∧ lf4 x G n i ≤ 4194304 := by
  unfold lf4
  have h1 := fd4_le x G n i hi
  have h2 : ((fd4 x G n i : Nat) : Int) ≤ 12 := by omega
  have h3 := Int.mul_le_mul_of_nonneg_right h2 hG0
  have h4 : 0 ≤ ((fd4 x G n i : Nat) : Int) * G := Int.mul_nonneg (by omega) hG0
  omega
/-- The pulses that are found, as a list. -/
def fl4 (c : Nat → Int) (G : Int) (n : Nat) : List Int := [fnd c G n 0, fnd c G n 1, fnd c G n 2, fnd c G n 3]
theorem fl4_get (c : Nat → Int) (G : Int) (n i : Nat) (hi : i < 4) : (fl4 c G n).getD i 0 = fnd c G n i := by
  have hj : i = 0 ∨ i = 1 ∨ i = 2 ∨ i = 3 := by omega
  rcases hj with rfl | rfl | rfl | rfl <;> rfl
theorem fl4_zero (c : Nat → Int) (G : Int) : fl4 c G 0 = [0, 0, 0, 0] := by
  have h : ∀ i, fnd c G 0 i = 0 := fun i => by
    show sgn (c i) 0 = 0
    unfold sgn
    split <;> rfl
  unfold fl4
  rw [h, h, h, h]
theorem fnd_next (c : Nat → Int) (G : Int) (n b i : Nat) (hb : b = bs4 fun i => dl (ab (c i)) G (fd4 (fun i => ab (c i)) G n i)) : fnd c G (n + 1) i = if i = b then fnd c G n i + (if 0 ≤ c i then 1 else -1) else fnd c G n i := by
  unfold fnd
  show sgn (c i) (more (fd4 (fun i => ab (c i)) G n) (bs4 fun i => dl (ab (c i)) G (fd4 (fun i => ab (c i)) G n i)) i) = _
  rw [← hb]
  unfold more
  by_cases e : i = b
  · rw [if_pos e, if_pos e]
    unfold sgn
    by_cases h : 0 ≤ c i
    · rw [if_pos h, if_pos h, if_pos h]; omega
    · rw [if_neg h, if_neg h, if_neg h]; omega
  · rw [if_neg e, if_neg e]
theorem fl4_next (c : Nat → Int) (G : Int) (n b : Nat) (h4 : b < 4) (hb : b = bs4 fun i => dl (ab (c i)) G (fd4 (fun i => ab (c i)) G n i)) : (fl4 c G n).set b (fnd c G n b + (if 0 ≤ c b then 1 else -1)) = fl4 c G (n + 1) := by
  have h := fun i => fnd_next c G n b i hb
  unfold fl4
  rw [h, h, h, h]
  have hj : b = 0 ∨ b = 1 ∨ b = 2 ∨ b = 3 := by omega
  clear h hb
  rcases hj with rfl | rfl | rfl | rfl <;> simp
theorem fnd_bd (c : Nat → Int) (G : Int) (n i : Nat) (hi : i < 4) : -(n : Int) ≤ fnd c G n i ∧ fnd c G n i ≤ n := by
  have h := fd4_le (fun i => ab (c i)) G n i hi
  unfold fnd sgn
  split <;> omega
end Go.Proofs.Ytoohahjmiljpgaa.M
