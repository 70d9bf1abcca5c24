/-
  Plain facts for layer 6: a word's places; what is found of the syndromes of no word, or of a word. No program is named here. No conditions.
-/
import Derived.Test.YtbokecpcefcimaaNf
namespace Go.Proofs.Ytbokecpcefcimaa
open Go.RowKit
open M

/-- A word's places, among the first j, rising. -/
def pos (v : List Bool) : Nat → List Nat
  | 0 => []
  | j + 1 => if v.getD j false = true then pos v j ++ [j] else pos v j
theorem pos_lt (v : List Bool) (j : Nat) : ∀ i ∈ pos v j, i < j := by
  induction j with
  | zero => intro i hi; cases hi
  | succ j ih =>
    intro i hi
    unfold pos at hi
    split at hi
    · rcases List.mem_append.1 hi with h | h
      · have := ih i h; omega
      · simp at h; omega
    · have := ih i hi; omega
theorem pos_few (v : List Bool) (j : Nat) : (pos v j).length ≤ j := by
  induction j with
  | zero => exact Nat.le_refl _
  | succ j ih =>
    unfold pos
    split
    · rw [List.length_append, List.length_singleton]; omega
    · omega
theorem pos_length (v : List Bool) (j : Nat) (hj : j ≤ v.length) : (pos v j).length = (v.take j).count true := by
  induction j with
  | zero => simp [pos]
  | succ j ih =>
    have ih := ih (by omega)
    have e : (v.take (j + 1)).count true = (v.take j).count true + if v.getD j false = true then 1 else 0 := by
      rw [List.take_succ_eq_append_getElem (by omega), List.count_append, List.getD_eq_getElem?_getD, List.getElem?_eq_getElem (by omega)]
      cases v[j] <;> rfl
    rw [e]
    unfold pos
    split
    · rw [List.length_append, List.length_singleton, ih]
    · rw [ih]; rfl
theorem pos_bit (v : List Bool) (j : Nat) : ∀ i ∈ pos v j, v.getD i false = true := by
  induction j with
  | zero => intro i hi; cases hi
  | succ j ih =>
    intro i hi
    unfold pos at hi
    split at hi
    · rename_i hb
      rcases List.mem_append.1 hi with h | h
      · exact ih i h
      · simp at h; rw [h]; exact hb
    · exact ih i hi
theorem snoc_getD (l : List Nat) (x k : Nat) : (l ++ [x]).getD k 0 = if k < l.length then l.getD k 0 else if k = l.length then x else 0 := by
  rw [List.getD_eq_getElem?_getD, List.getD_eq_getElem?_getD, List.getElem?_append]
  by_cases h : k < l.length
  · rw [if_pos h, if_pos h]
  · rw [if_neg h, if_neg h]
    by_cases e : k = l.length
    · rw [if_pos e, e, Nat.sub_self]; rfl
    · rw [if_neg e, List.getElem?_eq_none (by simp; omega)]; rfl
theorem getD_mem (l : List Nat) (k : Nat) (h : k < l.length) : l.getD k 0 ∈ l := by
  rw [List.getD_eq_getElem?_getD, List.getElem?_eq_getElem h]
  exact List.getElem_mem h
theorem pos_rise (v : List Bool) (j : Nat) : ∀ k, k + 1 < (pos v j).length → (pos v j).getD k 0 < (pos v j).getD (k + 1) 0 := by
  induction j with
  | zero => intro k hk; simp [pos] at hk
  | succ j ih =>
    intro k hk
    unfold pos at hk ⊢
    split
    · rename_i hb
      rw [if_pos hb, List.length_append, List.length_singleton] at hk
      rw [snoc_getD, snoc_getD, if_pos (by omega)]
      by_cases h : k + 1 < (pos v j).length
      · rw [if_pos h]; exact ih k h
      · rw [if_neg h, if_pos (by omega)]
        exact pos_lt v j _ (getD_mem _ _ (by omega))
    · rename_i hb
      rw [if_neg hb] at hk
      exact ih k hk
/-- The word with bits at these places. -/
theorem flips_pos (v : List Bool) (j : Nat) (hj : j ≤ 127) : flips w0 (pos v j) = (List.range 127).map fun i => if i < j then v.getD i false else false := by
  induction j with
  | zero =>
    show w0 = _
    rw [tab_congr 127 _ (fun _ => false) (fun i _ => if_neg (by omega)), List.map_const', List.length_range]
    rfl
  | succ j ih =>
    have ih := ih (by omega)
    unfold pos
    by_cases hb : v.getD j false = true
    · rw [if_pos hb, flips_snoc, ih]
      unfold M.flip
      rw [tab_getD _ _ _ _ (by omega), if_neg (by omega)]
      apply tab_set
      · rw [if_pos (by omega), hb]; rfl
      · intro i e
        rcases Nat.lt_or_ge i j with h1 | h1
        · rw [if_pos h1, if_pos (by omega)]
        · rw [if_neg (by omega), if_neg (by omega)]
    · rw [if_neg hb, ih]
      apply tab_congr
      intro i _
      by_cases e : i = j
      · subst e
        rw [if_neg (by omega), if_pos (by omega)]
        cases h : v.getD i false
        · rfl
        · exact absurd h hb
      · rcases Nat.lt_or_ge i j with h1 | h1
        · rw [if_pos h1, if_pos (by omega)]
        · rw [if_neg (by omega), if_neg (by omega)]
theorem flips_all (v : List Bool) (h : v.length = 127) : flips w0 (pos v 127) = v := by
  rw [flips_pos v 127 (by omega), tab_congr 127 _ (fun i => v.getD i false) (fun i hi => if_pos hi), tab_of _ false 127 h]
/-- The word of a polynomial's places. -/
def zw (P : List Nat) : List Bool := (List.range 127).map fun i => decide (ev (E ((127 - i) % 127)) P = 0)
theorem zw_length (P : List Nat) : (zw P).length = 127 := by simp [zw]
theorem zw_getD (P : List Nat) (i : Nat) (hi : i < 127) : (zw P).getD i false = decide (ev (E ((127 - i) % 127)) P = 0) := by
  unfold zw; rw [tab_getD _ _ _ _ hi]
theorem plN_pos (P : List Nat) (j : Nat) (hj : j ≤ 127) : plN P j = pos (zw P) j := by
  induction j with
  | zero => rfl
  | succ j ih =>
    have ih := ih (by omega)
    unfold plN pos
    rw [zw_getD P j (by omega), ih]
    by_cases h : ev (E ((127 - j) % 127)) P = 0
    · rw [if_pos h, if_pos (by rw [decide_eq_true_iff]; exact h)]
    · rw [if_neg h, if_neg (by rw [decide_eq_true_iff]; exact h)]
/-- A polynomial of a recurrence is 0 where that, turned round, is. -/
theorem zw_rev (S : Nat → Nat) (C : Nat → Nat) (L N : Nat) (P : List Nat) (g : Gen C L S N) (hP : ∀ i, P.getD i 0 = C i) (hels : Els P) (i : Nat) (hi : i < 127) : (zw P).getD i false = true ↔ ev (E i) (rev C L) = 0 := by
  rw [zw_getD P i hi, decide_eq_true_iff, rev_zero C g.lt L i hi]
  have hx := (E_bd ((127 - i) % 127) (Nat.mod_lt _ (by omega))).2
  generalize E ((127 - i) % 127) = x at *
  have e1 : ev x P = sg (L + 1 + P.length) fun j => mul (C j) (pw x j) := by
    rw [ev_sg x hx P hels (L + 1 + P.length) (by omega)]
    exact sg_congr _ _ _ fun j _ => by rw [hP]
  have e2 : (sg (L + 1 + P.length) fun j => mul (C j) (pw x j)) = sg (L + 1) fun j => mul (C j) (pw x j) :=
    sg_more _ _ _ fun j hj => by rw [g.deg j (by omega), mul_zl _ (pw_lt x j hx)]
  rw [e1, e2]
theorem rev_nz (S : Nat → Nat) (C : Nat → Nat) (L N : Nat) (g : Gen C L S N) : zs (rev C L) = false := by
  cases hz : zs (rev C L) with
  | false => rfl
  | true =>
    exfalso
    unfold zs at hz
    have := List.all_eq_true.1 hz (C 0) (by
      unfold rev
      rw [List.mem_map]
      exact ⟨L, List.mem_range.2 (by omega), by rw [Nat.sub_self]⟩)
    rw [g.one] at this
    simp at this
/-- It has no more places than it is long. -/
theorem zw_few (S : Nat → Nat) (C : Nat → Nat) (L N : Nat) (P : List Nat) (g : Gen C L S N) (hP : ∀ i, P.getD i 0 = C i) (hels : Els P) : (zw P).count true ≤ L := by
  have hfew := roots_few (L + 1) (rev C L) (rev_length C L) (rev_els C L g.lt) (rev_nz S C L N g)
  have hmany := count_sub (fun x => ev x (rev C L) == 0) (els (zw P)) 128 (els_nodup _ (zw_length P)) (fun a ha => els_els _ a ha) fun a ha => by
    obtain ⟨j, _, h2, rfl⟩ := xw_mem (zw P) 0 a ha
    rw [Nat.zero_add, zw_length] at h2
    have h3 := (els_iff (zw P) (zw_length P) j h2).1 ha
    have h4 := (zw_rev S C L N P g hP hels j h2).1 h3
    rw [beq_iff_eq]
    exact h4
  have hcn : cn (rev C L) 128 = (List.range 128).countP fun x => ev x (rev C L) == 0 := rfl
  rw [hcn] at hfew
  rw [← els_length]
  omega
theorem dc_cong {C : Nat → Nat} {L : Nat} {S S' : Nat → Nat} {n : Nat} (h : ∀ i, i ≤ n → S i = S' i) : dc C L S n = dc C L S' n := by
  unfold dc
  exact sg_congr _ _ _ fun i _ => by rw [h (n - i) (by omega)]
theorem gen_cong {C : Nat → Nat} {L : Nat} {S S' : Nat → Nat} {N : Nat} (h : ∀ i, i < N → S i = S' i) (g : Gen C L S N) : Gen C L S' N :=
  ⟨g.one, g.lt, g.deg, fun n h1 h2 => by rw [← dc_cong fun i hi => h i (by omega)]; exact g.zero n h1 h2⟩
theorem bm_cong {S S' : Nat → Nat} {N : Nat} {C : Nat → Nat} {L : Nat} {B : Nat → Nat} {m b : Nat} (h : ∀ i, i < N → S i = S' i) (k : Bm S N C L B m b) : Bm S' N C L B m b := by
  refine ⟨gen_cong h k.gen, fun C' L' g => k.least C' L' (gen_cong (fun i hi => (h i hi).symm) g), ?_⟩
  rcases k.last with h1 | ⟨M, Lb, h1, h2, h3, h4, h5, h6⟩
  · exact Or.inl h1
  · exact Or.inr ⟨M, Lb, h1, h2, gen_cong (fun i hi => h i (by omega)) h3, h4, by rw [← dc_cong fun i hi => h i (by omega)]; exact h5, h6⟩
theorem syn_seq (l : List Nat) (e : List Bool) (h : syn e = l) (i : Nat) (hi : i < 20) : l.getD i 0 = sq e i := by
  rw [← h, syn_getD e i hi]; rfl
/-- What is found of the syndromes of a word with ten bits at most: that word. -/
theorem found (S C B : Nat → Nat) (L m b : Nat) (P : List Nat) (k : Bm S 20 C L B m b) (hP : ∀ i, P.getD i 0 = C i) (hels : Els P) (u : List Bool) (hu : u.length = 127) (hc : u.count true ≤ 10) (hs : ∀ i, i < 20 → S i = sq u i) : L ≤ 10 ∧ zw P = u := by
  have k' := bm_cong hs k
  obtain ⟨h1, h2⟩ := bm_end u hu hc k'
  refine ⟨by omega, ?_⟩
  apply bext _ _ (by rw [zw_length, hu])
  intro i hi
  rw [zw_length] at hi
  rw [Bool.eq_iff_iff, zw_rev _ C L 20 P k'.gen hP hels i hi, h2 (E i) (E_bd i hi).2, els_iff u hu i hi]
end Go.Proofs.Ytbokecpcefcimaa
