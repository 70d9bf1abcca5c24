/-
  Plain facts for layer 6: what Amend answers. No program is named here. No conditions.
-/
import Derived.Test.YtbokecpcefcimaaNk
namespace Go.Proofs.Ytbokecpcefcimaa
open Go.RowKit
open M

/-- What Amend answers of a word and holes: a number, and 0, or 5. -/
def Am (l h : List Bool) (x : BitVec 64) (n : Int) : Prop :=
  (n = 0 ∧ farN l h (cwd x) 127 ≤ 20) ∨ (n = 5 ∧ x = 0 ∧ ∀ y, 20 < farN l h (cwd y) 127)
theorem flips_wxN (F u : List Bool) (hF : F.length = 127) (j : Nat) (hj : j ≤ 127) : flips F (pos u j) = (List.range 127).map fun i => if i < j then F.getD i false != u.getD i false else F.getD i false := by
  induction j with
  | zero =>
    show F = _
    rw [tab_congr 127 _ (fun i => F.getD i false) (fun i _ => if_neg (by omega)), tab_of _ false 127 hF]
  | succ j ih =>
    have ih := ih (by omega)
    unfold pos
    by_cases hb : u.getD j false = true
    · rw [if_pos hb, flips_snoc, ih]
      unfold M.flip
      rw [tab_getD _ _ _ _ (by omega), if_neg (by omega)]
      apply tab_set
      · rw [if_pos (by omega), hb]
        cases F.getD j false <;> rfl
      · intro i e
        rcases Nat.lt_or_ge i j with h1 | h1
        · rw [if_pos h1, if_pos (by omega)]
        · rw [if_neg (by omega), if_neg (by omega)]
    · rw [if_neg hb, ih]
      apply tab_congr
      intro i _
      by_cases e : i = j
      · subst e
        rw [if_neg (by omega), if_pos (by omega)]
        cases h : u.getD i false
        · cases F.getD i false <;> rfl
        · exact absurd h hb
      · rcases Nat.lt_or_ge i j with h1 | h1
        · rw [if_pos h1, if_pos (by omega)]
        · rw [if_neg (by omega), if_neg (by omega)]
/-- A word with the bits changed at another word's places is their sum. -/
theorem flips_wx (F u : List Bool) (hF : F.length = 127) (hu : u.length = 127) : flips F (pos u 127) = wx F u := by
  rw [flips_wxN F u hF 127 (by omega)]
  apply bext _ _ (by rw [List.length_map, List.length_range, wx_length _ _ (by omega), hF])
  intro i hi
  rw [List.length_map, List.length_range] at hi
  rw [tab_getD _ _ _ _ hi, if_pos hi, wx_getD _ _ _ (by omega)]
theorem syn_of_sq (a b : List Bool) (h : ∀ n, n < 20 → sq a n = sq b n) : syn a = syn b := by
  unfold syn sj
  apply tab_congr
  intro i hi
  rw [if_pos hi, if_pos hi]
  exact h i hi
theorem sq_of_syn (a b : List Bool) (h : syn a = syn b) (n : Nat) (hn : n < 20) : sq a n = sq b n := by
  have h1 := syn_getD a n hn
  rw [h, syn_getD b n hn] at h1
  exact h1.symm
theorem amend_cw (F u : List Bool) (hF : F.length = 127) (hu : u.length = 127) (h : castL (syn u) = castL (syn F)) : Cw (wx F u) := by
  intro i h1 h2
  rw [ev_wx _ (E_any _) F u (by omega)]
  have := sq_of_syn _ _ (castL_inj _ _ h) (i - 1) (by omega)
  unfold sq at this
  rw [show i - 1 + 1 = i by omega] at this
  rw [this, Nat.xor_self]
theorem amend_no1 (F : List Bool) (hF : F.length = 127) (h : ∀ u : List Bool, u.length = 127 → u.count true ≤ 10 → castL (syn u) ≠ castL (syn F)) (c : List Bool) (hc : c.length = 127) (kc : Cw c) : 10 < dst F c := by
  rcases Nat.lt_or_ge 10 (dst F c) with h1 | h1
  · exact h1
  · exfalso
    refine h (wx F c) (by rw [wx_length _ _ (by omega), hF]) h1 ?_
    rw [syn_of_sq (wx F c) F fun n hn => sq_err F c hF hc kc n hn]
theorem amend_no2 (F u : List Bool) (hF : F.length = 127) (hu : u.length = 127) (hn : u.count true ≤ 10) (h : castL (syn u) = castL (syn F)) (c : List Bool) (hc : c.length = 127) (kc : Cw c) (hd : dst F c ≤ 10) : wx F u = c := by
  have e : u = wx F c := by
    refine sq_one u (wx F c) hu (by rw [wx_length _ _ (by omega), hF]) hn hd fun n hn => ?_
    rw [sq_err F c hF hc kc n hn]
    exact sq_of_syn _ _ (castL_inj _ _ h) n hn
  rw [e]
  exact wx_wx F c (by omega)
/-- What is known of the codewords once k fillings have been tried. -/
def NF (l h : List Bool) (k : Nat) : Prop := ∀ y, farN l h (cwd y) 127 ≤ 20 → (1 ≤ k → 10 < dst (M.fill l h false) (cwd y)) ∧ (2 ≤ k → 10 < dst (M.fill l h true) (cwd y))
theorem nf_zero (l h : List Bool) : NF l h 0 := fun _ _ => ⟨fun h => by omega, fun h => by omega⟩
theorem nf_next (l h : List Bool) (k : Nat) (b : Bool) (hk : b = decide (k = 1)) (hk2 : k < 2) (hn : NF l h k) (ht : ∀ y, farN l h (cwd y) 127 ≤ 20 → 10 < dst (M.fill l h b) (cwd y)) : NF l h (k + 1) := by
  intro y hy
  have h1 := hn y hy
  have h2 := ht y hy
  have hk3 : k = 0 ∨ k = 1 := by omega
  rcases hk3 with rfl | rfl
  · have hb : b = false := by rw [hk]; rfl
    rw [hb] at h2
    exact ⟨fun _ => h2, fun h => by omega⟩
  · have hb : b = true := by rw [hk]; rfl
    rw [hb] at h2
    exact ⟨fun _ => h1.1 (by omega), fun _ => h2⟩
theorem nf_end (l h : List Bool) (hn : NF l h 2) (y : BitVec 64) : 20 < farN l h (cwd y) 127 := by
  rcases Nat.lt_or_ge 20 (farN l h (cwd y) 127) with h1 | h1
  · exact h1
  · exfalso
    have h2 := hn y h1
    have h3 := h2.1 (by omega)
    have h4 := h2.2 (by omega)
    rcases fill_few l h (cwd y) (cwd_length y) h1 with h5 | h5 <;> omega
/-- Found, and near: it is the codeword of what it tells. -/
theorem am_found (l h F u : List Bool) (hF : F.length = 127) (hu : u.length = 127) (hs : castL (syn u) = castL (syn F)) (hn : farN l h (wx F u) 127 ≤ 20) : Am l h (told (wx F u)) 0 := by
  have hl : (wx F u).length = 127 := by rw [wx_length _ _ (by omega), hF]
  have hc := cw_told (wx F u) hl (amend_cw F u hF hu hs)
  exact Or.inl ⟨rfl, by rw [← hc]; exact hn⟩
theorem far_holes (l h c : List Bool) (hh : h.length = 127) : h.count true ≤ farN l h c 127 := by
  have := far_all l h c hh
  omega
theorem loc_few (xs : List Int) (ok : Bool) (ps : List Nat) (h : Loc xs ok ps) : (∀ i ∈ ps, i < 127) ∧ ps.length ≤ 1000 := by
  rcases h with ⟨_, u, _, _, _, rfl⟩ | ⟨_, rfl, _⟩
  · exact ⟨pos_lt u 127, by have := pos_few u 127; omega⟩
  · exact ⟨fun i hi => (by cases hi), (by simp)⟩
end Go.Proofs.Ytbokecpcefcimaa
