/-
  Plain facts for layer 6: the steps of the search for a shortest recurrence (Berlekamp, Massey); a word's syndromes are those of its errors. No program is named here. No conditions.
-/
import Derived.Test.YtbokecpcefcimaaAb
namespace Go.Proofs.Ytbokecpcefcimaa.M

/-- The polynomial 1. -/
def one1 : Nat → Nat := fun i => if i = 0 then 1 else 0
/-- What holds ahead of the number N: a shortest recurrence; the last one that failed and made it longer, m numbers ago, by b. -/
structure Bm (S : Nat → Nat) (N : Nat) (C : Nat → Nat) (L : Nat) (B : Nat → Nat) (m b : Nat) : Prop where
  gen : Gen C L S N
  least : ∀ C' L', Gen C' L' S N → L ≤ L'
  last : (L = 0 ∧ m = N + 1 ∧ B = one1 ∧ b = 1) ∨ ∃ M Lb, M < N ∧ m = N - M ∧ Gen B Lb S M ∧ L + Lb = M + 1 ∧ dc B Lb S M = b ∧ b ≠ 0
theorem one1_lt (i : Nat) : one1 i < 128 := by unfold one1; split <;> omega
theorem bm_start (S : Nat → Nat) : Bm S 0 one1 0 one1 1 1 :=
  ⟨⟨rfl, one1_lt, fun i hi => if_neg (by omega), fun n h1 h2 => by omega⟩, fun _ _ _ => Nat.zero_le _, Or.inl ⟨rfl, rfl, rfl, rfl⟩⟩
theorem Bm.len {S : Nat → Nat} {N : Nat} {C : Nat → Nat} {L : Nat} {B : Nat → Nat} {m b : Nat} (h : Bm S N C L B m b) : L ≤ N := by
  rcases h.last with ⟨h1, _⟩ | ⟨M, Lb, h1, _, _, h2, _⟩ <;> omega
theorem Bm.pos {S : Nat → Nat} {N : Nat} {C : Nat → Nat} {L : Nat} {B : Nat → Nat} {m b : Nat} (h : Bm S N C L B m b) : 1 ≤ m ∧ b ≠ 0 := by
  rcases h.last with ⟨_, h1, _, h2⟩ | ⟨M, Lb, h1, h2, _, _, _, h3⟩
  · omega
  · exact ⟨by omega, h3⟩
/-- No failure. -/
theorem bm_zero {S : Nat → Nat} {N : Nat} {C : Nat → Nat} {L : Nat} {B : Nat → Nat} {m b : Nat} (h : Bm S N C L B m b) (hd : dc C L S N = 0) : Bm S (N + 1) C L B (m + 1) b := by
  refine ⟨⟨h.gen.one, h.gen.lt, h.gen.deg, fun n h1 h2 => ?_⟩, fun C' L' h' => h.least C' L' (h'.less (by omega)), ?_⟩
  · by_cases e : n = N
    · subst e; exact hd
    · exact h.gen.zero n h1 (by omega)
  · rcases h.last with ⟨h1, h2, h3, h4⟩ | ⟨M, Lb, h1, h2, h3, h4, h5, h6⟩
    · exact Or.inl ⟨h1, by omega, h3, h4⟩
    · exact Or.inr ⟨M, Lb, by omega, by omega, h3, h4, h5, h6⟩
theorem dc_lt {C : Nat → Nat} (L : Nat) (S : Nat → Nat) (n : Nat) (hC : ∀ i, C i < 128) (hS : ∀ n, S n < 128) : dc C L S n < 128 := sg_lt _ _ fun i => mul_lt _ _ (hC i) (hS _)
theorem k_mul (d b : Nat) (hd : d < 128) (hb : b < 128) (h0 : b ≠ 0) : mul (mul d (inv b)) b = d := by
  rw [← mul_assoc d (inv b) b hd (inv_lt b) hb, mul_comm (inv b) b (inv_lt b) hb, mul_inv b hb h0, mul_one d hd]
/-- A failure: the new recurrence, its length, and that it is a shortest one. -/
theorem bm_fail {S : Nat → Nat} (hS : ∀ n, S n < 128) {N : Nat} {C : Nat → Nat} {L : Nat} {B : Nat → Nat} {m b : Nat} (h : Bm S N C L B m b) (hd : dc C L S N ≠ 0) :
    Gen (upd C B (mul (dc C L S N) (inv b)) m) (max L (N + 1 - L)) S (N + 1) ∧ ∀ C' L', Gen C' L' S (N + 1) → max L (N + 1 - L) ≤ L' := by
  have hdl := dc_lt L S N h.gen.lt hS
  refine ⟨?_, least_step hS h.gen h.least hd⟩
  have hk : mul (dc C L S N) (inv b) < 128 := mul_lt _ _ hdl (inv_lt b)
  rcases h.last with ⟨h1, h2, h3, h4⟩ | ⟨M, Lb, h1, h2, h3, h4, h5, h6⟩
  · subst h1; subst h2; subst h3
    rw [show max 0 (N + 1 - 0) = N + 1 by omega]
    apply gen_first
    · unfold upd; rw [if_neg (by omega)]; exact h.gen.one
    · exact upd_lt h.gen.lt one1_lt hk
    · intro i hi
      unfold upd one1
      rw [if_pos (by omega), if_neg (by omega), mul_zr _ hk, h.gen.deg i (by omega)]; rfl
  · rw [h2]
    have hb : b < 128 := by rw [← h5]; exact dc_lt Lb S M h3.lt hS
    exact gen_step hS h.gen h3 h1 hk h4 (by rw [h5]; exact k_mul _ _ hdl hb h6)
/-- A failure that makes the recurrence longer. -/
theorem bm_long {S : Nat → Nat} (hS : ∀ n, S n < 128) {N : Nat} {C : Nat → Nat} {L : Nat} {B : Nat → Nat} {m b : Nat} (h : Bm S N C L B m b) (hd : dc C L S N ≠ 0) (hl : 2 * L ≤ N) :
    Bm S (N + 1) (upd C B (mul (dc C L S N) (inv b)) m) (N + 1 - L) C 1 (dc C L S N) := by
  obtain ⟨h1, h2⟩ := bm_fail hS h hd
  rw [show max L (N + 1 - L) = N + 1 - L by omega] at h1 h2
  exact ⟨h1, h2, Or.inr ⟨N, L, by omega, by omega, h.gen, by omega, rfl, hd⟩⟩
/-- A failure that doesn't. -/
theorem bm_same {S : Nat → Nat} (hS : ∀ n, S n < 128) {N : Nat} {C : Nat → Nat} {L : Nat} {B : Nat → Nat} {m b : Nat} (h : Bm S N C L B m b) (hd : dc C L S N ≠ 0) (hl : N < 2 * L) :
    Bm S (N + 1) (upd C B (mul (dc C L S N) (inv b)) m) L B (m + 1) b := by
  obtain ⟨h1, h2⟩ := bm_fail hS h hd
  rw [show max L (N + 1 - L) = L by omega] at h1 h2
  refine ⟨h1, h2, ?_⟩
  rcases h.last with ⟨h3, _⟩ | ⟨M, Lb, h3, h4, h5, h6, h7, h8⟩
  · omega
  · exact Or.inr ⟨M, Lb, by omega, by omega, h5, h6, h7, h8⟩
/-- What is found of the syndromes of a word with ten bits at most. -/
theorem bm_end (e : List Bool) (he : e.length = 127) (hf : e.count true ≤ 10) {C : Nat → Nat} {L : Nat} {B : Nat → Nat} {m b : Nat} (h : Bm (sq e) 20 C L B m b) :
    L = e.count true ∧ ∀ a, a < 128 → (ev a (rev C L) = 0 ↔ a ∈ els e) := by
  have hle := h.least (lam e) (els e).length (lam_gen e he 20 (by omega))
  rw [← els_length]
  exact loc_exact e he (by rw [els_length]; exact hf) C L h.gen hle
/-- A polynomial at an element's opposite power. -/
theorem rev_opp (C : Nat → Nat) (hC : ∀ i, C i < 128) (L i : Nat) (hi : i < 127) : mul (ev (E i) (rev C L)) (pw (E ((127 - i) % 127)) L) = sg (L + 1) fun j => mul (C j) (pw (E ((127 - i) % 127)) j) := by
  have hE := (E_bd i hi).2
  have hF := (E_bd ((127 - i) % 127) (Nat.mod_lt _ (by omega))).2
  have h1 : mul (E i) (E ((127 - i) % 127)) = 1 := by
    rw [E_mul i _ hi (Nat.mod_lt _ (by omega)), show (i + (127 - i) % 127) % 127 = 0 by omega]; exact E_zero
  generalize E ((127 - i) % 127) = y at *
  generalize E i = x at *
  have hp := pw_lt y L hF
  rw [rev_ev C L x hC hE, mul_comm _ _ (sg_lt _ _ fun j => mul_lt _ _ (hC _) (pw_lt x j hE)) hp, ← sg_mul _ hp, sg_rev]
  apply sg_congr
  intro j hj
  rw [show L - (L - j) = j by omega]
  have h2 : ∀ n, mul (pw x n) (pw y n) = 1 := by
    intro n
    induction n with
    | zero => exact one_mul 1 (by omega)
    | succ n ih =>
      have a1 := pw_lt x n hE
      have a2 := pw_lt y n hF
      show mul (mul (pw x n) x) (mul (pw y n) y) = 1
      rw [← mul_assoc _ _ _ a1 hE (mul_lt _ _ a2 hF), mul_comm (pw y n) y a2 hF, mul_assoc x y _ hE hF a2, h1, one_mul _ a2, ih]
  have h3 : pw y L = mul (pw y j) (pw y (L - j)) := by
    have := pw_add y (L - j) j hF
    rwa [show L - j + j = L by omega] at this
  have a1 := pw_lt x (L - j) hE
  have a2 := pw_lt y j hF
  have a3 := pw_lt y (L - j) hF
  rw [h3, mul_comm (C j) _ (hC j) a1, ← mul_assoc _ _ _ a2 a3 (mul_lt _ _ a1 (hC j)), mul_assoc _ _ _ a3 a1 (hC j), mul_comm (pw y (L - j)) _ a3 a1, h2, one_mul _ (hC j), mul_comm _ _ a2 (hC j)]
theorem rev_zero (C : Nat → Nat) (hC : ∀ i, C i < 128) (L i : Nat) (hi : i < 127) : ev (E i) (rev C L) = 0 ↔ (sg (L + 1) fun j => mul (C j) (pw (E ((127 - i) % 127)) j)) = 0 := by
  have hF := E_bd ((127 - i) % 127) (Nat.mod_lt _ (by omega))
  have hp := pw_lt (E ((127 - i) % 127)) L hF.2
  have hne : pw (E ((127 - i) % 127)) L ≠ 0 := by
    rw [pw_pos _ _ hF.2 (by omega)]
    have := E_bd ((Lg (E ((127 - i) % 127)) * L) % 127) (Nat.mod_lt _ (by omega))
    omega
  have hl := ev_lt (E i) (E_bd i hi).2 _ (rev_els C L hC)
  rw [← rev_opp C hC L i hi]
  constructor
  · intro h
    rw [h, mul_zl _ hp]
  · intro h
    by_cases hz : ev (E i) (rev C L) = 0
    · exact hz
    · exact absurd h (mul_ne _ _ hl hp hz hne)

/-- A word's syndromes are those of its errors. -/
theorem sq_err (v c : List Bool) (hv : v.length = 127) (hc : c.length = 127) (h : Cw c) (n : Nat) (hn : n < 20) : sq (wx v c) n = sq v n := by
  unfold sq
  rw [ev_wx _ (E_any _) v c (by omega), h (n + 1) (by omega) (by omega), Nat.xor_zero]
theorem wx_wx (v c : List Bool) (h : v.length = c.length) : wx v (wx v c) = c := by
  apply bext _ _ (by rw [wx_length _ _ (by rw [wx_length v c h]), h])
  intro i _
  rw [wx_getD _ _ _ (by rw [wx_length v c h]), wx_getD _ _ _ h]
  cases v.getD i false <;> cases c.getD i false <;> rfl
/-- Two words with the same syndromes, of ten bits at most, are the same. -/
theorem sq_one (a b : List Bool) (ha : a.length = 127) (hb : b.length = 127) (h1 : a.count true ≤ 10) (h2 : b.count true ≤ 10) (h : ∀ n, n < 20 → sq a n = sq b n) : a = b := by
  have hc : Cw (wx a b) := by
    intro i k1 k2
    have := h (i - 1) (by omega)
    unfold sq at this
    rw [show i - 1 + 1 = i by omega] at this
    rw [ev_wx _ (E_any i) a b (by omega), this, Nat.xor_self]
  have hl : (wx a b).length = 127 := by rw [wx_length a b (by omega), ha]
  have hcnt : ∀ (a b : List Bool), (wx a b).count true ≤ a.count true + b.count true := by
    intro a
    induction a with
    | nil => intro b; simp [wx]
    | cons x a ih =>
      intro b
      cases b with
      | nil => simp [wx]
      | cons y b =>
        have := ih b
        show ((x != y) :: wx a b).count true ≤ _
        rw [List.count_cons, List.count_cons, List.count_cons]
        cases x <;> cases y <;> simp <;> omega
  rcases cw_far _ (by omega) hc with h0 | h0
  · exact wx_count_zero a b (by omega) h0
  · have := hcnt a b
    omega
end Go.Proofs.Ytbokecpcefcimaa.M
