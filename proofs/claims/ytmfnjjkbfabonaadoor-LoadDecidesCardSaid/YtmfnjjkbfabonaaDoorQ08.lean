/-
  Contracts and plain facts that the laws share, part 8; each piece is headed by what it holds and its conditions.
-/
import Derived.Test.YtmfnjjkbfabonaaDoorQ07
import Derived.Test.YtmfnjjkbfabonaaDoorQ06

/- Plain facts for layer 6: a word's syndromes follow the recurrence of its bits' elements; the shortest recurrence of twenty of them tells up to ten bits' places. No program is named here. No conditions. -/
namespace Go.Proofs.YtmfnjjkbfabonaaDoor.M

theorem E_any (n : Nat) : E n < 128 := by
  rcases Nat.lt_or_ge n 127 with h | h
  · exact (E_bd n h).2
  · unfold E
    rw [List.getD_eq_getElem?_getD, List.getElem?_eq_none (by
      have : expT.length = 127 := by decide +kernel
      omega)]
    decide
/-- The elements of a word's bits. -/
def els (e : List Bool) : List Nat := xw e 0
theorem els_length (e : List Bool) : (els e).length = e.count true := xw_length e 0
theorem els_nodup (e : List Bool) (h : e.length = 127) : (els e).Nodup := xw_nodup e 0 (by omega)
theorem els_pos (e : List Bool) (h : e.length = 127) (a : Nat) (ha : a ∈ els e) : a ≠ 0 := by
  obtain ⟨j, _, h2, rfl⟩ := xw_mem e 0 a ha
  have := E_bd j (by omega)
  omega
theorem els_els (e : List Bool) : Els (els e) := by
  intro a ha
  obtain ⟨j, _, _, rfl⟩ := xw_mem e 0 a ha
  exact E_any j
theorem xw_iff : ∀ (w : List Bool) (k i : Nat), k + w.length ≤ 127 → i < w.length → (E (k + i) ∈ xw w k ↔ w.getD i false = true)
  | [], _, _, _, h => by simp at h
  | b :: w, k, 0, hk, _ => by
    rw [List.length_cons] at hk
    have hno : E k ∉ xw w (k + 1) := by
      intro hm
      obtain ⟨j, h1, h2, h3⟩ := xw_mem w (k + 1) _ hm
      have := E_inj k j (by omega) (by omega) h3
      omega
    cases b
    · show E k ∈ xw w (k + 1) ↔ _
      simp [hno]
    · show E k ∈ E k :: xw w (k + 1) ↔ _
      simp
  | b :: w, k, i + 1, hk, hi => by
    rw [List.length_cons] at hk hi
    have ih := xw_iff w (k + 1) i (by omega) (by omega)
    rw [show k + 1 + i = k + (i + 1) by omega] at ih
    rw [List.getD_cons_succ, ← ih]
    cases b
    · exact Iff.rfl
    · show E (k + (i + 1)) ∈ E k :: xw w (k + 1) ↔ _
      rw [List.mem_cons]
      constructor
      · rintro (h | h)
        · have := E_inj _ _ (by omega) (by omega) h
          omega
        · exact h
      · exact Or.inr
theorem els_iff (e : List Bool) (h : e.length = 127) (i : Nat) (hi : i < 127) : E i ∈ els e ↔ e.getD i false = true := by
  have := xw_iff e 0 i (by omega) (by omega)
  rwa [Nat.zero_add] at this
/-- A word's syndromes are power sums. -/
theorem syn_sum (e : List Bool) (h : e.length = 127) (i : Nat) (hi : i < 127) : ev (E i) (wp e) = xsum ((els e).map fun a => pw a i) := by
  rw [ev_pz _ (E_bd i hi).2, pz_xw i hi e 0 (by omega)]; rfl
/-- The syndromes as a sequence. -/
def sq (e : List Bool) (n : Nat) : Nat := ev (E (n + 1)) (wp e)
theorem sq_lt (e : List Bool) (n : Nat) : sq e n < 128 := ev_lt _ (E_any _) _ (wp_els e)

theorem xsum_sg (xs : List Nat) (n : Nat) (f : Nat → Nat → Nat) : xsum (xs.map fun a => sg n (f a)) = sg n fun j => xsum (xs.map fun a => f a j) := by
  induction xs with
  | nil => exact (sg_zero n _ fun j _ => rfl).symm
  | cons a xs ih =>
    rw [List.map_cons, xsum_cons, ih, ← sg_xor]
    exact sg_congr n _ _ fun j _ => rfl
theorem sg_rev (n : Nat) (f : Nat → Nat) : sg (n + 1) f = sg (n + 1) fun i => f (n - i) := by
  induction n generalizing f with
  | zero => rfl
  | succ n ih =>
    have e : sg (n + 1 + 1) f = f 0 ^^^ sg (n + 1) fun i => f (i + 1) := by
      clear ih
      generalize n + 1 = m
      induction m with
      | zero => rw [sg_succ, sg_none, sg_none, Nat.zero_xor, Nat.xor_zero]
      | succ m ih => rw [sg_succ, ih, sg_succ, Nat.xor_assoc]
    rw [e, ih fun i => f (i + 1), sg_succ (n + 1) fun i => f (n + 1 - i), Nat.sub_self, Nat.xor_comm]
    congr 1
    apply sg_congr
    intro i hi
    rw [show n - i + 1 = n + 1 - i by omega]
theorem pw_add (a m n : Nat) (ha : a < 128) : pw a (m + n) = mul (pw a n) (pw a m) := by
  have hm := pw_lt a m ha
  induction n with
  | zero => exact (one_mul _ hm).symm
  | succ n ih =>
    have hn := pw_lt a n ha
    show mul (pw a (m + n)) a = mul (mul (pw a n) a) (pw a m)
    rw [ih, ← mul_assoc _ _ _ hn hm ha, mul_comm _ a hm ha, mul_assoc _ _ _ hn ha hm]
theorem sm_sg (x : Nat) (p : List Nat) (n : Nat) : sm x p n = sg n fun i => mul (p.getD i 0) (pw x i) := by
  induction n with
  | zero => rfl
  | succ n ih => rw [sg_succ, ← ih]; rfl
theorem ev_sg (x : Nat) (hx : x < 128) (p : List Nat) (h : Els p) (n : Nat) (hn : p.length ≤ n) : ev x p = sg n fun i => mul (p.getD i 0) (pw x i) := by
  rw [ev_sum x hx p h, sm_sg, show n = p.length + (n - p.length) by omega]
  refine (sg_more _ _ _ fun i hi => ?_).symm
  rw [List.getD_eq_getElem?_getD, List.getElem?_eq_none hi]
  exact mul_zl _ (pw_lt x i hx)

/-- A recurrence's sums at power sums are sums of its values. -/
theorem dc_sums (e : List Bool) (he : e.length = 127) (C : Nat → Nat) (hC : ∀ i, C i < 128) (L n : Nat) (hL : L ≤ n) (hn : n < 100) :
    dc C L (sq e) n = xsum ((els e).map fun a => mul (sg (L + 1) fun j => mul (C (L - j)) (pw a j)) (pw a (n - L + 1))) := by
  have e1 : ∀ i, i < L + 1 → mul (C i) (sq e (n - i)) = xsum ((els e).map fun a => mul (C i) (pw a (n - i + 1))) := by
    intro i hi
    unfold sq
    rw [syn_sum e he (n - i + 1) (by omega), ← xsum_mul (C i) (hC i)]
  unfold dc
  rw [sg_congr _ _ _ e1, ← xsum_sg (els e) (L + 1) fun a i => mul (C i) (pw a (n - i + 1))]
  apply xsum_congr
  intro a ha
  have haa := els_els e a ha
  have hp := pw_lt a (n - L + 1) haa
  rw [mul_comm _ _ (sg_lt _ _ fun j => mul_lt _ _ (hC _) (pw_lt a j haa)) hp, ← sg_mul _ hp, sg_rev]
  apply sg_congr
  intro j hj
  rw [show n - (L - j) + 1 = (n - L + 1) + j by omega, pw_add a _ _ haa, mul_comm (pw a j) _ (pw_lt a j haa) hp, mul_assoc _ _ _ (hC _) hp (pw_lt a j haa), mul_comm (C (L - j)) _ (hC _) hp, ← mul_assoc _ _ _ hp (hC _) (pw_lt a j haa)]
theorem rp_top : ∀ l, Els l → (rp l).getD l.length 0 = 1
  | [], _ => rfl
  | a :: l, h => by
    have ih := rp_top l h.tail
    have hl := rp_length l
    show (tm (rp l) a).getD (l.length + 1) 0 = 1
    unfold tm
    rw [lx_getD _ _ _ (by simp), List.getD_cons_succ, ih]
    have e : (((rp l).map fun c => mul c a) ++ [0]).getD (l.length + 1) 0 = 0 := by
      rw [List.getD_eq_getElem?_getD, List.getElem?_append_right (by simp [hl])]
      simp [hl]
    rw [e]; rfl
/-- The recurrence of a word's own elements. -/
def lam (e : List Bool) : Nat → Nat := fun i => if i ≤ (els e).length then (rp (els e)).getD ((els e).length - i) 0 else 0
theorem lam_gen (e : List Bool) (he : e.length = 127) (N : Nat) (hN : N ≤ 100) : Gen (lam e) (els e).length (sq e) N := by
  have hels := rp_els _ (els_els e)
  have hlt : ∀ i, lam e i < 128 := by
    intro i
    unfold lam
    split
    · exact hels.getD _
    · omega
  refine ⟨?_, hlt, ?_, ?_⟩
  · unfold lam
    rw [if_pos (by omega), Nat.sub_zero, rp_top _ (els_els e)]
  · intro i hi
    unfold lam
    rw [if_neg (by omega)]
  · intro n h1 h2
    rw [dc_sums e he _ hlt _ n h1 (by omega)]
    apply xsum_zero
    intro a ha
    have haa := els_els e a ha
    have e1 : (sg ((els e).length + 1) fun j => mul (lam e ((els e).length - j)) (pw a j)) = ev a (rp (els e)) := by
      rw [ev_sg a haa _ hels ((els e).length + 1) (by rw [rp_length]; exact Nat.le_refl _)]
      apply sg_congr
      intro j hj
      unfold lam
      rw [if_pos (by omega), show (els e).length - ((els e).length - j) = j by omega]
    rw [e1, rp_in a haa _ (els_els e) ha, mul_zl _ (pw_lt a _ haa)]

/-- A polynomial's coefficients turned round. -/
def rev (C : Nat → Nat) (L : Nat) : List Nat := (List.range (L + 1)).map fun j => C (L - j)
theorem rev_length (C : Nat → Nat) (L : Nat) : (rev C L).length = L + 1 := by unfold rev; rw [List.length_map, List.length_range]
theorem rev_els (C : Nat → Nat) (L : Nat) (h : ∀ i, C i < 128) : Els (rev C L) := by
  intro c hc
  obtain ⟨j, _, rfl⟩ := List.mem_map.1 hc
  exact h _
theorem rev_ev (C : Nat → Nat) (L a : Nat) (h : ∀ i, C i < 128) (ha : a < 128) : ev a (rev C L) = sg (L + 1) fun j => mul (C (L - j)) (pw a j) := by
  rw [ev_sg a ha _ (rev_els C L h) (L + 1) (by rw [rev_length]; exact Nat.le_refl _)]
  apply sg_congr
  intro j hj
  unfold rev
  rw [tab_getD _ _ _ _ hj]
theorem count_sub (p : Nat → Bool) : ∀ (xs : List Nat) (n : Nat), xs.Nodup → (∀ a ∈ xs, a < n) → (∀ a ∈ xs, p a = true) → xs.length ≤ (List.range n).countP p
  | [], _, _, _, _ => Nat.zero_le _
  | a :: xs, n, h, h1, h2 => by
    rw [List.nodup_cons] at h
    have ih := count_sub (fun x => p x && (x != a)) xs n h.2 (fun b hb => h1 b (List.mem_cons_of_mem _ hb)) fun b hb => by
      have hne : b ≠ a := fun e => h.1 (e ▸ hb)
      simp [h2 b (List.mem_cons_of_mem _ hb), hne]
    have hlt : (List.range n).countP (fun x => p x && (x != a)) < (List.range n).countP p := by
      have hmem := List.mem_range.2 (h1 a (List.mem_cons_self ..))
      obtain ⟨l, m, e⟩ := List.append_of_mem hmem
      rw [e]
      simp only [List.countP_append, List.countP_cons, h2 a (List.mem_cons_self ..), bne_self_eq_false, Bool.and_false, if_true]
      have q1 : ∀ l : List Nat, l.countP (fun x => p x && (x != a)) ≤ l.countP p := fun l => List.countP_mono_left fun x _ hx => by simp at hx; exact hx.1
      have := q1 l
      have := q1 m
      simp
      omega
    rw [List.length_cons]; omega
/-- A recurrence's value at an element. -/
def val (C : Nat → Nat) (L a : Nat) : Nat := if a < 128 then ev a (rev C L) else 0
theorem val_lt (C : Nat → Nat) (L : Nat) (h : ∀ i, C i < 128) (a : Nat) : val C L a < 128 := by
  unfold val
  by_cases ha : a < 128
  · rw [if_pos ha]; exact ev_lt a ha _ (rev_els C L h)
  · rw [if_neg ha]; omega
theorem val_ev (C : Nat → Nat) (L a : Nat) (ha : a < 128) : val C L a = ev a (rev C L) := if_pos ha
/-- A short recurrence of twenty syndromes: it is as long as the word has bits, and 0 just at their elements. -/
theorem loc_exact (e : List Bool) (he : e.length = 127) (hf : (els e).length ≤ 10) (C : Nat → Nat) (L : Nat) (g : Gen C L (sq e) 20) (hL : L ≤ (els e).length) :
    L = (els e).length ∧ ∀ a, a < 128 → (ev a (rev C L) = 0 ↔ a ∈ els e) := by
  have hs : ∀ i, 1 ≤ i → i < 1 + (els e).length → xsum ((els e).map fun a => mul (val C L a) (pw a i)) = 0 := by
    intro i h1 h2
    have hz := g.zero (L + i - 1) (by omega) (by omega)
    rw [dc_sums e he C g.lt L (L + i - 1) (by omega) (by omega)] at hz
    rw [← hz]
    apply xsum_congr
    intro b hb
    have hbb := els_els e b hb
    rw [val_ev C L b hbb, rev_ev C L b g.lt hbb, show L + i - 1 - L + 1 = i by omega]
  have hv : ∀ a ∈ els e, ev a (rev C L) = 0 := by
    intro a ha
    rw [← val_ev C L a (els_els e a ha)]
    exact weights (val C L) (val_lt C L g.lt) (els e) (els_els e) (els_pos e he) (els_nodup e he) 1 hs a ha
  have hnz : zs (rev C L) = false := by
    cases hz : zs (rev C L) with
    | false => rfl
    | true =>
      exfalso
      unfold zs at hz
      have := List.all_eq_true.1 hz (C 0) (by
        unfold rev
        rw [List.mem_map]
        exact ⟨L, List.mem_range.2 (by omega), by rw [Nat.sub_self]⟩)
      rw [g.one] at this
      simp at this
  have hfew := roots_few (L + 1) (rev C L) (rev_length C L) (rev_els C L g.lt) hnz
  have hmany := count_sub (fun x => ev x (rev C L) == 0) (els e) 128 (els_nodup e he) (fun a ha => els_els e a ha) fun a ha => by simp [hv a ha]
  have hcn : cn (rev C L) 128 = (List.range 128).countP fun x => ev x (rev C L) == 0 := rfl
  rw [hcn] at hfew
  refine ⟨by omega, fun a ha => ⟨fun h => ?_, hv a⟩⟩
  by_cases hin : a ∈ els e
  · exact hin
  · exfalso
    have := count_sub (fun x => ev x (rev C L) == 0) (a :: els e) 128 (List.nodup_cons.2 ⟨hin, els_nodup e he⟩) (fun b hb => by
      rcases List.mem_cons.1 hb with rfl | hb
      · exact ha
      · exact els_els e b hb) fun b hb => by
        rcases List.mem_cons.1 hb with rfl | hb
        · simp [h]
        · simp [hv b hb]
    rw [List.length_cons] at this
    omega
end Go.Proofs.YtmfnjjkbfabonaaDoor.M

/- Plain facts for layer 6: the steps of the search for a shortest recurrence (Berlekamp, Massey); a word's syndromes are those of its errors. No program is named here. No conditions. -/
namespace Go.Proofs.YtmfnjjkbfabonaaDoor.M

/-- The polynomial 1. -/
def one1 : Nat → Nat := fun i => if i = 0 then 1 else 0
/-- What holds ahead of the number N: a shortest recurrence; the last one that failed and made it longer, m numbers ago, by b. -/
structure Bm (S : Nat → Nat) (N : Nat) (C : Nat → Nat) (L : Nat) (B : Nat → Nat) (m b : Nat) : Prop where
  gen : Gen C L S N
  least : ∀ C' L', Gen C' L' S N → L ≤ L'
  last : (L = 0 ∧ m = N + 1 ∧ B = one1 ∧ b = 1) ∨ ∃ M Lb, M < N ∧ m = N - M ∧ Gen B Lb S M ∧ L + Lb = M + 1 ∧ dc B Lb S M = b ∧ b ≠ 0
theorem one1_lt (i : Nat) : one1 i < 128 := by unfold one1; split <;> omega
theorem bm_start (S : Nat → Nat) : Bm S 0 one1 0 one1 1 1 :=
  ⟨⟨rfl, one1_lt, fun i hi => if_neg (by omega), fun n h1 h2 => by omega⟩, fun _ _ _ => Nat.zero_le _, Or.inl ⟨rfl, rfl, rfl, rfl⟩⟩
theorem Bm.len {S : Nat → Nat} {N : Nat} {C : Nat → Nat} {L : Nat} {B : Nat → Nat} {m b : Nat} (h : Bm S N C L B m b) : L ≤ N := by
  rcases h.last with ⟨h1, _⟩ | ⟨M, Lb, h1, _, _, h2, _⟩ <;> omega
theorem Bm.pos {S : Nat → Nat} {N : Nat} {C : Nat → Nat} {L : Nat} {B : Nat → Nat} {m b : Nat} (h : Bm S N C L B m b) : 1 ≤ m ∧ b ≠ 0 := by
  rcases h.last with ⟨_, h1, _, h2⟩ | ⟨M, Lb, h1, h2, _, _, _, h3⟩
  · omega
  · exact ⟨by omega, h3⟩
/-- No failure. -/
theorem bm_zero {S : Nat → Nat} {N : Nat} {C : Nat → Nat} {L : Nat} {B : Nat → Nat} {m b : Nat} (h : Bm S N C L B m b) (hd : dc C L S N = 0) : Bm S (N + 1) C L B (m + 1) b := by
  refine ⟨⟨h.gen.one, h.gen.lt, h.gen.deg, fun n h1 h2 => ?_⟩, fun C' L' h' => h.least C' L' (h'.less (by omega)), ?_⟩
  · by_cases e : n = N
    · subst e; exact hd
    · exact h.gen.zero n h1 (by omega)
  · rcases h.last with ⟨h1, h2, h3, h4⟩ | ⟨M, Lb, h1, h2, h3, h4, h5, h6⟩
    · exact Or.inl ⟨h1, by omega, h3, h4⟩
    · exact Or.inr ⟨M, Lb, by omega, by omega, h3, h4, h5, h6⟩
theorem dc_lt {C : Nat → Nat} (L : Nat) (S : Nat → Nat) (n : Nat) (hC : ∀ i, C i < 128) (hS : ∀ n, S n < 128) : dc C L S n < 128 := sg_lt _ _ fun i => mul_lt _ _ (hC i) (hS _)
theorem k_mul (d b : Nat) (hd : d < 128) (hb : b < 128) (h0 : b ≠ 0) : mul (mul d (inv b)) b = d := by
  rw [← mul_assoc d (inv b) b hd (inv_lt b) hb, mul_comm (inv b) b (inv_lt b) hb, mul_inv b hb h0, mul_one d hd]
/-- A failure: the new recurrence, its length, and that it is a shortest one. -/
theorem bm_fail {S : Nat → Nat} (hS : ∀ n, S n < 128) {N : Nat} {C : Nat → Nat} {L : Nat} {B : Nat → Nat} {m b : Nat} (h : Bm S N C L B m b) (hd : dc C L S N ≠ 0) :
    Gen (upd C B (mul (dc C L S N) (inv b)) m) (max L (N + 1 - L)) S (N + 1) ∧ ∀ C' L', Gen C' L' S (N + 1) → max L (N + 1 - L) ≤ L' := by
  have hdl := dc_lt L S N h.gen.lt hS
  refine ⟨?_, least_step hS h.gen h.least hd⟩
  have hk : mul (dc C L S N) (inv b) < 128 := mul_lt _ _ hdl (inv_lt b)
  rcases h.last with ⟨h1, h2, h3, h4⟩ | ⟨M, Lb, h1, h2, h3, h4, h5, h6⟩
  · subst h1; subst h2; subst h3
    rw [show max 0 (N + 1 - 0) = N + 1 by omega]
    apply gen_first
    · unfold upd; rw [if_neg (by omega)]; exact h.gen.one
    · exact upd_lt h.gen.lt one1_lt hk
    · intro i hi
      unfold upd one1
      rw [if_pos (by omega), if_neg (by omega), mul_zr _ hk, h.gen.deg i (by omega)]; rfl
  · rw [h2]
    have hb : b < 128 := by rw [← h5]; exact dc_lt Lb S M h3.lt hS
    exact gen_step hS h.gen h3 h1 hk h4 (by rw [h5]; exact k_mul _ _ hdl hb h6)
/-- A failure that makes the recurrence longer. -/
theorem bm_long {S : Nat → Nat} (hS : ∀ n, S n < 128) {N : Nat} {C : Nat → Nat} {L : Nat} {B : Nat → Nat} {m b : Nat} (h : Bm S N C L B m b) (hd : dc C L S N ≠ 0) (hl : 2 * L ≤ N) :
    Bm S (N + 1) (upd C B (mul (dc C L S N) (inv b)) m) (N + 1 - L) C 1 (dc C L S N) := by
  obtain ⟨h1, h2⟩ := bm_fail hS h hd
  rw [show max L (N + 1 - L) = N + 1 - L by omega] at h1 h2
  exact ⟨h1, h2, Or.inr ⟨N, L, by omega, by omega, h.gen, by omega, rfl, hd⟩⟩
/-- A failure that doesn't. -/
theorem bm_same {S : Nat → Nat} (hS : ∀ n, S n < 128) {N : Nat} {C : Nat → Nat} {L : Nat} {B : Nat → Nat} {m b : Nat} (h : Bm S N C L B m b) (hd : dc C L S N ≠ 0) (hl : N < 2 * L) :
    Bm S (N + 1) (upd C B (mul (dc C L S N) (inv b)) m) L B (m + 1) b := by
  obtain ⟨h1, h2⟩ := bm_fail hS h hd
  rw [show max L (N + 1 - L) = L by omega] at h1 h2
  refine ⟨h1, h2, ?_⟩
  rcases h.last with ⟨h3, _⟩ | ⟨M, Lb, h3, h4, h5, h6, h7, h8⟩
  · omega
  · exact Or.inr ⟨M, Lb, by omega, by omega, h5, h6, h7, h8⟩
/-- What is found of the syndromes of a word with ten bits at most. -/
theorem bm_end (e : List Bool) (he : e.length = 127) (hf : e.count true ≤ 10) {C : Nat → Nat} {L : Nat} {B : Nat → Nat} {m b : Nat} (h : Bm (sq e) 20 C L B m b) :
    L = e.count true ∧ ∀ a, a < 128 → (ev a (rev C L) = 0 ↔ a ∈ els e) := by
  have hle := h.least (lam e) (els e).length (lam_gen e he 20 (by omega))
  rw [← els_length]
  exact loc_exact e he (by rw [els_length]; exact hf) C L h.gen hle
/-- A polynomial at an element's opposite power. -/
theorem rev_opp (C : Nat → Nat) (hC : ∀ i, C i < 128) (L i : Nat) (hi : i < 127) : mul (ev (E i) (rev C L)) (pw (E ((127 - i) % 127)) L) = sg (L + 1) fun j => mul (C j) (pw (E ((127 - i) % 127)) j) := by
  have hE := (E_bd i hi).2
  have hF := (E_bd ((127 - i) % 127) (Nat.mod_lt _ (by omega))).2
  have h1 : mul (E i) (E ((127 - i) % 127)) = 1 := by
    rw [E_mul i _ hi (Nat.mod_lt _ (by omega)), show (i + (127 - i) % 127) % 127 = 0 by omega]; exact E_zero
  generalize E ((127 - i) % 127) = y at *
  generalize E i = x at *
  have hp := pw_lt y L hF
  rw [rev_ev C L x hC hE, mul_comm _ _ (sg_lt _ _ fun j => mul_lt _ _ (hC _) (pw_lt x j hE)) hp, ← sg_mul _ hp, sg_rev]
  apply sg_congr
  intro j hj
  rw [show L - (L - j) = j by omega]
  have h2 : ∀ n, mul (pw x n) (pw y n) = 1 := by
    intro n
    induction n with
    | zero => exact one_mul 1 (by omega)
    | succ n ih =>
      have a1 := pw_lt x n hE
      have a2 := pw_lt y n hF
      show mul (mul (pw x n) x) (mul (pw y n) y) = 1
      rw [← mul_assoc _ _ _ a1 hE (mul_lt _ _ a2 hF), mul_comm (pw y n) y a2 hF, mul_assoc x y _ hE hF a2, h1, one_mul _ a2, ih]
  have h3 : pw y L = mul (pw y j) (pw y (L - j)) := by
    have := pw_add y (L - j) j hF
    rwa [show L - j + j = L by omega] at this
  have a1 := pw_lt x (L - j) hE
  have a2 := pw_lt y j hF
  have a3 := pw_lt y (L - j) hF
  rw [h3, mul_comm (C j) _ (hC j) a1, ← mul_assoc _ _ _ a2 a3 (mul_lt _ _ a1 (hC j)), mul_assoc _ _ _ a3 a1 (hC j), mul_comm (pw y (L - j)) _ a3 a1, h2, one_mul _ (hC j), mul_comm _ _ a2 (hC j)]
theorem rev_zero (C : Nat → Nat) (hC : ∀ i, C i < 128) (L i : Nat) (hi : i < 127) : ev (E i) (rev C L) = 0 ↔ (sg (L + 1) fun j => mul (C j) (pw (E ((127 - i) % 127)) j)) = 0 := by
  have hF := E_bd ((127 - i) % 127) (Nat.mod_lt _ (by omega))
  have hp := pw_lt (E ((127 - i) % 127)) L hF.2
  have hne : pw (E ((127 - i) % 127)) L ≠ 0 := by
    rw [pw_pos _ _ hF.2 (by omega)]
    have := E_bd ((Lg (E ((127 - i) % 127)) * L) % 127) (Nat.mod_lt _ (by omega))
    omega
  have hl := ev_lt (E i) (E_bd i hi).2 _ (rev_els C L hC)
  rw [← rev_opp C hC L i hi]
  constructor
  · intro h
    rw [h, mul_zl _ hp]
  · intro h
    by_cases hz : ev (E i) (rev C L) = 0
    · exact hz
    · exact absurd h (mul_ne _ _ hl hp hz hne)

/-- A word's syndromes are those of its errors. -/
theorem sq_err (v c : List Bool) (hv : v.length = 127) (hc : c.length = 127) (h : Cw c) (n : Nat) (hn : n < 20) : sq (wx v c) n = sq v n := by
  unfold sq
  rw [ev_wx _ (E_any _) v c (by omega), h (n + 1) (by omega) (by omega), Nat.xor_zero]
theorem wx_wx (v c : List Bool) (h : v.length = c.length) : wx v (wx v c) = c := by
  apply bext _ _ (by rw [wx_length _ _ (by rw [wx_length v c h]), h])
  intro i _
  rw [wx_getD _ _ _ (by rw [wx_length v c h]), wx_getD _ _ _ h]
  cases v.getD i false <;> cases c.getD i false <;> rfl
/-- Two words with the same syndromes, of ten bits at most, are the same. -/
theorem sq_one (a b : List Bool) (ha : a.length = 127) (hb : b.length = 127) (h1 : a.count true ≤ 10) (h2 : b.count true ≤ 10) (h : ∀ n, n < 20 → sq a n = sq b n) : a = b := by
  have hc : Cw (wx a b) := by
    intro i k1 k2
    have := h (i - 1) (by omega)
    unfold sq at this
    rw [show i - 1 + 1 = i by omega] at this
    rw [ev_wx _ (E_any i) a b (by omega), this, Nat.xor_self]
  have hl : (wx a b).length = 127 := by rw [wx_length a b (by omega), ha]
  have hcnt : ∀ (a b : List Bool), (wx a b).count true ≤ a.count true + b.count true := by
    intro a
    induction a with
    | nil => intro b; simp [wx]
    | cons x a ih =>
      intro b
      cases b with
      | nil => simp [wx]
      | cons y b =>
        have := ih b
        show ((x != y) :: wx a b).count true ≤ _
        rw [List.count_cons, List.count_cons, List.count_cons]
        cases x <;> cases y <;> simp <;> omega
  rcases cw_far _ (by omega) hc with h0 | h0
  · exact wx_count_zero a b (by omega) h0
  · have := hcnt a b
    omega
end Go.Proofs.YtmfnjjkbfabonaaDoor.M

/- The contracts of layer 6's fill, flip, Count, within, Near, proper. Conditions: words have 127 bits; places lie where they can be read. -/
namespace Go.Proofs.YtmfnjjkbfabonaaDoor
open Go.RowKit
open M

/-- A word whose holes are filled, as far as the loop has come. -/
def fj (l h : List Bool) (b : Bool) (j : Nat) : List Bool := (List.range 127).map fun i => if i < j ∧ h.getD i false = true then b else l.getD i false
theorem fj_length (l h : List Bool) (b : Bool) (j : Nat) : (fj l h b j).length = 127 := by simp [fj]
theorem fj_zero (l h : List Bool) (b : Bool) (hl : l.length = 127) : fj l h b 0 = l := by
  unfold fj
  rw [tab_congr 127 _ (fun i => l.getD i false) (fun i _ => if_neg (by omega)), tab_of _ false 127 hl]
theorem fj_done (l h : List Bool) (b : Bool) : fj l h b 127 = M.fill l h b := by
  unfold fj M.fill
  apply tab_congr
  intro i hi
  by_cases hh : h.getD i false = true
  · rw [if_pos ⟨hi, hh⟩, if_pos hh]
  · rw [if_neg (fun e => hh e.2), if_neg hh]
theorem fj_not (l h : List Bool) (b : Bool) (j : Nat) (hh : h.getD j false = false) : fj l h b (j + 1) = fj l h b j := by
  unfold fj
  apply tab_congr
  intro i _
  by_cases e : i = j
  · subst e
    rw [if_neg (by rw [hh]; simp), if_neg (by omega)]
  · by_cases h1 : i < j ∧ h.getD i false = true
    · rw [if_pos h1, if_pos ⟨by omega, h1.2⟩]
    · rw [if_neg h1, if_neg (fun k => h1 ⟨by omega, k.2⟩)]
theorem fj_set (l h : List Bool) (b : Bool) (j : Nat) (hh : h.getD j false = true) : (fj l h b j).set j b = fj l h b (j + 1) := by
  unfold fj
  apply tab_set
  · rw [if_pos ⟨by omega, hh⟩]
  · intro i e
    by_cases h1 : i < j ∧ h.getD i false = true
    · rw [if_pos h1, if_pos ⟨by omega, h1.2⟩]
    · rw [if_neg h1, if_neg (fun k => h1 ⟨by omega, k.2⟩)]

set_option maxRecDepth 100000 in
set_option maxHeartbeats 1000000 in
theorem fill_any (l h : List Bool) (b : Bool) (w : World) (hl : l.length = 127) (hh : h.length = 127) :
    Calls Tryd.prog 32 #[.agg (boolCells l), .agg (boolCells h), .bool b] w fun e w' => e = .returned (.agg (boolCells (M.fill l h b))) ∧ Below w.heap.size w w' := by
  have hz := word_zero
  have r0 : Row (((w.alloc (.cells (boolCells l) 40)).alloc (.cells (boolCells h) 40)).alloc (.cells (boolCells w0) 40)) w.heap.size 40 (boolCells l) := ((row_new w _ rfl _ _).alloc _).alloc _
  have r1 : Row (((w.alloc (.cells (boolCells l) 40)).alloc (.cells (boolCells h) 40)).alloc (.cells (boolCells w0) 40)) (w.heap.size + 1) 40 (boolCells h) := (row_new _ _ (by simp) _ _).alloc _
  have r2 : Row (((w.alloc (.cells (boolCells l) 40)).alloc (.cells (boolCells h) 40)).alloc (.cells (boolCells w0) 40)) (w.heap.size + 1 + 1) 40 (boolCells w0) := row_new _ _ (by simp) _ _
  have HB0 : Hid (Below w.heap.size w (((w.alloc (.cells (boolCells l) 40)).alloc (.cells (boolCells h) 40)).alloc (.cells (boolCells w0) 40))) := (((Below.refl _ _).alloc (Nat.le_refl _) _).alloc (by simp) _).alloc (by simp; omega) _
  have HR0 := Lib.hid r0
  have HR1 := Lib.hid r1
  have HR2 := Lib.hid r2
  have HSZ := Lib.hid (word_size h hh)
  have HL := Lib.hid hh
  have HZ := Lib.hid (fj_zero l h b hl)
  have HDN := Lib.hid (fj_done l h b)
  have hfl := fill_length l h b
  obtain ⟨c, hc⟩ : ∃ c, M.fill l h b = c := ⟨_, rfl⟩
  rw [hc] at HDN hfl ⊢
  have HSC := Lib.hid (word_size c hfl)
  have HCL := Lib.hid hfl
  clear r0 r1 r2 hl hh hc hfl
  go_enter Tryd.func32, Tryd.ntmps32
  go_wp2_with (refine wpList_load_row rfl 40 (.tmp 4) rfl (w.heap.size + 1) rfl 40 (boolCells h) (0, 0) _ HR1.out Tryd.underlying40 rfl HSZ.out ?_)
  clear hz HR1
  generalize ((w.alloc (.cells (boolCells l) 40)).alloc (.cells (boolCells h) 40)).alloc (.cells (boolCells w0) 40) = w1 at *
  go_loopw [10] (fun i wr => ∃ k : Nat, k ≤ 127 ∧ i = .int .i64 (k : Nat) ∧ Row wr w.heap.size 40 (boolCells (fj l h b k)) ∧ Row wr (w.heap.size + 1 + 1) 40 (boolCells w0) ∧ Below w.heap.size w wr) (fun i _ => 127 - (intOf i).toNat)
  case atStart => exact ⟨0, by omega, rfl, by rw [HZ.out]; exact HR0.out, HR2.out, HB0.out⟩
  case round =>
    clear HR0 HR2 HB0 HZ
    obtain ⟨k, hk, rfl, h1, h2, h3⟩ := hrel
    have HR := Lib.hid h1
    have HZ := Lib.hid h2
    have HB := Lib.hid h3
    clear h2 h3
    by_cases hlt : k < 127
    · have f0 := h1.free k
      have g0 := word_at h1 k (by rw [fj_length]; exact hlt)
      have hix := index_word h HL.out k hlt
      have HN := Lib.hid (fj_not l h b k)
      have HT := Lib.hid (fj_set l h b k)
      obtain ⟨x, hx⟩ : ∃ x, h.getD k false = x := ⟨_, rfl⟩
      rw [hx] at hix HN HT
      clear h1 hx
      cases x
      · go_wp2
        go_roundw
        case rel => exact ⟨k + 1, by omega, by go_num, by rw [HN.out rfl]; exact HR.out, HZ.out, HB.out⟩
        case measure => simp [intOf] <;> omega
      · go_wp2
        go_roundw
        case rel =>
          refine ⟨k + 1, by omega, by go_num, ?_, HZ.out.far (p := ⟨w.heap.size, k, none⟩) (by show w.heap.size + 1 + 1 ≠ w.heap.size; omega) _, HB.out.setCell (p := ⟨w.heap.size, k, none⟩) (Nat.le_refl _) _⟩
          rw [← HT.out rfl, ← boolCells_set]
          exact HR.out.set k _
        case measure => simp [intOf] <;> omega
    · obtain rfl : k = 127 := by omega
      clear h1
      have HRC : Hid (Row wr w.heap.size 40 (boolCells c)) := by rw [← HDN.out]; exact HR.out
      have hsz := boolCells_size c
      rw [HCL.out] at hsz
      have hst := store_at wr (w.heap.size + 1 + 1) w0 c w0_length HCL.out HZ.out
      go_wp2_with (refine wpList_load_row rfl 40 (.tmp 3) rfl w.heap.size rfl 40 (boolCells c) (0, 0) _ HRC.out Tryd.underlying40 rfl HSC.out ?_)
      refine bodyPost_ret (v := .agg (boolCells c)) (results_cell_row Tryd.results32 _ _ (w.heap.size + 1 + 1) 40 (boolCells c) (0, 0) _ rfl (Row.setRow HZ.out _) Tryd.underlying40 rfl HSC.out) rfl ⟨rfl, below_setRow HB.out (by omega) _⟩

theorem flips_take6 (x : List Bool) (is : List Nat) (j : Nat) (h : j < is.length) : flips x (is.take (j + 1)) = M.flip (flips x (is.take j)) (is.getD j 0) := by
  rw [List.take_succ_eq_append_getElem h, flips_snoc, List.getD_eq_getElem?_getD, List.getElem?_eq_getElem h]; rfl
set_option maxRecDepth 100000 in
set_option maxHeartbeats 1000000 in
theorem flip_any (l : List Bool) (ps : List Nat) (v : Value) (w : World) (hl : l.length = 127) (hp : ∀ i ∈ ps, i < 127) (hps : ps.length ≤ 1000) (h : IntsAt w v (castL ps)) :
    Calls Tryd.prog 34 #[.agg (boolCells l), v] w fun e w' => e = .returned (.agg (boolCells (flips l ps))) ∧ Below w.heap.size w w' := by
  have hz := word_zero
  have r0 : Row ((w.alloc (.cells (boolCells l) 40)).alloc (.cells (boolCells w0) 40)) w.heap.size 40 (boolCells l) := (row_new w _ rfl _ _).alloc _
  have r2 : Row ((w.alloc (.cells (boolCells l) 40)).alloc (.cells (boolCells w0) 40)) (w.heap.size + 1) 40 (boolCells w0) := row_new _ _ (by simp) _ _
  have HB0 : Hid (Below w.heap.size w ((w.alloc (.cells (boolCells l) 40)).alloc (.cells (boolCells w0) 40))) := ((Below.refl _ _).alloc (Nat.le_refl _) _).alloc (by simp) _
  have HR0 := Lib.hid r0
  have HR2 := Lib.hid r2
  obtain ⟨a, cap, hv, hcells⟩ := h
  rw [castL_length] at hv hcells
  subst hv
  have HC := Lib.hid hcells
  have HPS := Lib.hid hp
  have HFT := Lib.hid (flips_take6 l ps)
  have HLL : Hid (∀ j, (flips l (ps.take j)).length = 127) := fun j => by rw [flips_length, hl]
  have hfl := flips_length l ps
  rw [hl] at hfl
  have HDN : Hid (flips l (ps.take ps.length) = flips l ps) := by unfold Hid; rw [List.take_length]
  obtain ⟨c, hc⟩ : ∃ c, flips l ps = c := ⟨_, rfl⟩
  rw [hc] at HDN hfl ⊢
  have HSC := Lib.hid (word_size c hfl)
  have HCL := Lib.hid hfl
  clear r0 r2 hl hc hfl hcells hp
  go_enter Tryd.func34, Tryd.ntmps34
  go_wp2
  clear hz
  generalize (w.alloc (.cells (boolCells l) 40)).alloc (.cells (boolCells w0) 40) = w1 at *
  go_loopw [9] (fun i wr => ∃ k : Nat, k ≤ ps.length ∧ i = .int .i64 (k : Nat) ∧ Row wr w.heap.size 40 (boolCells (flips l (ps.take k))) ∧ Row wr (w.heap.size + 1) 40 (boolCells w0) ∧ Below w.heap.size w wr) (fun i _ => ps.length - (intOf i).toNat)
  case atStart => exact ⟨0, by omega, rfl, HR0.out, HR2.out, HB0.out⟩
  case round =>
    clear HR0 HR2 HB0
    obtain ⟨k, hk, rfl, h1, h2, h3⟩ := hrel
    have HR := Lib.hid h1
    have HZ := Lib.hid h2
    have HB := Lib.hid h3
    clear h2 h3
    by_cases hlt : k < ps.length
    · obtain ⟨b0, off, rfl, hbw, hcc⟩ := HC.out (by omega)
      have hcj := hcc k hlt
      rw [castL_getD] at hcj
      have c0 : wr.cell? ⟨b0, off + k, none⟩ = some (.int .i64 (ps.getD k 0 : Nat)) := (HB.out.cell (p := ⟨b0, off + k, none⟩) hbw).trans hcj
      have hn : ps.getD k 0 < 127 := by
        rw [List.getD_eq_getElem?_getD, List.getElem?_eq_getElem hlt]
        exact HPS.out _ (List.getElem_mem _)
      have HF := Lib.hid (HFT.out k hlt)
      obtain ⟨n, hne⟩ : ∃ n, ps.getD k 0 = n := ⟨_, rfl⟩
      rw [hne] at c0 hn HF
      have g0 := word_at h1 n (by rw [HLL.out]; exact hn)
      have f0 := h1.free n
      have hn' : (n : Int) < 127 := by omega
      have HX : Hid (M.flip (flips l (ps.take k)) n = (flips l (ps.take k)).set n (!((flips l (ps.take k)).getD n false))) := rfl
      obtain ⟨x, hx⟩ : ∃ x, (flips l (ps.take k)).getD n false = x := ⟨_, rfl⟩
      rw [hx] at g0 HX
      clear h1 hcc hcj hne hx
      go_wp2
      go_roundw
      case rel =>
        refine ⟨k + 1, by omega, by go_num, ?_, HZ.out.far (p := ⟨w.heap.size, n, none⟩) (by show w.heap.size + 1 ≠ w.heap.size; omega) _, HB.out.setCell (p := ⟨w.heap.size, n, none⟩) (Nat.le_refl _) _⟩
        rw [HF.out, HX.out, ← boolCells_set]
        exact HR.out.set n _
      case measure => simp [intOf] <;> omega
    · obtain rfl : k = ps.length := by omega
      clear h1
      have HRC : Hid (Row wr w.heap.size 40 (boolCells c)) := by rw [← HDN.out]; exact HR.out
      have hsz := boolCells_size c
      rw [HCL.out] at hsz
      have hst := store_at wr (w.heap.size + 1) w0 c w0_length HCL.out HZ.out
      go_wp2_with (refine wpList_load_row rfl 40 (.tmp 2) rfl w.heap.size rfl 40 (boolCells c) (0, 0) _ HRC.out Tryd.underlying40 rfl HSC.out ?_)
      refine bodyPost_ret (v := .agg (boolCells c)) (results_cell_row Tryd.results34 _ _ (w.heap.size + 1) 40 (boolCells c) (0, 0) _ rfl (Row.setRow HZ.out _) Tryd.underlying40 rfl HSC.out) rfl ⟨rfl, below_setRow HB.out (by omega) _⟩
end Go.Proofs.YtmfnjjkbfabonaaDoor

/- The contracts of layer 6's Count, within, proper. Conditions: words have 127 bits; a slice of numbers lies where it can be read. -/
namespace Go.Proofs.YtmfnjjkbfabonaaDoor
open Go.RowKit
open M

/-- A whole array is read in a guarded operation whose turn it is. -/
theorem wpList_load_guard {P : Program} {ops : Array Oper} {rest : List Oper} {o : Oper} {a : Act} {w : World} {Q : Exit → Act → World → Prop} (hw : Region.wanted o (yielded ops a.tmps) = true) (ty : TypeId) (x : Operand) (ho : o.op = .load ty x)
    (g : Nat) (hx : a.eval x = .pointer (some ⟨g, 0, none⟩)) (t : TypeId) (cs : Array Value) (fr : Nat × Nat) (d : TypeDesc) (hg : w.heap[g]? = some (.cells cs t fr))
    (hu : P.underlying ty = some d) (hd : (match d with | .struct _ | .array _ _ => true | _ => false) = true) (hi : (P.info? ty).map (·.size) = some cs.size)
    (h : wpList P ops Q rest (a.put o.dst (.agg cs)) w) : wpList P ops Q (o :: rest) a w := by
  unfold wpList
  rw [if_pos hw]
  exact Or.inl (wp_load_row ty x ho g hx t cs fr d hg hu hd hi h)
theorem wx_w0 : ∀ (h : List Bool) (n : Nat), n = h.length → wx h (List.replicate n false) = h
  | [], n, e => by subst e; rfl
  | b :: h, n, e => by
    subst e
    rw [List.length_cons, List.replicate_succ]
    show (b != false) :: wx h (List.replicate h.length false) = b :: h
    rw [wx_w0 h _ rfl]
    cases b <;> rfl
/-- How many holes. -/
theorem dst_w0 (h : List Bool) (hl : h.length = 127) : dst h w0 = h.count true := by
  unfold dst w0
  rw [wx_w0 h 127 hl.symm]
theorem count_take (h : List Bool) (j : Nat) (hj : j < h.length) : (h.take (j + 1)).count true = (h.take j).count true + if h.getD j false = true then 1 else 0 := by
  rw [List.take_succ_eq_append_getElem hj, List.count_append, List.getD_eq_getElem?_getD, List.getElem?_eq_getElem hj]
  cases h[j] <;> rfl
/-- The distance with holes by the words that have their holes filled. -/
theorem far_fill (l h c : List Bool) (hh : h.length = 127) (j : Nat) (hj : j ≤ 127) :
    2 * dstN (M.fill l h false) (M.fill c h false) j + (h.take j).count true = farN l h c j := by
  induction j with
  | zero => simp [dstN, farN]
  | succ j ih =>
    have ih := ih (by omega)
    rw [dstN_succ _ _ j (by rw [fill_length, fill_length]) (by rw [fill_length]; omega), fill_getD _ _ _ _ (by omega), fill_getD _ _ _ _ (by omega), count_take h j (by omega)]
    simp only [farN]
    generalize dstN (M.fill l h false) (M.fill c h false) j = n at *
    generalize (h.take j).count true = m at *
    generalize farN l h c j = p at *
    generalize c.getD j false = x
    generalize l.getD j false = z
    generalize h.getD j false = t
    unfold far1
    cases x <;> cases z <;> cases t <;> simp <;> omega
theorem far_all (l h c : List Bool) (hh : h.length = 127) : 2 * dst (M.fill l h false) (M.fill c h false) + h.count true = farN l h c 127 := by
  have h1 := far_fill l h c hh 127 (by omega)
  have e1 : dstN (M.fill l h false) (M.fill c h false) 127 = dst (M.fill l h false) (M.fill c h false) := by
    have := dstN_all (M.fill l h false) (M.fill c h false) (by rw [fill_length, fill_length]); rwa [fill_length] at this
  rw [e1, show (127 : Nat) = h.length from hh.symm, List.take_length, hh] at h1
  exact h1
theorem count_le (h : List Bool) : h.count true ≤ h.length := List.count_le_length

set_option maxRecDepth 100000 in
set_option maxHeartbeats 1000000 in
theorem count_any (h : List Bool) (w : World) (hh : h.length = 127) :
    Calls Tryd.prog 31 #[.agg (boolCells h)] w fun e w' => e = .returned (.int .i64 (h.count true : Nat)) ∧ Below w.heap.size w w' := by
  have hz := word_zero
  have HR : Hid (Row (w.alloc (.cells (boolCells h) 40)) w.heap.size 40 (boolCells h)) := heap_alloc_new _ _
  have HB : Hid (Below w.heap.size w (w.alloc (.cells (boolCells h) 40))) := (Below.refl _ _).alloc (Nat.le_refl _) _
  have HS := Lib.hid fun _ : Unit => word_size h hh
  have HD := Lib.hid (dst_w0 h hh)
  have HL := Lib.hid hh
  clear hh
  go_enter Tryd.func31, Tryd.ntmps31
  go_wp2_with (first
    | (refine wpList_load_row rfl 40 (.tmp 1) rfl w.heap.size rfl 40 (boolCells h) (0, 0) _ HR.out Tryd.underlying40 rfl (HS.out ()) ?_))
  clear hz
  refine (distance_any h w0 _ HL.out w0_length).mono ?_
  rintro e w5 ⟨rfl, hb⟩
  have HB5 := Lib.hid (HB.out.trans (hb.mono HB.out.size))
  clear hb
  rw [HD.out]
  go_wp2
  go_ret
  exact ⟨rfl, HB5.out⟩

set_option maxRecDepth 100000 in
set_option maxHeartbeats 2000000 in
theorem within_any (l h c : List Bool) (w : World) (hl : l.length = 127) (hh : h.length = 127) (hc : c.length = 127) :
    Calls Tryd.prog 35 #[.agg (boolCells l), .agg (boolCells h), .agg (boolCells c)] w fun e w' => e = .returned (.bool (decide (farN l h c 127 ≤ 20))) ∧ Below w.heap.size w w' := by
  have r0 : Row (((w.alloc (.cells (boolCells l) 40)).alloc (.cells (boolCells h) 40)).alloc (.cells (boolCells c) 40)) w.heap.size 40 (boolCells l) := ((row_new w _ rfl _ _).alloc _).alloc _
  have r1 : Row (((w.alloc (.cells (boolCells l) 40)).alloc (.cells (boolCells h) 40)).alloc (.cells (boolCells c) 40)) (w.heap.size + 1) 40 (boolCells h) := (row_new _ _ (by simp) _ _).alloc _
  have r2 : Row (((w.alloc (.cells (boolCells l) 40)).alloc (.cells (boolCells h) 40)).alloc (.cells (boolCells c) 40)) (w.heap.size + 1 + 1) 40 (boolCells c) := row_new _ _ (by simp) _ _
  have HB0 : Hid (Below w.heap.size w (((w.alloc (.cells (boolCells l) 40)).alloc (.cells (boolCells h) 40)).alloc (.cells (boolCells c) 40))) := (((Below.refl _ _).alloc (Nat.le_refl _) _).alloc (by simp) _).alloc (by simp; omega) _
  have HR0 := Lib.hid r0
  have HR1 := Lib.hid r1
  have HR2 := Lib.hid r2
  have HS0 := Lib.hid fun _ : Unit => word_size l hl
  have HS1 := Lib.hid fun _ : Unit => word_size h hh
  have HS2 := Lib.hid fun _ : Unit => word_size c hc
  have HF := Lib.hid (far_all l h c hh)
  have hFA := fun W => fill_any l h false W hl hh
  have hFC := fun W => fill_any c h false W hc hh
  obtain ⟨fl, hfl⟩ : ∃ x, M.fill l h false = x := ⟨_, rfl⟩
  obtain ⟨fc, hfc⟩ : ∃ x, M.fill c h false = x := ⟨_, rfl⟩
  have k1 : fl.length = 127 := by rw [← hfl]; exact fill_length _ _ _
  have k2 : fc.length = 127 := by rw [← hfc]; exact fill_length _ _ _
  rw [hfl] at hFA HF
  rw [hfc] at hFC HF
  have hDA := fun W => distance_any fl fc W k1 k2
  have hCA := fun W => count_any h W hh
  obtain ⟨dd, hd⟩ : ∃ d, dst fl fc = d := ⟨_, rfl⟩
  have hdl : dd ≤ 127 := by
    rw [← hd]
    have := count_le (wx fl fc)
    rw [wx_length _ _ (by omega), k1] at this
    exact this
  obtain ⟨n, hn⟩ : ∃ n, h.count true = n := ⟨_, rfl⟩
  have hnl : n ≤ 127 := by rw [← hn, ← hh]; exact count_le h
  rw [hd] at hDA HF
  rw [hn] at hCA HF
  obtain ⟨z, hze⟩ : ∃ z, farN l h c 127 = z := ⟨_, rfl⟩
  rw [hze] at HF ⊢
  have HFA := Lib.hid hFA
  have HFC := Lib.hid hFC
  have HDA := Lib.hid hDA
  have HCA := Lib.hid hCA
  clear r0 r1 r2 hl hh hc hFA hFC hDA hCA hfl hfc k1 k2 hd hn hze
  go_enter Tryd.func35, Tryd.ntmps35
  go_wp2_with fail
  generalize ((w.alloc (.cells (boolCells l) 40)).alloc (.cells (boolCells h) 40)).alloc (.cells (boolCells c) 40) = wr at *
  have HC0 : Hid (∀ W : World, (∃ p : Regrown, W = Sort.grow (redrawn wr p.d) p.os) → W.heap[w.heap.size]? = some (.cells (boolCells l) 40 (0, 0))) := by
    rintro W ⟨p, rfl⟩
    exact HR0.out.below (below_regrown wr p.d p.os) HR0.out.lt
  have HC1 : Hid (∀ W : World, (∃ p : Regrown, W = Sort.grow (redrawn wr p.d) p.os) → W.heap[(w.heap.size + 1)]? = some (.cells (boolCells h) 40 (0, 0))) := by
    rintro W ⟨p, rfl⟩
    exact HR1.out.below (below_regrown wr p.d p.os) HR1.out.lt
  have HC2 : Hid (∀ W : World, (∃ p : Regrown, W = Sort.grow (redrawn wr p.d) p.os) → W.heap[(w.heap.size + 1 + 1)]? = some (.cells (boolCells c) 40 (0, 0))) := by
    rintro W ⟨p, rfl⟩
    exact HR2.out.below (below_regrown wr p.d p.os) HR2.out.lt
  have KFA : Hid (∀ d os, Calls Tryd.prog 32 #[.agg (boolCells l), .agg (boolCells h), .bool false] (Sort.grow (redrawn wr d) os) fun e w'' => e = .returned (.agg (boolCells fl)) ∧ ∃ p : Regrown, w'' = Sort.grow (redrawn wr p.d) p.os) :=
    fun d os => Calls.regrown_of (HFA.out _)
  have KFC : Hid (∀ d os, Calls Tryd.prog 32 #[.agg (boolCells c), .agg (boolCells h), .bool false] (Sort.grow (redrawn wr d) os) fun e w'' => e = .returned (.agg (boolCells fc)) ∧ ∃ p : Regrown, w'' = Sort.grow (redrawn wr p.d) p.os) :=
    fun d os => Calls.regrown_of (HFC.out _)
  have KD : Hid (∀ d os, Calls Tryd.prog 54 #[.agg (boolCells fl), .agg (boolCells fc)] (Sort.grow (redrawn wr d) os) fun e w'' => e = .returned (.int .i64 (dd : Nat)) ∧ ∃ p : Regrown, w'' = Sort.grow (redrawn wr p.d) p.os) :=
    fun d os => Calls.regrown_of (HDA.out _)
  refine wp_region_quiet_below (by kernel_rfl) (by kernel_rfl) ?_
  refine BigFrame.wpQuiet_want (by rfl) (fun K hK => ?_)
  refine quiet_load_row 40 (.tmp 3) rfl w.heap.size rfl 40 (boolCells l) (0, 0) _ HC0.out Tryd.underlying40 rfl (HS0.out ()) ?_
  refine hK _ ?_
  clear hK K
  simp only [Act.put, List.setIfInBounds_toArray, List.set_cons_zero, List.set_cons_succ]
  refine BigFrame.wpQuiet_want (by rfl) (fun K hK => ?_)
  refine quiet_load_row 40 (.tmp 4) rfl (w.heap.size + 1) rfl 40 (boolCells h) (0, 0) _ HC1.out Tryd.underlying40 rfl (HS1.out ()) ?_
  refine hK _ ?_
  clear hK K
  simp only [Act.put, List.setIfInBounds_toArray, List.set_cons_zero, List.set_cons_succ]
  quiet_step (first | (go_at_call 32; exact KFA.out _ _))
  refine BigFrame.wpQuiet_want (by rfl) (fun K hK => ?_)
  refine quiet_load_row 40 (.tmp 5) rfl (w.heap.size + 1 + 1) rfl 40 (boolCells c) (0, 0) _ HC2.out Tryd.underlying40 rfl (HS2.out ()) ?_
  refine hK _ ?_
  clear hK K
  simp only [Act.put, List.setIfInBounds_toArray, List.set_cons_zero, List.set_cons_succ]
  refine BigFrame.wpQuiet_want (by rfl) (fun K hK => ?_)
  refine quiet_load_row 40 (.tmp 4) rfl (w.heap.size + 1) rfl 40 (boolCells h) (0, 0) _ HC1.out Tryd.underlying40 rfl (HS1.out ()) ?_
  refine hK _ ?_
  clear hK K
  simp only [Act.put, List.setIfInBounds_toArray, List.set_cons_zero, List.set_cons_succ]
  quiet_step (first | (go_at_call 32; exact KFC.out _ _))
  quiet_step (first | (go_at_call 54; exact KD.out _ _))
  repeat (quiet_step (fail))
  refine wpQuiet_nil ?_
  intro _ hw'
  obtain ⟨⟨dq, osq⟩, hw''⟩ := hw'
  subst hw''
  have HBQ := Lib.hid (HB0.out.trans ((below_regrown wr dq osq).mono HB0.out.size))
  have HR1Q := Lib.hid (HR1.out.below (below_regrown wr dq osq) HR1.out.lt)
  clear HC0 HC1 HC2 KFA KFC KD HR0 HR1 HR2 HB0
  generalize Sort.grow (redrawn wr dq) osq = wq at *
  go_wp2_with (first
    | (refine wpList_load_row rfl 40 (.tmp 4) rfl (w.heap.size + 1) rfl 40 (boolCells h) (0, 0) _ HR1Q.out Tryd.underlying40 rfl (HS1.out ()) ?_))
  refine (HCA.out _).mono ?_
  rintro e w5 ⟨rfl, hb⟩
  have HB5 := Lib.hid (HBQ.out.trans (hb.mono HBQ.out.size))
  clear hb
  have HX : Hid (decide (2 * (dd : Int) + (n : Int) ≤ 20) = decide (z ≤ 20)) := by
    have := HF.out
    unfold Hid
    rw [decide_eq_decide]
    omega
  go_wp2
  go_ret
  exact ⟨by rw [HX.out]; rfl, HB5.out⟩

/-- Could a list be syndromes? -/
def prp (xs : List Int) : Bool := decide (xs.length = 20) && xs.all fun x => decide (0 ≤ x ∧ x < 128)
theorem prp_in (xs : List Int) : prp xs = true ↔ xs.length = 20 ∧ ∀ i, i < xs.length → 0 ≤ xs.getD i 0 ∧ xs.getD i 0 < 128 := by
  unfold prp
  rw [Bool.and_eq_true, decide_eq_true_iff, List.all_eq_true]
  constructor
  · rintro ⟨h1, h2⟩
    refine ⟨h1, fun i hi => ?_⟩
    have := h2 _ (List.getElem_mem hi)
    rw [decide_eq_true_iff] at this
    rw [List.getD_eq_getElem?_getD, List.getElem?_eq_getElem hi]
    exact this
  · rintro ⟨h1, h2⟩
    refine ⟨h1, fun x hx => ?_⟩
    obtain ⟨i, hi, rfl⟩ := List.getElem_of_mem hx
    have := h2 i hi
    rw [List.getD_eq_getElem?_getD, List.getElem?_eq_getElem hi] at this
    rw [decide_eq_true_iff]
    exact this
set_option maxRecDepth 100000 in
set_option maxHeartbeats 1000000 in
theorem proper_any (xs : List Int) (v : Value) (w : World) (h : IntsAt w v xs) :
    Calls Tryd.prog 55 #[v] w fun e w' => e = .returned (.bool (prp xs)) ∧ w = w' := by
  obtain ⟨a, cap, rfl, hcells⟩ := h
  have HC := Lib.hid hcells
  have HP := Lib.hid (prp_in xs)
  clear hcells
  by_cases hl : xs.length = 20
  · have HL := Lib.hid hl
    rw [hl] at HC ⊢
    have HPT : Hid ((∀ i, i < 20 → 0 ≤ xs.getD i 0 ∧ xs.getD i 0 < 128) → prp xs = true) := fun k => HP.out.2 ⟨HL.out, fun i hi => k i (by have := HL.out; omega)⟩
    have HPF : Hid (∀ i, i < 20 → ¬ (0 ≤ xs.getD i 0 ∧ xs.getD i 0 < 128) → prp xs = false) := by
      intro i hi k
      cases hb : prp xs with
      | false => rfl
      | true => exact absurd ((HP.out.1 hb).2 i (by have := HL.out; omega)) k
    clear HP hl
    go_enter Tryd.func55, Tryd.ntmps55
    go_wp2
    go_loop [10] (fun i => ∃ k : Nat, k ≤ 20 ∧ i = .int .i64 (k : Nat) ∧ ∀ i, i < k → 0 ≤ xs.getD i 0 ∧ xs.getD i 0 < 128) (fun i => 20 - (intOf i).toNat)
    case atStart => exact ⟨0, by omega, rfl, fun i hi => absurd hi (Nat.not_lt_zero _)⟩
    case round =>
      obtain ⟨k, hk, rfl, hall⟩ := hrel
      have HALL := Lib.hid hall
      clear hall
      by_cases hlt : k < 20
      · obtain ⟨b0, off, rfl, hbw, hcc⟩ := HC.out (by omega)
        have c0 := hcc k hlt
        have HBAD := Lib.hid (HPF.out k hlt)
        have HSTEP : Hid (0 ≤ xs.getD k 0 → xs.getD k 0 < 128 → ∀ i, i < k + 1 → 0 ≤ xs.getD i 0 ∧ xs.getD i 0 < 128) := by
          intro h1 h2 i hi
          rcases Nat.lt_or_ge i k with h3 | h3
          · exact HALL.out i h3
          · obtain rfl : i = k := by omega
            exact ⟨h1, h2⟩
        obtain ⟨x, hx⟩ : ∃ x, xs.getD k 0 = x := ⟨_, rfl⟩
        rw [hx] at c0 HBAD HSTEP
        clear hx hcc
        by_cases h1 : x < 0
        · go_wp2
          go_ret
          exact ⟨by rw [HBAD.out (by omega)]; rfl, rfl⟩
        · by_cases h2 : 128 ≤ x
          · go_wp2
            go_ret
            exact ⟨by rw [HBAD.out (by omega)]; rfl, rfl⟩
          · go_wp2
            go_round
            case rel => exact ⟨k + 1, by omega, by go_num, HSTEP.out (by omega) (by omega)⟩
            case measure => simp [intOf] <;> omega
      · obtain rfl : k = 20 := by omega
        have HT : Hid (prp xs = true) := HPT.out HALL.out
        go_wp2
        go_ret
        exact ⟨by rw [HT.out]; rfl, rfl⟩
  · have e0 : ((xs.length : Int) != 20) = true := by rw [bne_iff_ne]; omega
    have e0' : (xs.length != 20) = true := by rw [bne_iff_ne]; omega
    have HF : Hid (prp xs = false) := by
      unfold Hid
      cases hb : prp xs with
      | false => rfl
      | true => exact absurd (HP.out.1 hb).1 hl
    clear HP hl
    go_enter Tryd.func55, Tryd.ntmps55
    go_wp2
    go_ret
    exact ⟨by rw [HF.out]; rfl, rfl⟩
end Go.Proofs.YtmfnjjkbfabonaaDoor
