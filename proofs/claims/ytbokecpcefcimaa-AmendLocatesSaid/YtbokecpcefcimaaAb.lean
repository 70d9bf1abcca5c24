/-
  Plain facts for layer 6: a word's syndromes follow the recurrence of its bits' elements; the shortest recurrence of twenty of them tells up to ten bits' places. No program is named here. No conditions.
-/
import Derived.Test.YtbokecpcefcimaaAa
namespace Go.Proofs.Ytbokecpcefcimaa.M

theorem E_any (n : Nat) : E n < 128 := by
  rcases Nat.lt_or_ge n 127 with h | h
  · exact (E_bd n h).2
  · unfold E
    rw [List.getD_eq_getElem?_getD, List.getElem?_eq_none (by
      have : expT.length = 127 := by decide +kernel
      omega)]
    decide
/-- The elements of a word's bits. -/
def els (e : List Bool) : List Nat := xw e 0
theorem els_length (e : List Bool) : (els e).length = e.count true := xw_length e 0
theorem els_nodup (e : List Bool) (h : e.length = 127) : (els e).Nodup := xw_nodup e 0 (by omega)
theorem els_pos (e : List Bool) (h : e.length = 127) (a : Nat) (ha : a ∈ els e) : a ≠ 0 := by
  obtain ⟨j, _, h2, rfl⟩ := xw_mem e 0 a ha
  have := E_bd j (by omega)
  omega
theorem els_els (e : List Bool) : Els (els e) := by
  intro a ha
  obtain ⟨j, _, _, rfl⟩ := xw_mem e 0 a ha
  exact E_any j
theorem xw_iff : ∀ (w : List Bool) (k i : Nat), k + w.length ≤ 127 → i < w.length → (E (k + i) ∈ xw w k ↔ w.getD i false = true)
  | [], _, _, _, h => by simp at h
  | b :: w, k, 0, hk, _ => by
    rw [List.length_cons] at hk
    have hno : E k ∉ xw w (k + 1) := by
      intro hm
      obtain ⟨j, h1, h2, h3⟩ := xw_mem w (k + 1) _ hm
      have := E_inj k j (by omega) (by omega) h3
      omega
    cases b
    · show E k ∈ xw w (k + 1) ↔ _
      simp [hno]
    · show E k ∈ E k :: xw w (k + 1) ↔ _
      simp
  | b :: w, k, i + 1, hk, hi => by
    rw [List.length_cons] at hk hi
    have ih := xw_iff w (k + 1) i (by omega) (by omega)
    rw [show k + 1 + i = k + (i + 1) by omega] at ih
    rw [List.getD_cons_succ, ← ih]
    cases b
    · exact Iff.rfl
    · show E (k + (i + 1)) ∈ E k :: xw w (k + 1) ↔ _
      rw [List.mem_cons]
      constructor
      · rintro (h | h)
        · have := E_inj _ _ (by omega) (by omega) h
          omega
        · exact h
      · exact Or.inr
theorem els_iff (e : List Bool) (h : e.length = 127) (i : Nat) (hi : i < 127) : E i ∈ els e ↔ e.getD i false = true := by
  have := xw_iff e 0 i (by omega) (by omega)
  rwa [Nat.zero_add] at this
/-- A word's syndromes are power sums. -/
theorem syn_sum (e : List Bool) (h : e.length = 127) (i : Nat) (hi : i < 127) : ev (E i) (wp e) = xsum ((els e).map fun a => pw a i) := by
  rw [ev_pz _ (E_bd i hi).2, pz_xw i hi e 0 (by omega)]; rfl
/-- The syndromes as a sequence. -/
def sq (e : List Bool) (n : Nat) : Nat := ev (E (n + 1)) (wp e)
theorem sq_lt (e : List Bool) (n : Nat) : sq e n < 128 := ev_lt _ (E_any _) _ (wp_els e)

theorem xsum_sg (xs : List Nat) (n : Nat) (f : Nat → Nat → Nat) : xsum (xs.map fun a => sg n (f a)) = sg n fun j => xsum (xs.map fun a => f a j) := by
  induction xs with
  | nil => exact (sg_zero n _ fun j _ => rfl).symm
  | cons a xs ih =>
    rw [List.map_cons, xsum_cons, ih, ← sg_xor]
    exact sg_congr n _ _ fun j _ => rfl
theorem sg_rev (n : Nat) (f : Nat → Nat) : sg (n + 1) f = sg (n + 1) fun i => f (n - i) := by
  induction n generalizing f with
  | zero => rfl
  | succ n ih =>
    have e : sg (n + 1 + 1) f = f 0 ^^^ sg (n + 1) fun i => f (i + 1) := by
      clear ih
      generalize n + 1 = m
      induction m with
      | zero => rw [sg_succ, sg_none, sg_none, Nat.zero_xor, Nat.xor_zero]
      | succ m ih => rw [sg_succ, ih, sg_succ, Nat.xor_assoc]
    rw [e, ih fun i => f (i + 1), sg_succ (n + 1) fun i => f (n + 1 - i), Nat.sub_self, Nat.xor_comm]
    congr 1
    apply sg_congr
    intro i hi
    rw [show n - i + 1 = n + 1 - i by omega]
theorem pw_add (a m n : Nat) (ha : a < 128) : pw a (m + n) = mul (pw a n) (pw a m) := by
  have hm := pw_lt a m ha
  induction n with
  | zero => exact (one_mul _ hm).symm
  | succ n ih =>
    have hn := pw_lt a n ha
    show mul (pw a (m + n)) a = mul (mul (pw a n) a) (pw a m)
    rw [ih, ← mul_assoc _ _ _ hn hm ha, mul_comm _ a hm ha, mul_assoc _ _ _ hn ha hm]
theorem sm_sg (x : Nat) (p : List Nat) (n : Nat) : sm x p n = sg n fun i => mul (p.getD i 0) (pw x i) := by
  induction n with
  | zero => rfl
  | succ n ih => rw [sg_succ, ← ih]; rfl
theorem ev_sg (x : Nat) (hx : x < 128) (p : List Nat) (h : Els p) (n : Nat) (hn : p.length ≤ n) : ev x p = sg n fun i => mul (p.getD i 0) (pw x i) := by
  rw [ev_sum x hx p h, sm_sg, show n = p.length + (n - p.length) by omega]
  refine (sg_more _ _ _ fun i hi => ?_).symm
  rw [List.getD_eq_getElem?_getD, List.getElem?_eq_none hi]
  exact mul_zl _ (pw_lt x i hx)

/-- A recurrence's sums at power sums are sums of its values. -/
theorem dc_sums (e : List Bool) (he : e.length = 127) (C : Nat → Nat) (hC : ∀ i, C i < 128) (L n : Nat) (hL : L ≤ n) (hn : n < 100) :
    dc C L (sq e) n = xsum ((els e).map fun a => mul (sg (L + 1) fun j => mul (C (L - j)) (pw a j)) (pw a (n - L + 1))) := by
  have e1 : ∀ i, i < L + 1 → mul (C i) (sq e (n - i)) = xsum ((els e).map fun a => mul (C i) (pw a (n - i + 1))) := by
    intro i hi
    unfold sq
    rw [syn_sum e he (n - i + 1) (by omega), ← xsum_mul (C i) (hC i)]
  unfold dc
  rw [sg_congr _ _ _ e1, ← xsum_sg (els e) (L + 1) fun a i => mul (C i) (pw a (n - i + 1))]
  apply xsum_congr
  intro a ha
  have haa := els_els e a ha
  have hp := pw_lt a (n - L + 1) haa
  rw [mul_comm _ _ (sg_lt _ _ fun j => mul_lt _ _ (hC _) (pw_lt a j haa)) hp, ← sg_mul _ hp, sg_rev]
  apply sg_congr
  intro j hj
  rw [show n - (L - j) + 1 = (n - L + 1) + j by omega, pw_add a _ _ haa, mul_comm (pw a j) _ (pw_lt a j haa) hp, mul_assoc _ _ _ (hC _) hp (pw_lt a j haa), mul_comm (C (L - j)) _ (hC _) hp, ← mul_assoc _ _ _ hp (hC _) (pw_lt a j haa)]
theorem rp_top : ∀ l, Els l → (rp l).getD l.length 0 = 1
  | [], _ => rfl
  | a :: l, h => by
    have ih := rp_top l h.tail
    have hl := rp_length l
    show (tm (rp l) a).getD (l.length + 1) 0 = 1
    unfold tm
    rw [lx_getD _ _ _ (by simp), List.getD_cons_succ, ih]
    have e : (((rp l).map fun c => mul c a) ++ [0]).getD (l.length + 1) 0 = 0 := by
      rw [List.getD_eq_getElem?_getD, List.getElem?_append_right (by simp [hl])]
      simp [hl]
    rw [e]; rfl
/-- The recurrence of a word's own elements. -/
def lam (e : List Bool) : Nat → Nat := fun i => if i ≤ (els e).length then (rp (els e)).getD ((els e).length - i) 0 else 0
theorem lam_gen (e : List Bool) (he : e.length = 127) (N : Nat) (hN : N ≤ 100) : Gen (lam e) (els e).length (sq e) N := by
  have hels := rp_els _ (els_els e)
  have hlt : ∀ i, lam e i < 128 := by
    intro i
    unfold lam
    split
    · exact hels.getD _
    · omega
  refine ⟨?_, hlt, ?_, ?_⟩
  · unfold lam
    rw [if_pos (by omega), Nat.sub_zero, rp_top _ (els_els e)]
  · intro i hi
    unfold lam
    rw [if_neg (by omega)]
  · intro n h1 h2
    rw [dc_sums e he _ hlt _ n h1 (by omega)]
    apply xsum_zero
    intro a ha
    have haa := els_els e a ha
    have e1 : (sg ((els e).length + 1) fun j => mul (lam e ((els e).length - j)) (pw a j)) = ev a (rp (els e)) := by
      rw [ev_sg a haa _ hels ((els e).length + 1) (by rw [rp_length]; exact Nat.le_refl _)]
      apply sg_congr
      intro j hj
      unfold lam
      rw [if_pos (by omega), show (els e).length - ((els e).length - j) = j by omega]
    rw [e1, rp_in a haa _ (els_els e) ha, mul_zl _ (pw_lt a _ haa)]

/-- A polynomial's coefficients turned round. -/
def rev (C : Nat → Nat) (L : Nat) : List Nat := (List.range (L + 1)).map fun j => C (L - j)
theorem rev_length (C : Nat → Nat) (L : Nat) : (rev C L).length = L + 1 := by unfold rev; rw [List.length_map, List.length_range]
theorem rev_els (C : Nat → Nat) (L : Nat) (h : ∀ i, C i < 128) : Els (rev C L) := by
  intro c hc
  obtain ⟨j, _, rfl⟩ := List.mem_map.1 hc
  exact h _
theorem rev_ev (C : Nat → Nat) (L a : Nat) (h : ∀ i, C i < 128) (ha : a < 128) : ev a (rev C L) = sg (L + 1) fun j => mul (C (L - j)) (pw a j) := by
  rw [ev_sg a ha _ (rev_els C L h) (L + 1) (by rw [rev_length]; exact Nat.le_refl _)]
  apply sg_congr
  intro j hj
  unfold rev
  rw [tab_getD _ _ _ _ hj]
theorem count_sub (p : Nat → Bool) : ∀ (xs : List Nat) (n : Nat), xs.Nodup → (∀ a ∈ xs, a < n) → (∀ a ∈ xs, p a = true) → xs.length ≤ (List.range n).countP p
  | [], _, _, _, _ => Nat.zero_le _
  | a :: xs, n, h, h1, h2 => by
    rw [List.nodup_cons] at h
    have ih := count_sub (fun x => p x && (x != a)) xs n h.2 (fun b hb => h1 b (List.mem_cons_of_mem _ hb)) fun b hb => by
      have hne : b ≠ a := fun e => h.1 (e ▸ hb)
      simp [h2 b (List.mem_cons_of_mem _ hb), hne]
    have hlt : (List.range n).countP (fun x => p x && (x != a)) < (List.range n).countP p := by
      have hmem := List.mem_range.2 (h1 a (List.mem_cons_self ..))
      obtain ⟨l, m, e⟩ := List.append_of_mem hmem
      rw [e]
      simp only [List.countP_append, List.countP_cons, h2 a (List.mem_cons_self ..), bne_self_eq_false, Bool.and_false, if_true]
      have q1 : ∀ l : List Nat, l.countP (fun x => p x && (x != a)) ≤ l.countP p := fun l => List.countP_mono_left fun x _ hx => by simp at hx; exact hx.1
      have := q1 l
      have := q1 m
      simp
      omega
    rw [List.length_cons]; omega
/-- A recurrence's value at an element. -/
def val (C : Nat → Nat) (L a : Nat) : Nat := if a < 128 then ev a (rev C L) else 0
theorem val_lt (C : Nat → Nat) (L : Nat) (h : ∀ i, C i < 128) (a : Nat) : val C L a < 128 := by
  unfold val
  by_cases ha : a < 128
  · rw [if_pos ha]; exact ev_lt a ha _ (rev_els C L h)
  · rw [if_neg ha]; omega
theorem val_ev (C : Nat → Nat) (L a : Nat) (ha : a < 128) : val C L a = ev a (rev C L) := if_pos ha
/-- A short recurrence of twenty syndromes: it is as long as the word has bits, and 0 just at their elements. -/
theorem loc_exact (e : List Bool) (he : e.length = 127) (hf : (els e).length ≤ 10) (C : Nat → Nat) (L : Nat) (g : Gen C L (sq e) 20) (hL : L ≤ (els e).length) :
    L = (els e).length ∧ ∀ a, a < 128 → (ev a (rev C L) = 0 ↔ a ∈ els e) := by
  have hs : ∀ i, 1 ≤ i → i < 1 + (els e).length → xsum ((els e).map fun a => mul (val C L a) (pw a i)) = 0 := by
    intro i h1 h2
    have hz := g.zero (L + i - 1) (by omega) (by omega)
    rw [dc_sums e he C g.lt L (L + i - 1) (by omega) (by omega)] at hz
    rw [← hz]
    apply xsum_congr
    intro b hb
    have hbb := els_els e b hb
    rw [val_ev C L b hbb, rev_ev C L b g.lt hbb, show L + i - 1 - L + 1 = i by omega]
  have hv : ∀ a ∈ els e, ev a (rev C L) = 0 := by
    intro a ha
    rw [← val_ev C L a (els_els e a ha)]
    exact weights (val C L) (val_lt C L g.lt) (els e) (els_els e) (els_pos e he) (els_nodup e he) 1 hs a ha
  have hnz : zs (rev C L) = false := by
    cases hz : zs (rev C L) with
    | false => rfl
    | true =>
      exfalso
      unfold zs at hz
      have := List.all_eq_true.1 hz (C 0) (by
        unfold rev
        rw [List.mem_map]
        exact ⟨L, List.mem_range.2 (by omega), by rw [Nat.sub_self]⟩)
      rw [g.one] at this
      simp at this
  have hfew := roots_few (L + 1) (rev C L) (rev_length C L) (rev_els C L g.lt) hnz
  have hmany := count_sub (fun x => ev x (rev C L) == 0) (els e) 128 (els_nodup e he) (fun a ha => els_els e a ha) fun a ha => by simp [hv a ha]
  have hcn : cn (rev C L) 128 = (List.range 128).countP fun x => ev x (rev C L) == 0 := rfl
  rw [hcn] at hfew
  refine ⟨by omega, fun a ha => ⟨fun h => ?_, hv a⟩⟩
  by_cases hin : a ∈ els e
  · exact hin
  · exfalso
    have := count_sub (fun x => ev x (rev C L) == 0) (a :: els e) 128 (List.nodup_cons.2 ⟨hin, els_nodup e he⟩) (fun b hb => by
      rcases List.mem_cons.1 hb with rfl | hb
      · exact ha
      · exact els_els e b hb) fun b hb => by
        rcases List.mem_cons.1 hb with rfl | hb
        · simp [h]
        · simp [hv b hb]
    rw [List.length_cons] at this
    omega
end Go.Proofs.Ytbokecpcefcimaa.M
