/-
  Plain facts for layer 6: how far a word with holes is from a word; that two near codewords are the same; that of two fillings one has few errors; the shortest recurrence of a sequence (Massey's lemma, and the step that keeps it). No program is named here. No conditions.
-/
import Derived.Test.YtbokecpcefcimaaHx
namespace Go.Proofs.Ytbokecpcefcimaa.M

/-- What a place adds: 1 at a hole, 2 where a known bit is unlike. -/
def far1 (w h c : Bool) : Nat := if h then 1 else if w != c then 2 else 0
/-- Twice the known bits that are unlike, and the holes, among the first j. -/
def farN (w h c : List Bool) : Nat → Nat
  | 0 => 0
  | j + 1 => farN w h c j + far1 (w.getD j false) (h.getD j false) (c.getD j false)
theorem farN_le (w h c : List Bool) (j : Nat) : farN w h c j ≤ 2 * j := by
  induction j with
  | zero => exact Nat.le_refl _
  | succ j ih =>
    have : far1 (w.getD j false) (h.getD j false) (c.getD j false) ≤ 2 := by
      unfold far1; split; omega; split <;> omega
    simp only [farN]; omega
theorem farN_two (w h c d : List Bool) (hc : c.length = 127) (hd : d.length = 127) (j : Nat) (hj : j ≤ 127) : 2 * dstN c d j ≤ farN w h c j + farN w h d j := by
  induction j with
  | zero => simp [dstN, farN]
  | succ j ih =>
    have ih := ih (by omega)
    rw [dstN_succ c d j (by omega) (by omega)]
    simp only [farN]
    generalize dstN c d j = n at *
    generalize farN w h c j = p at *
    generalize farN w h d j = q at *
    generalize c.getD j false = x
    generalize d.getD j false = y
    generalize w.getD j false = z
    generalize h.getD j false = t
    unfold far1
    cases x <;> cases y <;> cases z <;> cases t <;> simp <;> omega
/-- Two near codewords are the same. -/
theorem near_one (w h c d : List Bool) (hc : c.length = 127) (hd : d.length = 127) (kc : Cw c) (kd : Cw d) (h1 : farN w h c 127 ≤ 20) (h2 : farN w h d 127 ≤ 20) : c = d := by
  by_cases e : c = d
  · exact e
  · have h3 := cw_apart c d hc hd kc kd e
    have h4 := farN_two w h c d hc hd 127 (by omega)
    have h5 : dstN c d 127 = dst c d := by rw [← hc]; exact dstN_all c d (by omega)
    unfold dst at h5
    omega
/-- A word whose holes are filled. -/
def fill (w h : List Bool) (b : Bool) : List Bool := (List.range 127).map fun i => if h.getD i false then b else w.getD i false
theorem fill_length (w h : List Bool) (b : Bool) : (fill w h b).length = 127 := by unfold fill; rw [List.length_map, List.length_range]
theorem fill_getD (w h : List Bool) (b : Bool) (i : Nat) (hi : i < 127) : (fill w h b).getD i false = if h.getD i false then b else w.getD i false := by
  unfold fill; rw [tab_getD _ _ _ _ hi]
theorem fill_two (w h c : List Bool) (hc : c.length = 127) (j : Nat) (hj : j ≤ 127) : dstN (fill w h false) c j + dstN (fill w h true) c j = farN w h c j := by
  induction j with
  | zero => simp [dstN, farN]
  | succ j ih =>
    have ih := ih (by omega)
    rw [dstN_succ _ _ j (by rw [fill_length, hc]) (by rw [fill_length]; omega), dstN_succ _ _ j (by rw [fill_length, hc]) (by rw [fill_length]; omega), fill_getD _ _ _ _ (by omega), fill_getD _ _ _ _ (by omega)]
    simp only [farN]
    generalize dstN (fill w h false) c j = n at *
    generalize dstN (fill w h true) c j = m at *
    generalize farN w h c j = p at *
    generalize c.getD j false = x
    generalize w.getD j false = z
    generalize h.getD j false = t
    unfold far1
    cases x <;> cases z <;> cases t <;> simp <;> omega
/-- Of two fillings one has no more errors than half of the distance. -/
theorem fill_few (w h c : List Bool) (hc : c.length = 127) (k : farN w h c 127 ≤ 20) : dst (fill w h false) c ≤ 10 ∨ dst (fill w h true) c ≤ 10 := by
  have h1 := fill_two w h c hc 127 (by omega)
  have e1 : dstN (fill w h false) c 127 = dst (fill w h false) c := by
    have := dstN_all (fill w h false) c (by rw [fill_length, hc]); rwa [fill_length] at this
  have e2 : dstN (fill w h true) c 127 = dst (fill w h true) c := by
    have := dstN_all (fill w h true) c (by rw [fill_length, hc]); rwa [fill_length] at this
  omega

/-- A sum over the first numbers. -/
def sg (n : Nat) (f : Nat → Nat) : Nat := xsum ((List.range n).map f)
theorem xsum_append (l m : List Nat) : xsum (l ++ m) = xsum l ^^^ xsum m := by
  induction l with
  | nil => rw [List.nil_append]; exact (Nat.zero_xor _).symm
  | cons a l ih => rw [List.cons_append, xsum_cons, xsum_cons, ih, Nat.xor_assoc]
theorem sg_succ (n : Nat) (f : Nat → Nat) : sg (n + 1) f = sg n f ^^^ f n := by
  unfold sg
  rw [List.range_succ, List.map_append, xsum_append]
  congr 1
  show f n ^^^ 0 = f n
  exact Nat.xor_zero _
theorem sg_none (f : Nat → Nat) : sg 0 f = 0 := rfl
theorem sg_zero (n : Nat) (f : Nat → Nat) (h : ∀ i, i < n → f i = 0) : sg n f = 0 := by
  induction n with
  | zero => rfl
  | succ n ih => rw [sg_succ, ih fun i hi => h i (by omega), h n (by omega)]; rfl
theorem sg_congr (n : Nat) (f g : Nat → Nat) (h : ∀ i, i < n → f i = g i) : sg n f = sg n g := by
  induction n with
  | zero => rfl
  | succ n ih => rw [sg_succ, sg_succ, ih fun i hi => h i (by omega), h n (by omega)]
theorem sg_lt (n : Nat) (f : Nat → Nat) (h : ∀ i, f i < 128) : sg n f < 128 := by
  induction n with
  | zero => show 0 < 128; omega
  | succ n ih => rw [sg_succ]; exact xor_lt _ _ ih (h n)
theorem sg_xor (n : Nat) (f g : Nat → Nat) : sg n (fun i => f i ^^^ g i) = sg n f ^^^ sg n g := xsum_xor _ f g
theorem sg_mul (c : Nat) (hc : c < 128) (n : Nat) (f : Nat → Nat) : sg n (fun i => mul c (f i)) = mul c (sg n f) := xsum_mul c hc _ f
theorem sg_swap (n m : Nat) (f : Nat → Nat → Nat) : sg n (fun i => sg m (fun j => f i j)) = sg m (fun j => sg n (fun i => f i j)) := by
  induction n with
  | zero => rw [sg_none]; exact (sg_zero m _ fun j _ => rfl).symm
  | succ n ih =>
    rw [sg_succ, ih, ← sg_xor]
    exact sg_congr m _ _ fun j _ => (sg_succ n (fun i => f i j)).symm
theorem sg_first (n : Nat) (f : Nat → Nat) (h : ∀ i, 1 ≤ i → i < n + 1 → f i = 0) : sg (n + 1) f = f 0 := by
  induction n with
  | zero => rw [sg_succ, sg_none, Nat.zero_xor]
  | succ n ih => rw [sg_succ, ih fun i h1 h2 => h i h1 (by omega), h (n + 1) (by omega) (by omega), Nat.xor_zero]
theorem sg_more (n k : Nat) (f : Nat → Nat) (h : ∀ i, n ≤ i → f i = 0) : sg (n + k) f = sg n f := by
  induction k with
  | zero => rfl
  | succ k ih => rw [← Nat.add_assoc, sg_succ, ih, h (n + k) (by omega), Nat.xor_zero]
theorem sg_shift (n m : Nat) (f : Nat → Nat) (h : ∀ i, i < m → f i = 0) : sg (m + n) f = sg n (fun i => f (m + i)) := by
  induction n with
  | zero => exact sg_zero m f h
  | succ n ih => rw [← Nat.add_assoc, sg_succ, ih, sg_succ]

/-- What a recurrence asks of a sequence at n. -/
def dc (C : Nat → Nat) (L : Nat) (S : Nat → Nat) (n : Nat) : Nat := sg (L + 1) fun i => mul (C i) (S (n - i))
/-- A recurrence of length L for the first N. -/
structure Gen (C : Nat → Nat) (L : Nat) (S : Nat → Nat) (N : Nat) : Prop where
  one : C 0 = 1
  lt : ∀ i, C i < 128
  deg : ∀ i, L < i → C i = 0
  zero : ∀ n, L ≤ n → n < N → dc C L S n = 0
theorem Gen.less {C : Nat → Nat} {L : Nat} {S : Nat → Nat} {N M : Nat} (h : Gen C L S N) (hM : M ≤ N) : Gen C L S M :=
  ⟨h.one, h.lt, h.deg, fun n h1 h2 => h.zero n h1 (by omega)⟩
theorem one_mul (a : Nat) (ha : a < 128) : mul 1 a = a := by rw [mul_comm 1 a (by omega) ha, mul_one a ha]
theorem massey {C C' : Nat → Nat} {L L' : Nat} {S : Nat → Nat} {N : Nat} (hS : ∀ n, S n < 128) (h : Gen C L S N) (h' : Gen C' L' S (N + 1)) (hd : dc C L S N ≠ 0) : N + 1 ≤ L + L' := by
  rcases Nat.lt_or_ge N (L + L') with h0 | h0
  · exact h0
  · exfalso
    apply hd
    have e1 : sg (L + 1) (fun i => sg (L' + 1) fun j => mul (mul (C i) (C' j)) (S (N - i - j))) = 0 := by
      apply sg_zero
      intro i hi
      have e : sg (L' + 1) (fun j => mul (mul (C i) (C' j)) (S (N - i - j))) = mul (C i) (dc C' L' S (N - i)) := by
        unfold dc
        rw [← sg_mul _ (h.lt i)]
        exact sg_congr _ _ _ fun j _ => (mul_assoc _ _ _ (h.lt i) (h'.lt j) (hS _)).symm
      rw [e, h'.zero (N - i) (by omega) (by omega), mul_zr _ (h.lt i)]
    rw [sg_swap] at e1
    have e2 : sg (L' + 1) (fun j => sg (L + 1) fun i => mul (mul (C i) (C' j)) (S (N - i - j))) = sg (L' + 1) fun j => mul (C' j) (dc C L S (N - j)) := by
      apply sg_congr
      intro j _
      unfold dc
      rw [← sg_mul _ (h'.lt j)]
      apply sg_congr
      intro i _
      rw [mul_comm (C i) (C' j) (h.lt i) (h'.lt j), ← mul_assoc _ _ _ (h'.lt j) (h.lt i) (hS _), show N - i - j = N - j - i by omega]
    rw [e2, sg_first] at e1
    · rw [h'.one] at e1
      have hl : dc C L S (N - 0) < 128 := sg_lt _ _ fun i => mul_lt _ _ (h.lt i) (hS _)
      rw [one_mul _ hl] at e1
      exact e1
    · intro j h1 h2
      rw [h.zero (N - j) (by omega) (by omega), mul_zr _ (h'.lt j)]
theorem dc_more {C : Nat → Nat} {L : Nat} (S : Nat → Nat) (n : Nat) (hS : ∀ n, S n < 128) (hC : ∀ i, L < i → C i = 0) (L2 : Nat) (h : L ≤ L2) : dc C L2 S n = dc C L S n := by
  unfold dc
  rw [show L2 + 1 = L + 1 + (L2 - L) by omega]
  apply sg_more
  intro i hi
  rw [hC i (by omega), mul_zl _ (hS _)]
/-- A polynomial from which another one's multiple, moved up, is taken. -/
def upd (C B : Nat → Nat) (k m : Nat) : Nat → Nat := fun i => if m ≤ i then C i ^^^ mul k (B (i - m)) else C i
theorem upd_lt {C B : Nat → Nat} {k m : Nat} (hC : ∀ i, C i < 128) (hB : ∀ i, B i < 128) (hk : k < 128) (i : Nat) : upd C B k m i < 128 := by
  unfold upd; split
  · exact xor_lt _ _ (hC i) (mul_lt _ _ hk (hB _))
  · exact hC i
/-- The step at a recurrence that fails: by an earlier one that failed. -/
theorem gen_step {C B : Nat → Nat} {L Lb : Nat} {S : Nat → Nat} {N M k : Nat} (hS : ∀ n, S n < 128) (h : Gen C L S N) (hb : Gen B Lb S M) (hMN : M < N) (hk : k < 128)
    (hL : L + Lb = M + 1) (hk2 : mul k (dc B Lb S M) = dc C L S N) : Gen (upd C B k (N - M)) (max L (N + 1 - L)) S (N + 1) := by
  have hm : 1 ≤ N - M := by omega
  have hl1 : L ≤ max L (N + 1 - L) := Nat.le_max_left _ _
  have hl2 : N + 1 - L ≤ max L (N + 1 - L) := Nat.le_max_right _ _
  refine ⟨?_, upd_lt h.lt hb.lt hk, ?_, ?_⟩
  · unfold upd; rw [if_neg (by omega)]; exact h.one
  · intro i hi
    unfold upd
    split
    · rw [h.deg i (by omega), hb.deg (i - (N - M)) (by omega), mul_zr k hk]; rfl
    · exact h.deg i (by omega)
  · intro n h1 h2
    generalize hX : max L (N + 1 - L) = X at *
    have e : dc (upd C B k (N - M)) X S n = dc C X S n ^^^ mul k (sg (X + 1) fun i => if N - M ≤ i then mul (B (i - (N - M))) (S (n - i)) else 0) := by
      unfold dc
      rw [← sg_mul k hk, ← sg_xor]
      apply sg_congr
      intro i _
      unfold upd
      split
      · rw [xor_mul _ _ _ (h.lt i) (mul_lt _ _ hk (hb.lt _)) (hS _), ← mul_assoc _ _ _ hk (hb.lt _) (hS _)]
      · rw [mul_zr k hk, Nat.xor_zero]
    have e2 : (sg (X + 1) fun i => if N - M ≤ i then mul (B (i - (N - M))) (S (n - i)) else 0) = dc B Lb S (n - (N - M)) := by
      rw [show X + 1 = (N - M) + (X + 1 - (N - M)) by omega, sg_shift _ _ _ fun i hi => if_neg (by omega)]
      rw [← dc_more S (n - (N - M)) hS hb.deg (X - (N - M)) (by omega)]
      unfold dc
      rw [show X - (N - M) + 1 = X + 1 - (N - M) by omega]
      apply sg_congr
      intro i _
      rw [if_pos (by omega), show N - M + i - (N - M) = i by omega, show n - (N - M + i) = n - (N - M) - i by omega]
    rw [e, e2, dc_more S n hS h.deg X hl1]
    rcases Nat.lt_or_ge n N with h3 | h3
    · rw [h.zero n (by omega) h3, hb.zero (n - (N - M)) (by omega) (by omega), mul_zr k hk]; rfl
    · obtain rfl : n = N := by omega
      rw [show n - (n - M) = M by omega, hk2, Nat.xor_self]
/-- .. and at the first number that isn't 0. -/
theorem gen_first {S : Nat → Nat} {N : Nat} (C : Nat → Nat) (h1 : C 0 = 1) (h2 : ∀ i, C i < 128) (h3 : ∀ i, N + 1 < i → C i = 0) : Gen C (N + 1) S (N + 1) :=
  ⟨h1, h2, h3, fun n h4 h5 => by omega⟩
/-- A shortest recurrence stays so. -/
theorem least_step {C : Nat → Nat} {L : Nat} {S : Nat → Nat} {N : Nat} (hS : ∀ n, S n < 128) (h : Gen C L S N) (hm : ∀ C' L', Gen C' L' S N → L ≤ L') (hd : dc C L S N ≠ 0) :
    ∀ C' L', Gen C' L' S (N + 1) → max L (N + 1 - L) ≤ L' := by
  intro C' L' h'
  have h1 := hm C' L' (h'.less (by omega))
  have h2 := massey hS h h' hd
  omega

/-- Sums with weights that are 0 at powers enough. -/
theorem sum_zeroW (c : Nat → Nat) (xs : List Nat) (hxs : Els xs) (hc : ∀ a, c a < 128) : ∀ p d, Els p → (∀ i, d ≤ i → i < d + p.length → xsum (xs.map fun a => mul (c a) (pw a i)) = 0) → xsum (xs.map fun a => mul (c a) (mul (ev a p) (pw a d))) = 0
  | [], d, _, _ => xsum_zero _ _ fun a ha => by
    show mul (c a) (mul 0 (pw a d)) = 0
    rw [mul_zl _ (pw_lt a d (hxs a ha)), mul_zr _ (hc a)]
  | q :: p, d, h, hs => by
    rw [List.length_cons] at hs
    have ih := sum_zeroW c xs hxs hc p (d + 1) h.tail fun i h1 h2 => hs i (by omega) (by omega)
    have e : xsum (xs.map fun a => mul (c a) (mul (ev a (q :: p)) (pw a d))) = xsum (xs.map fun a => mul (c a) (mul (ev a p) (pw a (d + 1))) ^^^ mul q (mul (c a) (pw a d))) := by
      apply xsum_congr
      intro a ha
      have h0 := hxs a ha
      have h1 := ev_lt a h0 p h.tail
      have h2 := pw_lt a d h0
      have e1 : mul (ev a (q :: p)) (pw a d) = mul (ev a p) (pw a (d + 1)) ^^^ mul q (pw a d) := by
        show mul (mul (ev a p) a ^^^ q) (pw a d) = mul (ev a p) (mul (pw a d) a) ^^^ mul q (pw a d)
        rw [xor_mul _ _ _ (mul_lt _ _ h1 h0) h.head h2, ← mul_assoc _ _ _ h1 h0 h2, mul_comm a _ h0 h2]
      rw [e1, mul_xor, mul_assoc (c a) q _ (hc a) h.head h2, mul_comm (c a) q (hc a) h.head, ← mul_assoc q (c a) _ h.head (hc a) h2]
    rw [e, xsum_xor, ih, xsum_mul q h.head, hs d (by omega) (by omega), mul_zr q h.head]; rfl
/-- Weights of unlike elements, none of them 0, are 0 where their sums with as many powers are. -/
theorem weights (c : Nat → Nat) (hc : ∀ a, c a < 128) (xs : List Nat) (h : Els xs) (h0 : ∀ a ∈ xs, a ≠ 0) (hn : xs.Nodup) (d : Nat) (hs : ∀ i, d ≤ i → i < d + xs.length → xsum (xs.map fun a => mul (c a) (pw a i)) = 0) (a : Nat) (ha : a ∈ xs) : c a = 0 := by
  obtain ⟨l, m, rfl⟩ := List.append_of_mem ha
  have hperm : ∀ f : Nat → Nat, xsum ((l ++ a :: m).map f) = f a ^^^ xsum ((l ++ m).map f) := by
    intro f
    rw [List.map_append, List.map_cons, xsum_append, xsum_cons, List.map_append, xsum_append]
    rw [← Nat.xor_assoc, Nat.xor_comm (xsum (l.map f)) (f a), Nat.xor_assoc]
  have hels : Els (l ++ m) := fun b hb => h b (by
    rcases List.mem_append.1 hb with hb | hb
    · exact List.mem_append_left _ hb
    · exact List.mem_append_right _ (List.mem_cons_of_mem _ hb))
  have hnot : a ∉ l ++ m := by
    rw [List.nodup_append] at hn
    obtain ⟨_, h2, h3⟩ := hn
    rw [List.nodup_cons] at h2
    intro hc
    rcases List.mem_append.1 hc with hc | hc
    · exact h3 a hc a (List.mem_cons_self ..) rfl
    · exact h2.1 hc
  have hp := rp_els _ hels
  have hlen := rp_length (l ++ m)
  have haa := h a ha
  have e := sum_zeroW c (l ++ a :: m) h hc (rp (l ++ m)) d hp fun i h1 h2 => hs i h1 (by
    rw [hlen] at h2
    simp only [List.length_append, List.length_cons] at h2 ⊢
    omega)
  rw [hperm, xsum_zero (l ++ m) _ (fun b hb => by rw [rp_in b (hels b hb) _ hels hb, mul_zl _ (pw_lt b d (hels b hb)), mul_zr _ (hc b)]), Nat.xor_zero] at e
  have h1 := ev_lt a haa _ hp
  have hout := rp_out a haa _ hels hnot
  have hpw : pw a d ≠ 0 := by
    rw [pw_pos a d haa (h0 a ha)]
    have := E_bd ((Lg a * d) % 127) (Nat.mod_lt _ (by omega))
    omega
  by_cases hz : c a = 0
  · exact hz
  · exact absurd e (mul_ne _ _ (hc a) (mul_lt _ _ h1 (pw_lt a d haa)) hz (mul_ne _ _ h1 (pw_lt a d haa) hout hpw))
end Go.Proofs.Ytbokecpcefcimaa.M
