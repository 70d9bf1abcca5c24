/-
  Plain facts on words of bits as polynomials over the field of 128 elements: what is 0 at the powers 1 to 20 of 2 has no bit, or 21 at least; what has no bit from 63 on, none at all. No program is named here. No conditions.
-/
import Derived.Test.YtbokecpcefcimaaFa
namespace Go.Proofs.Ytbokecpcefcimaa.M

theorem ev_cons (x c : Nat) (p : List Nat) : ev x (c :: p) = mul (ev x p) x ^^^ c := rfl
/-- A word's polynomial. -/
def wp (w : List Bool) : List Nat := w.map Bool.toNat
theorem bool_lt (b : Bool) : b.toNat < 128 := by cases b <;> decide
theorem wp_els (w : List Bool) : Els (wp w) := by
  intro c hc
  obtain ⟨b, _, rfl⟩ := List.mem_map.1 hc
  exact bool_lt b
theorem wp_length (w : List Bool) : (wp w).length = w.length := by simp [wp]
theorem wp_cons (b : Bool) (w : List Bool) : wp (b :: w) = b.toNat :: wp w := rfl
/-- The sum of two lists, number by number. -/
def lx (p q : List Nat) : List Nat := List.zipWith (fun a b => a ^^^ b) p q
theorem lx_cons (a b : Nat) (p q : List Nat) : lx (a :: p) (b :: q) = (a ^^^ b) :: lx p q := rfl
theorem lx_length (p q : List Nat) (h : p.length = q.length) : (lx p q).length = p.length := by
  simp [lx, h]
theorem lx_els : ∀ p q, Els p → Els q → Els (lx p q)
  | [], _, _, _ => fun c hc => by simp [lx] at hc
  | _ :: _, [], _, _ => fun c hc => by simp [lx] at hc
  | a :: p, b :: q, hp, hq => by
    intro c hc
    rw [lx_cons, List.mem_cons] at hc
    rcases hc with rfl | hc
    · exact xor_lt _ _ hp.head hq.head
    · exact lx_els p q hp.tail hq.tail c hc
theorem lx_getD : ∀ (p q : List Nat) (i : Nat), p.length = q.length → (lx p q).getD i 0 = p.getD i 0 ^^^ q.getD i 0
  | [], [], i, _ => by simp [lx]
  | [], _ :: _, _, h => by simp at h
  | _ :: _, [], _, h => by simp at h
  | a :: p, b :: q, 0, _ => rfl
  | a :: p, b :: q, i + 1, h => by
    rw [lx_cons]
    simp only [List.getD_cons_succ]
    exact lx_getD p q i (by simpa using h)
theorem x8 (a b c d : Nat) : (a ^^^ b) ^^^ (c ^^^ d) = (a ^^^ c) ^^^ (b ^^^ d) := by
  apply Nat.eq_of_testBit_eq; intro i
  simp only [Nat.testBit_xor]
  cases a.testBit i <;> cases b.testBit i <;> cases c.testBit i <;> cases d.testBit i <;> rfl
theorem ev_lx (x : Nat) (hx : x < 128) : ∀ p q, Els p → Els q → p.length = q.length → ev x (lx p q) = ev x p ^^^ ev x q
  | [], [], _, _, _ => (Nat.xor_self 0).symm
  | [], _ :: _, _, _, h => by simp at h
  | _ :: _, [], _, _, h => by simp at h
  | a :: p, b :: q, hp, hq, h => by
    show mul (ev x (lx p q)) x ^^^ (a ^^^ b) = (mul (ev x p) x ^^^ a) ^^^ (mul (ev x q) x ^^^ b)
    rw [ev_lx x hx p q hp.tail hq.tail (by simpa using h), xor_mul _ _ _ (ev_lt x hx p hp.tail) (ev_lt x hx q hq.tail) hx, x8]

/-- The sum of a list. -/
def xsum (l : List Nat) : Nat := l.foldr (fun a b => a ^^^ b) 0
theorem xsum_cons (a : Nat) (l : List Nat) : xsum (a :: l) = a ^^^ xsum l := rfl
theorem xsum_lt : ∀ l, Els l → xsum l < 128
  | [], _ => by show 0 < 128; omega
  | _ :: l, h => xor_lt _ _ h.head (xsum_lt l h.tail)
theorem xsum_zero (l : List Nat) (f : Nat → Nat) (h : ∀ a ∈ l, f a = 0) : xsum (l.map f) = 0 := by
  induction l with
  | nil => rfl
  | cons a l ih =>
    rw [List.map_cons, xsum_cons, h a (List.mem_cons_self ..), ih (fun b hb => h b (List.mem_cons_of_mem _ hb))]; rfl
theorem xsum_xor (l : List Nat) (f g : Nat → Nat) : xsum (l.map fun a => f a ^^^ g a) = xsum (l.map f) ^^^ xsum (l.map g) := by
  induction l with
  | nil => exact (Nat.xor_self 0).symm
  | cons a l ih =>
    rw [List.map_cons, List.map_cons, List.map_cons, xsum_cons, xsum_cons, xsum_cons, ih, x8]
theorem xsum_mul (c : Nat) (hc : c < 128) (l : List Nat) (f : Nat → Nat) : xsum (l.map fun a => mul c (f a)) = mul c (xsum (l.map f)) := by
  induction l with
  | nil => exact (mul_zr c hc).symm
  | cons a l ih =>
    rw [List.map_cons, List.map_cons, xsum_cons, xsum_cons, ih, mul_xor]
theorem xsum_congr (l : List Nat) (f g : Nat → Nat) (h : ∀ a ∈ l, f a = g a) : xsum (l.map f) = xsum (l.map g) := by
  rw [List.map_congr_left h]

/-- The sum of an element's powers, at a word's bits, the first of them the power k. -/
def pz (x : Nat) : List Bool → Nat → Nat
  | [], _ => 0
  | b :: w, k => (if b then pw x k else 0) ^^^ pz x w (k + 1)
theorem pz_ev (x : Nat) (hx : x < 128) : ∀ w k, mul (ev x (wp w)) (pw x k) = pz x w k
  | [], k => mul_zl _ (pw_lt x k hx)
  | b :: w, k => by
    have h1 := ev_lt x hx (wp w) (wp_els w)
    have h2 := pw_lt x k hx
    show mul (mul (ev x (wp w)) x ^^^ b.toNat) (pw x k) = (if b then pw x k else 0) ^^^ pz x w (k + 1)
    rw [← pz_ev x hx w (k + 1), xor_mul _ _ _ (mul_lt _ _ h1 hx) (bool_lt b) h2, ← mul_assoc _ _ _ h1 hx h2, mul_comm x _ hx h2, Nat.xor_comm]
    congr 1
    cases b
    · exact mul_zl _ h2
    · show mul 1 _ = _
      rw [mul_comm 1 _ (by omega) h2, mul_one _ h2]; rfl
theorem ev_pz (x : Nat) (hx : x < 128) (w : List Bool) : ev x (wp w) = pz x w 0 := by
  rw [← pz_ev x hx w 0]
  exact (mul_one _ (ev_lt x hx _ (wp_els w))).symm
/-- The elements that a word's bits stand for. -/
def xw : List Bool → Nat → List Nat
  | [], _ => []
  | b :: w, k => if b then E k :: xw w (k + 1) else xw w (k + 1)
theorem xw_length : ∀ w k, (xw w k).length = w.count true
  | [], _ => rfl
  | false :: w, k => by
    show (xw w (k + 1)).length = _
    rw [xw_length w, List.count_cons]; rfl
  | true :: w, k => by
    show (E k :: xw w (k + 1)).length = _
    rw [List.length_cons, xw_length w, List.count_cons]; rfl
theorem xw_mem : ∀ w k a, a ∈ xw w k → ∃ j, k ≤ j ∧ j < k + w.length ∧ a = E j
  | [], _, _, h => by simp [xw] at h
  | b :: w, k, a, h => by
    have ih := xw_mem w (k + 1) a
    rw [List.length_cons]
    cases b
    · obtain ⟨j, h1, h2, h3⟩ := ih h
      exact ⟨j, by omega, by omega, h3⟩
    · rcases List.mem_cons.1 h with rfl | h
      · exact ⟨k, by omega, by omega, rfl⟩
      · obtain ⟨j, h1, h2, h3⟩ := ih h
        exact ⟨j, by omega, by omega, h3⟩
theorem E_inj (i j : Nat) (hi : i < 127) (hj : j < 127) (h : E i = E j) : i = j := by
  rw [← Lg_E i hi, ← Lg_E j hj, h]
theorem xw_nodup : ∀ w k, k + w.length ≤ 127 → (xw w k).Nodup
  | [], _, _ => List.nodup_nil
  | b :: w, k, h => by
    rw [List.length_cons] at h
    have ih := xw_nodup w (k + 1) (by omega)
    cases b
    · exact ih
    · show (E k :: xw w (k + 1)).Nodup
      rw [List.nodup_cons]
      refine ⟨fun hm => ?_, ih⟩
      obtain ⟨j, h1, h2, h3⟩ := xw_mem w (k + 1) _ hm
      have := E_inj k j (by omega) (by omega) h3
      omega
theorem pw_turn (i k : Nat) (hi : i < 127) (hk : k < 127) : pw (E i) k = pw (E k) i := by
  have h1 := E_bd i hi
  have h2 := E_bd k hk
  rw [pw_pos _ _ h1.2 (by omega), pw_pos _ _ h2.2 (by omega), Lg_E i hi, Lg_E k hk, Nat.mul_comm]
theorem pz_xw (i : Nat) (hi : i < 127) : ∀ w k, k + w.length ≤ 127 → pz (E i) w k = xsum ((xw w k).map fun a => pw a i)
  | [], _, _ => rfl
  | b :: w, k, h => by
    rw [List.length_cons] at h
    have ih := pz_xw i hi w (k + 1) (by omega)
    cases b
    · show 0 ^^^ pz (E i) w (k + 1) = xsum ((xw w (k + 1)).map fun a => pw a i)
      rw [ih, Nat.zero_xor]
    · show pw (E i) k ^^^ pz (E i) w (k + 1) = pw (E k) i ^^^ xsum ((xw w (k + 1)).map fun a => pw a i)
      rw [ih, pw_turn i k hi (by omega)]

theorem sum_zero (xs : List Nat) (hxs : Els xs) : ∀ p d, Els p → (∀ i, d ≤ i → i < d + p.length → xsum (xs.map fun a => pw a i) = 0) → xsum (xs.map fun a => mul (ev a p) (pw a d)) = 0
  | [], d, _, _ => xsum_zero _ _ fun a ha => mul_zl _ (pw_lt a d (hxs a ha))
  | c :: p, d, h, hs => by
    rw [List.length_cons] at hs
    have ih := sum_zero xs hxs p (d + 1) h.tail fun i h1 h2 => hs i (by omega) (by omega)
    have e : xsum (xs.map fun a => mul (ev a (c :: p)) (pw a d)) = xsum (xs.map fun a => mul (ev a p) (pw a (d + 1)) ^^^ mul c (pw a d)) := by
      apply xsum_congr
      intro a ha
      have h0 := hxs a ha
      have h1 := ev_lt a h0 p h.tail
      have h2 := pw_lt a d h0
      show mul (mul (ev a p) a ^^^ c) (pw a d) = mul (ev a p) (mul (pw a d) a) ^^^ mul c (pw a d)
      rw [xor_mul _ _ _ (mul_lt _ _ h1 h0) h.head h2, ← mul_assoc _ _ _ h1 h0 h2, mul_comm a _ h0 h2]
    rw [e, xsum_xor, ih, xsum_mul c h.head, hs d (by omega) (by omega), mul_zr c h.head]; rfl

/-- A polynomial times x + a. -/
def tm (p : List Nat) (a : Nat) : List Nat := lx (0 :: p) (p.map (fun c => mul c a) ++ [0])
theorem tm_length (p : List Nat) (a : Nat) : (tm p a).length = p.length + 1 := by
  unfold tm; rw [lx_length _ _ (by simp)]; simp
theorem map_els (p : List Nat) (a : Nat) (ha : a < 128) (h : Els p) : Els (p.map fun c => mul c a) := by
  intro c hc
  obtain ⟨d, hd, rfl⟩ := List.mem_map.1 hc
  exact mul_lt d a (h d hd) ha
theorem app_els {p q : List Nat} (h : Els p) (k : Els q) : Els (p ++ q) := by
  intro c hc
  rcases List.mem_append.1 hc with hc | hc
  · exact h c hc
  · exact k c hc
theorem cons_els {a : Nat} {p : List Nat} (ha : a < 128) (h : Els p) : Els (a :: p) := by
  intro c hc
  rcases List.mem_cons.1 hc with rfl | hc
  · exact ha
  · exact h c hc
theorem zero_els (n : Nat) : Els (List.replicate n 0) := by
  intro c hc
  rw [List.eq_of_mem_replicate hc]; omega
theorem nil_els : Els [0] := zero_els 1
theorem ev_zeros (x : Nat) (hx : x < 128) : ∀ n, ev x (List.replicate n 0) = 0
  | 0 => rfl
  | n + 1 => by
    rw [List.replicate_succ]
    show mul (ev x (List.replicate n 0)) x ^^^ 0 = 0
    rw [ev_zeros x hx n, mul_zl x hx]; rfl
theorem ev_app0 (x : Nat) (hx : x < 128) (n : Nat) : ∀ p, ev x (p ++ List.replicate n 0) = ev x p
  | [] => ev_zeros x hx n
  | c :: p => by
    rw [List.cons_append, ev_cons, ev_cons, ev_app0 x hx n p]
theorem ev_map (x a : Nat) (hx : x < 128) (ha : a < 128) : ∀ p, Els p → ev x (p.map fun c => mul c a) = mul (ev x p) a
  | [], _ => (mul_zl a ha).symm
  | c :: p, h => by
    have h1 := ev_lt x hx p h.tail
    rw [List.map_cons, ev_cons, ev_cons, ev_map x a hx ha p h.tail, xor_mul _ _ _ (mul_lt _ _ h1 hx) h.head ha, ← mul_assoc _ _ _ h1 ha hx, ← mul_assoc _ _ _ h1 hx ha, mul_comm a x ha hx]
theorem tm_els (p : List Nat) (a : Nat) (ha : a < 128) (h : Els p) : Els (tm p a) :=
  lx_els _ _ (cons_els (by omega) h) (app_els (map_els p a ha h) nil_els)
theorem ev_tm (x a : Nat) (hx : x < 128) (ha : a < 128) (p : List Nat) (h : Els p) : ev x (tm p a) = mul (ev x p) (x ^^^ a) := by
  unfold tm
  rw [ev_lx x hx _ _ (cons_els (by omega) h) (app_els (map_els p a ha h) nil_els) (by simp)]
  have e : ev x ((p.map fun c => mul c a) ++ [0]) = mul (ev x p) a := (ev_app0 x hx 1 _).trans (ev_map x a hx ha p h)
  rw [e]
  show (mul (ev x p) x ^^^ 0) ^^^ _ = _
  rw [Nat.xor_zero, ← mul_xor]
/-- The product of all x + a. -/
def rp : List Nat → List Nat
  | [] => [1]
  | a :: l => tm (rp l) a
theorem rp_length : ∀ l, (rp l).length = l.length + 1
  | [] => rfl
  | a :: l => by
    show (tm (rp l) a).length = _
    rw [tm_length, rp_length l, List.length_cons]
theorem rp_els : ∀ l, Els l → Els (rp l)
  | [], _ => fun c hc => by simp [rp] at hc; omega
  | a :: l, h => tm_els _ a h.head (rp_els l h.tail)
theorem rp_in (x : Nat) (hx : x < 128) : ∀ l, Els l → x ∈ l → ev x (rp l) = 0
  | [], _, h => by simp at h
  | a :: l, he, h => by
    show ev x (tm (rp l) a) = 0
    have h1 := ev_lt x hx _ (rp_els l he.tail)
    rw [ev_tm x a hx he.head _ (rp_els l he.tail)]
    rcases List.mem_cons.1 h with rfl | h
    · rw [Nat.xor_self, mul_zr _ h1]
    · rw [rp_in x hx l he.tail h, mul_zl _ (xor_lt _ _ hx he.head)]
theorem xor_ne {a b : Nat} (h : a ≠ b) : a ^^^ b ≠ 0 := by
  intro e
  apply h
  have e3 : (a ^^^ b) ^^^ b = a := by rw [Nat.xor_assoc, Nat.xor_self, Nat.xor_zero]
  rw [e, Nat.zero_xor] at e3
  exact e3.symm
theorem rp_out (x : Nat) (hx : x < 128) : ∀ l, Els l → x ∉ l → ev x (rp l) ≠ 0
  | [], _, _ => by
    show mul 0 x ^^^ 1 ≠ 0
    rw [mul_zl x hx]; decide
  | a :: l, he, h => by
    show ev x (tm (rp l) a) ≠ 0
    rw [List.mem_cons, not_or] at h
    rw [ev_tm x a hx he.head _ (rp_els l he.tail)]
    exact mul_ne _ _ (ev_lt x hx _ (rp_els l he.tail)) (xor_lt _ _ hx he.head) (rp_out x hx l he.tail h.2) (xor_ne h.1)

theorem few_zero (xs : List Nat) (h : Els xs) (h0 : ∀ a ∈ xs, a ≠ 0) (hn : xs.Nodup) (hl : xs.length ≤ 20) (hs : ∀ i, 1 ≤ i → i ≤ 20 → xsum (xs.map fun a => pw a i) = 0) : xs = [] := by
  cases xs with
  | nil => rfl
  | cons a l =>
    exfalso
    rw [List.length_cons] at hl
    rw [List.nodup_cons] at hn
    have hp := rp_els l h.tail
    have hlen := rp_length l
    have e := sum_zero (a :: l) h (rp l) 1 hp fun i h1 h2 => hs i h1 (by omega)
    rw [List.map_cons, xsum_cons, xsum_zero l _ (fun b hb => by rw [rp_in b (h.tail b hb) l h.tail hb, mul_zl _ (pw_lt b 1 (h.tail b hb))]), Nat.xor_zero] at e
    have e1 : pw a 1 = a := by
      show mul 1 a = a
      rw [mul_comm 1 a (by omega) h.head, mul_one a h.head]
    rw [e1] at e
    exact mul_ne _ _ (ev_lt a h.head _ hp) h.head (rp_out a h.head l h.tail hn.1) (h0 a (List.mem_cons_self ..)) e

/-- A codeword: 0 at the powers 1 to 20 of 2. -/
def Cw (w : List Bool) : Prop := ∀ i, 1 ≤ i → i ≤ 20 → ev (E i) (wp w) = 0
theorem cw_far (w : List Bool) (hl : w.length ≤ 127) (h : Cw w) : w.count true = 0 ∨ 21 ≤ w.count true := by
  rcases Nat.lt_or_ge 20 (w.count true) with h20 | h20
  · exact Or.inr h20
  · left
    rw [← xw_length w 0] at h20 ⊢
    have hm : ∀ a ∈ xw w 0, a ≠ 0 ∧ a < 128 := by
      intro a ha
      obtain ⟨j, _, h2, rfl⟩ := xw_mem w 0 a ha
      have := E_bd j (by omega)
      omega
    rw [few_zero (xw w 0) (fun a ha => (hm a ha).2) (fun a ha => (hm a ha).1) (xw_nodup w 0 (by omega)) h20 fun i h1 h2 => ?_]
    · rfl
    · rw [← pz_xw i (by omega) w 0 (by omega), ← ev_pz _ (E_bd i (by omega)).2, h i h1 h2]

/-- The sum of two words, bit by bit. -/
def wx (a b : List Bool) : List Bool := List.zipWith (fun x y => x != y) a b
theorem wx_length (a b : List Bool) (h : a.length = b.length) : (wx a b).length = a.length := by simp [wx, h]
theorem wp_wx : ∀ a b, wp (wx a b) = lx (wp a) (wp b)
  | [], _ => by simp [wp, wx, lx]
  | _ :: _, [] => by simp [wp, wx, lx]
  | x :: a, y :: b => by
    show (x != y).toNat :: wp (wx a b) = (x.toNat ^^^ y.toNat) :: lx (wp a) (wp b)
    rw [wp_wx a b]
    cases x <;> cases y <;> rfl
theorem ev_wx (x : Nat) (hx : x < 128) (a b : List Bool) (h : a.length = b.length) : ev x (wp (wx a b)) = ev x (wp a) ^^^ ev x (wp b) := by
  rw [wp_wx, ev_lx x hx _ _ (wp_els a) (wp_els b) (by rw [wp_length, wp_length, h])]
theorem cw_wx (a b : List Bool) (h : a.length = b.length) (ha : Cw a) (hb : Cw b) : Cw (wx a b) := by
  intro i h1 h2
  rw [ev_wx _ (E_bd i (by omega)).2 a b h, ha i h1 h2, hb i h1 h2]; rfl
theorem wx_count_zero : ∀ a b : List Bool, a.length = b.length → (wx a b).count true = 0 → a = b
  | [], [], _, _ => rfl
  | [], _ :: _, h, _ => by simp at h
  | _ :: _, [], h, _ => by simp at h
  | x :: a, y :: b, h, hc => by
    have e : wx (x :: a) (y :: b) = (x != y) :: wx a b := rfl
    rw [e, List.count_cons] at hc
    have h2 := wx_count_zero a b (by simpa using h) (by omega)
    have h3 : (x != y) = false := by
      cases hh : (x != y) with
      | false => rfl
      | true => rw [hh] at hc; simp at hc
    have h4 : x = y := by simpa using h3
    rw [h2, h4]
theorem wx_self (a : List Bool) : (wx a a).count true = 0 := by
  induction a with
  | nil => rfl
  | cons x a ih =>
    have e : wx (x :: a) (x :: a) = (x != x) :: wx a a := rfl
    rw [e, List.count_cons, ih]; simp
/-- Two unlike codewords have a distance of 21 at least. -/
theorem cw_apart (a b : List Bool) (ha : a.length = 127) (hb : b.length = 127) (h : Cw a) (k : Cw b) (hne : a ≠ b) : 21 ≤ (wx a b).count true := by
  rcases cw_far (wx a b) (by rw [wx_length a b (by omega)]; omega) (cw_wx a b (by omega) h k) with h0 | h1
  · exact absurd (wx_count_zero a b (by omega) h0) hne
  · exact h1

theorem sq_xor (a b : Nat) (ha : a < 128) (hb : b < 128) : mul (a ^^^ b) (a ^^^ b) = mul a a ^^^ mul b b := by
  rw [mul_xor, xor_mul a b a ha hb ha, xor_mul a b b ha hb hb, mul_comm b a hb ha, x7]
theorem sq_mul (e x : Nat) (h1 : e < 128) (hx : x < 128) : mul (mul e x) (mul e x) = mul (mul e e) (mul x x) := by
  rw [← mul_assoc e x (mul e x) h1 hx (mul_lt _ _ h1 hx), mul_assoc x e x hx h1 hx, mul_comm x e hx h1, ← mul_assoc e x x h1 hx hx,
    mul_assoc e e _ h1 h1 (mul_lt _ _ hx hx)]
theorem ev_sq (x : Nat) (hx : x < 128) : ∀ w, ev (mul x x) (wp w) = mul (ev x (wp w)) (ev x (wp w))
  | [] => by
    have e : ∀ y, ev y (wp []) = 0 := fun _ => rfl
    rw [e, e, mul_zl 0 (by omega)]
  | b :: w => by
    have h1 := ev_lt x hx (wp w) (wp_els w)
    have h2 : mul b.toNat b.toNat = b.toNat := by
      cases b
      · exact mul_zl 0 (by omega)
      · exact mul_one 1 (by omega)
    rw [wp_cons, ev_cons, ev_cons, ev_sq x hx w, sq_xor _ _ (mul_lt _ _ h1 hx) (bool_lt b), h2, sq_mul _ x h1 hx]
/-- An element, squared so many times. -/
def sqn : Nat → Nat → Nat
  | 0, x => x
  | n + 1, x => mul (sqn n x) (sqn n x)
theorem sqn_lt (n x : Nat) (hx : x < 128) : sqn n x < 128 := by
  induction n with
  | zero => exact hx
  | succ n ih => exact mul_lt _ _ ih ih
theorem ev_sqn (x : Nat) (hx : x < 128) (w : List Bool) (h : ev x (wp w) = 0) (n : Nat) : ev (sqn n x) (wp w) = 0 := by
  induction n with
  | zero => exact h
  | succ n ih =>
    show ev (mul (sqn n x) (sqn n x)) (wp w) = 0
    rw [ev_sq _ (sqn_lt n x hx), ih, mul_zl 0 (by omega)]
/-- The generator's roots. -/
def isR (x : Nat) : Bool := (List.range 20).any fun i => (List.range 7).any fun j => sqn j (E (i + 1)) == x
theorem isR_many : (List.range 128).countP isR = 63 := by decide +kernel
theorem cw_isR (w : List Bool) (h : Cw w) (x : Nat) (hx : isR x = true) : ev x (wp w) = 0 := by
  unfold isR at hx
  rw [List.any_eq_true] at hx
  obtain ⟨i, hi, hx⟩ := hx
  rw [List.any_eq_true] at hx
  obtain ⟨j, _, hx⟩ := hx
  rw [List.mem_range] at hi
  have e : sqn j (E (i + 1)) = x := by simpa using hx
  rw [← e]
  exact ev_sqn _ (E_bd (i + 1) (by omega)).2 w (h (i + 1) (by omega) (by omega)) j
theorem cw_low (p : List Bool) (n : Nat) (hl : p.length = 63) (h : Cw (p ++ List.replicate n false)) : p = List.replicate 63 false := by
  have ew : wp (p ++ List.replicate n false) = wp p ++ List.replicate n 0 := by simp [wp]
  have hz : zs (wp p) = true := by
    cases hz : zs (wp p) with
    | true => rfl
    | false =>
      exfalso
      have h1 := roots_few 63 (wp p) (by rw [wp_length, hl]) (wp_els p) hz
      have h2 : (List.range 128).countP isR ≤ cn (wp p) 128 := by
        unfold cn
        apply List.countP_mono_left
        intro x hx hr
        rw [List.mem_range] at hx
        have := cw_isR _ h x hr
        rw [ew, ev_app0 x hx] at this
        simpa using this
      rw [isR_many] at h2
      omega
  rw [← hl]
  apply List.eq_replicate_of_mem
  intro b hb
  have : b.toNat ∈ wp p := List.mem_map.2 ⟨b, hb, rfl⟩
  unfold zs at hz
  rw [List.all_eq_true] at hz
  have := hz _ this
  cases b
  · rfl
  · simp at this
/-- Codewords that tell the same are the same. -/
theorem cw_one (a b u : List Bool) (hu : u.length = 64) (ha : a.length = 63) (hb : b.length = 63) (h : Cw (a ++ u)) (k : Cw (b ++ u)) : a = b := by
  have h1 := cw_wx _ _ (by simp [ha, hb]) h k
  have e : wx (a ++ u) (b ++ u) = wx a b ++ wx u u := by
    unfold wx; rw [List.zipWith_append (by omega)]
  have e2 : wx u u = List.replicate 64 false := by
    rw [← hu, ← wx_length u u rfl]
    apply List.eq_replicate_of_mem
    intro c hc
    cases c with
    | false => rfl
    | true => exact absurd (List.count_pos_iff.2 hc) (by rw [wx_self]; omega)
  rw [e, e2] at h1
  have h2 := cw_low (wx a b) 64 (by rw [wx_length a b (by omega), ha]) h1
  apply wx_count_zero a b (by omega)
  rw [h2]
  simp
end Go.Proofs.Ytbokecpcefcimaa.M
