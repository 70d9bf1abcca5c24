/-
  Contracts and plain facts that the laws share, part 4; each piece is headed by what it holds and its conditions.
-/
import Derived.Test.YtmfnjjkbfabonaaDoorQ03
import Derived.Test.YtmfnjjkbfabonaaDoorQ02
import Derived.Test.YtmfnjjkbfabonaaDoorQ01
import Derived.Deep.WholeRow
import Derived.DeepKeys

/- Plain facts on words of bits as polynomials over the field of 128 elements: what is 0 at the powers 1 to 20 of 2 has no bit, or 21 at least; what has no bit from 63 on, none at all. No program is named here. No conditions. -/
namespace Go.Proofs.YtmfnjjkbfabonaaDoor.M

theorem ev_cons (x c : Nat) (p : List Nat) : ev x (c :: p) = mul (ev x p) x ^^^ c := rfl
/-- A word's polynomial. -/
def wp (w : List Bool) : List Nat := w.map Bool.toNat
theorem bool_lt (b : Bool) : b.toNat < 128 := by cases b <;> decide
theorem wp_els (w : List Bool) : Els (wp w) := by
  intro c hc
  obtain ⟨b, _, rfl⟩ := List.mem_map.1 hc
  exact bool_lt b
theorem wp_length (w : List Bool) : (wp w).length = w.length := by simp [wp]
theorem wp_cons (b : Bool) (w : List Bool) : wp (b :: w) = b.toNat :: wp w := rfl
/-- The sum of two lists, number by number. -/
def lx (p q : List Nat) : List Nat := List.zipWith (fun a b => a ^^^ b) p q
theorem lx_cons (a b : Nat) (p q : List Nat) : lx (a :: p) (b :: q) = (a ^^^ b) :: lx p q := rfl
theorem lx_length (p q : List Nat) (h : p.length = q.length) : (lx p q).length = p.length := by
  simp [lx, h]
theorem lx_els : ∀ p q, Els p → Els q → Els (lx p q)
  | [], _, _, _ => fun c hc => by simp [lx] at hc
  | _ :: _, [], _, _ => fun c hc => by simp [lx] at hc
  | a :: p, b :: q, hp, hq => by
    intro c hc
    rw [lx_cons, List.mem_cons] at hc
    rcases hc with rfl | hc
    · exact xor_lt _ _ hp.head hq.head
    · exact lx_els p q hp.tail hq.tail c hc
theorem lx_getD : ∀ (p q : List Nat) (i : Nat), p.length = q.length → (lx p q).getD i 0 = p.getD i 0 ^^^ q.getD i 0
  | [], [], i, _ => by simp [lx]
  | [], _ :: _, _, h => by simp at h
  | _ :: _, [], _, h => by simp at h
  | a :: p, b :: q, 0, _ => rfl
  | a :: p, b :: q, i + 1, h => by
    rw [lx_cons]
    simp only [List.getD_cons_succ]
    exact lx_getD p q i (by simpa using h)
theorem x8 (a b c d : Nat) : (a ^^^ b) ^^^ (c ^^^ d) = (a ^^^ c) ^^^ (b ^^^ d) := by
  apply Nat.eq_of_testBit_eq; intro i
  simp only [Nat.testBit_xor]
  cases a.testBit i <;> cases b.testBit i <;> cases c.testBit i <;> cases d.testBit i <;> rfl
theorem ev_lx (x : Nat) (hx : x < 128) : ∀ p q, Els p → Els q → p.length = q.length → ev x (lx p q) = ev x p ^^^ ev x q
  | [], [], _, _, _ => (Nat.xor_self 0).symm
  | [], _ :: _, _, _, h => by simp at h
  | _ :: _, [], _, _, h => by simp at h
  | a :: p, b :: q, hp, hq, h => by
    show mul (ev x (lx p q)) x ^^^ (a ^^^ b) = (mul (ev x p) x ^^^ a) ^^^ (mul (ev x q) x ^^^ b)
    rw [ev_lx x hx p q hp.tail hq.tail (by simpa using h), xor_mul _ _ _ (ev_lt x hx p hp.tail) (ev_lt x hx q hq.tail) hx, x8]

/-- The sum of a list. -/
def xsum (l : List Nat) : Nat := l.foldr (fun a b => a ^^^ b) 0
theorem xsum_cons (a : Nat) (l : List Nat) : xsum (a :: l) = a ^^^ xsum l := rfl
theorem xsum_lt : ∀ l, Els l → xsum l < 128
  | [], _ => by show 0 < 128; omega
  | _ :: l, h => xor_lt _ _ h.head (xsum_lt l h.tail)
theorem xsum_zero (l : List Nat) (f : Nat → Nat) (h : ∀ a ∈ l, f a = 0) : xsum (l.map f) = 0 := by
  induction l with
  | nil => rfl
  | cons a l ih =>
    rw [List.map_cons, xsum_cons, h a (List.mem_cons_self ..), ih (fun b hb => h b (List.mem_cons_of_mem _ hb))]; rfl
theorem xsum_xor (l : List Nat) (f g : Nat → Nat) : xsum (l.map fun a => f a ^^^ g a) = xsum (l.map f) ^^^ xsum (l.map g) := by
  induction l with
  | nil => exact (Nat.xor_self 0).symm
  | cons a l ih =>
    rw [List.map_cons, List.map_cons, List.map_cons, xsum_cons, xsum_cons, xsum_cons, ih, x8]
theorem xsum_mul (c : Nat) (hc : c < 128) (l : List Nat) (f : Nat → Nat) : xsum (l.map fun a => mul c (f a)) = mul c (xsum (l.map f)) := by
  induction l with
  | nil => exact (mul_zr c hc).symm
  | cons a l ih =>
    rw [List.map_cons, List.map_cons, xsum_cons, xsum_cons, ih, mul_xor]
theorem xsum_congr (l : List Nat) (f g : Nat → Nat) (h : ∀ a ∈ l, f a = g a) : xsum (l.map f) = xsum (l.map g) := by
  rw [List.map_congr_left h]

/-- The sum of an element's powers, at a word's bits, the first of them the power k. -/
def pz (x : Nat) : List Bool → Nat → Nat
  | [], _ => 0
  | b :: w, k => (if b then pw x k else 0) ^^^ pz x w (k + 1)
theorem pz_ev (x : Nat) (hx : x < 128) : ∀ w k, mul (ev x (wp w)) (pw x k) = pz x w k
  | [], k => mul_zl _ (pw_lt x k hx)
  | b :: w, k => by
    have h1 := ev_lt x hx (wp w) (wp_els w)
    have h2 := pw_lt x k hx
    show mul (mul (ev x (wp w)) x ^^^ b.toNat) (pw x k) = (if b then pw x k else 0) ^^^ pz x w (k + 1)
    rw [← pz_ev x hx w (k + 1), xor_mul _ _ _ (mul_lt _ _ h1 hx) (bool_lt b) h2, ← mul_assoc _ _ _ h1 hx h2, mul_comm x _ hx h2, Nat.xor_comm]
    congr 1
    cases b
    · exact mul_zl _ h2
    · show mul 1 _ = _
      rw [mul_comm 1 _ (by omega) h2, mul_one _ h2]; rfl
theorem ev_pz (x : Nat) (hx : x < 128) (w : List Bool) : ev x (wp w) = pz x w 0 := by
  rw [← pz_ev x hx w 0]
  exact (mul_one _ (ev_lt x hx _ (wp_els w))).symm
/-- The elements that a word's bits stand for. -/
def xw : List Bool → Nat → List Nat
  | [], _ => []
  | b :: w, k => if b then E k :: xw w (k + 1) else xw w (k + 1)
theorem xw_length : ∀ w k, (xw w k).length = w.count true
  | [], _ => rfl
  | false :: w, k => by
    show (xw w (k + 1)).length = _
    rw [xw_length w, List.count_cons]; rfl
  | true :: w, k => by
    show (E k :: xw w (k + 1)).length = _
    rw [List.length_cons, xw_length w, List.count_cons]; rfl
theorem xw_mem : ∀ w k a, a ∈ xw w k → ∃ j, k ≤ j ∧ j < k + w.length ∧ a = E j
  | [], _, _, h => by simp [xw] at h
  | b :: w, k, a, h => by
    have ih := xw_mem w (k + 1) a
    rw [List.length_cons]
    cases b
    · obtain ⟨j, h1, h2, h3⟩ := ih h
      exact ⟨j, by omega, by omega, h3⟩
    · rcases List.mem_cons.1 h with rfl | h
      · exact ⟨k, by omega, by omega, rfl⟩
      · obtain ⟨j, h1, h2, h3⟩ := ih h
        exact ⟨j, by omega, by omega, h3⟩
theorem E_inj (i j : Nat) (hi : i < 127) (hj : j < 127) (h : E i = E j) : i = j := by
  rw [← Lg_E i hi, ← Lg_E j hj, h]
theorem xw_nodup : ∀ w k, k + w.length ≤ 127 → (xw w k).Nodup
  | [], _, _ => List.nodup_nil
  | b :: w, k, h => by
    rw [List.length_cons] at h
    have ih := xw_nodup w (k + 1) (by omega)
    cases b
    · exact ih
    · show (E k :: xw w (k + 1)).Nodup
      rw [List.nodup_cons]
      refine ⟨fun hm => ?_, ih⟩
      obtain ⟨j, h1, h2, h3⟩ := xw_mem w (k + 1) _ hm
      have := E_inj k j (by omega) (by omega) h3
      omega
theorem pw_turn (i k : Nat) (hi : i < 127) (hk : k < 127) : pw (E i) k = pw (E k) i := by
  have h1 := E_bd i hi
  have h2 := E_bd k hk
  rw [pw_pos _ _ h1.2 (by omega), pw_pos _ _ h2.2 (by omega), Lg_E i hi, Lg_E k hk, Nat.mul_comm]
theorem pz_xw (i : Nat) (hi : i < 127) : ∀ w k, k + w.length ≤ 127 → pz (E i) w k = xsum ((xw w k).map fun a => pw a i)
  | [], _, _ => rfl
  | b :: w, k, h => by
    rw [List.length_cons] at h
    have ih := pz_xw i hi w (k + 1) (by omega)
    cases b
    · show 0 ^^^ pz (E i) w (k + 1) = xsum ((xw w (k + 1)).map fun a => pw a i)
      rw [ih, Nat.zero_xor]
    · show pw (E i) k ^^^ pz (E i) w (k + 1) = pw (E k) i ^^^ xsum ((xw w (k + 1)).map fun a => pw a i)
      rw [ih, pw_turn i k hi (by omega)]

theorem sum_zero (xs : List Nat) (hxs : Els xs) : ∀ p d, Els p → (∀ i, d ≤ i → i < d + p.length → xsum (xs.map fun a => pw a i) = 0) → xsum (xs.map fun a => mul (ev a p) (pw a d)) = 0
  | [], d, _, _ => xsum_zero _ _ fun a ha => mul_zl _ (pw_lt a d (hxs a ha))
  | c :: p, d, h, hs => by
    rw [List.length_cons] at hs
    have ih := sum_zero xs hxs p (d + 1) h.tail fun i h1 h2 => hs i (by omega) (by omega)
    have e : xsum (xs.map fun a => mul (ev a (c :: p)) (pw a d)) = xsum (xs.map fun a => mul (ev a p) (pw a (d + 1)) ^^^ mul c (pw a d)) := by
      apply xsum_congr
      intro a ha
      have h0 := hxs a ha
      have h1 := ev_lt a h0 p h.tail
      have h2 := pw_lt a d h0
      show mul (mul (ev a p) a ^^^ c) (pw a d) = mul (ev a p) (mul (pw a d) a) ^^^ mul c (pw a d)
      rw [xor_mul _ _ _ (mul_lt _ _ h1 h0) h.head h2, ← mul_assoc _ _ _ h1 h0 h2, mul_comm a _ h0 h2]
    rw [e, xsum_xor, ih, xsum_mul c h.head, hs d (by omega) (by omega), mul_zr c h.head]; rfl

/-- A polynomial times x + a. -/
def tm (p : List Nat) (a : Nat) : List Nat := lx (0 :: p) (p.map (fun c => mul c a) ++ [0])
theorem tm_length (p : List Nat) (a : Nat) : (tm p a).length = p.length + 1 := by
  unfold tm; rw [lx_length _ _ (by simp)]; simp
theorem map_els (p : List Nat) (a : Nat) (ha : a < 128) (h : Els p) : Els (p.map fun c => mul c a) := by
  intro c hc
  obtain ⟨d, hd, rfl⟩ := List.mem_map.1 hc
  exact mul_lt d a (h d hd) ha
theorem app_els {p q : List Nat} (h : Els p) (k : Els q) : Els (p ++ q) := by
  intro c hc
  rcases List.mem_append.1 hc with hc | hc
  · exact h c hc
  · exact k c hc
theorem cons_els {a : Nat} {p : List Nat} (ha : a < 128) (h : Els p) : Els (a :: p) := by
  intro c hc
  rcases List.mem_cons.1 hc with rfl | hc
  · exact ha
  · exact h c hc
theorem zero_els (n : Nat) : Els (List.replicate n 0) := by
  intro c hc
  rw [List.eq_of_mem_replicate hc]; omega
theorem nil_els : Els [0] := zero_els 1
theorem ev_zeros (x : Nat) (hx : x < 128) : ∀ n, ev x (List.replicate n 0) = 0
  | 0 => rfl
  | n + 1 => by
    rw [List.replicate_succ]
    show mul (ev x (List.replicate n 0)) x ^^^ 0 = 0
    rw [ev_zeros x hx n, mul_zl x hx]; rfl
theorem ev_app0 (x : Nat) (hx : x < 128) (n : Nat) : ∀ p, ev x (p ++ List.replicate n 0) = ev x p
  | [] => ev_zeros x hx n
  | c :: p => by
    rw [List.cons_append, ev_cons, ev_cons, ev_app0 x hx n p]
theorem ev_map (x a : Nat) (hx : x < 128) (ha : a < 128) : ∀ p, Els p → ev x (p.map fun c => mul c a) = mul (ev x p) a
  | [], _ => (mul_zl a ha).symm
  | c :: p, h => by
    have h1 := ev_lt x hx p h.tail
    rw [List.map_cons, ev_cons, ev_cons, ev_map x a hx ha p h.tail, xor_mul _ _ _ (mul_lt _ _ h1 hx) h.head ha, ← mul_assoc _ _ _ h1 ha hx, ← mul_assoc _ _ _ h1 hx ha, mul_comm a x ha hx]
theorem tm_els (p : List Nat) (a : Nat) (ha : a < 128) (h : Els p) : Els (tm p a) :=
  lx_els _ _ (cons_els (by omega) h) (app_els (map_els p a ha h) nil_els)
theorem ev_tm (x a : Nat) (hx : x < 128) (ha : a < 128) (p : List Nat) (h : Els p) : ev x (tm p a) = mul (ev x p) (x ^^^ a) := by
  unfold tm
  rw [ev_lx x hx _ _ (cons_els (by omega) h) (app_els (map_els p a ha h) nil_els) (by simp)]
  have e : ev x ((p.map fun c => mul c a) ++ [0]) = mul (ev x p) a := (ev_app0 x hx 1 _).trans (ev_map x a hx ha p h)
  rw [e]
  show (mul (ev x p) x ^^^ 0) ^^^ _ = _
  rw [Nat.xor_zero, ← mul_xor]
/-- The product of all x + a. -/
def rp : List Nat → List Nat
  | [] => [1]
  | a :: l => tm (rp l) a
theorem rp_length : ∀ l, (rp l).length = l.length + 1
  | [] => rfl
  | a :: l => by
    show (tm (rp l) a).length = _
    rw [tm_length, rp_length l, List.length_cons]
theorem rp_els : ∀ l, Els l → Els (rp l)
  | [], _ => fun c hc => by simp [rp] at hc; omega
  | a :: l, h => tm_els _ a h.head (rp_els l h.tail)
theorem rp_in (x : Nat) (hx : x < 128) : ∀ l, Els l → x ∈ l → ev x (rp l) = 0
  | [], _, h => by simp at h
  | a :: l, he, h => by
    show ev x (tm (rp l) a) = 0
    have h1 := ev_lt x hx _ (rp_els l he.tail)
    rw [ev_tm x a hx he.head _ (rp_els l he.tail)]
    rcases List.mem_cons.1 h with rfl | h
    · rw [Nat.xor_self, mul_zr _ h1]
    · rw [rp_in x hx l he.tail h, mul_zl _ (xor_lt _ _ hx he.head)]
theorem xor_ne {a b : Nat} (h : a ≠ b) : a ^^^ b ≠ 0 := by
  intro e
  apply h
  have e3 : (a ^^^ b) ^^^ b = a := by rw [Nat.xor_assoc, Nat.xor_self, Nat.xor_zero]
  rw [e, Nat.zero_xor] at e3
  exact e3.symm
theorem rp_out (x : Nat) (hx : x < 128) : ∀ l, Els l → x ∉ l → ev x (rp l) ≠ 0
  | [], _, _ => by
    show mul 0 x ^^^ 1 ≠ 0
    rw [mul_zl x hx]; decide
  | a :: l, he, h => by
    show ev x (tm (rp l) a) ≠ 0
    rw [List.mem_cons, not_or] at h
    rw [ev_tm x a hx he.head _ (rp_els l he.tail)]
    exact mul_ne _ _ (ev_lt x hx _ (rp_els l he.tail)) (xor_lt _ _ hx he.head) (rp_out x hx l he.tail h.2) (xor_ne h.1)

theorem few_zero (xs : List Nat) (h : Els xs) (h0 : ∀ a ∈ xs, a ≠ 0) (hn : xs.Nodup) (hl : xs.length ≤ 20) (hs : ∀ i, 1 ≤ i → i ≤ 20 → xsum (xs.map fun a => pw a i) = 0) : xs = [] := by
  cases xs with
  | nil => rfl
  | cons a l =>
    exfalso
    rw [List.length_cons] at hl
    rw [List.nodup_cons] at hn
    have hp := rp_els l h.tail
    have hlen := rp_length l
    have e := sum_zero (a :: l) h (rp l) 1 hp fun i h1 h2 => hs i h1 (by omega)
    rw [List.map_cons, xsum_cons, xsum_zero l _ (fun b hb => by rw [rp_in b (h.tail b hb) l h.tail hb, mul_zl _ (pw_lt b 1 (h.tail b hb))]), Nat.xor_zero] at e
    have e1 : pw a 1 = a := by
      show mul 1 a = a
      rw [mul_comm 1 a (by omega) h.head, mul_one a h.head]
    rw [e1] at e
    exact mul_ne _ _ (ev_lt a h.head _ hp) h.head (rp_out a h.head l h.tail hn.1) (h0 a (List.mem_cons_self ..)) e

/-- A codeword: 0 at the powers 1 to 20 of 2. -/
def Cw (w : List Bool) : Prop := ∀ i, 1 ≤ i → i ≤ 20 → ev (E i) (wp w) = 0
theorem cw_far (w : List Bool) (hl : w.length ≤ 127) (h : Cw w) : w.count true = 0 ∨ 21 ≤ w.count true := by
  rcases Nat.lt_or_ge 20 (w.count true) with h20 | h20
  · exact Or.inr h20
  · left
    rw [← xw_length w 0] at h20 ⊢
    have hm : ∀ a ∈ xw w 0, a ≠ 0 ∧ a < 128 := by
      intro a ha
      obtain ⟨j, _, h2, rfl⟩ := xw_mem w 0 a ha
      have := E_bd j (by omega)
      omega
    rw [few_zero (xw w 0) (fun a ha => (hm a ha).2) (fun a ha => (hm a ha).1) (xw_nodup w 0 (by omega)) h20 fun i h1 h2 => ?_]
    · rfl
    · rw [← pz_xw i (by omega) w 0 (by omega), ← ev_pz _ (E_bd i (by omega)).2, h i h1 h2]

/-- The sum of two words, bit by bit. -/
def wx (a b : List Bool) : List Bool := List.zipWith (fun x y => x != y) a b
theorem wx_length (a b : List Bool) (h : a.length = b.length) : (wx a b).length = a.length := by simp [wx, h]
theorem wp_wx : ∀ a b, wp (wx a b) = lx (wp a) (wp b)
  | [], _ => by simp [wp, wx, lx]
  | _ :: _, [] => by simp [wp, wx, lx]
  | x :: a, y :: b => by
    show (x != y).toNat :: wp (wx a b) = (x.toNat ^^^ y.toNat) :: lx (wp a) (wp b)
    rw [wp_wx a b]
    cases x <;> cases y <;> rfl
theorem ev_wx (x : Nat) (hx : x < 128) (a b : List Bool) (h : a.length = b.length) : ev x (wp (wx a b)) = ev x (wp a) ^^^ ev x (wp b) := by
  rw [wp_wx, ev_lx x hx _ _ (wp_els a) (wp_els b) (by rw [wp_length, wp_length, h])]
theorem cw_wx (a b : List Bool) (h : a.length = b.length) (ha : Cw a) (hb : Cw b) : Cw (wx a b) := by
  intro i h1 h2
  rw [ev_wx _ (E_bd i (by omega)).2 a b h, ha i h1 h2, hb i h1 h2]; rfl
theorem wx_count_zero : ∀ a b : List Bool, a.length = b.length → (wx a b).count true = 0 → a = b
  | [], [], _, _ => rfl
  | [], _ :: _, h, _ => by simp at h
  | _ :: _, [], h, _ => by simp at h
  | x :: a, y :: b, h, hc => by
    have e : wx (x :: a) (y :: b) = (x != y) :: wx a b := rfl
    rw [e, List.count_cons] at hc
    have h2 := wx_count_zero a b (by simpa using h) (by omega)
    have h3 : (x != y) = false := by
      cases hh : (x != y) with
      | false => rfl
      | true => rw [hh] at hc; simp at hc
    have h4 : x = y := by simpa using h3
    rw [h2, h4]
theorem wx_self (a : List Bool) : (wx a a).count true = 0 := by
  induction a with
  | nil => rfl
  | cons x a ih =>
    have e : wx (x :: a) (x :: a) = (x != x) :: wx a a := rfl
    rw [e, List.count_cons, ih]; simp
/-- Two unlike codewords have a distance of 21 at least. -/
theorem cw_apart (a b : List Bool) (ha : a.length = 127) (hb : b.length = 127) (h : Cw a) (k : Cw b) (hne : a ≠ b) : 21 ≤ (wx a b).count true := by
  rcases cw_far (wx a b) (by rw [wx_length a b (by omega)]; omega) (cw_wx a b (by omega) h k) with h0 | h1
  · exact absurd (wx_count_zero a b (by omega) h0) hne
  · exact h1

theorem sq_xor (a b : Nat) (ha : a < 128) (hb : b < 128) : mul (a ^^^ b) (a ^^^ b) = mul a a ^^^ mul b b := by
  rw [mul_xor, xor_mul a b a ha hb ha, xor_mul a b b ha hb hb, mul_comm b a hb ha, x7]
theorem sq_mul (e x : Nat) (h1 : e < 128) (hx : x < 128) : mul (mul e x) (mul e x) = mul (mul e e) (mul x x) := by
  rw [← mul_assoc e x (mul e x) h1 hx (mul_lt _ _ h1 hx), mul_assoc x e x hx h1 hx, mul_comm x e hx h1, ← mul_assoc e x x h1 hx hx,
    mul_assoc e e _ h1 h1 (mul_lt _ _ hx hx)]
theorem ev_sq (x : Nat) (hx : x < 128) : ∀ w, ev (mul x x) (wp w) = mul (ev x (wp w)) (ev x (wp w))
  | [] => by
    have e : ∀ y, ev y (wp []) = 0 := fun _ => rfl
    rw [e, e, mul_zl 0 (by omega)]
  | b :: w => by
    have h1 := ev_lt x hx (wp w) (wp_els w)
    have h2 : mul b.toNat b.toNat = b.toNat := by
      cases b
      · exact mul_zl 0 (by omega)
      · exact mul_one 1 (by omega)
    rw [wp_cons, ev_cons, ev_cons, ev_sq x hx w, sq_xor _ _ (mul_lt _ _ h1 hx) (bool_lt b), h2, sq_mul _ x h1 hx]
/-- An element, squared so many times. -/
def sqn : Nat → Nat → Nat
  | 0, x => x
  | n + 1, x => mul (sqn n x) (sqn n x)
theorem sqn_lt (n x : Nat) (hx : x < 128) : sqn n x < 128 := by
  induction n with
  | zero => exact hx
  | succ n ih => exact mul_lt _ _ ih ih
theorem ev_sqn (x : Nat) (hx : x < 128) (w : List Bool) (h : ev x (wp w) = 0) (n : Nat) : ev (sqn n x) (wp w) = 0 := by
  induction n with
  | zero => exact h
  | succ n ih =>
    show ev (mul (sqn n x) (sqn n x)) (wp w) = 0
    rw [ev_sq _ (sqn_lt n x hx), ih, mul_zl 0 (by omega)]
/-- The generator's roots. -/
def isR (x : Nat) : Bool := (List.range 20).any fun i => (List.range 7).any fun j => sqn j (E (i + 1)) == x
theorem isR_many : (List.range 128).countP isR = 63 := by decide +kernel
theorem cw_isR (w : List Bool) (h : Cw w) (x : Nat) (hx : isR x = true) : ev x (wp w) = 0 := by
  unfold isR at hx
  rw [List.any_eq_true] at hx
  obtain ⟨i, hi, hx⟩ := hx
  rw [List.any_eq_true] at hx
  obtain ⟨j, _, hx⟩ := hx
  rw [List.mem_range] at hi
  have e : sqn j (E (i + 1)) = x := by simpa using hx
  rw [← e]
  exact ev_sqn _ (E_bd (i + 1) (by omega)).2 w (h (i + 1) (by omega) (by omega)) j
theorem cw_low (p : List Bool) (n : Nat) (hl : p.length = 63) (h : Cw (p ++ List.replicate n false)) : p = List.replicate 63 false := by
  have ew : wp (p ++ List.replicate n false) = wp p ++ List.replicate n 0 := by simp [wp]
  have hz : zs (wp p) = true := by
    cases hz : zs (wp p) with
    | true => rfl
    | false =>
      exfalso
      have h1 := roots_few 63 (wp p) (by rw [wp_length, hl]) (wp_els p) hz
      have h2 : (List.range 128).countP isR ≤ cn (wp p) 128 := by
        unfold cn
        apply List.countP_mono_left
        intro x hx hr
        rw [List.mem_range] at hx
        have := cw_isR _ h x hr
        rw [ew, ev_app0 x hx] at this
        simpa using this
      rw [isR_many] at h2
      omega
  rw [← hl]
  apply List.eq_replicate_of_mem
  intro b hb
  have : b.toNat ∈ wp p := List.mem_map.2 ⟨b, hb, rfl⟩
  unfold zs at hz
  rw [List.all_eq_true] at hz
  have := hz _ this
  cases b
  · rfl
  · simp at this
/-- Codewords that tell the same are the same. -/
theorem cw_one (a b u : List Bool) (hu : u.length = 64) (ha : a.length = 63) (hb : b.length = 63) (h : Cw (a ++ u)) (k : Cw (b ++ u)) : a = b := by
  have h1 := cw_wx _ _ (by simp [ha, hb]) h k
  have e : wx (a ++ u) (b ++ u) = wx a b ++ wx u u := by
    unfold wx; rw [List.zipWith_append (by omega)]
  have e2 : wx u u = List.replicate 64 false := by
    rw [← hu, ← wx_length u u rfl]
    apply List.eq_replicate_of_mem
    intro c hc
    cases c with
    | false => rfl
    | true => exact absurd (List.count_pos_iff.2 hc) (by rw [wx_self]; omega)
  rw [e, e2] at h1
  have h2 := cw_low (wx a b) 64 (by rw [wx_length a b (by omega), ha]) h1
  apply wx_count_zero a b (by omega)
  rw [h2]
  simp
end Go.Proofs.YtmfnjjkbfabonaaDoor.M

/- Plain facts on the generator of layer 5 and on rests by it: what is divided keeps its values at the generator's roots, so that bits behind their rest are a codeword. No program is named here. No conditions. -/
namespace Go.Proofs.YtmfnjjkbfabonaaDoor.M

/-- The generator's bits. -/
def genT : List Nat := [1, 0, 1, 0, 0, 1, 0, 0, 0, 0, 0, 0, 0, 0, 0, 1, 0, 0, 1, 1, 0, 1, 1, 1, 1, 1, 1, 0, 0, 0, 1, 1, 1, 1, 0, 1, 1, 0, 1, 0, 1, 0, 0, 0, 0, 0, 0, 1, 1, 1, 0, 1, 0, 1, 0, 1, 1, 0, 0, 0, 0, 1, 0, 1]
/-- The generator as it is made: an element's rounds. -/
def gin (met : List Bool) (p : List Nat) (a : Nat) : Nat → List Bool × List Nat × Nat
  | 0 => (met, p, a)
  | j + 1 =>
    let s := gin met p a j
    if s.1.getD s.2.2 false then (s.1, s.2.1, mul s.2.2 s.2.2) else (s.1.set s.2.2 true, tm s.2.1 s.2.2, mul s.2.2 s.2.2)
/-- .. and all elements' rounds. -/
def gout : Nat → List Bool × List Nat
  | 0 => (List.replicate 128 false, [1])
  | i + 1 =>
    let s := gout i
    let r := gin s.1 s.2 (pw 2 (i + 1)) 7
    (r.1, r.2.1)
theorem gout_gen : (gout 20).2 = genT := by decide +kernel
theorem gen_length : genT.length = 64 := by decide
theorem gen_bits (i : Nat) : genT.getD i 0 ≤ 1 := by
  rcases Nat.lt_or_ge i 64 with h | h
  · have := of_all (n := 64) (p := fun i => decide (genT.getD i 0 ≤ 1)) (by decide +kernel) i h
    simpa using this
  · rw [List.getD_eq_getElem?_getD, List.getElem?_eq_none (by rw [gen_length]; exact h)]
    show 0 ≤ 1; omega
theorem gen_top : genT.getD 63 0 = 1 := by decide
theorem gen_els : Els genT := by
  intro c hc
  obtain ⟨i, hi, rfl⟩ := List.mem_iff_getElem.1 hc
  have := gen_bits i
  rw [List.getD_eq_getElem?_getD, List.getElem?_eq_getElem hi] at this
  simp at this
  omega
theorem gen_root (i : Nat) (h1 : 1 ≤ i) (h2 : i ≤ 20) : ev (E i) genT = 0 := by
  have := of_all (n := 20) (p := fun i => ev (E (i + 1)) genT == 0) (by decide +kernel) (i - 1) (by omega)
  rw [show i - 1 + 1 = i by omega] at this
  simpa using this

theorem ev_set (x v : Nat) (hx : x < 128) (hv : v < 128) : ∀ (p : List Nat) (i : Nat), Els p → i < p.length → ev x (p.set i v) = ev x p ^^^ mul (p.getD i 0 ^^^ v) (pw x i)
  | [], _, _, h => by simp at h
  | c :: p, 0, h, _ => by
    have e : (c :: p).set 0 v = v :: p := rfl
    have e2 : (c :: p).getD 0 0 = c := rfl
    have e3 : pw x 0 = 1 := rfl
    rw [e, e2, e3, mul_one _ (xor_lt _ _ h.head hv), ev_cons, ev_cons, Nat.xor_assoc]
    congr 1
    rw [← Nat.xor_assoc, Nat.xor_self, Nat.zero_xor]
  | c :: p, i + 1, h, hi => by
    have e : (c :: p).set (i + 1) v = c :: p.set i v := rfl
    have e2 : (c :: p).getD (i + 1) 0 = p.getD i 0 := by simp
    have e3 : pw x (i + 1) = mul (pw x i) x := rfl
    have h1 := ev_lt x hx p h.tail
    have h2 := xor_lt _ _ (h.tail.getD i) hv
    have h3 := pw_lt x i hx
    rw [e, e2, e3, ev_cons, ev_cons, ev_set x v hx hv p i h.tail (by simpa using hi), xor_mul _ _ _ h1 (mul_lt _ _ h2 h3) hx, mul_assoc _ _ _ h2 h3 hx, x5]
/-- A list to which the first m numbers of another one are added from the place j on. -/
def addk (r : List Nat) (j : Nat) (g : List Nat) : Nat → List Nat
  | 0 => r
  | m + 1 => (addk r j g m).set (j + m) ((addk r j g m).getD (j + m) 0 ^^^ g.getD m 0)
theorem addk_length (r : List Nat) (j : Nat) (g : List Nat) (m : Nat) : (addk r j g m).length = r.length := by
  induction m with
  | zero => rfl
  | succ m ih => simp only [addk, List.length_set, ih]
theorem getD_set (l : List Nat) (i k v : Nat) (h : i < l.length) : (l.set i v).getD k 0 = if i = k then v else l.getD k 0 := by
  rw [List.getD_eq_getElem?_getD, List.getD_eq_getElem?_getD, List.getElem?_set]
  split
  · simp
  · rfl
theorem addk_getD (r : List Nat) (j : Nat) (g : List Nat) (m : Nat) (h : j + m ≤ r.length) (k : Nat) :
    (addk r j g m).getD k 0 = if j ≤ k ∧ k < j + m then r.getD k 0 ^^^ g.getD (k - j) 0 else r.getD k 0 := by
  induction m with
  | zero => rw [if_neg (by omega)]; rfl
  | succ m ih =>
    have ih := ih (by omega)
    show ((addk r j g m).set (j + m) ((addk r j g m).getD (j + m) 0 ^^^ g.getD m 0)).getD k 0 = _
    rw [getD_set _ _ _ _ (by rw [addk_length]; omega)]
    by_cases hk : j + m = k
    · subst hk
      rw [if_pos rfl, if_pos (by omega), ih, if_neg (by omega), show j + m - j = m by omega]
    · rw [if_neg hk, ih]
      by_cases h2 : j ≤ k ∧ k < j + m
      · rw [if_pos h2, if_pos (by omega)]
      · rw [if_neg h2, if_neg (by omega)]
theorem els_of (l : List Nat) (h : ∀ k, l.getD k 0 < 128) : Els l := by
  intro c hc
  obtain ⟨i, hi, rfl⟩ := List.mem_iff_getElem.1 hc
  have := h i
  rw [List.getD_eq_getElem?_getD, List.getElem?_eq_getElem hi] at this
  simpa using this
theorem addk_els (r : List Nat) (j : Nat) (g : List Nat) (m : Nat) (h : j + m ≤ r.length) (hr : Els r) (hg : Els g) : Els (addk r j g m) := by
  apply els_of
  intro k
  rw [addk_getD r j g m h]
  split
  · exact xor_lt _ _ (hr.getD _) (hg.getD _)
  · exact hr.getD _
theorem addk_ev (x : Nat) (hx : x < 128) (r : List Nat) (j : Nat) (g : List Nat) (hr : Els r) (hg : Els g) (m : Nat) (h : j + m ≤ r.length) :
    ev x (addk r j g m) = ev x r ^^^ mul (sm x g m) (pw x j) := by
  have hj := pw_lt x j hx
  induction m with
  | zero =>
    show ev x r = ev x r ^^^ mul 0 (pw x j)
    rw [mul_zl _ hj, Nat.xor_zero]
  | succ m ih =>
    have ih := ih (by omega)
    have h1 := addk_els r j g m (by omega) hr hg
    have h2 := (h1.getD (j + m))
    have h3 := hg.getD m
    have h4 := sm_lt x hx g hg m
    have h5 := pw_lt x m hx
    have e1 : addk r j g (m + 1) = (addk r j g m).set (j + m) ((addk r j g m).getD (j + m) 0 ^^^ g.getD m 0) := rfl
    have e2 : sm x g (m + 1) = sm x g m ^^^ mul (g.getD m 0) (pw x m) := rfl
    have e3 : ∀ n, pw x (j + n) = mul (pw x n) (pw x j) := by
      intro n
      induction n with
      | zero =>
        show pw x j = mul 1 (pw x j)
        rw [mul_comm 1 _ (by omega) hj, mul_one _ hj]
      | succ n ihn =>
        show mul (pw x (j + n)) x = mul (mul (pw x n) x) (pw x j)
        have hn := pw_lt x n hx
        rw [ihn, ← mul_assoc _ _ _ hn hj hx, mul_comm _ x hj hx, mul_assoc _ _ _ hn hx hj]
    rw [e1, ev_set x _ hx (xor_lt _ _ h2 h3) _ _ h1 (by rw [addk_length]; omega), ih, ← Nat.xor_assoc _ _ (g.getD m 0), Nat.xor_self, Nat.zero_xor, e2, e3,
      xor_mul _ _ _ h4 (mul_lt _ _ h3 h5) hj, mul_assoc _ _ _ h3 h5 hj, Nat.xor_assoc]
/-- At the generator's roots a list keeps its value when the generator is added anywhere. -/
theorem addk_gen (x : Nat) (hx : x < 128) (h0 : ev x genT = 0) (r : List Nat) (j : Nat) (hr : Els r) (h : j + 64 ≤ r.length) : ev x (addk r j genT 64) = ev x r := by
  rw [addk_ev x hx r j genT hr gen_els 64 h, ← gen_length, ← ev_sum x hx genT gen_els, h0, mul_zl _ (pw_lt x j hx), Nat.xor_zero]

/-- What is left of a list of 127 bits, its d highest ones gone. -/
def rd (r : List Nat) : Nat → List Nat
  | 0 => r
  | d + 1 => if (rd r d).getD (126 - d) 0 = 1 then addk (rd r d) (63 - d) genT 64 else rd r d
theorem rd_all (r : List Nat) (hl : r.length = 127) (hb : ∀ k, r.getD k 0 ≤ 1) (d : Nat) (hd : d ≤ 64) :
    (rd r d).length = 127 ∧ (∀ k, (rd r d).getD k 0 ≤ 1) ∧ (∀ k, 127 - d ≤ k → (rd r d).getD k 0 = 0) ∧ ∀ x, x < 128 → ev x genT = 0 → ev x (rd r d) = ev x r := by
  induction d with
  | zero =>
    refine ⟨hl, hb, fun k hk => ?_, fun _ _ _ => rfl⟩
    show r.getD k 0 = 0
    rw [List.getD_eq_getElem?_getD, List.getElem?_eq_none (by omega)]; rfl
  | succ d ih =>
    obtain ⟨h1, h2, h3, h4⟩ := ih (by omega)
    have hels : Els (rd r d) := els_of _ fun k => by have := h2 k; omega
    have e : rd r (d + 1) = if (rd r d).getD (126 - d) 0 = 1 then addk (rd r d) (63 - d) genT 64 else rd r d := rfl
    by_cases ht : (rd r d).getD (126 - d) 0 = 1
    · rw [e, if_pos ht]
      refine ⟨by rw [addk_length, h1], fun k => ?_, fun k hk => ?_, fun x hx h0 => ?_⟩
      · rw [addk_getD _ _ _ _ (by omega)]
        split
        · have e1 := h2 k
          have e2 := gen_bits (k - (63 - d))
          generalize (rd r d).getD k 0 = a at e1
          generalize genT.getD (k - (63 - d)) 0 = b at e2
          rcases Nat.le_one_iff_eq_zero_or_eq_one.1 e1 with rfl | rfl <;> rcases Nat.le_one_iff_eq_zero_or_eq_one.1 e2 with rfl | rfl <;> decide
        · exact h2 k
      · rw [addk_getD _ _ _ _ (by omega)]
        by_cases hk2 : k = 126 - d
        · subst hk2
          rw [if_pos (by omega), ht, show 126 - d - (63 - d) = 63 by omega, gen_top]; rfl
        · rw [if_neg (by omega)]
          exact h3 k (by omega)
      · rw [addk_gen x hx h0 _ _ hels (by omega), h4 x hx h0]
    · rw [e, if_neg ht]
      refine ⟨h1, h2, fun k hk => ?_, h4⟩
      by_cases hk2 : k = 126 - d
      · subst hk2
        have := h2 (126 - d)
        omega
      · exact h3 k (by omega)
/-- 64 bits as the list that is divided. -/
def r0 (u : List Bool) : List Nat := List.replicate 63 0 ++ wp u
theorem r0_length (u : List Bool) (hu : u.length = 64) : (r0 u).length = 127 := by simp [r0, wp, hu]
theorem r0_low (u : List Bool) (i : Nat) (h : i < 63) : (r0 u).getD i 0 = 0 := by
  unfold r0
  rw [List.getD_eq_getElem?_getD, List.getElem?_append_left (by simp; omega), List.getElem?_replicate, if_pos h]; rfl
theorem r0_high (u : List Bool) (i : Nat) : (r0 u).getD (63 + i) 0 = (u.getD i false).toNat := by
  unfold r0 wp
  rw [List.getD_eq_getElem?_getD, List.getElem?_append_right (by simp), List.getElem?_map, List.length_replicate, show 63 + i - 63 = i by omega, List.getD_eq_getElem?_getD]
  cases u[i]? <;> rfl
theorem r0_bits (u : List Bool) (k : Nat) : (r0 u).getD k 0 ≤ 1 := by
  rcases Nat.lt_or_ge k 63 with h | h
  · rw [r0_low u k h]; omega
  · rw [show k = 63 + (k - 63) by omega, r0_high]
    cases u.getD (k - 63) false <;> decide
theorem r0_els (u : List Bool) : Els (r0 u) := els_of _ fun k => by have := r0_bits u k; omega
/-- The low bits of what is left, ahead of the 64. -/
def lowU (R : List Nat) (u : List Bool) : List Bool := (R.take 63).map (fun c => c == 1) ++ u
theorem ext_getD (a b : List Nat) (h : a.length = b.length) (k : ∀ i, i < a.length → a.getD i 0 = b.getD i 0) : a = b := by
  apply List.ext_getElem h
  intro i h1 h2
  have := k i h1
  rw [List.getD_eq_getElem?_getD, List.getD_eq_getElem?_getD, List.getElem?_eq_getElem h1, List.getElem?_eq_getElem h2] at this
  simpa using this
theorem lowU_length (R : List Nat) (u : List Bool) (hR : R.length = 127) (hu : u.length = 64) : (lowU R u).length = 127 := by
  unfold lowU; rw [List.length_append, List.length_map, List.length_take, hR, hu]; rfl
theorem lowU_lx (R : List Nat) (u : List Bool) (hR : R.length = 127) (hu : u.length = 64) (h2 : ∀ k, R.getD k 0 ≤ 1) (h3 : ∀ k, 63 ≤ k → R.getD k 0 = 0) : wp (lowU R u) = lx R (r0 u) := by
  have hl : ((R.take 63).map (fun c => c == 1)).length = 63 := by rw [List.length_map, List.length_take, hR]; rfl
  apply ext_getD
  · rw [wp_length, lowU_length R u hR hu, lx_length _ _ (by rw [hR, r0_length u hu]), hR]
  · intro i hi
    rw [wp_length, lowU_length R u hR hu] at hi
    rw [lx_getD _ _ _ (by rw [hR, r0_length u hu])]
    by_cases hk : i < 63
    · have e2 : (wp (lowU R u)).getD i 0 = (R.getD i 0 == 1).toNat := by
        unfold lowU wp
        rw [List.map_append, List.getD_eq_getElem?_getD, List.getElem?_append_left (by rw [List.length_map, hl]; exact hk), List.getElem?_map, List.getElem?_map, List.getElem?_take, if_pos hk,
          List.getD_eq_getElem?_getD, List.getElem?_eq_getElem (by rw [hR]; omega)]
        rfl
      rw [r0_low u i hk, e2, Nat.xor_zero]
      rcases Nat.le_one_iff_eq_zero_or_eq_one.1 (h2 i) with h | h <;> rw [h] <;> rfl
    · have e2 : (wp (lowU R u)).getD i 0 = (u.getD (i - 63) false).toNat := by
        unfold lowU wp
        rw [List.map_append, List.getD_eq_getElem?_getD, List.getElem?_append_right (by rw [List.length_map, hl]; omega), List.length_map, hl, List.getElem?_map, List.getD_eq_getElem?_getD]
        cases u[i - 63]? <;> rfl
      rw [h3 i (by omega), e2, Nat.zero_xor]
      conv => rhs; rw [show i = 63 + (i - 63) by omega, r0_high]
/-- The codeword of 64 bits. -/
def enc (u : List Bool) : List Bool := lowU (rd (r0 u) 64) u
theorem enc_length (u : List Bool) (hu : u.length = 64) : (enc u).length = 127 :=
  lowU_length _ u (rd_all (r0 u) (r0_length u hu) (r0_bits u) 64 (by omega)).1 hu
theorem enc_cw (u : List Bool) (hu : u.length = 64) : Cw (enc u) := by
  obtain ⟨h1, h2, h3, h4⟩ := rd_all (r0 u) (r0_length u hu) (r0_bits u) 64 (by omega)
  have e : wp (enc u) = lx (rd (r0 u) 64) (r0 u) := lowU_lx _ u h1 hu h2 fun k hk => h3 k (by omega)
  intro i hi1 hi2
  have hE := (E_bd i (by omega)).2
  have hels : Els (rd (r0 u) 64) := els_of _ fun k => by have := h2 k; omega
  rw [e, ev_lx _ hE _ _ hels (r0_els u) (by rw [h1, r0_length u hu]), h4 _ hE (gen_root i hi1 hi2), Nat.xor_self]
/-- A codeword is that of its last 64 bits. -/
theorem cw_enc (a u : List Bool) (ha : a.length = 63) (hu : u.length = 64) (h : Cw (a ++ u)) : a ++ u = enc u := by
  have hR := (rd_all (r0 u) (r0_length u hu) (r0_bits u) 64 (by omega)).1
  have e := cw_one a _ u hu ha (by rw [List.length_map, List.length_take, hR]; rfl) h (enc_cw u hu)
  rw [e]; rfl
end Go.Proofs.YtmfnjjkbfabonaaDoor.M

/- Words of 127 bits by value: how they lie, that == tells whether they are the same, the zero values of layer 5's arrays. No conditions. -/
namespace Go.Proofs.YtmfnjjkbfabonaaDoor
open Go.RowKit
open M

def boolCells (l : List Bool) : Array Value := (l.map fun x => Value.bool x).toArray
theorem boolCells_size (l : List Bool) : (boolCells l).size = l.length := by simp [boolCells]
theorem boolCells_get (l : List Bool) (i : Nat) (h : i < l.length) : (boolCells l)[i]? = some (.bool (l.getD i false)) := by
  simp [boolCells, h]
theorem boolCells_set (l : List Bool) (i : Nat) (x : Bool) : (boolCells l).setIfInBounds i (.bool x) = boolCells (l.set i x) := by
  simp [boolCells, List.map_set]
theorem boolCells_one (l : List Bool) : (boolCells l).all (·.oneCell') = true := by
  simp [boolCells, Value.oneCell']
theorem natCells_one (l : List Nat) : (natCells l).all (·.oneCell') = true := by
  simp [natCells, Value.oneCell']
theorem word_at {w : World} {g : Nat} {l : List Bool} {t : TypeId} (h : Row w g t (boolCells l)) (i : Nat) (hi : i < l.length) : w.cell? ⟨g, i, none⟩ = some (.bool (l.getD i false)) :=
  (cell_of_row _ _ _ _ _ _ h).trans (boolCells_get l i hi)
theorem nat_at {w : World} {g : Nat} {l : List Nat} {t : TypeId} (h : Row w g t (natCells l)) (i : Nat) (hi : i < l.length) : w.cell? ⟨g, i, none⟩ = some (.int .i64 (l.getD i 0 : Nat)) :=
  (cell_of_row _ _ _ _ _ _ h).trans (natCells_get l i hi)
/-- No bit. -/
def w0 : List Bool := List.replicate 127 false
theorem w0_length : w0.length = 127 := by unfold w0; rw [List.length_replicate]
/-- None of the 128 met. -/
def m0 : List Bool := List.replicate 128 false
theorem m0_length : m0.length = 128 := by unfold m0; rw [List.length_replicate]
/-- 127 numbers, all 0. -/
def n0 : List Nat := List.replicate 127 0
theorem n0_length : n0.length = 127 := by unfold n0; rw [List.length_replicate]

theorem word_zero_info : (Tryd.prog.info? 40).map (fun i => (i.zero, i.size)) = some (some (.agg (boolCells w0)), 127) := by kernel_rfl
theorem arr_zero_info : (Tryd.prog.info? 26).map (fun i => (i.zero, i.size)) = some (some (.agg (boolCells w0)), 127) := by kernel_rfl
theorem met_zero_info : (Tryd.prog.info? 80).map (fun i => (i.zero, i.size)) = some (some (.agg (boolCells m0)), 128) := by kernel_rfl
theorem num_zero_info : (Tryd.prog.info? 30).map (fun i => (i.zero, i.size)) = some (some (.agg (natCells n0)), 127) := by kernel_rfl
theorem word_zero (w : World) : (zeroValue 40).run Tryd.prog w = .ok (.agg (boolCells w0)) w := (zero_of_info word_zero_info).1 w
theorem arr_zero (w : World) : (zeroValue 26).run Tryd.prog w = .ok (.agg (boolCells w0)) w := (zero_of_info arr_zero_info).1 w
theorem met_zero (w : World) : (zeroValue 80).run Tryd.prog w = .ok (.agg (boolCells m0)) w := (zero_of_info met_zero_info).1 w
theorem num_zero (w : World) : (zeroValue 30).run Tryd.prog w = .ok (.agg (natCells n0)) w := (zero_of_info num_zero_info).1 w
theorem word_size (l : List Bool) (h : l.length = 127) : (Tryd.prog.info? 40).map (·.size) = some (boolCells l).size := by
  rw [boolCells_size, h]; exact (zero_of_info word_zero_info).2
theorem arr_size (l : List Bool) (h : l.length = 127) : (Tryd.prog.info? 26).map (·.size) = some (boolCells l).size := by
  rw [boolCells_size, h]; exact (zero_of_info arr_zero_info).2

theorem store_word (w : World) (l : List Bool) (h : l.length = 127) : (storeCells ⟨w.heap.size, 0, none⟩ (boolCells l).toList 0).run Tryd.prog (w.alloc (.cells (boolCells w0) 40)) = .ok () (w.alloc (.cells (boolCells l) 40)) :=
  run_storeCells_new w _ _ _ (word_size l h) (by rw [boolCells_size, boolCells_size, h, w0_length]) (boolCells_one l)
theorem store_arr (w : World) (l : List Bool) (h : l.length = 127) : (storeCells ⟨w.heap.size, 0, none⟩ (boolCells l).toList 0).run Tryd.prog (w.alloc (.cells (boolCells w0) 26)) = .ok () (w.alloc (.cells (boolCells l) 26)) :=
  run_storeCells_new w _ _ _ (arr_size l h) (by rw [boolCells_size, boolCells_size, h, w0_length]) (boolCells_one l)
/-- A whole array is read in a statement that draws its order and changes nothing that was there. -/
theorem quiet_load_row {P : Program} {C : World → Prop} {a : Act} {o : Oper} {K : Act → Prop} (ty : TypeId) (x : Operand) (ho : o.op = .load ty x) (g : Nat) (hx : a.eval x = .pointer (some ⟨g, 0, none⟩)) (t : TypeId) (cs : Array Value) (fr : Nat × Nat) (d : TypeDesc)
    (hC : ∀ w, C w → w.heap[g]? = some (.cells cs t fr)) (hu : P.underlying ty = some d) (hd : (match d with | .struct _ | .array _ _ => true | _ => false) = true) (hi : (P.info? ty).map (·.size) = some cs.size)
    (hk : K (a.put o.dst (.agg cs))) : o.quiet P a C K :=
  ⟨_, fun w hw => by
    unfold Oper.quietAt execOp
    simp only [ho, hx, Instr.loadAt, Instr.sureAddr, Sem.run_bind, Sem.run_pure, Result.andThen_ok, run_loadVar_row w g t ty cs fr d (hC w hw) hu hd hi]
    exact ⟨rfl, rfl⟩, hk⟩
theorem plain_bool : Tryd.prog.plainKey 4 = true := by kernel_rfl
theorem cells_bool : Tryd.prog.cellsOf 4 = 1 := by kernel_rfl
theorem bools_items (d : Nat) (a b : List Bool) (w : World) (hl : a.length = b.length) : ∀ is : List Nat, (∀ i ∈ is, i < a.length) →
    (Op.eqItems (d + 1) 4 (Tryd.prog.cellsOf 4) (boolCells a) (boolCells b) is).run Tryd.prog w = .ok (is.all fun i => a.getD i false == b.getD i false) w
  | [], _ => by simp [Op.eqItems]
  | i :: is, h => by
    have ih := bools_items d a b w hl is fun j hj => h j (List.mem_cons_of_mem _ hj)
    have hi := h i (List.mem_cons_self ..)
    have p1 := run_part_plain w plain_bool (boolCells_get a i hi)
    have p2 := run_part_plain w plain_bool (boolCells_get b i (by omega))
    rw [cells_bool] at ih ⊢
    simp only [Op.eqItems, Sem.run_bind, Nat.mul_one, p1, p2, Result.andThen_ok, run_equalIn_bool w d 4 _ _ Tryd.underlying4, List.all_cons]
    cases a.getD i false == b.getD i false
    · simp
    · simpa using ih
theorem all_range (a b : List Bool) (h : a.length = b.length) (n : Nat) (hn : n = a.length) : ((List.range n).all fun i => a.getD i false == b.getD i false) = (a == b) := by
  subst hn
  rw [Bool.eq_iff_iff, List.all_eq_true, beq_iff_eq]
  constructor
  · intro k
    apply List.ext_getElem h
    intro i h1 h2
    have := k i (List.mem_range.2 h1)
    rw [List.getD_eq_getElem?_getD, List.getD_eq_getElem?_getD, List.getElem?_eq_getElem h1, List.getElem?_eq_getElem h2] at this
    simpa using this
  · rintro rfl i _
    simp
theorem word_info? : ∃ i, Tryd.prog.info? 4 = some i := by
  cases h : Tryd.prog.info? 4 with
  | some i => exact ⟨i, rfl⟩
  | none =>
    have : (Tryd.prog.info? 4).isSome = true := by kernel_rfl
    rw [h] at this; cases this
theorem word_eq (a b : List Bool) (ha : a.length = 127) (hb : b.length = 127) (w : World) :
    (Op.equalIn 10000 40 (.agg (boolCells a)) (.agg (boolCells b))).run Tryd.prog w = .ok (a == b) w := by
  obtain ⟨i, hi⟩ := word_info?
  rw [show (10000 : Nat) = 9998 + 1 + 1 from rfl, run_equalIn_array w (9998 + 1) _ _ Tryd.underlying40 hi, bools_items 9998 a b w (by omega) _ (fun j hj => by have := List.mem_range.1 hj; omega), all_range a b (by omega) 127 ha.symm]
end Go.Proofs.YtmfnjjkbfabonaaDoor

/- Plain facts on codewords of wide numbers: a number's bits, the number that a word tells, sums, turns and changed bits of codewords. No program is named here. No conditions. -/
namespace Go.Proofs.YtmfnjjkbfabonaaDoor.M

/-- A list by its places. -/
theorem tab_getD {α : Type} (d : α) (n : Nat) (f : Nat → α) (i : Nat) (h : i < n) : ((List.range n).map f).getD i d = f i := by
  simp [List.getD_eq_getElem?_getD, h]
theorem tab_set {α : Type} (n : Nat) (f f' : Nat → α) (j : Nat) (v : α) (hv : f' j = v) (h : ∀ i, i ≠ j → f' i = f i) : ((List.range n).map f).set j v = (List.range n).map f' := by
  apply List.ext_getElem (by simp)
  intro i h1 h2
  rw [List.getElem_set]
  by_cases e : j = i
  · subst e; simp [hv]
  · simp [e, h i (fun h => e h.symm)]
theorem tab_of {α : Type} (l : List α) (d : α) (n : Nat) (h : l.length = n) : (List.range n).map (fun i => l.getD i d) = l := by
  apply List.ext_getElem (by simp [h])
  intro i h1 h2
  simp [List.getD_eq_getElem?_getD, List.getElem?_eq_getElem h2]
theorem tab_congr {α : Type} (n : Nat) (f f' : Nat → α) (h : ∀ i, i < n → f i = f' i) : (List.range n).map f = (List.range n).map f' := by
  apply List.map_congr_left
  intro i hi
  exact h i (List.mem_range.1 hi)
theorem bext (a b : List Bool) (h : a.length = b.length) (k : ∀ i, i < a.length → a.getD i false = b.getD i false) : a = b := by
  apply List.ext_getElem h
  intro i h1 h2
  have := k i h1
  rw [List.getD_eq_getElem?_getD, List.getD_eq_getElem?_getD, List.getElem?_eq_getElem h1, List.getElem?_eq_getElem h2] at this
  simpa using this
theorem bset (l : List Bool) (i k : Nat) (v : Bool) (h : i < l.length) : (l.set i v).getD k false = if i = k then v else l.getD k false := by
  rw [List.getD_eq_getElem?_getD, List.getD_eq_getElem?_getD, List.getElem?_set]
  split
  · simp
  · rfl

/-- A wide number's bits. -/
def xb (x : BitVec 64) : List Bool := (List.range 64).map fun i => x.getLsbD i
theorem xb_length (x : BitVec 64) : (xb x).length = 64 := by unfold xb; rw [List.length_map, List.length_range]
theorem xb_getD (x : BitVec 64) (i : Nat) (h : i < 64) : (xb x).getD i false = x.getLsbD i := tab_getD _ _ _ _ h
theorem xb_inj (x y : BitVec 64) (h : xb x = xb y) : x = y := by
  apply BitVec.eq_of_getLsbD_eq
  intro i hi
  rw [← xb_getD x i hi, ← xb_getD y i hi, h]
/-- The number of some bits, as far as the loop has come. -/
def bo (f : Nat → Bool) : Nat → BitVec 64
  | 0 => 0#64
  | j + 1 => if f j then bo f j ||| (1#64 <<< j) else bo f j
theorem bo_bit (f : Nat → Bool) (i : Nat) (hi : i < 64) : ∀ j, (bo f j).getLsbD i = (decide (i < j) && f i)
  | 0 => by simp [bo]
  | j + 1 => by
    have ih := bo_bit f i hi j
    unfold bo
    by_cases e : i = j
    · subst e
      cases h : f i
      · rw [if_neg (by simp), ih, h]; simp
      · rw [if_pos rfl, BitVec.getLsbD_or, ih]
        simp [hi]
    · have h2 : ((1#64 <<< j).getLsbD i) = false := by
        simp only [BitVec.getLsbD_shiftLeft, BitVec.getLsbD_one]
        by_cases h : i < j
        · simp [h]
        · simp; omega
      have h3 : decide (i < j + 1) = decide (i < j) := by simp; omega
      cases h : f j
      · rw [if_neg (by simp), ih, h3]
      · rw [if_pos rfl, BitVec.getLsbD_or, ih, h2, h3, Bool.or_false]
/-- What a word tells. -/
def told (w : List Bool) : BitVec 64 := bo (fun i => w.getD (63 + i) false) 64
theorem xb_told (w : List Bool) (h : w.length = 127) : xb (told w) = w.drop 63 := by
  apply bext _ _ (by rw [xb_length, List.length_drop, h])
  intro i hi
  rw [xb_length] at hi
  rw [xb_getD _ i hi]
  unfold told
  rw [bo_bit _ i hi, List.getD_eq_getElem?_getD, List.getD_eq_getElem?_getD, List.getElem?_drop]
  simp [hi]
/-- The codeword of a wide number. -/
def cwd (x : BitVec 64) : List Bool := enc (xb x)
theorem cwd_length (x : BitVec 64) : (cwd x).length = 127 := enc_length _ (xb_length x)
theorem cwd_cw (x : BitVec 64) : Cw (cwd x) := enc_cw _ (xb_length x)
theorem lowU_drop (R : List Nat) (u : List Bool) (hR : R.length = 127) : (lowU R u).drop 63 = u := by
  unfold lowU
  rw [List.drop_append_of_le_length (by rw [List.length_map, List.length_take, hR]; exact Nat.le_refl _)]
  rw [List.drop_of_length_le (by rw [List.length_map, List.length_take, hR]; exact Nat.le_refl _)]; rfl
theorem cwd_drop (x : BitVec 64) : (cwd x).drop 63 = xb x :=
  lowU_drop _ _ (rd_all (r0 (xb x)) (r0_length _ (xb_length x)) (r0_bits _) 64 (by omega)).1
theorem told_cwd (x : BitVec 64) : told (cwd x) = x := xb_inj _ _ (by rw [xb_told _ (cwd_length x), cwd_drop])
/-- A codeword is the codeword of what it tells. -/
theorem cw_told (w : List Bool) (hl : w.length = 127) (h : Cw w) : w = cwd (told w) := by
  have e := cw_enc (w.take 63) (w.drop 63) (by rw [List.length_take, hl]; rfl) (by rw [List.length_drop, hl]) (by rw [List.take_append_drop]; exact h)
  rw [List.take_append_drop] at e
  unfold cwd
  rw [xb_told w hl]; exact e
theorem wx_getD (a b : List Bool) (i : Nat) (h : a.length = b.length) : (wx a b).getD i false = (a.getD i false != b.getD i false) := by
  rcases Nat.lt_or_ge i a.length with hi | hi
  · unfold wx
    rw [List.getD_eq_getElem?_getD, List.getD_eq_getElem?_getD, List.getD_eq_getElem?_getD, List.getElem?_zipWith, List.getElem?_eq_getElem hi, List.getElem?_eq_getElem (show i < b.length by omega)]
    rfl
  · rw [List.getD_eq_getElem?_getD, List.getD_eq_getElem?_getD, List.getD_eq_getElem?_getD, List.getElem?_eq_none (by rw [wx_length a b h]; exact hi), List.getElem?_eq_none hi, List.getElem?_eq_none (show b.length ≤ i by omega)]
    rfl
theorem told_wx (a b : List Bool) (ha : a.length = 127) (hb : b.length = 127) : told (wx a b) = told a ^^^ told b := by
  apply BitVec.eq_of_getLsbD_eq
  intro i hi
  unfold told
  rw [BitVec.getLsbD_xor, bo_bit _ i hi, bo_bit _ i hi, bo_bit _ i hi, wx_getD a b _ (by omega)]
  simp only [hi, decide_true, Bool.true_and]
theorem cwd_wx (x y : BitVec 64) : wx (cwd x) (cwd y) = cwd (x ^^^ y) := by
  have h : Cw (wx (cwd x) (cwd y)) := cw_wx _ _ (by rw [cwd_length, cwd_length]) (cwd_cw x) (cwd_cw y)
  rw [cw_told _ (by rw [wx_length _ _ (by rw [cwd_length, cwd_length]), cwd_length]) h, told_wx _ _ (cwd_length x) (cwd_length y), told_cwd, told_cwd]
theorem cwd_inj (x y : BitVec 64) (h : cwd x = cwd y) : x = y := by rw [← told_cwd x, h, told_cwd]

/-- Is a word a codeword? -/
def isCw (w : List Bool) : Bool := (List.range 20).all fun i => ev (E (i + 1)) (wp w) == 0
theorem isCw_iff (w : List Bool) : isCw w = true ↔ Cw w := by
  unfold isCw Cw
  rw [List.all_eq_true]
  constructor
  · intro h i h1 h2
    have := h (i - 1) (List.mem_range.2 (by omega))
    rw [show i - 1 + 1 = i by omega] at this
    simpa using this
  · intro h i hi
    have := h (i + 1) (by omega) (by have := List.mem_range.1 hi; omega)
    simpa using this
theorem isCw_cwd (x : BitVec 64) : isCw (cwd x) = true := (isCw_iff _).2 (cwd_cw x)

/-- How many bits are unlike. -/
def dst (a b : List Bool) : Nat := (wx a b).count true
/-- .. among the first j. -/
def dstN (a b : List Bool) (j : Nat) : Nat := ((wx a b).take j).count true
theorem dstN_succ (a b : List Bool) (j : Nat) (ha : a.length = b.length) (hj : j < a.length) : dstN a b (j + 1) = dstN a b j + (if (a.getD j false != b.getD j false) = true then 1 else 0) := by
  have hl : j < (wx a b).length := by rw [wx_length a b ha]; exact hj
  have e : (wx a b)[j] = (a.getD j false != b.getD j false) := by
    have := wx_getD a b j ha
    rw [List.getD_eq_getElem?_getD, List.getElem?_eq_getElem hl] at this
    exact this
  unfold dstN
  rw [List.take_succ_eq_append_getElem hl, List.count_append, e]
  cases (a.getD j false != b.getD j false) <;> simp
theorem dstN_all (a b : List Bool) (ha : a.length = b.length) : dstN a b a.length = dst a b := by
  unfold dstN dst
  rw [List.take_of_length_le (by rw [wx_length a b ha]; exact Nat.le_refl _)]
theorem dstN_le (a b : List Bool) (j : Nat) : dstN a b j ≤ j := by
  unfold dstN
  exact Nat.le_trans List.count_le_length (by rw [List.length_take]; exact Nat.min_le_left _ _)
theorem dst_comm (a b : List Bool) : dst a b = dst b a := by
  unfold dst wx
  rw [List.zipWith_comm]
  congr 2
  funext x y
  cases x <;> cases y <;> rfl
theorem dst_self (a : List Bool) : dst a a = 0 := wx_self a
theorem dst_cwd (x y : BitVec 64) (h : x ≠ y) : 21 ≤ dst (cwd x) (cwd y) ∧ dst (cwd x) (cwd y) ≤ 127 := by
  refine ⟨cw_apart _ _ (cwd_length x) (cwd_length y) (cwd_cw x) (cwd_cw y) fun e => h (cwd_inj _ _ e), ?_⟩
  rw [← dstN_all _ _ (by rw [cwd_length, cwd_length]), cwd_length]
  exact dstN_le _ _ _

/-- A bit changed. -/
def flip (l : List Bool) (i : Nat) : List Bool := l.set i (!(l.getD i false))
theorem flip_length (l : List Bool) (i : Nat) : (flip l i).length = l.length := by unfold flip; rw [List.length_set]
def flips (l : List Bool) : List Nat → List Bool
  | [] => l
  | i :: is => flips (flip l i) is
theorem flips_length (l : List Bool) (is : List Nat) : (flips l is).length = l.length := by
  induction is generalizing l with
  | nil => rfl
  | cons i is ih => show (flips (flip l i) is).length = _; rw [ih, flip_length]
theorem flips_snoc (l : List Bool) (is : List Nat) (i : Nat) : flips l (is ++ [i]) = flip (flips l is) i := by
  induction is generalizing l with
  | nil => rfl
  | cons k is ih => exact ih (flip l k)
theorem wx_set : ∀ (a b : List Bool) (i : Nat) (v : Bool), a.length = b.length → (wx (a.set i v) b).count true ≤ (wx a b).count true + 1
  | [], _, _, _, _ => by simp [wx]
  | _ :: _, [], _, _, h => by simp at h
  | x :: a, y :: b, 0, v, _ => by
    show ((v != y) :: wx a b).count true ≤ ((x != y) :: wx a b).count true + 1
    rw [List.count_cons, List.count_cons]
    cases (v != y) <;> cases (x != y) <;> simp <;> omega
  | x :: a, y :: b, i + 1, v, h => by
    have ih := wx_set a b i v (by simpa using h)
    show ((x != y) :: wx (a.set i v) b).count true ≤ ((x != y) :: wx a b).count true + 1
    rw [List.count_cons, List.count_cons]
    omega
theorem dst_flip (a b : List Bool) (i : Nat) (h : a.length = b.length) : dst (flip a i) b ≤ dst a b + 1 := wx_set a b i _ h
theorem dst_flips (a b : List Bool) (is : List Nat) (h : a.length = b.length) : dst (flips a is) b ≤ dst a b + is.length := by
  induction is generalizing a with
  | nil => exact Nat.le_refl _
  | cons i is ih =>
    have h1 := ih (flip a i) (by rw [flip_length]; exact h)
    have h2 := dst_flip a b i h
    show dst (flips (flip a i) is) b ≤ _
    rw [List.length_cons]; omega
theorem told_law (x : BitVec 64) (is : List Nat) (h : is.length ≤ 20) : isCw (flips (cwd x) is) = (flips (cwd x) is == cwd x) := by
  have hl : (flips (cwd x) is).length = 127 := by rw [flips_length, cwd_length]
  rw [Bool.eq_iff_iff, isCw_iff, beq_iff_eq]
  constructor
  · intro hc
    by_cases e : flips (cwd x) is = cwd x
    · exact e
    · have h1 := cw_apart _ _ hl (cwd_length x) hc (cwd_cw x) e
      have h2 := dst_flips (cwd x) (cwd x) is rfl
      rw [dst_self] at h2
      unfold dst at h2
      omega
  · intro e
    rw [e]; exact cwd_cw x

/-- A word turned by one. -/
def turn1 (l : List Bool) : List Bool := l.getLastD false :: l.dropLast
theorem E_127 (i : Nat) (hi : i < 127) : pw (E i) 127 = 1 := by
  have h := E_bd i hi
  rw [pw_pos _ _ h.2 (by omega), Nat.mul_mod_left]; exact E_zero
theorem ev_snoc (x : Nat) (hx : x < 128) (c : Nat) (hc : c < 128) : ∀ p, Els p → ev x (p ++ [c]) = ev x p ^^^ mul c (pw x p.length)
  | [], _ => by
    show mul 0 x ^^^ c = 0 ^^^ mul c 1
    rw [mul_zl x hx, mul_one c hc]
  | d :: p, h => by
    have h1 := ev_lt x hx p h.tail
    have h2 := pw_lt x p.length hx
    rw [List.cons_append, ev_cons, ev_cons, ev_snoc x hx c hc p h.tail, List.length_cons, xor_mul _ _ _ h1 (mul_lt _ _ hc h2) hx, x5]
    have e : mul (mul c (pw x p.length)) x = mul c (pw x (p.length + 1)) := (mul_assoc _ _ _ hc h2 hx).symm
    rw [e]
theorem ev_turn (i : Nat) (hi : i < 127) (l : List Bool) (hl : l.length = 127) : ev (E i) (wp (turn1 l)) = mul (ev (E i) (wp l)) (E i) := by
  have hE := (E_bd i hi).2
  obtain ⟨p, c, rfl⟩ : ∃ p c, l = p ++ [c] := ⟨l.dropLast, l.getLast (by intro h; rw [h] at hl; simp at hl), (List.dropLast_concat_getLast _).symm⟩
  have hp : p.length = 126 := by simpa using hl
  have e1 : turn1 (p ++ [c]) = c :: p := by unfold turn1; simp
  have e2 : wp (p ++ [c]) = wp p ++ [c.toNat] := by simp [wp]
  have h1 := ev_lt (E i) hE _ (wp_els p)
  have h2 := pw_lt (E i) 126 hE
  have h127 := E_127 i hi
  rw [e1, wp_cons, ev_cons, e2, ev_snoc _ hE _ (bool_lt c) _ (wp_els p), wp_length, hp, xor_mul _ _ _ h1 (mul_lt _ _ (bool_lt c) h2) hE, ← mul_assoc _ _ _ (bool_lt c) h2 hE]
  rw [show mul (pw (E i) 126) (E i) = 1 from h127, mul_one _ (bool_lt c)]
theorem turn1_length (l : List Bool) (h : 0 < l.length) : (turn1 l).length = l.length := by
  unfold turn1; rw [List.length_cons, List.length_dropLast]; omega
def turns (l : List Bool) : Nat → List Bool
  | 0 => l
  | r + 1 => turn1 (turns l r)
theorem turns_length (l : List Bool) (h : l.length = 127) (r : Nat) : (turns l r).length = 127 := by
  induction r with
  | zero => exact h
  | succ r ih => show (turn1 _).length = _; rw [turn1_length _ (by omega), ih]
theorem turns_cw (l : List Bool) (hl : l.length = 127) (h : Cw l) (r : Nat) : Cw (turns l r) := by
  induction r with
  | zero => exact h
  | succ r ih =>
    intro i h1 h2
    show ev (E i) (wp (turn1 (turns l r))) = 0
    rw [ev_turn i (by omega) _ (turns_length l hl r), ih i h1 h2, mul_zl _ (E_bd i (by omega)).2]
theorem turn1_getD (l : List Bool) (hl : l.length = 127) (i : Nat) (hi : i < 127) : (turn1 l).getD ((i + 1) % 127) false = l.getD i false := by
  obtain ⟨p, c, rfl⟩ : ∃ p c, l = p ++ [c] := ⟨l.dropLast, l.getLast (by intro h; rw [h] at hl; simp at hl), (List.dropLast_concat_getLast _).symm⟩
  have hp : p.length = 126 := by simpa using hl
  have e1 : turn1 (p ++ [c]) = c :: p := by unfold turn1; simp
  rw [e1]
  by_cases h : i = 126
  · subst h
    show (c :: p).getD 0 false = _
    rw [List.getD_eq_getElem?_getD, List.getD_eq_getElem?_getD, List.getElem?_append_right (by omega), hp]
    rfl
  · rw [Nat.mod_eq_of_lt (by omega), List.getD_cons_succ, List.getD_eq_getElem?_getD, List.getD_eq_getElem?_getD, List.getElem?_append_left (by omega)]
theorem turns_getD (l : List Bool) (hl : l.length = 127) (r i : Nat) (hi : i < 127) : (turns l r).getD ((i + r) % 127) false = l.getD i false := by
  induction r with
  | zero => rw [Nat.add_zero, Nat.mod_eq_of_lt hi]; rfl
  | succ r ih =>
    have := turn1_getD (turns l r) (turns_length l hl r) ((i + r) % 127) (Nat.mod_lt _ (by omega))
    rw [← ih, ← this]
    show (turn1 (turns l r)).getD _ _ = _
    congr 1
    omega
end Go.Proofs.YtmfnjjkbfabonaaDoor.M
