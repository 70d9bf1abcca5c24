/-
  Contracts and plain facts that the laws share, part 3; each piece is headed by what it holds and its conditions.
-/
import Derived.Test.YtmfnjjkbfabonaaDoorQ02
import Derived.Test.YtmfnjjkbfabonaaDoorQ01

/- Plain facts on the field of 128 elements: the laws of products, powers, polynomials and their roots. No program is named here. No conditions. -/
namespace Go.Proofs.YtmfnjjkbfabonaaDoor.M

theorem mul_zl (b : Nat) (hb : b < 128) : mul 0 b = 0 := by rw [mul_tab _ _ (by omega) hb, if_pos (Or.inl rfl)]
theorem mul_zr (a : Nat) (ha : a < 128) : mul a 0 = 0 := by rw [mul_tab _ _ ha (by omega), if_pos (Or.inr rfl)]
theorem mul_pos (a b : Nat) (ha : a < 128) (hb : b < 128) (h0 : a ≠ 0) (h1 : b ≠ 0) : mul a b = E ((Lg a + Lg b) % 127) := by
  rw [mul_tab a b ha hb, if_neg (by omega)]
theorem mul_lt (a b : Nat) (ha : a < 128) (hb : b < 128) : mul a b < 128 := by
  rw [mul_tab a b ha hb]
  split
  · omega
  · exact (E_bd _ (Nat.mod_lt _ (by omega))).2
theorem mul_ne (a b : Nat) (ha : a < 128) (hb : b < 128) (h0 : a ≠ 0) (h1 : b ≠ 0) : mul a b ≠ 0 := by
  rw [mul_pos a b ha hb h0 h1]
  have := (E_bd ((Lg a + Lg b) % 127) (Nat.mod_lt _ (by omega))).1
  omega
theorem mul_comm (a b : Nat) (ha : a < 128) (hb : b < 128) : mul a b = mul b a := by
  by_cases h0 : a = 0
  · subst h0; rw [mul_zl b hb, mul_zr b hb]
  · by_cases h1 : b = 0
    · subst h1; rw [mul_zl a ha, mul_zr a ha]
    · rw [mul_pos a b ha hb h0 h1, mul_pos b a hb ha h1 h0, Nat.add_comm]
theorem Lg_mul (a b : Nat) (ha : a < 128) (hb : b < 128) (h0 : a ≠ 0) (h1 : b ≠ 0) : Lg (mul a b) = (Lg a + Lg b) % 127 := by
  rw [mul_pos a b ha hb h0 h1, Lg_E _ (Nat.mod_lt _ (by omega))]
theorem mul_assoc (a b c : Nat) (ha : a < 128) (hb : b < 128) (hc : c < 128) : mul a (mul b c) = mul (mul a b) c := by
  by_cases h0 : a = 0
  · subst h0; rw [mul_zl _ (mul_lt b c hb hc), mul_zl b hb, mul_zl c hc]
  · by_cases h1 : b = 0
    · subst h1; rw [mul_zl c hc, mul_zr a ha, mul_zl c hc]
    · by_cases h2 : c = 0
      · subst h2; rw [mul_zr b hb, mul_zr a ha, mul_zr _ (mul_lt a b ha hb)]
      · rw [mul_pos a _ ha (mul_lt b c hb hc) h0 (mul_ne b c hb hc h1 h2), mul_pos _ c (mul_lt a b ha hb) hc (mul_ne a b ha hb h0 h1) h2,
          Lg_mul a b ha hb h0 h1, Lg_mul b c hb hc h1 h2]
        congr 1; omega
theorem Lg_one : Lg 1 = 0 := by decide
theorem E_zero : E 0 = 1 := by decide
theorem mul_one (a : Nat) (ha : a < 128) : mul a 1 = a := by
  by_cases h0 : a = 0
  · subst h0; exact mul_zl 1 (by omega)
  · rw [mul_pos a 1 ha (by omega) h0 (by omega), Lg_one, Nat.add_zero, Nat.mod_eq_of_lt (Lg_le a ha), E_Lg a ha h0]
theorem xor_lt (a b : Nat) (ha : a < 128) (hb : b < 128) : a ^^^ b < 128 := Nat.xor_lt_two_pow (n := 7) ha hb
theorem x4 (o p a : Nat) : (o ^^^ a) ^^^ (p ^^^ a) = o ^^^ p := by
  apply Nat.eq_of_testBit_eq; intro i
  simp only [Nat.testBit_xor]
  cases o.testBit i <;> cases p.testBit i <;> cases a.testBit i <;> rfl
theorem x5 (o p a : Nat) : (o ^^^ a) ^^^ p = (o ^^^ p) ^^^ a := by
  apply Nat.eq_of_testBit_eq; intro i
  simp only [Nat.testBit_xor]
  cases o.testBit i <;> cases p.testBit i <;> cases a.testBit i <;> rfl
theorem pm_xor (k : Nat) : ∀ a b c o p : Nat, pm k a (b ^^^ c) (o ^^^ p) = pm k a b o ^^^ pm k a c p := by
  induction k with
  | zero => intro a b c o p; rfl
  | succ k ih =>
    intro a b c o p
    simp only [pm]
    rw [← ih, Nat.xor_div_two]
    congr 1
    have h1 : (b ^^^ c) % 2 = 1 ↔ ¬ (b % 2 = 1 ↔ c % 2 = 1) := Nat.xor_mod_two_eq_one
    by_cases hb : b % 2 = 1 <;> by_cases hc : c % 2 = 1
    · rw [if_neg (by rw [h1]; simp [hb, hc]), if_pos hb, if_pos hc, x4]
    · rw [if_pos (by rw [h1]; simp [hb, hc]), if_pos hb, if_neg hc, x5]
    · rw [if_pos (by rw [h1]; simp [hb, hc]), if_neg hb, if_pos hc, Nat.xor_assoc]
    · rw [if_neg (by rw [h1]; simp [hb, hc]), if_neg hb, if_neg hc]
theorem mul_xor (a b c : Nat) : mul a (b ^^^ c) = mul a b ^^^ mul a c := by
  have := pm_xor 7 a b c 0 0
  exact this
theorem xor_mul (a b c : Nat) (ha : a < 128) (hb : b < 128) (hc : c < 128) : mul (a ^^^ b) c = mul a c ^^^ mul b c := by
  rw [mul_comm _ c (xor_lt a b ha hb) hc, mul_xor, mul_comm c a hc ha, mul_comm c b hc hb]

/-- The inverse. -/
def inv (a : Nat) : Nat := if a = 0 then 0 else E ((127 - Lg a) % 127)
theorem inv_lt (a : Nat) : inv a < 128 := by
  unfold inv
  split
  · omega
  · exact (E_bd _ (Nat.mod_lt _ (by omega))).2
theorem inv_ne (a : Nat) (h : a ≠ 0) : inv a ≠ 0 := by
  unfold inv
  rw [if_neg h]
  have := (E_bd ((127 - Lg a) % 127) (Nat.mod_lt _ (by omega))).1
  omega
theorem mul_inv (a : Nat) (ha : a < 128) (h0 : a ≠ 0) : mul a (inv a) = 1 := by
  rw [mul_pos a _ ha (inv_lt a) h0 (inv_ne a h0)]
  unfold inv
  rw [if_neg h0, Lg_E _ (Nat.mod_lt _ (by omega))]
  have := Lg_le a ha
  rw [show (Lg a + (127 - Lg a) % 127) % 127 = 0 by omega, E_zero]
theorem inv_one (a b : Nat) (ha : a < 128) (hb : b < 128) (h : mul a b = 1) : b = inv a := by
  have h0 : a ≠ 0 := by
    intro e; subst e; rw [mul_zl b hb] at h; omega
  have e : mul b (mul a (inv a)) = b := by rw [mul_inv a ha h0, mul_one b hb]
  rw [mul_assoc b a _ hb ha (inv_lt a), mul_comm b a hb ha, h, mul_comm 1 _ (by omega) (inv_lt a), mul_one _ (inv_lt a)] at e
  exact e.symm

theorem pw_lt (a k : Nat) (ha : a < 128) : pw a k < 128 := by
  induction k with
  | zero => show 1 < 128; omega
  | succ k ih => exact mul_lt _ _ ih ha
theorem pw_zero (k : Nat) : pw 0 (k + 1) = 0 := mul_zr _ (pw_lt 0 k (by omega))
theorem pw_pos (a k : Nat) (ha : a < 128) (h0 : a ≠ 0) : pw a k = E ((Lg a * k) % 127) := by
  induction k with
  | zero => exact E_zero.symm
  | succ k ih =>
    have h1 : pw a k ≠ 0 := by
      rw [ih]; have := (E_bd ((Lg a * k) % 127) (Nat.mod_lt _ (by omega))).1; omega
    show mul (pw a k) a = _
    rw [mul_pos _ a (pw_lt a k ha) ha h1 h0, ih, Lg_E _ (Nat.mod_lt _ (by omega)), Nat.mul_succ]
    congr 1; omega
theorem Lg_two : Lg 2 = 1 := by decide
theorem pw_two (k : Nat) (h : k < 127) : pw 2 k = E k := by
  rw [pw_pos 2 k (by omega) (by omega), Lg_two, Nat.one_mul, Nat.mod_eq_of_lt h]

/-- A number's rest by 128, by 127. -/
def el (x : Int) : Nat := (x % 128).toNat
def re (x : Int) : Nat := (x % 127).toNat
theorem el_lt (x : Int) : el x < 128 := by unfold el; omega
theorem re_lt (x : Int) : re x < 127 := by unfold re; omega
theorem el_int (x : Int) : ((el x : Nat) : Int) = x % 128 := by unfold el; omega
theorem re_int (x : Int) : ((re x : Nat) : Int) = x % 127 := by unfold re; omega
theorem el_nat (a : Nat) (h : a < 128) : el (a : Int) = a := by unfold el; omega
theorem re_nat (a : Nat) (h : a < 127) : re (a : Int) = a := by unfold re; omega

/-- Any power. -/
def powI (a : Nat) (n : Int) : Nat := if n = 0 then 1 else if a = 0 then 0 else E ((Lg a * re n) % 127)
theorem powI_lt (a : Nat) (n : Int) : powI a n < 128 := by
  unfold powI
  split
  · omega
  · split
    · omega
    · exact (E_bd _ (Nat.mod_lt _ (by omega))).2
theorem re_mul (l : Nat) (n : Int) : (l * re n) % 127 = re ((l : Int) * n) := by
  have e : n = 127 * (n / 127) + (re n : Int) := by rw [re_int]; omega
  obtain ⟨u, hu⟩ : ∃ u, (l : Int) * (n / 127) = u := ⟨_, rfl⟩
  obtain ⟨v, hv⟩ : ∃ v : Nat, l * re n = v := ⟨_, rfl⟩
  have e2 : (l : Int) * n = 127 * u + (v : Int) := by
    rw [← hu, ← hv]
    conv => lhs; rw [e]
    rw [Int.mul_add, Int.mul_left_comm, Int.natCast_mul]
  rw [e2, hv]
  unfold re; omega
theorem powI_pos (a : Nat) (n : Int) (h0 : a ≠ 0) : powI a n = E (re ((Lg a : Int) * n)) := by
  unfold powI
  by_cases hn : n = 0
  · subst hn; rw [if_pos rfl, Int.mul_zero]; exact E_zero.symm
  · rw [if_neg hn, if_neg h0, re_mul]
theorem powI_nat (a k : Nat) (ha : a < 128) : powI a (k : Int) = pw a k := by
  by_cases h0 : a = 0
  · subst h0
    cases k with
    | zero => rfl
    | succ k => rw [pw_zero]; unfold powI; rw [if_neg (by omega), if_pos rfl]
  · rw [powI_pos a _ h0, pw_pos a k ha h0]
    congr 1 <;> (unfold re; omega)
theorem E_mul (x y : Nat) (hx : x < 127) (hy : y < 127) : mul (E x) (E y) = E ((x + y) % 127) := by
  have h1 := E_bd x hx
  have h2 := E_bd y hy
  rw [mul_pos _ _ h1.2 h2.2 (by omega) (by omega), Lg_E x hx, Lg_E y hy]
theorem powI_add (a : Nat) (n m : Int) (h0 : a ≠ 0) : mul (powI a n) (powI a m) = powI a (n + m) := by
  rw [powI_pos a n h0, powI_pos a m h0, powI_pos a _ h0, E_mul _ _ (re_lt _) (re_lt _), Int.mul_add]
  congr 1
  unfold re; omega
theorem powI_neg (a : Nat) (n : Int) (h0 : a ≠ 0) : mul (powI a n) (powI a (-n)) = 1 := by
  rw [powI_add a n _ h0, show n + -n = 0 by omega]; rfl
theorem powI_two (n : Int) : powI 2 n = E (re n) := by
  rw [powI_pos 2 n (by omega), Lg_two, show ((1 : Nat) : Int) * n = n by omega]
theorem powI_nil (n : Int) (h : n ≠ 0) : powI 0 n = 0 := by unfold powI; rw [if_neg h, if_pos rfl]
/-- What a polynomial is at an element. -/
def ev (x : Nat) : List Nat → Nat
  | [] => 0
  | c :: p => mul (ev x p) x ^^^ c
def Els (p : List Nat) : Prop := ∀ c ∈ p, c < 128
theorem Els.tail {c : Nat} {p : List Nat} (h : Els (c :: p)) : Els p := fun d hd => h d (List.mem_cons_of_mem _ hd)
theorem Els.head {c : Nat} {p : List Nat} (h : Els (c :: p)) : c < 128 := h c (List.mem_cons_self ..)
theorem Els.getD {p : List Nat} (h : Els p) (k : Nat) : p.getD k 0 < 128 := by
  rw [List.getD_eq_getElem?_getD]
  rcases Nat.lt_or_ge k p.length with hk | hk
  · rw [List.getElem?_eq_getElem hk]; exact h _ (List.getElem_mem hk)
  · rw [List.getElem?_eq_none hk]; show 0 < 128; omega
theorem ev_lt (x : Nat) (hx : x < 128) : ∀ p, Els p → ev x p < 128
  | [], _ => by show 0 < 128; omega
  | _ :: p, h => xor_lt _ _ (mul_lt _ _ (ev_lt x hx p h.tail) hx) h.head
/-- The sum of the first k numbers times their powers. -/
def sm (x : Nat) (p : List Nat) : Nat → Nat
  | 0 => 0
  | k + 1 => sm x p k ^^^ mul (p.getD k 0) (pw x k)
theorem sm_lt (x : Nat) (hx : x < 128) (p : List Nat) (h : Els p) (k : Nat) : sm x p k < 128 := by
  induction k with
  | zero => show 0 < 128; omega
  | succ k ih => exact xor_lt _ _ ih (mul_lt _ _ (h.getD k) (pw_lt x k hx))
theorem sm_cons (x c : Nat) (p : List Nat) (hx : x < 128) (h : Els (c :: p)) (k : Nat) : sm x (c :: p) (k + 1) = mul (sm x p k) x ^^^ c := by
  induction k with
  | zero =>
    show 0 ^^^ mul c 1 = mul 0 x ^^^ c
    rw [mul_one c h.head, mul_zl x hx]
  | succ k ih =>
    show sm x (c :: p) (k + 1) ^^^ mul (p.getD k 0) (mul (pw x k) x) = mul (sm x p k ^^^ mul (p.getD k 0) (pw x k)) x ^^^ c
    have h1 := h.tail.getD k
    have h2 := pw_lt x k hx
    rw [ih, mul_assoc _ _ _ h1 h2 hx, xor_mul _ _ _ (sm_lt x hx p h.tail k) (mul_lt _ _ h1 h2) hx, x5]
theorem ev_sum (x : Nat) (hx : x < 128) : ∀ p, Els p → ev x p = sm x p p.length
  | [], _ => rfl
  | c :: p, h => by
    rw [List.length_cons, sm_cons x c p hx h]
    show mul (ev x p) x ^^^ c = _
    rw [ev_sum x hx p h.tail]

/-- The polynomial without the root r. -/
def dv (r : Nat) : List Nat → List Nat
  | [] => []
  | [_] => []
  | _ :: d :: p => ev r (d :: p) :: dv r (d :: p)
theorem dv_length (r : Nat) : ∀ p, (dv r p).length = p.length - 1
  | [] => rfl
  | [_] => rfl
  | _ :: d :: p => by
    have := dv_length r (d :: p)
    simp only [dv, List.length_cons] at this ⊢
    omega
theorem dv_els (r : Nat) (hr : r < 128) : ∀ p, Els p → Els (dv r p)
  | [], h => h
  | [_], _ => fun _ h => by simp [dv] at h
  | _ :: d :: p, h => by
    intro c hc
    simp only [dv, List.mem_cons] at hc
    rcases hc with rfl | hc
    · exact ev_lt r hr _ h.tail
    · exact dv_els r hr (d :: p) h.tail c hc
theorem x6 (a b c : Nat) : (a ^^^ c) ^^^ (b ^^^ c) = a ^^^ b := x4 a b c
theorem x7 (a b c : Nat) : (a ^^^ b) ^^^ (b ^^^ c) = a ^^^ c := by
  apply Nat.eq_of_testBit_eq; intro i
  simp only [Nat.testBit_xor]
  cases a.testBit i <;> cases b.testBit i <;> cases c.testBit i <;> rfl
theorem dv_ev (r x : Nat) (hr : r < 128) (hx : x < 128) : ∀ p, Els p → ev x p ^^^ ev r p = mul (ev x (dv r p)) (x ^^^ r)
  | [], _ => by
    show 0 ^^^ 0 = mul 0 (x ^^^ r)
    rw [mul_zl _ (xor_lt x r hx hr)]; rfl
  | [c], h => by
    show (mul 0 x ^^^ c) ^^^ (mul 0 r ^^^ c) = mul 0 (x ^^^ r)
    rw [mul_zl x hx, mul_zl r hr, mul_zl _ (xor_lt x r hx hr), x6]; rfl
  | c :: d :: p, h => by
    have ih := dv_ev r x hr hx (d :: p) h.tail
    have h1 := ev_lt x hx (d :: p) h.tail
    have h2 := ev_lt r hr (d :: p) h.tail
    have h3 := ev_lt x hx _ (dv_els r hr (d :: p) h.tail)
    have h4 := xor_lt x r hx hr
    show (mul (ev x (d :: p)) x ^^^ c) ^^^ (mul (ev r (d :: p)) r ^^^ c) = mul (mul (ev x (dv r (d :: p))) x ^^^ ev r (d :: p)) (x ^^^ r)
    rw [x6, xor_mul _ _ _ (mul_lt _ _ h3 hx) h2 h4, ← mul_assoc _ _ _ h3 hx h4, mul_comm x _ hx h4, mul_assoc _ _ _ h3 h4 hx, ← ih,
      xor_mul _ _ _ h1 h2 hx, mul_xor _ x r, x7]
def zs (p : List Nat) : Bool := p.all (· == 0)
theorem ev_zs (x : Nat) (hx : x < 128) : ∀ p, zs p = true → ev x p = 0
  | [], _ => rfl
  | c :: p, h => by
    simp only [zs, List.all_cons, Bool.and_eq_true, beq_iff_eq] at h
    show mul (ev x p) x ^^^ c = 0
    rw [ev_zs x hx p h.2, h.1, mul_zl x hx]; rfl
theorem dv_zs (r : Nat) (hr : r < 128) : ∀ p, Els p → ev r p = 0 → zs (dv r p) = true → zs p = true
  | [], _, _, _ => rfl
  | [c], _, h, _ => by
    have e : ev r [c] = c := by
      show mul 0 r ^^^ c = c
      rw [mul_zl r hr, Nat.zero_xor]
    rw [e] at h
    simp [zs, h]
  | c :: d :: p, he, h, hz => by
    simp only [dv, zs, List.all_cons, Bool.and_eq_true, beq_iff_eq] at hz
    have ih := dv_zs r hr (d :: p) he.tail hz.1 hz.2
    have e : ev r (c :: d :: p) = c := by
      show mul (ev r (d :: p)) r ^^^ c = c
      rw [hz.1, mul_zl r hr, Nat.zero_xor]
    rw [e] at h
    simp only [zs, List.all_cons, Bool.and_eq_true, beq_iff_eq] at ih ⊢
    exact ⟨h, ih⟩
/-- How many of the first k elements are roots. -/
def cn (p : List Nat) (k : Nat) : Nat := (List.range k).countP fun x => ev x p == 0
theorem cn_succ (p : List Nat) (k : Nat) : cn p (k + 1) = cn p k + if ev k p == 0 then 1 else 0 := by
  simp only [cn, List.range_succ, List.countP_append, List.countP_cons, List.countP_nil, Nat.zero_add]
theorem cn_le (p : List Nat) (k : Nat) : cn p k ≤ k := by
  have := List.countP_le_length (p := fun x => ev x p == 0) (l := List.range k)
  simpa [cn] using this
theorem cn_zs (p : List Nat) (h : zs p = true) (k : Nat) (hk : k ≤ 128) : cn p k = k := by
  induction k with
  | zero => rfl
  | succ k ih => rw [cn_succ, ih (by omega), ev_zs k (by omega) p h]; rfl
theorem cn_dv (r : Nat) (hr : r < 128) (p : List Nat) (h : Els p) (h0 : ev r p = 0) (k : Nat) (hk : k ≤ 128) : cn p k ≤ cn (dv r p) k + if r < k then 1 else 0 := by
  induction k with
  | zero => simp [cn]
  | succ k ih =>
    have ih := ih (by omega)
    rw [cn_succ, cn_succ]
    by_cases hk : k = r
    · subst hk
      rw [if_neg (Nat.lt_irrefl k)] at ih
      rw [if_pos (Nat.lt_succ_self k)]
      split <;> split <;> omega
    · have hroot : ev k p = 0 → ev k (dv r p) = 0 := by
        intro e
        have := dv_ev r k hr (by omega) p h
        rw [e, h0] at this
        have hx : k ^^^ r ≠ 0 := by
          intro e2
          apply hk
          have e3 : (k ^^^ r) ^^^ r = k := by rw [Nat.xor_assoc, Nat.xor_self, Nat.xor_zero]
          rw [e2, Nat.zero_xor] at e3
          exact e3.symm
        by_cases hz : ev k (dv r p) = 0
        · exact hz
        · exact absurd this.symm (mul_ne _ _ (ev_lt k (by omega) _ (dv_els r hr p h)) (xor_lt k r (by omega) hr) hz hx)
      have hlt : (r < k + 1) ↔ (r < k) := by omega
      simp only [hlt]
      by_cases e : ev k p = 0
      · rw [e, hroot e]
        simp only [beq_self_eq_true, if_true]
        omega
      · rw [if_neg (by simpa using e)]
        omega
theorem roots_few (n : Nat) : ∀ p, p.length = n → Els p → zs p = false → cn p 128 < n := by
  induction n with
  | zero =>
    intro p hp _ hz
    rw [List.length_eq_zero_iff] at hp
    subst hp
    simp [zs] at hz
  | succ n ih =>
    intro p hp h hz
    by_cases hr : ∃ r, r < 128 ∧ ev r p = 0
    · obtain ⟨r, hr, h0⟩ := hr
      have h1 := cn_dv r hr p h h0 128 (Nat.le_refl _)
      rw [if_pos hr] at h1
      have hz2 : zs (dv r p) = false := by
        cases e : zs (dv r p) with
        | false => rfl
        | true => rw [dv_zs r hr p h h0 e] at hz; exact absurd hz (by decide)
      have := ih (dv r p) (by rw [dv_length, hp]; rfl) (dv_els r hr p h) hz2
      omega
    · have : cn p 128 = 0 := by
        unfold cn
        rw [List.countP_eq_zero]
        intro x hx
        rw [List.mem_range] at hx
        simp only [beq_iff_eq]
        exact fun e => hr ⟨x, hx, e⟩
      omega
end Go.Proofs.YtmfnjjkbfabonaaDoor.M

/- The contracts of layer 4's rest, element, double, New, Exp, Log. Conditions: numbers are int's; the Field lies in a block of its own. -/
namespace Go.Proofs.YtmfnjjkbfabonaaDoor
open Go.RowKit
open M

def inI (x : Int) : Prop := -9223372036854775808 ≤ x ∧ x ≤ 9223372036854775807
/-- Nothing but draws. -/
def Qt (w w' : World) : Prop := ∃ n, w' = w.drewN n
theorem Qt.refl (w : World) : Qt w w := ⟨0, rfl⟩
theorem Qt.of (w : World) (n : Nat) : Qt w (w.drewN n) := ⟨n, rfl⟩
theorem Qt.row {w w' : World} {g : Nat} {t : TypeId} {cs : Array Value} (q : Qt w w') (h : Row w g t cs) : Row w' g t cs := by
  obtain ⟨n, rfl⟩ := q; exact h.drewN n
theorem Qt.below {B : Nat} {a w w' : World} (q : Qt w w') (h : Below B a w) : Below B a w' := by
  obtain ⟨n, rfl⟩ := q; exact Below.drewN h n
theorem Qt.trans {a b c : World} (h : Qt a b) (k : Qt b c) : Qt a c := by
  obtain ⟨n, rfl⟩ := h; obtain ⟨m, rfl⟩ := k; exact ⟨n + m, World.drewN_drewN ..⟩

theorem tmod_rest (x m : Int) (hm : 0 < m) : (x.tmod m = x % m ∨ x.tmod m < 0 ∧ x.tmod m + m = x % m) ∧ -m < x.tmod m ∧ x.tmod m < m := by
  have b2 := Int.tmod_lt_of_pos x hm
  rcases Int.le_total 0 x with h | h
  · have h1 := Int.tmod_nonneg m h
    exact ⟨Or.inl (Int.tmod_eq_emod_of_nonneg h), by omega, b2⟩
  · have h3 := Int.tmod_lt_of_pos (-x) hm
    rw [Int.neg_tmod] at h3
    have h1 := Int.tmod_nonneg m (show 0 ≤ -x by omega)
    rw [Int.neg_tmod] at h1
    have e : x.tmod m = -((-x) % m) := by rw [← Int.tmod_eq_emod_of_nonneg (show 0 ≤ -x by omega), Int.neg_tmod, Int.neg_neg]
    refine ⟨?_, by omega, b2⟩
    by_cases h0 : (-x) % m = 0
    · left
      have d : m ∣ x := (Int.dvd_neg).1 (Int.dvd_of_emod_eq_zero h0)
      rw [e, h0, Int.emod_eq_zero_of_dvd d]; rfl
    · right
      have p := Int.emod_nonneg (-x) (show m ≠ 0 by omega)
      have q := Int.emod_lt_of_pos (-x) hm
      refine ⟨by omega, ?_⟩
      have e2 : x % m = (m - (-x) % m) % m := by
        rw [Int.sub_emod, Int.emod_emod_of_dvd _ (Int.dvd_refl m), ← Int.sub_emod, show m - -x = x + m by omega, Int.add_emod_right]
      rw [e2, Int.emod_eq_of_lt (by omega) (by omega)]
      omega

theorem rest127 (x : Int) (w : World) (hx : inI x) :
    Calls Tryd.prog 69 #[.int .i64 x, .int .i64 127] w fun e w' => e = .returned (.int .i64 (re x : Nat)) ∧ w = w' := by
  obtain ⟨h1, h2⟩ := hx
  obtain ⟨he, b1, b2⟩ := tmod_rest x 127 (by decide)
  have HE := Lib.hid he
  clear he
  have HF := Lib.hid (re_int x)
  by_cases h0 : x.tmod 127 < 0
  · go_enter Tryd.func69, Tryd.ntmps69
    go_wp2
    go_ret
    exact ⟨ret_eq (by rw [HF.out]; have := HE.out; omega), rfl⟩
  · go_enter Tryd.func69, Tryd.ntmps69
    go_wp2
    go_ret
    exact ⟨ret_eq (by rw [HF.out]; have := HE.out; omega), rfl⟩
theorem rest128 (x : Int) (w : World) (hx : inI x) :
    Calls Tryd.prog 69 #[.int .i64 x, .int .i64 128] w fun e w' => e = .returned (.int .i64 (el x : Nat)) ∧ w = w' := by
  obtain ⟨h1, h2⟩ := hx
  obtain ⟨he, b1, b2⟩ := tmod_rest x 128 (by decide)
  have HE := Lib.hid he
  clear he
  have HF := Lib.hid (el_int x)
  by_cases h0 : x.tmod 128 < 0
  · go_enter Tryd.func69, Tryd.ntmps69
    go_wp2
    go_ret
    exact ⟨ret_eq (by rw [HF.out]; have := HE.out; omega), rfl⟩
  · go_enter Tryd.func69, Tryd.ntmps69
    go_wp2
    go_ret
    exact ⟨ret_eq (by rw [HF.out]; have := HE.out; omega), rfl⟩
theorem element_any (x : Int) (w : World) (hx : inI x) :
    Calls Tryd.prog 68 #[.int .i64 x] w fun e w' => e = .returned (.int .i64 (el x : Nat)) ∧ w = w' := by
  go_enter Tryd.func68, Tryd.ntmps68
  go_wp2_with fail
  refine (rest128 x _ hx).mono ?_
  rintro e w1 ⟨rfl, rfl⟩
  go_wp2
  go_ret
  exact ⟨rfl, rfl⟩
theorem double_any (a : Nat) (w : World) (ha : a < 128) :
    Calls Tryd.prog 67 #[.int .i64 a] w fun e w' => e = .returned (.int .i64 (dblE a : Nat)) ∧ w = w' := by
  by_cases h : 128 ≤ 2 * a
  · have hx : bits .xor .i64 ((a : Int) * 2) 137 = (((2 * a) ^^^ 137 : Nat) : Int) := by
      have := i64_xor_nat (2 * a) 137 (by omega) (by omega)
      rw [show ((2 * a : Nat) : Int) = (a : Int) * 2 by omega] at this
      exact this
    have HD : Hid (dblE a = (2 * a) ^^^ 137) := by unfold Hid dblE; rw [if_pos h]
    have h' : 128 ≤ (a : Int) * 2 := by omega
    clear h
    go_enter Tryd.func67, Tryd.ntmps67
    go_wp2
    go_ret
    exact ⟨ret_eq (by rw [HD.out]), rfl⟩
  · have HD : Hid (dblE a = 2 * a) := by unfold Hid dblE; rw [if_neg h]
    have h' : ¬ (128 ≤ (a : Int) * 2) := by omega
    clear h
    go_enter Tryd.func67, Tryd.ntmps67
    go_wp2
    go_ret
    exact ⟨ret_eq (by rw [HD.out]; omega), rfl⟩
end Go.Proofs.YtmfnjjkbfabonaaDoor

/- The contracts of layer 4's New, Exp, Log. Conditions: numbers are int's; the Field lies in a block of its own. -/
namespace Go.Proofs.YtmfnjjkbfabonaaDoor
open Go.RowKit
open M

def fdZero : List Int := List.replicate 255 0
/-- The tables' numbers, as far as the loop of New has come. -/
def tabs : Nat → List Int
  | 0 => fdZero.set 127 (-1)
  | n + 1 => ((tabs n).set n (E n : Nat)).set (127 + E n) (n : Nat)
theorem tabs_length (n : Nat) : (tabs n).length = 255 := by
  induction n with
  | zero => unfold tabs fdZero; rw [List.length_set, List.length_replicate]
  | succ n ih => simp only [tabs, List.length_set, ih]
def intCells (l : List Int) : Array Value := (l.map fun x => Value.int .i64 x).toArray
theorem intCells_get (l : List Int) (i : Nat) (h : i < l.length) : (intCells l)[i]? = some (.int .i64 (l.getD i 0)) := by
  simp [intCells, h]
theorem intCells_set (l : List Int) (i : Nat) (x : Int) : (intCells l).setIfInBounds i (.int .i64 x) = intCells (l.set i x) := by
  simp [intCells, List.map_set]
/-- The log of an element, -1 of 0. -/
def lg (a : Nat) : Int := if a = 0 then -1 else (Lg a : Nat)
theorem tabs_exp (n : Nat) (h : n < 127) : (tabs 127).getD n 0 = (E n : Nat) := by
  have := of_all (n := 127) (p := fun n => (tabs 127).getD n 0 == ((E n : Nat) : Int)) (by decide +kernel) n h
  simpa using this
theorem tabs_log (a : Nat) (h : a < 128) : (tabs 127).getD (127 + a) 0 = lg a := by
  have := of_all (n := 128) (p := fun a => (tabs 127).getD (127 + a) 0 == lg a) (by decide +kernel) a h
  simpa using this
/-- A Field, as it lies. -/
def Fd (w : World) (g : Nat) : Prop := Row w g 102 (intCells (tabs 127))
theorem Fd.exp {w : World} {g : Nat} (h : Fd w g) (n : Nat) (hn : n < 127) : w.cell? ⟨g, n, none⟩ = some (.int .i64 (E n : Nat)) := by
  rw [cell_of_row _ _ _ _ _ _ h, intCells_get _ _ (by rw [tabs_length]; omega), tabs_exp n hn]
theorem Fd.log {w : World} {g : Nat} (h : Fd w g) (a : Nat) (ha : a < 128) : w.cell? ⟨g, 127 + a, none⟩ = some (.int .i64 (lg a)) := by
  rw [cell_of_row _ _ _ _ _ _ h, intCells_get _ _ (by rw [tabs_length]; omega), tabs_log a ha]

theorem exp_nil (n : Int) (w : World) :
    Calls Tryd.prog 53 #[.pointer none, .int .i64 n] w fun e w' => e = .returned (.int .i64 0) ∧ w = w' := by
  go_enter Tryd.func53, Tryd.ntmps53
  go_wp2
  go_ret
  exact ⟨rfl, rfl⟩
theorem log_nil (n : Int) (w : World) :
    Calls Tryd.prog 74 #[.pointer none, .int .i64 n] w fun e w' => e = .returned (.int .i64 (-1)) ∧ w = w' := by
  go_enter Tryd.func74, Tryd.ntmps74
  go_wp2
  go_ret
  exact ⟨rfl, rfl⟩
theorem exp_any (n : Int) (g : Nat) (w : World) (hn : inI n) (h : Fd w g) :
    Calls Tryd.prog 53 #[.pointer (some ⟨g, 0, none⟩), .int .i64 n] w fun e w' => e = .returned (.int .i64 (E (re n) : Nat)) ∧ Qt w w' := by
  have c0 := h.exp (re n) (re_lt n)
  have b0 := re_lt n
  have b1 : ((re n : Nat) : Int) < 127 := by omega
  have HN := Lib.hid hn
  clear h hn
  go_enter Tryd.func53, Tryd.ntmps53
  go_wp2
  go_quiet (first | (go_at_call 69; exact Calls.quiet_of_same ((rest127 n _ HN.out).mono fun _ _ h => ⟨h.1, h.2.symm⟩)))
  go_wp2
  go_ret
  exact ⟨rfl, Qt.of _ _⟩
theorem log_any (a : Int) (g : Nat) (w : World) (ha : inI a) (h : Fd w g) :
    Calls Tryd.prog 74 #[.pointer (some ⟨g, 0, none⟩), .int .i64 a] w fun e w' => e = .returned (.int .i64 (lg (el a))) ∧ Qt w w' := by
  have c0 := h.log (el a) (el_lt a)
  have b0 := el_lt a
  have b1 : ((el a : Nat) : Int) < 128 := by omega
  have HN := Lib.hid ha
  clear h ha
  go_enter Tryd.func74, Tryd.ntmps74
  go_wp2
  go_quiet (first | (go_at_call 68; exact Calls.quiet_of_same ((element_any a _ HN.out).mono fun _ _ h => ⟨h.1, h.2.symm⟩)))
  go_wp2
  go_ret
  exact ⟨rfl, Qt.of _ _⟩
theorem fd_info : (Tryd.prog.info? 102).map (fun i => i.zero) = some (some (.agg (intCells fdZero))) := by kernel_rfl
theorem fd_zero (w : World) : (zeroValue 102).run Tryd.prog w = .ok (.agg (intCells fdZero)) w := by
  obtain ⟨i, hi, hz⟩ : ∃ i, Tryd.prog.info? 102 = some i ∧ i.zero = some (.agg (intCells fdZero)) := by
    have := fd_info
    cases h : Tryd.prog.info? 102 with
    | none => rw [h] at this; cases this
    | some i => rw [h] at this; exact ⟨i, rfl, by simpa using this⟩
  unfold zeroValue
  rw [Sem.run_bind, run_typeInfo w hi, Result.andThen_ok]
  simp only [hz]
  rfl
set_option maxRecDepth 100000 in
theorem new_any (w : World) :
    Calls Tryd.prog 50 #[] w fun e w' => e = .returned (.pointer (some ⟨w.heap.size, 0, none⟩)) ∧ Below w.heap.size w w' ∧ Fd w' w.heap.size := by
  have hz := fd_zero w
  have HT0 : Hid ((intCells fdZero).setIfInBounds 127 (.int .i64 (-1)) = intCells (tabs 0)) := intCells_set fdZero 127 (-1)
  go_enter Tryd.func50, Tryd.ntmps50
  go_wp2
  clear hz
  go_loopw [2, 10] (fun x i wr => ∃ n : Nat, n ≤ 127 ∧ i = .int .i64 n ∧ x = .int .i64 (E (n % 127) : Nat) ∧ Row wr w.heap.size 102 (intCells (tabs n)) ∧ Below w.heap.size w wr) (fun _ i _ => 127 - (intOf i).toNat)
  case atStart => exact ⟨0, by omega, rfl, rfl, by rw [← HT0.out]; exact heap_alloc_new _ _, (Below.refl _ _).alloc (Nat.le_refl _) _⟩
  case round =>
    obtain ⟨n, hn, rfl, rfl, hr, hb⟩ := hrel
    by_cases hlt : n < 127
    · have HR := Lib.hid hr
      have HB := Lib.hid hb
      have hE := E_bd n hlt
      have HX := Lib.hid (E_next n hlt)
      obtain ⟨x, hx⟩ : ∃ x, E (n % 127) = x := ⟨_, rfl⟩
      have hx2 : E n = x := by rw [← hx, Nat.mod_eq_of_lt hlt]
      rw [hx2] at hE
      have HS : Hid (tabs (n + 1) = ((tabs n).set n (x : Nat)).set (127 + x) (n : Nat)) := by unfold Hid; rw [← hx2]; rfl
      have HE := Lib.hid hx
      have f1 := hr.free n
      have f2 := fun u => (hr.set n u).free (127 + x)
      obtain ⟨u1, c1⟩ : ∃ u, wr.cell? ⟨w.heap.size, n, none⟩ = some u := ⟨_, (cell_of_row _ _ _ _ _ _ hr).trans (intCells_get _ n (by rw [tabs_length]; omega))⟩
      obtain ⟨u2, c2⟩ : ∃ u, (wr.setCell ⟨w.heap.size, n, none⟩ (.int .i64 (x : Int))).cell? ⟨w.heap.size, 127 + x, none⟩ = some u := by
        refine ⟨.int .i64 (((tabs n).set n (x : Int)).getD (127 + x) 0), ?_⟩
        rw [cell_of_row _ _ _ _ _ _ (hr.set n (.int .i64 (x : Int))), intCells_set]
        exact intCells_get _ _ (by rw [List.length_set, tabs_length]; omega)
      have f2 := (hr.set n (.int .i64 (x : Int))).free (127 + x)
      rw [hx]
      clear hr hb hx hx2
      go_wp2_with (go_at_call 67; refine (double_any x _ (by omega)).mono ?_; rintro e w' ⟨rfl, rfl⟩)
      go_roundw
      case rel =>
        refine ⟨n + 1, by omega, by go_num, by rw [← HX.out, HE.out], ?_, (HB.out.setCell (p := ⟨w.heap.size, n, none⟩) (by simp) _).setCell (p := ⟨w.heap.size, 127 + x, none⟩) (by simp) _⟩
        rw [HS.out, ← intCells_set, ← intCells_set]
        exact (HR.out.set n _).set (127 + x) _
      case measure => simp [intOf]; omega
    · obtain rfl : n = 127 := by omega
      have HR := Lib.hid hr
      have HB := Lib.hid hb
      clear hr hb
      go_wp2
      go_ret
      exact ⟨rfl, HB.out, HR.out⟩
end Go.Proofs.YtmfnjjkbfabonaaDoor

/- The contract of layer 4's Mul. Conditions: numbers are int's; the Field lies in a block of its own, or is nil. -/
namespace Go.Proofs.YtmfnjjkbfabonaaDoor
open Go.RowKit
open M

theorem nil_mul (a b : Int) (w : World) :
    Calls Tryd.prog 61 #[.pointer none, .int .i64 a, .int .i64 b] w fun e w' => e = .returned (.int .i64 0) ∧ w = w' := by
  go_enter Tryd.func61, Tryd.ntmps61
  go_wp2
  go_ret
  exact ⟨rfl, rfl⟩
theorem log_pos (a : Int) (g : Nat) (w : World) (ha : inI a) (h : Fd w g) (h0 : el a ≠ 0) :
    Calls Tryd.prog 74 #[.pointer (some ⟨g, 0, none⟩), .int .i64 a] w fun e w' => e = .returned (.int .i64 (Lg (el a) : Nat)) ∧ Qt w w' := by
  refine (log_any a g w ha h).mono ?_
  rintro e w1 ⟨rfl, hq⟩
  refine ⟨?_, hq⟩
  unfold lg; rw [if_neg h0]
theorem mul_field (a b : Int) (g : Nat) (w : World) (ha : inI a) (hb : inI b) (h : Fd w g) :
    Calls Tryd.prog 61 #[.pointer (some ⟨g, 0, none⟩), .int .i64 a, .int .i64 b] w fun e w' => e = .returned (.int .i64 (mul (el a) (el b) : Nat)) ∧ Qt w w' := by
  obtain ⟨p, hp⟩ : ∃ p, el a = p := ⟨_, rfl⟩
  obtain ⟨q, hq⟩ : ∃ q, el b = q := ⟨_, rfl⟩
  have hp1 : p < 128 := by rw [← hp]; exact el_lt a
  have hq1 : q < 128 := by rw [← hq]; exact el_lt b
  have HP := Lib.hid hp
  have HQ := Lib.hid hq
  have HA := Lib.hid ha
  have HB := Lib.hid hb
  have HF := Lib.hid h
  clear ha hb h
  by_cases h0 : p = 0
  · have HR : Hid (mul p q = 0) := by unfold Hid; rw [h0]; exact mul_zl q hq1
    subst h0
    clear hp hq
    go_enter Tryd.func61, Tryd.ntmps61
    go_wp2_with fail
    refine (element_any a _ HA.out).mono ?_
    rintro e w1 ⟨rfl, rfl⟩
    rw [HP.out]
    go_wp2
    go_ret
    exact ⟨ret_eq (by rw [HP.out, HQ.out, HR.out]; rfl), Qt.refl _⟩
  · have e0 : (((p : Nat) : Int) == 0) = false := by rw [beq_eq_false_iff_ne]; omega
    have e0' : ((p : Nat) == 0) = false := by rw [beq_eq_false_iff_ne]; omega
    by_cases h1 : q = 0
    · have HR : Hid (mul p q = 0) := by unfold Hid; rw [h1]; exact mul_zr p hp1
      subst h1
      clear hp hq
      go_enter Tryd.func61, Tryd.ntmps61
      go_wp2_with fail
      refine (element_any a _ HA.out).mono ?_
      rintro e w1 ⟨rfl, rfl⟩
      rw [HP.out]
      go_wp2_with fail
      refine (element_any b _ HB.out).mono ?_
      rintro e w1 ⟨rfl, rfl⟩
      rw [HQ.out]
      go_wp2
      go_ret
      exact ⟨ret_eq (by rw [HP.out, HQ.out, HR.out]; rfl), Qt.refl _⟩
    · have e1 : (((q : Nat) : Int) == 0) = false := by rw [beq_eq_false_iff_ne]; omega
      have e1' : ((q : Nat) == 0) = false := by rw [beq_eq_false_iff_ne]; omega
      have H0 := Lib.hid h0
      have H1 := Lib.hid h1
      have hLp := Lg_le p hp1
      have hLq := Lg_le q hq1
      have HR := Lib.hid (mul_pos p q hp1 hq1 h0 h1)
      clear hp hq h0 h1
      go_enter Tryd.func61, Tryd.ntmps61
      go_wp2_with fail
      refine (element_any a _ HA.out).mono ?_
      rintro e w1 ⟨rfl, rfl⟩
      rw [HP.out]
      go_wp2_with fail
      refine (element_any b _ HB.out).mono ?_
      rintro e w1 ⟨rfl, rfl⟩
      rw [HQ.out]
      go_wp2_with fail
      clear e0 e0' e1 e1'
      refine (log_pos a g _ HA.out HF.out (by rw [HP.out]; exact H0.out)).mono ?_
      rintro e w1 ⟨rfl, hq⟩
      rw [HP.out]
      have HQ1 := Lib.hid hq
      have HF1 := Lib.hid (hq.row HF.out)
      clear hq
      go_wp2_with fail
      refine (log_pos b g _ HB.out HF1.out (by rw [HQ.out]; exact H1.out)).mono ?_
      rintro e w2 ⟨rfl, hq⟩
      rw [HQ.out]
      have HQ2 := Lib.hid (HQ1.out.trans hq)
      have HF2 := Lib.hid (hq.row HF1.out)
      clear hq
      go_wp2_with fail
      refine (exp_any ((Lg p : Nat) + (Lg q : Nat) : Int) g _ ⟨by omega, by omega⟩ HF2.out).mono ?_
      rintro e w3 ⟨rfl, hq⟩
      have HQ3 := Lib.hid (HQ2.out.trans hq)
      clear hq
      go_wp2
      go_ret
      refine ⟨ret_eq ?_, HQ3.out⟩
      rw [HP.out, HQ.out, HR.out]
      congr 2
end Go.Proofs.YtmfnjjkbfabonaaDoor
