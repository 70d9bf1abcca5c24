/-
  Plain facts on codewords of wide numbers: a number's bits, the number that a word tells, sums, turns and changed bits of codewords. No program is named here. No conditions.
-/
import Derived.Test.YtbokecpcefcimaaHg
import Derived.Test.YtbokecpcefcimaaMath
namespace Go.Proofs.Ytbokecpcefcimaa.M

/-- A list by its places. -/
theorem tab_getD {α : Type} (d : α) (n : Nat) (f : Nat → α) (i : Nat) (h : i < n) : ((List.range n).map f).getD i d = f i := by
  simp [List.getD_eq_getElem?_getD, h]
theorem tab_set {α : Type} (n : Nat) (f f' : Nat → α) (j : Nat) (v : α) (hv : f' j = v) (h : ∀ i, i ≠ j → f' i = f i) : ((List.range n).map f).set j v = (List.range n).map f' := by
  apply List.ext_getElem (by simp)
  intro i h1 h2
  rw [List.getElem_set]
  by_cases e : j = i
  · subst e; simp [hv]
  · simp [e, h i (fun h => e h.symm)]
theorem tab_of {α : Type} (l : List α) (d : α) (n : Nat) (h : l.length = n) : (List.range n).map (fun i => l.getD i d) = l := by
  apply List.ext_getElem (by simp [h])
  intro i h1 h2
  simp [List.getD_eq_getElem?_getD, List.getElem?_eq_getElem h2]
theorem tab_congr {α : Type} (n : Nat) (f f' : Nat → α) (h : ∀ i, i < n → f i = f' i) : (List.range n).map f = (List.range n).map f' := by
  apply List.map_congr_left
  intro i hi
  exact h i (List.mem_range.1 hi)
theorem bext (a b : List Bool) (h : a.length = b.length) (k : ∀ i, i < a.length → a.getD i false = b.getD i false) : a = b := by
  apply List.ext_getElem h
  intro i h1 h2
  have := k i h1
  rw [List.getD_eq_getElem?_getD, List.getD_eq_getElem?_getD, List.getElem?_eq_getElem h1, List.getElem?_eq_getElem h2] at this
  simpa using this
theorem bset (l : List Bool) (i k : Nat) (v : Bool) (h : i < l.length) : (l.set i v).getD k false = if i = k then v else l.getD k false := by
  rw [List.getD_eq_getElem?_getD, List.getD_eq_getElem?_getD, List.getElem?_set]
  split
  · simp
  · rfl

/-- A wide number's bits. -/
def xb (x : BitVec 64) : List Bool := (List.range 64).map fun i => x.getLsbD i
theorem xb_length (x : BitVec 64) : (xb x).length = 64 := by unfold xb; rw [List.length_map, List.length_range]
theorem xb_getD (x : BitVec 64) (i : Nat) (h : i < 64) : (xb x).getD i false = x.getLsbD i := tab_getD _ _ _ _ h
theorem xb_inj (x y : BitVec 64) (h : xb x = xb y) : x = y := by
  apply BitVec.eq_of_getLsbD_eq
  intro i hi
  rw [← xb_getD x i hi, ← xb_getD y i hi, h]
/-- The number of some bits, as far as the loop has come. -/
def bo (f : Nat → Bool) : Nat → BitVec 64
  | 0 => 0#64
  | j + 1 => if f j then bo f j ||| (1#64 <<< j) else bo f j
theorem bo_bit (f : Nat → Bool) (i : Nat) (hi : i < 64) : ∀ j, (bo f j).getLsbD i = (decide (i < j) && f i)
  | 0 => by simp [bo]
  | j + 1 => by
    have ih := bo_bit f i hi j
    unfold bo
    by_cases e : i = j
    · subst e
      cases h : f i
      · rw [if_neg (by simp), ih, h]; simp
      · rw [if_pos rfl, BitVec.getLsbD_or, ih]
        simp [hi]
    · have h2 : ((1#64 <<< j).getLsbD i) = false := by
        simp only [BitVec.getLsbD_shiftLeft, BitVec.getLsbD_one]
        by_cases h : i < j
        · simp [h]
        · simp; omega
      have h3 : decide (i < j + 1) = decide (i < j) := by simp; omega
      cases h : f j
      · rw [if_neg (by simp), ih, h3]
      · rw [if_pos rfl, BitVec.getLsbD_or, ih, h2, h3, Bool.or_false]
/-- What a word tells. -/
def told (w : List Bool) : BitVec 64 := bo (fun i => w.getD (63 + i) false) 64
theorem xb_told (w : List Bool) (h : w.length = 127) : xb (told w) = w.drop 63 := by
  apply bext _ _ (by rw [xb_length, List.length_drop, h])
  intro i hi
  rw [xb_length] at hi
  rw [xb_getD _ i hi]
  unfold told
  rw [bo_bit _ i hi, List.getD_eq_getElem?_getD, List.getD_eq_getElem?_getD, List.getElem?_drop]
  simp [hi]
/-- The codeword of a wide number. -/
def cwd (x : BitVec 64) : List Bool := enc (xb x)
theorem cwd_length (x : BitVec 64) : (cwd x).length = 127 := enc_length _ (xb_length x)
theorem cwd_cw (x : BitVec 64) : Cw (cwd x) := enc_cw _ (xb_length x)
theorem lowU_drop (R : List Nat) (u : List Bool) (hR : R.length = 127) : (lowU R u).drop 63 = u := by
  unfold lowU
  rw [List.drop_append_of_le_length (by rw [List.length_map, List.length_take, hR]; exact Nat.le_refl _)]
  rw [List.drop_of_length_le (by rw [List.length_map, List.length_take, hR]; exact Nat.le_refl _)]; rfl
theorem cwd_drop (x : BitVec 64) : (cwd x).drop 63 = xb x :=
  lowU_drop _ _ (rd_all (r0 (xb x)) (r0_length _ (xb_length x)) (r0_bits _) 64 (by omega)).1
theorem told_cwd (x : BitVec 64) : told (cwd x) = x := xb_inj _ _ (by rw [xb_told _ (cwd_length x), cwd_drop])
/-- A codeword is the codeword of what it tells. -/
theorem cw_told (w : List Bool) (hl : w.length = 127) (h : Cw w) : w = cwd (told w) := by
  have e := cw_enc (w.take 63) (w.drop 63) (by rw [List.length_take, hl]; rfl) (by rw [List.length_drop, hl]) (by rw [List.take_append_drop]; exact h)
  rw [List.take_append_drop] at e
  unfold cwd
  rw [xb_told w hl]; exact e
theorem wx_getD (a b : List Bool) (i : Nat) (h : a.length = b.length) : (wx a b).getD i false = (a.getD i false != b.getD i false) := by
  rcases Nat.lt_or_ge i a.length with hi | hi
  · unfold wx
    rw [List.getD_eq_getElem?_getD, List.getD_eq_getElem?_getD, List.getD_eq_getElem?_getD, List.getElem?_zipWith, List.getElem?_eq_getElem hi, List.getElem?_eq_getElem (show i < b.length by omega)]
    rfl
  · rw [List.getD_eq_getElem?_getD, List.getD_eq_getElem?_getD, List.getD_eq_getElem?_getD, List.getElem?_eq_none (by rw [wx_length a b h]; exact hi), List.getElem?_eq_none hi, List.getElem?_eq_none (show b.length ≤ i by omega)]
    rfl
theorem told_wx (a b : List Bool) (ha : a.length = 127) (hb : b.length = 127) : told (wx a b) = told a ^^^ told b := by
  apply BitVec.eq_of_getLsbD_eq
  intro i hi
  unfold told
  rw [BitVec.getLsbD_xor, bo_bit _ i hi, bo_bit _ i hi, bo_bit _ i hi, wx_getD a b _ (by omega)]
  simp only [hi, decide_true, Bool.true_and]
theorem cwd_wx (x y : BitVec 64) : wx (cwd x) (cwd y) = cwd (x ^^^ y) := by
  have h : Cw (wx (cwd x) (cwd y)) := cw_wx _ _ (by rw [cwd_length, cwd_length]) (cwd_cw x) (cwd_cw y)
  rw [cw_told _ (by rw [wx_length _ _ (by rw [cwd_length, cwd_length]), cwd_length]) h, told_wx _ _ (cwd_length x) (cwd_length y), told_cwd, told_cwd]
theorem cwd_inj (x y : BitVec 64) (h : cwd x = cwd y) : x = y := by rw [← told_cwd x, h, told_cwd]

/-- Is a word a codeword? -/
def isCw (w : List Bool) : Bool := (List.range 20).all fun i => ev (E (i + 1)) (wp w) == 0
theorem isCw_iff (w : List Bool) : isCw w = true ↔ Cw w := by
  unfold isCw Cw
  rw [List.all_eq_true]
  constructor
  · intro h i h1 h2
    have := h (i - 1) (List.mem_range.2 (by omega))
    rw [show i - 1 + 1 = i by omega] at this
    simpa using this
  · intro h i hi
    have := h (i + 1) (by omega) (by have := List.mem_range.1 hi; omega)
    simpa using this
theorem isCw_cwd (x : BitVec 64) : isCw (cwd x) = true := (isCw_iff _).2 (cwd_cw x)

/-- How many bits are unlike. -/
def dst (a b : List Bool) : Nat := (wx a b).count true
/-- .. among the first j. -/
def dstN (a b : List Bool) (j : Nat) : Nat := ((wx a b).take j).count true
theorem dstN_succ (a b : List Bool) (j : Nat) (ha : a.length = b.length) (hj : j < a.length) : dstN a b (j + 1) = dstN a b j + (if (a.getD j false != b.getD j false) = true then 1 else 0) := by
  have hl : j < (wx a b).length := by rw [wx_length a b ha]; exact hj
  have e : (wx a b)[j] = (a.getD j false != b.getD j false) := by
    have := wx_getD a b j ha
    rw [List.getD_eq_getElem?_getD, List.getElem?_eq_getElem hl] at this
    exact this
  unfold dstN
  rw [List.take_succ_eq_append_getElem hl, List.count_append, e]
  cases (a.getD j false != b.getD j false) <;> simp
theorem dstN_all (a b : List Bool) (ha : a.length = b.length) : dstN a b a.length = dst a b := by
  unfold dstN dst
  rw [List.take_of_length_le (by rw [wx_length a b ha]; exact Nat.le_refl _)]
theorem dstN_le (a b : List Bool) (j : Nat) : dstN a b j ≤ j := by
  unfold dstN
  exact Nat.le_trans List.count_le_length (by rw [List.length_take]; exact Nat.min_le_left _ _)
theorem dst_comm (a b : List Bool) : dst a b = dst b a := by
  unfold dst wx
  rw [List.zipWith_comm]
  congr 2
  funext x y
  cases x <;> cases y <;> rfl
theorem dst_self (a : List Bool) : dst a a = 0 := wx_self a
theorem dst_cwd (x y : BitVec 64) (h : x ≠ y) : 21 ≤ dst (cwd x) (cwd y) ∧ dst (cwd x) (cwd y) ≤ 127 := by
  refine ⟨cw_apart _ _ (cwd_length x) (cwd_length y) (cwd_cw x) (cwd_cw y) fun e => h (cwd_inj _ _ e), ?_⟩
  rw [← dstN_all _ _ (by rw [cwd_length, cwd_length]), cwd_length]
  exact dstN_le _ _ _

/-- A bit changed. -/
def flip (l : List Bool) (i : Nat) : List Bool := l.set i (!(l.getD i false))
theorem flip_length (l : List Bool) (i : Nat) : (flip l i).length = l.length := by unfold flip; rw [List.length_set]
def flips (l : List Bool) : List Nat → List Bool
  | [] => l
  | i :: is => flips (flip l i) is
theorem flips_length (l : List Bool) (is : List Nat) : (flips l is).length = l.length := by
  induction is generalizing l with
  | nil => rfl
  | cons i is ih => show (flips (flip l i) is).length = _; rw [ih, flip_length]
theorem flips_snoc (l : List Bool) (is : List Nat) (i : Nat) : flips l (is ++ [i]) = flip (flips l is) i := by
  induction is generalizing l with
  | nil => rfl
  | cons k is ih => exact ih (flip l k)
theorem wx_set : ∀ (a b : List Bool) (i : Nat) (v : Bool), a.length = b.length → (wx (a.set i v) b).count true ≤ (wx a b).count true + 1
  | [], _, _, _, _ => by simp [wx]
  | _ :: _, [], _, _, h => by simp at h
  | x :: a, y :: b, 0, v, _ => by
    show ((v != y) :: wx a b).count true ≤ ((x != y) :: wx a b).count true + 1
    rw [List.count_cons, List.count_cons]
    cases (v != y) <;> cases (x != y) <;> simp <;> omega
  | x :: a, y :: b, i + 1, v, h => by
    have ih := wx_set a b i v (by simpa using h)
    show ((x != y) :: wx (a.set i v) b).count true ≤ ((x != y) :: wx a b).count true + 1
    rw [List.count_cons, List.count_cons]
    omega
theorem dst_flip (a b : List Bool) (i : Nat) (h : a.length = b.length) : dst (flip a i) b ≤ dst a b + 1 := wx_set a b i _ h
theorem dst_flips (a b : List Bool) (is : List Nat) (h : a.length = b.length) : dst (flips a is) b ≤ dst a b + is.length := by
  induction is generalizing a with
  | nil => exact Nat.le_refl _
  | cons i is ih =>
    have h1 := ih (flip a i) (by rw [flip_length]; exact h)
    have h2 := dst_flip a b i h
    show dst (flips (flip a i) is) b ≤ _
    rw [List.length_cons]; omega
theorem told_law (x : BitVec 64) (is : List Nat) (h : is.length ≤ 20) : isCw (flips (cwd x) is) = (flips (cwd x) is == cwd x) := by
  have hl : (flips (cwd x) is).length = 127 := by rw [flips_length, cwd_length]
  rw [Bool.eq_iff_iff, isCw_iff, beq_iff_eq]
  constructor
  · intro hc
    by_cases e : flips (cwd x) is = cwd x
    · exact e
    · have h1 := cw_apart _ _ hl (cwd_length x) hc (cwd_cw x) e
      have h2 := dst_flips (cwd x) (cwd x) is rfl
      rw [dst_self] at h2
      unfold dst at h2
      omega
  · intro e
    rw [e]; exact cwd_cw x

/-- A word turned by one. -/
def turn1 (l : List Bool) : List Bool := l.getLastD false :: l.dropLast
theorem E_127 (i : Nat) (hi : i < 127) : pw (E i) 127 = 1 := by
  have h := E_bd i hi
  rw [pw_pos _ _ h.2 (by omega), Nat.mul_mod_left]; exact E_zero
theorem ev_snoc (x : Nat) (hx : x < 128) (c : Nat) (hc : c < 128) : ∀ p, Els p → ev x (p ++ [c]) = ev x p ^^^ mul c (pw x p.length)
  | [], _ => by
    show mul 0 x ^^^ c = 0 ^^^ mul c 1
    rw [mul_zl x hx, mul_one c hc]
  | d :: p, h => by
    have h1 := ev_lt x hx p h.tail
    have h2 := pw_lt x p.length hx
    rw [List.cons_append, ev_cons, ev_cons, ev_snoc x hx c hc p h.tail, List.length_cons, xor_mul _ _ _ h1 (mul_lt _ _ hc h2) hx, x5]
    have e : mul (mul c (pw x p.length)) x = mul c (pw x (p.length + 1)) := (mul_assoc _ _ _ hc h2 hx).symm
    rw [e]
theorem ev_turn (i : Nat) (hi : i < 127) (l : List Bool) (hl : l.length = 127) : ev (E i) (wp (turn1 l)) = mul (ev (E i) (wp l)) (E i) := by
  have hE := (E_bd i hi).2
  obtain ⟨p, c, rfl⟩ : ∃ p c, l = p ++ [c] := ⟨l.dropLast, l.getLast (by intro h; rw [h] at hl; simp at hl), (List.dropLast_concat_getLast _).symm⟩
  have hp : p.length = 126 := by simpa using hl
  have e1 : turn1 (p ++ [c]) = c :: p := by unfold turn1; simp
  have e2 : wp (p ++ [c]) = wp p ++ [c.toNat] := by simp [wp]
  have h1 := ev_lt (E i) hE _ (wp_els p)
  have h2 := pw_lt (E i) 126 hE
  have h127 := E_127 i hi
  rw [e1, wp_cons, ev_cons, e2, ev_snoc _ hE _ (bool_lt c) _ (wp_els p), wp_length, hp, xor_mul _ _ _ h1 (mul_lt _ _ (bool_lt c) h2) hE, ← mul_assoc _ _ _ (bool_lt c) h2 hE]
  rw [show mul (pw (E i) 126) (E i) = 1 from h127, mul_one _ (bool_lt c)]
theorem turn1_length (l : List Bool) (h : 0 < l.length) : (turn1 l).length = l.length := by
  unfold turn1; rw [List.length_cons, List.length_dropLast]; omega
def turns (l : List Bool) : Nat → List Bool
  | 0 => l
  | r + 1 => turn1 (turns l r)
theorem turns_length (l : List Bool) (h : l.length = 127) (r : Nat) : (turns l r).length = 127 := by
  induction r with
  | zero => exact h
  | succ r ih => show (turn1 _).length = _; rw [turn1_length _ (by omega), ih]
theorem turns_cw (l : List Bool) (hl : l.length = 127) (h : Cw l) (r : Nat) : Cw (turns l r) := by
  induction r with
  | zero => exact h
  | succ r ih =>
    intro i h1 h2
    show ev (E i) (wp (turn1 (turns l r))) = 0
    rw [ev_turn i (by omega) _ (turns_length l hl r), ih i h1 h2, mul_zl _ (E_bd i (by omega)).2]
theorem turn1_getD (l : List Bool) (hl : l.length = 127) (i : Nat) (hi : i < 127) : (turn1 l).getD ((i + 1) % 127) false = l.getD i false := by
  obtain ⟨p, c, rfl⟩ : ∃ p c, l = p ++ [c] := ⟨l.dropLast, l.getLast (by intro h; rw [h] at hl; simp at hl), (List.dropLast_concat_getLast _).symm⟩
  have hp : p.length = 126 := by simpa using hl
  have e1 : turn1 (p ++ [c]) = c :: p := by unfold turn1; simp
  rw [e1]
  by_cases h : i = 126
  · subst h
    show (c :: p).getD 0 false = _
    rw [List.getD_eq_getElem?_getD, List.getD_eq_getElem?_getD, List.getElem?_append_right (by omega), hp]
    rfl
  · rw [Nat.mod_eq_of_lt (by omega), List.getD_cons_succ, List.getD_eq_getElem?_getD, List.getD_eq_getElem?_getD, List.getElem?_append_left (by omega)]
theorem turns_getD (l : List Bool) (hl : l.length = 127) (r i : Nat) (hi : i < 127) : (turns l r).getD ((i + r) % 127) false = l.getD i false := by
  induction r with
  | zero => rw [Nat.add_zero, Nat.mod_eq_of_lt hi]; rfl
  | succ r ih =>
    have := turn1_getD (turns l r) (turns_length l hl r) ((i + r) % 127) (Nat.mod_lt _ (by omega))
    rw [← ih, ← this]
    show (turn1 (turns l r)).getD _ _ = _
    congr 1
    omega
end Go.Proofs.Ytbokecpcefcimaa.M
