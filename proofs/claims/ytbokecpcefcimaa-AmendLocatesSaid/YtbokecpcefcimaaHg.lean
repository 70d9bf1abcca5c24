/-
  Plain facts on the generator of layer 5 and on rests by it: what is divided keeps its values at the generator's roots, so that bits behind their rest are a codeword. No program is named here. No conditions.
-/
import Derived.Test.YtbokecpcefcimaaHb
namespace Go.Proofs.Ytbokecpcefcimaa.M

/-- The generator's bits. -/
def genT : List Nat := [1, 0, 1, 0, 0, 1, 0, 0, 0, 0, 0, 0, 0, 0, 0, 1, 0, 0, 1, 1, 0, 1, 1, 1, 1, 1, 1, 0, 0, 0, 1, 1, 1, 1, 0, 1, 1, 0, 1, 0, 1, 0, 0, 0, 0, 0, 0, 1, 1, 1, 0, 1, 0, 1, 0, 1, 1, 0, 0, 0, 0, 1, 0, 1]
/-- The generator as it is made: an element's rounds. -/
def gin (met : List Bool) (p : List Nat) (a : Nat) : Nat → List Bool × List Nat × Nat
  | 0 => (met, p, a)
  | j + 1 =>
    let s := gin met p a j
    if s.1.getD s.2.2 false then (s.1, s.2.1, mul s.2.2 s.2.2) else (s.1.set s.2.2 true, tm s.2.1 s.2.2, mul s.2.2 s.2.2)
/-- .. and all elements' rounds. -/
def gout : Nat → List Bool × List Nat
  | 0 => (List.replicate 128 false, [1])
  | i + 1 =>
    let s := gout i
    let r := gin s.1 s.2 (pw 2 (i + 1)) 7
    (r.1, r.2.1)
theorem gout_gen : (gout 20).2 = genT := by decide +kernel
theorem gen_length : genT.length = 64 := by decide
theorem gen_bits (i : Nat) : genT.getD i 0 ≤ 1 := by
  rcases Nat.lt_or_ge i 64 with h | h
  · have := of_all (n := 64) (p := fun i => decide (genT.getD i 0 ≤ 1)) (by decide +kernel) i h
    simpa using this
  · rw [List.getD_eq_getElem?_getD, List.getElem?_eq_none (by rw [gen_length]; exact h)]
    show 0 ≤ 1; omega
theorem gen_top : genT.getD 63 0 = 1 := by decide
theorem gen_els : Els genT := by
  intro c hc
  obtain ⟨i, hi, rfl⟩ := List.mem_iff_getElem.1 hc
  have := gen_bits i
  rw [List.getD_eq_getElem?_getD, List.getElem?_eq_getElem hi] at this
  simp at this
  omega
theorem gen_root (i : Nat) (h1 : 1 ≤ i) (h2 : i ≤ 20) : ev (E i) genT = 0 := by
  have := of_all (n := 20) (p := fun i => ev (E (i + 1)) genT == 0) (by decide +kernel) (i - 1) (by omega)
  rw [show i - 1 + 1 = i by omega] at this
  simpa using this

theorem ev_set (x v : Nat) (hx : x < 128) (hv : v < 128) : ∀ (p : List Nat) (i : Nat), Els p → i < p.length → ev x (p.set i v) = ev x p ^^^ mul (p.getD i 0 ^^^ v) (pw x i)
  | [], _, _, h => by simp at h
  | c :: p, 0, h, _ => by
    have e : (c :: p).set 0 v = v :: p := rfl
    have e2 : (c :: p).getD 0 0 = c := rfl
    have e3 : pw x 0 = 1 := rfl
    rw [e, e2, e3, mul_one _ (xor_lt _ _ h.head hv), ev_cons, ev_cons, Nat.xor_assoc]
    congr 1
    rw [← Nat.xor_assoc, Nat.xor_self, Nat.zero_xor]
  | c :: p, i + 1, h, hi => by
    have e : (c :: p).set (i + 1) v = c :: p.set i v := rfl
    have e2 : (c :: p).getD (i + 1) 0 = p.getD i 0 := by simp
    have e3 : pw x (i + 1) = mul (pw x i) x := rfl
    have h1 := ev_lt x hx p h.tail
    have h2 := xor_lt _ _ (h.tail.getD i) hv
    have h3 := pw_lt x i hx
    rw [e, e2, e3, ev_cons, ev_cons, ev_set x v hx hv p i h.tail (by simpa using hi), xor_mul _ _ _ h1 (mul_lt _ _ h2 h3) hx, mul_assoc _ _ _ h2 h3 hx, x5]
/-- A list to which the first m numbers of another one are added from the place j on. -/
def addk (r : List Nat) (j : Nat) (g : List Nat) : Nat → List Nat
  | 0 => r
  | m + 1 => (addk r j g m).set (j + m) ((addk r j g m).getD (j + m) 0 ^^^ g.getD m 0)
theorem addk_length (r : List Nat) (j : Nat) (g : List Nat) (m : Nat) : (addk r j g m).length = r.length := by
  induction m with
  | zero => rfl
  | succ m ih => simp only [addk, List.length_set, ih]
theorem getD_set (l : List Nat) (i k v : Nat) (h : i < l.length) : (l.set i v).getD k 0 = if i = k then v else l.getD k 0 := by
  rw [List.getD_eq_getElem?_getD, List.getD_eq_getElem?_getD, List.getElem?_set]
  split
  · simp
  · rfl
theorem addk_getD (r : List Nat) (j : Nat) (g : List Nat) (m : Nat) (h : j + m ≤ r.length) (k : Nat) :
    (addk r j g m).getD k 0 = if j ≤ k ∧ k < j + m then r.getD k 0 ^^^ g.getD (k - j) 0 else r.getD k 0 := by
  induction m with
  | zero => rw [if_neg (by omega)]; rfl
  | succ m ih =>
    have ih := ih (by omega)
    show ((addk r j g m).set (j + m) ((addk r j g m).getD (j + m) 0 ^^^ g.getD m 0)).getD k 0 = _
    rw [getD_set _ _ _ _ (by rw [addk_length]; omega)]
    by_cases hk : j + m = k
    · subst hk
      rw [if_pos rfl, if_pos (by omega), ih, if_neg (by omega), show j + m - j = m by omega]
    · rw [if_neg hk, ih]
      by_cases h2 : j ≤ k ∧ k < j + m
      · rw [if_pos h2, if_pos (by omega)]
      · rw [if_neg h2, if_neg (by omega)]
theorem els_of (l : List Nat) (h : ∀ k, l.getD k 0 < 128) : Els l := by
  intro c hc
  obtain ⟨i, hi, rfl⟩ := List.mem_iff_getElem.1 hc
  have := h i
  rw [List.getD_eq_getElem?_getD, List.getElem?_eq_getElem hi] at this
  simpa using this
theorem addk_els (r : List Nat) (j : Nat) (g : List Nat) (m : Nat) (h : j + m ≤ r.length) (hr : Els r) (hg : Els g) : Els (addk r j g m) := by
  apply els_of
  intro k
  rw [addk_getD r j g m h]
  split
  · exact xor_lt _ _ (hr.getD _) (hg.getD _)
  · exact hr.getD _
theorem addk_ev (x : Nat) (hx : x < 128) (r : List Nat) (j : Nat) (g : List Nat) (hr : Els r) (hg : Els g) (m : Nat) (h : j + m ≤ r.length) :
    ev x (addk r j g m) = ev x r ^^^ mul (sm x g m) (pw x j) := by
  have hj := pw_lt x j hx
  induction m with
  | zero =>
    show ev x r = ev x r ^^^ mul 0 (pw x j)
    rw [mul_zl _ hj, Nat.xor_zero]
  | succ m ih =>
    have ih := ih (by omega)
    have h1 := addk_els r j g m (by omega) hr hg
    have h2 := (h1.getD (j + m))
    have h3 := hg.getD m
    have h4 := sm_lt x hx g hg m
    have h5 := pw_lt x m hx
    have e1 : addk r j g (m + 1) = (addk r j g m).set (j + m) ((addk r j g m).getD (j + m) 0 ^^^ g.getD m 0) := rfl
    have e2 : sm x g (m + 1) = sm x g m ^^^ mul (g.getD m 0) (pw x m) := rfl
    have e3 : ∀ n, pw x (j + n) = mul (pw x n) (pw x j) := by
      intro n
      induction n with
      | zero =>
        show pw x j = mul 1 (pw x j)
        rw [mul_comm 1 _ (by omega) hj, mul_one _ hj]
      | succ n ihn =>
        show mul (pw x (j + n)) x = mul (mul (pw x n) x) (pw x j)
        have hn := pw_lt x n hx
        rw [ihn, ← mul_assoc _ _ _ hn hj hx, mul_comm _ x hj hx, mul_assoc _ _ _ hn hx hj]
    rw [e1, ev_set x _ hx (xor_lt _ _ h2 h3) _ _ h1 (by rw [addk_length]; omega), ih, ← Nat.xor_assoc _ _ (g.getD m 0), Nat.xor_self, Nat.zero_xor, e2, e3,
      xor_mul _ _ _ h4 (mul_lt _ _ h3 h5) hj, mul_assoc _ _ _ h3 h5 hj, Nat.xor_assoc]
/-- At the generator's roots a list keeps its value when the generator is added anywhere. -/
theorem addk_gen (x : Nat) (hx : x < 128) (h0 : ev x genT = 0) (r : List Nat) (j : Nat) (hr : Els r) (h : j + 64 ≤ r.length) : ev x (addk r j genT 64) = ev x r := by
  rw [addk_ev x hx r j genT hr gen_els 64 h, ← gen_length, ← ev_sum x hx genT gen_els, h0, mul_zl _ (pw_lt x j hx), Nat.xor_zero]

/-- What is left of a list of 127 bits, its d highest ones gone. -/
def rd (r : List Nat) : Nat → List Nat
  | 0 => r
  | d + 1 => if (rd r d).getD (126 - d) 0 = 1 then addk (rd r d) (63 - d) genT 64 else rd r d
theorem rd_all (r : List Nat) (hl : r.length = 127) (hb : ∀ k, r.getD k 0 ≤ 1) (d : Nat) (hd : d ≤ 64) :
    (rd r d).length = 127 ∧ (∀ k, (rd r d).getD k 0 ≤ 1) ∧ (∀ k, 127 - d ≤ k → (rd r d).getD k 0 = 0) ∧ ∀ x, x < 128 → ev x genT = 0 → ev x (rd r d) = ev x r := by
  induction d with
  | zero =>
    refine ⟨hl, hb, fun k hk => ?_, fun _ _ _ => rfl⟩
    show r.getD k 0 = 0
    rw [List.getD_eq_getElem?_getD, List.getElem?_eq_none (by omega)]; rfl
  | succ d ih =>
    obtain ⟨h1, h2, h3, h4⟩ := ih (by omega)
    have hels : Els (rd r d) := els_of _ fun k => by have := h2 k; omega
    have e : rd r (d + 1) = if (rd r d).getD (126 - d) 0 = 1 then addk (rd r d) (63 - d) genT 64 else rd r d := rfl
    by_cases ht : (rd r d).getD (126 - d) 0 = 1
    · rw [e, if_pos ht]
      refine ⟨by rw [addk_length, h1], fun k => ?_, fun k hk => ?_, fun x hx h0 => ?_⟩
      · rw [addk_getD _ _ _ _ (by omega)]
        split
        · have e1 := h2 k
          have e2 := gen_bits (k - (63 - d))
          generalize (rd r d).getD k 0 = a at e1
          generalize genT.getD (k - (63 - d)) 0 = b at e2
          rcases Nat.le_one_iff_eq_zero_or_eq_one.1 e1 with rfl | rfl <;> rcases Nat.le_one_iff_eq_zero_or_eq_one.1 e2 with rfl | rfl <;> decide
        · exact h2 k
      · rw [addk_getD _ _ _ _ (by omega)]
        by_cases hk2 : k = 126 - d
        · subst hk2
          rw [if_pos (by omega), ht, show 126 - d - (63 - d) = 63 by omega, gen_top]; rfl
        · rw [if_neg (by omega)]
          exact h3 k (by omega)
      · rw [addk_gen x hx h0 _ _ hels (by omega), h4 x hx h0]
    · rw [e, if_neg ht]
      refine ⟨h1, h2, fun k hk => ?_, h4⟩
      by_cases hk2 : k = 126 - d
      · subst hk2
        have := h2 (126 - d)
        omega
      · exact h3 k (by omega)
/-- 64 bits as the list that is divided. -/
def r0 (u : List Bool) : List Nat := List.replicate 63 0 ++ wp u
theorem r0_length (u : List Bool) (hu : u.length = 64) : (r0 u).length = 127 := by simp [r0, wp, hu]
theorem r0_low (u : List Bool) (i : Nat) (h : i < 63) : (r0 u).getD i 0 = 0 := by
  unfold r0
  rw [List.getD_eq_getElem?_getD, List.getElem?_append_left (by simp; omega), List.getElem?_replicate, if_pos h]; rfl
theorem r0_high (u : List Bool) (i : Nat) : (r0 u).getD (63 + i) 0 = (u.getD i false).toNat := by
  unfold r0 wp
  rw [List.getD_eq_getElem?_getD, List.getElem?_append_right (by simp), List.getElem?_map, List.length_replicate, show 63 + i - 63 = i by omega, List.getD_eq_getElem?_getD]
  cases u[i]? <;> rfl
theorem r0_bits (u : List Bool) (k : Nat) : (r0 u).getD k 0 ≤ 1 := by
  rcases Nat.lt_or_ge k 63 with h | h
  · rw [r0_low u k h]; omega
  · rw [show k = 63 + (k - 63) by omega, r0_high]
    cases u.getD (k - 63) false <;> decide
theorem r0_els (u : List Bool) : Els (r0 u) := els_of _ fun k => by have := r0_bits u k; omega
/-- The low bits of what is left, ahead of the 64. -/
def lowU (R : List Nat) (u : List Bool) : List Bool := (R.take 63).map (fun c => c == 1) ++ u
theorem ext_getD (a b : List Nat) (h : a.length = b.length) (k : ∀ i, i < a.length → a.getD i 0 = b.getD i 0) : a = b := by
  apply List.ext_getElem h
  intro i h1 h2
  have := k i h1
  rw [List.getD_eq_getElem?_getD, List.getD_eq_getElem?_getD, List.getElem?_eq_getElem h1, List.getElem?_eq_getElem h2] at this
  simpa using this
theorem lowU_length (R : List Nat) (u : List Bool) (hR : R.length = 127) (hu : u.length = 64) : (lowU R u).length = 127 := by
  unfold lowU; rw [List.length_append, List.length_map, List.length_take, hR, hu]; rfl
theorem lowU_lx (R : List Nat) (u : List Bool) (hR : R.length = 127) (hu : u.length = 64) (h2 : ∀ k, R.getD k 0 ≤ 1) (h3 : ∀ k, 63 ≤ k → R.getD k 0 = 0) : wp (lowU R u) = lx R (r0 u) := by
  have hl : ((R.take 63).map (fun c => c == 1)).length = 63 := by rw [List.length_map, List.length_take, hR]; rfl
  apply ext_getD
  · rw [wp_length, lowU_length R u hR hu, lx_length _ _ (by rw [hR, r0_length u hu]), hR]
  · intro i hi
    rw [wp_length, lowU_length R u hR hu] at hi
    rw [lx_getD _ _ _ (by rw [hR, r0_length u hu])]
    by_cases hk : i < 63
    · have e2 : (wp (lowU R u)).getD i 0 = (R.getD i 0 == 1).toNat := by
        unfold lowU wp
        rw [List.map_append, List.getD_eq_getElem?_getD, List.getElem?_append_left (by rw [List.length_map, hl]; exact hk), List.getElem?_map, List.getElem?_map, List.getElem?_take, if_pos hk,
          List.getD_eq_getElem?_getD, List.getElem?_eq_getElem (by rw [hR]; omega)]
        rfl
      rw [r0_low u i hk, e2, Nat.xor_zero]
      rcases Nat.le_one_iff_eq_zero_or_eq_one.1 (h2 i) with h | h <;> rw [h] <;> rfl
    · have e2 : (wp (lowU R u)).getD i 0 = (u.getD (i - 63) false).toNat := by
        unfold lowU wp
        rw [List.map_append, List.getD_eq_getElem?_getD, List.getElem?_append_right (by rw [List.length_map, hl]; omega), List.length_map, hl, List.getElem?_map, List.getD_eq_getElem?_getD]
        cases u[i - 63]? <;> rfl
      rw [h3 i (by omega), e2, Nat.zero_xor]
      conv => rhs; rw [show i = 63 + (i - 63) by omega, r0_high]
/-- The codeword of 64 bits. -/
def enc (u : List Bool) : List Bool := lowU (rd (r0 u) 64) u
theorem enc_length (u : List Bool) (hu : u.length = 64) : (enc u).length = 127 :=
  lowU_length _ u (rd_all (r0 u) (r0_length u hu) (r0_bits u) 64 (by omega)).1 hu
theorem enc_cw (u : List Bool) (hu : u.length = 64) : Cw (enc u) := by
  obtain ⟨h1, h2, h3, h4⟩ := rd_all (r0 u) (r0_length u hu) (r0_bits u) 64 (by omega)
  have e : wp (enc u) = lx (rd (r0 u) 64) (r0 u) := lowU_lx _ u h1 hu h2 fun k hk => h3 k (by omega)
  intro i hi1 hi2
  have hE := (E_bd i (by omega)).2
  have hels : Els (rd (r0 u) 64) := els_of _ fun k => by have := h2 k; omega
  rw [e, ev_lx _ hE _ _ hels (r0_els u) (by rw [h1, r0_length u hu]), h4 _ hE (gen_root i hi1 hi2), Nat.xor_self]
/-- A codeword is that of its last 64 bits. -/
theorem cw_enc (a u : List Bool) (ha : a.length = 63) (hu : u.length = 64) (h : Cw (a ++ u)) : a ++ u = enc u := by
  have hR := (rd_all (r0 u) (r0_length u hu) (r0_bits u) 64 (by omega)).1
  have e := cw_one a _ u hu ha (by rw [List.length_map, List.length_take, hR]; rfl) h (enc_cw u hu)
  rw [e]; rfl
end Go.Proofs.Ytbokecpcefcimaa.M
