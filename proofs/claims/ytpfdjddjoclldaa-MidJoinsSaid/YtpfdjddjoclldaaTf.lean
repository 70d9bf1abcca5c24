/-
  Plain facts of layer 11: seams between blocks of 32 numbers, turned in whatever order, and their undoing; frames of samples, and the way back. No program is named here. No conditions but those that each fact names.
-/
import Derived.Test.YtpfdjddjoclldaaTe
namespace Go.Proofs.Ytpfdjddjoclldaa.M

theorem tb_getD {α : Type} (d : α) (n : Nat) (f : Nat → α) (i : Nat) (h : i < n) : ((List.range n).map f).getD i d = f i := by
  simp [List.getD_eq_getElem?_getD, h]
theorem tb_len {α : Type} (n : Nat) (f : Nat → α) : ((List.range n).map f).length = n := by simp
theorem tb_ext {α : Type} (d : α) (l : List α) (n : Nat) (f : Nat → α) (h : l.length = n) (k : ∀ i, i < n → l.getD i d = f i) : l = (List.range n).map f := by
  apply List.ext_getElem (by simp [h])
  intro i h1 h2
  have := k i (by omega)
  rw [List.getD_eq_getElem?_getD, List.getElem?_eq_getElem h1] at this
  simpa using this
theorem tb_congr {α : Type} (n : Nat) (f g : Nat → α) (h : ∀ i, i < n → f i = g i) : (List.range n).map f = (List.range n).map g := by
  apply List.map_congr_left
  intro i hi
  exact h i (List.mem_range.1 hi)
theorem set_getD {α : Type} (l : List α) (d : α) (i k : Nat) (v : α) (h : i < l.length) : (l.set i v).getD k d = if i = k then v else l.getD k d := by
  rw [List.getD_eq_getElem?_getD, List.getElem?_set]
  by_cases e : i = k
  · rw [if_pos e, if_pos e, if_pos (by omega)]; rfl
  · rw [if_neg e, if_neg e, List.getD_eq_getElem?_getD]

/-- A number behind its seam has been turned, where d tells so of the seam and the place: what stands at place p of n blocks. -/
def smv (H : Int × Int → Int → Int × Int) (d : Nat → Nat → Bool) (n : Nat) (x : List Int) (p : Nat) : Int :=
  if p % 32 < 16 then
    if 1 ≤ p / 32 ∧ d (p / 32) (p % 32) = true then (H (x.getD (32 * (p / 32) - 1 - p % 32) 0, x.getD p 0) (62 - 4 * ((p % 32 : Nat) : Int))).2 else x.getD p 0
  else
    if p / 32 + 1 < n ∧ d (p / 32 + 1) (31 - p % 32) = true then (H (x.getD p 0, x.getD (32 * (p / 32 + 1) + (31 - p % 32)) 0) (62 - 4 * ((31 - p % 32 : Nat) : Int))).1 else x.getD p 0
def sms (H : Int × Int → Int → Int × Int) (d : Nat → Nat → Bool) (n : Nat) (x : List Int) : List Int := (List.range (32 * n)).map (smv H d n x)
theorem sms_len (H : Int × Int → Int → Int × Int) (d : Nat → Nat → Bool) (n : Nat) (x : List Int) : (sms H d n x).length = 32 * n := tb_len _ _
theorem sms_getD (H : Int × Int → Int → Int × Int) (d : Nat → Nat → Bool) (n : Nat) (x : List Int) (p : Nat) (h : p < 32 * n) : (sms H d n x).getD p 0 = smv H d n x p := tb_getD _ _ _ _ h
/-- The two places of a seam's pair. -/
theorem smv_lo (H : Int × Int → Int → Int × Int) (d : Nat → Nat → Bool) (n : Nat) (x : List Int) (s i : Nat) (hs : 1 ≤ s) (hn : s < n) (hi : i < 16) :
    smv H d n x (32 * s - 1 - i) = if d s i = true then (H (x.getD (32 * s - 1 - i) 0, x.getD (32 * s + i) 0) (62 - 4 * (i : Int))).1 else x.getD (32 * s - 1 - i) 0 := by
  unfold smv
  have e1 : (32 * s - 1 - i) % 32 = 31 - i := by omega
  have e2 : (32 * s - 1 - i) / 32 + 1 = s := by omega
  have e3 : 31 - (31 - i) = i := by omega
  rw [e1, e2, e3, if_neg (by omega)]
  by_cases hd : d s i = true
  · rw [if_pos hd, if_pos ⟨hn, hd⟩]
  · rw [if_neg hd, if_neg (fun h => hd h.2)]
theorem smv_hi (H : Int × Int → Int → Int × Int) (d : Nat → Nat → Bool) (n : Nat) (x : List Int) (s i : Nat) (hs : 1 ≤ s) (hi : i < 16) :
    smv H d n x (32 * s + i) = if d s i = true then (H (x.getD (32 * s - 1 - i) 0, x.getD (32 * s + i) 0) (62 - 4 * (i : Int))).2 else x.getD (32 * s + i) 0 := by
  unfold smv
  have e1 : (32 * s + i) % 32 = i := by omega
  have e2 : (32 * s + i) / 32 = s := by omega
  rw [e1, e2, if_pos hi]
  by_cases hd : d s i = true
  · rw [if_pos hd, if_pos ⟨hs, hd⟩]
  · rw [if_neg hd, if_neg (fun h => hd h.2)]
/-- Each place is of a pair, or at an end. -/
theorem place_of (n p : Nat) (hp : p < 32 * n) : (∃ s i, 1 ≤ s ∧ s < n ∧ i < 16 ∧ p = 32 * s - 1 - i) ∨ (∃ s i, 1 ≤ s ∧ s < n ∧ i < 16 ∧ p = 32 * s + i) ∨ (p < 16 ∨ 32 * n - 16 ≤ p) := by
  by_cases h1 : p % 32 < 16
  · by_cases h2 : 1 ≤ p / 32
    · exact Or.inr (Or.inl ⟨p / 32, p % 32, h2, by omega, h1, by omega⟩)
    · exact Or.inr (Or.inr (Or.inl (by omega)))
  · by_cases h2 : p / 32 + 1 < n
    · exact Or.inl ⟨p / 32 + 1, 31 - p % 32, by omega, h2, by omega, by omega⟩
    · exact Or.inr (Or.inr (Or.inr (by omega)))
theorem smv_end (H : Int × Int → Int → Int × Int) (d : Nat → Nat → Bool) (n : Nat) (x : List Int) (p : Nat) (hp : p < 32 * n) (h : p < 16 ∨ 32 * n - 16 ≤ p) (hn : 1 ≤ n) : smv H d n x p = x.getD p 0 := by
  unfold smv
  rcases h with h | h
  · rw [if_pos (by omega), if_neg (by omega)]
  · by_cases h1 : p % 32 < 16
    · omega
    · rw [if_neg h1, if_neg (by omega)]
/-- No pair turned: as it was. -/
theorem sms_none (H : Int × Int → Int → Int × Int) (n : Nat) (x : List Int) (h : x.length = 32 * n) : sms H (fun _ _ => false) n x = x := by
  symm
  apply tb_ext 0 x _ _ h
  intro p _
  unfold smv
  by_cases h1 : p % 32 < 16
  · rw [if_pos h1, if_neg (by simp)]
  · rw [if_neg h1, if_neg (by simp)]
/-- One pair more. -/
theorem sms_step (H : Int × Int → Int → Int × Int) (d d' : Nat → Nat → Bool) (n : Nat) (x : List Int) (s i : Nat) (hs : 1 ≤ s) (hn : s < n) (hi : i < 16) (hd : ∀ t j, d' t j = (d t j || (decide (t = s) && decide (j = i)))) :
    ((sms H d n x).set (32 * s - 1 - i) (H (x.getD (32 * s - 1 - i) 0, x.getD (32 * s + i) 0) (62 - 4 * (i : Int))).1).set (32 * s + i) (H (x.getD (32 * s - 1 - i) 0, x.getD (32 * s + i) 0) (62 - 4 * (i : Int))).2 = sms H d' n x := by
  apply tb_ext 0 _ _ _ (by rw [List.length_set, List.length_set, sms_len])
  intro p hp
  rw [set_getD _ _ _ _ _ (by rw [List.length_set, sms_len]; omega), set_getD _ _ _ _ _ (by rw [sms_len]; omega)]
  have hself : d' s i = true := by rw [hd]; simp
  by_cases e1 : 32 * s + i = p
  · rw [if_pos e1, ← e1, smv_hi H d' n x s i hs hi, if_pos hself]
  · rw [if_neg e1]
    by_cases e2 : 32 * s - 1 - i = p
    · rw [if_pos e2, ← e2, smv_lo H d' n x s i hs hn hi, if_pos hself]
    · rw [if_neg e2, sms_getD _ _ _ _ _ hp]
      have hne : ∀ t j, ¬ (t = s ∧ j = i) → d' t j = d t j := by
        intro t j h
        rw [hd]
        by_cases ht : t = s
        · by_cases hj : j = i
          · exact absurd ⟨ht, hj⟩ h
          · simp [hj]
        · simp [ht]
      unfold smv
      by_cases h1 : p % 32 < 16
      · rw [if_pos h1, if_pos h1, hne (p / 32) (p % 32) (by omega)]
      · rw [if_neg h1, if_neg h1, hne (p / 32 + 1) (31 - p % 32) (by omega)]
/-- All pairs turned, and all turned back. -/
def allT : Nat → Nat → Bool := fun _ _ => true
theorem sms_undo (F G : Int × Int → Int → Int × Int) (hFG : ∀ v k, G (F v k) k = v) (n : Nat) (x : List Int) (h : x.length = 32 * n) : sms G allT n (sms F allT n x) = x := by
  symm
  apply tb_ext 0 x _ _ h
  intro p hp
  have hn : 1 ≤ n := by omega
  rcases place_of n p hp with ⟨s, i, hs, hsn, hi, rfl⟩ | ⟨s, i, hs, hsn, hi, rfl⟩ | he
  · rw [smv_lo G allT n _ s i hs hsn hi, if_pos (show allT s i = true from rfl), sms_getD _ _ _ _ _ (by omega), sms_getD _ _ _ _ _ (by omega), smv_lo F allT n x s i hs hsn hi, smv_hi F allT n x s i hs hi, if_pos (show allT s i = true from rfl), if_pos (show allT s i = true from rfl), peta, hFG]
  · rw [smv_hi G allT n _ s i hs hi, if_pos (show allT s i = true from rfl), sms_getD _ _ _ _ _ (by omega), sms_getD _ _ _ _ _ (by omega), smv_lo F allT n x s i hs hsn hi, smv_hi F allT n x s i hs hi, if_pos (show allT s i = true from rfl), if_pos (show allT s i = true from rfl), peta, hFG]
  · rw [smv_end G allT n _ p hp he hn, sms_getD _ _ _ _ _ hp, smv_end F allT n x p hp he hn]
/-- What stands at a place hangs on its own pair alone. -/
theorem smv_local (H : Int × Int → Int → Int × Int) (d : Nat → Nat → Bool) (n : Nat) (x y : List Int) (p : Nat) (hp : p < 32 * n) (h1 : x.getD p 0 = y.getD p 0)
    (h2 : ∀ s i, 1 ≤ s → i < 16 → (p = 32 * s - 1 - i → x.getD (32 * s + i) 0 = y.getD (32 * s + i) 0) ∧ (p = 32 * s + i → x.getD (32 * s - 1 - i) 0 = y.getD (32 * s - 1 - i) 0)) : smv H d n x p = smv H d n y p := by
  have hn : 1 ≤ n := by omega
  rcases place_of n p hp with ⟨s, i, hs, hsn, hi, rfl⟩ | ⟨s, i, hs, hsn, hi, rfl⟩ | he
  · rw [smv_lo H d n x s i hs hsn hi, smv_lo H d n y s i hs hsn hi, h1, (h2 s i hs hi).1 rfl]
  · rw [smv_hi H d n x s i hs hi, smv_hi H d n y s i hs hi, h1, (h2 s i hs hi).2 rfl]
  · rw [smv_end H d n x p hp he hn, smv_end H d n y p hp he hn, h1]
end Go.Proofs.Ytpfdjddjoclldaa.M
