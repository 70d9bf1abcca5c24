/-
  WholeSound, its plain part: samples made even, and both channels joined again. No program is named here. No conditions but those that each fact names.
-/
import Derived.Test.YtpfdjddjoclldaaRCg
namespace Go.Proofs.Ytpfdjddjoclldaa.M
/-- Up to 400 numbers within 2^16. -/
def h16 (l : List Int) : List Int := (l.map fun x => x.tmod 65536).take 400
theorem h16_len (l : List Int) : (h16 l).length = min 400 l.length := by simp [h16]
theorem tmod16 (n : Int) : -65536 < n.tmod 65536 ∧ n.tmod 65536 < 65536 := by
  have h1 := Int.tmod_lt_of_pos n (show (0 : Int) < 65536 by omega)
  have h2 := Int.tmod_lt_of_pos (-n) (show (0 : Int) < 65536 by omega)
  rw [Int.neg_tmod] at h2
  omega
/-- An even number of them. -/
def evn (x : List Int) : List Int := if x.length % 2 = 1 then x ++ [0] else x
theorem evn_len (x : List Int) : (evn x).length = 2 * ((x.length + 1) / 2) := by
  unfold evn
  split
  · rw [List.length_append, List.length_singleton]; omega
  · omega
theorem evn_bd (l : List Int) : ∀ x ∈ evn (h16 l), -65536 ≤ x ∧ x ≤ 65536 := by
  have h : ∀ x ∈ h16 l, -65536 ≤ x ∧ x ≤ 65536 := by
    intro x hx
    obtain ⟨y, _, rfl⟩ := List.mem_map.1 (List.mem_of_mem_take hx)
    have := tmod16 y
    omega
  intro x hx
  unfold evn at hx
  split at hx
  · rcases List.mem_append.1 hx with h1 | h1
    · exact h x h1
    · rw [List.mem_singleton] at h1; subst h1; exact ⟨by decide, by decide⟩
  · exact h x hx
theorem map16_getD (l : List Int) (k : Nat) : (l.map fun x => x.tmod 65536).getD k 0 = (l.getD k 0).tmod 65536 := by
  rw [List.getD_eq_getElem?_getD, List.getD_eq_getElem?_getD, List.getElem?_map]
  cases l[k]? <;> rfl
theorem pad_lo (l : List Int) (i : Nat) (h : i < l.length) : (padd l).getD i 0 = l.getD i 0 := padd_getD _ _ (by unfold cnt; omega)
theorem pad_hi (l : List Int) (i : Nat) (h : l.length ≤ i) : (padd l).getD i 0 = 0 := by
  rcases Nat.lt_or_ge i (32 * cnt l.length) with h1 | h1
  · rw [padd_getD _ _ h1, List.getD_eq_getElem?_getD, List.getElem?_eq_none (by omega)]
    rfl
  · rw [List.getD_eq_getElem?_getD, List.getElem?_eq_none (by rw [padd_len]; exact h1)]
    rfl
theorem snd_len (x : List Int) (h : x.length % 2 = 0) : x.length ≤ (joi (padd (mids x)) (padd (sids x))).length := by
  rw [joi_len, padd_len, mids_len]
  unfold cnt
  omega
theorem snd_lo (x : List Int) (h : x.length % 2 = 0) (p : Nat) (hp : p < x.length) : (joi (padd (mids x)) (padd (sids x))).getD p 0 = x.getD p 0 := by
  have hl := snd_len x h
  rw [joi_len] at hl
  have e := joi_split x h
  have e2 : (joi (mids x) (sids x)).getD p 0 = x.getD p 0 := by rw [e]
  rw [← e2]
  unfold joi
  rw [tb_getD _ _ _ _ (by omega), tb_getD _ _ _ _ (by rw [mids_len]; omega)]
  unfold jn12
  rw [pad_lo (mids x) _ (by rw [mids_len]; omega), pad_lo (sids x) _ (by rw [sids_len]; omega)]
theorem snd_hi (x : List Int) (h : x.length % 2 = 0) (p : Nat) (hp : x.length ≤ p) : (joi (padd (mids x)) (padd (sids x))).getD p 0 = 0 := by
  rcases Nat.lt_or_ge p (2 * (padd (mids x)).length) with h1 | h1
  · unfold joi
    rw [tb_getD _ _ _ _ h1]
    unfold jn12
    rw [pad_hi (mids x) _ (by rw [mids_len]; omega), pad_hi (sids x) _ (by rw [sids_len]; omega)]
    split <;> rfl
  · rw [List.getD_eq_getElem?_getD, List.getElem?_eq_none (by rw [joi_len]; exact h1)]
    rfl
theorem pad_bd (l : List Int) (n : Int) (hn : 0 ≤ n) (h : ∀ x ∈ l, -n ≤ x ∧ x ≤ n) : ∀ x ∈ padd l, -n ≤ x ∧ x ≤ n := by
  intro x hx
  obtain ⟨i, hi, rfl⟩ := List.getElem_of_mem hx
  have e : (padd l)[i] = (padd l).getD i 0 := by rw [List.getD_eq_getElem?_getD, List.getElem?_eq_getElem hi]; rfl
  rw [e]
  rcases Nat.lt_or_ge i l.length with h1 | h1
  · rw [pad_lo l i h1]
    exact M.getD_bd l n hn h i
  · rw [pad_hi l i h1]
    exact ⟨by omega, hn⟩
end Go.Proofs.Ytpfdjddjoclldaa.M
