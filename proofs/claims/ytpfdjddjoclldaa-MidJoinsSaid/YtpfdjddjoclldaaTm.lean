/-
  Plain facts of layers 12 and 21: middles and sides; frames that fade, and samples that are cut. No program is named here. No conditions but those that each fact names.
-/
import Derived.Test.YtpfdjddjoclldaaMath
namespace Go.Proofs.Ytpfdjddjoclldaa.M

/-- The middle and the side; left and right. -/
def mdl (l r : Int) : Int × Int := (r + (l - r) / 2, l - r)
def mdb (m s : Int) : Int × Int := (m - s / 2 + s, m - s / 2)
theorem mdb_mdl (l r : Int) : mdb (mdl l r).1 (mdl l r).2 = (l, r) := by
  unfold mdb mdl
  simp only [Prod.mk.injEq]
  omega
theorem mdl_mdb (m s : Int) : mdl (mdb m s).1 (mdb m s).2 = (m, s) := by
  unfold mdb mdl
  simp only [Prod.mk.injEq]
  have e : m - s / 2 + s - (m - s / 2) = s := by omega
  rw [e]
  omega
/-- MidBetween. -/
theorem mdl_between (l r : Int) : min l r ≤ (mdl l r).1 ∧ (mdl l r).1 ≤ max l r ∧ (mdl l l) = (l, 0) := by
  unfold mdl
  refine ⟨by omega, by omega, ?_⟩
  simp only [Prod.mk.injEq]
  omega
/-- MidUnlike. -/
theorem mdl_inj (a b c d : Int) : (mdl a b = mdl c d) ↔ (a = c ∧ b = d) := by
  constructor
  · intro h
    have h1 := mdb_mdl a b
    rw [h, mdb_mdl] at h1
    simp only [Prod.mk.injEq] at h1
    omega
  · rintro ⟨rfl, rfl⟩; rfl
theorem mdl_turned (a b : Int) : (mdl b a).2 = -(mdl a b).2 ∧ (mdl a b).1 - 1 ≤ (mdl b a).1 ∧ (mdl b a).1 ≤ (mdl a b).1 + 1 := by
  unfold mdl
  simp only
  omega
theorem mdl_bd (l r n : Int) (h1 : -n ≤ l) (h2 : l ≤ n) (h3 : -n ≤ r) (h4 : r ≤ n) : -n ≤ (mdl l r).1 ∧ (mdl l r).1 ≤ n ∧ -(2 * n) ≤ (mdl l r).2 ∧ (mdl l r).2 ≤ 2 * n := by
  unfold mdl
  simp only
  omega

/-- A coefficient of the n-th frame that didn't come. -/
def scl (x : Int) (n : Nat) : Int := if n = 0 then x else if 4 ≤ n then 0 else ((4 - n : Nat) * x).tdiv 4
/-- Rounded toward 0. -/
theorem tdiv4 (x : Int) : (0 ≤ x → x.tdiv 4 = x / 4) ∧ (x ≤ 0 → x.tdiv 4 = -(-x / 4)) := by
  constructor
  · intro h; exact Int.tdiv_eq_ediv_of_nonneg h
  · intro h
    have := Int.tdiv_eq_ediv_of_nonneg (a := -x) (b := 4) (by omega)
    rw [Int.neg_tdiv] at this
    omega
theorem scl_eq (x : Int) (n : Nat) : scl x n = if n = 0 then x else if n = 1 then (3 * x).tdiv 4 else if n = 2 then (2 * x).tdiv 4 else if n = 3 then x.tdiv 4 else 0 := by
  unfold scl
  by_cases h0 : n = 0
  · rw [if_pos h0, if_pos h0]
  · by_cases h1 : n = 1
    · subst h1; rfl
    · by_cases h2 : n = 2
      · subst h2; rfl
      · by_cases h3 : n = 3
        · subst h3
          show ((1 : Nat) * x : Int).tdiv 4 = x.tdiv 4
          rw [show ((1 : Nat) : Int) * x = x by omega]
        · rw [if_neg h0, if_neg h0, if_neg h1, if_neg h2, if_neg h3, if_pos (by omega)]
/-- None is louder the longer it is missing; none has another sign. -/
theorem scl_falls (x : Int) (n : Nat) : (scl x (n + 1)).natAbs ≤ (scl x n).natAbs ∧ (scl x n).natAbs ≤ x.natAbs ∧ (0 ≤ x → 0 ≤ scl x n) ∧ (x ≤ 0 → scl x n ≤ 0) ∧ (4 ≤ n → scl x n = 0) := by
  have t1 := tdiv4 (3 * x)
  have t2 := tdiv4 (2 * x)
  have t3 := tdiv4 x
  rw [scl_eq, scl_eq]
  by_cases h0 : n = 0
  · subst h0
    simp only [Nat.zero_add, if_true, if_neg (show ¬ (1 : Nat) = 0 by decide)]
    rcases Int.le_total 0 x with h | h
    · have := t1.1 (by omega); omega
    · have := t1.2 (by omega); omega
  · by_cases h1 : n = 1
    · subst h1
      simp only [Nat.reduceAdd, if_true, if_neg (show ¬ (1 : Nat) = 0 by decide), if_neg (show ¬ (2 : Nat) = 0 by decide), if_neg (show ¬ (2 : Nat) = 1 by decide)]
      rcases Int.le_total 0 x with h | h
      · have := t1.1 (by omega); have := t2.1 (by omega); omega
      · have := t1.2 (by omega); have := t2.2 (by omega); omega
    · by_cases h2 : n = 2
      · subst h2
        simp only [Nat.reduceAdd, if_true, if_neg (show ¬ (2 : Nat) = 0 by decide), if_neg (show ¬ (2 : Nat) = 1 by decide), if_neg (show ¬ (3 : Nat) = 0 by decide), if_neg (show ¬ (3 : Nat) = 1 by decide), if_neg (show ¬ (3 : Nat) = 2 by decide)]
        rcases Int.le_total 0 x with h | h
        · have := t2.1 (by omega); have := t3.1 (by omega); omega
        · have := t2.2 (by omega); have := t3.2 (by omega); omega
      · by_cases h3 : n = 3
        · subst h3
          simp only [Nat.reduceAdd, if_true, if_neg (show ¬ (3 : Nat) = 0 by decide), if_neg (show ¬ (3 : Nat) = 1 by decide), if_neg (show ¬ (3 : Nat) = 2 by decide), if_neg (show ¬ (4 : Nat) = 0 by decide), if_neg (show ¬ (4 : Nat) = 1 by decide), if_neg (show ¬ (4 : Nat) = 2 by decide), if_neg (show ¬ (4 : Nat) = 3 by decide)]
          rcases Int.le_total 0 x with h | h
          · have := t3.1 (by omega); omega
          · have := t3.2 (by omega); omega
        · rw [if_neg h0, if_neg h1, if_neg h2, if_neg h3, if_neg (by omega), if_neg (by omega), if_neg (by omega), if_neg (by omega)]
          omega
/-- A sample, cut. -/
def ctS (x : Int) : Int := if 32767 < x then 32767 else if x < -32768 then -32768 else x
theorem ctS_bd (x : Int) : -32768 ≤ ctS x ∧ ctS x ≤ 32767 := by
  unfold ctS
  split
  · omega
  · split <;> omega
theorem ctS_twice (x : Int) : ctS (ctS x) = ctS x := by
  have h := ctS_bd x
  generalize ctS x = y at *
  unfold ctS
  rw [if_neg (by omega), if_neg (by omega)]
/-- How many in a row didn't come, and what came last, behind so many frames: a list of what came. -/
def rowN {α : Type} (l : List (Bool × α)) (d : α) : Nat → Nat × α
  | 0 => (0, d)
  | n + 1 => match l[n]? with
    | some (true, a) => (0, a)
    | some (false, _) => ((rowN l d n).1 + 1, (rowN l d n).2)
    | none => rowN l d n
theorem rowN_append {α : Type} (l m : List (Bool × α)) (d : α) (n : Nat) (h : n ≤ l.length) : rowN (l ++ m) d n = rowN l d n := by
  induction n with
  | zero => rfl
  | succ n ih =>
    have ih := ih (by omega)
    unfold rowN
    rw [List.getElem?_append_left (by omega), ih]
end Go.Proofs.Ytpfdjddjoclldaa.M
