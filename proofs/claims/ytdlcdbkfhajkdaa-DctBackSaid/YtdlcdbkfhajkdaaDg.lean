/-
  Plain facts of layer 10: two points crossed, first number by first, then second by second. No program is named here. No conditions but those that each fact names.
-/
import Derived.Test.YtdlcdbkfhajkdaaDb
namespace Go.Proofs.Ytdlcdbkfhajkdaa.M
/-- A point's first number, or its second. -/
def co (m : Nat) (v : Int × Int) : Int := if m = 0 then v.1 else v.2
theorem flat_co (l : List (Int × Int)) (n m : Nat) (hm : m < 2) : (flat l).getD (n * 2 + m) 0 = co m (l.getD n (0, 0)) := by
  have : m = 0 ∨ m = 1 := by omega
  rcases this with rfl | rfl
  · exact flat_fst l n
  · exact flat_snd l n
/-- Points s and t of a list, behind m steps: P and Q are what their first numbers, and their second ones, are crossed to. -/
def crs (l : List (Int × Int)) (s t : Nat) (P Q : Int × Int) : Nat → List (Int × Int)
  | 0 => l
  | 1 => (l.set s (P.1, (l.getD s (0, 0)).2)).set t (P.2, (l.getD t (0, 0)).2)
  | _ => (l.set s (P.1, Q.1)).set t (P.2, Q.2)
/-- .. behind the next one's first store. -/
def crm (l : List (Int × Int)) (s t : Nat) (P Q : Int × Int) : Nat → List (Int × Int)
  | 0 => l.set s (P.1, (l.getD s (0, 0)).2)
  | _ => (l.set s (P.1, Q.1)).set t (P.2, (l.getD t (0, 0)).2)
theorem crs_len (l : List (Int × Int)) (s t : Nat) (P Q : Int × Int) (m : Nat) : (crs l s t P Q m).length = l.length := by
  match m with
  | 0 => rfl
  | 1 => simp [crs]
  | _ + 2 => simp [crs]
theorem crm_len (l : List (Int × Int)) (s t : Nat) (P Q : Int × Int) (m : Nat) : (crm l s t P Q m).length = l.length := by
  match m with
  | 0 => simp [crm]
  | _ + 1 => simp [crm]
theorem crs_at (l : List (Int × Int)) (s t : Nat) (P Q : Int × Int) (m : Nat) (hs : s < l.length) (ht : t < l.length) (hne : s ≠ t) (hm : m < 2) :
    (flat (crs l s t P Q m)).getD (s * 2 + m) 0 = co m (l.getD s (0, 0)) ∧ (flat (crs l s t P Q m)).getD (t * 2 + m) 0 = co m (l.getD t (0, 0)) := by
  rw [flat_co _ _ _ hm, flat_co _ _ _ hm]
  have : m = 0 ∨ m = 1 := by omega
  rcases this with rfl | rfl
  · exact ⟨rfl, rfl⟩
  · show co 1 (((l.set s (P.1, (l.getD s (0, 0)).2)).set t (P.2, (l.getD t (0, 0)).2)).getD s (0, 0)) = _ ∧ co 1 (((l.set s (P.1, (l.getD s (0, 0)).2)).set t (P.2, (l.getD t (0, 0)).2)).getD t (0, 0)) = _
    rw [getD_set_far _ _ _ _ _ (Ne.symm hne), getD_set_self _ _ _ _ hs, getD_set_self _ _ _ _ (by rw [List.length_set]; exact ht)]
    exact ⟨rfl, rfl⟩
theorem crs_one (l : List (Int × Int)) (s t : Nat) (P Q : Int × Int) (m : Nat) (hs : s < l.length) (hne : s ≠ t) (hm : m < 2) :
    (flat (crs l s t P Q m)).set (s * 2 + m) (if m = 0 then P.1 else Q.1) = flat (crm l s t P Q m) := by
  have : m = 0 ∨ m = 1 := by omega
  rcases this with rfl | rfl
  · exact flat_set1 _ _ _
  · refine (flat_set2 _ _ _).trans ?_
    show flat (((l.set s (P.1, (l.getD s (0, 0)).2)).set t (P.2, (l.getD t (0, 0)).2)).set s ((((l.set s (P.1, (l.getD s (0, 0)).2)).set t (P.2, (l.getD t (0, 0)).2)).getD s (0, 0)).1, Q.1)) = flat ((l.set s (P.1, Q.1)).set t (P.2, (l.getD t (0, 0)).2))
    rw [getD_set_far _ _ _ _ _ (Ne.symm hne), getD_set_self _ _ _ _ hs, List.set_comm _ _ (Ne.symm hne), List.set_set]
theorem crm_one (l : List (Int × Int)) (s t : Nat) (P Q : Int × Int) (m : Nat) (ht : t < l.length) (hne : s ≠ t) (hm : m < 2) :
    (flat (crm l s t P Q m)).set (t * 2 + m) (if m = 0 then P.2 else Q.2) = flat (crs l s t P Q (m + 1)) := by
  have : m = 0 ∨ m = 1 := by omega
  rcases this with rfl | rfl
  · refine (flat_set1 _ _ _).trans ?_
    show flat ((l.set s (P.1, (l.getD s (0, 0)).2)).set t (P.2, ((l.set s (P.1, (l.getD s (0, 0)).2)).getD t (0, 0)).2)) = flat ((l.set s (P.1, (l.getD s (0, 0)).2)).set t (P.2, (l.getD t (0, 0)).2))
    rw [getD_set_far _ _ _ _ _ hne]
  · refine (flat_set2 _ _ _).trans ?_
    show flat (((l.set s (P.1, Q.1)).set t (P.2, (l.getD t (0, 0)).2)).set t ((((l.set s (P.1, Q.1)).set t (P.2, (l.getD t (0, 0)).2)).getD t (0, 0)).1, Q.2)) = flat ((l.set s (P.1, Q.1)).set t (P.2, Q.2))
    rw [getD_set_self _ _ _ _ (by rw [List.length_set]; exact ht), List.set_set]
theorem crs_two (l : List (Int × Int)) (s t : Nat) (P Q : Int × Int) (hs : s < l.length) (ht : t < l.length) (hne : s ≠ t) :
    (crs l s t P Q 2).getD s (0, 0) = (P.1, Q.1) ∧ (crs l s t P Q 2).getD t (0, 0) = (P.2, Q.2) := by
  show ((l.set s (P.1, Q.1)).set t (P.2, Q.2)).getD s (0, 0) = _ ∧ ((l.set s (P.1, Q.1)).set t (P.2, Q.2)).getD t (0, 0) = _
  rw [getD_set_far _ _ _ _ _ (Ne.symm hne), getD_set_self _ _ _ _ hs, getD_set_self _ _ _ _ (by rw [List.length_set]; exact ht)]
  exact ⟨rfl, rfl⟩
theorem crs_meet (l : List (Int × Int)) (i j : Nat) (k : Int) (hne : i ≠ j) :
    (crs l j i (lft ((l.getD i (0, 0)).1, (l.getD j (0, 0)).1) 64) (lft ((l.getD i (0, 0)).2, (l.getD j (0, 0)).2) 64) 2).set j (bfw (l.getD i (0, 0)) (l.getD j (0, 0)) k) = (l.set i (bfz (l.getD i (0, 0)) (l.getD j (0, 0)))).set j (bfw (l.getD i (0, 0)) (l.getD j (0, 0)) k) := by
  show ((l.set j _).set i _).set j _ = _
  rw [List.set_comm _ _ hne, List.set_set, List.set_comm _ _ (Ne.symm hne)]
  rfl
theorem crs_part (l : List (Int × Int)) (i j : Nat) (k : Int) (hne : i ≠ j) (u : Int × Int) (hu : lfb (l.getD j (0, 0)) k = u) :
    crs (l.set j u) i j (lfb (u.1, (l.getD i (0, 0)).1) 64) (lfb (u.2, (l.getD i (0, 0)).2) 64) 2 = (l.set i (ubz (l.getD i (0, 0)) (l.getD j (0, 0)) k)).set j (ubw (l.getD i (0, 0)) (l.getD j (0, 0)) k) := by
  show ((l.set j u).set i _).set j _ = _
  rw [List.set_comm _ _ (Ne.symm hne), List.set_set]
  subst hu
  rfl
end Go.Proofs.Ytdlcdbkfhajkdaa.M
