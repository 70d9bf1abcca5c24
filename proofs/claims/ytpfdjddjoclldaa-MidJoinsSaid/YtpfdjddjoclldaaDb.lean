/-
  Plain facts of layer 10: waves and the way back as far as a place. No program is named here. No conditions but those that each fact names.
-/
import Derived.Test.YtpfdjddjoclldaaDa
namespace Go.Proofs.Ytpfdjddjoclldaa.M
theorem rng_set {α : Type} (n : Nat) (f g : Nat → α) (j : Nat) (x : α) (hj : x = g j) (ho : ∀ i, i < n → i ≠ j → f i = g i) : ((List.range n).map f).set j x = (List.range n).map g := by
  apply List.ext_getElem
  · simp
  · intro i h1 h2
    simp only [List.length_set, List.length_map, List.length_range] at h1
    rw [List.getElem_set]
    by_cases e : j = i
    · rw [if_pos e, hj, e]; simp
    · rw [if_neg e]
      simp only [List.getElem_map, List.getElem_range]
      exact ho i h1 fun q => e q.symm
theorem rng_getD {α : Type} (n : Nat) (f : Nat → α) (j : Nat) (d : α) (h : j < n) : ((List.range n).map f).getD j d = f j := by
  simp [List.getD_eq_getElem?_getD, h]
theorem rng_congr {α : Type} (n : Nat) (f g : Nat → α) (h : ∀ i, i < n → f i = g i) : (List.range n).map f = (List.range n).map g := by
  apply List.map_congr_left
  intro i hi
  exact h i (List.mem_range.1 hi)
theorem rng_id {α : Type} (l : List α) (n : Nat) (d : α) (h : l.length = n) : (List.range n).map (fun i => l.getD i d) = l := by
  apply List.ext_getElem
  · simp [h]
  · intro i h1 h2
    simp [List.getD_eq_getElem?_getD, h2]
theorem flp_lt (k : Nat) : flp k < 16 := by unfold flp; omega
theorem flp_flp_all : ∀ k : Fin 16, flp (flp k.1) = k.1 := by decide
theorem flp_flp (k : Nat) (h : k < 16) : flp (flp k) = k := flp_flp_all ⟨k, h⟩
/-- No point turned. -/
def z16 : List (Int × Int) := List.replicate 16 (0, 0)
/-- A frame's first k points. -/
def ptk (f : List Int) (k : Nat) : List (Int × Int) := (List.range 16).map fun n => if n < k then lft (f.getD (2 * n) 0, f.getD (31 - 2 * n) 0) (-(8 * (n : Int) + 2)) else (0, 0)
theorem ptk_len (f : List Int) (k : Nat) : (ptk f k).length = 16 := by simp [ptk]
theorem ptk_zero (f : List Int) : ptk f 0 = z16 := by
  show _ = (List.range 16).map fun _ => ((0, 0) : Int × Int)
  exact rng_congr _ _ _ fun i _ => if_neg (by omega)
theorem ptk_full (f : List Int) : ptk f 16 = pts f := rng_congr _ _ _ fun _ h => if_pos h
theorem ptk_step (f : List Int) (k : Nat) : (ptk f k).set k (lft (f.getD (2 * k) 0, f.getD (31 - 2 * k) 0) (-(8 * (k : Int) + 2))) = ptk f (k + 1) := by
  unfold ptk
  refine rng_set _ _ _ _ _ ?_ ?_
  · rw [if_pos (by omega)]
  · intro i _ hne
    by_cases e : i < k
    · rw [if_pos e, if_pos (by omega)]
    · rw [if_neg e, if_neg (by omega)]
/-- A wheel, turned at its first k points (read backward); and the waves as far as they are told. -/
def ouw (l : List (Int × Int)) (k : Nat) : List (Int × Int) := (List.range 16).map fun n => if flp n < k then lft (l.getD n (0, 0)) (-(8 * (flp n : Int) + 2)) else l.getD n (0, 0)
theorem ouw_len (l : List (Int × Int)) (k : Nat) : (ouw l k).length = 16 := by simp [ouw]
theorem ouw_zero (l : List (Int × Int)) (h : l.length = 16) : ouw l 0 = l := by
  refine Eq.trans ?_ (rng_id l 16 (0, 0) h)
  exact rng_congr _ _ _ fun i _ => if_neg (by omega)
theorem ouw_at (l : List (Int × Int)) (k : Nat) (h : k < 16) : (ouw l k).getD (flp k) (0, 0) = l.getD (flp k) (0, 0) := by
  unfold ouw
  rw [rng_getD _ _ _ _ (flp_lt k), if_neg (by rw [flp_flp k h]; omega)]
theorem ouw_step (l : List (Int × Int)) (k : Nat) (h : k < 16) : (ouw l k).set (flp k) (lft (l.getD (flp k) (0, 0)) (-(8 * (k : Int) + 2))) = ouw l (k + 1) := by
  unfold ouw
  refine rng_set _ _ _ _ _ ?_ ?_
  · rw [if_pos (by rw [flp_flp k h]; omega), flp_flp k h]
  · intro i hi hne
    have hn : flp i ≠ k := fun e => hne (by rw [← e, flp_flp i hi])
    by_cases e : flp i < k
    · rw [if_pos e, if_pos (by omega)]
    · rw [if_neg e, if_neg (by omega)]
def ouf (f : List Int) (l : List (Int × Int)) (k : Nat) : List Int := (List.range 32).map fun i =>
  if i % 2 = 0 then (if i / 2 < k then (lft (l.getD (flp (i / 2)) (0, 0)) (-(8 * ((i / 2 : Nat) : Int) + 2))).1 else f.getD i 0) else (if (31 - i) / 2 < k then -(lft (l.getD (flp ((31 - i) / 2)) (0, 0)) (-(8 * (((31 - i) / 2 : Nat) : Int) + 2))).2 else f.getD i 0)
theorem ouf_len (f : List Int) (l : List (Int × Int)) (k : Nat) : (ouf f l k).length = 32 := by simp [ouf]
theorem ouf_zero (f : List Int) (l : List (Int × Int)) (h : f.length = 32) : ouf f l 0 = f := by
  refine Eq.trans ?_ (rng_id f 32 0 h)
  refine rng_congr _ _ _ fun i _ => ?_
  by_cases e : i % 2 = 0
  · rw [if_pos e, if_neg (by omega)]
  · rw [if_neg e, if_neg (by omega)]
theorem ouf_full (f : List Int) (l : List (Int × Int)) : ouf f l 16 = outp l := by
  unfold ouf outp outpH
  refine rng_congr _ _ _ fun i _ => ?_
  by_cases e : i % 2 = 0
  · rw [if_pos e, if_pos e, if_pos (by omega)]
  · rw [if_neg e, if_neg e, if_pos (by omega)]
theorem ouf_step (f : List Int) (l : List (Int × Int)) (k : Nat) (h : k < 16) :
    ((ouf f l k).set (2 * k) (lft (l.getD (flp k) (0, 0)) (-(8 * (k : Int) + 2))).1).set (31 - 2 * k) (-(lft (l.getD (flp k) (0, 0)) (-(8 * (k : Int) + 2))).2) = ouf f l (k + 1) := by
  unfold ouf
  rw [rng_set 32 _ (fun i => if i % 2 = 0 then (if i / 2 < k + 1 then (lft (l.getD (flp (i / 2)) (0, 0)) (-(8 * ((i / 2 : Nat) : Int) + 2))).1 else f.getD i 0) else (if (31 - i) / 2 < k then -(lft (l.getD (flp ((31 - i) / 2)) (0, 0)) (-(8 * (((31 - i) / 2 : Nat) : Int) + 2))).2 else f.getD i 0)) (2 * k)]
  · refine rng_set _ _ _ _ _ ?_ ?_
    · rw [if_neg (by omega), if_pos (by omega), show (31 - (31 - 2 * k)) / 2 = k by omega]
    · intro i _ hne
      by_cases e : i % 2 = 0
      · rw [if_pos e, if_pos e]
      · rw [if_neg e, if_neg e]
        by_cases e2 : (31 - i) / 2 < k
        · rw [if_pos e2, if_pos (by omega)]
        · rw [if_neg e2, if_neg (by omega)]
  · rw [if_pos (by omega), if_pos (by omega), show 2 * k / 2 = k by omega]
  · intro i _ hne
    by_cases e : i % 2 = 0
    · rw [if_pos e, if_pos e]
      by_cases e2 : i / 2 < k
      · rw [if_pos e2, if_pos (by omega)]
      · rw [if_neg e2, if_neg (by omega)]
    · rw [if_neg e, if_neg e]
/-- The way back: a wheel's points as far as k waves are taken. -/
def pbk (f : List Int) (k : Nat) : List (Int × Int) := (List.range 16).map fun n => if flp n < k then lfb (f.getD (2 * flp n) 0, -(f.getD (31 - 2 * flp n) 0)) (-(8 * (flp n : Int) + 2)) else (0, 0)
theorem pbk_len (f : List Int) (k : Nat) : (pbk f k).length = 16 := by simp [pbk]
theorem pbk_zero (f : List Int) : pbk f 0 = z16 := by
  show _ = (List.range 16).map fun _ => ((0, 0) : Int × Int)
  exact rng_congr _ _ _ fun i _ => if_neg (by omega)
theorem pbk_full (f : List Int) : pbk f 16 = ptsB f := rng_congr _ _ _ fun i _ => if_pos (flp_lt i)
theorem pbk_step (f : List Int) (k : Nat) (h : k < 16) : (pbk f k).set (flp k) (lfb (f.getD (2 * k) 0, -(f.getD (31 - 2 * k) 0)) (-(8 * (k : Int) + 2))) = pbk f (k + 1) := by
  unfold pbk
  refine rng_set _ _ _ _ _ ?_ ?_
  · rw [if_pos (by rw [flp_flp k h]; omega), flp_flp k h]
  · intro i hi hne
    have hn : flp i ≠ k := fun e => hne (by rw [← e, flp_flp i hi])
    by_cases e : flp i < k
    · rw [if_pos e, if_pos (by omega)]
    · rw [if_neg e, if_neg (by omega)]
def obw (l : List (Int × Int)) (k : Nat) : List (Int × Int) := (List.range 16).map fun n => if n < k then lfb (l.getD n (0, 0)) (-(8 * (n : Int) + 2)) else l.getD n (0, 0)
theorem obw_len (l : List (Int × Int)) (k : Nat) : (obw l k).length = 16 := by simp [obw]
theorem obw_zero (l : List (Int × Int)) (h : l.length = 16) : obw l 0 = l := by
  refine Eq.trans ?_ (rng_id l 16 (0, 0) h)
  exact rng_congr _ _ _ fun i _ => if_neg (by omega)
theorem obw_at (l : List (Int × Int)) (k : Nat) (h : k < 16) : (obw l k).getD k (0, 0) = l.getD k (0, 0) := by
  unfold obw
  rw [rng_getD _ _ _ _ h, if_neg (by omega)]
theorem obw_step (l : List (Int × Int)) (k : Nat) : (obw l k).set k (lfb (l.getD k (0, 0)) (-(8 * (k : Int) + 2))) = obw l (k + 1) := by
  unfold obw
  refine rng_set _ _ _ _ _ ?_ ?_
  · rw [if_pos (by omega)]
  · intro i hi hne
    by_cases e : i < k
    · rw [if_pos e, if_pos (by omega)]
    · rw [if_neg e, if_neg (by omega)]
def obf (f : List Int) (l : List (Int × Int)) (k : Nat) : List Int := (List.range 32).map fun i =>
  if i % 2 = 0 then (if i / 2 < k then (lfb (l.getD (i / 2) (0, 0)) (-(8 * ((i / 2 : Nat) : Int) + 2))).1 else f.getD i 0) else (if (31 - i) / 2 < k then (lfb (l.getD ((31 - i) / 2) (0, 0)) (-(8 * (((31 - i) / 2 : Nat) : Int) + 2))).2 else f.getD i 0)
theorem obf_len (f : List Int) (l : List (Int × Int)) (k : Nat) : (obf f l k).length = 32 := by simp [obf]
theorem obf_zero (f : List Int) (l : List (Int × Int)) (h : f.length = 32) : obf f l 0 = f := by
  refine Eq.trans ?_ (rng_id f 32 0 h)
  refine rng_congr _ _ _ fun i _ => ?_
  by_cases e : i % 2 = 0
  · rw [if_pos e, if_neg (by omega)]
  · rw [if_neg e, if_neg (by omega)]
theorem obf_full (f : List Int) (l : List (Int × Int)) : obf f l 16 = outB l := by
  unfold obf outB outBH
  refine rng_congr _ _ _ fun i _ => ?_
  by_cases e : i % 2 = 0
  · rw [if_pos e, if_pos e, if_pos (by omega)]
  · rw [if_neg e, if_neg e, if_pos (by omega)]
theorem obf_step (f : List Int) (l : List (Int × Int)) (k : Nat) (h : k < 16) :
    ((obf f l k).set (2 * k) (lfb (l.getD k (0, 0)) (-(8 * (k : Int) + 2))).1).set (31 - 2 * k) (lfb (l.getD k (0, 0)) (-(8 * (k : Int) + 2))).2 = obf f l (k + 1) := by
  unfold obf
  rw [rng_set 32 _ (fun i => if i % 2 = 0 then (if i / 2 < k + 1 then (lfb (l.getD (i / 2) (0, 0)) (-(8 * ((i / 2 : Nat) : Int) + 2))).1 else f.getD i 0) else (if (31 - i) / 2 < k then (lfb (l.getD ((31 - i) / 2) (0, 0)) (-(8 * (((31 - i) / 2 : Nat) : Int) + 2))).2 else f.getD i 0)) (2 * k)]
  · refine rng_set _ _ _ _ _ ?_ ?_
    · rw [if_neg (by omega), if_pos (by omega), show (31 - (31 - 2 * k)) / 2 = k by omega]
    · intro i _ hne
      by_cases e : i % 2 = 0
      · rw [if_pos e, if_pos e]
      · rw [if_neg e, if_neg e]
        by_cases e2 : (31 - i) / 2 < k
        · rw [if_pos e2, if_pos (by omega)]
        · rw [if_neg e2, if_neg (by omega)]
  · rw [if_pos (by omega), if_pos (by omega), show 2 * k / 2 = k by omega]
  · intro i _ hne
    by_cases e : i % 2 = 0
    · rw [if_pos e, if_pos e]
      by_cases e2 : i / 2 < k
      · rw [if_pos e2, if_pos (by omega)]
      · rw [if_neg e2, if_neg (by omega)]
    · rw [if_neg e, if_neg e]
/-- Points no greater than N; numbers no greater than m. -/
theorem tot_mem (p : Int × Int) : ∀ l : List (Int × Int), p ∈ l → sq2 p ≤ tot l
  | [], h => by cases h
  | q :: l, h => by
    have e : tot (q :: l) = sq2 q + tot l := rfl
    rcases List.mem_cons.1 h with rfl | h
    · have := tot_nn l
      omega
    · have := tot_mem p l h
      have := sq2_nn q
      omega
theorem tot_bd (l : List (Int × Int)) (N : Int) (h0 : 0 ≤ N) (h : tot l ≤ N * N) (n : Nat) : (-N ≤ (l.getD n (0, 0)).1 ∧ (l.getD n (0, 0)).1 ≤ N) ∧ (-N ≤ (l.getD n (0, 0)).2 ∧ (l.getD n (0, 0)).2 ≤ N) := by
  by_cases hn : n < l.length
  · have hm : l.getD n (0, 0) ∈ l := by
      rw [List.getD_eq_getElem?_getD, List.getElem?_eq_getElem hn]
      exact List.getElem_mem hn
    have h1 := tot_mem _ l hm
    have e : sq2 (l.getD n (0, 0)) = (l.getD n (0, 0)).1 * (l.getD n (0, 0)).1 + (l.getD n (0, 0)).2 * (l.getD n (0, 0)).2 := rfl
    have q1 := sqnn (l.getD n (0, 0)).1
    have q2 := sqnn (l.getD n (0, 0)).2
    exact ⟨sq_le _ _ h0 (by omega), sq_le _ _ h0 (by omega)⟩
  · rw [List.getD_eq_getElem?_getD, List.getElem?_eq_none (by omega)]
    simp only [Option.getD_none]
    omega
/-- What no number of a held frame's waves is greater than, on the way. -/
def way : Int := 8589934592
theorem step_way (a b : Int) (N M : Int) (h : Step a b) (hN : 1 ≤ N) (ha : a ≤ N * N) (hM : N + N / 4000 + 19 = M) : 1 ≤ M ∧ b ≤ M * M := by
  have := h.no N hN ha
  rw [hM] at this
  exact ⟨by omega, this⟩
theorem le_way (a N : Int) (hN : 1 ≤ N) (ha : a ≤ N * N) (h : N ≤ way) : a ≤ way * way := by
  have h1 : N * N ≤ N * way := Int.mul_le_mul_of_nonneg_left h (by omega)
  have h2 : N * way ≤ way * way := Int.mul_le_mul_of_nonneg_right h (by omega)
  omega
theorem steps_way (a b c d e f g h i : Int) (p1 : Step a b) (p2 : Step b c) (p3 : Step c d) (p4 : Step d e) (p5 : Step e f) (p6 : Step f g) (p7 : Step g h) (p8 : Step h i) (i' : Int) (p9 : Step i i') (ha : a ≤ 36893488147419103232) :
    b ≤ way * way ∧ d ≤ way * way ∧ f ≤ way * way ∧ h ≤ way * way ∧ i' ≤ way * way := by
  have k0 : a ≤ 6074001000 * 6074001000 := Int.le_trans ha (by decide)
  obtain ⟨n1, l1⟩ := step_way _ _ _ _ p1 (by omega) k0 rfl
  obtain ⟨n2, l2⟩ := step_way _ _ _ _ p2 n1 l1 rfl
  obtain ⟨n3, l3⟩ := step_way _ _ _ _ p3 n2 l2 rfl
  obtain ⟨n4, l4⟩ := step_way _ _ _ _ p4 n3 l3 rfl
  obtain ⟨n5, l5⟩ := step_way _ _ _ _ p5 n4 l4 rfl
  obtain ⟨n6, l6⟩ := step_way _ _ _ _ p6 n5 l5 rfl
  obtain ⟨n7, l7⟩ := step_way _ _ _ _ p7 n6 l6 rfl
  obtain ⟨n8, l8⟩ := step_way _ _ _ _ p8 n7 l7 rfl
  obtain ⟨n9, l9⟩ := step_way _ _ _ _ p9 n8 l8 rfl
  exact ⟨le_way _ _ n1 l1 (by decide), le_way _ _ n3 l3 (by decide), le_way _ _ n5 l5 (by decide), le_way _ _ n7 l7 (by decide), le_way _ _ n9 l9 (by decide)⟩
/-- A frame that is held. -/
def Hld (f : List Int) : Prop := f.length = 32 ∧ ∀ x ∈ f, -1073741824 ≤ x ∧ x ≤ 1073741824
theorem Hld.sqs {f : List Int} (h : Hld f) : sqs f ≤ 36893488147419103232 := by
  have := sqs_le 1073741824 f h.2
  rw [h.1] at this
  exact Int.le_trans this (by decide)
theorem Hld.at {f : List Int} (h : Hld f) (i : Nat) : -1073741824 ≤ f.getD i 0 ∧ f.getD i 0 ≤ 1073741824 := by
  by_cases hi : i < f.length
  · rw [List.getD_eq_getElem?_getD, List.getElem?_eq_getElem hi]
    exact h.2 _ (List.getElem_mem hi)
  · rw [List.getD_eq_getElem?_getD, List.getElem?_eq_none (by omega)]
    simp only [Option.getD_none]
    omega
/-- A wheel's rounds, the i-th ahead. -/
def wrd (f : List Int) : Nat → List (Int × Int)
  | 0 => pts f
  | 1 => bfs (pts f) prs16
  | 2 => bfs (bfs (pts f) prs16) prs8
  | 3 => bfs (bfs (bfs (pts f) prs16) prs8) prs4
  | _ => bfs (bfs (bfs (bfs (pts f) prs16) prs8) prs4) prs2
def wrb (f : List Int) : Nat → List (Int × Int)
  | 0 => ptsB f
  | 1 => ubs (ptsB f) prs2
  | 2 => ubs (ubs (ptsB f) prs2) prs4
  | 3 => ubs (ubs (ubs (ptsB f) prs2) prs4) prs8
  | _ => ubs (ubs (ubs (ubs (ptsB f) prs2) prs4) prs8) prs16
theorem wrd_len (f : List Int) (i : Nat) : (wrd f i).length = 16 := by
  have a1 := pts_len f
  have a2 := bfs16_len _ a1
  have a3 := bfs8_len _ a2
  have a4 := bfs4_len _ a3
  have a5 := bfs2_len _ a4
  match i with
  | 0 => exact a1
  | 1 => exact a2
  | 2 => exact a3
  | 3 => exact a4
  | _ + 4 => exact a5
theorem wrb_len (f : List Int) (i : Nat) : (wrb f i).length = 16 := by
  have a1 := ptsB_len f
  have a2 := ubs2_len _ a1
  have a3 := ubs4_len _ a2
  have a4 := ubs8_len _ a3
  have a5 := ubs16_len _ a4
  match i with
  | 0 => exact a1
  | 1 => exact a2
  | 2 => exact a3
  | 3 => exact a4
  | _ + 4 => exact a5
theorem wrd_bd (f : List Int) (h : Hld f) (i : Nat) (n : Nat) : (-way ≤ ((wrd f i).getD n (0, 0)).1 ∧ ((wrd f i).getD n (0, 0)).1 ≤ way) ∧ (-way ≤ ((wrd f i).getD n (0, 0)).2 ∧ ((wrd f i).getD n (0, 0)).2 ≤ way) := by
  have a1 := pts_len f
  have a2 := bfs16_len _ a1
  have a3 := bfs8_len _ a2
  have a4 := bfs4_len _ a3
  obtain ⟨s1, p1, q1⟩ := step16 _ a1
  obtain ⟨s2, p2, q2⟩ := step8 _ a2
  obtain ⟨s3, p3, q3⟩ := step4 _ a3
  obtain ⟨s4, p4, q4⟩ := step2 _ a4
  obtain ⟨h1, h2, h3, h4, h5⟩ := steps_way _ _ _ _ _ _ _ _ _ (step_pts f h.1) p1 q1 p2 q2 p3 q3 p4 _ q4 h.sqs
  refine tot_bd _ way (by decide) ?_ n
  match i with
  | 0 => exact h1
  | 1 => exact h2
  | 2 => exact h3
  | 3 => exact h4
  | _ + 4 => exact h5
theorem wrb_bd (f : List Int) (h : Hld f) (i : Nat) (n : Nat) : (-way ≤ ((wrb f i).getD n (0, 0)).1 ∧ ((wrb f i).getD n (0, 0)).1 ≤ way) ∧ (-way ≤ ((wrb f i).getD n (0, 0)).2 ∧ ((wrb f i).getD n (0, 0)).2 ≤ way) := by
  have a1 := ptsB_len f
  have a2 := ubs2_len _ a1
  have a3 := ubs4_len _ a2
  have a4 := ubs8_len _ a3
  obtain ⟨s1, p1, q1⟩ := stepU2 _ a1
  obtain ⟨s2, p2, q2⟩ := stepU4 _ a2
  obtain ⟨s3, p3, q3⟩ := stepU8 _ a3
  obtain ⟨s4, p4, q4⟩ := stepU16 _ a4
  obtain ⟨h1, h2, h3, h4, h5⟩ := steps_way _ _ _ _ _ _ _ _ _ (step_ptsB f h.1) p1 q1 p2 q2 p3 q3 p4 _ q4 h.sqs
  refine tot_bd _ way (by decide) ?_ n
  match i with
  | 0 => exact h1
  | 1 => exact h2
  | 2 => exact h3
  | 3 => exact h4
  | _ + 4 => exact h5
/-- Half of the i-th size, forth and back. -/
def hfw (i : Nat) : Nat := [8, 4, 2, 1].getD i 1
def hbw (i : Nat) : Nat := [1, 2, 4, 8].getD i 8
theorem hfw_is (i : Nat) : isH (hfw i) := by
  match i with
  | 0 => exact Or.inl rfl
  | 1 => exact Or.inr (Or.inl rfl)
  | 2 => exact Or.inr (Or.inr (Or.inl rfl))
  | 3 => exact Or.inr (Or.inr (Or.inr rfl))
  | _ + 4 => exact Or.inr (Or.inr (Or.inr rfl))
theorem hbw_is (i : Nat) : isH (hbw i) := by
  match i with
  | 0 => exact Or.inr (Or.inr (Or.inr rfl))
  | 1 => exact Or.inr (Or.inr (Or.inl rfl))
  | 2 => exact Or.inr (Or.inl rfl)
  | 3 => exact Or.inl rfl
  | _ + 4 => exact Or.inl rfl
theorem wrd_next (f : List Int) (i : Nat) (h : i < 4) : rdn (fun z w _ => bfz z w) bfw (hfw i) (wrd f i) 8 = wrd f (i + 1) := by
  rw [rdn_full]
  match i, h with
  | 0, _ => rfl
  | 1, _ => rfl
  | 2, _ => rfl
  | 3, _ => rfl
theorem wrb_next (f : List Int) (i : Nat) (h : i < 4) : rdn ubz ubw (hbw i) (wrb f i) 8 = wrb f (i + 1) := by
  rw [rdn_full]
  match i, h with
  | 0, _ => rfl
  | 1, _ => rfl
  | 2, _ => rfl
  | 3, _ => rfl
end Go.Proofs.Ytpfdjddjoclldaa.M
