/-
  Layer 6: what a finder holds as it lies, and the contract of newFinder. No conditions.
-/
import Derived.Test.YtbokecpcefcimaaNc
import Derived.Test.YtbokecpcefcimaaAc
namespace Go.Proofs.Ytbokecpcefcimaa
open Go.RowKit
open M

/-- What a finder holds that has taken the numbers T. -/
structure FindD (w : World) (base q f : Nat) (S : Nat → Nat) (T : List Nat) (vt vp vo : Value) (L b gp go m : Nat) (P O : List Nat) (C B : Nat → Nat) : Prop where
  row : Row w q 63 (fin6 f vt vp L vo b)
  fd : Fd w f
  hq : base ≤ q
  own : w.ownsRow base 3 1 vt T.length (vs T)
  neP : vt.ownBlock ≠ some gp
  neO : vt.ownBlock ≠ some go
  poly : NAt w vp P gp
  old : NAt w vo O go
  elT : Els T
  elP : Els P
  elO : Els O
  lp : 1 ≤ P.length ∧ P.length ≤ T.length + 2
  lo : 1 ≤ O.length ∧ O.length ≤ T.length + 2
  seq : ∀ i, i < T.length → T.getD i 0 = S i
  cP : ∀ i, P.getD i 0 = C i
  cO : ∀ i, O.getD i 0 = if m ≤ i then B (i - m) else 0
  bm : Bm S T.length C L B m b
  bl : b < 128
/-- .. some finder. -/
def Find (w : World) (base q f : Nat) (S : Nat → Nat) (T : List Nat) : Prop := ∃ vt vp vo L b gp go m P O C B, FindD w base q f S T vt vp vo L b gp go m P O C B

/-- What is asked of the next number. -/
theorem fl_dc (S C : Nat → Nat) (L : Nat) (T P : List Nat) (s : Nat) (hS : ∀ n, S n < 128) (h1 : C 0 = 1) (hdeg : ∀ i, L < i → C i = 0) (hL : L ≤ T.length) (hp : 1 ≤ P.length) (hs : S T.length = s)
    (hT : ∀ i, i < T.length → T.getD i 0 = S i) (hP : ∀ i, P.getD i 0 = C i) : flN T P s (min (P.length - 1) T.length) = dc C L S T.length := by
  have hk : ∀ k, k ≤ T.length → flN T P s k = sg (k + 1) fun i => mul (C i) (S (T.length - i)) := by
    intro k
    induction k with
    | zero =>
      intro _
      rw [sg_succ, sg_none, Nat.zero_xor, h1, Nat.sub_zero, hs]
      have := hS T.length
      rw [hs] at this
      exact (one_mul s this).symm
    | succ k ih =>
      intro hk
      show flN T P s k ^^^ mul (P.getD (k + 1) 0) (T.getD (T.length - (k + 1)) 0) = _
      rw [ih (by omega), sg_succ (k + 1), hP, hT _ (by omega)]
  rw [hk _ (Nat.min_le_right _ _)]
  have e1 : (sg (T.length + 1) fun i => mul (C i) (S (T.length - i))) = dc C L S T.length := by
    unfold dc
    rw [show T.length + 1 = L + 1 + (T.length - L) by omega]
    refine sg_more _ _ _ fun i hi => ?_
    rw [hdeg i (by omega), mul_zl _ (hS _)]
  rw [← e1]
  have e2 : T.length + 1 = (min (P.length - 1) T.length + 1) + (T.length - min (P.length - 1) T.length) := by omega
  conv => rhs; rw [e2]
  symm
  rcases Nat.lt_or_ge (P.length - 1) T.length with h | h
  · refine sg_more _ _ _ fun i hi => ?_
    rw [← hP i, getD_out P i (by omega), mul_zl _ (hS _)]
  · rw [show T.length - min (P.length - 1) T.length = 0 by omega, Nat.add_zero]
theorem mj_upd (C B : Nat → Nat) (P O : List Nat) (k m : Nat) (hk : k < 128) (hP : ∀ i, P.getD i 0 = C i) (hO : ∀ i, O.getD i 0 = if m ≤ i then B (i - m) else 0) (i : Nat) :
    (mj P O k (max P.length O.length) O.length).getD i 0 = upd C B k m i := by
  rw [mj_all P O k i hk, hP, hO]
  unfold upd
  split
  · rfl
  · rw [mul_zr k hk, Nat.xor_zero]
theorem mj_els (P O : List Nat) (k n j : Nat) (hk : k < 128) (hP : Els P) (hO : Els O) : Els (mj P O k n j) := by
  intro c hc
  unfold mj at hc
  obtain ⟨i, _, rfl⟩ := List.mem_map.1 hc
  have h1 := hP.getD i
  have h2 := hO.getD i
  show (if i < j then P.getD i 0 ^^^ mul k (O.getD i 0) else P.getD i 0) < 128
  split
  · exact xor_lt _ _ h1 (mul_lt _ _ hk h2)
  · exact h1
theorem els_cons0 (l : List Nat) (h : Els l) : Els (0 :: l) := by
  intro c hc
  rcases List.mem_cons.1 hc with rfl | hc
  · omega
  · exact h c hc
theorem els_snoc (l : List Nat) (s : Nat) (h : Els l) (hs : s < 128) : Els (l ++ [s]) := by
  intro c hc
  rcases List.mem_append.1 hc with hc | hc
  · exact h c hc
  · simp at hc; omega
theorem cons_old (O : List Nat) (B : Nat → Nat) (m : Nat) (h : ∀ i, O.getD i 0 = if m ≤ i then B (i - m) else 0) (i : Nat) : (0 :: O).getD i 0 = if m + 1 ≤ i then B (i - (m + 1)) else 0 := by
  cases i with
  | zero => rw [if_neg (by omega)]; rfl
  | succ i =>
    rw [List.getD_cons_succ, h i]
    by_cases hm : m ≤ i
    · rw [if_pos hm, if_pos (by omega), show i + 1 - (m + 1) = i - m by omega]
    · rw [if_neg hm, if_neg (by omega)]
theorem snoc_seq (T : List Nat) (S : Nat → Nat) (s : Nat) (h : ∀ i, i < T.length → T.getD i 0 = S i) (hs : S T.length = s) (i : Nat) (hi : i < (T ++ [s]).length) : (T ++ [s]).getD i 0 = S i := by
  rw [List.length_append, List.length_singleton] at hi
  rcases Nat.lt_or_ge i T.length with h1 | h1
  · rw [← h i h1, List.getD_eq_getElem?_getD, List.getElem?_append_left h1, List.getD_eq_getElem?_getD]
  · have e : i = T.length := by omega
    rw [e, hs, List.getD_eq_getElem?_getD, List.getElem?_append_right (Nat.le_refl _), Nat.sub_self]; rfl

set_option maxRecDepth 100000 in
set_option maxHeartbeats 1000000 in
theorem newFinder_any (w : World) (S : Nat → Nat) :
    Calls Try.prog 30 #[] w fun e w' => ∃ q f, e = .returned (.pointer (some ⟨q, 0, none⟩)) ∧ Find w' w.heap.size q f S [] ∧ Below w.heap.size w w' := by
  go_enter Try.func30, Try.ntmps30
  go_wp2_with fail
  refine (new_any _).mono ?_
  rintro e w1 ⟨rfl, hb, hf⟩
  have HB := Lib.hid hb
  have HF := Lib.hid hf
  clear hb hf
  go_wp2
  have hs := HB.out.size
  have HB4 := Lib.hid (((HB.out.alloc hs (.cells #[.int .i64 1] 3)).alloc (by simp; omega) (.cells #[.int .i64 0, .int .i64 1] 3)).alloc (by simp; omega) (.cells (fin6 w.heap.size (.slice none 0 0) (.slice (some ⟨w1.heap.size, 0, none⟩) 1 1) 0 (.slice (some ⟨w1.heap.size + 1, 0, none⟩) 2 2) 1) 63))
  have r1 : Row (((w1.alloc (.cells #[.int .i64 1] 3)).alloc (.cells #[.int .i64 0, .int .i64 1] 3)).alloc (.cells (fin6 w.heap.size (.slice none 0 0) (.slice (some ⟨w1.heap.size, 0, none⟩) 1 1) 0 (.slice (some ⟨w1.heap.size + 1, 0, none⟩) 2 2) 1) 63)) w1.heap.size 3 #[.int .i64 1] := ((row_new w1 _ rfl _ _).alloc _).alloc _
  have r2 : Row (((w1.alloc (.cells #[.int .i64 1] 3)).alloc (.cells #[.int .i64 0, .int .i64 1] 3)).alloc (.cells (fin6 w.heap.size (.slice none 0 0) (.slice (some ⟨w1.heap.size, 0, none⟩) 1 1) 0 (.slice (some ⟨w1.heap.size + 1, 0, none⟩) 2 2) 1) 63)) (w1.heap.size + 1) 3 #[.int .i64 0, .int .i64 1] := (row_new _ _ (by simp) _ _).alloc _
  have r3 : Row (((w1.alloc (.cells #[.int .i64 1] 3)).alloc (.cells #[.int .i64 0, .int .i64 1] 3)).alloc (.cells (fin6 w.heap.size (.slice none 0 0) (.slice (some ⟨w1.heap.size, 0, none⟩) 1 1) 0 (.slice (some ⟨w1.heap.size + 1, 0, none⟩) 2 2) 1) 63)) (w1.heap.size + 1 + 1) 63 (fin6 w.heap.size (.slice none 0 0) (.slice (some ⟨w1.heap.size, 0, none⟩) 1 1) 0 (.slice (some ⟨w1.heap.size + 1, 0, none⟩) 2 2) 1) := row_new _ _ (by simp) _ _
  have r4 : Fd (((w1.alloc (.cells #[.int .i64 1] 3)).alloc (.cells #[.int .i64 0, .int .i64 1] 3)).alloc (.cells (fin6 w.heap.size (.slice none 0 0) (.slice (some ⟨w1.heap.size, 0, none⟩) 1 1) 0 (.slice (some ⟨w1.heap.size + 1, 0, none⟩) 2 2) 1) 63)) w.heap.size := ((Row.alloc HF.out _).alloc _).alloc _
  have HR1 := Lib.hid r1
  have HR2 := Lib.hid r2
  have HR3 := Lib.hid r3
  have HR4 := Lib.hid r4
  clear r1 r2 r3 r4
  go_ret
  refine ⟨_, w.heap.size, rfl, ⟨.slice none 0 0, .slice (some ⟨w1.heap.size, 0, none⟩) 1 1, .slice (some ⟨w1.heap.size + 1, 0, none⟩) 2 2, 0, 1, w1.heap.size, w1.heap.size + 1, 1, [1], [0, 1], one1, one1, ?_⟩, HB4.out⟩
  exact { row := HR3.out, fd := HR4.out, hq := by omega, own := World.ownsRow_nil _ _ _ _, neP := by simp [Value.ownBlock], neO := by simp [Value.ownBlock],
          poly := ⟨1, _, rfl, HR1.out, fun i hi => by
            have : i = 0 := by simp at hi; omega
            subst this; rfl⟩,
          old := ⟨2, _, rfl, HR2.out, fun i hi => by
            have : i = 0 ∨ i = 1 := by simp at hi; omega
            rcases this with rfl | rfl <;> rfl⟩,
          elT := by intro c hc; simp at hc,
          elP := by intro c hc; simp at hc; omega,
          elO := by intro c hc; simp at hc; omega,
          lp := by simp, lo := by simp, seq := by intro i hi; simp at hi,
          cP := by
            intro i
            unfold one1
            cases i with
            | zero => rfl
            | succ i => rw [if_neg (by omega)]; rfl
          cO := by
            intro i
            unfold one1
            cases i with
            | zero => rfl
            | succ i =>
              rw [if_pos (by omega)]
              cases i with
              | zero => rfl
              | succ i => rw [if_neg (by omega)]; rfl
          bm := bm_start S, bl := by omega }
end Go.Proofs.Ytbokecpcefcimaa
