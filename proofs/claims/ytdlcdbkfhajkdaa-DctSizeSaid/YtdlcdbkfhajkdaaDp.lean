/-
  Layer 10's laws, what they share: frames with numbers up to 2^24; the squares' sum and the greatest number. Conditions: frames of 32 ints, those that each names.
-/
import Derived.Test.YtdlcdbkfhajkdaaDj
namespace Go.Proofs.Ytdlcdbkfhajkdaa
open Go.RowKit
open M
theorem tmod24 (n : Int) : -16777217 < n.tmod 16777217 ∧ n.tmod 16777217 < 16777217 := by
  have h1 := Int.tmod_lt_of_pos n (show (0 : Int) < 16777217 by omega)
  have h2 := Int.tmod_lt_of_pos (-n) (show (0 : Int) < 16777217 by omega)
  rw [Int.neg_tmod] at h2
  omega
/-- A frame with numbers up to 2^24. -/
def hd24 (f : List Int) (k : Nat) : List Int := (List.range 32).map fun i => if i < k then (f.getD i 0).tmod 16777217 else 0
theorem hd24_len (f : List Int) (k : Nat) : (hd24 f k).length = 32 := by simp [hd24]
theorem hd24_zero (f : List Int) : hd24 f 0 = f0 := by
  refine Eq.trans (rng_congr 32 _ (fun _ => (0 : Int)) fun i _ => if_neg (by omega)) ?_
  rfl
theorem hd24_step (f : List Int) (k : Nat) : (hd24 f k).set k ((f.getD k 0).tmod 16777217) = hd24 f (k + 1) := by
  unfold hd24
  refine rng_set _ _ _ _ _ ?_ ?_
  · rw [if_pos (by omega)]
  · intro i _ hne
    by_cases e : i < k
    · rw [if_pos e, if_pos (by omega)]
    · rw [if_neg e, if_neg (by omega)]
theorem hd24_bd (f : List Int) (k : Nat) : ∀ x ∈ hd24 f k, -16777216 ≤ x ∧ x ≤ 16777216 := by
  intro x hx
  obtain ⟨i, _, rfl⟩ := List.mem_map.1 hx
  have := tmod24 (f.getD i 0)
  split <;> omega
theorem hd24_held (f : List Int) : Hld (hd24 f 32) := ⟨hd24_len f 32, fun x hx => by have := hd24_bd f 32 x hx; omega⟩
set_option maxRecDepth 100000 in
set_option maxHeartbeats 1000000 in
theorem lheld_any (f : List Int) (w : World) (hf : f.length = 32) :
    Calls Try.prog 8 #[.agg (iCells f)] w fun e w' => e = .returned (.agg (iCells (hd24 f 32))) ∧ Below w.heap.size w w' := by
  have r0 : Row (w.alloc (.cells (iCells f) 22)) w.heap.size 22 (iCells f) := row_new w _ rfl _ _
  have r1 := r0.alloc (.cells (iCells f0) 23)
  have s1 : Row ((w.alloc (.cells (iCells f) 22)).alloc (.cells (iCells f0) 23)) (w.heap.size + 1) 23 (iCells f0) := row_new _ _ (by simp) _ _
  have b1 : Below w.heap.size w ((w.alloc (.cells (iCells f) 22)).alloc (.cells (iCells f0) 23)) := ((Below.refl _ _).alloc (Nat.le_refl _) _).alloc (by simp) _
  have r2 := r1.alloc (.cells (iCells f0) 23)
  have s2 := s1.alloc (.cells (iCells f0) 23)
  have u2 : Row (((w.alloc (.cells (iCells f) 22)).alloc (.cells (iCells f0) 23)).alloc (.cells (iCells f0) 23)) (w.heap.size + 1 + 1) 23 (iCells f0) := row_new _ _ (by simp) _ _
  have b2 := b1.alloc (by simp; omega) (.cells (iCells f0) 23)
  have HR := Lib.hid r2
  have HS := Lib.hid s2
  have HU := Lib.hid u2
  have HB := Lib.hid b2
  have HF := Lib.hid hf
  have hz := fun w => frame_zero w
  clear r0 r1 r2 s1 s2 u2 b1 b2 hf
  go_enter Try.func8, Try.ntmps8
  go_wp2_with fail
  clear hz
  generalize ((w.alloc (.cells (iCells f) 22)).alloc (.cells (iCells f0) 23)).alloc (.cells (iCells f0) 23) = w1 at *
  go_loopw [4] (fun ii wr => ∃ k : Nat, k ≤ 32 ∧ ii = .int .i64 k ∧ Row wr w.heap.size 22 (iCells f) ∧ Row wr (w.heap.size + 1) 23 (iCells f0) ∧ Row wr (w.heap.size + 1 + 1) 23 (iCells (hd24 f k)) ∧ Below w.heap.size w wr) (fun ii _ => 32 - (intOf ii).toNat)
  case atStart => exact ⟨0, by omega, rfl, HR.out, HS.out, by rw [hd24_zero]; exact HU.out, HB.out⟩
  case round =>
    clear HR HS HU HB
    obtain ⟨k, hk, rfl, h1, h2, h3, h4⟩ := hrel
    have HR := Lib.hid h1
    have HS := Lib.hid h2
    have HU := Lib.hid h3
    have HB := Lib.hid h4
    rcases Nat.lt_or_ge k 32 with hlt | hge
    · have c0 := i_at h1 k (by rw [HF.out]; exact hlt)
      have c1 := i_at h3 k (by rw [hd24_len]; exact hlt)
      have ff := h3.free k
      have HST := Lib.hid (hd24_step f k)
      obtain ⟨x, hx⟩ : ∃ x, f.getD k 0 = x := ⟨_, rfl⟩
      rw [hx] at c0 HST
      have hb := tmod24 x
      have hr : IntKind.i64.wrap (x.tmod 16777217) = x.tmod 16777217 := by rw [IntKind.wrap_i64]; omega
      clear hx h1 h2 h3 h4 hk
      go_wp2_with fail
      go_roundw
      case rel =>
        refine ⟨k + 1, hlt, by go_num, HR.out.far (p := ⟨w.heap.size + 1 + 1, k, none⟩) (by show w.heap.size ≠ w.heap.size + 1 + 1; omega) _, HS.out.far (p := ⟨w.heap.size + 1 + 1, k, none⟩) (by show w.heap.size + 1 ≠ w.heap.size + 1 + 1; omega) _, ?_, HB.out.setCell (p := ⟨w.heap.size + 1 + 1, k, none⟩) (by show w.heap.size ≤ w.heap.size + 1 + 1; omega) _⟩
        rw [← HST.out, ← iCells_set]
        exact HU.out.set _ _
      case measure => simp [intOf] <;> omega
    · obtain rfl : k = 32 := by omega
      have HSZ := Lib.hid (frame_size (hd24 f 32) (hd24_len f 32))
      have HSS := Lib.hid (frame_same f0 (hd24 f 32) f0_length (hd24_len f 32))
      clear h1 h2 h3 h4 hk hge
      obtain ⟨v, hv⟩ : ∃ v, hd24 f 32 = v := ⟨_, rfl⟩
      rw [hv] at HU HSZ HSS
      have HVV := Lib.hid hv
      clear hv
      go_wp2_with (first
        | (refine wpList_load_row rfl 23 (.tmp 3) rfl (w.heap.size + 1 + 1) rfl 23 (iCells v) (0, 0) _ HU.out Try.underlying23 rfl HSZ.out ?_)
        | (refine wpList_store_row rfl 23 (.tmp 2) (.tmp 15) rfl (w.heap.size + 1) (iCells v) rfl rfl 23 (iCells f0) HS.out HSZ.out HSS.out (iCells_one v) ?_))
      refine bodyPost_ret (v := .agg (iCells v)) (results_cell_row Try.results8 _ _ (w.heap.size + 1) 23 (iCells v) (0, 0) _ rfl (Row.setRow HS.out _) Try.underlying23 rfl HSZ.out) rfl ⟨by rw [HVV.out], below_setRow HB.out (by omega) _⟩
/-- The greatest number, without its sign. -/
def mx3 (m x : Int) : Int := if -x > (if x > m then x else m) then -x else (if x > m then x else m)
theorem mx3_is (m x : Int) : m ≤ mx3 m x ∧ x ≤ mx3 m x ∧ -x ≤ mx3 m x ∧ (mx3 m x = m ∨ mx3 m x = x ∨ mx3 m x = -x) := by
  unfold mx3
  repeat' split
  all_goals omega
theorem max3 (m x : Int) (w : World) : (Builtin.max_ #[3, 3, 3] 3 #[.int .i64 m, .int .i64 x, .int .i64 (-x)]).run Try.prog w = .ok (.int .i64 (mx3 m x)) w := by
  simp [Builtin.max_, Builtin.max2, mx3]
def mxs (f : List Int) : Nat → Int
  | 0 => 0
  | k + 1 => mx3 (mxs f k) (f.getD k 0)
def sqp (f : List Int) : Nat → Int
  | 0 => 0
  | k + 1 => sqp f k + f.getD k 0 * f.getD k 0
theorem mxs_nn (f : List Int) : ∀ k, 0 ≤ mxs f k
  | 0 => Int.le_refl 0
  | k + 1 => Int.le_trans (mxs_nn f k) (mx3_is _ _).1
theorem mxs_at (f : List Int) : ∀ k i, i < k → -(mxs f k) ≤ f.getD i 0 ∧ f.getD i 0 ≤ mxs f k
  | k + 1, i, h => by
    obtain ⟨h1, h2, h3, _⟩ := mx3_is (mxs f k) (f.getD k 0)
    show -(mx3 (mxs f k) (f.getD k 0)) ≤ _ ∧ _ ≤ mx3 (mxs f k) (f.getD k 0)
    rcases Nat.lt_or_ge i k with hl | hg
    · have := mxs_at f k i hl
      omega
    · obtain rfl : i = k := by omega
      omega
theorem mxs_mem (f : List Int) (h : f.length = 32) : ∀ x ∈ f, -(mxs f 32) ≤ x ∧ x ≤ mxs f 32 := by
  intro x hx
  obtain ⟨i, hi, rfl⟩ := List.getElem_of_mem hx
  have := mxs_at f 32 i (by omega)
  rw [List.getD_eq_getElem?_getD, List.getElem?_eq_getElem hi] at this
  exact this
theorem mxs_le (f : List Int) (M : Int) (h0 : 0 ≤ M) (h : ∀ i, -M ≤ f.getD i 0 ∧ f.getD i 0 ≤ M) : ∀ k, mxs f k ≤ M
  | 0 => h0
  | k + 1 => by
    have ih := mxs_le f M h0 h k
    have hk := h k
    obtain ⟨_, _, _, h4⟩ := mx3_is (mxs f k) (f.getD k 0)
    show mx3 (mxs f k) (f.getD k 0) ≤ M
    omega
theorem getD_bd {f : List Int} {M : Int} (h0 : 0 ≤ M) (h : ∀ x ∈ f, -M ≤ x ∧ x ≤ M) (i : Nat) : -M ≤ f.getD i 0 ∧ f.getD i 0 ≤ M := by
  by_cases hi : i < f.length
  · rw [List.getD_eq_getElem?_getD, List.getElem?_eq_getElem hi]
    exact h _ (List.getElem_mem hi)
  · rw [List.getD_eq_getElem?_getD, List.getElem?_eq_none (by omega)]
    simp only [Option.getD_none]
    omega
theorem sqp_take (f : List Int) : ∀ k, k ≤ f.length → sqp f k = sqs (f.take k)
  | 0, _ => by simp [sqp, sqs]
  | k + 1, h => by
    have ih := sqp_take f k (by omega)
    have hk : k < f.length := by omega
    have e : ∀ (l : List Int) (x : Int), sqs (l ++ [x]) = sqs l + x * x := by
      intro l x
      induction l with
      | nil => simp [sqs]
      | cons y l ih => show y * y + sqs (l ++ [x]) = y * y + sqs l + x * x; omega
    rw [List.take_add_one, List.getElem?_eq_getElem hk]
    show sqp f k + _ = sqs (f.take k ++ [f[k]])
    rw [e, ih, List.getD_eq_getElem?_getD, List.getElem?_eq_getElem hk]
    rfl
theorem sqp_full (f : List Int) (h : f.length = 32) : sqp f 32 = sqs f := by
  rw [sqp_take f 32 (by omega), List.take_of_length_le (by omega)]
theorem sqp_bd (f : List Int) (h : ∀ i, -268435456 ≤ f.getD i 0 ∧ f.getD i 0 ≤ 268435456) : ∀ k, k ≤ 32 → 0 ≤ sqp f k ∧ sqp f k ≤ k * 72057594037927936
  | 0, _ => by simp [sqp]
  | k + 1, hk => by
    have ih := sqp_bd f h k (by omega)
    obtain ⟨h1, h2⟩ := h k
    have q1 := sqnn (f.getD k 0)
    have q2 := mulb (f.getD k 0) (f.getD k 0) 268435456 268435456 h1 h2 h1 h2
    show 0 ≤ sqp f k + f.getD k 0 * f.getD k 0 ∧ sqp f k + f.getD k 0 * f.getD k 0 ≤ ((k + 1 : Nat) : Int) * 72057594037927936
    omega
set_option maxRecDepth 100000 in
set_option maxHeartbeats 1000000 in
theorem squares_any (f : List Int) (w : World) (hf : f.length = 32) (hb : ∀ x ∈ f, -268435456 ≤ x ∧ x ≤ 268435456) :
    Calls Try.prog 13 #[.agg (iCells f)] w fun e w' => e = .returned (.tuple #[.int .i64 (sqs f), .int .i64 (mxs f 32)]) ∧ Below w.heap.size w w' := by
  have HR : Hid (Row (w.alloc (.cells (iCells f) 23)) w.heap.size 23 (iCells f)) := heap_alloc_new _ _
  have HB : Hid (Below w.heap.size w (w.alloc (.cells (iCells f) 23))) := (Below.refl _ _).alloc (Nat.le_refl _) _
  have hg := getD_bd (by omega) hb
  have HG := Lib.hid hg
  have HSB := Lib.hid (sqp_bd f hg)
  have HMB := Lib.hid (mxs_le f 268435456 (by omega) hg)
  have HFU := Lib.hid (sqp_full f hf)
  have HF := Lib.hid hf
  clear hb hf hg
  go_enter Try.func13, Try.ntmps13
  go_wp2_with fail
  generalize w.alloc (.cells (iCells f) 23) = w1 at *
  go_loopw [4, 5, 6] (fun s m ii wr => ∃ k : Nat, k ≤ 32 ∧ ii = .int .i64 k ∧ s = .int .i64 (sqp f k) ∧ m = .int .i64 (mxs f k) ∧ Row wr w.heap.size 23 (iCells f) ∧ Below w.heap.size w wr) (fun _ _ ii _ => 32 - (intOf ii).toNat)
  case atStart => exact ⟨0, by omega, rfl, rfl, rfl, HR.out, HB.out⟩
  case round =>
    clear HR HB
    obtain ⟨k, hk, rfl, rfl, rfl, h1, h2⟩ := hrel
    have HR := Lib.hid h1
    have HB := Lib.hid h2
    rcases Nat.lt_or_ge k 32 with hlt | hge
    · have c0 := i_at h1 k (by rw [HF.out]; exact hlt)
      have HS1 : Hid (sqp f (k + 1) = sqp f k + f.getD k 0 * f.getD k 0) := rfl
      have HM1 : Hid (mxs f (k + 1) = mx3 (mxs f k) (f.getD k 0)) := rfl
      have hx := HG.out k
      have hs := HSB.out k hk
      obtain ⟨s, hS⟩ : ∃ s, sqp f k = s := ⟨_, rfl⟩
      obtain ⟨m, hM⟩ : ∃ m, mxs f k = m := ⟨_, rfl⟩
      obtain ⟨x, hX⟩ : ∃ x, f.getD k 0 = x := ⟨_, rfl⟩
      rw [hX] at c0 HS1 HM1 hx
      rw [hS] at HS1 hs
      rw [hM] at HM1
      rw [hS, hM]
      have q1 := sqnn x
      have q2 := mulb x x 268435456 268435456 hx.1 hx.2 hx.1 hx.2
      have hr1 : IntKind.i64.wrap (x * x) = x * x := by rw [IntKind.wrap_i64]; omega
      have hr2 : IntKind.i64.wrap (s + x * x) = s + x * x := by rw [IntKind.wrap_i64]; omega
      have hr3 : IntKind.i64.wrap (-x) = -x := by rw [IntKind.wrap_i64]; omega
      have hm3 := fun w => max3 m x w
      have hkI : (k : Int) < 32 := by omega
      clear hS hM hX h1 h2 hk q1 q2 hs
      go_wp2_with fail
      go_quiet (fail)
      go_wp2_with fail
      go_quiet (fail)
      clear c0
      go_wp2_with fail
      go_roundw
      case rel => exact ⟨k + 1, hlt, by go_num, by rw [HS1.out], by rw [HM1.out], Row.drewN HR.out _, Below.drewN HB.out _⟩
      case measure => simp [intOf] <;> omega
    · obtain rfl : k = 32 := by omega
      have h3 := HFU.out
      obtain ⟨s, hS⟩ : ∃ s, sqp f 32 = s := ⟨_, rfl⟩
      rw [hS] at h3
      rw [hS]
      have HFV := Lib.hid h3
      clear h1 h2 h3 hS hge hk
      go_wp2_with fail
      go_ret2
      exact ⟨by rw [HFV.out]; rfl, HB.out⟩
end Go.Proofs.Ytdlcdbkfhajkdaa
