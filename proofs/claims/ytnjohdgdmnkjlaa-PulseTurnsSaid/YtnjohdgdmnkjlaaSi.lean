/-
  Layer 14's laws: the document's example, coefficients brought into their range. No conditions.
-/
import Derived.Test.YtnjohdgdmnkjlaaSg
import Derived.Deep.Cut
namespace Go.Proofs.Ytnjohdgdmnkjlaa
open Go.RowKit
open M
def ex14 : List Int := [100, -50, 0, 7]
def ey14 : List Int := [3, -1, 0, 0]
theorem ex_found : fl4 (fun i => ex14.getD i 0) ((2 : Int) ^ 5) 4 = ey14 := by decide +kernel
set_option maxRecDepth 100000 in
theorem awake14_any (w : World) :
    Calls Try.prog 7 #[] w fun e w' => e = .returned (.bool true) ∧ Below w.heap.size w w' := by
  have hf := fun w => find_any ex14 5 4 w rfl (by omega) (by omega) (by
    intro j hj
    have h : j = 0 ∨ j = 1 ∨ j = 2 ∨ j = 3 := by omega
    rcases h with rfl | rfl | rfl | rfl <;> decide)
  rw [ex_found] at hf
  have HF : Hid (∀ w, Calls Try.prog 9 #[.agg #[.int .i64 100, .int .i64 (-50), .int .i64 0, .int .i64 7], .int .i64 5, .int .i64 4] w fun e w' => e = .returned (.tuple #[.agg #[.int .i64 3, .int .i64 (-1), .int .i64 0, .int .i64 0], .int .i64 0]) ∧ Below w.heap.size w w') := Lib.hid hf
  clear hf
  have hz : ∀ w, (zeroValue 26).run Try.prog w = .ok (.agg #[.int .i64 0, .int .i64 0, .int .i64 0, .int .i64 0]) w := pulses_zero
  have he := pulses_eq ey14 ey14 rfl rfl
  rw [beq_self_eq_true] at he
  have hq : ∀ w, (Op.equalIn 10000 26 (.agg #[.int .i64 3, .int .i64 (-1), .int .i64 0, .int .i64 0]) (.agg #[.int .i64 3, .int .i64 (-1), .int .i64 0, .int .i64 0])).run Try.prog w = .ok true w := he
  clear he
  go_enter Try.func7, Try.ntmps7
  go_wp2_with fail
  refine (HF.out _).mono ?_
  rintro e w1 ⟨rfl, hb⟩
  have HB := Lib.hid hb
  clear hb HF
  go_wp2_with fail
  go_ret
  exact ⟨rfl, HB.out.alloc HB.out.size _⟩
/-- Coefficients brought into their range. -/
def hd14 (c : List Int) : List Int := c.map fun n => n.tmod 1048577
theorem hd14_len (c : List Int) : (hd14 c).length = c.length := by simp [hd14]
theorem hd14_get (c : List Int) (k : Nat) : (hd14 c).getD k 0 = (c.getD k 0).tmod 1048577 := by
  simp only [hd14, List.getD_eq_getElem?_getD, List.getElem?_map]
  cases c[k]? <;> simp
theorem tm20_bd (n : Int) : -1048576 ≤ n.tmod 1048577 ∧ n.tmod 1048577 ≤ 1048576 := by
  have h1 := Int.tmod_lt_of_pos n (show (0 : Int) < 1048577 by omega)
  have h2 := Int.tmod_lt_of_pos (-n) (show (0 : Int) < 1048577 by omega)
  rw [Int.neg_tmod] at h2
  omega
theorem hd14_bd (c : List Int) : ∀ j, j < 4 → -1048576 ≤ (hd14 c).getD j 0 ∧ (hd14 c).getD j 0 ≤ 1048576 := fun j _ => by
  rw [hd14_get]
  exact tm20_bd _
/-- .. as far as k. -/
def hk14 (c : List Int) (k : Nat) : List Int := (hd14 c).take k ++ c.drop k
theorem hk14_len (c : List Int) (k : Nat) : (hk14 c k).length = c.length := by simp [hk14, hd14]; omega
theorem hk14_at (c : List Int) (k : Nat) (hk : k < c.length) : (hk14 c k).getD k 0 = c.getD k 0 := by
  have h1 : ((hd14 c).take k).length = k := by simp [hd14]; omega
  rw [List.getD_eq_getElem?_getD, hk14, List.getElem?_append_right (by omega), h1, Nat.sub_self, List.getElem?_drop, Nat.add_zero, ← List.getD_eq_getElem?_getD]
theorem hk14_set (c : List Int) (k : Nat) (hk : k < c.length) : (hk14 c k).set k ((c.getD k 0).tmod 1048577) = hk14 c (k + 1) := by
  have h1 : ((hd14 c).take k).length = k := by simp [hd14]; omega
  unfold hk14
  rw [List.set_append_right _ _ (by omega), h1, Nat.sub_self, List.drop_eq_getElem_cons hk, List.set_cons_zero, List.take_add_one, List.append_assoc]
  congr 1
  have h2 : (hd14 c)[k]? = some ((c.getD k 0).tmod 1048577) := by
    simp [hd14, List.getD_eq_getElem?_getD, List.getElem?_eq_getElem hk]
  rw [h2]
  rfl
theorem hk14_full (c : List Int) (h : c.length = 4) : hk14 c 4 = hd14 c := by
  unfold hk14
  rw [List.drop_of_length_le (by omega), List.append_nil, List.take_of_length_le (by rw [hd14_len]; omega)]
set_option maxRecDepth 100000 in
theorem held14_any (c : List Int) (w : World) (hc : c.length = 4) :
    Calls Try.prog 8 #[.agg (iCells c)] w fun e w' => e = .returned (.agg (iCells (hd14 c))) ∧ Below w.heap.size w w' := by
  have HF := Lib.hid (hk14_full c hc)
  have HSH := Lib.hid (four_size (hd14 c) (by rw [hd14_len, hc]))
  have HSS := Lib.hid (four_same z4 (hd14 c) rfl (by rw [hd14_len, hc]))
  have hz := four_zero
  have HR : Hid (Row ((w.alloc (.cells (iCells c) 22)).alloc (.cells (iCells z4) 22)) w.heap.size 22 (iCells c)) := Lib.hid (heap_alloc2_old _ _ _)
  have HR1 : Hid (Row ((w.alloc (.cells (iCells c) 22)).alloc (.cells (iCells z4) 22)) (w.heap.size + 1) 22 (iCells z4)) := Lib.hid (heap_alloc2_new _ _ _)
  have HB : Hid (Below w.heap.size w ((w.alloc (.cells (iCells c) 22)).alloc (.cells (iCells z4) 22))) := Lib.hid (((Below.refl _ _).alloc (Nat.le_refl _) _).alloc (by simp) _)
  have HC := Lib.hid hc
  clear hc
  go_enter Try.func8, Try.ntmps8
  go_wp2_with fail
  generalize (w.alloc (.cells (iCells c) 22)).alloc (.cells (iCells z4) 22) = w1 at *
  obtain ⟨g, hg⟩ : ∃ g, w.heap.size = g := ⟨_, rfl⟩
  have HG := Lib.hid fun _ : Unit => hg
  rw [hg] at HR HR1 HB ⊢
  clear hg hz
  go_loopw [3] (fun ii wr => ∃ (k : Nat), k ≤ 4 ∧ ii = .int .i64 k ∧ Row wr g 22 (iCells (hk14 c k)) ∧ Row wr (g + 1) 22 (iCells z4) ∧ Below g w wr) (fun ii _ => 4 - (intOf ii).toNat)
  case atStart => exact ⟨0, by omega, rfl, HR.out, HR1.out, HB.out⟩
  case round =>
    clear HR HR1 HB
    obtain ⟨k, hk, rfl, hr, hr1, hb⟩ := hrel
    have HR := Lib.hid hr
    have HR1 := Lib.hid hr1
    have HB := Lib.hid hb
    rcases Nat.lt_or_ge k 4 with hlt | hge
    · have hkc : k < c.length := by rw [HC.out]; exact hlt
      have c0 := i_at hr k (by rw [hk14_len]; exact hkc)
      have f0 := hr.free k
      rw [hk14_at c k hkc] at c0
      have HST := Lib.hid (hk14_set c k hkc)
      obtain ⟨x, hx⟩ : ∃ x, c.getD k 0 = x := ⟨_, rfl⟩
      rw [hx] at c0 HST
      have hb2 := tm20_bd x
      have e1 : IntKind.i64.wrap (x.tmod 1048577) = x.tmod 1048577 := wi_id _ (by omega) (by omega)
      have e2 : wrap64 (x.tmod 1048577) = x.tmod 1048577 := wr_id14 _ (by omega) (by omega)
      have HK := Lib.hid hlt
      have hkI : (k : Int) < 4 := by omega
      clear hk hr hr1 hb hkc hx hb2
      go_wp2_with fail
      go_roundw
      case rel => exact ⟨k + 1, HK.out, by go_num, by rw [← HST.out, ← iCells_set]; exact HR.out.set k _, HR1.out.far (by simp) _, Below.setCell HB.out (p := ⟨g, k, none⟩) (by simp) _⟩
      case measure =>
        have := HK.out
        simp [intOf] <;> omega
    · obtain rfl : k = 4 := by omega
      rw [HF.out] at HR
      clear hk hr hr1 hb hge
      go_wp2_with (first
        | (refine wpList_load_row rfl 22 (.tmp 1) rfl g rfl 22 (iCells (hd14 c)) (0, 0) _ HR.out Try.underlying22 rfl HSH.out ?_)
        | (refine wpList_store_row rfl 22 (.tmp 2) (.tmp 14) rfl (g + 1) (iCells (hd14 c)) rfl rfl 22 (iCells z4) HR1.out HSH.out HSS.out (iCells_one _) ?_))
      refine bodyPost_ret (v := .agg (iCells (hd14 c))) (results_cell_row Try.results8 _ _ (g + 1) 22 (iCells (hd14 c)) (0, 0) _ rfl (Row.setRow HR1.out _) Try.underlying22 rfl HSH.out) rfl ⟨rfl, ?_⟩
      rw [HG.out ()]
      exact below_setRow HB.out (by omega) _
end Go.Proofs.Ytnjohdgdmnkjlaa
