/-
  The contract of layer 6's laws' awake: the document's example. No conditions.
-/
import Derived.Test.YtbokecpcefcimaaNm
import Derived.Test.YtbokecpcefcimaaNn
namespace Go.Proofs.Ytbokecpcefcimaa
open Go.RowKit
open M

theorem BytesAt.below {W W' : World} {v : Value} {xs : List Int} (h : BytesAt W v xs) (hb : Below W.heap.size W W') : BytesAt W' v xs := by
  obtain ⟨a, cap, rfl, hc⟩ := h
  refine ⟨a, cap, rfl, fun h0 => ?_⟩
  obtain ⟨b, off, rfl, hlt, hc⟩ := hc h0
  exact ⟨b, off, rfl, Nat.lt_of_lt_of_le hlt hb.size, fun i hi => (hb.cell (p := ⟨b, off + i, none⟩) hlt).trans (hc i hi)⟩
theorem count_set1 : ∀ (x : List Bool) (i : Nat), (x.set i true).count true ≤ x.count true + 1
  | [], _ => by simp
  | b :: x, 0 => by
    show (true :: x).count true ≤ _
    rw [List.count_cons, List.count_cons]
    cases b <;> simp
  | b :: x, i + 1 => by
    have := count_set1 x i
    show (b :: x.set i true).count true ≤ _
    rw [List.count_cons, List.count_cons]
    omega
theorem mk6_few (x : List Bool) (is : List Nat) : (mk6 x is).count true ≤ x.count true + is.length := by
  induction is generalizing x with
  | nil => exact Nat.le_refl _
  | cons i is ih =>
    have h1 := ih (x.set i true)
    have h2 := count_set1 x i
    show (mk6 (x.set i true) is).count true ≤ _
    rw [List.length_cons]; omega
theorem w0_count : w0.count true = 0 := by unfold w0; rw [List.count_replicate]; simp
/-- A word is as far from itself as it has holes. -/
theorem far_self (l h : List Bool) (hh : h.length = 127) : farN l h l 127 = h.count true := by
  have := far_all l h l hh
  rw [dst_self] at this
  omega
theorem far1_le (w h c : Bool) : far1 w h c ≤ 2 := by
  unfold far1
  split
  · omega
  · split <;> omega
/-- A bit changed makes it no more than 2 farther. -/
theorem farN_flip (l h c : List Bool) (i : Nat) (j : Nat) : farN (M.flip l i) h c j ≤ farN l h c j + if i < j then 2 else 0 := by
  induction j with
  | zero => simp [farN]
  | succ j ih =>
    simp only [farN]
    by_cases e : i = j
    · subst e
      rw [if_neg (by omega)] at ih
      rw [if_pos (by omega)]
      have := far1_le ((M.flip l i).getD i false) (h.getD i false) (c.getD i false)
      omega
    · have e2 : (M.flip l i).getD j false = l.getD j false := by
        unfold M.flip
        rw [List.getD_eq_getElem?_getD, List.getElem?_set, if_neg e, ← List.getD_eq_getElem?_getD]
      rw [e2]
      by_cases h1 : i < j
      · rw [if_pos h1] at ih
        rw [if_pos (by omega)]
        omega
      · rw [if_neg h1] at ih
        rw [if_neg (by omega)]
        omega
theorem farN_flips (l h c : List Bool) (is : List Nat) (j : Nat) : farN (flips l is) h c j ≤ farN l h c j + 2 * is.length := by
  induction is generalizing l with
  | nil => exact Nat.le_refl _
  | cons i is ih =>
    have h1 := ih (M.flip l i)
    have h2 := farN_flip l h c i j
    show farN (flips (M.flip l i) is) h c j ≤ _
    rw [List.length_cons]
    have h3 : (if i < j then 2 else 0) ≤ 2 := by split <;> omega
    omega
/-- What is within the reach of a codeword is amended to it. -/
theorem am_reach (l h : List Bool) (x y : BitVec 64) (n : Int) (ha : Am l h y n) (hx : farN l h (cwd x) 127 ≤ 20) : n = 0 ∧ y = x := by
  rcases ha with ⟨h1, h2⟩ | ⟨_, _, h2⟩
  · refine ⟨h1, ?_⟩
    have := near_one l h (cwd y) (cwd x) (cwd_length y) (cwd_length x) (cwd_cw y) (cwd_cw x) h2 hx
    rw [← told_cwd y, this, told_cwd]
  · have := h2 x
    omega
/-- Places 0, 6, 12 .. -/
def six (j : Nat) : List Nat := (List.range j).map fun i => 6 * i
theorem six_snoc (j : Nat) : mk6 w0 (six (j + 1)) = (mk6 w0 (six j)).set (6 * j) true := by
  unfold six
  rw [List.range_succ, List.map_append, List.map_singleton, mk6_snoc]
theorem ten_snoc (a : List Bool) (j : Nat) : flips a (List.range (j + 1)) = M.flip (flips a (List.range j)) j := by
  rw [List.range_succ, flips_snoc]

set_option maxRecDepth 100000 in
set_option maxHeartbeats 4000000 in
theorem awake_any (w : World) :
    Calls Try.prog 9 #[] w fun e w' => e = .returned (.bool true) ∧ Below w.heap.size w w' := by
  have hx9 : un (9 : BitVec 64) = 9 := rfl
  have hla := cwd_length 9
  have HEN : Hid (∀ W, Calls Try.prog 17 #[.int .u64 9] W fun e w' => e = .returned (.agg (boolCells (cwd 9))) ∧ Below W.heap.size W w') := by
    intro W
    have := encode_any 9 W
    rwa [hx9] at this
  have HR1 : Hid (∀ y n, Am (flips (cwd 9) (List.range 10)) w0 y n → n = 0 ∧ y = 9) := by
    intro y n k
    refine am_reach _ _ 9 y n k ?_
    have h1 := farN_flips (cwd 9) w0 (cwd 9) (List.range 10) 127
    have h2 := far_self (cwd 9) w0 w0_length
    rw [w0_count] at h2
    rw [List.length_range] at h1
    omega
  have HR2 : Hid (∀ y n, Am (cwd 9) (mk6 w0 (six 20)) y n → n = 0 ∧ y = 9) := by
    intro y n k
    refine am_reach _ _ 9 y n k ?_
    have hl : (mk6 w0 (six 20)).length = 127 := by rw [mk6_length, w0_length]
    rw [far_self (cwd 9) _ hl]
    have := mk6_few w0 (six 20)
    rw [w0_count] at this
    unfold six at this
    rw [List.length_map, List.length_range] at this
    unfold six
    omega
  have HTEN := Lib.hid fun j => ten_snoc (cwd 9) j
  obtain ⟨a, ha⟩ : ∃ a, cwd 9 = a := ⟨_, rfl⟩
  rw [ha] at hla HEN HR1 HR2 HTEN
  have HLA := Lib.hid hla
  have HSA := Lib.hid fun _ : Unit => word_size a hla
  have HS0 : Hid (Unit → (boolCells w0).size = (boolCells a).size) := by intro _; rw [boolCells_size, boolCells_size, w0_length, HLA.out]
  have HFL : Hid (∀ j, (flips a (List.range j)).length = 127) := fun j => by rw [flips_length, hla]
  clear ha hla hx9
  have hz := word_zero
  go_enter Try.func9, Try.ntmps9
  go_wp2_with fail
  refine (HEN.out _).mono ?_
  rintro e w2 ⟨rfl, hb⟩
  have HB2 := Lib.hid hb
  clear hb
  have H0 : Hid (Row (w2.alloc (.cells (boolCells w0) 32)) w2.heap.size 32 (boolCells w0)) := heap_alloc_new _ _
  go_upto_region 2 with (first
    | (refine wpList_store_row rfl 32 (.tmp 1) (.tmp 10) rfl w2.heap.size (boolCells a) rfl rfl 32 (boolCells w0) H0.out (HSA.out ()) (HS0.out ()) (boolCells_one a) ?_))
  have hg2 := HB2.out.size
  have HA3 : Hid (Row ((w2.alloc (.cells (boolCells w0) 32)).setRow w2.heap.size (boolCells a)) w2.heap.size 32 (boolCells a)) := Row.setRow H0.out _
  have HB3 : Hid (Below w.heap.size w ((w2.alloc (.cells (boolCells w0) 32)).setRow w2.heap.size (boolCells a))) := below_setRow (HB2.out.alloc hg2 _) hg2 _
  clear H0 HB2
  generalize (w2.alloc (.cells (boolCells w0) 32)).setRow w2.heap.size (boolCells a) = w3 at *
  generalize w2.heap.size = g1 at *
  have HA4 := Lib.hid (HA3.out.alloc (.cells (boolCells w0) 32))
  have HZ4 : Hid (Row (w3.alloc (.cells (boolCells w0) 32)) w3.heap.size 32 (boolCells w0)) := heap_alloc_new _ _
  have HB4 := Lib.hid (HB3.out.alloc HB3.out.size (.cells (boolCells w0) 32))
  have H5 : Hid (Row ((w3.alloc (.cells (boolCells w0) 32)).alloc (.cells (boolCells w0) 32)) (w3.heap.size + 1) 32 (boolCells w0)) := row_new _ _ (by simp) _ _
  go_upto_region 4 with (first
    | (refine wpList_load_row rfl 32 (.tmp 1) rfl g1 rfl 32 (boolCells a) (0, 0) _ HA4.out Try.underlying32 rfl (HSA.out ()) ?_)
    | (refine wpList_store_row rfl 32 (.tmp 3) (.tmp 11) rfl (w3.heap.size + 1) (boolCells a) rfl rfl 32 (boolCells w0) H5.out (HSA.out ()) (HS0.out ()) (boolCells_one a) ?_))
  have hg3 := HB3.out.size
  have hg1 := HA3.out.lt
  have HA5 : Hid (Row (((w3.alloc (.cells (boolCells w0) 32)).alloc (.cells (boolCells w0) 32)).setRow (w3.heap.size + 1) (boolCells a)) g1 32 (boolCells a)) := (setRow_other _ _ _ _ (by omega)).trans (HA4.out.alloc _)
  have HZ5 : Hid (Row (((w3.alloc (.cells (boolCells w0) 32)).alloc (.cells (boolCells w0) 32)).setRow (w3.heap.size + 1) (boolCells a)) w3.heap.size 32 (boolCells w0)) := (setRow_other _ _ _ _ (by omega)).trans (HZ4.out.alloc _)
  have HV5 : Hid (Row (((w3.alloc (.cells (boolCells w0) 32)).alloc (.cells (boolCells w0) 32)).setRow (w3.heap.size + 1) (boolCells a)) (w3.heap.size + 1) 32 (boolCells (flips a (List.range 0)))) := Row.setRow H5.out _
  have HB5 : Hid (Below w.heap.size w (((w3.alloc (.cells (boolCells w0) 32)).alloc (.cells (boolCells w0) 32)).setRow (w3.heap.size + 1) (boolCells a))) := below_setRow (HB4.out.alloc (by simp; omega) _) (by omega) _
  clear H5 HA3 HB3 HA4 HZ4 HB4 hz
  generalize (((w3.alloc (.cells (boolCells w0) 32)).alloc (.cells (boolCells w0) 32)).setRow (w3.heap.size + 1) (boolCells a)) = w5 at *
  have hgw : w.heap.size ≤ g1 := hg2
  generalize w3.heap.size = g2 at *
  go_wp2
  go_loopw [4] (fun i wr => ∃ j : Nat, j ≤ 10 ∧ i = .int .i64 (j : Nat) ∧ Row wr g1 32 (boolCells a) ∧ Row wr g2 32 (boolCells w0) ∧ Row wr (g2 + 1) 32 (boolCells (flips a (List.range j))) ∧ Below w.heap.size w wr) (fun i _ => 10 - (intOf i).toNat)
  case atStart => exact ⟨0, by omega, rfl, HA5.out, HZ5.out, HV5.out, HB5.out⟩
  case round =>
    clear HA5 HZ5 HV5 HB5 w5
    obtain ⟨j, hj, rfl, h1, h2, h3, h4⟩ := hrel
    have HA := Lib.hid h1
    have HZ := Lib.hid h2
    have HV := Lib.hid h3
    have HB := Lib.hid h4
    clear h1 h2 h3 h4
    by_cases hlt : j < 10
    · have c1 := word_at HV.out j (by rw [HFL.out]; omega)
      have f1 := HV.out.free j
      have HT := Lib.hid (HTEN.out j)
      have HX : Hid (M.flip (flips a (List.range j)) j = (flips a (List.range j)).set j (!((flips a (List.range j)).getD j false))) := rfl
      obtain ⟨x, hx⟩ : ∃ x, (flips a (List.range j)).getD j false = x := ⟨_, rfl⟩
      rw [hx] at c1 HX
      clear hx
      go_wp2
      go_roundw
      case rel =>
        refine ⟨j + 1, by omega, by go_num, HA.out.far (p := ⟨g2 + 1, j, none⟩) (by show g1 ≠ g2 + 1; omega) _, HZ.out.far (p := ⟨g2 + 1, j, none⟩) (by show g2 ≠ g2 + 1; omega) _, ?_, HB.out.setCell (p := ⟨g2 + 1, j, none⟩) (by show w.heap.size ≤ g2 + 1; omega) _⟩
        rw [HT.out, HX.out, ← boolCells_set]
        exact HV.out.set j _
      case measure => simp [intOf] <;> omega
    · obtain rfl : j = 10 := by omega
      have HVL := Lib.hid (HFL.out 10)
      obtain ⟨v, hv⟩ : ∃ v, flips a (List.range 10) = v := ⟨_, rfl⟩
      rw [hv] at HVL HV HR1
      have HSV := Lib.hid fun _ : Unit => word_size v HVL.out
      have HSZ := Lib.hid fun _ : Unit => word_size w0 w0_length
      clear hv HTEN HFL
      go_wp2_with (first
          | (refine wpList_load_row rfl 32 (.tmp 3) rfl (g2 + 1) rfl 32 (boolCells v) (0, 0) _ HV.out Try.underlying32 rfl (HSV.out ()) ?_)
          | (refine wpList_load_row rfl 32 (.tmp 2) rfl g2 rfl 32 (boolCells w0) (0, 0) _ HZ.out Try.underlying32 rfl (HSZ.out ()) ?_))
      refine (amend_any v w0 _ HVL.out w0_length).mono ?_
      rintro e w6 ⟨x, n, rfl, ham, hb⟩
      obtain ⟨rfl, rfl⟩ := HR1.out x n ham
      have HA6 := Lib.hid (HA.out.box hb)
      have HZ6 : Hid (Row w6 g2 32 (boolCells (mk6 w0 (six 0)))) := HZ.out.box hb
      have HB6 := Lib.hid (HB.out.trans (hb.mono HB.out.size))
      clear ham hb HA HZ HB HV HVL HR1 HSV
      rw [show un (9 : BitVec 64) = 9 from rfl]
      go_wp2
      go_loopw [7] (fun i wr => ∃ j : Nat, j ≤ 20 ∧ i = .int .i64 (j : Nat) ∧ Row wr g1 32 (boolCells a) ∧ Row wr g2 32 (boolCells (mk6 w0 (six j))) ∧ Below w.heap.size w wr) (fun i _ => 20 - (intOf i).toNat)
      case atStart => exact ⟨0, by omega, rfl, HA6.out, HZ6.out, HB6.out⟩
      case round =>
        clear HA6 HZ6 HB6 w6
        obtain ⟨j, hj, rfl, h1, h2, h3⟩ := hrel
        have HA := Lib.hid h1
        have HZ := Lib.hid h2
        have HB := Lib.hid h3
        clear h1 h2 h3
        have hml : (mk6 w0 (six j)).length = 127 := by rw [mk6_length, w0_length]
        by_cases hlt : j < 20
        · have c1 := word_at HZ.out (6 * j) (by rw [hml]; omega)
          have f1 := HZ.out.free (6 * j)
          have HT := Lib.hid (six_snoc j)
          have h6 : 6 * (j : Int) < 127 := by omega
          generalize (mk6 w0 (six j)).getD (6 * j) false = x at *
          go_wp2
          go_roundw
          case rel =>
            refine ⟨j + 1, by omega, by go_num, HA.out.far (p := ⟨g2, 6 * j, none⟩) (by show g1 ≠ g2; omega) _, ?_, HB.out.setCell (p := ⟨g2, 6 * j, none⟩) (by show w.heap.size ≤ g2; omega) _⟩
            rw [HT.out, ← boolCells_set]
            exact HZ.out.set (6 * j) _
          case measure => simp [intOf] <;> omega
        · obtain rfl : j = 20 := by omega
          have HHL := Lib.hid hml
          obtain ⟨h, hh⟩ : ∃ h, mk6 w0 (six 20) = h := ⟨_, rfl⟩
          rw [hh] at HHL HZ HR2
          have HSH := Lib.hid fun _ : Unit => word_size h HHL.out
          clear hh hml
          go_wp2_with (first
              | (refine wpList_load_row rfl 32 (.tmp 1) rfl g1 rfl 32 (boolCells a) (0, 0) _ HA.out Try.underlying32 rfl (HSA.out ()) ?_)
              | (refine wpList_load_row rfl 32 (.tmp 2) rfl g2 rfl 32 (boolCells h) (0, 0) _ HZ.out Try.underlying32 rfl (HSH.out ()) ?_))
          refine (amend_any a h _ HLA.out HHL.out).mono ?_
          rintro e w7 ⟨x, n, rfl, ham, hb⟩
          obtain ⟨rfl, rfl⟩ := HR2.out x n ham
          have HB7 := Lib.hid (HB.out.trans (hb.mono HB.out.size))
          clear ham hb
          rw [show un (9 : BitVec 64) = 9 from rfl]
          go_wp2
          go_ret
          exact ⟨rfl, HB7.out⟩
end Go.Proofs.Ytbokecpcefcimaa
