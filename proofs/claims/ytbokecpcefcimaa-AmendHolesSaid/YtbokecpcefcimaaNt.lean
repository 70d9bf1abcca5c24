/-
  The walk of the law AmendHoles. Conditions: bytes; the lists lie as they were opened; an array of 127 bools.
-/
import Derived.Test.YtbokecpcefcimaaNo
import Derived.Test.YtbokecpcefcimaaJc
import Derived.Test.YtbokecpcefcimaaIw
namespace Go.Proofs.Ytbokecpcefcimaa
open Go.RowKit
open M
attribute [local go_sem] un_beq un_bne un_xor

/-- A word with another one's bits at holes, as far as the loop has come. -/
def hv (s m u : List Bool) (j : Nat) : List Bool := (List.range 127).map fun i => if i < j ∧ m.getD i false = true then u.getD i false else s.getD i false
theorem hv_length (s m u : List Bool) (j : Nat) : (hv s m u j).length = 127 := by simp [hv]
theorem hv_zero (s m u : List Bool) (hs : s.length = 127) : hv s m u 0 = s := by
  unfold hv
  rw [tab_congr 127 _ (fun i => s.getD i false) (fun i _ => if_neg (by omega)), tab_of _ false 127 hs]
theorem hv_not (s m u : List Bool) (j : Nat) (hh : m.getD j false = false) : hv s m u (j + 1) = hv s m u j := by
  unfold hv
  apply tab_congr
  intro i _
  by_cases e : i = j
  · subst e
    rw [if_neg (by rw [hh]; simp), if_neg (by omega)]
  · by_cases h1 : i < j ∧ m.getD i false = true
    · rw [if_pos h1, if_pos ⟨by omega, h1.2⟩]
    · rw [if_neg h1, if_neg (fun k => h1 ⟨by omega, k.2⟩)]
theorem hv_set (s m u : List Bool) (j : Nat) (hh : m.getD j false = true) : (hv s m u j).set j (u.getD j false) = hv s m u (j + 1) := by
  unfold hv
  apply tab_set
  · rw [if_pos ⟨by omega, hh⟩]
  · intro i e
    by_cases h1 : i < j ∧ m.getD i false = true
    · rw [if_pos h1, if_pos ⟨by omega, h1.2⟩]
    · rw [if_neg h1, if_neg (fun k => h1 ⟨by omega, k.2⟩)]
theorem hv_far (s m u c : List Bool) (j : Nat) (hj : j ≤ 127) : farN (hv s m u 127) m c j = farN s m c j := by
  induction j with
  | zero => rfl
  | succ j ih =>
    have ih := ih (by omega)
    simp only [farN]
    rw [ih]
    congr 1
    have e : (hv s m u 127).getD j false = if j < 127 ∧ m.getD j false = true then u.getD j false else s.getD j false := by
      unfold hv; rw [tab_getD _ _ _ _ (by omega)]
    rw [e]
    unfold far1
    by_cases h : m.getD j false = true
    · rw [if_pos h, if_pos h]
    · rw [if_neg h, if_neg h, if_neg (show ¬ (j < 127 ∧ m.getD j false = true) from fun k => h k.2)]
/-- What a word has at holes changes nothing. -/
theorem am_same (s m u : List Bool) (y y' : BitVec 64) (n n' : Int) (h1 : Am s m y n) (h2 : Am (hv s m u 127) m y' n') : y' = y ∧ n' = n := by
  have hf : ∀ c, farN (hv s m u 127) m c 127 = farN s m c 127 := fun c => hv_far s m u c 127 (by omega)
  rcases h1 with ⟨rfl, k1⟩ | ⟨rfl, rfl, k1⟩
  · obtain ⟨e1, e2⟩ := am_reach _ m y y' n' h2 (by rw [hf]; exact k1)
    exact ⟨e2, e1⟩
  · rcases h2 with ⟨_, k2⟩ | ⟨rfl, rfl, _⟩
    · rw [hf] at k2
      have := k1 y'
      omega
    · exact ⟨rfl, rfl⟩
set_option maxRecDepth 100000 in
set_option maxHeartbeats 2000000 in
theorem holesl_big (x : BitVec 64) (l1 l2 : Value) (xs ys : List Int) (u : List Bool) (w : World) (hl : 40 < xs.length ∨ 40 < ys.length) (hm1 : xs.length ≤ maxLen) (hm2 : ys.length ≤ maxLen) (h1 : BytesAt w l1 xs) (h2 : BytesAt w l2 ys) :
    Calls Try.prog 5 #[.int .u64 (un x), l1, l2, .agg (boolCells u)] w fun e w' => e = .returned (.bool true) ∧ Below w.heap.size w w' := by
  unfold maxLen at hm1 hm2
  have HB0 : Hid (Below w.heap.size w (w.alloc (.cells (boolCells u) 25))) := (Below.refl _ _).alloc (Nat.le_refl _) _
  obtain ⟨a1, c1, rfl, hcells⟩ := h1
  clear hcells
  obtain ⟨a2, c2, rfl, hcells⟩ := h2
  clear hcells
  by_cases hx : 40 < xs.length
  · have hl' : (xs.length : Int) > 40 := by omega
    clear hl
    go_enter Try.func5, Try.ntmps5
    go_wp2_with fail
    refine (awake_any _).mono ?_
    rintro e w1 ⟨rfl, hb⟩
    have HB := Lib.hid (HB0.out.trans (hb.mono HB0.out.size))
    clear hb
    go_wp2_with fail
    refine (awake_any _).mono ?_
    rintro e w2 ⟨rfl, hb⟩
    have HB2 := Lib.hid (HB.out.trans (hb.mono HB.out.size))
    clear hb
    go_wp2
    go_ret
    exact ⟨rfl, HB2.out⟩
  · have hl' : ¬ ((xs.length : Int) > 40) := by omega
    have hl2 : (ys.length : Int) > 40 := by omega
    clear hl
    go_enter Try.func5, Try.ntmps5
    go_wp2_with fail
    refine (awake_any _).mono ?_
    rintro e w1 ⟨rfl, hb⟩
    have HB := Lib.hid (HB0.out.trans (hb.mono HB0.out.size))
    clear hb
    go_wp2_with fail
    refine (awake_any _).mono ?_
    rintro e w2 ⟨rfl, hb⟩
    have HB2 := Lib.hid (HB.out.trans (hb.mono HB.out.size))
    clear hb
    go_wp2
    go_ret
    exact ⟨rfl, HB2.out⟩
set_option maxRecDepth 100000 in
set_option maxHeartbeats 2000000 in
theorem holesl_walk (x : BitVec 64) (l1 l2 : Value) (xs ys : List Int) (u : List Bool) (w : World) (hlu : u.length = 127) (hl1 : xs.length ≤ 40) (hl2 : ys.length ≤ 40) (hp1 : ∀ p ∈ xs, 0 ≤ p ∧ p ≤ 255) (hp2 : ∀ p ∈ ys, 0 ≤ p ∧ p ≤ 255) (h1 : BytesAt w l1 xs) (h2 : BytesAt w l2 ys) :
    Calls Try.prog 5 #[.int .u64 (un x), l1, l2, .agg (boolCells u)] w fun e w' => e = .returned (.bool true) ∧ Below w.heap.size w w' := by
  have HI1 := Lib.hid h1
  have HI2 := Lib.hid h2
  have HP1 := Lib.hid hp1
  have HP2 := Lib.hid hp2
  obtain ⟨ab1, lc1, rfl, hcells⟩ := h1
  clear hcells hp1
  obtain ⟨ab2, lc2, rfl, hcells⟩ := h2
  clear hcells hp2
  have hl' : ¬ ((xs.length : Int) > 40) := by omega
  have hl'' : ¬ (40 < (xs.length : Int)) := by omega
  have hk' : ¬ ((ys.length : Int) > 40) := by omega
  have hk'' : ¬ (40 < (ys.length : Int)) := by omega
  have HEa := Lib.hid (encode_any x)
  have HFa := Lib.hid (encode_ref x)
  have HXa : Hid (Unit → cwd x = cwd x) := fun _ => rfl
  have hla := cwd_length x
  obtain ⟨a, ha⟩ : ∃ l, cwd x = l := ⟨_, rfl⟩
  rw [ha] at HEa HFa hla
  clear HXa
  have HXa := Lib.hid fun _ : Unit => ha
  clear ha
  have hls : (flips a (plc6 xs)).length = 127 := by rw [flips_length, hla]
  have HSP := Lib.hid (fun W V h => spoil_any a xs V W hla (by omega) HP1.out h)
  obtain ⟨s, hs⟩ : ∃ s, flips a (plc6 xs) = s := ⟨_, rfl⟩
  rw [hs] at hls HSP
  clear hs
  have hlm : (mk6 w0 (plc6 ys)).length = 127 := by rw [mk6_length, w0_length]
  have HHO := Lib.hid (fun W V h => holes_any ys V W (by omega) HP2.out h)
  obtain ⟨m, hm⟩ : ∃ m, mk6 w0 (plc6 ys) = m := ⟨_, rfl⟩
  rw [hm] at hlm HHO
  clear hm
  have HAM : Hid (∀ y n y' n', Am s m y n → Am (hv s m u 127) m y' n' → y' = y ∧ n' = n) := fun y n y' n' => am_same s m u y y' n n'
  have HVL := Lib.hid (hv_length s m u)
  have HVN := Lib.hid (hv_not s m u)
  have HVS := Lib.hid (hv_set s m u)
  have HV0 := Lib.hid (hv_zero s m u hls)
  have H7_0 : Hid (Row (w.alloc (.cells (boolCells u) 25)) w.heap.size 25 (boolCells u)) := heap_alloc_new _ _
  have HB_0 : Hid (Below w.heap.size w (w.alloc (.cells (boolCells u) 25))) := (Below.refl _ _).alloc (Nat.le_refl _) _
  have HI1_0 := Lib.hid (HI1.out.below HB_0.out)
  have HI2_0 := Lib.hid (HI2.out.below HB_0.out)
  clear HI1 HI2
  have HLa := Lib.hid (hla)
  have HSaW := Lib.hid fun _ : Unit => word_size a HLa.out
  have HSaA := Lib.hid fun _ : Unit => arr_size a HLa.out
  have HLs := Lib.hid (hls)
  have HSsW := Lib.hid fun _ : Unit => word_size s HLs.out
  have HSsA := Lib.hid fun _ : Unit => arr_size s HLs.out
  have HLm := Lib.hid (hlm)
  have HSmW := Lib.hid fun _ : Unit => word_size m HLm.out
  have HSmA := Lib.hid fun _ : Unit => arr_size m HLm.out
  have HLu := Lib.hid (hlu)
  have HSuW := Lib.hid fun _ : Unit => word_size u HLu.out
  have HSuA := Lib.hid fun _ : Unit => arr_size u HLu.out
  clear hla hls hlm hlu
  have hz := word_zero
  have hza := arr_zero
  go_enter Try.func5, Try.ntmps5
  go_wp2_with fail
  refine (awake_any _).mono ?_
  rintro e w1 ⟨rfl, hb⟩
  have H7_1 := Lib.hid (H7_0.out.box hb)
  have HI1_1 := Lib.hid (HI1_0.out.below hb)
  have HI2_1 := Lib.hid (HI2_0.out.below hb)
  have HB_1 := Lib.hid (HB_0.out.trans (hb.mono HB_0.out.size))
  clear hb H7_0 HI1_0 HI2_0 HB_0
  go_wp2_with fail
  refine (HFa.out _).mono ?_
  rintro e w2 ⟨rfl, hb⟩
  have H7_2 := Lib.hid (H7_1.out.box hb)
  have HI1_2 := Lib.hid (HI1_1.out.below hb)
  have HI2_2 := Lib.hid (HI2_1.out.below hb)
  have HB_2 := Lib.hid (HB_1.out.trans (hb.mono HB_1.out.size))
  clear hb H7_1 HI1_1 HI2_1 HB_1
  go_wp2_with fail
  refine (HSP.out _ _ HI1_2.out).mono ?_
  rintro e w3 ⟨rfl, hb⟩
  have H7_3 := Lib.hid (H7_2.out.box hb)
  have HI1_3 := Lib.hid (HI1_2.out.below hb)
  have HI2_3 := Lib.hid (HI2_2.out.below hb)
  have HB_3 := Lib.hid (HB_2.out.trans (hb.mono HB_2.out.size))
  clear hb H7_2 HI1_2 HI2_2 HB_2
  have H0 : Hid (Row (w3.alloc (.cells (boolCells w0) 25)) w3.heap.size 25 (boolCells w0)) := heap_alloc_new _ _
  have HS0 : Hid (Unit → (boolCells w0).size = (boolCells s).size) := by intro _; rw [boolCells_size, boolCells_size, w0_length, HLs.out]
  go_upto_region 4 with (first
      | (refine wpList_store_row rfl 25 (.tmp 9) (.tmp 33) rfl w3.heap.size (boolCells s) rfl rfl 25 (boolCells w0) H0.out (HSsA.out ()) (HS0.out ()) (boolCells_one s) ?_)
      | (refine wpList_load_row rfl 25 (.tmp 7) rfl w.heap.size rfl 25 (boolCells u) (0, 0) _ H7_3.out Try.underlying25 rfl (HSuA.out ()) ?_))
  have hgs := HB_3.out.size
  have hlt7 := H7_3.out.lt
  have H7_4 : Hid (Row ((w3.alloc (.cells (boolCells w0) 25)).setRow w3.heap.size (boolCells s)) w.heap.size 25 (boolCells u)) := (setRow_other _ _ _ _ (by omega)).trans (H7_3.out.alloc _)
  have H9_4 : Hid (Row ((w3.alloc (.cells (boolCells w0) 25)).setRow w3.heap.size (boolCells s)) w3.heap.size 25 (boolCells s)) := Row.setRow H0.out _
  have HB_4 : Hid (Below w.heap.size w ((w3.alloc (.cells (boolCells w0) 25)).setRow w3.heap.size (boolCells s))) := below_setRow (HB_3.out.alloc hgs _) hgs _
  have hgb9 : w.heap.size ≤ w3.heap.size := hgs
  have HI1_4 := Lib.hid (HI1_3.out.below (W' := ((w3.alloc (.cells (boolCells w0) 25)).setRow w3.heap.size (boolCells s))) (below_setRow ((Below.refl _ _).alloc (Nat.le_refl _) _) (Nat.le_refl _) _))
  have HI2_4 := Lib.hid (HI2_3.out.below (W' := ((w3.alloc (.cells (boolCells w0) 25)).setRow w3.heap.size (boolCells s))) (below_setRow ((Below.refl _ _).alloc (Nat.le_refl _) _) (Nat.le_refl _) _))
  have hne7_9 : w.heap.size < w3.heap.size := hlt7
  clear H0 HS0 H7_3 HB_3 HI1_3 HI2_3 hgs hlt7
  generalize ((w3.alloc (.cells (boolCells w0) 25)).setRow w3.heap.size (boolCells s)) = w4 at *
  generalize w3.heap.size = g9 at *
  go_wp2_with fail
  refine (HHO.out _ _ HI2_4.out).mono ?_
  rintro e w5 ⟨rfl, hb⟩
  have H7_5 := Lib.hid (H7_4.out.box hb)
  have H9_5 := Lib.hid (H9_4.out.box hb)
  have HI1_5 := Lib.hid (HI1_4.out.below hb)
  have HI2_5 := Lib.hid (HI2_4.out.below hb)
  have HB_5 := Lib.hid (HB_4.out.trans (hb.mono HB_4.out.size))
  clear hb H7_4 H9_4 HI1_4 HI2_4 HB_4
  have H0 : Hid (Row (w5.alloc (.cells (boolCells w0) 25)) w5.heap.size 25 (boolCells w0)) := heap_alloc_new _ _
  have HS0 : Hid (Unit → (boolCells w0).size = (boolCells m).size) := by intro _; rw [boolCells_size, boolCells_size, w0_length, HLm.out]
  go_upto_region 5 with (first
      | (refine wpList_store_row rfl 25 (.tmp 10) (.tmp 35) rfl w5.heap.size (boolCells m) rfl rfl 25 (boolCells w0) H0.out (HSmA.out ()) (HS0.out ()) (boolCells_one m) ?_)
      | (refine wpList_load_row rfl 25 (.tmp 7) rfl w.heap.size rfl 25 (boolCells u) (0, 0) _ H7_5.out Try.underlying25 rfl (HSuA.out ()) ?_)
      | (refine wpList_load_row rfl 25 (.tmp 9) rfl g9 rfl 25 (boolCells s) (0, 0) _ H9_5.out Try.underlying25 rfl (HSsA.out ()) ?_))
  have hgs := HB_5.out.size
  have hlt7 := H7_5.out.lt
  have hlt9 := H9_5.out.lt
  have H7_6 : Hid (Row ((w5.alloc (.cells (boolCells w0) 25)).setRow w5.heap.size (boolCells m)) w.heap.size 25 (boolCells u)) := (setRow_other _ _ _ _ (by omega)).trans (H7_5.out.alloc _)
  have H9_6 : Hid (Row ((w5.alloc (.cells (boolCells w0) 25)).setRow w5.heap.size (boolCells m)) g9 25 (boolCells s)) := (setRow_other _ _ _ _ (by omega)).trans (H9_5.out.alloc _)
  have H10_6 : Hid (Row ((w5.alloc (.cells (boolCells w0) 25)).setRow w5.heap.size (boolCells m)) w5.heap.size 25 (boolCells m)) := Row.setRow H0.out _
  have HB_6 : Hid (Below w.heap.size w ((w5.alloc (.cells (boolCells w0) 25)).setRow w5.heap.size (boolCells m))) := below_setRow (HB_5.out.alloc hgs _) hgs _
  have hgb10 : w.heap.size ≤ w5.heap.size := hgs
  have HI1_6 := Lib.hid (HI1_5.out.below (W' := ((w5.alloc (.cells (boolCells w0) 25)).setRow w5.heap.size (boolCells m))) (below_setRow ((Below.refl _ _).alloc (Nat.le_refl _) _) (Nat.le_refl _) _))
  have HI2_6 := Lib.hid (HI2_5.out.below (W' := ((w5.alloc (.cells (boolCells w0) 25)).setRow w5.heap.size (boolCells m))) (below_setRow ((Below.refl _ _).alloc (Nat.le_refl _) _) (Nat.le_refl _) _))
  have hne7_10 : w.heap.size < w5.heap.size := hlt7
  have hne9_10 : g9 < w5.heap.size := hlt9
  clear H0 HS0 H7_5 H9_5 HB_5 HI1_5 HI2_5 hgs hlt7 hlt9
  generalize ((w5.alloc (.cells (boolCells w0) 25)).setRow w5.heap.size (boolCells m)) = w6 at *
  generalize w5.heap.size = g10 at *
  clear HI1_6 HI2_6
  have H0 : Hid (Row (w6.alloc (.cells (boolCells w0) 25)) w6.heap.size 25 (boolCells w0)) := heap_alloc_new _ _
  have HS0 : Hid (Unit → (boolCells w0).size = (boolCells s).size) := by intro _; rw [boolCells_size, boolCells_size, w0_length, HLs.out]
  go_upto_region 6 with (first
      | (refine wpList_store_row rfl 25 (.tmp 11) (.tmp 36) rfl w6.heap.size (boolCells s) rfl rfl 25 (boolCells w0) H0.out (HSsA.out ()) (HS0.out ()) (boolCells_one s) ?_)
      | (refine wpList_load_row rfl 25 (.tmp 7) rfl w.heap.size rfl 25 (boolCells u) (0, 0) _ H7_6.out Try.underlying25 rfl (HSuA.out ()) ?_)
      | (refine wpList_load_row rfl 25 (.tmp 9) rfl g9 rfl 25 (boolCells s) (0, 0) _ H9_6.out Try.underlying25 rfl (HSsA.out ()) ?_)
      | (refine wpList_load_row rfl 25 (.tmp 10) rfl g10 rfl 25 (boolCells m) (0, 0) _ H10_6.out Try.underlying25 rfl (HSmA.out ()) ?_))
  have hgs := HB_6.out.size
  have hlt7 := H7_6.out.lt
  have hlt9 := H9_6.out.lt
  have hlt10 := H10_6.out.lt
  have H7_7 : Hid (Row ((w6.alloc (.cells (boolCells w0) 25)).setRow w6.heap.size (boolCells s)) w.heap.size 25 (boolCells u)) := (setRow_other _ _ _ _ (by omega)).trans (H7_6.out.alloc _)
  have H9_7 : Hid (Row ((w6.alloc (.cells (boolCells w0) 25)).setRow w6.heap.size (boolCells s)) g9 25 (boolCells s)) := (setRow_other _ _ _ _ (by omega)).trans (H9_6.out.alloc _)
  have H10_7 : Hid (Row ((w6.alloc (.cells (boolCells w0) 25)).setRow w6.heap.size (boolCells s)) g10 25 (boolCells m)) := (setRow_other _ _ _ _ (by omega)).trans (H10_6.out.alloc _)
  have H11_7 : Hid (Row ((w6.alloc (.cells (boolCells w0) 25)).setRow w6.heap.size (boolCells s)) w6.heap.size 25 (boolCells s)) := Row.setRow H0.out _
  have HB_7 : Hid (Below w.heap.size w ((w6.alloc (.cells (boolCells w0) 25)).setRow w6.heap.size (boolCells s))) := below_setRow (HB_6.out.alloc hgs _) hgs _
  have hgb11 : w.heap.size ≤ w6.heap.size := hgs
  have hne7_11 : w.heap.size < w6.heap.size := hlt7
  have hne9_11 : g9 < w6.heap.size := hlt9
  have hne10_11 : g10 < w6.heap.size := hlt10
  clear H0 HS0 H7_6 H9_6 H10_6 HB_6 hgs hlt7 hlt9 hlt10
  generalize ((w6.alloc (.cells (boolCells w0) 25)).setRow w6.heap.size (boolCells s)) = w7 at *
  generalize w6.heap.size = g11 at *
  clear hz hza
  rw [show decide ((40 : Int) < (xs.length : Int)) = false by rw [decide_eq_false_iff_not]; omega, show decide ((40 : Int) < (ys.length : Int)) = false by rw [decide_eq_false_iff_not]; omega]
  have HVI : Hid (Row w7 g11 25 (boolCells (hv s m u 0))) := by rw [HV0.out]; exact H11_7.out
  clear HV0
  go_wp2
  go_loopw [12] (fun i wr => ∃ j : Nat, j ≤ 127 ∧ i = .int .i64 (j : Nat) ∧ Row wr w.heap.size 25 (boolCells u) ∧ Row wr g9 25 (boolCells s) ∧ Row wr g10 25 (boolCells m) ∧ Row wr g11 25 (boolCells (hv s m u j)) ∧ Below w.heap.size w wr) (fun i _ => 127 - (intOf i).toNat)
  case atStart => exact ⟨0, by omega, rfl, H7_7.out, H9_7.out, H10_7.out, HVI.out, HB_7.out⟩
  case round =>
    clear H7_7 H9_7 H10_7 H11_7 HVI HB_7
    obtain ⟨j, hj, rfl, q1, q2, q3, q4, q5⟩ := hrel
    have H7 := Lib.hid q1
    have H9 := Lib.hid q2
    have H10 := Lib.hid q3
    have H11 := Lib.hid q4
    have HB := Lib.hid q5
    clear q1 q2 q3 q4 q5
    by_cases hlt : j < 127
    · have c0 := word_at H10.out j (by rw [HLm.out]; exact hlt)
      have c1 := word_at H7.out j (by rw [HLu.out]; exact hlt)
      have c2 := word_at H11.out j (by rw [HVL.out]; exact hlt)
      have f2 := H11.out.free j
      have HN := Lib.hid (HVN.out j)
      have HT := Lib.hid (HVS.out j)
      obtain ⟨p, hp⟩ : ∃ p, m.getD j false = p := ⟨_, rfl⟩
      obtain ⟨q, hq⟩ : ∃ q, u.getD j false = q := ⟨_, rfl⟩
      rw [hp] at c0 HN HT
      rw [hq] at c1 HT
      generalize (hv s m u j).getD j false = old at *
      clear hp hq
      cases p
      · go_wp2
        go_roundw
        case rel => exact ⟨j + 1, by omega, by go_num, H7.out, H9.out, H10.out, by rw [HN.out rfl]; exact H11.out, HB.out⟩
        case measure => simp [intOf] <;> omega
      · go_wp2
        go_roundw
        case rel =>
          refine ⟨j + 1, by omega, by go_num, H7.out.far (p := ⟨g11, j, none⟩) (by show w.heap.size ≠ g11; omega) _, H9.out.far (p := ⟨g11, j, none⟩) (by show g9 ≠ g11; omega) _, H10.out.far (p := ⟨g11, j, none⟩) (by show g10 ≠ g11; omega) _, ?_, HB.out.setCell (p := ⟨g11, j, none⟩) (by show w.heap.size ≤ g11; omega) _⟩
          rw [← HT.out rfl, ← boolCells_set]
          exact H11.out.set j _
        case measure => simp [intOf] <;> omega
    · obtain rfl : j = 127 := by omega
      have hlv := HVL.out 127
      obtain ⟨v, hv⟩ : ∃ v, hv s m u 127 = v := ⟨_, rfl⟩
      rw [hv] at hlv H11 HAM
      clear hv
      have H7_w := H7
      have H9_w := H9
      have H10_w := H10
      have H11_w := H11
      have HB_w := HB
      clear H7 H9 H10 H11 HB
      have HLv := Lib.hid (hlv)
      have HSvW := Lib.hid fun _ : Unit => word_size v HLv.out
      have HSvA := Lib.hid fun _ : Unit => arr_size v HLv.out
      clear hlv
      go_wp2_with (first
          | (refine wpList_load_row rfl 25 (.tmp 9) rfl g9 rfl 25 (boolCells s) (0, 0) _ H9_w.out Try.underlying25 rfl (HSsA.out ()) ?_)
          | (refine wpList_load_row rfl 25 (.tmp 10) rfl g10 rfl 25 (boolCells m) (0, 0) _ H10_w.out Try.underlying25 rfl (HSmA.out ()) ?_))
      refine (amend_any s m _ HLs.out HLm.out).mono ?_
      rintro e w8 ⟨y, n, rfl, ham, hb⟩
      have H7_8 := Lib.hid (H7_w.out.box hb)
      have H9_8 := Lib.hid (H9_w.out.box hb)
      have H10_8 := Lib.hid (H10_w.out.box hb)
      have H11_8 := Lib.hid (H11_w.out.box hb)
      have HB_8 := Lib.hid (HB_w.out.trans (hb.mono HB_w.out.size))
      clear hb H7_w H9_w H10_w H11_w HB_w
      have HA := Lib.hid ham
      clear ham
      go_wp2_with (first
          | (refine wpList_load_row rfl 25 (.tmp 10) rfl g10 rfl 25 (boolCells m) (0, 0) _ H10_8.out Try.underlying25 rfl (HSmA.out ()) ?_)
          | (refine wpList_load_row rfl 25 (.tmp 11) rfl g11 rfl 25 (boolCells v) (0, 0) _ H11_8.out Try.underlying25 rfl (HSvA.out ()) ?_))
      refine (amend_any v m _ HLv.out HLm.out).mono ?_
      rintro e w9 ⟨y', n', rfl, ham, hb⟩
      have H7_9 := Lib.hid (H7_8.out.box hb)
      have H9_9 := Lib.hid (H9_8.out.box hb)
      have H10_9 := Lib.hid (H10_8.out.box hb)
      have H11_9 := Lib.hid (H11_8.out.box hb)
      have HB_9 := Lib.hid (HB_8.out.trans (hb.mono HB_8.out.size))
      clear hb H7_8 H9_8 H10_8 H11_8 HB_8
      obtain ⟨rfl, rfl⟩ := HAM.out y n y' n' HA.out ham
      clear ham HA HAM
      go_wp2
      go_ret
      exact ⟨by first | rfl | simp, HB_9.out⟩
theorem holesl_any (x : BitVec 64) (l1 l2 : Value) (xs ys : List Int) (u : List Bool) (w : World) (hu : u.length = 127) (hm1 : xs.length ≤ maxLen) (hm2 : ys.length ≤ maxLen) (hp1 : ∀ p ∈ xs, 0 ≤ p ∧ p ≤ 255) (hp2 : ∀ p ∈ ys, 0 ≤ p ∧ p ≤ 255) (h1 : BytesAt w l1 xs) (h2 : BytesAt w l2 ys) :
    Calls Try.prog 5 #[.int .u64 (un x), l1, l2, .agg (boolCells u)] w fun e w' => e = .returned (.bool true) ∧ Below w.heap.size w w' := by
  by_cases hb : 40 < xs.length ∨ 40 < ys.length
  · exact holesl_big x l1 l2 xs ys u w hb hm1 hm2 h1 h2
  · exact holesl_walk x l1 l2 xs ys u w hu (by omega) (by omega) hp1 hp2 h1 h2
end Go.Proofs.Ytbokecpcefcimaa
