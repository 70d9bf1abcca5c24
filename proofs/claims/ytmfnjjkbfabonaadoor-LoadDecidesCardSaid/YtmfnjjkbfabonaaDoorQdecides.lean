/-
  The law LoadDecides holds: votes speak for a word, bit by bit; only what they are for counts, not how much. Conditions: none but those of the row.
-/
import Derived.Test.YtmfnjjkbfabonaaDoorQ14
import Derived.Test.YtmfnjjkbfabonaaDoorQ12
import Derived.Test.YtmfnjjkbfabonaaDoorTie
import Derived.Test.YtmfnjjkbfabonaaDoorCards
import Derived.SevenTiedAt

/- Plain facts of LoadDecides: votes made plain decide the same; what Take answers of them is the same. No program is named here. No conditions but those that each fact names. -/
namespace Go.Proofs.YtmfnjjkbfabonaaDoor
open Go.RowKit
open M

/-- A vote made plain. -/
def pl1 (v : Int) : Int := if 0 < v then 1 else if v < 0 then -1 else 0
def plj (l : List Int) (j : Nat) : List Int := (List.range 127).map fun i => if i < j then pl1 (l.getD i 0) else 0
theorem plj_length (l : List Int) (j : Nat) : (plj l j).length = 127 := by unfold plj; rw [List.length_map, List.length_range]
theorem plj_zero (l : List Int) : plj l 0 = v0 := by
  unfold plj v0
  rw [tab_congr 127 _ (fun _ => 0) fun i _ => if_neg (by omega)]
  rfl
theorem plj_set (l : List Int) (j : Nat) : (plj l j).set j (pl1 (l.getD j 0)) = plj l (j + 1) := by
  unfold plj
  apply tab_set
  · rw [if_pos (by omega)]
  · intro i e
    rcases Nat.lt_or_ge i j with h | h
    · rw [if_pos h, if_pos (by omega)]
    · rw [if_neg (by omega), if_neg (by omega)]
theorem plj_next (l : List Int) (j : Nat) (h : pl1 (l.getD j 0) = 0) : plj l (j + 1) = plj l j := by
  unfold plj
  apply tab_congr
  intro i _
  by_cases e : i = j
  · subst e
    rw [if_pos (by omega), if_neg (by omega), h]
  · rcases Nat.lt_or_ge i j with h | h
    · rw [if_pos h, if_pos (by omega)]
    · rw [if_neg (by omega), if_neg (by omega)]
theorem pl1_pos (v : Int) (h : 0 < v) : pl1 v = 1 := by unfold pl1; rw [if_pos h]
theorem pl1_neg (v : Int) (h : v < 0) : pl1 v = -1 := by unfold pl1; rw [if_neg (by omega), if_pos h]
theorem pl1_zero : pl1 0 = 0 := rfl
theorem plj_getD (l : List Int) (i : Nat) (hi : i < 127) : (plj l 127).getD i 0 = pl1 (l.getD i 0) := by
  unfold plj
  rw [tab_getD _ _ _ _ hi, if_pos hi]
theorem pl_dw (l : List Int) (hl : l.length = 127) : dw (plj l 127) = dw l := by
  apply bext _ _ (by rw [dw_length, dw_length, plj_length, hl])
  intro i hi
  rw [dw_length, plj_length] at hi
  rw [dw_getD, dw_getD, plj_getD l i hi]
  unfold pl1
  by_cases h1 : 0 < l.getD i 0
  · rw [if_pos h1, decide_eq_decide]; omega
  · by_cases h2 : l.getD i 0 < 0
    · rw [if_neg h1, if_pos h2, decide_eq_decide]; omega
    · rw [if_neg h1, if_neg h2, decide_eq_decide]; omega
theorem pl_dh (l : List Int) (hl : l.length = 127) : dh (plj l 127) = dh l := by
  apply bext _ _ (by rw [dh_length, dh_length, plj_length, hl])
  intro i hi
  rw [dh_length, plj_length] at hi
  rw [dh_getD _ _ (by rw [plj_length]; exact hi), dh_getD _ _ (by rw [hl]; exact hi), plj_getD l i hi]
  unfold pl1
  by_cases h1 : 0 < l.getD i 0
  · rw [if_pos h1, decide_eq_decide]; omega
  · by_cases h2 : l.getD i 0 < 0
    · rw [if_neg h1, if_pos h2, decide_eq_decide]; omega
    · rw [if_neg h1, if_neg h2, decide_eq_decide]; omega
/-- Plain votes say the same; where something is told, its word is near. -/
theorem tk_plain (k : List UInt8) (l : List Int) (hl : l.length = 127) (a b a2 b2 : Int) (h : Tk k l a b) (h2 : Tk k (plj l 127) a2 b2) :
    a2 = a ∧ b2 = b ∧ (b = 5 ∨ b = 6 ∨ (b = 0 ∧ ∃ q : Nat, a = q ∧ q < 281474976710656 ∧ farN (dw l) (dh l) (cwd (num7 k q)) 127 ≤ 20)) := by
  obtain ⟨y, n, ha, hr⟩ := h
  obtain ⟨y2, n2, ha2, hr2⟩ := h2
  rw [pl_dw l hl, pl_dh l hl] at ha2
  obtain ⟨rfl, rfl⟩ := am_cong (dw l) (dw l) (dh l) (fun _ _ => Or.inr rfl) y y2 n n2 ha ha2
  rcases hr with ⟨rfl, rfl, rfl⟩ | ⟨rfl, rfl, rfl⟩
  · rcases hr2 with ⟨_, rfl, rfl⟩ | ⟨h, _⟩
    · refine ⟨rfl, rfl, ?_⟩
      rcases ha with ⟨_, hf⟩ | ⟨h, _⟩
      · rcases rd_cases k y2 with ⟨e1, q, hq, e2, e3⟩ | ⟨e1, _, _⟩
        · exact Or.inr (Or.inr ⟨e1, q, e2, hq, by rw [e3]; exact hf⟩)
        · exact Or.inr (Or.inl e1)
      · omega
    · omega
  · rcases hr2 with ⟨h, _⟩ | ⟨_, rfl, rfl⟩
    · omega
    · exact ⟨rfl, rfl, Or.inl rfl⟩
end Go.Proofs.YtmfnjjkbfabonaaDoor

/- The walk of the law LoadDecides. Conditions: a key has 16 bytes, votes are 127 numbers of int; the signs lie as the program's text lays them. -/
namespace Go.Proofs.YtmfnjjkbfabonaaDoor
open Go.RowKit
open M
attribute [local go_sem] un_beq un_bne

set_option maxRecDepth 100000 in
set_option maxHeartbeats 2000000 in
theorem decides_any (k : List UInt8) (l : List Int) (w : World) (hk : k.length = 16) (hl : l.length = 127) (h : Signs w) :
    Calls Tryd.prog 6 #[.agg (byteCells k), .agg (intCells l)] w fun e w' => e = .returned (.bool true) ∧ Below w.heap.size w w' := by
  have hb0 : Below w.heap.size w ((w.alloc (.cells (byteCells k) 23)).alloc (.cells (intCells l) 30)) := ((Below.refl _ _).alloc (Nat.le_refl _) _).alloc (by simp) _
  have HB_0 := Lib.hid hb0
  have HG_0 := Lib.hid (h.below hb0 h.lt)
  have HK_0 : Hid (Row ((w.alloc (.cells (byteCells k) 23)).alloc (.cells (intCells l) 30)) w.heap.size 23 (byteCells k)) := heap_alloc2_old _ _ _
  have HO_0 : Hid (Row ((w.alloc (.cells (byteCells k) 23)).alloc (.cells (intCells l) 30)) (w.heap.size + 1) 30 (intCells l)) := heap_alloc2_new _ _ _
  have HI := Lib.hid (key_info k hk)
  have HVS := Lib.hid fun _ : Unit => votes_size l hl
  have HA := Lib.hid fun W (hs : Signs W) => awake_any W hs
  have hz := word_zero
  have hzv := votes_zero
  have HD := Lib.hid fun W => decide_any l W hl
  have HT := Lib.hid fun x W (hx : x.length = 127) (hs : Signs W) => take_votes k x W hk hx hs
  have HTK := Lib.hid (tk_plain k l hl)
  have HCR := Lib.hid fun p W (hp : p < 281474976710656) => check_ref k p W hk hp
  have HUG := Lib.hid (dw_getD l)
  have HVG := Lib.hid fun i (hi : i < 127) => dh_getD l i (by rw [hl]; exact hi)
  have HLU : Hid ((dw l).length = 127) := by unfold Hid; rw [dw_length, hl]
  have HLV : Hid ((dh l).length = 127) := by unfold Hid; rw [dh_length, hl]
  have HLL := Lib.hid hl
  generalize dw l = u at *
  generalize dh l = v at *
  have HSU := Lib.hid fun _ : Unit => word_size u HLU.out
  have HSV := Lib.hid fun _ : Unit => word_size v HLV.out
  have HSSU : Hid (Unit → (boolCells w0).size = (boolCells u).size) := by intro _; rw [boolCells_size, boolCells_size, w0_length, HLU.out]
  have HSSV : Hid (Unit → (boolCells w0).size = (boolCells v).size) := by intro _; rw [boolCells_size, boolCells_size, w0_length, HLV.out]
  have HFAR := Lib.hid fun c W (hc : c.length = 127) => far_any u v c W HLU.out HLV.out hc
  clear h hb0 hl
  go_enter Tryd.func6, Tryd.ntmps6
  go_wp2_with (first
      | (refine wpList_load_row rfl 23 (.tmp 2) rfl w.heap.size rfl 23 (byteCells k) (0, 0) _ HK_0.out Tryd.underlying23 rfl HI.out ?_)
      | (refine wpList_load_row rfl 30 (.tmp 3) rfl (w.heap.size + 1) rfl 30 (intCells l) (0, 0) _ HO_0.out Tryd.underlying30 rfl (HVS.out ()) ?_))
  refine (HA.out _ HG_0.out).mono ?_
  rintro e w1 ⟨rfl, hb⟩
  have R2_1 := Lib.hid (HK_0.out.box hb)
  have R3_1 := Lib.hid (HO_0.out.box hb)
  have HG_1 := Lib.hid (HG_0.out.below hb HG_0.out.lt)
  have HB_1 := Lib.hid (HB_0.out.trans (hb.mono HB_0.out.size))
  clear hb HK_0 HO_0 HG_0 HB_0
  go_wp2_with (first
      | (refine wpList_load_row rfl 23 (.tmp 2) rfl w.heap.size rfl 23 (byteCells k) (0, 0) _ R2_1.out Tryd.underlying23 rfl HI.out ?_)
      | (refine wpList_load_row rfl 30 (.tmp 3) rfl (w.heap.size + 1) rfl 30 (intCells l) (0, 0) _ R3_1.out Tryd.underlying30 rfl (HVS.out ()) ?_))
  refine (HD.out _).mono ?_
  rintro e w2 ⟨rfl, hb⟩
  have R2_2 := Lib.hid (R2_1.out.box hb)
  have R3_2 := Lib.hid (R3_1.out.box hb)
  have HG_2 := Lib.hid (HG_1.out.below hb HG_1.out.lt)
  have HB_2 := Lib.hid (HB_1.out.trans (hb.mono HB_1.out.size))
  clear hb R2_1 R3_1 HG_1 HB_1
  have A5 : Hid (Row ((w2.alloc (.cells (boolCells w0) 40)).alloc (.cells (boolCells w0) 40)) w2.heap.size 40 (boolCells w0)) := (row_new _ _ rfl _ _).alloc _
  have A6 : Hid (Row ((w2.alloc (.cells (boolCells w0) 40)).alloc (.cells (boolCells w0) 40)) (w2.heap.size + 1) 40 (boolCells w0)) := row_new _ _ (by simp) _ _
  have A7 : Hid (Row (((w2.alloc (.cells (boolCells w0) 40)).alloc (.cells (boolCells w0) 40)).setRow w2.heap.size (boolCells u)) (w2.heap.size + 1) 40 (boolCells w0)) := (setRow_other _ _ _ _ (by omega)).trans A6.out
  go_upto_region 4 with (first
    | (refine wpList_store_row rfl 40 (.tmp 5) (.tmp 18) rfl w2.heap.size (boolCells u) rfl rfl 40 (boolCells w0) A5.out (HSU.out ()) (HSSU.out ()) (boolCells_one u) ?_)
    | (refine wpList_store_row rfl 40 (.tmp 6) (.tmp 19) rfl (w2.heap.size + 1) (boolCells v) rfl rfl 40 (boolCells w0) A7.out (HSV.out ()) (HSSV.out ()) (boolCells_one v) ?_))
  have hbs : Below w2.heap.size w2 ((((w2.alloc (.cells (boolCells w0) 40)).alloc (.cells (boolCells w0) 40)).setRow w2.heap.size (boolCells u)).setRow (w2.heap.size + 1) (boolCells v)) := below_setRow (below_setRow (((Below.refl _ _).alloc (Nat.le_refl _) _).alloc (by simp) _) (Nat.le_refl _) _) (by omega) _
  have B5 : Hid (Row ((((w2.alloc (.cells (boolCells w0) 40)).alloc (.cells (boolCells w0) 40)).setRow w2.heap.size (boolCells u)).setRow (w2.heap.size + 1) (boolCells v)) w2.heap.size 40 (boolCells u)) := (setRow_other _ _ _ _ (by omega)).trans (Row.setRow A5.out _)
  have B6 : Hid (Row ((((w2.alloc (.cells (boolCells w0) 40)).alloc (.cells (boolCells w0) 40)).setRow w2.heap.size (boolCells u)).setRow (w2.heap.size + 1) (boolCells v)) (w2.heap.size + 1) 40 (boolCells v)) := Row.setRow A7.out _
  have B2 := Lib.hid (R2_2.out.box hbs)
  have B3 := Lib.hid (R3_2.out.box hbs)
  have BG := Lib.hid (HG_2.out.below hbs HG_2.out.lt)
  have BB := Lib.hid (HB_2.out.trans (hbs.mono HB_2.out.size))
  have hge5 : w.heap.size ≤ w2.heap.size := HB_2.out.size
  have hne5 : w.heap.size + 1 < w2.heap.size := R3_2.out.lt
  have hsg5 : 0 < w2.heap.size := HG_2.out.lt
  clear A5 A6 A7 hbs R2_2 R3_2 HG_2 HB_2
  generalize (((w2.alloc (.cells (boolCells w0) 40)).alloc (.cells (boolCells w0) 40)).setRow w2.heap.size (boolCells u)).setRow (w2.heap.size + 1) (boolCells v) = w3 at *
  generalize w2.heap.size = g5 at *
  have H7 : Hid (Row (w3.alloc (.cells (intCells v0) 30)) w3.heap.size 30 (intCells v0)) := heap_alloc_new _ _
  have hb9 : Below w3.heap.size w3 (w3.alloc (.cells (intCells v0) 30)) := (Below.refl _ _).alloc (Nat.le_refl _) _
  have HB9 := Lib.hid (BB.out.trans (hb9.mono BB.out.size))
  have HG9 := Lib.hid (BG.out.below hb9 BG.out.lt)
  have C5 := Lib.hid (B5.out.box hb9)
  have C6 := Lib.hid (B6.out.box hb9)
  have C2 := Lib.hid (B2.out.box hb9)
  have C3 := Lib.hid (B3.out.box hb9)
  have hge7 : g5 + 1 < w3.heap.size := B6.out.lt
  clear BB BG B5 B6 B2 B3 hb9
  go_wp2_with fail
  generalize w3.alloc (.cells (intCells v0) 30) = w4 at *
  generalize w3.heap.size = g7 at *
  go_loopw [8] (fun i wr => ∃ j : Nat, j ≤ 127 ∧ i = .int .i64 j ∧ Row wr g7 30 (intCells (plj l j)) ∧ Row wr g5 40 (boolCells u) ∧ Row wr (g5 + 1) 40 (boolCells v) ∧ Row wr w.heap.size 23 (byteCells k) ∧ Row wr (w.heap.size + 1) 30 (intCells l) ∧ Signs wr ∧ Below w.heap.size w wr) (fun i _ => 127 - (intOf i).toNat)
  case atStart => exact ⟨0, by omega, rfl, by rw [plj_zero]; exact H7.out, C5.out, C6.out, C2.out, C3.out, HG9.out, HB9.out⟩
  case round =>
    clear H7 C5 C6 C2 C3 HB9 HG9
    obtain ⟨j, hj, rfl, h7, h5, h6, h2, h3, hsg, hbl⟩ := hrel
    have H7 := Lib.hid h7
    have R5_4 := Lib.hid h5
    have R6_4 := Lib.hid h6
    have R2_4 := Lib.hid h2
    have R3_4 := Lib.hid h3
    have HG_4 := Lib.hid hsg
    have HB_4 := Lib.hid hbl
    by_cases hlt7 : j < 127
    · have c5 := word_at h5 j (by rw [HLU.out]; exact hlt7)
      have c6 := word_at h6 j (by rw [HLV.out]; exact hlt7)
      rw [HUG.out j] at c5
      rw [HVG.out j hlt7] at c6
      have c3 : wr.cell? ⟨w.heap.size + 1, j, none⟩ = some (.int .i64 (l.getD j 0)) := (cell_of_row _ _ _ _ _ _ h3).trans (intCells_get _ j (by rw [HLL.out]; exact hlt7))
      have f7 := h7.free j
      obtain ⟨u7, c7⟩ : ∃ u, wr.cell? ⟨g7, j, none⟩ = some u := ⟨_, (cell_of_row _ _ _ _ _ _ h7).trans (intCells_get _ j (by rw [plj_length]; exact hlt7))⟩
      have HST := Lib.hid fun _ : Unit => plj_set l j
      have HNX := Lib.hid (plj_next l j)
      generalize l.getD j 0 = z at *
      clear h7 h5 h6 h2 h3 hsg hbl
      rcases Int.lt_trichotomy z 0 with hzs | hzs | hzs
      · have hpl := pl1_neg z hzs
        rw [hpl] at HST
        have HV := HST
        clear hpl HST HNX
        have c5b : wr.cell? ⟨g5, j, none⟩ = some (.bool true) := by rw [c5]; first | (congr 2; done) | (congr 2; exact decide_eq_true hzs)
        have c6b : wr.cell? ⟨g5 + 1, j, none⟩ = some (.bool false) := by rw [c6]; first | (congr 2; done) | (congr 2; exact decide_eq_false (by omega))
        clear c5 c6
        have z1 : ¬ 0 < z := by omega
        have z2 : (z == 0) = false := beq_eq_false_iff_ne.2 (by omega)
        have z3 : ¬ z = 0 := by omega
        go_wp2
        go_quiet (fail)
        go_wp2
        go_roundw
        case rel =>
          refine ⟨j + 1, by omega, by go_num, ?_, (R5_4.out.drewN _).far (p := ⟨g7, j, none⟩) (by show g5 ≠ g7; omega) _, (R6_4.out.drewN _).far (p := ⟨g7, j, none⟩) (by show g5 + 1 ≠ g7; omega) _, (R2_4.out.drewN _).far (p := ⟨g7, j, none⟩) (by show w.heap.size ≠ g7; omega) _, (R3_4.out.drewN _).far (p := ⟨g7, j, none⟩) (by show w.heap.size + 1 ≠ g7; omega) _, HG_4.out.below ((Below.drewN (Below.refl g7 wr) _).setCell (p := ⟨g7, j, none⟩) (Nat.le_refl _) _) (by omega), (Below.drewN HB_4.out _).setCell (p := ⟨g7, j, none⟩) (by show w.heap.size ≤ g7; omega) _⟩
          have := (H7.out.drewN nq).set j (.int .i64 (-1))
          rw [intCells_set, HV.out ()] at this
          exact this
        case measure => simp [intOf] <;> omega
      · subst hzs
        have HV := Lib.hid fun _ : Unit => HNX.out pl1_zero
        clear HST HNX
        have c5b : wr.cell? ⟨g5, j, none⟩ = some (.bool false) := by rw [c5]; first | (congr 2; done) | (congr 2; exact decide_eq_false (by omega))
        have c6b : wr.cell? ⟨g5 + 1, j, none⟩ = some (.bool true) := by rw [c6]; first | (congr 2; done) | (congr 2; exact decide_eq_true (by omega))
        clear c5 c6
        skip
        go_wp2
        go_quiet (fail)
        go_wp2
        go_roundw
        case rel =>
          exact ⟨j + 1, by omega, by go_num, by rw [HV.out ()]; exact H7.out.drewN _, R5_4.out.drewN _, R6_4.out.drewN _, R2_4.out.drewN _, R3_4.out.drewN _, HG_4.out.below (Below.drewN (Below.refl g7 wr) _) (by omega), Below.drewN HB_4.out _⟩
        case measure => simp [intOf] <;> omega
      · have hpl := pl1_pos z hzs
        rw [hpl] at HST
        have HV := HST
        clear hpl HST HNX
        have c5b : wr.cell? ⟨g5, j, none⟩ = some (.bool false) := by rw [c5]; first | (congr 2; done) | (congr 2; exact decide_eq_false (by omega))
        have c6b : wr.cell? ⟨g5 + 1, j, none⟩ = some (.bool false) := by rw [c6]; first | (congr 2; done) | (congr 2; exact decide_eq_false (by omega))
        clear c5 c6
        have z1 : ¬ z < 0 := by omega
        have z2 : (z == 0) = false := beq_eq_false_iff_ne.2 (by omega)
        have z3 : ¬ z = 0 := by omega
        go_wp2
        go_quiet (fail)
        go_wp2
        go_roundw
        case rel =>
          refine ⟨j + 1, by omega, by go_num, ?_, (R5_4.out.drewN _).far (p := ⟨g7, j, none⟩) (by show g5 ≠ g7; omega) _, (R6_4.out.drewN _).far (p := ⟨g7, j, none⟩) (by show g5 + 1 ≠ g7; omega) _, (R2_4.out.drewN _).far (p := ⟨g7, j, none⟩) (by show w.heap.size ≠ g7; omega) _, (R3_4.out.drewN _).far (p := ⟨g7, j, none⟩) (by show w.heap.size + 1 ≠ g7; omega) _, HG_4.out.below ((Below.drewN (Below.refl g7 wr) _).setCell (p := ⟨g7, j, none⟩) (Nat.le_refl _) _) (by omega), (Below.drewN HB_4.out _).setCell (p := ⟨g7, j, none⟩) (by show w.heap.size ≤ g7; omega) _⟩
          have := (H7.out.drewN nq).set j (.int .i64 1)
          rw [intCells_set, HV.out ()] at this
          exact this
        case measure => simp [intOf] <;> omega
    · obtain rfl : j = 127 := by omega
      have HLS : Hid ((plj l 127).length = 127) := plj_length _ _
      clear h7 h5 h6 h2 h3 hsg hbl hlt7 hj
      generalize plj l 127 = m at *
      have HMS := Lib.hid fun _ : Unit => votes_size m HLS.out
      generalize hwr : wr = w4 at *
      clear hwr
      go_wp2_with (first
          | (refine wpList_load_row rfl 23 (.tmp 2) rfl w.heap.size rfl 23 (byteCells k) (0, 0) _ R2_4.out Tryd.underlying23 rfl HI.out ?_)
          | (refine wpList_load_row rfl 30 (.tmp 3) rfl (w.heap.size + 1) rfl 30 (intCells l) (0, 0) _ R3_4.out Tryd.underlying30 rfl (HVS.out ()) ?_))
      refine (HT.out l _ HLL.out HG_4.out).mono ?_
      rintro e w5 ⟨a, b, rfl, htk, hb⟩
      have R2_5 := Lib.hid (R2_4.out.box hb)
      have R3_5 := Lib.hid (R3_4.out.box hb)
      have R7_5 := Lib.hid (H7.out.box hb)
      have R5_5 := Lib.hid (R5_4.out.box hb)
      have R6_5 := Lib.hid (R6_4.out.box hb)
      have HG_5 := Lib.hid (HG_4.out.below hb HG_4.out.lt)
      have HB_5 := Lib.hid (HB_4.out.trans (hb.mono HB_4.out.size))
      clear hb R2_4 R3_4 H7 R5_4 R6_4 HG_4 HB_4
      have HQ1 := Lib.hid htk
      clear htk
      go_wp2_with (first
          | (refine wpList_load_row rfl 23 (.tmp 2) rfl w.heap.size rfl 23 (byteCells k) (0, 0) _ R2_5.out Tryd.underlying23 rfl HI.out ?_)
          | (refine wpList_load_row rfl 30 (.tmp 7) rfl g7 rfl 30 (intCells m) (0, 0) _ R7_5.out Tryd.underlying30 rfl (HMS.out ()) ?_))
      refine (HT.out m _ HLS.out HG_5.out).mono ?_
      rintro e w6 ⟨a2, b2, rfl, htk, hb⟩
      have R2_6 := Lib.hid (R2_5.out.box hb)
      have R3_6 := Lib.hid (R3_5.out.box hb)
      have R7_6 := Lib.hid (R7_5.out.box hb)
      have R5_6 := Lib.hid (R5_5.out.box hb)
      have R6_6 := Lib.hid (R6_5.out.box hb)
      have HG_6 := Lib.hid (HG_5.out.below hb HG_5.out.lt)
      have HB_6 := Lib.hid (HB_5.out.trans (hb.mono HB_5.out.size))
      clear hb R2_5 R3_5 R7_5 R5_5 R6_5 HG_5 HB_5
      obtain ⟨rfl, rfl, hq⟩ := HTK.out a b a2 b2 HQ1.out htk
      clear htk HTK HQ1 HT HUG HVG
      rcases hq with rfl | rfl | ⟨rfl, q, rfl, hq, hf⟩
      · skip

        go_wp2_with fail
        refine wp_region_quiet_below (by kernel_rfl) (by kernel_rfl) ?_
        repeat (first
          | go_big_quiet_step (fail))
        refine wpQuiet_nil ?_
        intro _ hw'
        obtain ⟨⟨dq, osq⟩, hw''⟩ := hw'
        subst hw''
        have hb := below_regrown w6 dq osq
        have R2_7 := Lib.hid (R2_6.out.box hb)
        have R3_7 := Lib.hid (R3_6.out.box hb)
        have R7_7 := Lib.hid (R7_6.out.box hb)
        have R5_7 := Lib.hid (R5_6.out.box hb)
        have R6_7 := Lib.hid (R6_6.out.box hb)
        have HG_7 := Lib.hid (HG_6.out.below hb HG_6.out.lt)
        have HB_7 := Lib.hid (HB_6.out.trans (hb.mono HB_6.out.size))
        clear hb R2_6 R3_6 R7_6 R5_6 R6_6 HG_6 HB_6
        generalize Sort.grow (redrawn w6 dq) osq = w7 at *
        go_wp2
        go_ret
        exact ⟨rfl, HB_7.out⟩
      · skip

        go_wp2_with fail
        refine wp_region_quiet_below (by kernel_rfl) (by kernel_rfl) ?_
        repeat (first
          | go_big_quiet_step (fail))
        refine wpQuiet_nil ?_
        intro _ hw'
        obtain ⟨⟨dq, osq⟩, hw''⟩ := hw'
        subst hw''
        have hb := below_regrown w6 dq osq
        have R2_7 := Lib.hid (R2_6.out.box hb)
        have R3_7 := Lib.hid (R3_6.out.box hb)
        have R7_7 := Lib.hid (R7_6.out.box hb)
        have R5_7 := Lib.hid (R5_6.out.box hb)
        have R6_7 := Lib.hid (R6_6.out.box hb)
        have HG_7 := Lib.hid (HG_6.out.below hb HG_6.out.lt)
        have HB_7 := Lib.hid (HB_6.out.trans (hb.mono HB_6.out.size))
        clear hb R2_6 R3_6 R7_6 R5_6 R6_6 HG_6 HB_6
        generalize Sort.grow (redrawn w6 dq) osq = w7 at *
        go_wp2
        go_ret
        exact ⟨rfl, HB_7.out⟩
      · have hun := un_num7 k q hq
        have hlc := chk_lt k q
        have hcr := fun W => HCR.out q W hq
        have hen := encode_ref (num7 k q)
        have hll := cwd_length (num7 k q)
        rw [hun] at hen
        generalize cwd (num7 k q) = c at *
        generalize chk k q = r at *
        have hfa := fun W => HFAR.out c W hll
        have hf2 : ((farN u v c 127 : Nat) : Int) ≤ 20 := by omega
        generalize farN u v c 127 = f at *
        have h1 : IntKind.u64.wrap (q : Int) = q := by rw [IntKind.wrap_u64]; omega
        have h2 : IntKind.u64.wrap (r : Int) = r := by rw [IntKind.wrap_u64]; omega
        have h3 : IntKind.u64.wrap (281474976710656 * (r : Int)) = 281474976710656 * (r : Int) := by rw [IntKind.wrap_u64]; omega
        have h4 : IntKind.u64.wrap ((q : Int) + 281474976710656 * (r : Int)) = (q : Int) + 281474976710656 * (r : Int) := by rw [IntKind.wrap_u64]; omega
        have HX1 := Lib.hid hcr
        have HX2 := Lib.hid hen
        have HX3 := Lib.hid hfa
        clear hcr hen hfa hun hf hll HCR HFAR
        have HC2 : Hid (∀ W : World, (∃ p : Regrown, W = Sort.grow (redrawn w6 p.d) p.os) → W.heap[w.heap.size]? = some (.cells (byteCells k) 23 (0, 0))) := by
          rintro W ⟨p, rfl⟩
          exact R2_6.out.below (below_regrown w6 p.d p.os) R2_6.out.lt
        have HC5 : Hid (∀ W : World, (∃ p : Regrown, W = Sort.grow (redrawn w6 p.d) p.os) → W.heap[g5]? = some (.cells (boolCells u) 40 (0, 0))) := by
          rintro W ⟨p, rfl⟩
          exact R5_6.out.below (below_regrown w6 p.d p.os) R5_6.out.lt
        have HC6 : Hid (∀ W : World, (∃ p : Regrown, W = Sort.grow (redrawn w6 p.d) p.os) → W.heap[(g5 + 1)]? = some (.cells (boolCells v) 40 (0, 0))) := by
          rintro W ⟨p, rfl⟩
          exact R6_6.out.below (below_regrown w6 p.d p.os) R6_6.out.lt
        have KC0 : Hid (∀ d os, Calls Tryd.prog 15 #[.agg (byteCells k), .int .i64 q] (Sort.grow (redrawn w6 d) os) fun e w'' => e = .returned (.int .i64 (r : Nat)) ∧ ∃ p : Regrown, w'' = Sort.grow (redrawn w6 p.d) p.os) :=
          fun d os => Calls.regrown_of (HX1.out _)
        have KC1 : Hid (∀ d os, Calls Tryd.prog 20 #[.int .u64 ((q : Int) + 281474976710656 * (r : Int))] (Sort.grow (redrawn w6 d) os) fun e w'' => e = .returned (.agg (boolCells c)) ∧ ∃ p : Regrown, w'' = Sort.grow (redrawn w6 p.d) p.os) :=
          fun d os => Calls.regrown_of (HX2.out _)
        have KC2 : Hid (∀ d os, Calls Tryd.prog 13 #[.agg (boolCells u), .agg (boolCells v), .agg (boolCells c)] (Sort.grow (redrawn w6 d) os) fun e w'' => e = .returned (.int .i64 (f : Nat)) ∧ ∃ p : Regrown, w'' = Sort.grow (redrawn w6 p.d) p.os) :=
          fun d os => Calls.regrown_of (HX3.out _)
        go_wp2_with fail
        refine wp_region_quiet_below (by kernel_rfl) (by kernel_rfl) ?_
        repeat (first
          | (go_big_quiet_want; refine quiet_load_row 23 (.tmp 2) rfl w.heap.size rfl 23 (byteCells k) (0, 0) _ HC2.out Tryd.underlying23 rfl HI.out ?_; go_big_quiet_on; simp only [Act.put, List.setIfInBounds_toArray, List.set_cons_zero, List.set_cons_succ])
          | (go_big_quiet_want; refine quiet_load_row 40 (.tmp 5) rfl g5 rfl 40 (boolCells u) (0, 0) _ HC5.out Tryd.underlying40 rfl (HSU.out ()) ?_; go_big_quiet_on; simp only [Act.put, List.setIfInBounds_toArray, List.set_cons_zero, List.set_cons_succ])
          | (go_big_quiet_want; refine quiet_load_row 40 (.tmp 6) rfl (g5 + 1) rfl 40 (boolCells v) (0, 0) _ HC6.out Tryd.underlying40 rfl (HSV.out ()) ?_; go_big_quiet_on; simp only [Act.put, List.setIfInBounds_toArray, List.set_cons_zero, List.set_cons_succ])
          | go_big_quiet_step (fail))
        go_big_quiet_step (first | (go_at_call 15; exact KC0.out _ _))
        repeat (first
          | (go_big_quiet_want; refine quiet_load_row 23 (.tmp 2) rfl w.heap.size rfl 23 (byteCells k) (0, 0) _ HC2.out Tryd.underlying23 rfl HI.out ?_; go_big_quiet_on; simp only [Act.put, List.setIfInBounds_toArray, List.set_cons_zero, List.set_cons_succ])
          | (go_big_quiet_want; refine quiet_load_row 40 (.tmp 5) rfl g5 rfl 40 (boolCells u) (0, 0) _ HC5.out Tryd.underlying40 rfl (HSU.out ()) ?_; go_big_quiet_on; simp only [Act.put, List.setIfInBounds_toArray, List.set_cons_zero, List.set_cons_succ])
          | (go_big_quiet_want; refine quiet_load_row 40 (.tmp 6) rfl (g5 + 1) rfl 40 (boolCells v) (0, 0) _ HC6.out Tryd.underlying40 rfl (HSV.out ()) ?_; go_big_quiet_on; simp only [Act.put, List.setIfInBounds_toArray, List.set_cons_zero, List.set_cons_succ])
          | go_big_quiet_step (fail))
        go_big_quiet_step (first | (go_at_call 20; exact KC1.out _ _))
        repeat (first
          | (go_big_quiet_want; refine quiet_load_row 23 (.tmp 2) rfl w.heap.size rfl 23 (byteCells k) (0, 0) _ HC2.out Tryd.underlying23 rfl HI.out ?_; go_big_quiet_on; simp only [Act.put, List.setIfInBounds_toArray, List.set_cons_zero, List.set_cons_succ])
          | (go_big_quiet_want; refine quiet_load_row 40 (.tmp 5) rfl g5 rfl 40 (boolCells u) (0, 0) _ HC5.out Tryd.underlying40 rfl (HSU.out ()) ?_; go_big_quiet_on; simp only [Act.put, List.setIfInBounds_toArray, List.set_cons_zero, List.set_cons_succ])
          | (go_big_quiet_want; refine quiet_load_row 40 (.tmp 6) rfl (g5 + 1) rfl 40 (boolCells v) (0, 0) _ HC6.out Tryd.underlying40 rfl (HSV.out ()) ?_; go_big_quiet_on; simp only [Act.put, List.setIfInBounds_toArray, List.set_cons_zero, List.set_cons_succ])
          | go_big_quiet_step (fail))
        go_big_quiet_step (first | (go_at_call 13; exact KC2.out _ _))
        repeat (first
          | (go_big_quiet_want; refine quiet_load_row 23 (.tmp 2) rfl w.heap.size rfl 23 (byteCells k) (0, 0) _ HC2.out Tryd.underlying23 rfl HI.out ?_; go_big_quiet_on; simp only [Act.put, List.setIfInBounds_toArray, List.set_cons_zero, List.set_cons_succ])
          | (go_big_quiet_want; refine quiet_load_row 40 (.tmp 5) rfl g5 rfl 40 (boolCells u) (0, 0) _ HC5.out Tryd.underlying40 rfl (HSU.out ()) ?_; go_big_quiet_on; simp only [Act.put, List.setIfInBounds_toArray, List.set_cons_zero, List.set_cons_succ])
          | (go_big_quiet_want; refine quiet_load_row 40 (.tmp 6) rfl (g5 + 1) rfl 40 (boolCells v) (0, 0) _ HC6.out Tryd.underlying40 rfl (HSV.out ()) ?_; go_big_quiet_on; simp only [Act.put, List.setIfInBounds_toArray, List.set_cons_zero, List.set_cons_succ])
          | go_big_quiet_step (fail))
        refine wpQuiet_nil ?_
        intro _ hw'
        obtain ⟨⟨dq, osq⟩, hw''⟩ := hw'
        subst hw''
        have hb := below_regrown w6 dq osq
        have R2_7 := Lib.hid (R2_6.out.box hb)
        have R3_7 := Lib.hid (R3_6.out.box hb)
        have R7_7 := Lib.hid (R7_6.out.box hb)
        have R5_7 := Lib.hid (R5_6.out.box hb)
        have R6_7 := Lib.hid (R6_6.out.box hb)
        have HG_7 := Lib.hid (HG_6.out.below hb HG_6.out.lt)
        have HB_7 := Lib.hid (HB_6.out.trans (hb.mono HB_6.out.size))
        clear hb R2_6 R3_6 R7_6 R5_6 R6_6 HG_6 HB_6
        clear HC2 HC5 HC6 KC0 KC1 KC2
        generalize Sort.grow (redrawn w6 dq) osq = w7 at *
        go_wp2
        go_ret
        exact ⟨by first | rfl | simp [hf2], HB_7.out⟩
end Go.Proofs.YtmfnjjkbfabonaaDoor

/- The law LoadDecides holds: votes speak for a word, bit by bit; only what they are for counts, not how much. Conditions: none but those of the row. -/
namespace Go.Proofs.YtmfnjjkbfabonaaDoor.loadDecides
open Go.ChangeShapes Go.WideShapes Go.ChangeAt Go.RowKit
open Go.ChangeMaps (open_string shut_string)
open M

set_option maxRecDepth 100000 in
theorem lifted (os : Os) (started : os.Started) (H : Type) (enc : TypeId × Value → H) :
    ReturnsInHanded {} Tryd.checked os 6 .any (fun w args => (Rows.loadDecidesSpec.pre enc Tryd.prog Tryd.f6 [] false w args ∧ laidMetH Tryd.prog laidL w) ∧ sizedMet enc Tryd.prog Tryd.f6 (OpenSpec.ofChange Rows.loadDecidesSpec) false w args)
      (Rows.loadDecidesSpec.post enc Tryd.prog Tryd.f6 false true false false) := by
  refine returnsInHanded_of_change_and (C := Tryd.checked) (X := fun w _ => laidMetH Tryd.prog laidL w) (fun _ _ _ hh h => h.of_heap hh) own started (by kernel_rfl) Tryd.func6
    (ChangeSpec.witness_shaped (enc := enc) (C := Tryd.checked) (os := os) (X := fun w _ => laidMetH Tryd.prog laidL w) false (World.doorLaid Tryd.prog 400 os) #[.agg (Array.replicate 16 (.int .u8 0)), .agg (intCells (List.replicate 127 0))] 8 rfl (World.shaped_of_RefB (by kernel_rfl) (by kernel_rfl)) (by kernel_rfl) (by kernel_rfl) (by kernel_rfl) (door_met os _)) ?_
  intro W base args ds gs before hval0 hW _ _ hL _
  have hval : ∀ (j : Nat) t v, Tryd.f6.params[j]? = some t → args[j]? = some v → Value.okWide Tryd.prog W .any base t v := hval0
  have hW' := hW
  obtain ⟨p, q, hA0, hV, rfl, hfz, hnd⟩ := hW
  have hA : DataW.TrodAll enc Tryd.prog W 0 (fun _ => true) true Tryd.f6.params.toList args.toList ds p := hA0
  rw [Tryd.params6] at hA hval
  obtain ⟨v0, vs0, d0, ds0, p0, q0, hargs, rfl, rfl, h0, r0⟩ := trodAll_cons hA
  obtain ⟨v1, vs1, d1, ds1, p1, q1, rfl, rfl, rfl, h1, r1⟩ := trodAll_cons r0
  obtain ⟨rfl, rfl, rfl⟩ := trodAll_nil r1
  obtain rfl : args = #[v0, v1] := by cases args; simp_all
  obtain ⟨rfl, rfl⟩ := trodVars_none hV
  obtain ⟨a0, k0, rfl, rfl, rfl, w0⟩ := open_key (hval 0 23 v0 rfl rfl) h0
  obtain ⟨a1, k1, rfl, rfl, rfl, b1, w1⟩ := open_votes (hval 1 30 v1 rfl rfl) h1
  have hS := signs_of hL
  clear hA0 hval0
  refine (decides_any a0 a1 W k0 k1 hS).mono fun e W' ⟨he, bel⟩ => ?_
  subst he
  exact ⟨_, rfl, _, _, _, [], _, [], hW', trodAll_mk1 (shut_bool Tryd.underlying4 _), (trodAll_cons_mk (w0 _ _ _ _) (trodAll_cons_mk (w1 _ _ _ _) trodAll_mk0)), rfl, bel.frame _, fun h => by cases h⟩

theorem row_holds : Rows.LoadDecidesSaid :=
  OpenClaim.holds_of_wide 6 Tryd.f6 rfl rfl rfl rfl rfl rfl rfl ⟨rfl, rfl, rfl, rfl, rfl⟩ rfl rfl rfl rfl rfl (by kernel_rfl) Tryd.func6 (by kernel_rfl)
    (of_decide_eq_true (by kernel_rfl)) (by unfold Func.isWrapper; first | (rw [if_pos (by decide +kernel)]; kernel_rfl) | (rw [if_neg (by decide +kernel)]; exact ⟨rfl, rfl⟩))
    (fun os started H enc _ => lifted os started H enc)

theorem proved : Rows.LoadDecidesCardSaid :=
  Claim7.holds_tied_plain_at .later [] [.data] true Rows.loadDecidesCard.stood.harness false
    row_holds (fun _ h => by cases h) (by kernel_rfl) (fun _ h => by cases h) loadDecides_row_tie rfl ⟨rfl, rfl⟩ (by kernel_rfl) rfl
    (fun f fn hf hfn => by
      obtain rfl : f = 6 := Option.some.inj ((show Tryd.prog.funcNamed Rows.loadDecidesRow.func = some 6 by kernel_rfl).symm.trans hf) |>.symm
      obtain rfl : fn = Tryd.f6 := (Option.some.inj (Tryd.func6.symm.trans hfn)).symm
      exact ⟨by kernel_rfl, fun j t ht => by
        rw [Tryd.params6] at ht
        have hm : t ∈ [23, 30] := by simpa using Array.mem_of_getElem? ht
        have hall : ([23, 30].all fun u => !Tryd.prog.wantsStandIn u) = true := by kernel_rfl
        exact (show Tryd.prog.wantsStandIn t = false by simpa using List.all_eq_true.1 hall t hm)⟩)
    (by kernel_rfl)
#print axioms proved
end Go.Proofs.YtmfnjjkbfabonaaDoor.loadDecides
