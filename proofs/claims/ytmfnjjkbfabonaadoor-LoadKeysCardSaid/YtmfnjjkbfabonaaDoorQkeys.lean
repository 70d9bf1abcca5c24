/-
  The law LoadKeys holds: what was laid under one key is taken under another one just if the checks are the same. Conditions: none but those of the row.
-/
import Derived.Test.YtmfnjjkbfabonaaDoorQ14
import Derived.Test.YtmfnjjkbfabonaaDoorTie
import Derived.Test.YtmfnjjkbfabonaaDoorCards
import Derived.SevenTiedAt

/- The walk of the law LoadKeys. Conditions: keys have 16 bytes; the signs lie as the program's text lays them. -/
namespace Go.Proofs.YtmfnjjkbfabonaaDoor
open Go.RowKit
open M
attribute [local go_sem] un_beq un_bne

set_option maxRecDepth 100000 in
set_option maxHeartbeats 2000000 in
theorem keys_any (k o : List UInt8) (z : Int) (w : World) (hk : k.length = 16) (ho : o.length = 16) (h : Signs w) :
    Calls Tryd.prog 7 #[.agg (byteCells k), .agg (byteCells o), .int .i64 z] w fun e w' => e = .returned (.bool true) ∧ Below w.heap.size w w' := by
  have hb0 : Below w.heap.size w ((w.alloc (.cells (byteCells k) 23)).alloc (.cells (byteCells o) 23)) := ((Below.refl _ _).alloc (Nat.le_refl _) _).alloc (by simp) _
  have HB_0 := Lib.hid hb0
  have HG_0 := Lib.hid (h.below hb0 h.lt)
  have HK_0 : Hid (Row ((w.alloc (.cells (byteCells k) 23)).alloc (.cells (byteCells o) 23)) w.heap.size 23 (byteCells k)) := heap_alloc2_old _ _ _
  have HO_0 : Hid (Row ((w.alloc (.cells (byteCells k) 23)).alloc (.cells (byteCells o) 23)) (w.heap.size + 1) 23 (byteCells o)) := heap_alloc2_new _ _ _
  have HI := Lib.hid (key_info k hk)
  have HIO := Lib.hid (key_info o ho)
  have HA := Lib.hid fun W (hs : Signs W) => awake_any W hs
  have hz := word_zero
  have hzv := votes_zero
  have hand := and48 z
  have hlt := mod48_lt z
  generalize (z % 281474976710656).toNat = p at *
  have HY := Lib.hid fun W (hs : Signs W) => lay_ok k p W hk hlt hs
  have HC := Lib.hid fun W (hs : Signs W) => check_ok k p W hk hlt hs
  have HD := Lib.hid fun W (hs : Signs W) => check_ok o p W ho hlt hs
  have HT := Lib.hid fun l W (hl : l.length = 127) (hs : Signs W) => take_votes o l W ho hl hs
  have HTK := Lib.hid (tk_keys k o p hlt)
  have HL := Lib.hid (cwd_length (num7 k p))
  generalize cwd (num7 k p) = c at *
  generalize chk k p = q at *
  generalize chk o p = q2 at *
  have HS := Lib.hid fun _ : Unit => word_size c HL.out
  have HSS : Hid (Unit → (boolCells w0).size = (boolCells c).size) := by intro _; rw [boolCells_size, boolCells_size, w0_length, HL.out]
  clear h hb0
  go_enter Tryd.func7, Tryd.ntmps7
  go_wp2_with (first
      | (refine wpList_load_row rfl 23 (.tmp 3) rfl w.heap.size rfl 23 (byteCells k) (0, 0) _ HK_0.out Tryd.underlying23 rfl HI.out ?_)
      | (refine wpList_load_row rfl 23 (.tmp 4) rfl (w.heap.size + 1) rfl 23 (byteCells o) (0, 0) _ HO_0.out Tryd.underlying23 rfl HIO.out ?_))
  refine (HA.out _ HG_0.out).mono ?_
  rintro e w1 ⟨rfl, hb⟩
  have R3_1 := Lib.hid (HK_0.out.box hb)
  have R4_1 := Lib.hid (HO_0.out.box hb)
  have HG_1 := Lib.hid (HG_0.out.below hb HG_0.out.lt)
  have HB_1 := Lib.hid (HB_0.out.trans (hb.mono HB_0.out.size))
  clear hb HK_0 HO_0 HG_0 HB_0
  go_wp2_with (first
      | (refine wpList_load_row rfl 23 (.tmp 3) rfl w.heap.size rfl 23 (byteCells k) (0, 0) _ R3_1.out Tryd.underlying23 rfl HI.out ?_)
      | (refine wpList_load_row rfl 23 (.tmp 4) rfl (w.heap.size + 1) rfl 23 (byteCells o) (0, 0) _ R4_1.out Tryd.underlying23 rfl HIO.out ?_))
  refine (HY.out _ HG_1.out).mono ?_
  rintro e w2 ⟨rfl, hb⟩
  have R3_2 := Lib.hid (R3_1.out.box hb)
  have R4_2 := Lib.hid (R4_1.out.box hb)
  have HG_2 := Lib.hid (HG_1.out.below hb HG_1.out.lt)
  have HB_2 := Lib.hid (HB_1.out.trans (hb.mono HB_1.out.size))
  clear hb R3_1 R4_1 HG_1 HB_1
  have H0 : Hid (Row (w2.alloc (.cells (boolCells w0) 40)) w2.heap.size 40 (boolCells w0)) := heap_alloc_new _ _
  go_upto_region 5 with (first
      | (refine wpList_store_row rfl 40 (.tmp 7) (.tmp 21) rfl w2.heap.size (boolCells c) rfl rfl 40 (boolCells w0) H0.out (HS.out ()) (HSS.out ()) (boolCells_one c) ?_)
      | (refine wpList_load_row rfl 23 (.tmp 3) rfl w.heap.size rfl 23 (byteCells k) (0, 0) _ R3_2.out Tryd.underlying23 rfl HI.out ?_)
      | (refine wpList_load_row rfl 23 (.tmp 4) rfl (w.heap.size + 1) rfl 23 (byteCells o) (0, 0) _ R4_2.out Tryd.underlying23 rfl HIO.out ?_))
  have hgs := HB_2.out.size
  have hbs : Below w2.heap.size w2 ((w2.alloc (.cells (boolCells w0) 40)).setRow w2.heap.size (boolCells c)) := below_setRow ((Below.refl _ _).alloc (Nat.le_refl _) _) (Nat.le_refl _) _
  have hne3_7 : w.heap.size < w2.heap.size := R3_2.out.lt
  have R3_3 := Lib.hid (R3_2.out.box hbs)
  have hne4_7 : (w.heap.size + 1) < w2.heap.size := R4_2.out.lt
  have R4_3 := Lib.hid (R4_2.out.box hbs)
  have HG_3 := Lib.hid (HG_2.out.below hbs HG_2.out.lt)
  have R7_3 : Hid (Row ((w2.alloc (.cells (boolCells w0) 40)).setRow w2.heap.size (boolCells c)) w2.heap.size 40 (boolCells c)) := Row.setRow H0.out _
  have HB_3 : Hid (Below w.heap.size w ((w2.alloc (.cells (boolCells w0) 40)).setRow w2.heap.size (boolCells c))) := Lib.hid (HB_2.out.trans (hbs.mono hgs))
  have hgb7 : w.heap.size ≤ w2.heap.size := hgs
  clear H0 R3_2 R4_2 HG_2 HB_2 hbs hgs
  generalize ((w2.alloc (.cells (boolCells w0) 40)).setRow w2.heap.size (boolCells c)) = w3 at *
  generalize w2.heap.size = g7 at *
  have H9 : Hid (Row (w3.alloc (.cells (intCells v0) 30)) w3.heap.size 30 (intCells v0)) := heap_alloc_new _ _
  have hb9 : Below w3.heap.size w3 (w3.alloc (.cells (intCells v0) 30)) := (Below.refl _ _).alloc (Nat.le_refl _) _
  have HB9 := Lib.hid (HB_3.out.trans (hb9.mono HB_3.out.size))
  have HG9 := Lib.hid (HG_3.out.below hb9 HG_3.out.lt)
  have H7 := Lib.hid (R7_3.out.box hb9)
  have H3 := Lib.hid (R3_3.out.box hb9)
  have H4 := Lib.hid (R4_3.out.box hb9)
  have hge : w.heap.size ≤ w3.heap.size := HB_3.out.size
  have hne7 : g7 < w3.heap.size := R7_3.out.lt
  have hne4 : w.heap.size + 1 < w3.heap.size := R4_3.out.lt
  have hgs : 0 < w3.heap.size := HG_3.out.lt
  clear HB_3 HG_3 R7_3 R3_3 R4_3 hb9
  go_wp2_with fail
  generalize w3.alloc (.cells (intCells v0) 30) = w4 at *
  generalize w3.heap.size = g9 at *
  go_loopw [10] (fun i wr => ∃ j : Nat, j ≤ 127 ∧ i = .int .i64 j ∧ Row wr g9 30 (intCells (sayj c w0 0 j)) ∧ Row wr g7 40 (boolCells c) ∧ Row wr w.heap.size 23 (byteCells k) ∧ Row wr (w.heap.size + 1) 23 (byteCells o) ∧ Signs wr ∧ Below w.heap.size w wr) (fun i _ => 127 - (intOf i).toNat)
  case atStart => exact ⟨0, by omega, rfl, by rw [sayj_zero]; exact H9.out, H7.out, H3.out, H4.out, HG9.out, HB9.out⟩
  case round =>
    clear H9 H7 H3 H4 HB9 HG9
    obtain ⟨j, hj, rfl, h9, h7, h3, h4, hsg, hbl⟩ := hrel
    have H9 := Lib.hid h9
    have R7_4 := Lib.hid h7
    have R3_4 := Lib.hid h3
    have R4_4 := Lib.hid h4
    have HG_4 := Lib.hid hsg
    have HB_4 := Lib.hid hbl
    by_cases hlt7 : j < 127
    · have c7 := word_at h7 j (by rw [HL.out]; exact hlt7)
      have f9 := h9.free j
      obtain ⟨u9, c9⟩ : ∃ u, wr.cell? ⟨g9, j, none⟩ = some u := ⟨_, (cell_of_row _ _ _ _ _ _ h9).trans (intCells_get _ j (by rw [sayj_length]; exact hlt7))⟩
      have HSY := Lib.hid (sayk c j)
      have HST := Lib.hid (sayj_set c w0 0 j)
      generalize c.getD j false = b at *
      clear h9 h7 h3 h4 hsg hbl
      cases b
      · have hv := HSY.out false rfl
        rw [if_neg (by simp)] at hv
        have HV := Lib.hid fun _ : Unit => HST.out 1 hv
        clear HSY HST hv
        go_wp2
        go_roundw
        case rel =>
          refine ⟨j + 1, by omega, by go_num, ?_, R7_4.out.far (p := ⟨g9, j, none⟩) (by show g7 ≠ g9; omega) _, R3_4.out.far (p := ⟨g9, j, none⟩) (by show w.heap.size ≠ g9; omega) _, R4_4.out.far (p := ⟨g9, j, none⟩) (by show w.heap.size + 1 ≠ g9; omega) _, ?_, HB_4.out.setCell (p := ⟨g9, j, none⟩) hge _⟩
          · rw [← HV.out (), ← intCells_set]
            exact H9.out.set j _
          · exact HG_4.out.below ((Below.refl g9 wr).setCell (p := ⟨g9, j, none⟩) (Nat.le_refl _) _) hgs
        case measure => simp [intOf] <;> omega
      · have hv := HSY.out true rfl
        rw [if_pos rfl] at hv
        have HV := Lib.hid fun _ : Unit => HST.out (-1) hv
        clear HSY HST hv
        go_wp2
        go_roundw
        case rel =>
          refine ⟨j + 1, by omega, by go_num, ?_, (R7_4.out.far (p := ⟨g9, j, none⟩) (by show g7 ≠ g9; omega) _).far (p := ⟨g9, j, none⟩) (by show g7 ≠ g9; omega) _, (R3_4.out.far (p := ⟨g9, j, none⟩) (by show w.heap.size ≠ g9; omega) _).far (p := ⟨g9, j, none⟩) (by show w.heap.size ≠ g9; omega) _, (R4_4.out.far (p := ⟨g9, j, none⟩) (by show w.heap.size + 1 ≠ g9; omega) _).far (p := ⟨g9, j, none⟩) (by show w.heap.size + 1 ≠ g9; omega) _, ?_, (HB_4.out.setCell (p := ⟨g9, j, none⟩) hge _).setCell (p := ⟨g9, j, none⟩) hge _⟩
          · have := (H9.out.set j (.int .i64 1)).set j (.int .i64 (-1))
            rw [intCells_set, intCells_set, List.set_set, HV.out ()] at this
            exact this
          · exact HG_4.out.below (((Below.refl g9 wr).setCell (p := ⟨g9, j, none⟩) (Nat.le_refl _) _).setCell (p := ⟨g9, j, none⟩) (Nat.le_refl _) _) hgs
        case measure => simp [intOf] <;> omega
    · obtain rfl : j = 127 := by omega
      rw [sayj_done] at H9
      have HLS : Hid ((say c w0 0 127).length = 127) := say_length _ _ _ _
      clear h9 h7 h3 h4 hsg hbl hlt7 hj
      generalize say c w0 0 127 = l at *
      have HVS := Lib.hid fun _ : Unit => votes_size l HLS.out
      generalize hwr : wr = w4 at *
      clear hwr R7_4
      go_wp2_with (first
          | (refine wpList_load_row rfl 23 (.tmp 3) rfl w.heap.size rfl 23 (byteCells k) (0, 0) _ R3_4.out Tryd.underlying23 rfl HI.out ?_)
          | (refine wpList_load_row rfl 23 (.tmp 4) rfl (w.heap.size + 1) rfl 23 (byteCells o) (0, 0) _ R4_4.out Tryd.underlying23 rfl HIO.out ?_)
          | (refine wpList_load_row rfl 30 (.tmp 9) rfl g9 rfl 30 (intCells l) (0, 0) _ H9.out Tryd.underlying30 rfl (HVS.out ()) ?_))
      refine (HT.out l _ HLS.out HG_4.out).mono ?_
      rintro e w5 ⟨a, b, rfl, htk, hb⟩
      have R3_5 := Lib.hid (R3_4.out.box hb)
      have R4_5 := Lib.hid (R4_4.out.box hb)
      have R9_5 := Lib.hid (H9.out.box hb)
      have HG_5 := Lib.hid (HG_4.out.below hb HG_4.out.lt)
      have HB_5 := Lib.hid (HB_4.out.trans (hb.mono HB_4.out.size))
      clear hb R3_4 R4_4 H9 HG_4 HB_4
      have hab := HTK.out a b htk
      clear htk HTK
      by_cases hq : q = q2
      · obtain ⟨rfl, rfl⟩ := hab.1 hq
        clear hab
        subst hq
        have HC3 : Hid (∀ W : World, (∃ p : Regrown, W = Sort.grow (redrawn w5 p.d) p.os) → W.heap[w.heap.size]? = some (.cells (byteCells k) 23 (0, 0))) := by
          rintro W ⟨p, rfl⟩
          exact R3_5.out.below (below_regrown w5 p.d p.os) R3_5.out.lt
        have HC4 : Hid (∀ W : World, (∃ p : Regrown, W = Sort.grow (redrawn w5 p.d) p.os) → W.heap[(w.heap.size + 1)]? = some (.cells (byteCells o) 23 (0, 0))) := by
          rintro W ⟨p, rfl⟩
          exact R4_5.out.below (below_regrown w5 p.d p.os) R4_5.out.lt
        have KC0 : Hid (∀ d os, Calls Tryd.prog 18 #[.agg (byteCells k), .int .i64 p] (Sort.grow (redrawn w5 d) os) fun e w'' => e = .returned (.int .i64 (q : Nat)) ∧ ∃ p : Regrown, w'' = Sort.grow (redrawn w5 p.d) p.os) :=
          fun d os => Calls.regrown_of (HC.out _ (HG_5.out.below (below_regrown w5 d os) HG_5.out.lt))
        have KC1 : Hid (∀ d os, Calls Tryd.prog 18 #[.agg (byteCells o), .int .i64 p] (Sort.grow (redrawn w5 d) os) fun e w'' => e = .returned (.int .i64 (q : Nat)) ∧ ∃ p : Regrown, w'' = Sort.grow (redrawn w5 p.d) p.os) :=
          fun d os => Calls.regrown_of (HD.out _ (HG_5.out.below (below_regrown w5 d os) HG_5.out.lt))
        go_wp2_with fail
        refine wp_region_quiet_below (by kernel_rfl) (by kernel_rfl) ?_
        repeat (first
          | (refine BigFrame.wpQuiet_want (by rfl) (fun K hK => ?_); refine quiet_load_row 23 (.tmp 3) rfl w.heap.size rfl 23 (byteCells k) (0, 0) _ HC3.out Tryd.underlying23 rfl HI.out ?_; refine hK _ ?_; clear hK K; simp only [Act.put, List.setIfInBounds_toArray, List.set_cons_zero, List.set_cons_succ])
          | (refine BigFrame.wpQuiet_want (by rfl) (fun K hK => ?_); refine quiet_load_row 23 (.tmp 4) rfl (w.heap.size + 1) rfl 23 (byteCells o) (0, 0) _ HC4.out Tryd.underlying23 rfl HIO.out ?_; refine hK _ ?_; clear hK K; simp only [Act.put, List.setIfInBounds_toArray, List.set_cons_zero, List.set_cons_succ])
          | quiet_step (fail))
        quiet_step (first | (go_at_call 18; exact KC0.out _ _))
        repeat (first
          | (refine BigFrame.wpQuiet_want (by rfl) (fun K hK => ?_); refine quiet_load_row 23 (.tmp 3) rfl w.heap.size rfl 23 (byteCells k) (0, 0) _ HC3.out Tryd.underlying23 rfl HI.out ?_; refine hK _ ?_; clear hK K; simp only [Act.put, List.setIfInBounds_toArray, List.set_cons_zero, List.set_cons_succ])
          | (refine BigFrame.wpQuiet_want (by rfl) (fun K hK => ?_); refine quiet_load_row 23 (.tmp 4) rfl (w.heap.size + 1) rfl 23 (byteCells o) (0, 0) _ HC4.out Tryd.underlying23 rfl HIO.out ?_; refine hK _ ?_; clear hK K; simp only [Act.put, List.setIfInBounds_toArray, List.set_cons_zero, List.set_cons_succ])
          | quiet_step (fail))
        quiet_step (first | (go_at_call 18; exact KC1.out _ _))
        repeat (first
          | (refine BigFrame.wpQuiet_want (by rfl) (fun K hK => ?_); refine quiet_load_row 23 (.tmp 3) rfl w.heap.size rfl 23 (byteCells k) (0, 0) _ HC3.out Tryd.underlying23 rfl HI.out ?_; refine hK _ ?_; clear hK K; simp only [Act.put, List.setIfInBounds_toArray, List.set_cons_zero, List.set_cons_succ])
          | (refine BigFrame.wpQuiet_want (by rfl) (fun K hK => ?_); refine quiet_load_row 23 (.tmp 4) rfl (w.heap.size + 1) rfl 23 (byteCells o) (0, 0) _ HC4.out Tryd.underlying23 rfl HIO.out ?_; refine hK _ ?_; clear hK K; simp only [Act.put, List.setIfInBounds_toArray, List.set_cons_zero, List.set_cons_succ])
          | quiet_step (fail))
        refine wpQuiet_nil ?_
        intro _ hw'
        obtain ⟨⟨dq, osq⟩, hw''⟩ := hw'
        subst hw''
        have hb := below_regrown w5 dq osq
        have R3_6 := Lib.hid (R3_5.out.box hb)
        have R4_6 := Lib.hid (R4_5.out.box hb)
        have R9_6 := Lib.hid (R9_5.out.box hb)
        have HG_6 := Lib.hid (HG_5.out.below hb HG_5.out.lt)
        have HB_6 := Lib.hid (HB_5.out.trans (hb.mono HB_5.out.size))
        clear hb R3_5 R4_5 R9_5 HG_5 HB_5
        clear HC3 HC4 KC0 KC1
        generalize Sort.grow (redrawn w5 dq) osq = w6 at *
        go_wp2
        go_ret
        exact ⟨rfl, HB_6.out⟩
      · obtain ⟨rfl, rfl⟩ := hab.2 hq
        have hq2 : ((q : Int) == (q2 : Int)) = false := beq_eq_false_iff_ne.2 (by omega)
        have hq3 : ¬ (q : Int) = (q2 : Int) := by omega
        clear hab hq
        have HC3 : Hid (∀ W : World, (∃ p : Regrown, W = Sort.grow (redrawn w5 p.d) p.os) → W.heap[w.heap.size]? = some (.cells (byteCells k) 23 (0, 0))) := by
          rintro W ⟨p, rfl⟩
          exact R3_5.out.below (below_regrown w5 p.d p.os) R3_5.out.lt
        have HC4 : Hid (∀ W : World, (∃ p : Regrown, W = Sort.grow (redrawn w5 p.d) p.os) → W.heap[(w.heap.size + 1)]? = some (.cells (byteCells o) 23 (0, 0))) := by
          rintro W ⟨p, rfl⟩
          exact R4_5.out.below (below_regrown w5 p.d p.os) R4_5.out.lt
        have KC0 : Hid (∀ d os, Calls Tryd.prog 18 #[.agg (byteCells k), .int .i64 p] (Sort.grow (redrawn w5 d) os) fun e w'' => e = .returned (.int .i64 (q : Nat)) ∧ ∃ p : Regrown, w'' = Sort.grow (redrawn w5 p.d) p.os) :=
          fun d os => Calls.regrown_of (HC.out _ (HG_5.out.below (below_regrown w5 d os) HG_5.out.lt))
        have KC1 : Hid (∀ d os, Calls Tryd.prog 18 #[.agg (byteCells o), .int .i64 p] (Sort.grow (redrawn w5 d) os) fun e w'' => e = .returned (.int .i64 (q2 : Nat)) ∧ ∃ p : Regrown, w'' = Sort.grow (redrawn w5 p.d) p.os) :=
          fun d os => Calls.regrown_of (HD.out _ (HG_5.out.below (below_regrown w5 d os) HG_5.out.lt))
        go_wp2_with fail
        refine wp_region_quiet_below (by kernel_rfl) (by kernel_rfl) ?_
        repeat (first
          | (refine BigFrame.wpQuiet_want (by rfl) (fun K hK => ?_); refine quiet_load_row 23 (.tmp 3) rfl w.heap.size rfl 23 (byteCells k) (0, 0) _ HC3.out Tryd.underlying23 rfl HI.out ?_; refine hK _ ?_; clear hK K; simp only [Act.put, List.setIfInBounds_toArray, List.set_cons_zero, List.set_cons_succ])
          | (refine BigFrame.wpQuiet_want (by rfl) (fun K hK => ?_); refine quiet_load_row 23 (.tmp 4) rfl (w.heap.size + 1) rfl 23 (byteCells o) (0, 0) _ HC4.out Tryd.underlying23 rfl HIO.out ?_; refine hK _ ?_; clear hK K; simp only [Act.put, List.setIfInBounds_toArray, List.set_cons_zero, List.set_cons_succ])
          | quiet_step (fail))
        quiet_step (first | (go_at_call 18; exact KC0.out _ _))
        repeat (first
          | (refine BigFrame.wpQuiet_want (by rfl) (fun K hK => ?_); refine quiet_load_row 23 (.tmp 3) rfl w.heap.size rfl 23 (byteCells k) (0, 0) _ HC3.out Tryd.underlying23 rfl HI.out ?_; refine hK _ ?_; clear hK K; simp only [Act.put, List.setIfInBounds_toArray, List.set_cons_zero, List.set_cons_succ])
          | (refine BigFrame.wpQuiet_want (by rfl) (fun K hK => ?_); refine quiet_load_row 23 (.tmp 4) rfl (w.heap.size + 1) rfl 23 (byteCells o) (0, 0) _ HC4.out Tryd.underlying23 rfl HIO.out ?_; refine hK _ ?_; clear hK K; simp only [Act.put, List.setIfInBounds_toArray, List.set_cons_zero, List.set_cons_succ])
          | quiet_step (fail))
        quiet_step (first | (go_at_call 18; exact KC1.out _ _))
        repeat (first
          | (refine BigFrame.wpQuiet_want (by rfl) (fun K hK => ?_); refine quiet_load_row 23 (.tmp 3) rfl w.heap.size rfl 23 (byteCells k) (0, 0) _ HC3.out Tryd.underlying23 rfl HI.out ?_; refine hK _ ?_; clear hK K; simp only [Act.put, List.setIfInBounds_toArray, List.set_cons_zero, List.set_cons_succ])
          | (refine BigFrame.wpQuiet_want (by rfl) (fun K hK => ?_); refine quiet_load_row 23 (.tmp 4) rfl (w.heap.size + 1) rfl 23 (byteCells o) (0, 0) _ HC4.out Tryd.underlying23 rfl HIO.out ?_; refine hK _ ?_; clear hK K; simp only [Act.put, List.setIfInBounds_toArray, List.set_cons_zero, List.set_cons_succ])
          | quiet_step (fail))
        refine wpQuiet_nil ?_
        intro _ hw'
        obtain ⟨⟨dq, osq⟩, hw''⟩ := hw'
        subst hw''
        have hb := below_regrown w5 dq osq
        have R3_6 := Lib.hid (R3_5.out.box hb)
        have R4_6 := Lib.hid (R4_5.out.box hb)
        have R9_6 := Lib.hid (R9_5.out.box hb)
        have HG_6 := Lib.hid (HG_5.out.below hb HG_5.out.lt)
        have HB_6 := Lib.hid (HB_5.out.trans (hb.mono HB_5.out.size))
        clear hb R3_5 R4_5 R9_5 HG_5 HB_5
        clear HC3 HC4 KC0 KC1
        generalize Sort.grow (redrawn w5 dq) osq = w6 at *
        go_wp2
        go_ret
        exact ⟨rfl, HB_6.out⟩
end Go.Proofs.YtmfnjjkbfabonaaDoor

/- The law LoadKeys holds: what was laid under one key is taken under another one just if the checks are the same. Conditions: none but those of the row. -/
namespace Go.Proofs.YtmfnjjkbfabonaaDoor.loadKeys
open Go.ChangeShapes Go.WideShapes Go.ChangeAt Go.RowKit
open Go.ChangeMaps (open_string shut_string)
open M

set_option maxRecDepth 100000 in
theorem lifted (os : Os) (started : os.Started) (H : Type) (enc : TypeId × Value → H) :
    ReturnsInHanded {} Tryd.checked os 7 .any (fun w args => (Rows.loadKeysSpec.pre enc Tryd.prog Tryd.f7 [] false w args ∧ laidMetH Tryd.prog laidL w) ∧ sizedMet enc Tryd.prog Tryd.f7 (OpenSpec.ofChange Rows.loadKeysSpec) false w args)
      (Rows.loadKeysSpec.post enc Tryd.prog Tryd.f7 false true false false) := by
  refine returnsInHanded_of_change_and (C := Tryd.checked) (X := fun w _ => laidMetH Tryd.prog laidL w) (fun _ _ _ hh h => h.of_heap hh) own started (by kernel_rfl) Tryd.func7
    (ChangeSpec.witness_shaped (enc := enc) (C := Tryd.checked) (os := os) (X := fun w _ => laidMetH Tryd.prog laidL w) false (World.doorLaid Tryd.prog 400 os) #[.agg (Array.replicate 16 (.int .u8 0)), .agg (Array.replicate 16 (.int .u8 0)), .int .i64 0] 8 rfl (World.shaped_of_RefB (by kernel_rfl) (by kernel_rfl)) (by kernel_rfl) (by kernel_rfl) (by kernel_rfl) (door_met os _)) ?_
  intro W base args ds gs before hval0 hW _ _ hL _
  have hval : ∀ (j : Nat) t v, Tryd.f7.params[j]? = some t → args[j]? = some v → Value.okWide Tryd.prog W .any base t v := hval0
  have hW' := hW
  obtain ⟨p, q, hA0, hV, rfl, hfz, hnd⟩ := hW
  have hA : DataW.TrodAll enc Tryd.prog W 0 (fun _ => true) true Tryd.f7.params.toList args.toList ds p := hA0
  rw [Tryd.params7] at hA hval
  obtain ⟨v0, vs0, d0, ds0, p0, q0, hargs, rfl, rfl, h0, r0⟩ := trodAll_cons hA
  obtain ⟨v1, vs1, d1, ds1, p1, q1, rfl, rfl, rfl, h1, r1⟩ := trodAll_cons r0
  obtain ⟨v2, vs2, d2, ds2, p2, q2, rfl, rfl, rfl, h2, r2⟩ := trodAll_cons r1
  obtain ⟨rfl, rfl, rfl⟩ := trodAll_nil r2
  obtain rfl : args = #[v0, v1, v2] := by cases args; simp_all
  obtain ⟨rfl, rfl⟩ := trodVars_none hV
  obtain ⟨a0, k0, rfl, rfl, rfl, w0⟩ := open_key (hval 0 23 v0 rfl rfl) h0
  obtain ⟨a1, k1, rfl, rfl, rfl, w1⟩ := open_key (hval 1 23 v1 rfl rfl) h1
  obtain ⟨n2, rfl, rfl, rfl, w2⟩ := open_int Tryd.underlying3 (hval 2 3 v2 rfl rfl) h2
  have hS := signs_of hL
  clear hA0 hval0
  refine (keys_any a0 a1 n2 W k0 k1 hS).mono fun e W' ⟨he, bel⟩ => ?_
  subst he
  exact ⟨_, rfl, _, _, _, [], _, [], hW', trodAll_mk1 (shut_bool Tryd.underlying4 _), (trodAll_cons_mk (w0 _ _ _ _) (trodAll_cons_mk (w1 _ _ _ _) (trodAll_cons_mk (shut_int Tryd.underlying3 w2) trodAll_mk0))), rfl, bel.frame _, fun h => by cases h⟩

theorem row_holds : Rows.LoadKeysSaid :=
  OpenClaim.holds_of_wide 7 Tryd.f7 rfl rfl rfl rfl rfl rfl rfl ⟨rfl, rfl, rfl, rfl, rfl⟩ rfl rfl rfl rfl rfl (by kernel_rfl) Tryd.func7 (by kernel_rfl)
    (of_decide_eq_true (by kernel_rfl)) (by unfold Func.isWrapper; first | (rw [if_pos (by decide +kernel)]; kernel_rfl) | (rw [if_neg (by decide +kernel)]; exact ⟨rfl, rfl⟩))
    (fun os started H enc _ => lifted os started H enc)

theorem proved : Rows.LoadKeysCardSaid :=
  Claim7.holds_tied_plain_at .later [] [.data] true Rows.loadKeysCard.stood.harness false
    row_holds (fun _ h => by cases h) (by kernel_rfl) (fun _ h => by cases h) loadKeys_row_tie rfl ⟨rfl, rfl⟩ (by kernel_rfl) rfl
    (fun f fn hf hfn => by
      obtain rfl : f = 7 := Option.some.inj ((show Tryd.prog.funcNamed Rows.loadKeysRow.func = some 7 by kernel_rfl).symm.trans hf) |>.symm
      obtain rfl : fn = Tryd.f7 := (Option.some.inj (Tryd.func7.symm.trans hfn)).symm
      exact ⟨by kernel_rfl, fun j t ht => by
        rw [Tryd.params7] at ht
        have hm : t ∈ [23, 23, 3] := by simpa using Array.mem_of_getElem? ht
        have hall : ([23, 23, 3].all fun u => !Tryd.prog.wantsStandIn u) = true := by kernel_rfl
        exact (show Tryd.prog.wantsStandIn t = false by simpa using List.all_eq_true.1 hall t hm)⟩)
    (by kernel_rfl)
#print axioms proved
end Go.Proofs.YtmfnjjkbfabonaaDoor.loadKeys
