/-
  BandPuts: what was put is there, and nowhere else. Conditions: 32 ints, a number, four ints.
-/
import Derived.Test.YtagcdnglipdldaaBnf
import Derived.Test.YtagcdnglipdldaaBng
import Derived.Test.YtagcdnglipdldaaDr
namespace Go.Proofs.Ytagcdnglipdldaa
open Go.RowKit
open M
theorem four_eq (a b : List Int) (ha : a.length = 4) (hb : b.length = 4) (w : World) :
    (Op.equalIn 10000 23 (.agg (iCells a)) (.agg (iCells b))).run Try.prog w = .ok (a == b) w := by
  obtain ⟨i, hi⟩ := int_infoS
  rw [show (10000 : Nat) = 9998 + 1 + 1 from rfl, run_equalIn_array w (9998 + 1) _ _ Try.underlying23 hi, ints_itemsS 9998 a b w (by omega) _ (fun j hj => by have := List.mem_range.1 hj; omega), all_sameS a b (by omega) 4 ha.symm]
theorem pt16_get (f : List Int) (b : Nat) (c : List Int) (hf : f.length = 32) (hc : c.length = 4) (hb : b ≤ 7) (j : Nat) : (pt16 f b c).getD j 0 = if b * 4 ≤ j ∧ j < b * 4 + 4 then c.getD (j - b * 4) 0 else f.getD j 0 := by
  unfold pt16
  have ht : (f.take (b * 4)).length = b * 4 := by simp; omega
  rw [List.getD_eq_getElem?_getD, List.getElem?_append, List.getElem?_append]
  simp only [List.length_append, ht, hc]
  by_cases h1 : j < b * 4
  · rw [if_pos (by omega), if_pos h1, if_neg (by omega), List.getElem?_take, if_pos h1, ← List.getD_eq_getElem?_getD]
  · by_cases h2 : j < b * 4 + 4
    · rw [if_pos h2, if_neg h1, if_pos (by omega), ← List.getD_eq_getElem?_getD]
    · rw [if_neg h2, if_neg (by omega), List.getElem?_drop, ← List.getD_eq_getElem?_getD]
      congr 1
      omega
theorem bd16_same (f : List Int) (b : Nat) (c : List Int) (hf : f.length = 32) (hc : c.length = 4) (hb : b ≤ 7) : bd16 (pt16 f b c) b = c := by
  refine list_eq16 4 _ _ rfl hc fun j hj => ?_
  unfold bd16
  rcases (by omega : j = 0 ∨ j = 1 ∨ j = 2 ∨ j = 3) with rfl | rfl | rfl | rfl
  all_goals
    simp only [List.getD_cons_zero, List.getD_cons_succ]
    rw [pt16_get f b c hf hc hb, if_pos (by omega)]
    congr 1
    omega
theorem bd16_far (f : List Int) (b : Nat) (c : List Int) (hf : f.length = 32) (hc : c.length = 4) (hb : b ≤ 7) (i : Nat) (hi : i ≠ b) : bd16 (pt16 f b c) i = bd16 f i := by
  refine list_eq16 4 _ _ rfl rfl fun j hj => ?_
  unfold bd16
  rcases (by omega : j = 0 ∨ j = 1 ∨ j = 2 ∨ j = 3) with rfl | rfl | rfl | rfl
  all_goals
    simp only [List.getD_cons_zero, List.getD_cons_succ]
    rw [pt16_get f b c hf hc hb, if_neg (by omega)]
theorem of16_nat (f : List Int) (i : Nat) (h : i < 8) : of16 f (i : Int) = bd16 f i := by
  unfold of16
  rw [if_pos (show isb (i : Int) = true from decide_eq_true (by omega)), Int.toNat_natCast]
theorem of16_no (f : List Int) (n : Int) (h : ¬ (0 ≤ n ∧ n < 8)) : of16 f n = z4 := by
  unfold of16
  rw [show isb n = false from decide_eq_false h]
  rfl
theorem put16_no (f : List Int) (n : Int) (c : List Int) (h : ¬ (0 ≤ n ∧ n < 8)) : put16 f n c = f := by
  unfold put16
  rw [show isb n = false from decide_eq_false h]
  rfl
theorem put16_nat (f : List Int) (b : Nat) (c : List Int) (h : b < 8) : put16 f (b : Int) c = pt16 f b c := by
  unfold put16
  rw [if_pos (show isb (b : Int) = true from decide_eq_true (by omega)), Int.toNat_natCast]
theorem of16_len (f : List Int) (n : Int) : (of16 f n).length = 4 := by
  unfold of16
  split <;> rfl
set_option maxRecDepth 100000 in
set_option maxHeartbeats 1000000 in
theorem puts_law (f : List Int) (n : Int) (c : List Int) (w : World) (hf : f.length = 32) (hc : c.length = 4) :
    Calls Try.prog 3 #[.agg (iCells f), .int .i64 n, .agg (iCells c)] w fun e w' => e = .returned (.bool true) ∧ Below w.heap.size w w' := by
  have HF := Lib.hid hf
  have HCL := Lib.hid hc
  have HSF := Lib.hid (nums_size f hf)
  have HSC := Lib.hid (four_size c hc)
  have HPL := Lib.hid (put16_len f n c hf hc)
  have HPT : Hid (∀ w, Calls Try.prog 9 #[.agg (iCells f), .int .i64 n, .agg (iCells c)] w fun e w' => e = .returned (.agg (iCells (put16 f n c))) ∧ Below w.heap.size w w') := Lib.hid fun w => put16_any f n c w hf hc
  have HP : Hid (put16 f n c = put16 f n c) := Lib.hid rfl
  obtain ⟨p, hp⟩ : ∃ p, put16 f n c = p := ⟨_, rfl⟩
  rw [hp] at HPL HPT
  have HPE := Lib.hid hp
  have HSP := Lib.hid (frame_size p HPL.out)
  have HSS := Lib.hid (frame_same f0 p f0_length HPL.out)
  obtain ⟨g, hg⟩ : ∃ g, w.heap.size = g := ⟨_, rfl⟩
  have HR : Hid (Row ((w.alloc (.cells (iCells f) 22)).alloc (.cells (iCells c) 23)) g 22 (iCells f)) := Lib.hid (hg ▸ Row.alloc (heap_alloc_new _ _) _)
  have HC : Hid (Row ((w.alloc (.cells (iCells f) 22)).alloc (.cells (iCells c) 23)) (g + 1) 23 (iCells c)) := Lib.hid (row_new _ _ (by simp [hg]) _ _)
  have HB : Hid (Below g w ((w.alloc (.cells (iCells f) 22)).alloc (.cells (iCells c) 23))) := Lib.hid (((Below.refl _ _).alloc (by omega) _).alloc (by simp; omega) _)
  have HG := Lib.hid hg
  clear hf hc hp HP
  rw [hg]
  clear hg
  go_enter Try.func3, Try.ntmps3
  go_wp2_with fail
  rw [HG.out]
  generalize (w.alloc (.cells (iCells f) 22)).alloc (.cells (iCells c) 23) = w1 at *
  refine (awake16_any _).mono ?_
  rintro e w2 ⟨rfl, hb2⟩
  have HR2 := Lib.hid (Row.box HR.out hb2)
  have HC2 := Lib.hid (Row.box HC.out hb2)
  have HB2 := Lib.hid (HB.out.trans (hb2.mono (Nat.le_of_lt (Row.lt HR.out))))
  clear HR HB HC hb2
  go_wp2_with (first
    | (refine wpList_load_row rfl 22 (.tmp 3) rfl g rfl 22 (iCells f) (0, 0) _ HR2.out Try.underlying22 rfl HSF.out ?_)
    | (refine wpList_load_row rfl 23 (.tmp 5) rfl (g + 1) rfl 23 (iCells c) (0, 0) _ HC2.out Try.underlying23 rfl HSC.out ?_))
  refine (HPT.out _).mono ?_
  rintro e w3 ⟨rfl, hb3⟩
  have HR3 := Lib.hid (Row.box HR2.out hb3)
  have HC3 := Lib.hid (Row.box HC2.out hb3)
  have HB3 := Lib.hid (HB2.out.trans (hb3.mono (Nat.le_of_lt (Row.lt HR2.out))))
  clear HR2 HB2 HC2 hb3 HPT
  have hgs : g < w3.heap.size := Row.lt HR3.out
  have hgc : g + 1 < w3.heap.size := Row.lt HC3.out
  have H0 : Hid (Row (w3.alloc (.cells (iCells f0) 25)) w3.heap.size 25 (iCells f0)) := heap_alloc_new _ _
  have HR5 : Hid (Row ((w3.alloc (.cells (iCells f0) 25)).setRow w3.heap.size (iCells p)) g 22 (iCells f)) := Lib.hid ((setRow_other _ _ _ _ (Nat.ne_of_lt hgs)).trans (Row.alloc HR3.out _))
  have HC5 : Hid (Row ((w3.alloc (.cells (iCells f0) 25)).setRow w3.heap.size (iCells p)) (g + 1) 23 (iCells c)) := Lib.hid ((setRow_other _ _ _ _ (Nat.ne_of_lt hgc)).trans (Row.alloc HC3.out _))
  have HA5 : Hid (Row ((w3.alloc (.cells (iCells f0) 25)).setRow w3.heap.size (iCells p)) w3.heap.size 25 (iCells p)) := Lib.hid (Row.setRow H0.out _)
  have HB5 : Hid (Below g w ((w3.alloc (.cells (iCells f0) 25)).setRow w3.heap.size (iCells p))) := Lib.hid (below_setRow (HB3.out.alloc (Nat.le_of_lt hgs) _) (Nat.le_of_lt hgs) _)
  have hz := frame_zero
  clear HR3 HB3 HC3 hgs hgc
  by_cases hn : 0 ≤ n ∧ n < 8
  · obtain ⟨b, rfl⟩ : ∃ b : Nat, n = b := ⟨n.toNat, by omega⟩
    have hb8 : b < 8 := by omega
    have h1 : ¬ (b : Int) < 0 := by omega
    have h2 : ¬ (b : Int) > 7 := by omega
    go_wp2_with (refine wpList_store_row rfl 25 (.tmp 7) (.tmp 14) rfl w3.heap.size (iCells p) rfl rfl 25 (iCells f0) H0.out HSP.out HSS.out (iCells_one p) ?_; clear H0 hz; generalize (w3.alloc (.cells (iCells f0) 25)).setRow w3.heap.size (iCells p) = w5 at *)
    obtain ⟨h, hh⟩ : ∃ h, w3.heap.size = h := ⟨_, rfl⟩
    rw [hh] at HA5
    rw [hh]
    clear hh HSS
    have HPE2 : Hid (p = pt16 f b c) := Lib.hid (by rw [← HPE.out]; exact put16_nat f b c hb8)
    have HBD := Lib.hid hb8
    clear h1 h2 hb8 hn HPE
    go_loopw [8] (fun ii wr => ∃ k : Nat, k ≤ 8 ∧ ii = .int .i64 k ∧ Row wr g 22 (iCells f) ∧ Row wr (g + 1) 23 (iCells c) ∧ Row wr h 25 (iCells p) ∧ Below g w wr) (fun ii _ => 8 - (intOf ii).toNat)
    case atStart => exact ⟨0, by omega, rfl, HR5.out, HC5.out, HA5.out, HB5.out⟩
    case round =>
      clear HR5 HC5 HA5 HB5
      obtain ⟨k, hk, rfl, r1, r2, r3, r4⟩ := hrel
      have HR := Lib.hid r1
      have HC := Lib.hid r2
      have HA := Lib.hid r3
      have HB := Lib.hid r4
      clear r1 r2 r3 r4
      rcases Nat.lt_or_ge k 8 with hlt | hge
      · have HK := Lib.hid hlt
        have hkI : (k : Int) < 8 := by omega
        have HC1 : Hid (∀ W : World, (∃ p : Regrown, W = Sort.grow (redrawn wr p.d) p.os) → W.heap[g]? = some (.cells (iCells f) 22 (0, 0))) := by
          rintro W ⟨p, rfl⟩
          exact HR.out.below (below_regrown wr p.d p.os) HR.out.lt
        have HC2 : Hid (∀ W : World, (∃ p : Regrown, W = Sort.grow (redrawn wr p.d) p.os) → W.heap[g + 1]? = some (.cells (iCells c) 23 (0, 0))) := by
          rintro W ⟨p, rfl⟩
          exact HC.out.below (below_regrown wr p.d p.os) HC.out.lt
        have HC3 : Hid (∀ W : World, (∃ p : Regrown, W = Sort.grow (redrawn wr p.d) p.os) → W.heap[h]? = some (.cells (iCells p) 25 (0, 0))) := by
          rintro W ⟨p, rfl⟩
          exact HA.out.below (below_regrown wr p.d p.os) HA.out.lt
        by_cases hkb : k = b
        · have K1 : Hid (∀ d os, Calls Try.prog 10 #[.agg (iCells p), .int .i64 (k : Int)] (Sort.grow (redrawn wr d) os) fun e w'' => e = .returned (.agg (iCells c)) ∧ ∃ p : Regrown, w'' = Sort.grow (redrawn wr p.d) p.os) :=
            Lib.hid fun d os => by
              have := of16_any p (k : Int) (Sort.grow (redrawn wr d) os) HPL.out
              rw [of16_nat p k HK.out, HPE2.out, hkb, bd16_same f b c HF.out HCL.out (Nat.le_of_lt_succ HBD.out), ← HPE2.out, ← hkb] at this
              exact Calls.regrown_of this
          have hq : ∀ w, (Op.equalIn 10000 23 (.agg (iCells c)) (.agg (iCells c))).run Try.prog w = .ok true w := fun w => by
            rw [four_eq _ _ HCL.out HCL.out, beq_self_eq_true]
          have e1 : decide ((k : Int) = (b : Int)) = true := decide_eq_true (by omega)
          have e2 : ((k : Int) != (b : Int)) = false := by simp [hkb]
          have e3 : ((k : Int) == (b : Int)) = true := by simp [hkb]
          clear hlt hk hkb
          go_wp2_with fail
          refine wp_region_quiet_below (by kernel_rfl) (by kernel_rfl) ?_
          repeat (first
            | (go_big_quiet_want; refine q_load_row 25 (.tmp 7) rfl h rfl 25 (iCells p) (0, 0) _ HC3.out Try.underlying25 rfl HSP.out ?_; go_big_quiet_on; simp only [Act.put, List.setIfInBounds_toArray, List.set_cons_zero, List.set_cons_succ])
            | (go_big_quiet_want; refine q_load_row 22 (.tmp 3) rfl g rfl 22 (iCells f) (0, 0) _ HC1.out Try.underlying22 rfl HSF.out ?_; go_big_quiet_on; simp only [Act.put, List.setIfInBounds_toArray, List.set_cons_zero, List.set_cons_succ])
            | (go_big_quiet_want; refine q_load_row 23 (.tmp 5) rfl (g + 1) rfl 23 (iCells c) (0, 0) _ HC2.out Try.underlying23 rfl HSC.out ?_; go_big_quiet_on; simp only [Act.put, List.setIfInBounds_toArray, List.set_cons_zero, List.set_cons_succ])
            | go_big_quiet_step (fail))
          go_big_quiet_step ((go_at_call 10; exact K1.out _ _))
          repeat (first
            | (go_big_quiet_want; refine q_load_row 25 (.tmp 7) rfl h rfl 25 (iCells p) (0, 0) _ HC3.out Try.underlying25 rfl HSP.out ?_; go_big_quiet_on; simp only [Act.put, List.setIfInBounds_toArray, List.set_cons_zero, List.set_cons_succ])
            | (go_big_quiet_want; refine q_load_row 22 (.tmp 3) rfl g rfl 22 (iCells f) (0, 0) _ HC1.out Try.underlying22 rfl HSF.out ?_; go_big_quiet_on; simp only [Act.put, List.setIfInBounds_toArray, List.set_cons_zero, List.set_cons_succ])
            | (go_big_quiet_want; refine q_load_row 23 (.tmp 5) rfl (g + 1) rfl 23 (iCells c) (0, 0) _ HC2.out Try.underlying23 rfl HSC.out ?_; go_big_quiet_on; simp only [Act.put, List.setIfInBounds_toArray, List.set_cons_zero, List.set_cons_succ])
            | go_big_quiet_step (fail))
          refine wpQuiet_nil ?_
          intro _ hw'
          obtain ⟨⟨dq, osq⟩, hw''⟩ := hw'
          subst hw''
          have hbx := below_regrown wr dq osq
          have HR6 := Lib.hid (HR.out.box hbx)
          have HC6 := Lib.hid (HC.out.box hbx)
          have HA6 := Lib.hid (HA.out.box hbx)
          have HB6 := Lib.hid (HB.out.trans (hbx.mono (Nat.le_of_lt (Row.lt HR.out))))
          clear K1 HC1 HC2 HC3 hbx HR HC HA HB
          generalize Sort.grow (redrawn wr dq) osq = w6 at *
          go_wp2_with fail
          go_roundw
          case rel => exact ⟨k + 1, HK.out, by go_num, HR6.out, HC6.out, HA6.out, HB6.out⟩
          case measure =>
            have := HK.out
            simp [intOf] <;> omega
        · obtain ⟨x, hx⟩ : ∃ x, bd16 f k = x := ⟨_, rfl⟩
          have hxl : x.length = 4 := by rw [← hx]; rfl
          have K1 : Hid (∀ d os, Calls Try.prog 10 #[.agg (iCells p), .int .i64 (k : Int)] (Sort.grow (redrawn wr d) os) fun e w'' => e = .returned (.agg (iCells x)) ∧ ∃ p : Regrown, w'' = Sort.grow (redrawn wr p.d) p.os) :=
            Lib.hid fun d os => by
              have := of16_any p (k : Int) (Sort.grow (redrawn wr d) os) HPL.out
              rw [of16_nat p k HK.out, HPE2.out, bd16_far f b c HF.out HCL.out (Nat.le_of_lt_succ HBD.out) k hkb, ← HPE2.out, hx] at this
              exact Calls.regrown_of this
          have K2 : Hid (∀ d os, Calls Try.prog 10 #[.agg (iCells f), .int .i64 (k : Int)] (Sort.grow (redrawn wr d) os) fun e w'' => e = .returned (.agg (iCells x)) ∧ ∃ p : Regrown, w'' = Sort.grow (redrawn wr p.d) p.os) :=
            Lib.hid fun d os => by
              have := of16_any f (k : Int) (Sort.grow (redrawn wr d) os) HF.out
              rw [of16_nat f k HK.out, hx] at this
              exact Calls.regrown_of this
          have hq : ∀ w, (Op.equalIn 10000 23 (.agg (iCells x)) (.agg (iCells x))).run Try.prog w = .ok true w := fun w => by
            rw [four_eq _ _ hxl hxl, beq_self_eq_true]
          have e1 : decide ((k : Int) = (b : Int)) = false := decide_eq_false (by omega)
          have e3 : ((k : Int) == (b : Int)) = false := beq_eq_false_iff_ne.2 (by omega)
          have e2 : ((k : Int) != (b : Int)) = true := by simp [bne, e3]
          clear hlt hk hkb hx hxl
          go_wp2_with fail
          refine wp_region_quiet_below (by kernel_rfl) (by kernel_rfl) ?_
          repeat (first
            | (go_big_quiet_want; refine q_load_row 25 (.tmp 7) rfl h rfl 25 (iCells p) (0, 0) _ HC3.out Try.underlying25 rfl HSP.out ?_; go_big_quiet_on; simp only [Act.put, List.setIfInBounds_toArray, List.set_cons_zero, List.set_cons_succ])
            | (go_big_quiet_want; refine q_load_row 22 (.tmp 3) rfl g rfl 22 (iCells f) (0, 0) _ HC1.out Try.underlying22 rfl HSF.out ?_; go_big_quiet_on; simp only [Act.put, List.setIfInBounds_toArray, List.set_cons_zero, List.set_cons_succ])
            | (go_big_quiet_want; refine q_load_row 23 (.tmp 5) rfl (g + 1) rfl 23 (iCells c) (0, 0) _ HC2.out Try.underlying23 rfl HSC.out ?_; go_big_quiet_on; simp only [Act.put, List.setIfInBounds_toArray, List.set_cons_zero, List.set_cons_succ])
            | go_big_quiet_step (fail))
          go_big_quiet_step ((go_at_call 10; exact K1.out _ _))
          repeat (first
            | (go_big_quiet_want; refine q_load_row 25 (.tmp 7) rfl h rfl 25 (iCells p) (0, 0) _ HC3.out Try.underlying25 rfl HSP.out ?_; go_big_quiet_on; simp only [Act.put, List.setIfInBounds_toArray, List.set_cons_zero, List.set_cons_succ])
            | (go_big_quiet_want; refine q_load_row 22 (.tmp 3) rfl g rfl 22 (iCells f) (0, 0) _ HC1.out Try.underlying22 rfl HSF.out ?_; go_big_quiet_on; simp only [Act.put, List.setIfInBounds_toArray, List.set_cons_zero, List.set_cons_succ])
            | (go_big_quiet_want; refine q_load_row 23 (.tmp 5) rfl (g + 1) rfl 23 (iCells c) (0, 0) _ HC2.out Try.underlying23 rfl HSC.out ?_; go_big_quiet_on; simp only [Act.put, List.setIfInBounds_toArray, List.set_cons_zero, List.set_cons_succ])
            | go_big_quiet_step (fail))
          go_big_quiet_step ((go_at_call 10; exact K2.out _ _))
          repeat (first
            | (go_big_quiet_want; refine q_load_row 25 (.tmp 7) rfl h rfl 25 (iCells p) (0, 0) _ HC3.out Try.underlying25 rfl HSP.out ?_; go_big_quiet_on; simp only [Act.put, List.setIfInBounds_toArray, List.set_cons_zero, List.set_cons_succ])
            | (go_big_quiet_want; refine q_load_row 22 (.tmp 3) rfl g rfl 22 (iCells f) (0, 0) _ HC1.out Try.underlying22 rfl HSF.out ?_; go_big_quiet_on; simp only [Act.put, List.setIfInBounds_toArray, List.set_cons_zero, List.set_cons_succ])
            | (go_big_quiet_want; refine q_load_row 23 (.tmp 5) rfl (g + 1) rfl 23 (iCells c) (0, 0) _ HC2.out Try.underlying23 rfl HSC.out ?_; go_big_quiet_on; simp only [Act.put, List.setIfInBounds_toArray, List.set_cons_zero, List.set_cons_succ])
            | go_big_quiet_step (fail))
          refine wpQuiet_nil ?_
          intro _ hw'
          obtain ⟨⟨dq, osq⟩, hw''⟩ := hw'
          subst hw''
          have hbx := below_regrown wr dq osq
          have HR6 := Lib.hid (HR.out.box hbx)
          have HC6 := Lib.hid (HC.out.box hbx)
          have HA6 := Lib.hid (HA.out.box hbx)
          have HB6 := Lib.hid (HB.out.trans (hbx.mono (Nat.le_of_lt (Row.lt HR.out))))
          clear K1 K2 HC1 HC2 HC3 hbx HR HC HA HB
          generalize Sort.grow (redrawn wr dq) osq = w6 at *
          go_wp2_with fail
          go_roundw
          case rel => exact ⟨k + 1, HK.out, by go_num, HR6.out, HC6.out, HA6.out, HB6.out⟩
          case measure =>
            have := HK.out
            simp [intOf] <;> omega
      · obtain rfl : k = 8 := by omega
        clear hk hge
        go_wp2_with fail
        go_ret
        exact ⟨rfl, HB.out⟩
  · have hpf : p = f := by rw [← HPE.out]; exact put16_no f n c hn
    subst hpf
    have HO : Hid (∀ w, Calls Try.prog 10 #[.agg (iCells p), .int .i64 n] w fun e w' => e = .returned (.agg (iCells z4)) ∧ Below w.heap.size w w') := Lib.hid fun w => by
      have := of16_any p n w HF.out
      rw [of16_no p n hn] at this
      exact this
    have hz4 := four_zero
    have HZL : Hid (z4.length = 4) := Lib.hid rfl
    have hq1 : ∀ w, (Op.equalIn 10000 25 (.agg (iCells p)) (.agg (iCells p))).run Try.prog w = .ok true w := fun w => by
      rw [frame_eq _ _ HF.out HF.out, beq_self_eq_true]
    have hq2 : ∀ w, (Op.equalIn 10000 23 (.agg (iCells z4)) (.agg (iCells z4))).run Try.prog w = .ok true w := fun w => by
      rw [four_eq _ _ rfl rfl, beq_self_eq_true]
    generalize z4 = z at *
    clear HPE
    rcases (by omega : n < 0 ∨ n > 7) with h1 | h1
    · clear hn
      go_wp2_with (first
        | (refine wpList_store_row rfl 25 (.tmp 7) (.tmp 14) rfl w3.heap.size (iCells p) rfl rfl 25 (iCells f0) H0.out HSP.out HSS.out (iCells_one p) ?_; clear H0 hz; generalize (w3.alloc (.cells (iCells f0) 25)).setRow w3.heap.size (iCells p) = w5 at *)
        | (refine wpList_load_row rfl 25 (.tmp 7) rfl w3.heap.size rfl 25 (iCells p) (0, 0) _ HA5.out Try.underlying25 rfl HSP.out ?_)
        | (refine wpList_load_row rfl 22 (.tmp 3) rfl g rfl 22 (iCells p) (0, 0) _ HR5.out Try.underlying22 rfl HSF.out ?_)
        | (refine g_load_row (by rfl) 22 (.tmp 3) rfl g rfl 22 (iCells p) (0, 0) _ HR5.out Try.underlying22 rfl HSF.out ?_))
      refine (HO.out _).mono ?_
      rintro e w6 ⟨rfl, hb6⟩
      have HB6 := Lib.hid (HB5.out.trans (hb6.mono (Nat.le_of_lt (Row.lt HR5.out))))
      clear hb6
      go_wp2_with fail
      go_ret
      exact ⟨rfl, HB6.out⟩
    · clear hn
      go_wp2_with (first
        | (refine wpList_store_row rfl 25 (.tmp 7) (.tmp 14) rfl w3.heap.size (iCells p) rfl rfl 25 (iCells f0) H0.out HSP.out HSS.out (iCells_one p) ?_; clear H0 hz; generalize (w3.alloc (.cells (iCells f0) 25)).setRow w3.heap.size (iCells p) = w5 at *)
        | (refine wpList_load_row rfl 25 (.tmp 7) rfl w3.heap.size rfl 25 (iCells p) (0, 0) _ HA5.out Try.underlying25 rfl HSP.out ?_)
        | (refine wpList_load_row rfl 22 (.tmp 3) rfl g rfl 22 (iCells p) (0, 0) _ HR5.out Try.underlying22 rfl HSF.out ?_)
        | (refine g_load_row (by rfl) 22 (.tmp 3) rfl g rfl 22 (iCells p) (0, 0) _ HR5.out Try.underlying22 rfl HSF.out ?_))
      refine (HO.out _).mono ?_
      rintro e w6 ⟨rfl, hb6⟩
      have HB6 := Lib.hid (HB5.out.trans (hb6.mono (Nat.le_of_lt (Row.lt HR5.out))))
      clear hb6
      go_wp2_with fail
      go_ret
      exact ⟨rfl, HB6.out⟩
end Go.Proofs.Ytagcdnglipdldaa
