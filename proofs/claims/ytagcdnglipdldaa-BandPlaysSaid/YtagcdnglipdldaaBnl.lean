/-
  BandPlays: the steps of any frame, its bands, whether steps may be, and a frame brought into its range, are the document's. Conditions: 32 ints, eight ints.
-/
import Derived.Test.YtagcdnglipdldaaBnk
import Derived.Test.YtagcdnglipdldaaBnj
namespace Go.Proofs.Ytagcdnglipdldaa
open Go.RowKit
open M
/-- Whether the first k steps may be. -/
def ri16 (s : List Int) : Nat → Bool
  | 0 => true
  | k + 1 => ri16 s k && isp (s.getD k 0)
theorem ri16_iff (s : List Int) : ∀ k, ri16 s k = true ↔ ∀ j, j < k → isp (s.getD j 0) = true
  | 0 => by simp [ri16]
  | k + 1 => by
    have ih := ri16_iff s k
    simp only [ri16, Bool.and_eq_true]
    rw [ih]
    constructor
    · rintro ⟨h1, h2⟩ j hj
      rcases Nat.lt_or_ge j k with hl | hg
      · exact h1 j hl
      · obtain rfl : j = k := by omega
        exact h2
    · intro h
      exact ⟨fun j hj => h j (by omega), h k (by omega)⟩
theorem ri16_full (s : List Int) (hs : s.length = 8) : ri16 s 8 = s.all isp := by
  rw [Bool.eq_iff_iff, ri16_iff, List.all_eq_true]
  constructor
  · intro h x hx
    obtain ⟨i, hi, rfl⟩ := List.getElem_of_mem hx
    have := h i (by omega)
    rw [List.getD_eq_getElem?_getD, List.getElem?_eq_getElem hi] at this
    exact this
  · intro h j hj
    rw [List.getD_eq_getElem?_getD, List.getElem?_eq_getElem (by omega)]
    exact h _ (List.getElem_mem _)
theorem isp_parts (y : Int) : isp y = (decide (y ≥ 0) && decide (y ≤ 15)) := by
  unfold isp
  by_cases h1 : 0 ≤ y
  · by_cases h2 : y ≤ 15 <;> simp [h1, h2]
  · simp [h1]
/-- Everything that one round of the first loop asks, on the world where the round began. -/
theorem round_calls (f : List Int) (k : Nat) (hf : f.length = 32) (hk : k < 8) (x : List Int) (v : Int) (hx : bd16 f k = x) (hv : sp16 f k = v) :
    x.length = 4 ∧ (∀ w, Calls Try.prog 15 #[.agg (iCells f), .int .i64 (k : Int)] w fun e w' => e = .returned (.agg (iCells x)) ∧ Below w.heap.size w w') ∧
    (∀ w, Calls Try.prog 16 #[.agg (iCells x)] w fun e w' => e = .returned (.int .i64 v) ∧ Below w.heap.size w w') ∧
    (∀ w, Calls Try.prog 10 #[.agg (iCells f), .int .i64 (k : Int)] w fun e w' => e = .returned (.agg (iCells x)) ∧ Below w.heap.size w w') ∧
    (∀ w, Calls Try.prog 11 #[.agg (iCells x)] w fun e w' => e = .returned (.int .i64 v) ∧ Below w.heap.size w w') := by
  have hl : x.length = 4 := by rw [← hx]; rfl
  have hs : ((stp (gm16 x) : Nat) : Int) = v := by rw [← hv, ← hx]; rfl
  refine ⟨hl, fun w => ?_, fun w => ?_, fun w => ?_, fun w => ?_⟩
  · have := rband_any f k w hf (by omega)
    rw [hx] at this
    exact this
  · have := rstep_any x w hl
    rw [hs] at this
    exact this
  · have := of16_any f k w hf
    rw [of16_nat f k hk, hx] at this
    exact this
  · have := step16_any x w hl
    rw [hs] at this
    exact this
set_option maxRecDepth 100000 in
set_option maxHeartbeats 1000000 in
theorem plays16_law (f s : List Int) (w : World) (hf : f.length = 32) (hs : s.length = 8) :
    Calls Try.prog 5 #[.agg (iCells f), .agg (iCells s)] w fun e w' => e = .returned (.bool true) ∧ Below w.heap.size w w' := by
  have HF := Lib.hid hf
  have HSL := Lib.hid hs
  have HZF := Lib.hid (nums_size f hf)
  have HZS := Lib.hid (eight_size s hs)
  have HT : Hid (∀ w, Calls Try.prog 13 #[.agg (iCells f)] w fun e w' => e = .returned (.agg (iCells (sts f))) ∧ Below w.heap.size w w') := Lib.hid fun w => steps16_any f w hf
  have HK : Hid (∀ w, Calls Try.prog 14 #[.agg (iCells f)] w fun e w' => e = .returned (.agg (iCells (clm f))) ∧ Below w.heap.size w w') := Lib.hid fun w => clamp_any f w hf
  have HTL := Lib.hid (sts_len f)
  have HKL := Lib.hid (clm_len f hf)
  have HTG := Lib.hid (sts_get f)
  have HKG : Hid (∀ b, b < 32 → (clm f).getD b 0 = cl16 (f.getD b 0)) := Lib.hid fun b hb => clm_get f b (by omega)
  have HRT : Hid (∀ w, Calls Try.prog 18 #[.agg (iCells (sts f))] w fun e w' => e = .returned (.bool true) ∧ Below w.heap.size w w') := Lib.hid fun w => by
    have := right_any (sts f) w (sts_len f)
    rw [sts_right] at this
    exact this
  have HRS : Hid (∀ w, Calls Try.prog 18 #[.agg (iCells s)] w fun e w' => e = .returned (.bool (ri16 s 8)) ∧ Below w.heap.size w w') := Lib.hid fun w => by
    have := right_any s w hs
    rw [← ri16_full s hs] at this
    exact this
  generalize sts f = t at *
  generalize clm f = a at *
  have HZT := Lib.hid (side_size t HTL.out)
  have HST := Lib.hid (side_same z8 t z8_length HTL.out)
  have HZA := Lib.hid (frame_size a HKL.out)
  have HSA := Lib.hid (frame_same f0 a f0_length HKL.out)
  obtain ⟨g, hg⟩ : ∃ g, w.heap.size = g := ⟨_, rfl⟩
  have HR : Hid (Row ((w.alloc (.cells (iCells f) 22)).alloc (.cells (iCells s) 32)) g 22 (iCells f)) := Lib.hid (hg ▸ Row.alloc (heap_alloc_new _ _) _)
  have HC : Hid (Row ((w.alloc (.cells (iCells f) 22)).alloc (.cells (iCells s) 32)) (g + 1) 32 (iCells s)) := Lib.hid (row_new _ _ (by simp [hg]) _ _)
  have HB : Hid (Below g w ((w.alloc (.cells (iCells f) 22)).alloc (.cells (iCells s) 32))) := Lib.hid (((Below.refl _ _).alloc (by omega) _).alloc (by simp; omega) _)
  have HG := Lib.hid hg
  clear hf hs
  rw [hg]
  clear hg
  go_enter Try.func5, Try.ntmps5
  go_wp2_with fail
  rw [HG.out]
  generalize (w.alloc (.cells (iCells f) 22)).alloc (.cells (iCells s) 32) = w1 at *
  refine (awake16_any _).mono ?_
  rintro e w2 ⟨rfl, hb2⟩
  have HR2 := Lib.hid (Row.box HR.out hb2)
  have HC2 := Lib.hid (Row.box HC.out hb2)
  have HB2 := Lib.hid (HB.out.trans (hb2.mono (Nat.le_of_lt (Row.lt HR.out))))
  clear HR HB HC hb2
  go_wp2_with (refine wpList_load_row rfl 22 (.tmp 2) rfl g rfl 22 (iCells f) (0, 0) _ HR2.out Try.underlying22 rfl HZF.out ?_)
  refine (HT.out _).mono ?_
  rintro e w3 ⟨rfl, hb3⟩
  have HR3 := Lib.hid (Row.box HR2.out hb3)
  have HC3 := Lib.hid (Row.box HC2.out hb3)
  have HB3 := Lib.hid (HB2.out.trans (hb3.mono (Nat.le_of_lt (Row.lt HR2.out))))
  clear HR2 HB2 HC2 hb3 HT
  have hgs : g < w3.heap.size := Row.lt HR3.out
  have hgc : g + 1 < w3.heap.size := Row.lt HC3.out
  have H0 : Hid (Row (w3.alloc (.cells (iCells z8) 33)) w3.heap.size 33 (iCells z8)) := heap_alloc_new _ _
  have HR5 : Hid (Row ((w3.alloc (.cells (iCells z8) 33)).setRow w3.heap.size (iCells t)) g 22 (iCells f)) := Lib.hid ((setRow_other _ _ _ _ (Nat.ne_of_lt hgs)).trans (Row.alloc HR3.out _))
  have HC5 : Hid (Row ((w3.alloc (.cells (iCells z8) 33)).setRow w3.heap.size (iCells t)) (g + 1) 32 (iCells s)) := Lib.hid ((setRow_other _ _ _ _ (Nat.ne_of_lt hgc)).trans (Row.alloc HC3.out _))
  have HX5 : Hid (Row ((w3.alloc (.cells (iCells z8) 33)).setRow w3.heap.size (iCells t)) w3.heap.size 33 (iCells t)) := Lib.hid (Row.setRow H0.out _)
  have HB5 : Hid (Below g w ((w3.alloc (.cells (iCells z8) 33)).setRow w3.heap.size (iCells t))) := Lib.hid (below_setRow (HB3.out.alloc (Nat.le_of_lt hgs) _) (Nat.le_of_lt hgs) _)
  have hz := side_zero
  clear HR3 HB3 HC3 hgs hgc
  go_wp2_with (first
    | (refine wpList_store_row rfl 33 (.tmp 5) (.tmp 14) rfl w3.heap.size (iCells t) rfl rfl 33 (iCells z8) H0.out HZT.out HST.out (iCells_one t) ?_; clear H0 hz; generalize (w3.alloc (.cells (iCells z8) 33)).setRow w3.heap.size (iCells t) = w5 at *)
    | (refine wpList_load_row rfl 22 (.tmp 2) rfl g rfl 22 (iCells f) (0, 0) _ HR5.out Try.underlying22 rfl HZF.out ?_))
  obtain ⟨h, hh⟩ : ∃ h, w3.heap.size = h := ⟨_, rfl⟩
  rw [hh] at HX5
  rw [hh]
  clear hh HST
  refine (HK.out _).mono ?_
  rintro e w6 ⟨rfl, hb6⟩
  have HR6 := Lib.hid (Row.box HR5.out hb6)
  have HC6 := Lib.hid (Row.box HC5.out hb6)
  have HX6 := Lib.hid (Row.box HX5.out hb6)
  have HB6 := Lib.hid (HB5.out.trans (hb6.mono (Nat.le_of_lt (Row.lt HR5.out))))
  clear HR5 HB5 HC5 HX5 hb6 HK
  have hgs : g < w6.heap.size := Row.lt HR6.out
  have hgc : g + 1 < w6.heap.size := Row.lt HC6.out
  have hgx : h < w6.heap.size := Row.lt HX6.out
  have H0 : Hid (Row (w6.alloc (.cells (iCells f0) 25)) w6.heap.size 25 (iCells f0)) := heap_alloc_new _ _
  have HR7 : Hid (Row ((w6.alloc (.cells (iCells f0) 25)).setRow w6.heap.size (iCells a)) g 22 (iCells f)) := Lib.hid ((setRow_other _ _ _ _ (Nat.ne_of_lt hgs)).trans (Row.alloc HR6.out _))
  have HC7 : Hid (Row ((w6.alloc (.cells (iCells f0) 25)).setRow w6.heap.size (iCells a)) (g + 1) 32 (iCells s)) := Lib.hid ((setRow_other _ _ _ _ (Nat.ne_of_lt hgc)).trans (Row.alloc HC6.out _))
  have HX7 : Hid (Row ((w6.alloc (.cells (iCells f0) 25)).setRow w6.heap.size (iCells a)) h 33 (iCells t)) := Lib.hid ((setRow_other _ _ _ _ (Nat.ne_of_lt hgx)).trans (Row.alloc HX6.out _))
  have HY7 : Hid (Row ((w6.alloc (.cells (iCells f0) 25)).setRow w6.heap.size (iCells a)) w6.heap.size 25 (iCells a)) := Lib.hid (Row.setRow H0.out _)
  have HB7 : Hid (Below g w ((w6.alloc (.cells (iCells f0) 25)).setRow w6.heap.size (iCells a))) := Lib.hid (below_setRow (HB6.out.alloc (Nat.le_of_lt hgs) _) (Nat.le_of_lt hgs) _)
  have hz := frame_zero
  clear HR6 HB6 HC6 HX6 hgs hgc hgx
  go_wp2_with (refine wpList_store_row rfl 25 (.tmp 6) (.tmp 16) rfl w6.heap.size (iCells a) rfl rfl 25 (iCells f0) H0.out HZA.out HSA.out (iCells_one a) ?_; clear H0 hz; generalize (w6.alloc (.cells (iCells f0) 25)).setRow w6.heap.size (iCells a) = w7 at *)
  obtain ⟨y, hy⟩ : ∃ y, w6.heap.size = y := ⟨_, rfl⟩
  rw [hy] at HY7
  rw [hy]
  clear hy HSA
  have hz := four_zero
  go_loopw [7, 8] (fun rr ii wr => ∃ k : Nat, k ≤ 8 ∧ ii = .int .i64 k ∧ rr = .bool (ri16 s k) ∧ Row wr g 22 (iCells f) ∧ Row wr (g + 1) 32 (iCells s) ∧ Row wr h 33 (iCells t) ∧ Row wr y 25 (iCells a) ∧ Below g w wr) (fun _ ii _ => 8 - (intOf ii).toNat)
  case atStart => exact ⟨0, by omega, rfl, rfl, HR7.out, HC7.out, HX7.out, HY7.out, HB7.out⟩
  case round =>
    clear HR7 HC7 HX7 HY7 HB7
    obtain ⟨k, hk, rfl, rfl, r1, r2, r3, r4, r5⟩ := hrel
    have HR := Lib.hid r1
    have HC := Lib.hid r2
    have HX := Lib.hid r3
    have HY := Lib.hid r4
    have HB := Lib.hid r5
    clear r1 r2 r3 r4 r5
    rcases Nat.lt_or_ge k 8 with hlt | hge
    · have HKK := Lib.hid hlt
      have hkI : (k : Int) < 8 := by omega
      obtain ⟨x, hx⟩ : ∃ x, bd16 f k = x := ⟨_, rfl⟩
      obtain ⟨v, hv⟩ : ∃ v, sp16 f k = v := ⟨_, rfl⟩
      have HRC := Lib.hid (round_calls f k HF.out hlt x v hx hv)
      have HTV : Hid (t.getD k 0 = v) := Lib.hid ((HTG.out k hlt).trans hv)
      have HZX := Lib.hid (four_size x HRC.out.1)
      have HSX := Lib.hid (four_same z4 x rfl HRC.out.1)
      clear hk hlt hx hv
      go_wp2_with (refine wpList_load_row rfl 22 (.tmp 2) rfl g rfl 22 (iCells f) (0, 0) _ HR.out Try.underlying22 rfl HZF.out ?_)
      refine (HRC.out.2.1 _).mono ?_
      rintro e w8 ⟨rfl, hb8⟩
      have HR8 := Lib.hid (Row.box HR.out hb8)
      have HC8 := Lib.hid (Row.box HC.out hb8)
      have HX8 := Lib.hid (Row.box HX.out hb8)
      have HY8 := Lib.hid (Row.box HY.out hb8)
      have HB8 := Lib.hid (HB.out.trans (hb8.mono (Nat.le_of_lt (Row.lt HR.out))))
      clear HR HC HX HY HB hb8
      have H0 : Hid (Row (w8.alloc (.cells (iCells z4) 23)) w8.heap.size 23 (iCells z4)) := heap_alloc_new _ _
      have hg0 : g < w8.heap.size := Row.lt HR8.out
      have hbs : Below w8.heap.size w8 ((w8.alloc (.cells (iCells z4) 23)).setRow w8.heap.size (iCells x)) := below_setRow ((Below.refl _ _).alloc (Nat.le_refl _) _) (Nat.le_refl _) _
      have HZ9 : Hid (Row ((w8.alloc (.cells (iCells z4) 23)).setRow w8.heap.size (iCells x)) w8.heap.size 23 (iCells x)) := Lib.hid (Row.setRow H0.out _)
      have HR9 := Lib.hid (Row.box HR8.out hbs)
      have HC9 := Lib.hid (Row.box HC8.out hbs)
      have HX9 := Lib.hid (Row.box HX8.out hbs)
      have HY9 := Lib.hid (Row.box HY8.out hbs)
      have HB9 := Lib.hid (HB8.out.trans (hbs.mono (Nat.le_of_lt hg0)))
      clear HR8 HC8 HX8 HY8 HB8 hbs hg0
      go_wp2_with (refine wpList_store_row rfl 23 (.tmp 9) (.tmp 23) rfl w8.heap.size (iCells x) rfl rfl 23 (iCells z4) H0.out HZX.out HSX.out (iCells_one x) ?_; clear H0; generalize (w8.alloc (.cells (iCells z4) 23)).setRow w8.heap.size (iCells x) = w9 at *)
      obtain ⟨q, hq⟩ : ∃ q, w8.heap.size = q := ⟨_, rfl⟩
      rw [hq] at HZ9
      rw [hq]
      clear hq HSX
      have c0 := cell_regrown (i_at HX9.out k (by rw [HTL.out]; exact HKK.out))
      rw [HTV.out] at c0
      have HC1 : Hid (∀ W : World, (∃ p : Regrown, W = Sort.grow (redrawn w9 p.d) p.os) → W.heap[g]? = some (.cells (iCells f) 22 (0, 0))) := by
        rintro W ⟨p, rfl⟩
        exact HR9.out.below (below_regrown w9 p.d p.os) HR9.out.lt
      have HC2 : Hid (∀ W : World, (∃ p : Regrown, W = Sort.grow (redrawn w9 p.d) p.os) → W.heap[q]? = some (.cells (iCells x) 23 (0, 0))) := by
        rintro W ⟨p, rfl⟩
        exact HZ9.out.below (below_regrown w9 p.d p.os) HZ9.out.lt
      have K1 : Hid (∀ d os, Calls Try.prog 16 #[.agg (iCells x)] (Sort.grow (redrawn w9 d) os) fun e w'' => e = .returned (.int .i64 v) ∧ ∃ p : Regrown, w'' = Sort.grow (redrawn w9 p.d) p.os) :=
        Lib.hid fun d os => Calls.regrown_of (HRC.out.2.2.1 _)
      have K2 : Hid (∀ d os, Calls Try.prog 10 #[.agg (iCells f), .int .i64 (k : Int)] (Sort.grow (redrawn w9 d) os) fun e w'' => e = .returned (.agg (iCells x)) ∧ ∃ p : Regrown, w'' = Sort.grow (redrawn w9 p.d) p.os) :=
        Lib.hid fun d os => Calls.regrown_of (HRC.out.2.2.2.1 _)
      have K3 : Hid (∀ d os, Calls Try.prog 11 #[.agg (iCells x)] (Sort.grow (redrawn w9 d) os) fun e w'' => e = .returned (.int .i64 v) ∧ ∃ p : Regrown, w'' = Sort.grow (redrawn w9 p.d) p.os) :=
        Lib.hid fun d os => Calls.regrown_of (HRC.out.2.2.2.2 _)
      have hq4 : ∀ w, (Op.equalIn 10000 23 (.agg (iCells x)) (.agg (iCells x))).run Try.prog w = .ok true w := fun w => by
        rw [four_eq _ _ HRC.out.1 HRC.out.1, beq_self_eq_true]
      have e1 : (v != v) = false := by simp
      have e2 : (v == v) = true := by simp
      have HW : Hid (ri16 s (k + 1) = (ri16 s k && (decide (s.getD k 0 ≥ 0) && decide (s.getD k 0 ≤ 15)))) := Lib.hid (by rw [← isp_parts]; rfl)
      generalize ri16 s k = b at *
      clear HRC
      (try simp only [Act.put])
      refine wp_region_quiet_below (by kernel_rfl) (by kernel_rfl) ?_
      repeat (first
        | (go_big_quiet_want; refine q_load_row 23 (.tmp 9) rfl q rfl 23 (iCells x) (0, 0) _ HC2.out Try.underlying23 rfl HZX.out ?_; go_big_quiet_on; simp only [Act.put, List.setIfInBounds_toArray, List.set_cons_zero, List.set_cons_succ])
        | (go_big_quiet_want; refine q_load_row 22 (.tmp 2) rfl g rfl 22 (iCells f) (0, 0) _ HC1.out Try.underlying22 rfl HZF.out ?_; go_big_quiet_on; simp only [Act.put, List.setIfInBounds_toArray, List.set_cons_zero, List.set_cons_succ])
        | go_big_quiet_step (first | (go_at_call 16; exact K1.out _ _) | (go_at_call 10; exact K2.out _ _) | (go_at_call 11; exact K3.out _ _)))
      refine wpQuiet_nil ?_
      intro _ hw'
      obtain ⟨⟨dq, osq⟩, hw''⟩ := hw'
      subst hw''
      have hbx := below_regrown w9 dq osq
      have HRT2 := Lib.hid (HR9.out.box hbx)
      have HCT2 := Lib.hid (HC9.out.box hbx)
      have HXT2 := Lib.hid (HX9.out.box hbx)
      have HYT2 := Lib.hid (HY9.out.box hbx)
      have HBT2 := Lib.hid (HB9.out.trans (hbx.mono (Nat.le_of_lt (Row.lt HR9.out))))
      clear K1 K2 K3 HC1 HC2 hbx HR9 HC9 HX9 HY9 HB9 c0 hq4 e1 e2 HZ9
      generalize Sort.grow (redrawn w9 dq) osq = w10 at *
      have c0 := i_at HCT2.out k (by rw [HSL.out]; exact HKK.out)
      obtain ⟨z, hz2⟩ : ∃ z, s.getD k 0 = z := ⟨_, rfl⟩
      rw [hz2] at c0 HW
      clear hz2
      cases b
      · go_wp2_with fail
        go_roundw
        case rel => exact ⟨k + 1, HKK.out, by go_num, by rw [HW.out]; rfl, HRT2.out, HCT2.out, HXT2.out, HYT2.out, HBT2.out⟩
        case measure =>
          have := HKK.out
          simp [intOf] <;> omega
      · by_cases h1 : z ≥ 0
        · rw [decide_eq_true h1] at HW
          by_cases h2 : z ≤ 15
          · rw [decide_eq_true h2] at HW
            go_wp2_with fail
            go_roundw
            case rel => exact ⟨k + 1, HKK.out, by go_num, by rw [HW.out]; rfl, HRT2.out, HCT2.out, HXT2.out, HYT2.out, HBT2.out⟩
            case measure =>
              have := HKK.out
              simp [intOf] <;> omega
          · rw [decide_eq_false h2] at HW
            go_wp2_with fail
            go_roundw
            case rel => exact ⟨k + 1, HKK.out, by go_num, by rw [HW.out]; rfl, HRT2.out, HCT2.out, HXT2.out, HYT2.out, HBT2.out⟩
            case measure =>
              have := HKK.out
              simp [intOf] <;> omega
        · rw [decide_eq_false h1] at HW
          go_wp2_with fail
          go_roundw
          case rel => exact ⟨k + 1, HKK.out, by go_num, by rw [HW.out]; rfl, HRT2.out, HCT2.out, HXT2.out, HYT2.out, HBT2.out⟩
          case measure =>
            have := HKK.out
            simp [intOf] <;> omega
    · obtain rfl : k = 8 := by omega
      obtain ⟨b, hb⟩ : ∃ b, ri16 s 8 = b := ⟨_, rfl⟩
      rw [hb]
      rw [hb] at HRS
      clear hk hge hz hb
      go_wp2_with fail
      go_loopw [10] (fun ii wr => ∃ k : Nat, k ≤ 32 ∧ ii = .int .i64 k ∧ Row wr g 22 (iCells f) ∧ Row wr (g + 1) 32 (iCells s) ∧ Row wr h 33 (iCells t) ∧ Row wr y 25 (iCells a) ∧ Below g w wr) (fun ii _ => 32 - (intOf ii).toNat)
      case atStart => exact ⟨0, by omega, rfl, HR.out, HC.out, HX.out, HY.out, HB.out⟩
      case round =>
        clear HR HC HX HY HB
        obtain ⟨k, hk, rfl, r1, r2, r3, r4, r5⟩ := hrel
        have HR := Lib.hid r1
        have HC := Lib.hid r2
        have HX := Lib.hid r3
        have HY := Lib.hid r4
        have HB := Lib.hid r5
        clear r1 r2 r3 r4 r5
        rcases Nat.lt_or_ge k 32 with hlt | hge
        · have HKK := Lib.hid hlt
          have hkI : (k : Int) < 32 := by omega
          have c0 := i_at HR.out k (by rw [HF.out]; exact hlt)
          have c1 := i_at HY.out k (by rw [HKL.out]; exact hlt)
          rw [HKG.out k hlt] at c1
          obtain ⟨x, hx⟩ : ∃ x, f.getD k 0 = x := ⟨_, rfl⟩
          rw [hx] at c0 c1
          have HRC : Hid (∀ w, Calls Try.prog 17 #[.int .i64 x] w fun e w' => e = .returned (.int .i64 (cl16 x)) ∧ w' = w) := Lib.hid fun w => rclamp_any x w
          generalize cl16 x = v at *
          have e1 : (v != v) = false := by simp
          have e2 : (v == v) = true := by simp
          clear hk hlt hx
          go_wp2_with fail
          refine wp_region_quiet_lit (by kernel_rfl) (by kernel_rfl) ?_
          repeat go_big_quiet_step (fail)
          go_big_quiet_step ((go_at_call 17; exact Calls.quiet_of_same (HRC.out _)))
          repeat go_big_quiet_step (fail)
          refine wpQuiet_nil ?_
          intro _ hw'
          obtain ⟨nq, rfl⟩ := hw'
          have HR2 := Lib.hid (Row.drewN HR.out nq)
          have HC2 := Lib.hid (Row.drewN HC.out nq)
          have HX2 := Lib.hid (Row.drewN HX.out nq)
          have HY2 := Lib.hid (Row.drewN HY.out nq)
          have HB2 := Lib.hid (Below.drewN HB.out nq)
          clear HR HC HX HY HB c0 c1
          generalize wr.drewN nq = w3 at *
          go_wp2_with fail
          go_roundw
          case rel => exact ⟨k + 1, HKK.out, by go_num, HR2.out, HC2.out, HX2.out, HY2.out, HB2.out⟩
          case measure =>
            have := HKK.out
            simp [intOf] <;> omega
        · obtain rfl : k = 32 := by omega
          clear hk hge
          have e1 : (b == b) = true := beq_self_eq_true b
          go_wp2_with (refine wpList_load_row rfl 32 (.tmp 3) rfl (g + 1) rfl 32 (iCells s) (0, 0) _ HC.out Try.underlying32 rfl HZS.out ?_)
          refine (HRS.out _).mono ?_
          rintro e w8 ⟨rfl, hb8⟩
          have HX8 := Lib.hid (Row.box HX.out hb8)
          have HG8 : Hid (g ≤ w8.heap.size) := Lib.hid (Nat.le_of_lt (Row.lt (Row.box HR.out hb8)))
          have HB8 := Lib.hid (HB.out.trans (hb8.mono (Nat.le_of_lt (Row.lt HR.out))))
          clear HR HC HX HY HB hb8
          go_wp2_with (refine g_load_row (by rfl) 33 (.tmp 5) rfl h rfl 33 (iCells t) (0, 0) _ HX8.out Try.underlying33 rfl HZT.out ?_)
          refine (HRT.out _).mono ?_
          rintro e w9 ⟨rfl, hb9⟩
          have HB9 := Lib.hid (HB8.out.trans (hb9.mono HG8.out))
          clear hb9
          go_wp2_with fail
          go_ret
          exact ⟨rfl, HB9.out⟩
end Go.Proofs.Ytagcdnglipdldaa
