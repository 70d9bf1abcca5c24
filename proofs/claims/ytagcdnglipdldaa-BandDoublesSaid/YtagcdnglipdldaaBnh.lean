/-
  BandLoud: a band's greatest is 6 times its gain at most, and more than 3 times it, if its step is 1 to 14. Conditions: four ints.
-/
import Derived.Test.YtagcdnglipdldaaBng
import Derived.Deep.RegionWith
namespace Go.Proofs.Ytagcdnglipdldaa
open Go.RowKit
open M
theorem rem50 (x : Int) : -1125899906842624 < x.tmod 1125899906842624 ∧ x.tmod 1125899906842624 < 1125899906842624 := by
  have h1 := Int.tmod_lt_of_pos x (b := 1125899906842624) (by decide)
  have h2 := Int.lt_tmod_of_pos x (b := 1125899906842624) (by decide)
  omega
theorem if_max16 (x y : Int) : (if x < y then y else x) = max x y := by split <;> omega
theorem max_any4 (a b c d : Int) (w : World) : (Builtin.max_ #[3, 3, 3, 3] 3 #[.int .i64 a, .int .i64 b, .int .i64 c, .int .i64 d]).run Try.prog w = .ok (.int .i64 (max (max (max a b) c) d)) w := by
  simp [Builtin.max_, Builtin.max2, if_max16]
theorem max_min4 (a b c d K : Nat) : max (max (max ((min a K : Nat) : Int) ((min b K : Nat) : Int)) ((min c K : Nat) : Int)) ((min d K : Nat) : Int) = ((min (max (max a b) (max c d)) K : Nat) : Int) := by omega
theorem max4_16 (a b c d : Int) (w : World) : (Builtin.max_ #[3, 3, 3, 3] 3 #[.int .i64 (sz16 a), .int .i64 (sz16 b), .int .i64 (sz16 c), .int .i64 (sz16 d)]).run Try.prog w = .ok (.int .i64 ((min (gm16 [a, b, c, d]) 1099511627776 : Nat) : Int)) w := by
  rw [max_any4, gm16_cells]
  unfold sz16
  rw [max_min4]
/-- What the law asks, on numbers alone. -/
theorem loud_facts (G s T U m : Nat) (hs : stp G = s) (hT : 6 * 2 ^ s = T) (hU : 3 * 2 ^ s = U) (hm : min G 1099511627776 = m) : s ≤ 15 ∧ T ≤ 196608 ∧ U ≤ 98304 ∧ (s = 15 ∨ m ≤ T) ∧ (s = 0 ∨ U < m) ∧ (s = 15 → 98304 < m) ∧ (s = 0 → m ≤ 6) := by
  obtain ⟨h1, h2⟩ := stp_loud G
  have h3 := stp_le G
  rw [hs] at h1 h2 h3
  have h4 := pow2_le s 15 h3
  rw [hT] at h1
  rw [hU] at h2
  have h5 : s = 15 → U = 98304 := fun e => by subst e; exact hU.symm
  have h6 : s = 0 → T = 6 := fun e => by subst e; exact hT.symm
  omega
set_option maxRecDepth 100000 in
set_option maxHeartbeats 1000000 in
theorem loud_law (l : List Int) (w : World) (hl : l.length = 4) :
    Calls Try.prog 4 #[.agg (iCells l)] w fun e w' => e = .returned (.bool true) ∧ Below w.heap.size w w' := by
  have HL := Lib.hid hl
  obtain ⟨g, hg⟩ : ∃ g, w.heap.size = g := ⟨_, rfl⟩
  have HR : Hid (Row (w.alloc (.cells (iCells l) 23)) g 23 (iCells l)) := Lib.hid (hg ▸ heap_alloc_new _ _)
  have HB : Hid (Below g w (w.alloc (.cells (iCells l) 23))) := Lib.hid ((Below.refl _ _).alloc (by omega) _)
  have HG := Lib.hid hg
  clear hl
  rw [hg]
  clear hg
  go_enter Try.func4, Try.ntmps4
  go_wp2_with fail
  rw [HG.out]
  generalize w.alloc (.cells (iCells l) 23) = w1 at *
  refine (awake16_any _).mono ?_
  rintro e w2 ⟨rfl, hb2⟩
  have HR2 := Lib.hid (Row.box HR.out hb2)
  have HB2 := Lib.hid (HB.out.trans (hb2.mono (Nat.le_of_lt (Row.lt HR.out))))
  clear HR HB hb2
  go_wp2_with fail
  go_loopw [3] (fun ii wr => ∃ (k : Nat) (L : List Int), k ≤ 4 ∧ ii = .int .i64 k ∧ L.length = 4 ∧ (∀ j, j < k → -1125899906842624 < L.getD j 0 ∧ L.getD j 0 < 1125899906842624) ∧ Row wr g 23 (iCells L) ∧ Below g w wr) (fun ii _ => 4 - (intOf ii).toNat)
  case atStart => exact ⟨0, l, by omega, rfl, HL.out, fun j hj => by omega, HR2.out, HB2.out⟩
  case round =>
    clear HR2 HB2
    obtain ⟨k, L, hk, rfl, hL, hall, h1, h4⟩ := hrel
    have HR := Lib.hid h1
    have HB := Lib.hid h4
    have HL2 := Lib.hid hL
    have HAL := Lib.hid hall
    clear h1 h4 hL hall
    rcases Nat.lt_or_ge k 4 with hlt | hge
    · have HK := Lib.hid hlt
      have hkI : (k : Int) < 4 := by omega
      have c0 := i_at HR.out k (by rw [HL2.out]; exact hlt)
      have z0 := frozen_of_row _ _ k _ _ HR.out
      obtain ⟨x, hx⟩ : ∃ x, L.getD k 0 = x := ⟨_, rfl⟩
      rw [hx] at c0
      have hy := rem50 x
      obtain ⟨y, hxy⟩ : ∃ y, x.tmod 1125899906842624 = y := ⟨_, rfl⟩
      rw [hxy] at hy
      have HY := Lib.hid hy
      have hwy : IntKind.i64.wrap y = y := by rw [IntKind.wrap_i64]; omega
      clear hk hlt hx hy
      go_wp2_with fail
      go_roundw
      case rel =>
        refine ⟨k + 1, L.set k y, HK.out, by go_num, by rw [List.length_set]; exact HL2.out, fun j hj => ?_, ?_, HB.out.setCell (by simp) _⟩
        · have e : (L.set k y).getD j 0 = if k = j then y else L.getD j 0 := by
            rw [List.getD_eq_getElem?_getD, List.getElem?_set]
            by_cases h : k = j
            · subst h; rw [if_pos rfl, if_pos (by rw [HL2.out]; exact HK.out), if_pos rfl]; rfl
            · rw [if_neg h, if_neg h, ← List.getD_eq_getElem?_getD]
          rw [e]
          by_cases h : k = j
          · rw [if_pos h]; exact HY.out
          · rw [if_neg h]; exact HAL.out j (by omega)
        · rw [← iCells_set]; exact Row.set HR.out k _
      case measure =>
        have := HK.out
        simp [intOf] <;> omega
    · obtain rfl : k = 4 := by omega
      obtain ⟨a, b, c, d, rfl⟩ := four_list L HL2.out
      have ba := HAL.out 0 (by omega)
      have bb := HAL.out 1 (by omega)
      have bc := HAL.out 2 (by omega)
      have bd := HAL.out 3 (by omega)
      simp only [List.getD_cons_zero, List.getD_cons_succ] at ba bb bc bd
      clear hk hge HAL HL2
      have HSZ := Lib.hid (four_size [a, b, c, d] rfl)
      go_wp2_with (refine wpList_load_row rfl 23 (.tmp 1) rfl g rfl 23 (iCells [a, b, c, d]) (0, 0) _ HR.out Try.underlying23 rfl HSZ.out ?_)
      refine (step16_any [a, b, c, d] _ rfl).mono ?_
      rintro e w3 ⟨rfl, hb3⟩
      have HR3 := Lib.hid (Row.box HR.out hb3)
      have HB3 := Lib.hid (HB.out.trans (hb3.mono (Nat.le_of_lt (Row.lt HR.out))))
      clear HR HB hb3
      have hmx := max4_16 a b c d
      have SA := Lib.hid fun w => size16_any a w (by omega) (by omega)
      have SB := Lib.hid fun w => size16_any b w (by omega) (by omega)
      have SC := Lib.hid fun w => size16_any c w (by omega) (by omega)
      have SD := Lib.hid fun w => size16_any d w (by omega) (by omega)
      generalize sz16 a = ma at *
      generalize sz16 b = mb at *
      generalize sz16 c = mc at *
      generalize sz16 d = md at *
      obtain ⟨G, hG⟩ : ∃ G, gm16 [a, b, c, d] = G := ⟨_, rfl⟩
      rw [hG] at hmx
      obtain ⟨m, hm⟩ : ∃ m, min G 1099511627776 = m := ⟨_, rfl⟩
      rw [hm] at hmx
      rw [hG]
      obtain ⟨s, hs⟩ : ∃ s, stp G = s := ⟨_, rfl⟩
      rw [hs]
      obtain ⟨T, hT⟩ : ∃ T, 6 * 2 ^ s = T := ⟨_, rfl⟩
      obtain ⟨U, hU⟩ : ∃ U, 3 * 2 ^ s = U := ⟨_, rfl⟩
      have HF := Lib.hid (loud_facts G s T U m hs hT hU hm)
      have c0 := i_at HR3.out 0 (by simp)
      have c1 := i_at HR3.out 1 (by simp)
      have c2 := i_at HR3.out 2 (by simp)
      have c3 := i_at HR3.out 3 (by simp)
      simp only [List.getD_cons_zero, List.getD_cons_succ] at c0 c1 c2 c3
      have hw6 : IntKind.i64.wrap (6 * 2 ^ s) = (T : Int) := by
        have e : (6 * 2 ^ s : Int) = (T : Int) := by rw [← hT]; push_cast; rfl
        have := HF.out
        rw [e, IntKind.wrap_i64]; omega
      have hw3 : IntKind.i64.wrap (3 * 2 ^ s) = (U : Int) := by
        have e : (3 * 2 ^ s : Int) = (U : Int) := by rw [← hU]; push_cast; rfl
        have := HF.out
        rw [e, IntKind.wrap_i64]; omega
      clear hG hm hs hT hU ba bb bc bd
      go_wp2_with fail
      refine wp_region_quiet_lit (by kernel_rfl) (by kernel_rfl) ?_
      repeat go_big_quiet_step (fail)
      go_big_quiet_step ((go_at_call 12; exact Calls.quiet_of_same (SA.out _)))
      repeat go_big_quiet_step (fail)
      go_big_quiet_step ((go_at_call 12; exact Calls.quiet_of_same (SB.out _)))
      repeat go_big_quiet_step (fail)
      go_big_quiet_step ((go_at_call 12; exact Calls.quiet_of_same (SC.out _)))
      repeat go_big_quiet_step (fail)
      go_big_quiet_step ((go_at_call 12; exact Calls.quiet_of_same (SD.out _)))
      repeat go_big_quiet_step (fail)
      refine wpQuiet_nil ?_
      intro _ hw'
      obtain ⟨nq, rfl⟩ := hw'
      have HB5 := Lib.hid (Below.drewN HB3.out nq)
      generalize w3.drewN nq = w5 at *
      clear c0 c1 c2 c3 hmx SA SB SC SD HR3 HB3
      obtain ⟨hs15, -, -, hl1, hl2, hl3, hl4⟩ := HF.out
      have hsI : (s : Int) ≥ 0 := by omega
      have hsI2 : (s : Int) ≤ 15 := by omega
      by_cases e15 : s = 15
      · have hu : (m : Int) > 98304 := by omega
        have hu2 : (98304 : Int) < (m : Int) := hu
        clear hl1 hl2 hl3 hl4 HF
        subst e15
        go_wp2_with fail
        go_ret
        exact ⟨rfl, HB5.out⟩
      · have hlt : (m : Int) ≤ (T : Int) := by omega
        have hn15 : ¬ (s : Int) = 15 := by omega
        by_cases e0 : s = 0
        · have hu : (m : Int) ≤ 6 := by omega
          clear hl1 hl2 hl3 hl4 HF
          subst e0
          go_wp2_with fail
          go_ret
          exact ⟨rfl, HB5.out⟩
        · have hu : (m : Int) > (U : Int) := by omega
          have hn0 : ¬ (s : Int) = 0 := by omega
          clear hl1 hl2 hl3 hl4 HF
          go_wp2_with fail
          go_ret
          exact ⟨rfl, HB5.out⟩
end Go.Proofs.Ytagcdnglipdldaa
