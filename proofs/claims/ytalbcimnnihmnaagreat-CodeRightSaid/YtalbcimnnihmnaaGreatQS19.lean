/-
  Contracts and plain facts that the laws share; each piece is headed by what it holds and its conditions.
-/
import Derived.Test.YtalbcimnnihmnaaGreatQS18
import Derived.Test.YtalbcimnnihmnaaGreatQS7
import Derived.Test.YtalbcimnnihmnaaGreatQS13
import Derived.Test.YtalbcimnnihmnaaGreatQS9
import Derived.Test.YtalbcimnnihmnaaGreatQS17
import Derived.Test.YtalbcimnnihmnaaGreatQQtl
import Derived.Test.YtalbcimnnihmnaaGreatQS10
import Derived.Test.YtalbcimnnihmnaaGreatQS3
import Derived.Test.YtalbcimnnihmnaaGreatQS6
import Derived.Test.YtalbcimnnihmnaaGreatQS5
import Derived.Deep.RegionHeld3
import Derived.Deep.RegionWith
import Derived.Deep.QuietTactic
import Derived.BigQuiet
import Derived.Lib.QuietBelow
import Derived.Deep.Cut

/- Layer 14's Coefs of any pulses and any step: 0s where a step or a pulse may not be. Conditions: four numbers. -/
namespace Go.Proofs.YtalbcimnnihmnaaGreat
open Go.RowKit
open M
theorem pstep_no (s : Int) (w : World) (h : ¬ (0 ≤ s ∧ s ≤ 15)) :
    Calls Tryz.prog 43 #[.int .i64 s] w fun e w' => e = .returned (.bool false) ∧ w' = w := by
  by_cases h1 : s < 0
  · have h2 : ¬ s ≥ 0 := by omega
    go_enter Tryz.func43, Tryz.ntmps43
    go_wp2
    go_ret
    exact ⟨rfl, rfl⟩
  · have h2 : s ≥ 0 := by omega
    have h3 : ¬ s ≤ 15 := by omega
    go_enter Tryz.func43, Tryz.ntmps43
    go_wp2
    go_ret
    exact ⟨rfl, rfl⟩
set_option maxRecDepth 100000 in
theorem within_no (l : List Int) (w : World) (hl : l.length = 4) (h : ¬ ∀ j, j < 4 → -12 ≤ l.getD j 0 ∧ l.getD j 0 ≤ 12) :
    Calls Tryz.prog 44 #[.int .i64 12, .agg (iCells l)] w fun e w' => e = .returned (.bool false) ∧ Below w.heap.size w w' := by
  have HH := Lib.hid h
  have HIX := Lib.hid (index_four l hl)
  have HSZ := Lib.hid (four_size l hl)
  have HR : Hid (Row (w.alloc (.cells (iCells l) 26)) w.heap.size 26 (iCells l)) := Lib.hid (heap_alloc_new _ _)
  have HB : Hid (Below w.heap.size w (w.alloc (.cells (iCells l) 26))) := Lib.hid ((Below.refl _ _).alloc (Nat.le_refl _) _)
  have hw : IntKind.i64.wrap (-12) = -12 := wi_id _ (by omega) (by omega)
  clear h hl
  go_enter Tryz.func44, Tryz.ntmps44
  go_wp2_with (refine wpList_load_row rfl 26 (.tmp 3) rfl w.heap.size rfl 26 (iCells l) (0, 0) _ HR.out Tryz.underlying26 rfl HSZ.out ?_)
  go_loop [8] (fun i => ∃ (k : Nat), k ≤ 4 ∧ i = .int .i64 k ∧ ∀ j, j < k → -12 ≤ l.getD j 0 ∧ l.getD j 0 ≤ 12) (fun i => 4 - (intOf i).toNat)
  case atStart => exact ⟨0, by omega, rfl, fun j hj => by omega⟩
  case round =>
    obtain ⟨k, hk, rfl, hall⟩ := hrel
    have HA := Lib.hid hall
    rcases Nat.lt_or_ge k 4 with hlt | hge
    · have hix := HIX.out k hlt
      have HK := Lib.hid hlt
      have hkI : (k : Int) < 4 := by omega
      obtain ⟨x, hxx⟩ : ∃ x, l.getD k 0 = x := ⟨_, rfl⟩
      have HX := Lib.hid fun _ : Unit => hxx
      rw [hxx] at hix
      clear hxx hlt hk hall
      by_cases h1 : x < -12
      · go_wp2_with fail
        go_ret
        exact ⟨rfl, HB.out⟩
      · by_cases h2 : x > 12
        · go_wp2_with fail
          go_ret
          exact ⟨rfl, HB.out⟩
        · go_wp2_with fail
          go_round
          case rel => exact ⟨k + 1, HK.out, by go_num, fun j hj => by
            rcases Nat.lt_or_ge j k with h | h
            · exact HA.out j h
            · obtain rfl : j = k := by omega
              rw [HX.out ()]
              omega⟩
          case measure =>
            have := HK.out
            simp [intOf] <;> omega
    · obtain rfl : k = 4 := by omega
      exact absurd hall HH.out
/-- What pulses stand for, whatever they are. -/
def cfa (y : List Int) (s : Int) : List Int := if (0 ≤ s ∧ s ≤ 15) ∧ fw19 y = true then cf14 y ((2 : Int) ^ s.toNat) else z4
theorem cfa_len (y : List Int) (s : Int) (hy : y.length = 4) : (cfa y s).length = 4 := by
  unfold cfa
  split
  · rw [cf14_len, hy]
  · rfl
set_option maxRecDepth 100000 in
set_option maxHeartbeats 1000000 in
theorem coefs_all (y : List Int) (s : Int) (w : World) (hy : y.length = 4) :
    Calls Tryz.prog 33 #[.agg (iCells y), .int .i64 s] w fun e w' => e = .returned (.agg (iCells (cfa y s))) ∧ Below w.heap.size w w' := by
  by_cases hs : 0 ≤ s ∧ s ≤ 15
  · cases hf : fw19 y with
    | true =>
      obtain ⟨n, rfl⟩ : ∃ n : Nat, s = (n : Int) := ⟨s.toNat, by omega⟩
      have e : cfa y (n : Int) = cf14 y ((2 : Int) ^ n) := by unfold cfa; rw [if_pos ⟨hs, hf⟩]; rfl
      rw [e]
      exact coefs_any y n w hy (by omega) ((fw_iff y).1 hf)
    | false =>
      have e : cfa y s = z4 := by unfold cfa; rw [if_neg fun e => by rw [hf] at e; cases e.2]
      rw [e]
      clear e
      have HW := Lib.hid fun w => within_no y w hy fun e => by rw [(fw_iff y).2 e] at hf; cases hf
      obtain ⟨n, rfl⟩ : ∃ n : Nat, s = (n : Int) := ⟨s.toNat, by omega⟩
      have HS := Lib.hid fun w => step_any n w (by omega)
      have hz := four_zero
      have HSP := Lib.hid (pulses_size y hy)
      have HR : Hid (Row (((w.alloc (.cells (iCells y) 27)).alloc (.cells (iCells z4) 26)).alloc (.cells (iCells z4) 26)) w.heap.size 27 (iCells y)) := Lib.hid ((Row.alloc (heap_alloc_new _ _) _).alloc _)
      have HR1 : Hid (Row (((w.alloc (.cells (iCells y) 27)).alloc (.cells (iCells z4) 26)).alloc (.cells (iCells z4) 26)) (w.heap.size + 1) 26 (iCells z4)) := Lib.hid (Row.alloc (row_new _ _ (by simp) _ _) _)
      have HR2 : Hid (Row (((w.alloc (.cells (iCells y) 27)).alloc (.cells (iCells z4) 26)).alloc (.cells (iCells z4) 26)) (w.heap.size + 1 + 1) 26 (iCells z4)) := Lib.hid (row_new _ _ (by simp) _ _)
      have HB : Hid (Below w.heap.size w (((w.alloc (.cells (iCells y) 27)).alloc (.cells (iCells z4) 26)).alloc (.cells (iCells z4) 26))) := Lib.hid ((((Below.refl _ _).alloc (Nat.le_refl _) _).alloc (by simp) _).alloc (by simp; omega) _)
      clear hy hf hs
      go_enter Tryz.func33, Tryz.ntmps33
      go_wp2_with fail
      refine (HS.out _).mono ?_
      rintro e w1 ⟨rfl, rfl⟩
      generalize ((w.alloc (.cells (iCells y) 27)).alloc (.cells (iCells z4) 26)).alloc (.cells (iCells z4) 26) = w1 at *
      obtain ⟨g, hg⟩ : ∃ g, w.heap.size = g := ⟨_, rfl⟩
      have HG := Lib.hid fun _ : Unit => hg
      rw [hg] at HR HR1 HR2
      rw [hg]
      clear hg
      go_wp2_with (refine g_load_row (by rfl) 27 (.tmp 2) rfl g rfl 27 (iCells y) (0, 0) _ HR.out Tryz.underlying27 rfl HSP.out ?_)
      refine (HW.out _).mono ?_
      rintro e w2 ⟨rfl, hb⟩
      have HR2 := Lib.hid (HR2.out.box hb)
      have HR1 := Lib.hid (HR1.out.box hb)
      have HB := Lib.hid (HB.out.trans (hb.mono HB.out.size))
      clear hb HR
      have HSC := Lib.hid (four_size z4 rfl)
      go_wp2_with (first
        | (refine wpList_load_row rfl 26 (.tmp 5) rfl (g + 1 + 1) rfl 26 (iCells z4) (0, 0) _ HR2.out Tryz.underlying26 rfl HSC.out ?_)
        | (refine wpList_store_row rfl 26 (.tmp 4) (.tmp 16) rfl (g + 1) (iCells z4) rfl rfl 26 (iCells z4) HR1.out HSC.out rfl (iCells_one _) ?_))
      refine bodyPost_ret (v := .agg (iCells z4)) (results_cell_row Tryz.results33 _ _ (g + 1) 26 (iCells z4) (0, 0) _ rfl (Row.setRow HR1.out _) Tryz.underlying26 rfl HSC.out) rfl ⟨rfl, below_setRow HB.out (by have := HG.out (); omega) _⟩
  · have e : cfa y s = z4 := by unfold cfa; rw [if_neg fun e => hs e.1]
    rw [e]
    clear e
    have HS := Lib.hid fun w => pstep_no s w hs
    have hz := four_zero
    have HR1 : Hid (Row (((w.alloc (.cells (iCells y) 27)).alloc (.cells (iCells z4) 26)).alloc (.cells (iCells z4) 26)) (w.heap.size + 1) 26 (iCells z4)) := Lib.hid (Row.alloc (row_new _ _ (by simp) _ _) _)
    have HR2 : Hid (Row (((w.alloc (.cells (iCells y) 27)).alloc (.cells (iCells z4) 26)).alloc (.cells (iCells z4) 26)) (w.heap.size + 1 + 1) 26 (iCells z4)) := Lib.hid (row_new _ _ (by simp) _ _)
    have HB : Hid (Below w.heap.size w (((w.alloc (.cells (iCells y) 27)).alloc (.cells (iCells z4) 26)).alloc (.cells (iCells z4) 26))) := Lib.hid ((((Below.refl _ _).alloc (Nat.le_refl _) _).alloc (by simp) _).alloc (by simp; omega) _)
    clear hs hy
    go_enter Tryz.func33, Tryz.ntmps33
    go_wp2_with fail
    refine (HS.out _).mono ?_
    rintro e w1 ⟨rfl, rfl⟩
    generalize ((w.alloc (.cells (iCells y) 27)).alloc (.cells (iCells z4) 26)).alloc (.cells (iCells z4) 26) = w1 at *
    obtain ⟨g, hg⟩ : ∃ g, w.heap.size = g := ⟨_, rfl⟩
    have HG := Lib.hid fun _ : Unit => hg
    rw [hg] at HR1 HR2
    rw [hg]
    clear hg
    have HSC := Lib.hid (four_size z4 rfl)
    go_wp2_with (first
      | (refine wpList_load_row rfl 26 (.tmp 5) rfl (g + 1 + 1) rfl 26 (iCells z4) (0, 0) _ HR2.out Tryz.underlying26 rfl HSC.out ?_)
      | (refine wpList_store_row rfl 26 (.tmp 4) (.tmp 16) rfl (g + 1) (iCells z4) rfl rfl 26 (iCells z4) HR1.out HSC.out rfl (iCells_one _) ?_))
    refine bodyPost_ret (v := .agg (iCells z4)) (results_cell_row Tryz.results33 _ _ (g + 1) 26 (iCells z4) (0, 0) _ rfl (Row.setRow HR1.out _) Tryz.underlying26 rfl HSC.out) rfl ⟨rfl, below_setRow HB.out (by have := HG.out (); omega) _⟩
end Go.Proofs.YtalbcimnnihmnaaGreat

/- Layer 20: code's Coefs. Conditions: a shape's 40 numbers. -/
namespace Go.Proofs.YtalbcimnnihmnaaGreat
open Go.RowKit
open M
theorem z4_at (i : Nat) (hi : i < 4) : z4.getD i 0 = 0 := by
  rcases (show i = 0 ∨ i = 1 ∨ i = 2 ∨ i = 3 by omega) with rfl | rfl | rfl | rfl <;> rfl
theorem cfa_getD (l : List Int) (k i : Nat) (hi : i < 4) : (cfa (pto l (8 + k * 4) 4) (l.getD k 0)).getD i 0 = co20 l (4 * k + i) := by
  have hp : (4 * k + i) / 4 = k := by omega
  unfold cfa
  by_cases hs : 0 ≤ l.getD k 0 ∧ l.getD k 0 ≤ 15
  · by_cases hf : fw19 (pto l (8 + k * 4) 4) = true
    · rw [if_pos ⟨hs, hf⟩, cf14_get, pto_getD _ _ _ _ hi, co20_is l k _ hp hs hf, show 8 + (4 * k + i) = 8 + k * 4 + i by omega]
    · rw [if_neg fun e => hf e.2, co20_far l k _ hp (by simpa using hf)]
      rw [z4_at i hi]
  · rw [if_neg fun e => hs e.1, co20_step l k _ hp hs]
    exact z4_at i hi
theorem pt16_ppu (f : List Int) (b : Nat) (c : List Int) (hf : f.length = 32) (hc : c.length = 4) (hb : b ≤ 7) : pt16 f b c = ppu f (b * 4) c := by
  unfold pt16
  rw [← ppu_cut f (b * 4) c (by omega), hc]
theorem cp20_put (l : List Int) (k : Nat) (hk : k < 8) : put16 (cp20 l (4 * k)) (k : Int) (cfa (pto l (8 + k * 4) 4) (l.getD k 0)) = cp20 l (4 * (k + 1)) := by
  have hc : (cfa (pto l (8 + k * 4) 4) (l.getD k 0)).length = 4 := cfa_len _ _ (pto_len _ _ _)
  unfold put16
  rw [if_pos (show isb (k : Int) = true from decide_eq_true (by omega)), Int.toNat_natCast, pt16_ppu _ _ _ (cp20_len _ _) hc (by omega)]
  refine tm_ext _ 32 _ (by rw [ppu_len, cp20_len]) fun p hp => ?_
  rw [ppu_getD _ _ _ _ (by rw [cp20_len]; exact hp), hc]
  by_cases h : k * 4 ≤ p ∧ p < k * 4 + 4
  · rw [if_pos h, if_pos (by omega), cfa_getD l k _ (by omega)]
    congr 1
    omega
  · rw [if_neg h]
    unfold cp20
    rw [tm_getD 32 _ p hp]
    by_cases h2 : p < 4 * k
    · rw [if_pos h2, if_pos (by omega)]
    · rw [if_neg h2, if_neg (by omega)]
theorem pls4 : (Tryz.prog.info? 27).map (·.size) = some 4 := by kernel_rfl
set_option maxRecDepth 100000 in
set_option maxHeartbeats 2000000 in
theorem coefs20_any (l : List Int) (w : World) (hl : l.length = 40) :
    Calls Tryz.prog 9 #[.agg (iCells l)] w fun e w' => e = .returned (.agg (iCells (cf20 l))) ∧ Below w.heap.size w w' := by
  have HL := Lib.hid hl
  have hz := fra_zero
  have HR1 : Hid (Row (((w.alloc (.cells (iCells l) 30)).alloc (.cells (iCells z20) 41)).alloc (.cells (iCells z20) 41)) w.heap.size 30 (iCells l)) := Lib.hid ((Row.alloc (heap_alloc_new _ _) _).alloc _)
  have HR2 : Hid (Row (((w.alloc (.cells (iCells l) 30)).alloc (.cells (iCells z20) 41)).alloc (.cells (iCells z20) 41)) (w.heap.size + 1) 41 (iCells z20)) := Lib.hid (Row.alloc (row_new _ _ (by simp) _ _) _)
  have HR3 : Hid (Row (((w.alloc (.cells (iCells l) 30)).alloc (.cells (iCells z20) 41)).alloc (.cells (iCells z20) 41)) (w.heap.size + 1 + 1) 41 (iCells z20)) := Lib.hid (row_new _ _ (by simp) _ _)
  have HB : Hid (Below w.heap.size w (((w.alloc (.cells (iCells l) 30)).alloc (.cells (iCells z20) 41)).alloc (.cells (iCells z20) 41))) := Lib.hid ((((Below.refl _ _).alloc (Nat.le_refl _) _).alloc (by simp) _).alloc (by simp; omega) _)
  clear hl
  go_enter Tryz.func9, Tryz.ntmps9
  go_wp2_with fail
  generalize ((w.alloc (.cells (iCells l) 30)).alloc (.cells (iCells z20) 41)).alloc (.cells (iCells z20) 41) = w1 at *
  obtain ⟨g, hg⟩ : ∃ g, w.heap.size = g := ⟨_, rfl⟩
  have HG := Lib.hid fun _ : Unit => hg
  rw [hg] at HR1 HR2 HR3
  rw [hg]
  clear hg hz
  go_loopw [5] (fun ii wr => ∃ (k : Nat), k ≤ 8 ∧ ii = .int .i64 (k : Int) ∧ Row wr g 30 (iCells l) ∧ Row wr (g + 1) 41 (iCells z20) ∧ Row wr (g + 1 + 1) 41 (iCells (cp20 l (4 * k))) ∧ Below w.heap.size w wr) (fun ii _ => 8 - (intOf ii).toNat)
  case atStart => exact ⟨0, by omega, rfl, HR1.out, HR2.out, by rw [Nat.mul_zero, cp20_zero]; exact HR3.out, HB.out⟩
  case round =>
    clear HR1 HR2 HR3 HB
    obtain ⟨k, hk, rfl, hr1, hr2, hr3, hb⟩ := hrel
    have HR1 := Lib.hid hr1
    have HR2 := Lib.hid hr2
    have HR3 := Lib.hid hr3
    have HB := Lib.hid hb
    rcases Nat.lt_or_ge k 8 with hlt | hge
    · have hkI : (k : Int) < 8 := by omega
      have HK := Lib.hid hlt
      have HC1 : Hid (∀ W : World, (∃ p : Regrown, W = Sort.grow (redrawn wr p.d) p.os) → Row W (g + 1 + 1) 41 (iCells (cp20 l (4 * k)))) := by
        rintro W ⟨p, rfl⟩
        exact HR3.out.below (below_regrown wr p.d p.os) HR3.out.lt
      have HC2 : Hid (∀ W : World, (∃ p : Regrown, W = Sort.grow (redrawn wr p.d) p.os) → Row W g 30 (iCells l)) := by
        rintro W ⟨p, rfl⟩
        exact HR1.out.below (below_regrown wr p.d p.os) HR1.out.lt
      have HL1 := Lib.hid (show 8 + k * 4 + 4 ≤ l.length by rw [HL.out]; omega)
      have HL2 := Lib.hid (show 0 + 32 ≤ (cp20 l (4 * k)).length by rw [cp20_len]; omega)
      have hpf := pto_all (cp20 l (4 * k)) 32 (cp20_len _ _)
      have c0 := cell_regrown (i_at hr1 k (by rw [HL.out]; omega))
      have K1 : Hid (∀ d os, Calls Tryz.prog 33 #[.agg (iCells (pto l (8 + k * 4) 4)), .int .i64 (l.getD k 0)] (Sort.grow (redrawn wr d) os) fun e w'' => e = .returned (.agg (iCells (cfa (pto l (8 + k * 4) 4) (l.getD k 0)))) ∧ ∃ p : Regrown, w'' = Sort.grow (redrawn wr p.d) p.os) :=
        Lib.hid fun d os => Calls.regrown_of (coefs_all _ _ _ (pto_len _ _ _))
      have K2 : Hid (∀ d os, Calls Tryz.prog 32 #[.agg (iCells (pto (cp20 l (4 * k)) 0 32)), .int .i64 (k : Int), .agg (iCells (cfa (pto l (8 + k * 4) 4) (l.getD k 0)))] (Sort.grow (redrawn wr d) os) fun e w'' => e = .returned (.agg (iCells (cp20 l (4 * (k + 1))))) ∧ ∃ p : Regrown, w'' = Sort.grow (redrawn wr p.d) p.os) :=
        Lib.hid fun d os => Calls.regrown_of (by
          have h := put16_any (cp20 l (4 * k)) (k : Int) (cfa (pto l (8 + k * 4) 4) (l.getD k 0)) (Sort.grow (redrawn wr d) os) (cp20_len _ _) (cfa_len _ _ (pto_len _ _ _))
          rw [cp20_put l k HK.out] at h
          rw [hpf]
          exact h)
      generalize cfa (pto l (8 + k * 4) 4) (l.getD k 0) = Y at *
      generalize l.getD k 0 = s at *
      clear hk hr1 hr2 hr3 hb hlt hpf
      go_wp2_with fail
      refine region_below_tail 12 (by kernel_rfl) (by kernel_rfl) ?_
      simp only [List.take_succ_cons, List.take_zero, List.drop_succ_cons, List.drop_zero]
      repeat (first
        | (go_big_quiet_want; refine q_load_pto 41 (.tmp 3) rfl (g + 1 + 1) 0 32 rfl 41 _ _ HC1.out HL2.out Tryz.underlying41 rfl (zero_of_info fra_info).2 ?_; go_big_quiet_on; simp only [Act.put, List.setIfInBounds_toArray, List.set_cons_zero, List.set_cons_succ])
        | (go_big_quiet_want; refine q_load_pto 27 (.tmp 12) rfl g (8 + k * 4) 4 rfl 30 l _ HC2.out HL1.out Tryz.underlying27 rfl pls4 ?_; go_big_quiet_on; simp only [Act.put, List.setIfInBounds_toArray, List.set_cons_zero, List.set_cons_succ])
        | go_big_quiet_step (fail))
      go_big_quiet_step ((go_at_call 33; exact K1.out _ _))
      repeat go_big_quiet_step (fail)
      go_big_quiet_step ((go_at_call 32; exact K2.out _ _))
      repeat go_big_quiet_step (fail)
      refine wpQuiet_nil ?_
      rintro w6 ⟨⟨dq, osq⟩, rfl⟩
      have hb := below_regrown wr dq osq
      have HR1 := Lib.hid (HR1.out.box hb)
      have HR2 := Lib.hid (HR2.out.box hb)
      have HR3 := Lib.hid (HR3.out.box hb)
      have HB := Lib.hid (HB.out.trans (hb.mono HB.out.size))
      clear hb K1 K2 HC1 HC2 c0
      generalize Sort.grow (redrawn wr dq) osq = w6 at *
      have HSK := Lib.hid (fra_size (cp20 l (4 * (k + 1))) (cp20_len _ _))
      have HSE := Lib.hid (fra_same (cp20 l (4 * k)) (cp20 l (4 * (k + 1))) (cp20_len _ _) (cp20_len _ _))
      go_wp2_with (refine wpList_store_row rfl 41 (.tmp 3) (.tmp 19) rfl (g + 1 + 1) (iCells (cp20 l (4 * (k + 1)))) rfl rfl 41 (iCells (cp20 l (4 * k))) HR3.out HSK.out HSE.out (iCells_one _) ?_)
      go_roundw
      case rel => exact ⟨k + 1, HK.out, by go_num, (setRow_other _ _ _ _ (by omega)).trans HR1.out, (setRow_other _ _ _ _ (by omega)).trans HR2.out, Row.setRow HR3.out _, below_setRow HB.out (by have := HG.out (); omega) _⟩
      case measure =>
        have := HK.out
        simp [intOf] <;> omega
    · obtain rfl : k = 8 := by omega
      have HSK := Lib.hid (fra_size (cp20 l 32) (cp20_len _ _))
      have HSE := Lib.hid (fra_same z20 (cp20 l 32) z20_len (cp20_len _ _))
      have HR3 := Lib.hid (show Row wr (g + 1 + 1) 41 (iCells (cp20 l 32)) from HR3.out)
      clear hk hge hr1 hr2 hr3 hb
      go_wp2_with (first
        | (refine wpList_load_row rfl 41 (.tmp 3) rfl (g + 1 + 1) rfl 41 (iCells (cp20 l 32)) (0, 0) _ HR3.out Tryz.underlying41 rfl HSK.out ?_)
        | (refine wpList_store_row rfl 41 (.tmp 2) (.tmp 21) rfl (g + 1) (iCells (cp20 l 32)) rfl rfl 41 (iCells z20) HR2.out HSK.out HSE.out (iCells_one _) ?_))
      refine bodyPost_ret (v := .agg (iCells (cp20 l 32))) (results_cell_row Tryz.results9 _ _ (g + 1) 41 (iCells (cp20 l 32)) (0, 0) _ rfl (Row.setRow HR2.out _) Tryz.underlying41 rfl HSK.out) rfl ⟨rfl, below_setRow HB.out (by have := HG.out (); omega) _⟩
end Go.Proofs.YtalbcimnnihmnaaGreat

/- pulse's queue: how its coefficients lie; fall, Len, Less, Swap. Conditions: gains up to 32768, coefficients up to 2^22. -/
namespace Go.Proofs.YtalbcimnnihmnaaGreat
open Go.RowKit
open M
/-- A coefficient of a queue, as it lies. -/
def cV (G : Int) (p : Nat × Int) : List Value := [.int .i64 (p.1 : Int), .int .i64 G, .int .i64 p.2]
def qV (G : Int) : List (Nat × Int) → List Value
  | [] => []
  | p :: l => cV G p ++ qV G l
theorem qV_len (G : Int) (l : List (Nat × Int)) : (qV G l).length = l.length * 3 := by
  induction l with
  | nil => rfl
  | cons p l ih => rw [qV, List.length_append, ih, List.length_cons]; show 3 + _ = _; omega
theorem qV_app (G : Int) (l m : List (Nat × Int)) : qV G (l ++ m) = qV G l ++ qV G m := by
  induction l with
  | nil => rfl
  | cons p l ih => rw [List.cons_append, qV, qV, ih, List.append_assoc]
theorem qV_one (G : Int) (l : List (Nat × Int)) : ∀ u ∈ qV G l, u.oneCell' = true := by
  induction l with
  | nil => intro u hu; simp [qV] at hu
  | cons p l ih =>
    intro u hu
    rw [qV, List.mem_append] at hu
    rcases hu with hu | hu
    · simp only [cV, List.mem_cons, List.not_mem_nil, or_false] at hu
      rcases hu with rfl | rfl | rfl <;> rfl
    · exact ih u hu
theorem qV_get (G : Int) (d : Nat × Int) : ∀ (l : List (Nat × Int)) (i : Nat), i < l.length → (qV G l)[i * 3]? = some (.int .i64 ((l.getD i d).1 : Int)) ∧ (qV G l)[i * 3 + 1]? = some (.int .i64 G) ∧ (qV G l)[i * 3 + 2]? = some (.int .i64 (l.getD i d).2)
  | [], i, h => by simp at h
  | p :: l, 0, _ => ⟨rfl, rfl, rfl⟩
  | p :: l, i + 1, h => by
    have ih := qV_get G d l i (by simpa using h)
    rw [qV]
    have e : ∀ k, (cV G p ++ qV G l)[(i + 1) * 3 + k]? = (qV G l)[i * 3 + k]? := fun k => by
      rw [List.getElem?_append_right (by show 3 ≤ _; omega)]
      congr 1
      show (i + 1) * 3 + k - 3 = _
      omega
    refine ⟨(e 0).trans ih.1, (e 1).trans ih.2.1, (e 2).trans ih.2.2⟩
theorem qV_set (G : Int) (p : Nat × Int) : ∀ (l : List (Nat × Int)) (i : Nat), (((qV G l).set (i * 3) (.int .i64 (p.1 : Int))).set (i * 3 + 1) (.int .i64 G)).set (i * 3 + 2) (.int .i64 p.2) = qV G (l.set i p)
  | [], i => by simp [qV]
  | q :: l, 0 => rfl
  | q :: l, i + 1 => by
    have ih := qV_set G p l i
    rw [List.set_cons_succ, qV, qV, ← ih]
    have e : ∀ (m : List Value) k v, (cV G q ++ m).set ((i + 1) * 3 + k) v = cV G q ++ m.set (i * 3 + k) v := fun m k v => by
      rw [List.set_append_right _ _ (by show 3 ≤ _; omega)]
      congr 2
      show (i + 1) * 3 + k - 3 = _
      omega
    have e0 := e (qV G l) 0
    simp only [Nat.add_zero] at e0
    rw [e0, e, e]
theorem lt14_ne (G : Int) (p q : Nat × Int) (h : ab p.2 - ab (p.2 - G) ≠ ab q.2 - ab (q.2 - G)) : lt14 G p q = decide (ab p.2 - ab (p.2 - G) > ab q.2 - ab (q.2 - G)) := by
  unfold lt14 ltE fk
  simp only
  congr 1
  simp only [eq_iff_iff]
  omega
theorem lt14_eq (G : Int) (p q : Nat × Int) (h : ab p.2 - ab (p.2 - G) = ab q.2 - ab (q.2 - G)) : lt14 G p q = decide (p.1 < q.1) := by
  unfold lt14 ltE fk
  simp only
  congr 1
  simp only [eq_iff_iff]
  omega
set_option maxRecDepth 100000 in
theorem fall_any (a : Nat) (G u : Int) (w : World) (h0 : 0 ≤ G) (h1 : G ≤ 32768) (h2 : -4194304 ≤ u) (h3 : u ≤ 4194304) :
    Calls Tryz.prog 126 #[.agg #[.int .i64 (a : Int), .int .i64 G, .int .i64 u]] w fun e w' => e = .returned (.int .i64 (ab u - ab (u - G))) ∧ Below w.heap.size w w' := by
  obtain ⟨d, hd⟩ : ∃ d, u - G = d := ⟨_, rfl⟩
  rw [hd]
  have S1 := fun w => psize_any u w (by omega) (by omega)
  have S2 := fun w => psize_any d w (by omega) (by omega)
  have b1 : 0 ≤ ab u ∧ ab u ≤ 4194304 := by unfold ab; omega
  have b2 : 0 ≤ ab d ∧ ab d ≤ 4294304 := by unfold ab; omega
  have e1 : IntKind.i64.wrap (u - G) = d := by rw [hd]; exact wi_id _ (by omega) (by omega)
  generalize ab u = x at *
  generalize ab d = y at *
  have e2 : IntKind.i64.wrap (x - y) = x - y := wi_id _ (by omega) (by omega)
  have HB : Hid (Below w.heap.size w (w.alloc (.cells #[.int .i64 (a : Int), .int .i64 G, .int .i64 u] 93))) := Lib.hid ((Below.refl _ _).alloc (Nat.le_refl _) _)
  have hr : Row (w.alloc (.cells #[.int .i64 (a : Int), .int .i64 G, .int .i64 u] 93)) w.heap.size 93 #[.int .i64 (a : Int), .int .i64 G, .int .i64 u] := heap_alloc_new _ _
  have c1 := cell_of_row _ _ 1 _ _ _ hr
  have c2 := cell_of_row _ _ 2 _ _ _ hr
  clear hd b1 b2 h0 h1 h2 h3 hr
  go_enter Tryz.func126, Tryz.ntmps126
  go_wp2_with fail
  generalize w.alloc (.cells #[.int .i64 (a : Int), .int .i64 G, .int .i64 u] 93) = w1 at *
  refine wp_region_still_tail 10 (by kernel_rfl) (by kernel_rfl) ?_
  simp only [List.take_succ_cons, List.take_zero, List.drop_succ_cons, List.drop_zero]
  repeat still_step
  still_call (S1 _)
  repeat still_step
  still_call (S2 _)
  repeat still_step
  refine wpStill_nil ?_
  change wpList _ _ _ _ _ w1.drew
  have HB := Lib.hid (below_drew1 HB.out)
  clear S1 S2 c1 c2 e1
  go_wp2_with fail
  go_ret
  exact ⟨rfl, HB.out⟩
theorem qlen_any (a : Option Addr) (n cap : Nat) (w : World) :
    Calls Tryz.prog 121 #[.slice a n cap] w fun e w' => e = .returned (.int .i64 (n : Int)) ∧ w' = w := by
  go_enter Tryz.func121, Tryz.ntmps121
  go_wp2
  go_ret
  exact ⟨rfl, rfl⟩
/-- The three cells of a coefficient. -/
def C3 (w : World) (g : Nat) (i : Nat) (a : Nat) (G u : Int) : Prop := w.cell? ⟨g, i * 3, none⟩ = some (.int .i64 (a : Int)) ∧ w.cell? ⟨g, i * 3 + 1, none⟩ = some (.int .i64 G) ∧ w.cell? ⟨g, i * 3 + 2, none⟩ = some (.int .i64 u)
theorem own_c3 {w : World} {B g cap n : Nat} {e : TypeId} {G : Int} {l : List (Nat × Int)} (h : w.ownsRow B e 3 (.slice (some ⟨g, 0, none⟩) n cap) n (qV G l)) (d : Nat × Int) (i : Nat) (hi : i < l.length) : C3 w g i (l.getD i d).1 G (l.getD i d).2 := by
  have hl : n = l.length := by
    have := h.1
    rw [qV_len] at this
    omega
  have k := fun j hj => h.cellAt j hj
  obtain ⟨h0, h1, h2⟩ := qV_get G d l i hi
  exact ⟨(k _ (by omega)).trans h0, (k _ (by omega)).trans h1, (k _ (by omega)).trans h2⟩
set_option maxRecDepth 100000 in
set_option maxHeartbeats 1000000 in
theorem less_any (B g cap n : Nat) (G : Int) (l : List (Nat × Int)) (d : Nat × Int) (i j : Nat) (w : World) (h0 : 0 ≤ G) (h1 : G ≤ 32768) (hl : ∀ p ∈ l, -4194304 ≤ p.2 ∧ p.2 ≤ 4194304) (hi : i < l.length) (hj : j < l.length)
    (ho : w.ownsRow B 93 3 (.slice (some ⟨g, 0, none⟩) n cap) n (qV G l)) :
    Calls Tryz.prog 122 #[.slice (some ⟨g, 0, none⟩) n cap, .int .i64 (i : Int), .int .i64 (j : Int)] w fun e w' => e = .returned (.bool (lt14 G (l.getD i d) (l.getD j d))) ∧ Below w.heap.size w w' := by
  have hln : n = l.length := by
    have := ho.1
    rw [qV_len] at this
    omega
  have hbi := hl _ (getD_mem13 l d i hi)
  have hbj := hl _ (getD_mem13 l d j hj)
  have HK : Hid (∀ u : World, Below w.heap.size w u → C3 u g i (l.getD i d).1 G (l.getD i d).2 ∧ C3 u g j (l.getD j d).1 G (l.getD j d).2) :=
    Lib.hid fun u hu => ⟨own_c3 (own13_stay ho hu) d i hi, own_c3 (own13_stay ho hu) d j hj⟩
  have hLE := lt14_eq G (l.getD i d) (l.getD j d)
  have hLN := lt14_ne G (l.getD i d) (l.getD j d)
  obtain ⟨⟨ai, ui⟩, hpi⟩ : ∃ p, l.getD i d = p := ⟨_, rfl⟩
  obtain ⟨⟨aj, uj⟩, hpj⟩ : ∃ p, l.getD j d = p := ⟨_, rfl⟩
  rw [hpi] at hbi
  rw [hpj] at hbj
  rw [hpi, hpj] at HK hLE hLN ⊢
  simp only at hbi hbj HK hLE hLN
  have F1 := fun w => fall_any ai G ui w h0 h1 hbi.1 hbi.2
  have F2 := fun w => fall_any aj G uj w h0 h1 hbj.1 hbj.2
  generalize ab ui - ab (ui - G) = x at *
  generalize ab uj - ab (uj - G) = y at *
  generalize lt14 G (ai, ui) (aj, uj) = z at *
  have hiI : (i : Int) < (n : Int) := by omega
  have hjI : (j : Int) < (n : Int) := by omega
  have hin : i < n := by omega
  have hjn : j < n := by omega
  have k0 := HK.out w (Below.refl _ _)
  clear hbi hbj hl hi hj hpi hpj h0 h1 hln ho
  obtain ⟨⟨a0, a1, a2⟩, b0, b1, b2⟩ := k0
  have q0 := cell_regrown a0
  have q1 := cell_regrown a1
  have q2 := cell_regrown a2
  have r0 := cell_regrown b0
  have r1 := cell_regrown b1
  have r2 := cell_regrown b2
  have K1 : Hid (∀ d os, Calls Tryz.prog 126 #[.agg #[.int .i64 (ai : Int), .int .i64 G, .int .i64 ui]] (Sort.grow (redrawn w d) os) fun e w'' => e = .returned (.int .i64 x) ∧ ∃ p : Regrown, w'' = Sort.grow (redrawn w p.d) p.os) :=
    Lib.hid fun d os => Calls.regrown_of (F1 _)
  have K2 : Hid (∀ d os, Calls Tryz.prog 126 #[.agg #[.int .i64 (aj : Int), .int .i64 G, .int .i64 uj]] (Sort.grow (redrawn w d) os) fun e w'' => e = .returned (.int .i64 y) ∧ ∃ p : Regrown, w'' = Sort.grow (redrawn w p.d) p.os) :=
    Lib.hid fun d os => Calls.regrown_of (F2 _)
  have HLE := Lib.hid hLE
  have HLN := Lib.hid hLN
  clear F1 F2 a0 a1 a2 b0 b1 b2 hLE hLN
  go_enter Tryz.func122, Tryz.ntmps122
  go_wp2_with fail
  refine wp_region_quiet_below (by kernel_rfl) (by kernel_rfl) ?_
  quiet_step (fail)
  quiet_step (fail)
  quiet_step (fail)
  quiet_step (fail)
  quiet_step ((go_at_call 126; exact K1.out _ _))
  repeat quiet_step (fail)
  quiet_step ((go_at_call 126; exact K2.out _ _))
  repeat quiet_step (fail)
  refine wpQuiet_nil ?_
  intro _ hw'
  obtain ⟨⟨dq, osq⟩, hw''⟩ := hw'
  subst hw''
  have HBX := Lib.hid (below_regrown w dq osq)
  have d0 := q0 dq osq
  have d1 := r0 dq osq
  clear K1 K2 q0 q1 q2 r0 r1 r2
  generalize Sort.grow (redrawn w dq) osq = w6 at *
  by_cases hxy : x = y
  · have HZ := Lib.hid (HLE.out hxy)
    have hd : decide (x = y) = true := decide_eq_true hxy
    have hdn : (x == y) = true := beq_iff_eq.2 hxy
    clear hxy
    go_wp2_with fail
    go_quiet (fail)
    go_wp2_with fail
    go_ret
    exact ⟨by rw [HZ.out]; rfl, Below.drewN HBX.out _⟩
  · have HZ := Lib.hid (HLN.out hxy)
    have hd : decide (x = y) = false := decide_eq_false hxy
    have hdn : (x == y) = false := beq_eq_false_iff_ne.2 hxy
    go_wp2_with fail
    go_ret
    exact ⟨by rw [HZ.out]; rfl, HBX.out⟩
theorem own_drew14 {w : World} {B n size : Nat} {e : TypeId} {v : Value} {xs : List Value} (h : w.ownsRow B e size v n xs) : w.drew.ownsRow B e size v n xs := h
/-- Two coefficients change places. -/
theorem swap_any (B g cap n : Nat) (G : Int) (l : List (Nat × Int)) (d : Nat × Int) (i j : Nat) (w : World) (hi : i < l.length) (hj : j < l.length)
    (ho : w.ownsRow B 93 3 (.slice (some ⟨g, 0, none⟩) n cap) n (qV G l)) :
    Calls Tryz.prog 125 #[.slice (some ⟨g, 0, none⟩) n cap, .int .i64 (i : Int), .int .i64 (j : Int)] w fun e w' => e = .returned (.tuple #[]) ∧ w'.ownsRow B 93 3 (.slice (some ⟨g, 0, none⟩) n cap) n (qV G (swq d l i j)) ∧ Only g w w' := by
  have hln : n = l.length := by
    have := ho.1
    rw [qV_len] at this
    omega
  have fz := ho.frozenAt
  have HO := Lib.hid ho
  obtain ⟨a0, a1, a2⟩ := own_c3 ho d i hi
  obtain ⟨b0, b1, b2⟩ := own_c3 ho d j hj
  obtain ⟨⟨ai, ui⟩, hpi⟩ : ∃ p, l.getD i d = p := ⟨_, rfl⟩
  obtain ⟨⟨aj, uj⟩, hpj⟩ : ∃ p, l.getD j d = p := ⟨_, rfl⟩
  rw [hpi] at a0 a2
  rw [hpj] at b0 b2
  have HS : Hid (swq d l i j = (l.set i (aj, uj)).set j (ai, ui)) := Lib.hid (by unfold swq; rw [hpi, hpj])
  have HSX := Lib.hid (qV_set G)
  have hiI : (i : Int) < (n : Int) := by omega
  have hjI : (j : Int) < (n : Int) := by omega
  have hin : i < n := by omega
  have hjn : j < n := by omega
  have g0 := fz (i * 3)
  have g1 := fz (i * 3 + 1)
  have g2 := fz (i * 3 + 2)
  have k0 := fz (j * 3)
  have k1 := fz (j * 3 + 1)
  have k2 := fz (j * 3 + 2)
  have HOR : Hid (Only g w w.drew) := Lib.hid (Only.refl g w).drew
  have a0 : w.drew.cell? ⟨g, i * 3, none⟩ = some (.int .i64 (ai : Int)) := a0
  have a1 : w.drew.cell? ⟨g, i * 3 + 1, none⟩ = some (.int .i64 G) := a1
  have a2 : w.drew.cell? ⟨g, i * 3 + 2, none⟩ = some (.int .i64 ui) := a2
  have b0 : w.drew.cell? ⟨g, j * 3, none⟩ = some (.int .i64 (aj : Int)) := b0
  have b1 : w.drew.cell? ⟨g, j * 3 + 1, none⟩ = some (.int .i64 G) := b1
  have b2 : w.drew.cell? ⟨g, j * 3 + 2, none⟩ = some (.int .i64 uj) := b2
  clear hpi hpj ho hln fz hi hj
  by_cases hij : i = j
  · subst hij
    have HS : Hid (swq d l i i = l.set i (ai, ui)) := Lib.hid (by rw [HS.out, List.set_set])
    have e1 : aj = ai := by have h1 := a0; rw [b0] at h1; simp only [Option.some.injEq, Value.int.injEq, true_and] at h1; omega
    have e2 : uj = ui := by have h1 := a2; rw [b2] at h1; simpa using h1
    subst e1 e2
    clear b0 b1 b2 k0 k1 k2 hjI hjn
    go_enter Tryz.func125, Tryz.ntmps125
    go_region
    go_end0
    refine ⟨rfl, ?_, (((((((Only.refl g w).setCell _ _ _).setCell _ _ _).setCell _ _ _).setCell _ _ _).setCell _ _ _).setCell _ _ _).drew⟩
    have h6 := ((((((HO.out.stored (i * 3) (.int .i64 (aj : Int))).1.stored (i * 3 + 1) (.int .i64 G)).1.stored (i * 3 + 2) (.int .i64 uj)).1.stored (i * 3) (.int .i64 (aj : Int))).1.stored (i * 3 + 1) (.int .i64 G)).1.stored (i * 3 + 2) (.int .i64 uj)).1
    rw [HSX.out (aj, uj), HSX.out (aj, uj), List.set_set] at h6
    rw [HS.out]
    exact own_drew14 h6
  · have hij3 : i * 3 ≠ j * 3 := by omega
    go_enter Tryz.func125, Tryz.ntmps125
    go_region
    go_end0
    refine ⟨rfl, ?_, (((((((Only.refl g w).setCell _ _ _).setCell _ _ _).setCell _ _ _).setCell _ _ _).setCell _ _ _).setCell _ _ _).drew⟩
    have h6 := ((((((HO.out.stored (i * 3) (.int .i64 (aj : Int))).1.stored (i * 3 + 1) (.int .i64 G)).1.stored (i * 3 + 2) (.int .i64 uj)).1.stored (j * 3) (.int .i64 (ai : Int))).1.stored (j * 3 + 1) (.int .i64 G)).1.stored (j * 3 + 2) (.int .i64 ui)).1
    rw [HSX.out (aj, uj), HSX.out (ai, ui)] at h6
    rw [HS.out]
    exact own_drew14 h6
end Go.Proofs.YtalbcimnnihmnaaGreat

/- container/heap's down, up, Init, over any value with methods: what they do to the list that it stands for. Conditions: its methods Len, Less and Swap do to the list what they say. -/
namespace Go.Proofs.YtalbcimnnihmnaaGreat
open Go.RowKit
open M
/-- What is asked of a value's methods: Less and Swap, of a list that lies in a world. -/
structure HM {α : Type} (lt : α → α → Bool) (d : α) (T : TypeId) (rv : Value) (gn gl gs : Nat) (St : List α → World → Prop) : Prop where
  en : ∀ args w, (callFunc gn args).run Tryz.prog w = .ok (.enter gn args) w
  el : ∀ args w, (callFunc gl args).run Tryz.prog w = .ok (.enter gl args) w
  es : ∀ args w, (callFunc gs args).run Tryz.prog w = .ok (.enter gs args) w
  len : ∀ l w, St l w → ∃ v, (method (Tryz.prog.types.size + Made.depth) T rv "Len").run Tryz.prog w = .ok (gn, v) w ∧ Calls Tryz.prog gn #[v] w fun e w' => e = .returned (.int .i64 (l.length : Int)) ∧ St l w'
  less : ∀ l w i j, St l w → i < l.length → j < l.length → ∃ v, (method (Tryz.prog.types.size + Made.depth) T rv "Less").run Tryz.prog w = .ok (gl, v) w ∧ Calls Tryz.prog gl #[v, .int .i64 (i : Int), .int .i64 (j : Int)] w fun e w' => e = .returned (.bool (lt (l.getD i d) (l.getD j d))) ∧ St l w'
  swap : ∀ l w i j, St l w → i < l.length → j < l.length → ∃ v, (method (Tryz.prog.types.size + Made.depth) T rv "Swap").run Tryz.prog w = .ok (gs, v) w ∧ Calls Tryz.prog gs #[v, .int .i64 (i : Int), .int .i64 (j : Int)] w fun e w' => e = .returned (.tuple #[]) ∧ St (swq d l i j) w'
/-- What down leaves: the list sifted down; false, if that is as it was. -/
def DnP {α : Type} (lt : α → α → Bool) (d : α) (n : Nat) (l : List α) (i : Nat) (St : List α → World → Prop) (e : Ending) (w' : World) : Prop :=
  ∃ b, e = .returned (.bool b) ∧ St (hdn lt d n n l i) w' ∧ (b = false → hdn lt d n n l i = l)
set_option maxRecDepth 100000 in
set_option maxHeartbeats 1000000 in
theorem down_any {α : Type} (lt : α → α → Bool) (d : α) (T : TypeId) (rv : Value) (gn gl gs : Nat) (St : List α → World → Prop) (H : HM lt d T rv gn gl gs St) (l : List α) (i n : Nat) (w : World) (hs : St l w) (hn : n ≤ l.length) (hl : l.length ≤ 1000000) (hi : i ≤ 1000000) :
    Calls Tryz.prog 87 #[.iface T rv, .int .i64 (i : Int), .int .i64 (n : Int)] w fun e w' => DnP lt d n l i St e w' := by
  have HS := Lib.hid hs
  have HH := Lib.hid H
  have eL := H.el
  have eS := H.es
  have hlI : (l.length : Int) ≤ 1000000 := by omega
  have hnI : (n : Int) ≤ 1000000 := by omega
  have hiI : (i : Int) ≤ 1000000 := by omega
  have HLN := Lib.hid hn
  clear hs H hn hl hi
  go_enter Tryz.func87, Tryz.ntmps87
  go_wp2
  go_loopw [7] (fun jj wr => ∃ (j f : Nat) (m : List α), jj = .int .i64 j ∧ hdn lt d n f m j = hdn lt d n n l i ∧ St m wr ∧ m.length = l.length ∧ n ≤ j + f ∧ i ≤ j ∧ j ≤ 1000000 ∧ (j = i → m = l)) (fun jj _ => n - (intOf jj).toNat)
  case atStart => exact ⟨i, n, l, rfl, rfl, HS.out, rfl, by omega, Nat.le_refl _, by omega, fun _ => rfl⟩
  case round =>
    clear HS
    obtain ⟨j, f, m, rfl, hd, hst, hml, hnf, hij, hjb, hji⟩ := hrel
    have hjI : (j : Int) ≤ 1000000 := by omega
    have HD := Lib.hid hd
    have HST := Lib.hid hst
    have HML := Lib.hid hml
    have HNF := Lib.hid hnf
    have HIJ := Lib.hid hij
    have HJI := Lib.hid hji
    clear hd hst hml hnf hij hji hjb
    rcases Nat.lt_or_ge (2 * j + 1) n with hlt | hge
    · obtain ⟨f, rfl⟩ : ∃ f', f = f' + 1 := ⟨f - 1, by have := HNF.out; omega⟩
      obtain ⟨j1, hj1⟩ : ∃ j1, j1 = 2 * j + 1 := ⟨_, rfl⟩
      obtain ⟨j2, hj2⟩ : ∃ j2, j2 = 2 * j + 2 := ⟨_, rfl⟩
      have e1 : 2 * (j : Int) + 1 = (j1 : Int) := by omega
      have e2 : (j1 : Int) + 1 = (j2 : Int) := by omega
      have hltI : (j1 : Int) < (n : Int) := by omega
      have HJ1 := Lib.hid hj1
      have HJ2 := Lib.hid hj2
      have HLCH : Hid (lch lt d m j n = if j2 < n ∧ lt (m.getD j2 d) (m.getD j1 d) = true then j2 else j1) := Lib.hid (by rw [hj1, hj2]; rfl)
      have HB : Hid (2 * j + 1 < n) := Lib.hid hlt
      by_cases h2 : j2 < n
      · have h2I : (j2 : Int) < (n : Int) := by omega
        obtain ⟨v1, m1, c1⟩ := HH.out.less m wr j2 j1 HST.out (by have := HML.out; have := HLN.out; omega) (by have := HML.out; have := HLN.out; omega)
        simp [go_sem, Made.depth] at m1
        have C1 := Lib.hid c1
        clear c1 hj1 hj2 hlt
        cases hc : lt (m.getD j2 d) (m.getD j1 d)
        · rw [hc] at C1
          have HLC := Lib.hid (show lch lt d m j n = j1 by rw [HLCH.out, hc]; exact if_neg (by simp))
          clear hc h2
          go_wp2_with fail
          refine C1.out.mono ?_
          rintro e w7 ⟨rfl, hst⟩
          have HST2 := Lib.hid hst
          have HC : Hid (2 * j + 1 < n ∧ j < j1 ∧ j1 < n) := Lib.hid (by have := HB.out; have := HJ1.out; omega)
          clear hst C1 m1 HLCH HST HJ1 HJ2 HB
          obtain ⟨v2, m2, c2⟩ := HH.out.less m w7 j1 j HST2.out (by have := HML.out; have := HLN.out; have := HC.out; omega) (by have := HML.out; have := HLN.out; have := HC.out; omega)
          simp [go_sem, Made.depth] at m2
          have C2 := Lib.hid c2
          clear c2
          cases hb : lt (m.getD j1 d) (m.getD j d)
          · rw [hb] at C2
            have HDN : Hid (hdn lt d n (f + 1) m j = m) := Lib.hid (by unfold hdn; rw [if_neg (by have := HC.out; omega), HLC.out, hb]; rfl)
            clear hb
            go_wp2_with fail
            refine C2.out.mono ?_
            rintro e w8 ⟨rfl, hst⟩
            have HST3 := Lib.hid hst
            clear hst C2
            go_wp2_with fail
            go_ret
            exact ⟨decide (i < j), by (first | rfl | (congr 2; simp)), by rw [← HD.out, HDN.out]; exact HST3.out, fun h => by
              have h1 := of_decide_eq_false h
              rw [← HD.out, HDN.out]
              exact HJI.out (by have := HIJ.out; omega)⟩
          · rw [hb] at C2
            have HDN : Hid (hdn lt d n (f + 1) m j = hdn lt d n f (swq d m j j1) j1) := Lib.hid (by
              conv => lhs; unfold hdn
              rw [if_neg (by have := HC.out; omega), HLC.out, hb]; rfl)
            clear hb
            go_wp2_with fail
            refine C2.out.mono ?_
            rintro e w8 ⟨rfl, hst⟩
            obtain ⟨v3, m3, c3⟩ := HH.out.swap m w8 j j1 hst (by have := HML.out; have := HLN.out; have := HC.out; omega) (by have := HML.out; have := HLN.out; have := HC.out; omega)
            simp [go_sem, Made.depth] at m3
            have C3 := Lib.hid c3
            clear c3 hst C2 m2
            go_wp2_with fail
            refine C3.out.mono ?_
            rintro e w9 ⟨rfl, hst⟩
            have HST3 := Lib.hid hst
            clear hst C3 m3
            go_wp2_with fail
            go_roundw
            case rel => exact ⟨j1, f, swq d m j j1, rfl, by rw [← HDN.out, HD.out], HST3.out, by rw [swq_len, HML.out], by have := HNF.out; have := HC.out; omega, by have := HIJ.out; have := HC.out; omega, by have := HC.out; have := HLN.out; omega, fun h => by have := HIJ.out; have := HC.out; omega⟩
            case measure =>
              have := HC.out
              simp only [intOf, Int.toNat_natCast]
              omega
        · rw [hc] at C1
          have HLC := Lib.hid (show lch lt d m j n = j2 by rw [HLCH.out, hc]; exact if_pos ⟨h2, rfl⟩)
          clear hc
          go_wp2_with fail
          refine C1.out.mono ?_
          rintro e w7 ⟨rfl, hst⟩
          have HST2 := Lib.hid hst
          have HC : Hid (2 * j + 1 < n ∧ j < j2 ∧ j2 < n) := Lib.hid (by have := HB.out; have := HJ2.out; omega)
          clear hst C1 m1 HLCH HST HJ1 HJ2 HB h2
          obtain ⟨v2, m2, c2⟩ := HH.out.less m w7 j2 j HST2.out (by have := HML.out; have := HLN.out; have := HC.out; omega) (by have := HML.out; have := HLN.out; have := HC.out; omega)
          simp [go_sem, Made.depth] at m2
          have C2 := Lib.hid c2
          clear c2
          cases hb : lt (m.getD j2 d) (m.getD j d)
          · rw [hb] at C2
            have HDN : Hid (hdn lt d n (f + 1) m j = m) := Lib.hid (by unfold hdn; rw [if_neg (by have := HC.out; omega), HLC.out, hb]; rfl)
            clear hb
            go_wp2_with fail
            refine C2.out.mono ?_
            rintro e w8 ⟨rfl, hst⟩
            have HST3 := Lib.hid hst
            clear hst C2
            go_wp2_with fail
            go_ret
            exact ⟨decide (i < j), by (first | rfl | (congr 2; simp)), by rw [← HD.out, HDN.out]; exact HST3.out, fun h => by
              have h1 := of_decide_eq_false h
              rw [← HD.out, HDN.out]
              exact HJI.out (by have := HIJ.out; omega)⟩
          · rw [hb] at C2
            have HDN : Hid (hdn lt d n (f + 1) m j = hdn lt d n f (swq d m j j2) j2) := Lib.hid (by
              conv => lhs; unfold hdn
              rw [if_neg (by have := HC.out; omega), HLC.out, hb]; rfl)
            clear hb
            go_wp2_with fail
            refine C2.out.mono ?_
            rintro e w8 ⟨rfl, hst⟩
            obtain ⟨v3, m3, c3⟩ := HH.out.swap m w8 j j2 hst (by have := HML.out; have := HLN.out; have := HC.out; omega) (by have := HML.out; have := HLN.out; have := HC.out; omega)
            simp [go_sem, Made.depth] at m3
            have C3 := Lib.hid c3
            clear c3 hst C2 m2
            go_wp2_with fail
            refine C3.out.mono ?_
            rintro e w9 ⟨rfl, hst⟩
            have HST3 := Lib.hid hst
            clear hst C3 m3
            go_wp2_with fail
            go_roundw
            case rel => exact ⟨j2, f, swq d m j j2, rfl, by rw [← HDN.out, HD.out], HST3.out, by rw [swq_len, HML.out], by have := HNF.out; have := HC.out; omega, by have := HIJ.out; have := HC.out; omega, by have := HC.out; have := HLN.out; omega, fun h => by have := HIJ.out; have := HC.out; omega⟩
            case measure =>
              have := HC.out
              simp only [intOf, Int.toNat_natCast]
              omega
      · have HLC := Lib.hid (show lch lt d m j n = j1 by rw [HLCH.out]; exact if_neg (fun h => h2 h.1))
        have h2I : ¬ (j2 : Int) < (n : Int) := by omega
        have HC : Hid (2 * j + 1 < n ∧ j < j1 ∧ j1 < n) := Lib.hid (by omega)
        have HST2 := HST
        clear hj1 hj2 hlt HLCH HST HJ1 HJ2 HB h2
        obtain ⟨v2, m2, c2⟩ := HH.out.less m wr j1 j HST2.out (by have := HML.out; have := HLN.out; have := HC.out; omega) (by have := HML.out; have := HLN.out; have := HC.out; omega)
        simp [go_sem, Made.depth] at m2
        have C2 := Lib.hid c2
        clear c2
        cases hb : lt (m.getD j1 d) (m.getD j d)
        · rw [hb] at C2
          have HDN : Hid (hdn lt d n (f + 1) m j = m) := Lib.hid (by unfold hdn; rw [if_neg (by have := HC.out; omega), HLC.out, hb]; rfl)
          clear hb
          go_wp2_with fail
          refine C2.out.mono ?_
          rintro e w8 ⟨rfl, hst⟩
          have HST3 := Lib.hid hst
          clear hst C2
          go_wp2_with fail
          go_ret
          exact ⟨decide (i < j), by (first | rfl | (congr 2; simp)), by rw [← HD.out, HDN.out]; exact HST3.out, fun h => by
            have h1 := of_decide_eq_false h
            rw [← HD.out, HDN.out]
            exact HJI.out (by have := HIJ.out; omega)⟩
        · rw [hb] at C2
          have HDN : Hid (hdn lt d n (f + 1) m j = hdn lt d n f (swq d m j j1) j1) := Lib.hid (by
            conv => lhs; unfold hdn
            rw [if_neg (by have := HC.out; omega), HLC.out, hb]; rfl)
          clear hb
          go_wp2_with fail
          refine C2.out.mono ?_
          rintro e w8 ⟨rfl, hst⟩
          obtain ⟨v3, m3, c3⟩ := HH.out.swap m w8 j j1 hst (by have := HML.out; have := HLN.out; have := HC.out; omega) (by have := HML.out; have := HLN.out; have := HC.out; omega)
          simp [go_sem, Made.depth] at m3
          have C3 := Lib.hid c3
          clear c3 hst C2 m2
          go_wp2_with fail
          refine C3.out.mono ?_
          rintro e w9 ⟨rfl, hst⟩
          have HST3 := Lib.hid hst
          clear hst C3 m3
          go_wp2_with fail
          go_roundw
          case rel => exact ⟨j1, f, swq d m j j1, rfl, by rw [← HDN.out, HD.out], HST3.out, by rw [swq_len, HML.out], by have := HNF.out; have := HC.out; omega, by have := HIJ.out; have := HC.out; omega, by have := HC.out; have := HLN.out; omega, fun h => by have := HIJ.out; have := HC.out; omega⟩
          case measure =>
            have := HC.out
            simp only [intOf, Int.toNat_natCast]
            omega
    · have hgeI : ¬ 2 * (j : Int) + 1 < (n : Int) := by omega
      have HDN : Hid (hdn lt d n f m j = m) := Lib.hid (by
        cases f with
        | zero => rfl
        | succ f => unfold hdn; rw [if_pos hge])
      clear hge
      go_wp2_with fail
      go_ret
      exact ⟨decide (i < j), by (first | rfl | (congr 2; simp)), by rw [← HD.out, HDN.out]; exact HST.out, fun h => by
        have h1 := of_decide_eq_false h
        rw [← HD.out, HDN.out]
        exact HJI.out (by have := HIJ.out; omega)⟩
end Go.Proofs.YtalbcimnnihmnaaGreat
