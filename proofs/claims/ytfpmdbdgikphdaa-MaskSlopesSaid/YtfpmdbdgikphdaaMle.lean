/-
  mask's Moves and May. Conditions: eight ints, four ints each.
-/
import Derived.Test.YtfpmdbdgikphdaaMlb
import Derived.Test.YtfpmdbdgikphdaaMld
import Derived.Lib.QuietBelow
import Derived.BigQuiet
import Derived.Deep.RegionHeld3
import Derived.Deep.WholeRow
import Derived.OrdersHeld
namespace Go.Proofs.Ytfpmdbdgikphdaa
open Go.RowKit
open M
theorem pls_info : (Try.prog.info? 42).map (fun i => (i.zero, i.size)) = some (some (.agg (iCells [0, 0, 0, 0])), 4) := by kernel_rfl
theorem pls_size (l : List Int) (h : l.length = 4) : (Try.prog.info? 42).map (·.size) = some (iCells l).size := by
  rw [iCells_size, h]; exact (zero_of_info pls_info).2
set_option maxRecDepth 100000 in
set_option maxHeartbeats 1000000 in
theorem moves17_any (l : List Int) (b : Int) (w : World) (hl : l.length = 8) :
    Calls Try.prog 11 #[.agg (iCells l), .int .i64 b] w fun e w' => e = .returned (.int .i64 (mvI l b)) ∧ Below w.heap.size w w' := by
  have HL := Lib.hid hl
  have HSZ := Lib.hid (sds_size l hl)
  have HHB := Lib.hid fun w => hasbudget_any l b w hl
  have HBU := Lib.hid fun w => budget17_any l b w hl
  have HR : Hid (Row (w.alloc (.cells (iCells l) 24)) w.heap.size 24 (iCells l)) := heap_alloc_new _ _
  have HB : Hid (Below w.heap.size w (w.alloc (.cells (iCells l) 24))) := (Below.refl _ _).alloc (Nat.le_refl _) _
  have HNO := Lib.hid (mvI_no l b)
  have HYES := Lib.hid (hb17_iff l b)
  obtain ⟨R, hR⟩ : ∃ R, mvI l b = R := ⟨_, rfl⟩
  have HIS : Hid (∀ (n : Nat), b = (n : Int) → rt17 l = true → n < 8 → bdI l b = (bud (fun j => (l.getD j 0).toNat) n : Nat) ∧ R = (bud (fun j => (l.getD j 0).toNat) n / 2 ^ (l.getD n 0).toNat : Nat)) := Lib.hid fun n hb h1 h2 => by
    rw [← hR, hb]
    unfold bdI mvI
    rw [if_pos ⟨h1, by omega, by omega⟩, if_pos ⟨h1, by omega, by omega⟩, Int.toNat_natCast]
    exact ⟨rfl, rfl⟩
  rw [hR] at HNO ⊢
  clear hl hR
  obtain ⟨g, hg⟩ : ∃ g, w.heap.size = g := ⟨_, rfl⟩
  rw [hg] at HR HB ⊢
  generalize hw1 : w.alloc (.cells (iCells l) 24) = w1 at *
  go_enter Try.func11, Try.ntmps11
  go_wp2_with (refine wpList_load_row rfl 24 (.tmp 2) rfl g rfl 24 (iCells l) (0, 0) _ HR.out Try.underlying24 rfl HSZ.out ?_)
  refine (HHB.out _).mono ?_
  rintro e w2 ⟨rfl, hb2⟩
  have HR2 := Lib.hid (Row.box HR.out hb2)
  have HB2 := Lib.hid (HB.out.trans (hb2.mono (Nat.le_of_lt (Row.lt HR.out))))
  clear HR HB hb2 HHB
  cases hq : hb17 l b
  · have HZ := Lib.hid (HNO.out hq)
    clear hq HNO HYES HIS
    go_wp2_with fail
    go_ret
    exact ⟨by rw [HZ.out]; rfl, HB2.out⟩
  · obtain ⟨hrt, hb1, hb8⟩ := HYES.out.1 hq
    obtain ⟨n, hbn⟩ : ∃ n : Nat, b = (n : Int) := ⟨b.toNat, by omega⟩
    have hn : n < 8 := by omega
    obtain ⟨hbd, hRR⟩ := HIS.out n hbn hrt hn
    rw [hbd] at HBU
    subst hbn
    have hsb := (rt_iff l).1 hrt n hn
    obtain ⟨s, hs⟩ : ∃ s : Nat, l.getD n 0 = (s : Int) := ⟨(l.getD n 0).toNat, by omega⟩
    have hW := bud_lt (fun j => (l.getD j 0).toNat) n fun j hj => by
      have := (rt_iff l).1 hrt j hj
      show (l.getD j 0).toNat ≤ 15
      omega
    obtain ⟨W, hWd⟩ : ∃ W, bud (fun j => (l.getD j 0).toNat) n = W := ⟨_, rfl⟩
    rw [hs, Int.toNat_natCast] at hRR
    rw [hWd] at HBU hW hRR
    obtain ⟨d, hd⟩ : ∃ d, W / 2 ^ s = d := ⟨_, rfl⟩
    rw [hd] at hRR
    have HRR := Lib.hid hRR
    have HDD : Hid ((W : Int) / 2 ^ s = (d : Int)) := Lib.hid (by rw [← hd]; push_cast; rfl)
    have hsI : (s : Int) ≤ 15 := by omega
    have hs0 : (0 : Int) ≤ (s : Int) := by omega
    have hnI : (n : Int) < 8 := by omega
    have hWI : (W : Int) ≤ 131072 := by omega
    have HN8 := Lib.hid hn
    clear hq HNO HYES HIS hrt hb1 hb8 hsb hW hWd hd hRR hbd hn
    have CR : Hid (∀ W : World, (∃ p : Regrown, W = Sort.grow (redrawn w2 p.d) p.os) → W.heap[g]? = some (.cells (iCells l) 24 (0, 0))) := by
      rintro W ⟨p, rfl⟩
      exact HR2.out.below (below_regrown w2 p.d p.os) HR2.out.lt
    have K2 : Hid (∀ d os, Calls Try.prog 9 #[.agg (iCells l), .int .i64 (n : Int)] (Sort.grow (redrawn w2 d) os) fun e w'' => e = .returned (.int .i64 (W : Int)) ∧ ∃ p : Regrown, w'' = Sort.grow (redrawn w2 p.d) p.os) :=
      Lib.hid fun d os => Calls.regrown_of (HBU.out _)
    have c0 := cell_regrown (i_at HR2.out n (by rw [HL.out]; exact HN8.out))
    rw [hs] at c0
    clear hs HBU
    go_wp2_with fail
    refine wp_region_quiet_below (by kernel_rfl) (by kernel_rfl) ?_
    go_big_quiet_want
    refine q_load_row 24 (.tmp 2) rfl g rfl 24 (iCells l) (0, 0) _ CR.out Try.underlying24 rfl HSZ.out ?_
    go_big_quiet_on
    simp only [Act.put, List.setIfInBounds_toArray, List.set_cons_zero, List.set_cons_succ]
    go_big_quiet_step (fail)
    go_big_quiet_step ((go_at_call 9; exact K2.out _ _))
    repeat go_big_quiet_step (fail)
    refine wpQuiet_nil ?_
    intro _ hw'
    obtain ⟨⟨dq, osq⟩, hw''⟩ := hw'
    subst hw''
    have HBX := Lib.hid (HB2.out.trans ((below_regrown w2 dq osq).mono (Nat.le_of_lt (Row.lt HR2.out))))
    clear K2 CR c0
    generalize Sort.grow (redrawn w2 dq) osq = w7 at *
    go_wp2_with fail
    go_ret
    exact ⟨by rw [HRR.out]; show Ending.returned (Value.int IntKind.i64 _) = _; rw [HDD.out], HBX.out⟩
/-- A product is no more: as a number is no more than a quotient. -/
theorem le_div17 (f s W : Nat) : f ≤ W / 2 ^ s ↔ f * 2 ^ s ≤ W := Nat.le_div_iff_mul_le (Nat.two_pow_pos s)
theorem myB_no (l : List Int) (b : Int) (y z : List Int) (h : hb17 l b = false) : myB l b y z = false := by
  rw [myB, decide_eq_false_iff_not]
  rintro ⟨h1, h2, _⟩
  rw [(hb17_iff l b).2 ⟨h1, h2.1, h2.2⟩] at h
  cases h
theorem myB_neg (l : List Int) (b : Int) (y z : List Int) (h : fyI y z < 0) : myB l b y z = false := by
  rw [myB, decide_eq_false_iff_not]
  rintro ⟨_, _, h3, _⟩
  rw [fyI, if_pos h3] at h
  omega
theorem myB_is (l : List Int) (b : Int) (y z : List Int) (h : hb17 l b = true) (h2 : ¬ fyI y z < 0) : myB l b y z = decide (fyI y z ≤ mvI l b) := by
  obtain ⟨h1, h3⟩ := (hb17_iff l b).1 h
  have h4 : sm17 y = true ∧ sm17 z = true := by
    unfold fyI at h2
    by_cases c : sm17 y = true ∧ sm17 z = true
    · exact c
    · rw [if_neg c] at h2; omega
  rw [myB, fyI, if_pos h4, mvI, if_pos ⟨h1, h3.1, h3.2⟩, decide_eq_decide, ← le_div17]
  exact ⟨fun g => by have := g.2.2.2; omega, fun g => ⟨h1, h3, h4, by omega⟩⟩
set_option maxRecDepth 100000 in
set_option maxHeartbeats 1000000 in
theorem may17_any (l : List Int) (b : Int) (y z : List Int) (w : World) (hl : l.length = 8) (hy : y.length = 4) (hz : z.length = 4) :
    Calls Try.prog 13 #[.agg (iCells l), .int .i64 b, .agg (iCells y), .agg (iCells z)] w fun e w' => e = .returned (.bool (myB l b y z)) ∧ Below w.heap.size w w' := by
  have HSZ := Lib.hid (sds_size l hl)
  have HSY := Lib.hid (pls_size y hy)
  have HSZ4 := Lib.hid (pls_size z hz)
  have HFA := Lib.hid fun w => far17_any y z w hy hz
  have HHB := Lib.hid fun w => hasbudget_any l b w hl
  have HMV := Lib.hid fun w => moves17_any l b w hl
  have HN1 := Lib.hid (myB_no l b y z)
  have HN2 := Lib.hid (myB_neg l b y z)
  have HIS := Lib.hid (myB_is l b y z)
  obtain ⟨R, hR⟩ : ∃ R, myB l b y z = R := ⟨_, rfl⟩
  obtain ⟨f, hf⟩ : ∃ f, fyI y z = f := ⟨_, rfl⟩
  obtain ⟨m, hm⟩ : ∃ m, mvI l b = m := ⟨_, rfl⟩
  rw [hR] at HN1 HN2 HIS ⊢
  rw [hf] at HFA HN2 HIS
  rw [hm] at HMV HIS
  have HA : Hid (Row (((w.alloc (.cells (iCells l) 24)).alloc (.cells (iCells y) 42)).alloc (.cells (iCells z) 42)) w.heap.size 24 (iCells l)) := Lib.hid (Row.alloc (Row.alloc (heap_alloc_new _ _) _) _)
  have HY : Hid (Row (((w.alloc (.cells (iCells l) 24)).alloc (.cells (iCells y) 42)).alloc (.cells (iCells z) 42)) (w.heap.size + 1) 42 (iCells y)) := Lib.hid (Row.alloc (row_new _ _ (by simp) _ _) _)
  have HZ : Hid (Row (((w.alloc (.cells (iCells l) 24)).alloc (.cells (iCells y) 42)).alloc (.cells (iCells z) 42)) (w.heap.size + 1 + 1) 42 (iCells z)) := Lib.hid (row_new _ _ (by simp) _ _)
  have HB : Hid (Below w.heap.size w (((w.alloc (.cells (iCells l) 24)).alloc (.cells (iCells y) 42)).alloc (.cells (iCells z) 42))) := Lib.hid ((((Below.refl _ _).alloc (Nat.le_refl _) _).alloc (by simp) _).alloc (by simp; omega) _)
  clear hl hy hz hR hf hm
  go_enter Try.func13, Try.ntmps13
  obtain ⟨g, hg⟩ : ∃ g, w.heap.size = g := ⟨_, rfl⟩
  rw [hg] at HA HY HZ HB
  have HG := Lib.hid fun _ : Unit => hg
  go_wp2_with (first
    | (refine wpList_load_row rfl 42 (.tmp 6) rfl (g + 1) rfl 42 (iCells y) (0, 0) _ HY.out Try.underlying42 rfl HSY.out ?_)
    | (refine wpList_load_row rfl 42 (.tmp 7) rfl (g + 1 + 1) rfl 42 (iCells z) (0, 0) _ HZ.out Try.underlying42 rfl HSZ4.out ?_))
  generalize ((w.alloc (.cells (iCells l) 24)).alloc (.cells (iCells y) 42)).alloc (.cells (iCells z) 42) = w1 at *
  refine (HFA.out _).mono ?_
  rintro e w2 ⟨rfl, hb2⟩
  have HA2 := Lib.hid (Row.box HA.out hb2)
  have HB2 := Lib.hid (HB.out.trans (hb2.mono (Nat.le_of_lt (Row.lt HA.out))))
  clear HA HY HZ HB HFA hb2 HSY HSZ4
  go_wp2_with (refine wpList_load_row rfl 24 (.tmp 4) rfl g rfl 24 (iCells l) (0, 0) _ HA2.out Try.underlying24 rfl HSZ.out ?_)
  refine (HHB.out _).mono ?_
  rintro e w3 ⟨rfl, hb3⟩
  have HA3 := Lib.hid (Row.box HA2.out hb3)
  have HB3 := Lib.hid (HB2.out.trans (hb3.mono (Nat.le_of_lt (Row.lt HA2.out))))
  clear HA2 HB2 HHB hb3
  cases hq : hb17 l b
  · have HZ := Lib.hid (HN1.out hq)
    clear hq HN1 HN2 HIS
    go_wp2_with fail
    go_ret
    exact ⟨by rw [HZ.out]; rfl, by first | exact HB3.out | (rw [HG.out ()]; exact HB3.out)⟩
  · by_cases hf : f < 0
    · have HZ := Lib.hid (HN2.out hf)
      have hf2 : ¬ f ≥ 0 := by omega
      clear hq HN1 HN2 HIS
      go_wp2_with fail
      go_ret
      exact ⟨by rw [HZ.out]; rfl, by first | exact HB3.out | (rw [HG.out ()]; exact HB3.out)⟩
    · have HZ := Lib.hid (HIS.out hq (by omega))
      have hf2 : f ≥ 0 := by omega
      clear hq HN1 HN2 HIS
      go_wp2_with (refine g_load_row (by rfl) 24 (.tmp 4) rfl g rfl 24 (iCells l) (0, 0) _ HA3.out Try.underlying24 rfl HSZ.out ?_)
      refine (HMV.out _).mono ?_
      rintro e w4 ⟨rfl, hb4⟩
      have HB4 := Lib.hid (HB3.out.trans (hb4.mono (Nat.le_of_lt (Row.lt HA3.out))))
      clear HA3 HB3 HMV hb4
      go_wp2_with fail
      go_ret
      exact ⟨by rw [HZ.out]; rfl, by first | exact HB4.out | (rw [HG.out ()]; exact HB4.out)⟩
end Go.Proofs.Ytfpmdbdgikphdaa
