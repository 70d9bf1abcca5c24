/-
  Layer 19: pack's Right. Conditions: a shape's forty numbers; what give's Pulses and Bits answer.
-/
import Derived.Test.YtalbcimnnihmnaaGreatQWka
import Derived.Test.YtalbcimnnihmnaaGreatQS14
import Derived.Test.YtalbcimnnihmnaaGreatQS21
import Derived.Test.YtalbcimnnihmnaaGreatQS11
import Derived.Lib.QuietBelow
import Derived.OrdersHeld
import Derived.Deep.RegionHeld
namespace Go.Proofs.YtalbcimnnihmnaaGreat
open Go.RowKit
open M
/-- A part of a row is read, in every world that has what was there. -/
theorem yieldsPto {ops : Array Oper} {op : Oper} {a : Act} {W0 : World} (hw : Region.wanted op (yielded ops a.tmps) = true) (ty : TypeId) (y : Operand) (ho : op.op = .load ty y)
    (g o n : Nat) (hx : a.eval y = .pointer (some ⟨g, o, none⟩)) (t : TypeId) (x : List Int) (d : TypeDesc) (hr : Row W0 g t (iCells x)) (hb : o + n ≤ x.length) (hu : Tryz.prog.underlying ty = some d) (hd : d.isRow = true)
    (hi : (Tryz.prog.info? ty).map (·.size) = some n) : YieldsIf Tryz.prog ops (fun w' => Below W0.heap.size W0 w') op (.agg (iCells (pto x o n))) a :=
  .inl ⟨hw, fun w hw' => by
    unfold execOp
    simp only [ho, hx, Instr.loadAt, Instr.sureAddr, Sem.run_bind, Sem.run_pure, Result.andThen_ok, run_loadVar_mid w g _ ty _ d (pto_range (hr.below hw' hr.lt) o n hb) hu hd (by rw [iL_size, pto_len]; exact hi)]⟩
theorem pu_both (y : List Int) (h : y.length = 4) : pu13 y = pu19 y := by
  have h8 : y.length ≤ 8 := by omega
  unfold pu13
  rw [if_pos h8]
  by_cases hf : fw19 y = true
  · unfold pu19
    rw [if_pos hf]
  · have hx : ¬ ∀ j, j < 4 → -12 ≤ y.getD j 0 ∧ y.getD j 0 ≤ 12 := fun e => hf ((fw_iff y).2 e)
    have hy : pu19 y = 13 := by unfold pu19; rw [if_neg hf]
    rw [hy]
    by_cases hp : pl13 y ≤ 12
    · exact absurd (fun j _ => by have := pl_few19 y j; omega) hx
    · omega
theorem bands_sys (l : List Int) (b : Nat) (hb : b < 8) : pto (pto l 8 32) (b * 4) 4 = sys l b := by
  refine Eq.symm (tm_ext _ 4 _ (pto_len _ _ _) fun i hi => ?_)
  unfold sys
  rw [pto_getD _ _ _ _ hi, pto_getD _ _ _ _ (by omega)]
  congr 1
  omega
theorem rg_has (l : List Int) (z : Int) (h1 : 12 ≤ z ∧ z ≤ 24) (h2 : rt17 (sds l) = true) : hs19 (pto l 8 32) (kl18 (gk19 l (8 * z - 64).toNat)) = rg19 l z := by
  unfold hs19 rg19
  rw [decide_eq_true h1, h2, Bool.true_and, Bool.true_and, Bool.eq_iff_iff, List.all_eq_true, List.all_eq_true]
  constructor
  · intro h b hb
    have := of_decide_eq_true (h b hb)
    have hb8 := List.mem_range.1 hb
    rw [bands_sys l b hb8, pu_both (sys l b) (pto_len _ _ _), kl18_at _ b hb8] at this
    exact decide_eq_true (by omega)
  · intro h b hb
    have := of_decide_eq_true (h b hb)
    have hb8 := List.mem_range.1 hb
    refine decide_eq_true ?_
    rw [bands_sys l b hb8, pu_both (sys l b) (pto_len _ _ _), kl18_at _ b hb8, this]
theorem kl_pu (l : List Int) (z : Int) (h1 : 12 ≤ z ∧ z ≤ 24) (h2 : rt17 (sds l) = true) : puI (sds l) (8 * z - 64) = kl18 (gk19 l (8 * z - 64).toNat) ∧ puE (sds l) (8 * z - 64) = 0 := by
  have h : ok18 (sds l) (8 * z - 64) := ⟨h2, by omega, by omega⟩
  unfold puI puE
  rw [if_pos h, if_pos h]
  exact ⟨rfl, rfl⟩
theorem kl_no (l : List Int) (n : Int) (h2 : rt17 (sds l) = false) : puE (sds l) n = 1 := by
  have h : ¬ ok18 (sds l) n := fun e => by rw [e.1] at h2; cases h2
  unfold puE
  rw [if_neg h]
theorem side_sz : (Tryz.prog.info? 25).map (·.size) = some 8 := by kernel_rfl
theorem bds_sz : (Tryz.prog.info? 28).map (·.size) = some 32 := by kernel_rfl
set_option maxRecDepth 100000 in
set_option maxHeartbeats 2000000 in
theorem rigOk (HP : PulOk) (HBz : BizOk) : RigOk := by
  intro l z w hl
  have HIZ := Lib.hid fun w => isize_any z w
  have HR : Hid (Row (w.alloc (.cells (iCells l) 30)) w.heap.size 30 (iCells l)) := Lib.hid (heap_alloc_new _ _)
  have HB : Hid (Below w.heap.size w (w.alloc (.cells (iCells l) 30))) := Lib.hid ((Below.refl _ _).alloc (Nat.le_refl _) _)
  have hz := i8_zero
  by_cases hsz : 12 ≤ z ∧ z ≤ 24
  · have h0 : decide (12 ≤ z ∧ z ≤ 24) = true := decide_eq_true hsz
    rw [h0] at HIZ
    have HBZ : Hid (∀ w, Calls Tryz.prog 11 #[.int .i64 z] w fun e w' => e = .returned (.int .i64 (8 * z - 64)) ∧ Below w.heap.size w w') := Lib.hid fun w => by
      have h := HBz z w
      unfold bz18 at h
      rw [if_pos hsz] at h
      exact h
    have HPU := Lib.hid fun w => HP (sds l) (8 * z - 64) w (pto_len _ _ _)
    have HKL := Lib.hid (puI_len (sds l) (8 * z - 64))
    have HE : Hid (rt17 (sds l) = false ∧ puE (sds l) (8 * z - 64) = 1 ∧ rg19 l z = false ∨ puE (sds l) (8 * z - 64) = 0 ∧ hs19 (pto l 8 32) (puI (sds l) (8 * z - 64)) = rg19 l z) := by
      cases hr : rt17 (sds l) with
      | false => exact Or.inl ⟨rfl, kl_no l _ hr, rg_steps l z hr⟩
      | true =>
        obtain ⟨e1, e2⟩ := kl_pu l z hsz hr
        exact Or.inr ⟨e2, by rw [e1]; exact rg_has l z hsz hr⟩
    have HAS := Lib.hid fun w => has_any (pto l 8 32) (puI (sds l) (8 * z - 64)) w (pto_len _ _ _) HKL.out
    generalize puI (sds l) (8 * z - 64) = Kl at *
    generalize hRR : rg19 l z = R at *
    generalize puE (sds l) (8 * z - 64) = E at *
    obtain ⟨y, hy⟩ : ∃ y, 8 * z - 64 = y := ⟨_, rfl⟩
    rw [hy] at HBZ HPU
    unfold sds at HPU
    have HL := Lib.hid hl
    have HSK := Lib.hid (i8_size Kl HKL.out)
    have HSS := Lib.hid (sds_same zs8 Kl zs8_length HKL.out)
    clear hy h0 hsz hl HP HBz hRR
    go_enter Tryz.func6, Tryz.ntmps6
    go_wp2_with fail
    refine (HIZ.out _).mono ?_
    rintro e w1 ⟨rfl, rfl⟩
    go_upto_region 3 with fail
    obtain ⟨n0, hn0⟩ : ∃ n0, w.heap.size = n0 := ⟨_, rfl⟩
    have HN0 := Lib.hid fun _ : Unit => hn0
    rw [hn0] at HR HB ⊢
    clear hn0
    generalize w.alloc (.cells (iCells l) 30) = w2 at *
    go_cut [5, 6] from 10 (fun s5 s6 W => ∃ ga : Nat, s5 = .pointer (some ⟨ga, 0, none⟩) ∧ s6 = .int .i64 E ∧ Row W ga 24 (iCells Kl) ∧ Row W n0 30 (iCells l) ∧ Below n0 w W)
    case first =>
      refine wp_region_held_drew (S := fun w' => Below w2.heap.size w2 w') (by kernel_rfl) ?_ (fun hHeld => ?_)
      · exact below_drew1 (Below.refl _ _)
      generalize w2.drew = w3 at hHeld ⊢
      refine wpAnyH_take (i := 0) (oi := _) (v := ?_) rfl (by kernel_rfl) (by kernel_rfl) (by kernel_rfl) (fun _ _ _ h => h) (Or.inl ⟨by rfl, ?_⟩) hHeld ?_
      rotate_left
      · (intro w hSw; (try dsimp only at hSw); first | (go_simp; done) | (go_simp; with_reducible rfl))
      (try simp only [List.getElem_toArray, List.getElem_cons_zero, Act.put, List.setIfInBounds_toArray, List.set_cons_zero, List.set_cons_succ])
      refine wpAnyH_take (i := 1) (oi := _) rfl (by kernel_rfl) (by kernel_rfl) (by kernel_rfl) (fun _ _ _ h => h) (yieldsPto (by rfl) 25 (.tmp 11) rfl n0 0 8 rfl 30 l _ HR.out (by have := HL.out; omega) Tryz.underlying25 rfl side_sz) hHeld ?_
      (try simp only [List.getElem_toArray, List.getElem_cons_succ, List.getElem_cons_zero, Act.put, List.setIfInBounds_toArray, List.set_cons_zero, List.set_cons_succ])
      refine wpAnyH_take (i := 2) (oi := _) (v := ?_) rfl (by kernel_rfl) (by kernel_rfl) (by kernel_rfl) (fun _ _ _ h => h) (Or.inl ⟨by rfl, ?_⟩) hHeld ?_
      rotate_left
      · (intro w hSw; (try dsimp only at hSw); first | (go_simp; done) | (go_simp; with_reducible rfl))
      (try simp only [List.getElem_toArray, List.getElem_cons_succ, List.getElem_cons_zero, Act.put, List.setIfInBounds_toArray, List.set_cons_zero, List.set_cons_succ])
      refine wpAnyH_ready (rs := [3, 8]) (by kernel_rfl) (by simp) ?_
      refine (AllReadyH.cons (o := _) rfl (fun K hK => ?_) (AllReadyH.cons (o := _) rfl (fun K hK => ?_) AllReadyH.nil))
      · go_simp
        refine (HBZ.out _).mono ?_
        rintro e w20 ⟨rfl, hb⟩
        go_wp2_with fail
        have hN := hHeld.trans (hb.mono hHeld.size)
        clear hHeld hb
        refine hK.out _ _ hN (fun hHeld => ?_)
        clear hN hK K
        (try simp only [List.getElem_toArray, List.getElem_cons_succ, List.getElem_cons_zero, Act.put, List.setIfInBounds_toArray, List.set_cons_zero, List.set_cons_succ])
        refine wpAnyH_ready (rs := [4, 8]) (by kernel_rfl) (by simp) ?_
        refine (AllReadyH.cons (o := _) rfl (fun K hK => ?_) (AllReadyH.cons (o := _) rfl (fun K hK => ?_) AllReadyH.nil))
        · go_simp
          refine (HPU.out _).mono ?_
          rintro e w21 ⟨rfl, hb⟩
          go_wp2_with fail
          have hN := hHeld.trans (hb.mono hHeld.size)
          clear hHeld hb
          refine hK.out _ _ hN (fun hHeld => ?_)
          clear hN hK K
          (try simp only [List.getElem_toArray, List.getElem_cons_succ, List.getElem_cons_zero, Act.put, List.setIfInBounds_toArray, List.set_cons_zero, List.set_cons_succ])
          refine wpAnyH_take (i := 5) (oi := _) (v := ?_) rfl (by kernel_rfl) (by kernel_rfl) (by kernel_rfl) (fun _ _ _ h => h) (Or.inl ⟨by rfl, ?_⟩) hHeld ?_
          rotate_left
          · (intro w hSw; (try dsimp only at hSw); first | (go_simp; done) | (go_simp; with_reducible rfl))
          (try simp only [List.getElem_toArray, List.getElem_cons_succ, List.getElem_cons_zero, Act.put, List.setIfInBounds_toArray, List.set_cons_zero, List.set_cons_succ])
          refine wpAnyH_take (i := 6) (oi := _) (v := ?_) rfl (by kernel_rfl) (by kernel_rfl) (by kernel_rfl) (fun _ _ _ h => h) (Or.inl ⟨by rfl, ?_⟩) hHeld ?_
          rotate_left
          · (intro w hSw; (try dsimp only at hSw); first | (go_simp; done) | (go_simp; with_reducible rfl))
          (try simp only [List.getElem_toArray, List.getElem_cons_succ, List.getElem_cons_zero, Act.put, List.setIfInBounds_toArray, List.set_cons_zero, List.set_cons_succ])
          refine wpAnyH_take (i := 7) (oi := _) (v := ?_) rfl (by kernel_rfl) (by kernel_rfl) (by kernel_rfl) (fun _ _ _ h => h) (Or.inl ⟨by rfl, ?_⟩) hHeld ?_
          rotate_left
          · (intro w hSw; (try dsimp only at hSw); first | (go_simp; done) | (go_simp; with_reducible rfl))
          (try simp only [List.getElem_toArray, List.getElem_cons_succ, List.getElem_cons_zero, Act.put, List.setIfInBounds_toArray, List.set_cons_zero, List.set_cons_succ])
          refine wpAnyH_ready (rs := [8]) (by kernel_rfl) (by simp) ?_
          refine (AllReadyH.cons (o := _) rfl (fun K hK => ?_) AllReadyH.nil)
          go_simp
          have hHeld0 := hHeld
          refine hK.out _ _ (hHeld.alloc hHeld.size _) (fun hHeld => ?_)
          clear hK K
          obtain ⟨gac, hgac⟩ : ∃ g, w21.heap.size = g := ⟨_, rfl⟩
          have hgec : w2.heap.size ≤ gac := by rw [← hgac]; exact hHeld0.size
          have HAc : Hid (Row (w21.alloc (.cells (iCells zs8) 24)) gac 24 (iCells zs8)) := row_new _ _ hgac _ _
          rw [hgac]
          generalize w21.alloc (.cells (iCells zs8) 24) = w22 at hHeld HAc ⊢
          clear hgac hHeld0
          (try simp only [List.getElem_toArray, List.getElem_cons_succ, List.getElem_cons_zero, Act.put, List.setIfInBounds_toArray, List.set_cons_zero, List.set_cons_succ])
          refine wpAnyH_ready (rs := [9]) (by kernel_rfl) (by simp) ?_
          refine (AllReadyH.cons (o := _) rfl (fun K hK => ?_) AllReadyH.nil)
          refine wp_store_row 24 (.tmp 5) (.tmp 16) rfl gac (iCells Kl) rfl rfl 24 (iCells zs8) HAc.out HSK.out HSS.out (iCells_one _) ?_
          refine hK.out _ _ (below_setRow hHeld hgec _) (fun hHeld => ?_)
          clear hK K
          have HAc := Lib.hid (Row.setRow HAc.out (iCells Kl))
          generalize w22.setRow gac (iCells Kl) = w23 at hHeld HAc ⊢
          (try simp only [List.getElem_toArray, List.getElem_cons_succ, List.getElem_cons_zero, Act.put])
          refine wpAnyH_take (i := 10) (oi := _) (v := ?_) rfl (by kernel_rfl) (by kernel_rfl) (by kernel_rfl) (fun _ _ _ h => h) (Or.inl ⟨by rfl, ?_⟩) hHeld ?_
          rotate_left
          · (intro w hSw; (try dsimp only at hSw); first | (go_simp; done) | (go_simp; with_reducible rfl))
          (try simp only [List.getElem_toArray, List.getElem_cons_succ, List.getElem_cons_zero, Act.put, List.setIfInBounds_toArray, List.set_cons_zero, List.set_cons_succ])
          refine wpAnyH_done (by kernel_rfl) ?_ _
          go_wp2_with fail
          go_meet
          case rel => exact ⟨gac, rfl, rfl, HAc.out, HR.out.below hHeld HR.out.lt, HB.out.trans (hHeld.mono (by have := HB.out.size; rw [HN0.out ()] at this; exact this))⟩
        · go_simp
          have hHeld0 := hHeld
          refine hK.out _ _ (hHeld.alloc hHeld.size _) (fun hHeld => ?_)
          clear hK K
          obtain ⟨gac, hgac⟩ : ∃ g, w20.heap.size = g := ⟨_, rfl⟩
          have hgec : w2.heap.size ≤ gac := by rw [← hgac]; exact hHeld0.size
          have HAc : Hid (Row (w20.alloc (.cells (iCells zs8) 24)) gac 24 (iCells zs8)) := row_new _ _ hgac _ _
          rw [hgac]
          generalize w20.alloc (.cells (iCells zs8) 24) = w24 at hHeld HAc ⊢
          clear hgac hHeld0
          (try simp only [List.getElem_toArray, List.getElem_cons_succ, List.getElem_cons_zero, Act.put, List.setIfInBounds_toArray, List.set_cons_zero, List.set_cons_succ])
          refine wpAnyH_ready (rs := [4]) (by kernel_rfl) (by simp) ?_
          refine (AllReadyH.cons (o := _) rfl (fun K hK => ?_) AllReadyH.nil)
          go_simp
          refine (HPU.out _).mono ?_
          rintro e w25 ⟨rfl, hb⟩
          go_wp2_with fail
          have hN := hHeld.trans (hb.mono hHeld.size)
          have HAc := Lib.hid (Row.box HAc.out hb)
          clear hHeld hb
          refine hK.out _ _ hN (fun hHeld => ?_)
          clear hN hK K
          (try simp only [List.getElem_toArray, List.getElem_cons_succ, List.getElem_cons_zero, Act.put, List.setIfInBounds_toArray, List.set_cons_zero, List.set_cons_succ])
          refine wpAnyH_take (i := 5) (oi := _) (v := ?_) rfl (by kernel_rfl) (by kernel_rfl) (by kernel_rfl) (fun _ _ _ h => h) (Or.inl ⟨by rfl, ?_⟩) hHeld ?_
          rotate_left
          · (intro w hSw; (try dsimp only at hSw); first | (go_simp; done) | (go_simp; with_reducible rfl))
          (try simp only [List.getElem_toArray, List.getElem_cons_succ, List.getElem_cons_zero, Act.put, List.setIfInBounds_toArray, List.set_cons_zero, List.set_cons_succ])
          refine wpAnyH_take (i := 6) (oi := _) (v := ?_) rfl (by kernel_rfl) (by kernel_rfl) (by kernel_rfl) (fun _ _ _ h => h) (Or.inl ⟨by rfl, ?_⟩) hHeld ?_
          rotate_left
          · (intro w hSw; (try dsimp only at hSw); first | (go_simp; done) | (go_simp; with_reducible rfl))
          (try simp only [List.getElem_toArray, List.getElem_cons_succ, List.getElem_cons_zero, Act.put, List.setIfInBounds_toArray, List.set_cons_zero, List.set_cons_succ])
          refine wpAnyH_take (i := 7) (oi := _) (v := ?_) rfl (by kernel_rfl) (by kernel_rfl) (by kernel_rfl) (fun _ _ _ h => h) (Or.inl ⟨by rfl, ?_⟩) hHeld ?_
          rotate_left
          · (intro w hSw; (try dsimp only at hSw); first | (go_simp; done) | (go_simp; with_reducible rfl))
          (try simp only [List.getElem_toArray, List.getElem_cons_succ, List.getElem_cons_zero, Act.put, List.setIfInBounds_toArray, List.set_cons_zero, List.set_cons_succ])
          refine wpAnyH_ready (rs := [9]) (by kernel_rfl) (by simp) ?_
          refine (AllReadyH.cons (o := _) rfl (fun K hK => ?_) AllReadyH.nil)
          refine wp_store_row 24 (.tmp 5) (.tmp 16) rfl gac (iCells Kl) rfl rfl 24 (iCells zs8) HAc.out HSK.out HSS.out (iCells_one _) ?_
          refine hK.out _ _ (below_setRow hHeld hgec _) (fun hHeld => ?_)
          clear hK K
          have HAc := Lib.hid (Row.setRow HAc.out (iCells Kl))
          generalize w25.setRow gac (iCells Kl) = w26 at hHeld HAc ⊢
          (try simp only [List.getElem_toArray, List.getElem_cons_succ, List.getElem_cons_zero, Act.put])
          refine wpAnyH_take (i := 10) (oi := _) (v := ?_) rfl (by kernel_rfl) (by kernel_rfl) (by kernel_rfl) (fun _ _ _ h => h) (Or.inl ⟨by rfl, ?_⟩) hHeld ?_
          rotate_left
          · (intro w hSw; (try dsimp only at hSw); first | (go_simp; done) | (go_simp; with_reducible rfl))
          (try simp only [List.getElem_toArray, List.getElem_cons_succ, List.getElem_cons_zero, Act.put, List.setIfInBounds_toArray, List.set_cons_zero, List.set_cons_succ])
          refine wpAnyH_done (by kernel_rfl) ?_ _
          go_wp2_with fail
          go_meet
          case rel => exact ⟨gac, rfl, rfl, HAc.out, HR.out.below hHeld HR.out.lt, HB.out.trans (hHeld.mono (by have := HB.out.size; rw [HN0.out ()] at this; exact this))⟩
      · go_simp
        have hHeld0 := hHeld
        refine hK.out _ _ (hHeld.alloc hHeld.size _) (fun hHeld => ?_)
        clear hK K
        obtain ⟨gac, hgac⟩ : ∃ g, w3.heap.size = g := ⟨_, rfl⟩
        have hgec : w2.heap.size ≤ gac := by rw [← hgac]; exact hHeld0.size
        have HAc : Hid (Row (w3.alloc (.cells (iCells zs8) 24)) gac 24 (iCells zs8)) := row_new _ _ hgac _ _
        rw [hgac]
        generalize w3.alloc (.cells (iCells zs8) 24) = w27 at hHeld HAc ⊢
        clear hgac hHeld0
        (try simp only [List.getElem_toArray, List.getElem_cons_succ, List.getElem_cons_zero, Act.put, List.setIfInBounds_toArray, List.set_cons_zero, List.set_cons_succ])
        refine wpAnyH_ready (rs := [3]) (by kernel_rfl) (by simp) ?_
        refine (AllReadyH.cons (o := _) rfl (fun K hK => ?_) AllReadyH.nil)
        go_simp
        refine (HBZ.out _).mono ?_
        rintro e w28 ⟨rfl, hb⟩
        go_wp2_with fail
        have hN := hHeld.trans (hb.mono hHeld.size)
        have HAc := Lib.hid (Row.box HAc.out hb)
        clear hHeld hb
        refine hK.out _ _ hN (fun hHeld => ?_)
        clear hN hK K
        (try simp only [List.getElem_toArray, List.getElem_cons_succ, List.getElem_cons_zero, Act.put, List.setIfInBounds_toArray, List.set_cons_zero, List.set_cons_succ])
        refine wpAnyH_ready (rs := [4]) (by kernel_rfl) (by simp) ?_
        refine (AllReadyH.cons (o := _) rfl (fun K hK => ?_) AllReadyH.nil)
        go_simp
        refine (HPU.out _).mono ?_
        rintro e w29 ⟨rfl, hb⟩
        go_wp2_with fail
        have hN := hHeld.trans (hb.mono hHeld.size)
        have HAc := Lib.hid (Row.box HAc.out hb)
        clear hHeld hb
        refine hK.out _ _ hN (fun hHeld => ?_)
        clear hN hK K
        (try simp only [List.getElem_toArray, List.getElem_cons_succ, List.getElem_cons_zero, Act.put, List.setIfInBounds_toArray, List.set_cons_zero, List.set_cons_succ])
        refine wpAnyH_take (i := 5) (oi := _) (v := ?_) rfl (by kernel_rfl) (by kernel_rfl) (by kernel_rfl) (fun _ _ _ h => h) (Or.inl ⟨by rfl, ?_⟩) hHeld ?_
        rotate_left
        · (intro w hSw; (try dsimp only at hSw); first | (go_simp; done) | (go_simp; with_reducible rfl))
        (try simp only [List.getElem_toArray, List.getElem_cons_succ, List.getElem_cons_zero, Act.put, List.setIfInBounds_toArray, List.set_cons_zero, List.set_cons_succ])
        refine wpAnyH_take (i := 6) (oi := _) (v := ?_) rfl (by kernel_rfl) (by kernel_rfl) (by kernel_rfl) (fun _ _ _ h => h) (Or.inl ⟨by rfl, ?_⟩) hHeld ?_
        rotate_left
        · (intro w hSw; (try dsimp only at hSw); first | (go_simp; done) | (go_simp; with_reducible rfl))
        (try simp only [List.getElem_toArray, List.getElem_cons_succ, List.getElem_cons_zero, Act.put, List.setIfInBounds_toArray, List.set_cons_zero, List.set_cons_succ])
        refine wpAnyH_take (i := 7) (oi := _) (v := ?_) rfl (by kernel_rfl) (by kernel_rfl) (by kernel_rfl) (fun _ _ _ h => h) (Or.inl ⟨by rfl, ?_⟩) hHeld ?_
        rotate_left
        · (intro w hSw; (try dsimp only at hSw); first | (go_simp; done) | (go_simp; with_reducible rfl))
        (try simp only [List.getElem_toArray, List.getElem_cons_succ, List.getElem_cons_zero, Act.put, List.setIfInBounds_toArray, List.set_cons_zero, List.set_cons_succ])
        refine wpAnyH_ready (rs := [9]) (by kernel_rfl) (by simp) ?_
        refine (AllReadyH.cons (o := _) rfl (fun K hK => ?_) AllReadyH.nil)
        refine wp_store_row 24 (.tmp 5) (.tmp 16) rfl gac (iCells Kl) rfl rfl 24 (iCells zs8) HAc.out HSK.out HSS.out (iCells_one _) ?_
        refine hK.out _ _ (below_setRow hHeld hgec _) (fun hHeld => ?_)
        clear hK K
        have HAc := Lib.hid (Row.setRow HAc.out (iCells Kl))
        generalize w29.setRow gac (iCells Kl) = w30 at hHeld HAc ⊢
        (try simp only [List.getElem_toArray, List.getElem_cons_succ, List.getElem_cons_zero, Act.put])
        refine wpAnyH_take (i := 10) (oi := _) (v := ?_) rfl (by kernel_rfl) (by kernel_rfl) (by kernel_rfl) (fun _ _ _ h => h) (Or.inl ⟨by rfl, ?_⟩) hHeld ?_
        rotate_left
        · (intro w hSw; (try dsimp only at hSw); first | (go_simp; done) | (go_simp; with_reducible rfl))
        (try simp only [List.getElem_toArray, List.getElem_cons_succ, List.getElem_cons_zero, Act.put, List.setIfInBounds_toArray, List.set_cons_zero, List.set_cons_succ])
        refine wpAnyH_done (by kernel_rfl) ?_ _
        go_wp2_with fail
        go_meet
        case rel => exact ⟨gac, rfl, rfl, HAc.out, HR.out.below hHeld HR.out.lt, HB.out.trans (hHeld.mono (by have := HB.out.size; rw [HN0.out ()] at this; exact this))⟩
    case rest =>
      obtain ⟨ga, rfl, rfl, hra, hrl, hbl⟩ := hcut
      have RA := Lib.hid hra
      have RL := Lib.hid hrl
      have HB := Lib.hid hbl
      clear hra hrl hbl HR HBZ HPU hz HIZ
      generalize wc = w5 at *
      rcases HE.out with ⟨_, rfl, hfalse⟩ | ⟨rfl, hval⟩
      · clear HAS HE
        subst hfalse
        go_wp2_with fail
        go_ret
        exact ⟨rfl, by rw [HN0.out ()]; exact HB.out⟩
      · rw [hval] at HAS
        clear HE hval
        go_wp2_with (first
          | (refine g_load_pto (by rfl) 28 (.tmp 21) rfl n0 8 32 rfl 30 l _ RL.out (by have := HL.out; omega) Tryz.underlying28 rfl bds_sz ?_)
          | (refine g_load_row (by rfl) 24 (.tmp 5) rfl ga rfl 24 (iCells Kl) (0, 0) _ RA.out Tryz.underlying24 rfl HSK.out ?_))
        refine (HAS.out _).mono ?_
        rintro e w6 ⟨rfl, hb⟩
        have HB := Lib.hid (HB.out.trans (hb.mono (by have := HB.out.size; rw [HN0.out ()] at this; exact this)))
        clear hb HAS RA RL
        go_wp2_with fail
        go_ret
        exact ⟨rfl, by rw [HN0.out ()]; exact HB.out⟩
  · have h0 : decide (12 ≤ z ∧ z ≤ 24) = false := decide_eq_false hsz
    have hR := rg_size l z hsz
    rw [h0] at HIZ
    rw [hR]
    clear h0 hR hsz HP HBz HR hl
    go_enter Tryz.func6, Tryz.ntmps6
    go_wp2_with fail
    refine (HIZ.out _).mono ?_
    rintro e w1 ⟨rfl, rfl⟩
    go_wp2_with fail
    go_ret
    exact ⟨rfl, HB.out⟩
end Go.Proofs.YtalbcimnnihmnaaGreat
