/-
  Layer 19: pack's Read. Conditions: texts of up to 200 bytes; what give's Pulses and Bits and pvq's Bits answer.
-/
import Derived.Test.YtalbcimnnihmnaaGreatQS27
import Derived.Test.YtalbcimnnihmnaaGreatQS28
import Derived.Test.YtalbcimnnihmnaaGreatQS14
import Derived.Test.YtalbcimnnihmnaaGreatQS29
namespace Go.Proofs.YtalbcimnnihmnaaGreat
open Go.RowKit
open M
theorem pkt_built : Tryz.prog.built 38 [] = some (iCells zp41) := by kernel_rfl
set_option maxRecDepth 100000 in
set_option maxHeartbeats 4000000 in
theorem redOk (HP : PulOk) (HBz : BizOk) (HV : BvOk) : RedOk := by
  intro s w hs
  have hz := pkt_zero
  have hpb := pkt_built
  have HIZ := Lib.hid fun w => isize_any (s.size : Int) w
  have HOP := Lib.hid fun w => open_any15 s w (by omega)
  have HR0 : Hid (Row (w.alloc (.cells (iCells zp41) 38)) w.heap.size 38 (iCells zp41)) := Lib.hid (heap_alloc_new _ _)
  have HB : Hid (Below w.heap.size w (w.alloc (.cells (iCells zp41) 38))) := Lib.hid ((Below.refl _ _).alloc (Nat.le_refl _) _)
  have HSP := Lib.hid (pkt_size zp41 zp41_length)
  have hsI : (s.size : Int) ≤ 200 := by omega
  by_cases hsz : 12 ≤ s.size ∧ s.size ≤ 24
  · have hszI : 12 ≤ (s.size : Int) ∧ (s.size : Int) ≤ 24 := by omega
    rw [decide_eq_true hszI] at HIZ
    cases hso : so19 s with
    | false =>
      obtain ⟨e1, e2⟩ := e19_sum s hsz hso
      rw [e1, e2]
      have hoe := (open_so s hsz.1).2 hso
      rw [hoe] at HOP
      clear hszI hsz hso hoe e1 e2 hs
      go_enter Tryz.func8, Tryz.ntmps8
      go_upto_region 1 with fail
      generalize w.alloc (.cells (iCells zp41) 38) = w1 at *
      obtain ⟨n0, hn0⟩ : ∃ n0, w.heap.size = n0 := ⟨_, rfl⟩
      have HN0 := Lib.hid fun _ : Unit => hn0
      rw [hn0] at HR0 HB ⊢
      clear hn0 hz
      go_wp2_with fail
      refine (HIZ.out _).mono ?_
      rintro e w2 ⟨rfl, rfl⟩
      go_wp2_with fail
      refine (HOP.out _).mono ?_
      rintro e w3 ⟨rfl, hb⟩
      have HR0 := Lib.hid (HR0.out.box hb)
      have HB := Lib.hid (HB.out.trans (hb.mono (by have := HB.out.size; rw [HN0.out ()] at this; exact this)))
      clear hb
      go_wp2_with (first
        | (refine wpList_store_row rfl 38 (.tmp 2) (.tmp 26) rfl n0 (iCells zp41) rfl rfl 38 (iCells zp41) HR0.out HSP.out rfl (iCells_one _) ?_)
        | (refine bodyPost_ret (v := .tuple #[.agg (iCells zp41), .int .i64 4]) (results_row_tmp Tryz.results8 _ _ n0 38 (iCells zp41) (0, 0) _ rfl (Row.setRow HR0.out _) Tryz.underlying38 rfl HSP.out) rfl ⟨rfl, ?_⟩))
      all_goals exact (by rw [HN0.out ()]; exact below_setRow (g := n0) HB.out (Nat.le_refl _) _)
    | true =>
      have hoe := (open_so s hsz.1).1 hso
      rw [hoe.1] at HOP
      obtain ⟨B, hB⟩ : ∃ B, opT s = B := ⟨_, rfl⟩
      rw [hB] at HOP hoe
      have HBL := Lib.hid hoe.2
      have hBS : B.size = s.size - 2 := by
        rw [← bl_length, hoe.2]
        unfold bd19
        rw [List.length_take, bl_length]
        omega
      have HBS := Lib.hid hBS
      have HPS := Lib.hid fun b => ps_le s b hsz.1
      have HPU := Lib.hid fun w => HP (sdp (bd19 s) 8) (8 * (s.size : Int) - 64) w (sdp_len _ _)
      obtain ⟨hp1, hp2⟩ := pu_read s hsz
      rw [hp1, hp2] at HPU
      have HBZ : Hid (∀ w, Calls Tryz.prog 11 #[.int .i64 (s.size : Int)] w fun e w' => e = .returned (.int .i64 (8 * (s.size : Int) - 64)) ∧ Below w.heap.size w w') := Lib.hid fun w => by
        have h := HBz (s.size : Int) w
        unfold bz18 at h
        rw [if_pos hszI] at h
        exact h
      obtain ⟨y, hy⟩ : ∃ y, 8 * (s.size : Int) - 64 = y := ⟨_, rfl⟩
      rw [hy] at HBZ HPU
      have HHD := Lib.hid fun g w (h : Rdr w g B 0) => head_any B g w (by rw [hBS]; omega) (by rw [hBS]; omega) h
      rw [hoe.2, head_fr] at HHD
      have HSD := Lib.hid (sdp_len (bd19 s) 8)
      have HPUT := Lib.hid (shN_zero s)
      have HSDS := Lib.hid (show (Tryz.prog.info? 25).map (·.size) = some (sdp (bd19 s) 8).length by rw [sdp_len]; exact side_sz)
      have HSI := Lib.hid (show pto ((fr19 s : Int) :: shN s 0) 1 8 = sdp (bd19 s) 8 by
        rw [← shN_zero s]
        have h := pto_ppu_same (zp41.set 0 (fr19 s : Int)) 1 (sdp (bd19 s) 8) (by rw [sdp_len]; simp [zp41])
        rw [sdp_len] at h
        exact h)
      have HSO := Lib.hid hso
      have HSZ := Lib.hid hsz
      have HFR0 := Lib.hid (shN_len s)
      have HKL := Lib.hid (kl18_len (kp19 s))
      have HSK := Lib.hid (i8_size (kl18 (kp19 s)) HKL.out)
      have HSS := Lib.hid (sds_same zs8 (kl18 (kp19 s)) zs8_length HKL.out)
      have hz2 := i8_zero
      obtain ⟨D, hD⟩ : ∃ D, sdp (bd19 s) 8 = D := ⟨_, rfl⟩
      rw [hD] at HHD HSD HPUT HSDS HSI HPU
      obtain ⟨F, hF⟩ : ∃ F, fr19 s = F := ⟨_, rfl⟩
      rw [hF] at HHD HPUT HSI
      have HFF := Lib.hid hF
      clear hszI hsz hso hoe hs hB hBS hp1 hp2 hy hD hF HP HBz
      go_enter Tryz.func8, Tryz.ntmps8
      go_upto_region 1 with fail
      generalize w.alloc (.cells (iCells zp41) 38) = w1 at *
      obtain ⟨n0, hn0⟩ : ∃ n0, w.heap.size = n0 := ⟨_, rfl⟩
      have HN0 := Lib.hid fun _ : Unit => hn0
      rw [hn0] at HR0 HB ⊢
      clear hn0
      go_wp2_with fail
      refine (HIZ.out _).mono ?_
      rintro e w2 ⟨rfl, rfl⟩
      go_wp2_with fail
      refine (HOP.out _).mono ?_
      rintro e w3 ⟨rfl, hb⟩
      have HR0 := Lib.hid (HR0.out.box hb)
      have HB := Lib.hid (HB.out.trans (hb.mono (by have := HB.out.size; rw [HN0.out ()] at this; exact this)))
      clear hb HIZ HOP
      go_wp2_with fail
      refine (new_any B _).mono ?_
      rintro e w4 ⟨rfl, hb, hr⟩
      have HGL : Hid (n0 < w3.heap.size) := Lib.hid HR0.out.lt
      obtain ⟨g, hg⟩ : ∃ g, w3.heap.size = g := ⟨_, rfl⟩
      have HR0 := Lib.hid (HR0.out.box hb)
      have HB := Lib.hid (HB.out.trans (hb.mono (by have := HB.out.size; rw [HN0.out ()] at this; exact this)))
      have HRD := Lib.hid hr
      rw [hg] at HRD HGL ⊢
      clear hb hr hg
      obtain ⟨gp, hgp⟩ : ∃ gp, w4.heap.size = gp := ⟨_, rfl⟩
      have HGP : Hid (g < gp) := Lib.hid (by have := Row.lt HRD.out; omega)
      have HRP : Hid (Row (w4.alloc (.cells (iCells zp41) 38)) gp 38 (iCells zp41)) := Lib.hid (row_new _ _ hgp _ _)
      go_upto_region 8 with (refine wpList_store_row rfl 38 (.tmp 7) (.tmp 30) rfl gp (iCells zp41) rfl rfl 38 (iCells zp41) HRP.out HSP.out rfl (iCells_one _) ?_)
      have HBY : Below w4.heap.size w4 ((w4.alloc (.cells (iCells zp41) 38)).setRow gp (iCells zp41)) := below_setRow ((Below.refl _ _).alloc (Nat.le_refl _) _) (by omega) _
      have HRP := Lib.hid (Row.setRow HRP.out (iCells zp41))
      have HR0 := Lib.hid (HR0.out.box HBY)
      have HRD := Lib.hid (HRD.out.more HBY)
      have HB := Lib.hid (HB.out.trans (HBY.mono (by have := HB.out.size; rw [HN0.out ()] at this; exact this)))
      clear HBY hgp
      generalize (w4.alloc (.cells (iCells zp41) 38)).setRow gp (iCells zp41) = w5 at *
      simp only [Act.put]
      go_wp2_with fail
      refine (HHD.out g _ HRD.out).mono ?_
      rintro e w6 ⟨rfl, hr, hm⟩
      have HRD := Lib.hid hr
      have HR0 := Lib.hid (hm.apart HR0.out (by have := HGL.out; omega))
      have HRP := Lib.hid (hm.apart HRP.out (by have := HGP.out; omega))
      have HB := Lib.hid (HB.out.trans (hm.below (B := n0) (by have := HGL.out; omega) (fun k hk => by simp [Value.ownBlock] at hk) (by have := HB.out.size; rw [HN0.out ()] at this; exact this)))
      clear hr hm HHD
      have c0 := i_at HRP.out 0 (by rw [zp41_length]; decide)
      have f0 := HRP.out.free 0
      have HRS : Hid (Row (w6.setCell ⟨gp, 0, none⟩ (.int .i64 (F : Int))) gp 38 (iCells (zp41.set 0 (F : Int)))) := Lib.hid (by
        have h := HRP.out.set 0 (.int .i64 (F : Int))
        rw [iCells_set] at h
        exact h)
      have HL1 : Hid (1 + D.length ≤ (zp41.set 0 (F : Int)).length) := Lib.hid (by rw [HSD.out, List.length_set, zp41_length]; decide)
      go_upto_region 9 with (refine wpList_store_pto rfl 25 (.tmp 39) (.tmp 36) rfl gp 1 D rfl rfl 38 (zp41.set 0 (F : Int)) HRS.out HL1.out HSDS.out ?_)
      rw [HPUT.out]
      have HRQ := Lib.hid (Row.setRow HRS.out (iCells ((F : Int) :: shN s 0)))
      have HR0 : Hid (Row _ n0 38 (iCells zp41)) := Lib.hid ((setRow_other _ gp n0 (iCells ((F : Int) :: shN s 0)) (by have := HGL.out; have := HGP.out; omega)).trans (HR0.out.far (p := ⟨gp, 0, none⟩) (by have := HGL.out; have := HGP.out; show n0 ≠ gp; omega) (.int .i64 (F : Int))))
      have HRD : Hid (Rdr _ g B 48) := Lib.hid ((setRow_other _ gp g (iCells ((F : Int) :: shN s 0)) (by have := HGP.out; omega)).trans (Row.far HRD.out (p := ⟨gp, 0, none⟩) (by have := HGP.out; show g ≠ gp; omega) (.int .i64 (F : Int))))
      have HB := Lib.hid (below_setRow (HB.out.setCell (p := ⟨gp, 0, none⟩) (by have := HGL.out; have := HGP.out; show n0 ≤ gp; omega) (.int .i64 (F : Int))) (g := gp) (by have := HGL.out; have := HGP.out; omega) (iCells ((F : Int) :: shN s 0)))
      clear c0 f0 HRS HL1 HPUT HRP HSDS
      generalize (w6.setCell ⟨gp, 0, none⟩ (.int .i64 (F : Int))).setRow gp (iCells ((F : Int) :: shN s 0)) = w7 at *
      simp only [Act.put]
      rw [← HSI.out] at HPU
      clear HSI HSD
      have HL41 : Hid (∀ b, ((F : Int) :: shN s b).length = 41) := Lib.hid fun b => by rw [List.length_cons, HFR0.out]
      go_cut [8, 9] from 40 (fun s8 s9 W => ∃ ga : Nat, s8 = .pointer (some ⟨ga, 0, none⟩) ∧ s9 = .int .i64 0 ∧ Row W ga 24 (iCells (kl18 (kp19 s))) ∧ Rdr W g B 48 ∧ Row W n0 38 (iCells zp41) ∧ Row W gp 38 (iCells ((F : Int) :: shN s 0)) ∧ Below n0 w W)
      case first =>
        refine wp_region_held_drew (S := fun w' => Below w7.heap.size w7 w') (by kernel_rfl) ?_ (fun hHeld => ?_)
        · exact below_drew1 (Below.refl _ _)
        generalize w7.drew = w7d at hHeld ⊢
        refine wpAnyH_take (i := 0) (oi := _) (v := ?_) rfl (by kernel_rfl) (by kernel_rfl) (by kernel_rfl) (fun _ _ _ h => h) (Or.inl ⟨by rfl, ?_⟩) hHeld ?_
        rotate_left
        · (intro w hSw; (try dsimp only at hSw); first | (go_simp; done) | (go_simp; with_reducible rfl))
        (try simp only [List.getElem_toArray, List.getElem_cons_zero, Act.put, List.setIfInBounds_toArray, List.set_cons_zero, List.set_cons_succ])
        refine wpAnyH_take (i := 1) (oi := _) (v := ?_) rfl (by kernel_rfl) (by kernel_rfl) (by kernel_rfl) (fun _ _ _ h => h) (Or.inl ⟨by rfl, ?_⟩) hHeld ?_
        rotate_left
        · (intro w hSw; (try dsimp only at hSw); first | (go_simp; done) | (go_simp; with_reducible rfl))
        (try simp only [List.getElem_toArray, List.getElem_cons_succ, List.getElem_cons_zero, Act.put, List.setIfInBounds_toArray, List.set_cons_zero, List.set_cons_succ])
        refine wpAnyH_take (i := 2) (oi := _) rfl (by kernel_rfl) (by kernel_rfl) (by kernel_rfl) (fun _ _ _ h => h) (yieldsPto (by rfl) 25 (.tmp 42) rfl gp 1 8 rfl 38 ((F : Int) :: shN s 0) _ HRQ.out (by rw [HL41.out]; decide) Tryz.underlying25 rfl side_sz) hHeld ?_
        (try simp only [List.getElem_toArray, List.getElem_cons_succ, List.getElem_cons_zero, Act.put, List.setIfInBounds_toArray, List.set_cons_zero, List.set_cons_succ])
        refine wpAnyH_take (i := 3) (oi := _) (v := ?_) rfl (by kernel_rfl) (by kernel_rfl) (by kernel_rfl) (fun _ _ _ h => h) (Or.inl ⟨by rfl, ?_⟩) hHeld ?_
        rotate_left
        · (intro w hSw; (try dsimp only at hSw); first | (go_simp; done) | (go_simp; with_reducible rfl))
        (try simp only [List.getElem_toArray, List.getElem_cons_succ, List.getElem_cons_zero, Act.put, List.setIfInBounds_toArray, List.set_cons_zero, List.set_cons_succ])
        refine wpAnyH_take (i := 4) (oi := _) (v := ?_) rfl (by kernel_rfl) (by kernel_rfl) (by kernel_rfl) (fun _ _ _ h => h) (Or.inl ⟨by rfl, ?_⟩) hHeld ?_
        rotate_left
        · (intro w hSw; (try dsimp only at hSw); first | (go_simp; done) | (go_simp; with_reducible rfl))
        (try simp only [List.getElem_toArray, List.getElem_cons_succ, List.getElem_cons_zero, Act.put, List.setIfInBounds_toArray, List.set_cons_zero, List.set_cons_succ])
        refine wpAnyH_ready (rs := [5, 10]) (by kernel_rfl) (by simp) ?_
        refine (AllReadyH.cons (o := _) rfl (fun K hK => ?_) (AllReadyH.cons (o := _) rfl (fun K hK => ?_) AllReadyH.nil))
        · go_simp
          refine (HBZ.out _).mono ?_
          rintro e w20 ⟨rfl, hb⟩
          go_wp2_with fail
          have hN := hHeld.trans (hb.mono hHeld.size)
          clear hHeld hb
          refine hK.out _ _ hN (fun hHeld => ?_)
          clear hN hK K
          (try simp only [List.getElem_toArray, List.getElem_cons_succ, List.getElem_cons_zero, Act.put, List.setIfInBounds_toArray, List.set_cons_zero, List.set_cons_succ])
          refine wpAnyH_ready (rs := [6, 10]) (by kernel_rfl) (by simp) ?_
          refine (AllReadyH.cons (o := _) rfl (fun K hK => ?_) (AllReadyH.cons (o := _) rfl (fun K hK => ?_) AllReadyH.nil))
          · go_simp
            refine (HPU.out _).mono ?_
            rintro e w21 ⟨rfl, hb⟩
            go_wp2_with fail
            have hN := hHeld.trans (hb.mono hHeld.size)
            clear hHeld hb
            refine hK.out _ _ hN (fun hHeld => ?_)
            clear hN hK K
            (try simp only [List.getElem_toArray, List.getElem_cons_succ, List.getElem_cons_zero, Act.put, List.setIfInBounds_toArray, List.set_cons_zero, List.set_cons_succ])
            refine wpAnyH_take (i := 7) (oi := _) (v := ?_) rfl (by kernel_rfl) (by kernel_rfl) (by kernel_rfl) (fun _ _ _ h => h) (Or.inl ⟨by rfl, ?_⟩) hHeld ?_
            rotate_left
            · (intro w hSw; (try dsimp only at hSw); first | (go_simp; done) | (go_simp; with_reducible rfl))
            (try simp only [List.getElem_toArray, List.getElem_cons_succ, List.getElem_cons_zero, Act.put, List.setIfInBounds_toArray, List.set_cons_zero, List.set_cons_succ])
            refine wpAnyH_take (i := 8) (oi := _) (v := ?_) rfl (by kernel_rfl) (by kernel_rfl) (by kernel_rfl) (fun _ _ _ h => h) (Or.inl ⟨by rfl, ?_⟩) hHeld ?_
            rotate_left
            · (intro w hSw; (try dsimp only at hSw); first | (go_simp; done) | (go_simp; with_reducible rfl))
            (try simp only [List.getElem_toArray, List.getElem_cons_succ, List.getElem_cons_zero, Act.put, List.setIfInBounds_toArray, List.set_cons_zero, List.set_cons_succ])
            refine wpAnyH_take (i := 9) (oi := _) (v := ?_) rfl (by kernel_rfl) (by kernel_rfl) (by kernel_rfl) (fun _ _ _ h => h) (Or.inl ⟨by rfl, ?_⟩) hHeld ?_
            rotate_left
            · (intro w hSw; (try dsimp only at hSw); first | (go_simp; done) | (go_simp; with_reducible rfl))
            (try simp only [List.getElem_toArray, List.getElem_cons_succ, List.getElem_cons_zero, Act.put, List.setIfInBounds_toArray, List.set_cons_zero, List.set_cons_succ])
            refine wpAnyH_ready (rs := [10]) (by kernel_rfl) (by simp) ?_
            refine (AllReadyH.cons (o := _) rfl (fun K hK => ?_) AllReadyH.nil)
            go_simp
            have hHeld0 := hHeld
            refine hK.out _ _ (hHeld.alloc hHeld.size _) (fun hHeld => ?_)
            clear hK K
            obtain ⟨gac, hgac⟩ : ∃ g, w21.heap.size = g := ⟨_, rfl⟩
            have hgec : w7.heap.size ≤ gac := by rw [← hgac]; exact hHeld0.size
            have HAc : Hid (Row (w21.alloc (.cells (iCells zs8) 24)) gac 24 (iCells zs8)) := row_new _ _ hgac _ _
            rw [hgac]
            generalize w21.alloc (.cells (iCells zs8) 24) = w22 at hHeld HAc ⊢
            clear hgac hHeld0
            (try simp only [List.getElem_toArray, List.getElem_cons_succ, List.getElem_cons_zero, Act.put, List.setIfInBounds_toArray, List.set_cons_zero, List.set_cons_succ])
            refine wpAnyH_ready (rs := [11]) (by kernel_rfl) (by simp) ?_
            refine (AllReadyH.cons (o := _) rfl (fun K hK => ?_) AllReadyH.nil)
            refine wp_store_row 24 (.tmp 8) (.tmp 48) rfl gac (iCells (kl18 (kp19 s))) rfl rfl 24 (iCells zs8) HAc.out HSK.out HSS.out (iCells_one _) ?_
            refine hK.out _ _ (below_setRow hHeld hgec _) (fun hHeld => ?_)
            clear hK K
            have HAc := Lib.hid (Row.setRow HAc.out (iCells (kl18 (kp19 s))))
            generalize w22.setRow gac (iCells (kl18 (kp19 s))) = w23 at hHeld HAc ⊢
            (try simp only [List.getElem_toArray, List.getElem_cons_succ, List.getElem_cons_zero, Act.put])
            refine wpAnyH_take (i := 12) (oi := _) (v := ?_) rfl (by kernel_rfl) (by kernel_rfl) (by kernel_rfl) (fun _ _ _ h => h) (Or.inl ⟨by rfl, ?_⟩) hHeld ?_
            rotate_left
            · (intro w hSw; (try dsimp only at hSw); first | (go_simp; done) | (go_simp; with_reducible rfl))
            (try simp only [List.getElem_toArray, List.getElem_cons_succ, List.getElem_cons_zero, Act.put, List.setIfInBounds_toArray, List.set_cons_zero, List.set_cons_succ])
            refine wpAnyH_done (by kernel_rfl) ?_ _
            go_wp2_with fail
            go_meet
            case rel => exact ⟨gac, rfl, rfl, HAc.out, HRD.out.more hHeld, HR0.out.box hHeld, HRQ.out.box hHeld, HB.out.trans (hHeld.mono (by have := HB.out.size; rw [HN0.out ()] at this; exact this))⟩
          · go_simp
            have hHeld0 := hHeld
            refine hK.out _ _ (hHeld.alloc hHeld.size _) (fun hHeld => ?_)
            clear hK K
            obtain ⟨gac, hgac⟩ : ∃ g, w20.heap.size = g := ⟨_, rfl⟩
            have hgec : w7.heap.size ≤ gac := by rw [← hgac]; exact hHeld0.size
            have HAc : Hid (Row (w20.alloc (.cells (iCells zs8) 24)) gac 24 (iCells zs8)) := row_new _ _ hgac _ _
            rw [hgac]
            generalize w20.alloc (.cells (iCells zs8) 24) = w24 at hHeld HAc ⊢
            clear hgac hHeld0
            (try simp only [List.getElem_toArray, List.getElem_cons_succ, List.getElem_cons_zero, Act.put, List.setIfInBounds_toArray, List.set_cons_zero, List.set_cons_succ])
            refine wpAnyH_ready (rs := [6]) (by kernel_rfl) (by simp) ?_
            refine (AllReadyH.cons (o := _) rfl (fun K hK => ?_) AllReadyH.nil)
            go_simp
            refine (HPU.out _).mono ?_
            rintro e w25 ⟨rfl, hb⟩
            go_wp2_with fail
            have hN := hHeld.trans (hb.mono hHeld.size)
            have HAc := Lib.hid (Row.box HAc.out hb)
            clear hHeld hb
            refine hK.out _ _ hN (fun hHeld => ?_)
            clear hN hK K
            (try simp only [List.getElem_toArray, List.getElem_cons_succ, List.getElem_cons_zero, Act.put, List.setIfInBounds_toArray, List.set_cons_zero, List.set_cons_succ])
            refine wpAnyH_take (i := 7) (oi := _) (v := ?_) rfl (by kernel_rfl) (by kernel_rfl) (by kernel_rfl) (fun _ _ _ h => h) (Or.inl ⟨by rfl, ?_⟩) hHeld ?_
            rotate_left
            · (intro w hSw; (try dsimp only at hSw); first | (go_simp; done) | (go_simp; with_reducible rfl))
            (try simp only [List.getElem_toArray, List.getElem_cons_succ, List.getElem_cons_zero, Act.put, List.setIfInBounds_toArray, List.set_cons_zero, List.set_cons_succ])
            refine wpAnyH_take (i := 8) (oi := _) (v := ?_) rfl (by kernel_rfl) (by kernel_rfl) (by kernel_rfl) (fun _ _ _ h => h) (Or.inl ⟨by rfl, ?_⟩) hHeld ?_
            rotate_left
            · (intro w hSw; (try dsimp only at hSw); first | (go_simp; done) | (go_simp; with_reducible rfl))
            (try simp only [List.getElem_toArray, List.getElem_cons_succ, List.getElem_cons_zero, Act.put, List.setIfInBounds_toArray, List.set_cons_zero, List.set_cons_succ])
            refine wpAnyH_take (i := 9) (oi := _) (v := ?_) rfl (by kernel_rfl) (by kernel_rfl) (by kernel_rfl) (fun _ _ _ h => h) (Or.inl ⟨by rfl, ?_⟩) hHeld ?_
            rotate_left
            · (intro w hSw; (try dsimp only at hSw); first | (go_simp; done) | (go_simp; with_reducible rfl))
            (try simp only [List.getElem_toArray, List.getElem_cons_succ, List.getElem_cons_zero, Act.put, List.setIfInBounds_toArray, List.set_cons_zero, List.set_cons_succ])
            refine wpAnyH_ready (rs := [11]) (by kernel_rfl) (by simp) ?_
            refine (AllReadyH.cons (o := _) rfl (fun K hK => ?_) AllReadyH.nil)
            refine wp_store_row 24 (.tmp 8) (.tmp 48) rfl gac (iCells (kl18 (kp19 s))) rfl rfl 24 (iCells zs8) HAc.out HSK.out HSS.out (iCells_one _) ?_
            refine hK.out _ _ (below_setRow hHeld hgec _) (fun hHeld => ?_)
            clear hK K
            have HAc := Lib.hid (Row.setRow HAc.out (iCells (kl18 (kp19 s))))
            generalize w25.setRow gac (iCells (kl18 (kp19 s))) = w26 at hHeld HAc ⊢
            (try simp only [List.getElem_toArray, List.getElem_cons_succ, List.getElem_cons_zero, Act.put])
            refine wpAnyH_take (i := 12) (oi := _) (v := ?_) rfl (by kernel_rfl) (by kernel_rfl) (by kernel_rfl) (fun _ _ _ h => h) (Or.inl ⟨by rfl, ?_⟩) hHeld ?_
            rotate_left
            · (intro w hSw; (try dsimp only at hSw); first | (go_simp; done) | (go_simp; with_reducible rfl))
            (try simp only [List.getElem_toArray, List.getElem_cons_succ, List.getElem_cons_zero, Act.put, List.setIfInBounds_toArray, List.set_cons_zero, List.set_cons_succ])
            refine wpAnyH_done (by kernel_rfl) ?_ _
            go_wp2_with fail
            go_meet
            case rel => exact ⟨gac, rfl, rfl, HAc.out, HRD.out.more hHeld, HR0.out.box hHeld, HRQ.out.box hHeld, HB.out.trans (hHeld.mono (by have := HB.out.size; rw [HN0.out ()] at this; exact this))⟩
        · go_simp
          have hHeld0 := hHeld
          refine hK.out _ _ (hHeld.alloc hHeld.size _) (fun hHeld => ?_)
          clear hK K
          obtain ⟨gac, hgac⟩ : ∃ g, w7d.heap.size = g := ⟨_, rfl⟩
          have hgec : w7.heap.size ≤ gac := by rw [← hgac]; exact hHeld0.size
          have HAc : Hid (Row (w7d.alloc (.cells (iCells zs8) 24)) gac 24 (iCells zs8)) := row_new _ _ hgac _ _
          rw [hgac]
          generalize w7d.alloc (.cells (iCells zs8) 24) = w27 at hHeld HAc ⊢
          clear hgac hHeld0
          (try simp only [List.getElem_toArray, List.getElem_cons_succ, List.getElem_cons_zero, Act.put, List.setIfInBounds_toArray, List.set_cons_zero, List.set_cons_succ])
          refine wpAnyH_ready (rs := [5]) (by kernel_rfl) (by simp) ?_
          refine (AllReadyH.cons (o := _) rfl (fun K hK => ?_) AllReadyH.nil)
          go_simp
          refine (HBZ.out _).mono ?_
          rintro e w28 ⟨rfl, hb⟩
          go_wp2_with fail
          have hN := hHeld.trans (hb.mono hHeld.size)
          have HAc := Lib.hid (Row.box HAc.out hb)
          clear hHeld hb
          refine hK.out _ _ hN (fun hHeld => ?_)
          clear hN hK K
          (try simp only [List.getElem_toArray, List.getElem_cons_succ, List.getElem_cons_zero, Act.put, List.setIfInBounds_toArray, List.set_cons_zero, List.set_cons_succ])
          refine wpAnyH_ready (rs := [6]) (by kernel_rfl) (by simp) ?_
          refine (AllReadyH.cons (o := _) rfl (fun K hK => ?_) AllReadyH.nil)
          go_simp
          refine (HPU.out _).mono ?_
          rintro e w29 ⟨rfl, hb⟩
          go_wp2_with fail
          have hN := hHeld.trans (hb.mono hHeld.size)
          have HAc := Lib.hid (Row.box HAc.out hb)
          clear hHeld hb
          refine hK.out _ _ hN (fun hHeld => ?_)
          clear hN hK K
          (try simp only [List.getElem_toArray, List.getElem_cons_succ, List.getElem_cons_zero, Act.put, List.setIfInBounds_toArray, List.set_cons_zero, List.set_cons_succ])
          refine wpAnyH_take (i := 7) (oi := _) (v := ?_) rfl (by kernel_rfl) (by kernel_rfl) (by kernel_rfl) (fun _ _ _ h => h) (Or.inl ⟨by rfl, ?_⟩) hHeld ?_
          rotate_left
          · (intro w hSw; (try dsimp only at hSw); first | (go_simp; done) | (go_simp; with_reducible rfl))
          (try simp only [List.getElem_toArray, List.getElem_cons_succ, List.getElem_cons_zero, Act.put, List.setIfInBounds_toArray, List.set_cons_zero, List.set_cons_succ])
          refine wpAnyH_take (i := 8) (oi := _) (v := ?_) rfl (by kernel_rfl) (by kernel_rfl) (by kernel_rfl) (fun _ _ _ h => h) (Or.inl ⟨by rfl, ?_⟩) hHeld ?_
          rotate_left
          · (intro w hSw; (try dsimp only at hSw); first | (go_simp; done) | (go_simp; with_reducible rfl))
          (try simp only [List.getElem_toArray, List.getElem_cons_succ, List.getElem_cons_zero, Act.put, List.setIfInBounds_toArray, List.set_cons_zero, List.set_cons_succ])
          refine wpAnyH_take (i := 9) (oi := _) (v := ?_) rfl (by kernel_rfl) (by kernel_rfl) (by kernel_rfl) (fun _ _ _ h => h) (Or.inl ⟨by rfl, ?_⟩) hHeld ?_
          rotate_left
          · (intro w hSw; (try dsimp only at hSw); first | (go_simp; done) | (go_simp; with_reducible rfl))
          (try simp only [List.getElem_toArray, List.getElem_cons_succ, List.getElem_cons_zero, Act.put, List.setIfInBounds_toArray, List.set_cons_zero, List.set_cons_succ])
          refine wpAnyH_ready (rs := [11]) (by kernel_rfl) (by simp) ?_
          refine (AllReadyH.cons (o := _) rfl (fun K hK => ?_) AllReadyH.nil)
          refine wp_store_row 24 (.tmp 8) (.tmp 48) rfl gac (iCells (kl18 (kp19 s))) rfl rfl 24 (iCells zs8) HAc.out HSK.out HSS.out (iCells_one _) ?_
          refine hK.out _ _ (below_setRow hHeld hgec _) (fun hHeld => ?_)
          clear hK K
          have HAc := Lib.hid (Row.setRow HAc.out (iCells (kl18 (kp19 s))))
          generalize w29.setRow gac (iCells (kl18 (kp19 s))) = w30 at hHeld HAc ⊢
          (try simp only [List.getElem_toArray, List.getElem_cons_succ, List.getElem_cons_zero, Act.put])
          refine wpAnyH_take (i := 12) (oi := _) (v := ?_) rfl (by kernel_rfl) (by kernel_rfl) (by kernel_rfl) (fun _ _ _ h => h) (Or.inl ⟨by rfl, ?_⟩) hHeld ?_
          rotate_left
          · (intro w hSw; (try dsimp only at hSw); first | (go_simp; done) | (go_simp; with_reducible rfl))
          (try simp only [List.getElem_toArray, List.getElem_cons_succ, List.getElem_cons_zero, Act.put, List.setIfInBounds_toArray, List.set_cons_zero, List.set_cons_succ])
          refine wpAnyH_done (by kernel_rfl) ?_ _
          go_wp2_with fail
          go_meet
          case rel => exact ⟨gac, rfl, rfl, HAc.out, HRD.out.more hHeld, HR0.out.box hHeld, HRQ.out.box hHeld, HB.out.trans (hHeld.mono (by have := HB.out.size; rw [HN0.out ()] at this; exact this))⟩
      case rest =>
        obtain ⟨ga, rfl, rfl, hra, hrd, hr0, hrq, hbl⟩ := hcut
        have RA := Lib.hid hra
        have HRD := Lib.hid hrd
        have HR0 := Lib.hid hr0
        have HRQ := Lib.hid hrq
        have HB := Lib.hid hbl
        clear hra hrd hr0 hrq hbl HBZ HPU hz hz2 HSS
        generalize wc = w8 at *
        have HP0 := Lib.hid (ps_zero s)
        go_wp2_with (refine wpList_load_row rfl 24 (.tmp 8) rfl ga rfl 24 (iCells (kl18 (kp19 s))) (0, 0) _ RA.out Tryz.underlying24 rfl HSK.out ?_)
        clear RA
        go_loopw [51] (fun ii wr => ∃ (b : Nat), b ≤ 8 ∧ ii = .int .i64 (b : Int) ∧ Rdr wr g B (ps19 s b) ∧ Row wr n0 38 (iCells zp41) ∧ Row wr gp 38 (iCells ((F : Int) :: shN s b)) ∧ Below n0 w wr ∧ ∀ j, j < b → (ix19 s).getD j 0 < cn13 4 (kp19 s j)) (fun ii _ => 8 - (intOf ii).toNat)
        case atStart => exact ⟨0, by omega, rfl, by rw [HP0.out]; exact HRD.out, HR0.out, HRQ.out, HB.out, fun j hj => by omega⟩
        case round =>
          clear HRD HR0 HRQ HB HP0
          obtain ⟨b, hb8, rfl, hrd, hr0, hrq, hbl, hall⟩ := hrel
          have HRD := Lib.hid hrd
          have HR0 := Lib.hid hr0
          have HRQ := Lib.hid hrq
          have HB := Lib.hid hbl
          have HALL := Lib.hid hall
          clear hrd hr0 hrq hbl hall
          rename World => wr
          rcases Nat.lt_or_ge b 8 with hlt | hge
          · have HK := Lib.hid hlt
            have hix := index_i8 (kl18 (kp19 s)) HKL.out b hlt
            rw [kl18_at _ b hlt] at hix
            have hk12 := kp19_le s b hlt
            have HST := Lib.hid (ps_step s b hlt)
            have HVC := Lib.hid fun w (h : Rdr w g B (ps19 s b)) => vec_any HV (kp19 s b) B (ps19 s b) g w hk12 (by rw [HBS.out]; have := HSZ.out; omega) (by rw [HBS.out, ← HST.out]; exact HPS.out (b + 1)) h
            rw [HBL.out, ← ix_read s b hlt, ← HST.out] at HVC
            have HNEW := Lib.hid (shN_put s b (vcY (kp19 s b) ((ix19 s).getD b 0)) hlt)
            rw [HFF.out] at HNEW
            have HYL := Lib.hid (vcY_len (kp19 s b) ((ix19 s).getD b 0))
            have HFB := Lib.hid (fo_band s b hlt)
            have HYE : Hid ((ix19 s).getD b 0 < cn13 4 (kp19 s b) → vcY (kp19 s b) ((ix19 s).getD b 0) = vc13 4 (kp19 s b) ((ix19 s).getD b 0)) := Lib.hid fun h => if_pos h
            have HAL2 : Hid ((ix19 s).getD b 0 < cn13 4 (kp19 s b) → ∀ j, j < b + 1 → (ix19 s).getD j 0 < cn13 4 (kp19 s j)) := Lib.hid fun h j hj => by
              rcases Nat.lt_or_ge j b with h1 | h1
              · exact HALL.out j h1
              · obtain rfl : j = b := by omega
                exact h
            generalize vcY (kp19 s b) ((ix19 s).getD b 0) = Y at *
            have HSY := Lib.hid (pls_size Y HYL.out)
            have HSX : Hid ((iCells [0, 0, 0, 0]).size = (iCells Y).size) := Lib.hid (by rw [iCells_size, iCells_size, HYL.out]; rfl)
            have HSY4 := Lib.hid (show (Tryz.prog.info? 27).map (·.size) = some Y.length by rw [HYL.out]; exact pls_under)
            have hzp := pls_zero
            have hbI : (b : Int) < 8 := by omega
            obtain ⟨k, hk⟩ : ∃ k, kp19 s b = k := ⟨_, rfl⟩
            rw [hk] at hix HVC
            clear hb8 hlt hk12
            go_wp2_with fail
            refine (HVC.out _ HRD.out).mono ?_
            rintro e w9 ⟨rfl, hrd, hm⟩
            have HRD := Lib.hid hrd
            have HR0 := Lib.hid (hm.apart HR0.out (by have := HGL.out; omega))
            have HRQ := Lib.hid (hm.apart HRQ.out (by have := HGP.out; omega))
            have HB := Lib.hid (HB.out.trans (hm.below (B := n0) (by have := HGL.out; omega) (fun k hk => by simp [Value.ownBlock] at hk) (by have := HB.out.size; rw [HN0.out ()] at this; exact this)))
            clear hrd hm HVC hix
            obtain ⟨gy, hgy⟩ : ∃ gy, w9.heap.size = gy := ⟨_, rfl⟩
            have HRY : Hid (Row (w9.alloc (.cells (iCells [0, 0, 0, 0]) 27)) gy 27 (iCells [0, 0, 0, 0])) := Lib.hid (row_new _ _ hgy _ _)
            have HGY : Hid (gp < gy) := Lib.hid (by have := HRQ.out.lt; omega)
            by_cases hin : (ix19 s).getD b 0 < cn13 4 (kp19 s b)
            · have hd : decide ((ix19 s).getD b 0 < cn13 4 k) = true := decide_eq_true (by rw [← hk]; exact hin)
              have HALN := Lib.hid (HAL2.out hin)
              have HNW := Lib.hid (HNEW.out (HYE.out hin) HYL.out)
              rw [hd]
              clear HAL2 HNEW HYE HFB HALL hd hk hin
              go_upto_region 14 with (refine wpList_store_row rfl 27 (.tmp 12) (.tmp 60) rfl gy (iCells Y) rfl rfl 27 (iCells [0, 0, 0, 0]) HRY.out HSY.out HSX.out (iCells_one _) ?_)
              have HBY : Below w9.heap.size w9 ((w9.alloc (.cells (iCells [0, 0, 0, 0]) 27)).setRow gy (iCells Y)) := below_setRow ((Below.refl _ _).alloc (Nat.le_refl _) _) (by omega) _
              have HRY := Lib.hid (Row.setRow HRY.out (iCells Y))
              have HR0 := Lib.hid (HR0.out.box HBY)
              have HRQ := Lib.hid (HRQ.out.box HBY)
              have HRD := Lib.hid (HRD.out.more HBY)
              have HB := Lib.hid (HB.out.trans (HBY.mono (by have := HB.out.size; rw [HN0.out ()] at this; exact this)))
              clear HBY hgy
              generalize (w9.alloc (.cells (iCells [0, 0, 0, 0]) 27)).setRow gy (iCells Y) = w10 at *
              have HLY : Hid (9 + b * 4 + Y.length ≤ ((F : Int) :: shN s b).length) := Lib.hid (by rw [HYL.out, HL41.out]; have := HK.out; omega)
              go_wp2_with (first
                | (refine wpList_load_row rfl 27 (.tmp 12) rfl gy rfl 27 (iCells Y) (0, 0) _ HRY.out Tryz.underlying27 rfl HSY.out ?_)
                | (refine wpList_store_pto rfl 27 (.tmp 69) (.tmp 66) rfl gp (9 + b * 4) Y rfl rfl 38 ((F : Int) :: shN s b) HRQ.out HLY.out HSY4.out ?_))
              rw [HNW.out]
              have HRQ := Lib.hid (Row.setRow HRQ.out (iCells ((F : Int) :: shN s (b + 1))))
              have HR0 : Hid (Row _ n0 38 (iCells zp41)) := Lib.hid ((setRow_other w10 gp n0 (iCells ((F : Int) :: shN s (b + 1))) (by have := HGL.out; have := HGP.out; omega)).trans HR0.out)
              have HRD : Hid (Rdr _ g B (ps19 s (b + 1))) := Lib.hid ((setRow_other w10 gp g (iCells ((F : Int) :: shN s (b + 1))) (by have := HGP.out; omega)).trans HRD.out)
              have HB := Lib.hid (below_setRow HB.out (g := gp) (by have := HGL.out; have := HGP.out; omega) (iCells ((F : Int) :: shN s (b + 1))))
              clear HNW HLY HRY
              generalize w10.setRow gp (iCells ((F : Int) :: shN s (b + 1))) = w11 at *
              go_wp2_with fail
              go_roundw
              case rel => exact ⟨b + 1, HK.out, by go_num, HRD.out, HR0.out, HRQ.out, HB.out, HALN.out⟩
              case measure =>
                have := HK.out
                simp [intOf] <;> omega
            · have hd : decide ((ix19 s).getD b 0 < cn13 4 k) = false := decide_eq_false (by rw [← hk]; exact hin)
              have hfo := HFB.out hin
              have HEE := Lib.hid (e19_form s HSZ.out HSO.out hfo)
              rw [hd]
              clear HAL2 HNEW HYE HFB HALL hd hk hin hfo
              go_upto_region 14 with (refine wpList_store_row rfl 27 (.tmp 12) (.tmp 60) rfl gy (iCells Y) rfl rfl 27 (iCells [0, 0, 0, 0]) HRY.out HSY.out HSX.out (iCells_one _) ?_)
              have HBY : Below w9.heap.size w9 ((w9.alloc (.cells (iCells [0, 0, 0, 0]) 27)).setRow gy (iCells Y)) := below_setRow ((Below.refl _ _).alloc (Nat.le_refl _) _) (by omega) _
              have HR0 := Lib.hid (HR0.out.box HBY)
              have HB := Lib.hid (HB.out.trans (HBY.mono (by have := HB.out.size; rw [HN0.out ()] at this; exact this)))
              clear HBY hgy HRQ HRD HRY
              generalize (w9.alloc (.cells (iCells [0, 0, 0, 0]) 27)).setRow gy (iCells Y) = w10 at *
              go_wp2_with (first
                | (refine wpList_store_row rfl 38 (.tmp 2) (.tmp 64) rfl n0 (iCells zp41) rfl rfl 38 (iCells zp41) HR0.out HSP.out rfl (iCells_one _) ?_)
                | (refine bodyPost_ret (v := .tuple #[.agg (iCells zp41), .int .i64 3]) (results_row_tmp Tryz.results8 _ _ n0 38 (iCells zp41) (0, 0) _ rfl (Row.setRow HR0.out _) Tryz.underlying38 rfl HSP.out) rfl ⟨by rw [HEE.out.1, HEE.out.2], ?_⟩))
              all_goals exact (by rw [HN0.out ()]; exact below_setRow (g := n0) HB.out (Nat.le_refl _) _)
          · obtain rfl : b = 8 := by omega
            have HFO := Lib.hid (fo_all s HALL.out)
            have HPL8 := HPS.out 8
            have HZR := Lib.hid (zeros_rd B (ps19 s 8) g wr (by rw [HBS.out]; have := HSZ.out; omega) (by rw [HBS.out]; exact HPL8) HRD.out)
            rw [HBL.out, HBS.out, ← HFO.out] at HZR
            clear hb8 hge HPL8 HFO HALL
            cases hfo : fo19 s with
            | false =>
              have HEE := Lib.hid (e19_form s HSZ.out HSO.out hfo)
              rw [hfo] at HZR
              clear hfo
              go_wp2_with fail
              refine HZR.out.mono ?_
              rintro e w9 ⟨rfl, hb⟩
              have HR0 := Lib.hid (HR0.out.box hb)
              have HB := Lib.hid (HB.out.trans (hb.mono (by have := HB.out.size; rw [HN0.out ()] at this; exact this)))
              clear hb HZR HRQ HRD
              go_wp2_with (first
                | (refine wpList_store_row rfl 38 (.tmp 2) (.tmp 74) rfl n0 (iCells zp41) rfl rfl 38 (iCells zp41) HR0.out HSP.out rfl (iCells_one _) ?_)
                | (refine bodyPost_ret (v := .tuple #[.agg (iCells zp41), .int .i64 3]) (results_row_tmp Tryz.results8 _ _ n0 38 (iCells zp41) (0, 0) _ rfl (Row.setRow HR0.out _) Tryz.underlying38 rfl HSP.out) rfl ⟨by rw [HEE.out.1, HEE.out.2], ?_⟩))
              all_goals exact (by rw [HN0.out ()]; exact below_setRow (g := n0) HB.out (Nat.le_refl _) _)
            | true =>
              have HEE := Lib.hid (e19_ok s HSZ.out HSO.out hfo)
              rw [HFF.out] at HEE
              rw [hfo] at HZR
              have HSQ := Lib.hid (pkt_size ((F : Int) :: shN s 8) (HL41.out 8))
              have HSW := Lib.hid (pkt_same zp41 ((F : Int) :: shN s 8) zp41_length (HL41.out 8))
              clear hfo
              go_wp2_with fail
              refine HZR.out.mono ?_
              rintro e w9 ⟨rfl, hb⟩
              have HR0 := Lib.hid (HR0.out.box hb)
              have HRQ := Lib.hid (HRQ.out.box hb)
              have HB := Lib.hid (HB.out.trans (hb.mono (by have := HB.out.size; rw [HN0.out ()] at this; exact this)))
              clear hb HZR HRD
              go_wp2_with (first
                | (refine wpList_load_row rfl 38 (.tmp 7) rfl gp rfl 38 (iCells ((F : Int) :: shN s 8)) (0, 0) _ HRQ.out Tryz.underlying38 rfl HSQ.out ?_)
                | (refine wpList_store_row rfl 38 (.tmp 2) (.tmp 75) rfl n0 (iCells ((F : Int) :: shN s 8)) rfl rfl 38 (iCells zp41) HR0.out HSQ.out HSW.out (iCells_one _) ?_)
                | (refine bodyPost_ret (v := .tuple #[.agg (iCells ((F : Int) :: shN s 8)), .int .i64 0]) (results_row_tmp Tryz.results8 _ _ n0 38 (iCells ((F : Int) :: shN s 8)) (0, 0) _ rfl (Row.setRow HR0.out _) Tryz.underlying38 rfl HSQ.out) rfl ⟨by rw [HEE.out.1, HEE.out.2], ?_⟩))
              all_goals exact (by rw [HN0.out ()]; exact below_setRow (g := n0) HB.out (Nat.le_refl _) _)
  · have hszI : ¬ (12 ≤ (s.size : Int) ∧ (s.size : Int) ≤ 24) := by omega
    rw [decide_eq_false hszI] at HIZ
    obtain ⟨e1, e2⟩ := e19_arg s hsz
    rw [e1, e2]
    clear hszI hsz e1 e2 hs HOP
    go_enter Tryz.func8, Tryz.ntmps8
    go_upto_region 1 with fail
    generalize w.alloc (.cells (iCells zp41) 38) = w1 at *
    obtain ⟨n0, hn0⟩ : ∃ n0, w.heap.size = n0 := ⟨_, rfl⟩
    have HN0 := Lib.hid fun _ : Unit => hn0
    rw [hn0] at HR0 HB ⊢
    clear hn0 hz
    go_wp2_with fail
    refine (HIZ.out _).mono ?_
    rintro e w2 ⟨rfl, rfl⟩
    go_wp2_with (first
      | (refine wpList_store_row rfl 38 (.tmp 2) (.tmp 18) rfl n0 (iCells zp41) rfl rfl 38 (iCells zp41) HR0.out HSP.out rfl (iCells_one _) ?_)
      | (refine bodyPost_ret (v := .tuple #[.agg (iCells zp41), .int .i64 1]) (results_row_tmp Tryz.results8 _ _ n0 38 (iCells zp41) (0, 0) _ rfl (Row.setRow HR0.out _) Tryz.underlying38 rfl HSP.out) rfl ⟨rfl, ?_⟩))
    all_goals exact (by rw [HN0.out ()]; exact below_setRow (g := n0) HB.out (Nat.le_refl _) _)
end Go.Proofs.YtalbcimnnihmnaaGreat
