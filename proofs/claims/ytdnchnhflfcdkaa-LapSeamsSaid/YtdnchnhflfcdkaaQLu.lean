/-
  LapSeams walked: an undone seam is as it was; a seam changes what lies near it alone. Conditions: frames of 32 ints.
-/
import Derived.Test.YtdnchnhflfcdkaaQLt
import Derived.Test.YtdnchnhflfcdkaaQLd
import Derived.Lib.QuietBelow
import Derived.Deep.Cut
import Derived.OrdersHeld
import Derived.Deep.RegionHeld
namespace Go.Proofs.Ytdnchnhflfcdkaa
open Go.RowKit
open M
set_option maxRecDepth 100000 in
set_option maxHeartbeats 2000000 in
theorem seams_law (f g : List Int) (w : World) (hf : f.length = 32) (hg : g.length = 32) :
    Calls Try.prog 5 #[.agg (iCells f), .agg (iCells g)] w fun e w' => e = .returned (.bool true) ∧ Below w.heap.size w w' := by
  have HR2 : Hid (Row ((w.alloc (.cells (iCells f) 33)).alloc (.cells (iCells g) 33)) w.heap.size 33 (iCells f)) := heap_alloc2_old _ _ _
  have HR3 : Hid (Row ((w.alloc (.cells (iCells f) 33)).alloc (.cells (iCells g) 33)) (w.heap.size + 1) 33 (iCells g)) := heap_alloc2_new _ _ _
  have HB0 : Hid (Below w.heap.size w ((w.alloc (.cells (iCells f) 33)).alloc (.cells (iCells g) 33))) := ((Below.refl _ _).alloc (Nat.le_refl _) _).alloc (by simp) _
  have HSF := Lib.hid (nums_size f hf)
  have HSG := Lib.hid (nums_size g hg)
  have HLF := Lib.hid fun W => lheld_any f W hf
  have HLG := Lib.hid fun W => lheld_any g W hg
  have HSX := Lib.hid fun _ : Unit => frame_size (hd24 f 32) (hd24_len f 32)
  have HSY := Lib.hid fun _ : Unit => frame_size (hd24 g 32) (hd24_len g 32)
  have HZX := Lib.hid fun _ : Unit => frame_same f0 (hd24 f 32) f0_length (hd24_len f 32)
  have HZY := Lib.hid fun _ : Unit => frame_same f0 (hd24 g 32) f0_length (hd24_len g 32)
  have hlx := hd24_len f 32
  have hly := hd24_len g 32
  have u1 := sea_undo lft lfb lfb_lft _ _ hlx hly
  have u2 := sea_undo lfb lft lft_lfb _ _ hlx hly
  have HW1 := Lib.hid fun W => seam_any (hd24 f 32) (hd24 g 32) W hlx hly (fun i _ => hd24_pair f g i)
  have HW2 := Lib.hid fun W => unseam_any (hd24 f 32) (hd24 g 32) W hlx hly (fun i _ => hd24_pair f g i)
  have hw3 := fun W => unseam_any (seaA lft (hd24 f 32) (hd24 g 32)) (seaB lft (hd24 f 32) (hd24 g 32)) W (seaA_len ..) (seaB_len ..) (fun i hi => sea_bd lft (fun v k h => lft_bd h (by omega) k) _ _ (hd24_at f) (hd24_at g) i hi)
  have hw4 := fun W => seam_any (seaA lfb (hd24 f 32) (hd24 g 32)) (seaB lfb (hd24 f 32) (hd24 g 32)) W (seaA_len ..) (seaB_len ..) (fun i hi => sea_bd lfb (fun v k h => lfb_bd h (by omega) k) _ _ (hd24_at f) (hd24_at g) i hi)
  rw [u1.1, u1.2] at hw3
  rw [u2.1, u2.2] at hw4
  have HW3 := Lib.hid hw3
  have HW4 := Lib.hid hw4
  have hla := seaA_len lft (hd24 f 32) (hd24 g 32)
  have hlb := seaB_len lft (hd24 f 32) (hd24 g 32)
  have hlp := seaA_len lfb (hd24 f 32) (hd24 g 32)
  have hlq := seaB_len lfb (hd24 f 32) (hd24 g 32)
  have HAX : Hid (∀ i, i < 16 → (seaA lft (hd24 f 32) (hd24 g 32)).getD i 0 = (hd24 f 32).getD i 0) := Lib.hid fun i hi => by rw [seaA_getD _ _ _ _ (by omega), if_pos hi]
  have HBY : Hid (∀ i, i < 16 → (seaB lft (hd24 f 32) (hd24 g 32)).getD (31 - i) 0 = (hd24 g 32).getD (31 - i) 0) := Lib.hid fun i hi => by rw [seaB_getD _ _ _ _ (by omega), if_neg (by omega)]
  have hq1 := frame_eq _ _ hlx hlx
  have hq2 := frame_eq _ _ hly hly
  rw [beq_self_eq_true] at hq1 hq2
  have HQ1 := Lib.hid hq1
  have HQ2 := Lib.hid hq2
  have hz := fun w => frame_zero w
  clear hf hg hq1 hq2 u1 u2 hw3 hw4
  generalize seaA lft (hd24 f 32) (hd24 g 32) = A at *
  generalize seaB lft (hd24 f 32) (hd24 g 32) = B at *
  generalize seaA lfb (hd24 f 32) (hd24 g 32) = P at *
  generalize seaB lfb (hd24 f 32) (hd24 g 32) = Q at *
  generalize hd24 f 32 = X at *
  generalize hd24 g 32 = Y at *
  have HLX := Lib.hid hlx
  have HLY := Lib.hid hly
  have HLA := Lib.hid hla
  have HLB := Lib.hid hlb
  have HSA := Lib.hid fun _ : Unit => frame_size A hla
  have HSB := Lib.hid fun _ : Unit => frame_size B hlb
  have HSP := Lib.hid fun _ : Unit => frame_size P hlp
  have HSQ := Lib.hid fun _ : Unit => frame_size Q hlq
  have HZA := Lib.hid fun _ : Unit => frame_same f0 A f0_length hla
  have HZB := Lib.hid fun _ : Unit => frame_same f0 B f0_length hlb
  have HZP := Lib.hid fun _ : Unit => frame_same f0 P f0_length hlp
  have HZQ := Lib.hid fun _ : Unit => frame_same f0 Q f0_length hlq
  clear hlx hly hla hlb hlp hlq
  go_enter Try.func5, Try.ntmps5
  go_wp2_with fail
  generalize (w.alloc (.cells (iCells f) 33)).alloc (.cells (iCells g) 33) = w1 at *
  refine (pawake_any w1).mono ?_
  rintro e w2 ⟨rfl, hb⟩
  have HR2a := Lib.hid (HR2.out.box hb)
  have HR3a := Lib.hid (HR3.out.box hb)
  have HB2 := Lib.hid (HB0.out.trans (hb.mono HB0.out.size))
  clear hb HR2 HR3 HB0
  go_upto_region 3 with fail
  go_cut [5, 6] from 7 (fun s5 s6 W => ∃ g5 g6 : Nat, s5 = .pointer (some ⟨g5, 0, none⟩) ∧ s6 = .pointer (some ⟨g6, 0, none⟩) ∧ Row W g5 34 (iCells X) ∧ Row W g6 34 (iCells Y) ∧ Below w.heap.size w W)
  case first =>
    refine wp_region_held_drew (S := fun w' => Below w2.heap.size w2 w') (by kernel_rfl) ?_ (fun hHeld => ?_)
    · exact below_drew1 (Below.refl _ _)
    generalize w2.drew = w4 at hHeld ⊢
    refine wpAnyH_take (i := 0) (oi := _) rfl (by kernel_rfl) (by kernel_rfl) (by kernel_rfl) (fun _ _ _ h => h) (yieldsRow (by rfl) 33 (.tmp 2) rfl w.heap.size rfl 33 (iCells f) HR2a.out Try.underlying33 HSF.out) hHeld ?_
    (try simp only [List.getElem_toArray, List.getElem_cons_zero, Act.put, List.setIfInBounds_toArray, List.set_cons_zero, List.set_cons_succ])
    refine wpAnyH_take (i := 2) (oi := _) rfl (by kernel_rfl) (by kernel_rfl) (by kernel_rfl) (fun _ _ _ h => h) (yieldsRow (by rfl) 33 (.tmp 3) rfl (w.heap.size + 1) rfl 33 (iCells g) HR3a.out Try.underlying33 HSG.out) hHeld ?_
    (try simp only [List.getElem_toArray, List.getElem_cons_succ, List.getElem_cons_zero, Act.put, List.setIfInBounds_toArray, List.set_cons_zero, List.set_cons_succ])
    refine wpAnyH_ready (rs := [1, 4, 5]) (by kernel_rfl) (by simp) ?_
    refine (AllReadyH.cons (o := _) rfl (fun K hK => ?_) (AllReadyH.cons (o := _) rfl (fun K hK => ?_) (AllReadyH.cons (o := _) rfl (fun K hK => ?_) AllReadyH.nil)))
    · go_simp
      refine (HLF.out _).mono ?_
      rintro e w20 ⟨rfl, hb⟩
      go_wp2_with fail
      have hN := hHeld.trans (hb.mono hHeld.size)
      clear hHeld hb
      refine hK.out _ _ hN (fun hHeld => ?_)
      clear hN hK K
      (try simp only [List.getElem_toArray, List.getElem_cons_succ, List.getElem_cons_zero, Act.put, List.setIfInBounds_toArray, List.set_cons_zero, List.set_cons_succ])
      refine wpAnyH_ready (rs := [3, 4, 5]) (by kernel_rfl) (by simp) ?_
      refine (AllReadyH.cons (o := _) rfl (fun K hK => ?_) (AllReadyH.cons (o := _) rfl (fun K hK => ?_) (AllReadyH.cons (o := _) rfl (fun K hK => ?_) AllReadyH.nil)))
      · go_simp
        refine (HLG.out _).mono ?_
        rintro e w21 ⟨rfl, hb⟩
        go_wp2_with fail
        have hN := hHeld.trans (hb.mono hHeld.size)
        clear hHeld hb
        refine hK.out _ _ hN (fun hHeld => ?_)
        clear hN hK K
        (try simp only [List.getElem_toArray, List.getElem_cons_succ, List.getElem_cons_zero, Act.put, List.setIfInBounds_toArray, List.set_cons_zero, List.set_cons_succ])
        refine wpAnyH_ready (rs := [4, 5]) (by kernel_rfl) (by simp) ?_
        refine (AllReadyH.cons (o := _) rfl (fun K hK => ?_) (AllReadyH.cons (o := _) rfl (fun K hK => ?_) AllReadyH.nil))
        · go_simp
          have hHeld0 := hHeld
          refine hK.out _ _ (hHeld.alloc hHeld.size _) (fun hHeld => ?_)
          clear hK K
          obtain ⟨ga5, hga5⟩ : ∃ g, w21.heap.size = g := ⟨_, rfl⟩
          have hge5 : w2.heap.size ≤ ga5 := by rw [← hga5]; exact hHeld0.size
          have HA5 : Hid (Row (w21.alloc (.cells (iCells f0) 34)) ga5 34 (iCells f0)) := row_new _ _ hga5 _ _
          rw [hga5]
          generalize w21.alloc (.cells (iCells f0) 34) = w22 at hHeld HA5 ⊢
          clear hga5 hHeld0
          (try simp only [List.getElem_toArray, List.getElem_cons_succ, List.getElem_cons_zero, Act.put, List.setIfInBounds_toArray, List.set_cons_zero, List.set_cons_succ])
          refine wpAnyH_ready (rs := [5]) (by kernel_rfl) (by simp) ?_
          refine (AllReadyH.cons (o := _) rfl (fun K hK => ?_) AllReadyH.nil)
          go_simp
          have hHeld0 := hHeld
          refine hK.out _ _ (hHeld.alloc hHeld.size _) (fun hHeld => ?_)
          clear hK K
          obtain ⟨ga6, hga6⟩ : ∃ g, w22.heap.size = g := ⟨_, rfl⟩
          have hge6 : w2.heap.size ≤ ga6 := by rw [← hga6]; exact hHeld0.size
          have hne56 : ga5 ≠ ga6 := by have := HA5.out.lt; omega
          have HA5 := Lib.hid (Row.alloc HA5.out (.cells (iCells f0) 34))
          have HA6 : Hid (Row (w22.alloc (.cells (iCells f0) 34)) ga6 34 (iCells f0)) := row_new _ _ hga6 _ _
          rw [hga6]
          generalize w22.alloc (.cells (iCells f0) 34) = w23 at hHeld HA5 HA6 ⊢
          clear hga6 hHeld0
          (try simp only [List.getElem_toArray, List.getElem_cons_succ, List.getElem_cons_zero, Act.put, List.setIfInBounds_toArray, List.set_cons_zero, List.set_cons_succ])
          refine wpAnyH_ready (rs := [6]) (by kernel_rfl) (by simp) ?_
          refine (AllReadyH.cons (o := _) rfl (fun K hK => ?_) AllReadyH.nil)
          refine wp_store_row 34 (.tmp 5) (.tmp 19) rfl ga5 (iCells X) rfl rfl 34 (iCells f0) HA5.out (HSX.out ()) (HZX.out ()) (iCells_one _) ?_
          refine hK.out _ _ (below_setRow hHeld hge5 _) (fun hHeld => ?_)
          clear hK K
          have HA6 := Lib.hid (row_far_setRow HA6.out (Ne.symm hne56) (iCells X))
          have HA5 := Lib.hid (Row.setRow HA5.out (iCells X))
          generalize w23.setRow ga5 (iCells X) = w24 at hHeld HA5 HA6 ⊢
          (try simp only [List.getElem_toArray, List.getElem_cons_succ, List.getElem_cons_zero, Act.put])
          refine wpAnyH_ready (rs := [7]) (by kernel_rfl) (by simp) ?_
          refine (AllReadyH.cons (o := _) rfl (fun K hK => ?_) AllReadyH.nil)
          refine wp_store_row 34 (.tmp 6) (.tmp 21) rfl ga6 (iCells Y) rfl rfl 34 (iCells f0) HA6.out (HSY.out ()) (HZY.out ()) (iCells_one _) ?_
          refine hK.out _ _ (below_setRow hHeld hge6 _) (fun hHeld => ?_)
          clear hK K
          have HA5 := Lib.hid (row_far_setRow HA5.out hne56 (iCells Y))
          have HA6 := Lib.hid (Row.setRow HA6.out (iCells Y))
          generalize w24.setRow ga6 (iCells Y) = w25 at hHeld HA5 HA6 ⊢
          (try simp only [List.getElem_toArray, List.getElem_cons_succ, List.getElem_cons_zero, Act.put])
          refine wpAnyH_done (by kernel_rfl) ?_ _
          go_wp2_with fail
          go_meet
          case rel => exact ⟨_, _, rfl, rfl, HA5.out, HA6.out, HB2.out.trans (hHeld.mono HB2.out.size)⟩
        · go_simp
          have hHeld0 := hHeld
          refine hK.out _ _ (hHeld.alloc hHeld.size _) (fun hHeld => ?_)
          clear hK K
          obtain ⟨ga6, hga6⟩ : ∃ g, w21.heap.size = g := ⟨_, rfl⟩
          have hge6 : w2.heap.size ≤ ga6 := by rw [← hga6]; exact hHeld0.size
          have HA6 : Hid (Row (w21.alloc (.cells (iCells f0) 34)) ga6 34 (iCells f0)) := row_new _ _ hga6 _ _
          rw [hga6]
          generalize w21.alloc (.cells (iCells f0) 34) = w26 at hHeld HA6 ⊢
          clear hga6 hHeld0
          (try simp only [List.getElem_toArray, List.getElem_cons_succ, List.getElem_cons_zero, Act.put, List.setIfInBounds_toArray, List.set_cons_zero, List.set_cons_succ])
          refine wpAnyH_ready (rs := [4]) (by kernel_rfl) (by simp) ?_
          refine (AllReadyH.cons (o := _) rfl (fun K hK => ?_) AllReadyH.nil)
          go_simp
          have hHeld0 := hHeld
          refine hK.out _ _ (hHeld.alloc hHeld.size _) (fun hHeld => ?_)
          clear hK K
          obtain ⟨ga5, hga5⟩ : ∃ g, w26.heap.size = g := ⟨_, rfl⟩
          have hge5 : w2.heap.size ≤ ga5 := by rw [← hga5]; exact hHeld0.size
          have hne65 : ga6 ≠ ga5 := by have := HA6.out.lt; omega
          have HA6 := Lib.hid (Row.alloc HA6.out (.cells (iCells f0) 34))
          have HA5 : Hid (Row (w26.alloc (.cells (iCells f0) 34)) ga5 34 (iCells f0)) := row_new _ _ hga5 _ _
          rw [hga5]
          generalize w26.alloc (.cells (iCells f0) 34) = w27 at hHeld HA6 HA5 ⊢
          clear hga5 hHeld0
          (try simp only [List.getElem_toArray, List.getElem_cons_succ, List.getElem_cons_zero, Act.put, List.setIfInBounds_toArray, List.set_cons_zero, List.set_cons_succ])
          refine wpAnyH_ready (rs := [6]) (by kernel_rfl) (by simp) ?_
          refine (AllReadyH.cons (o := _) rfl (fun K hK => ?_) AllReadyH.nil)
          refine wp_store_row 34 (.tmp 5) (.tmp 19) rfl ga5 (iCells X) rfl rfl 34 (iCells f0) HA5.out (HSX.out ()) (HZX.out ()) (iCells_one _) ?_
          refine hK.out _ _ (below_setRow hHeld hge5 _) (fun hHeld => ?_)
          clear hK K
          have HA6 := Lib.hid (row_far_setRow HA6.out hne65 (iCells X))
          have HA5 := Lib.hid (Row.setRow HA5.out (iCells X))
          generalize w27.setRow ga5 (iCells X) = w28 at hHeld HA6 HA5 ⊢
          (try simp only [List.getElem_toArray, List.getElem_cons_succ, List.getElem_cons_zero, Act.put])
          refine wpAnyH_ready (rs := [7]) (by kernel_rfl) (by simp) ?_
          refine (AllReadyH.cons (o := _) rfl (fun K hK => ?_) AllReadyH.nil)
          refine wp_store_row 34 (.tmp 6) (.tmp 21) rfl ga6 (iCells Y) rfl rfl 34 (iCells f0) HA6.out (HSY.out ()) (HZY.out ()) (iCells_one _) ?_
          refine hK.out _ _ (below_setRow hHeld hge6 _) (fun hHeld => ?_)
          clear hK K
          have HA5 := Lib.hid (row_far_setRow HA5.out (Ne.symm hne65) (iCells Y))
          have HA6 := Lib.hid (Row.setRow HA6.out (iCells Y))
          generalize w28.setRow ga6 (iCells Y) = w29 at hHeld HA6 HA5 ⊢
          (try simp only [List.getElem_toArray, List.getElem_cons_succ, List.getElem_cons_zero, Act.put])
          refine wpAnyH_done (by kernel_rfl) ?_ _
          go_wp2_with fail
          go_meet
          case rel => exact ⟨_, _, rfl, rfl, HA5.out, HA6.out, HB2.out.trans (hHeld.mono HB2.out.size)⟩
      · go_simp
        have hHeld0 := hHeld
        refine hK.out _ _ (hHeld.alloc hHeld.size _) (fun hHeld => ?_)
        clear hK K
        obtain ⟨ga5, hga5⟩ : ∃ g, w20.heap.size = g := ⟨_, rfl⟩
        have hge5 : w2.heap.size ≤ ga5 := by rw [← hga5]; exact hHeld0.size
        have HA5 : Hid (Row (w20.alloc (.cells (iCells f0) 34)) ga5 34 (iCells f0)) := row_new _ _ hga5 _ _
        rw [hga5]
        generalize w20.alloc (.cells (iCells f0) 34) = w30 at hHeld HA5 ⊢
        clear hga5 hHeld0
        (try simp only [List.getElem_toArray, List.getElem_cons_succ, List.getElem_cons_zero, Act.put, List.setIfInBounds_toArray, List.set_cons_zero, List.set_cons_succ])
        refine wpAnyH_ready (rs := [3, 5]) (by kernel_rfl) (by simp) ?_
        refine (AllReadyH.cons (o := _) rfl (fun K hK => ?_) (AllReadyH.cons (o := _) rfl (fun K hK => ?_) AllReadyH.nil))
        · go_simp
          refine (HLG.out _).mono ?_
          rintro e w31 ⟨rfl, hb⟩
          go_wp2_with fail
          have hN := hHeld.trans (hb.mono hHeld.size)
          have HA5 := Lib.hid (Row.box HA5.out hb)
          clear hHeld hb
          refine hK.out _ _ hN (fun hHeld => ?_)
          clear hN hK K
          (try simp only [List.getElem_toArray, List.getElem_cons_succ, List.getElem_cons_zero, Act.put, List.setIfInBounds_toArray, List.set_cons_zero, List.set_cons_succ])
          refine wpAnyH_ready (rs := [5]) (by kernel_rfl) (by simp) ?_
          refine (AllReadyH.cons (o := _) rfl (fun K hK => ?_) AllReadyH.nil)
          go_simp
          have hHeld0 := hHeld
          refine hK.out _ _ (hHeld.alloc hHeld.size _) (fun hHeld => ?_)
          clear hK K
          obtain ⟨ga6, hga6⟩ : ∃ g, w31.heap.size = g := ⟨_, rfl⟩
          have hge6 : w2.heap.size ≤ ga6 := by rw [← hga6]; exact hHeld0.size
          have hne56 : ga5 ≠ ga6 := by have := HA5.out.lt; omega
          have HA5 := Lib.hid (Row.alloc HA5.out (.cells (iCells f0) 34))
          have HA6 : Hid (Row (w31.alloc (.cells (iCells f0) 34)) ga6 34 (iCells f0)) := row_new _ _ hga6 _ _
          rw [hga6]
          generalize w31.alloc (.cells (iCells f0) 34) = w32 at hHeld HA5 HA6 ⊢
          clear hga6 hHeld0
          (try simp only [List.getElem_toArray, List.getElem_cons_succ, List.getElem_cons_zero, Act.put, List.setIfInBounds_toArray, List.set_cons_zero, List.set_cons_succ])
          refine wpAnyH_ready (rs := [6]) (by kernel_rfl) (by simp) ?_
          refine (AllReadyH.cons (o := _) rfl (fun K hK => ?_) AllReadyH.nil)
          refine wp_store_row 34 (.tmp 5) (.tmp 19) rfl ga5 (iCells X) rfl rfl 34 (iCells f0) HA5.out (HSX.out ()) (HZX.out ()) (iCells_one _) ?_
          refine hK.out _ _ (below_setRow hHeld hge5 _) (fun hHeld => ?_)
          clear hK K
          have HA6 := Lib.hid (row_far_setRow HA6.out (Ne.symm hne56) (iCells X))
          have HA5 := Lib.hid (Row.setRow HA5.out (iCells X))
          generalize w32.setRow ga5 (iCells X) = w33 at hHeld HA5 HA6 ⊢
          (try simp only [List.getElem_toArray, List.getElem_cons_succ, List.getElem_cons_zero, Act.put])
          refine wpAnyH_ready (rs := [7]) (by kernel_rfl) (by simp) ?_
          refine (AllReadyH.cons (o := _) rfl (fun K hK => ?_) AllReadyH.nil)
          refine wp_store_row 34 (.tmp 6) (.tmp 21) rfl ga6 (iCells Y) rfl rfl 34 (iCells f0) HA6.out (HSY.out ()) (HZY.out ()) (iCells_one _) ?_
          refine hK.out _ _ (below_setRow hHeld hge6 _) (fun hHeld => ?_)
          clear hK K
          have HA5 := Lib.hid (row_far_setRow HA5.out hne56 (iCells Y))
          have HA6 := Lib.hid (Row.setRow HA6.out (iCells Y))
          generalize w33.setRow ga6 (iCells Y) = w34 at hHeld HA5 HA6 ⊢
          (try simp only [List.getElem_toArray, List.getElem_cons_succ, List.getElem_cons_zero, Act.put])
          refine wpAnyH_done (by kernel_rfl) ?_ _
          go_wp2_with fail
          go_meet
          case rel => exact ⟨_, _, rfl, rfl, HA5.out, HA6.out, HB2.out.trans (hHeld.mono HB2.out.size)⟩
        · go_simp
          have hHeld0 := hHeld
          refine hK.out _ _ (hHeld.alloc hHeld.size _) (fun hHeld => ?_)
          clear hK K
          obtain ⟨ga6, hga6⟩ : ∃ g, w30.heap.size = g := ⟨_, rfl⟩
          have hge6 : w2.heap.size ≤ ga6 := by rw [← hga6]; exact hHeld0.size
          have hne56 : ga5 ≠ ga6 := by have := HA5.out.lt; omega
          have HA5 := Lib.hid (Row.alloc HA5.out (.cells (iCells f0) 34))
          have HA6 : Hid (Row (w30.alloc (.cells (iCells f0) 34)) ga6 34 (iCells f0)) := row_new _ _ hga6 _ _
          rw [hga6]
          generalize w30.alloc (.cells (iCells f0) 34) = w35 at hHeld HA5 HA6 ⊢
          clear hga6 hHeld0
          (try simp only [List.getElem_toArray, List.getElem_cons_succ, List.getElem_cons_zero, Act.put, List.setIfInBounds_toArray, List.set_cons_zero, List.set_cons_succ])
          refine wpAnyH_ready (rs := [3]) (by kernel_rfl) (by simp) ?_
          refine (AllReadyH.cons (o := _) rfl (fun K hK => ?_) AllReadyH.nil)
          go_simp
          refine (HLG.out _).mono ?_
          rintro e w36 ⟨rfl, hb⟩
          go_wp2_with fail
          have hN := hHeld.trans (hb.mono hHeld.size)
          have HA5 := Lib.hid (Row.box HA5.out hb)
          have HA6 := Lib.hid (Row.box HA6.out hb)
          clear hHeld hb
          refine hK.out _ _ hN (fun hHeld => ?_)
          clear hN hK K
          (try simp only [List.getElem_toArray, List.getElem_cons_succ, List.getElem_cons_zero, Act.put, List.setIfInBounds_toArray, List.set_cons_zero, List.set_cons_succ])
          refine wpAnyH_ready (rs := [6]) (by kernel_rfl) (by simp) ?_
          refine (AllReadyH.cons (o := _) rfl (fun K hK => ?_) AllReadyH.nil)
          refine wp_store_row 34 (.tmp 5) (.tmp 19) rfl ga5 (iCells X) rfl rfl 34 (iCells f0) HA5.out (HSX.out ()) (HZX.out ()) (iCells_one _) ?_
          refine hK.out _ _ (below_setRow hHeld hge5 _) (fun hHeld => ?_)
          clear hK K
          have HA6 := Lib.hid (row_far_setRow HA6.out (Ne.symm hne56) (iCells X))
          have HA5 := Lib.hid (Row.setRow HA5.out (iCells X))
          generalize w36.setRow ga5 (iCells X) = w37 at hHeld HA5 HA6 ⊢
          (try simp only [List.getElem_toArray, List.getElem_cons_succ, List.getElem_cons_zero, Act.put])
          refine wpAnyH_ready (rs := [7]) (by kernel_rfl) (by simp) ?_
          refine (AllReadyH.cons (o := _) rfl (fun K hK => ?_) AllReadyH.nil)
          refine wp_store_row 34 (.tmp 6) (.tmp 21) rfl ga6 (iCells Y) rfl rfl 34 (iCells f0) HA6.out (HSY.out ()) (HZY.out ()) (iCells_one _) ?_
          refine hK.out _ _ (below_setRow hHeld hge6 _) (fun hHeld => ?_)
          clear hK K
          have HA5 := Lib.hid (row_far_setRow HA5.out hne56 (iCells Y))
          have HA6 := Lib.hid (Row.setRow HA6.out (iCells Y))
          generalize w37.setRow ga6 (iCells Y) = w38 at hHeld HA5 HA6 ⊢
          (try simp only [List.getElem_toArray, List.getElem_cons_succ, List.getElem_cons_zero, Act.put])
          refine wpAnyH_done (by kernel_rfl) ?_ _
          go_wp2_with fail
          go_meet
          case rel => exact ⟨_, _, rfl, rfl, HA5.out, HA6.out, HB2.out.trans (hHeld.mono HB2.out.size)⟩
      · go_simp
        have hHeld0 := hHeld
        refine hK.out _ _ (hHeld.alloc hHeld.size _) (fun hHeld => ?_)
        clear hK K
        obtain ⟨ga6, hga6⟩ : ∃ g, w20.heap.size = g := ⟨_, rfl⟩
        have hge6 : w2.heap.size ≤ ga6 := by rw [← hga6]; exact hHeld0.size
        have HA6 : Hid (Row (w20.alloc (.cells (iCells f0) 34)) ga6 34 (iCells f0)) := row_new _ _ hga6 _ _
        rw [hga6]
        generalize w20.alloc (.cells (iCells f0) 34) = w39 at hHeld HA6 ⊢
        clear hga6 hHeld0
        (try simp only [List.getElem_toArray, List.getElem_cons_succ, List.getElem_cons_zero, Act.put, List.setIfInBounds_toArray, List.set_cons_zero, List.set_cons_succ])
        refine wpAnyH_ready (rs := [3, 4]) (by kernel_rfl) (by simp) ?_
        refine (AllReadyH.cons (o := _) rfl (fun K hK => ?_) (AllReadyH.cons (o := _) rfl (fun K hK => ?_) AllReadyH.nil))
        · go_simp
          refine (HLG.out _).mono ?_
          rintro e w40 ⟨rfl, hb⟩
          go_wp2_with fail
          have hN := hHeld.trans (hb.mono hHeld.size)
          have HA6 := Lib.hid (Row.box HA6.out hb)
          clear hHeld hb
          refine hK.out _ _ hN (fun hHeld => ?_)
          clear hN hK K
          (try simp only [List.getElem_toArray, List.getElem_cons_succ, List.getElem_cons_zero, Act.put, List.setIfInBounds_toArray, List.set_cons_zero, List.set_cons_succ])
          refine wpAnyH_ready (rs := [4]) (by kernel_rfl) (by simp) ?_
          refine (AllReadyH.cons (o := _) rfl (fun K hK => ?_) AllReadyH.nil)
          go_simp
          have hHeld0 := hHeld
          refine hK.out _ _ (hHeld.alloc hHeld.size _) (fun hHeld => ?_)
          clear hK K
          obtain ⟨ga5, hga5⟩ : ∃ g, w40.heap.size = g := ⟨_, rfl⟩
          have hge5 : w2.heap.size ≤ ga5 := by rw [← hga5]; exact hHeld0.size
          have hne65 : ga6 ≠ ga5 := by have := HA6.out.lt; omega
          have HA6 := Lib.hid (Row.alloc HA6.out (.cells (iCells f0) 34))
          have HA5 : Hid (Row (w40.alloc (.cells (iCells f0) 34)) ga5 34 (iCells f0)) := row_new _ _ hga5 _ _
          rw [hga5]
          generalize w40.alloc (.cells (iCells f0) 34) = w41 at hHeld HA6 HA5 ⊢
          clear hga5 hHeld0
          (try simp only [List.getElem_toArray, List.getElem_cons_succ, List.getElem_cons_zero, Act.put, List.setIfInBounds_toArray, List.set_cons_zero, List.set_cons_succ])
          refine wpAnyH_ready (rs := [6]) (by kernel_rfl) (by simp) ?_
          refine (AllReadyH.cons (o := _) rfl (fun K hK => ?_) AllReadyH.nil)
          refine wp_store_row 34 (.tmp 5) (.tmp 19) rfl ga5 (iCells X) rfl rfl 34 (iCells f0) HA5.out (HSX.out ()) (HZX.out ()) (iCells_one _) ?_
          refine hK.out _ _ (below_setRow hHeld hge5 _) (fun hHeld => ?_)
          clear hK K
          have HA6 := Lib.hid (row_far_setRow HA6.out hne65 (iCells X))
          have HA5 := Lib.hid (Row.setRow HA5.out (iCells X))
          generalize w41.setRow ga5 (iCells X) = w42 at hHeld HA6 HA5 ⊢
          (try simp only [List.getElem_toArray, List.getElem_cons_succ, List.getElem_cons_zero, Act.put])
          refine wpAnyH_ready (rs := [7]) (by kernel_rfl) (by simp) ?_
          refine (AllReadyH.cons (o := _) rfl (fun K hK => ?_) AllReadyH.nil)
          refine wp_store_row 34 (.tmp 6) (.tmp 21) rfl ga6 (iCells Y) rfl rfl 34 (iCells f0) HA6.out (HSY.out ()) (HZY.out ()) (iCells_one _) ?_
          refine hK.out _ _ (below_setRow hHeld hge6 _) (fun hHeld => ?_)
          clear hK K
          have HA5 := Lib.hid (row_far_setRow HA5.out (Ne.symm hne65) (iCells Y))
          have HA6 := Lib.hid (Row.setRow HA6.out (iCells Y))
          generalize w42.setRow ga6 (iCells Y) = w43 at hHeld HA6 HA5 ⊢
          (try simp only [List.getElem_toArray, List.getElem_cons_succ, List.getElem_cons_zero, Act.put])
          refine wpAnyH_done (by kernel_rfl) ?_ _
          go_wp2_with fail
          go_meet
          case rel => exact ⟨_, _, rfl, rfl, HA5.out, HA6.out, HB2.out.trans (hHeld.mono HB2.out.size)⟩
        · go_simp
          have hHeld0 := hHeld
          refine hK.out _ _ (hHeld.alloc hHeld.size _) (fun hHeld => ?_)
          clear hK K
          obtain ⟨ga5, hga5⟩ : ∃ g, w39.heap.size = g := ⟨_, rfl⟩
          have hge5 : w2.heap.size ≤ ga5 := by rw [← hga5]; exact hHeld0.size
          have hne65 : ga6 ≠ ga5 := by have := HA6.out.lt; omega
          have HA6 := Lib.hid (Row.alloc HA6.out (.cells (iCells f0) 34))
          have HA5 : Hid (Row (w39.alloc (.cells (iCells f0) 34)) ga5 34 (iCells f0)) := row_new _ _ hga5 _ _
          rw [hga5]
          generalize w39.alloc (.cells (iCells f0) 34) = w44 at hHeld HA6 HA5 ⊢
          clear hga5 hHeld0
          (try simp only [List.getElem_toArray, List.getElem_cons_succ, List.getElem_cons_zero, Act.put, List.setIfInBounds_toArray, List.set_cons_zero, List.set_cons_succ])
          refine wpAnyH_ready (rs := [3]) (by kernel_rfl) (by simp) ?_
          refine (AllReadyH.cons (o := _) rfl (fun K hK => ?_) AllReadyH.nil)
          go_simp
          refine (HLG.out _).mono ?_
          rintro e w45 ⟨rfl, hb⟩
          go_wp2_with fail
          have hN := hHeld.trans (hb.mono hHeld.size)
          have HA6 := Lib.hid (Row.box HA6.out hb)
          have HA5 := Lib.hid (Row.box HA5.out hb)
          clear hHeld hb
          refine hK.out _ _ hN (fun hHeld => ?_)
          clear hN hK K
          (try simp only [List.getElem_toArray, List.getElem_cons_succ, List.getElem_cons_zero, Act.put, List.setIfInBounds_toArray, List.set_cons_zero, List.set_cons_succ])
          refine wpAnyH_ready (rs := [6]) (by kernel_rfl) (by simp) ?_
          refine (AllReadyH.cons (o := _) rfl (fun K hK => ?_) AllReadyH.nil)
          refine wp_store_row 34 (.tmp 5) (.tmp 19) rfl ga5 (iCells X) rfl rfl 34 (iCells f0) HA5.out (HSX.out ()) (HZX.out ()) (iCells_one _) ?_
          refine hK.out _ _ (below_setRow hHeld hge5 _) (fun hHeld => ?_)
          clear hK K
          have HA6 := Lib.hid (row_far_setRow HA6.out hne65 (iCells X))
          have HA5 := Lib.hid (Row.setRow HA5.out (iCells X))
          generalize w45.setRow ga5 (iCells X) = w46 at hHeld HA6 HA5 ⊢
          (try simp only [List.getElem_toArray, List.getElem_cons_succ, List.getElem_cons_zero, Act.put])
          refine wpAnyH_ready (rs := [7]) (by kernel_rfl) (by simp) ?_
          refine (AllReadyH.cons (o := _) rfl (fun K hK => ?_) AllReadyH.nil)
          refine wp_store_row 34 (.tmp 6) (.tmp 21) rfl ga6 (iCells Y) rfl rfl 34 (iCells f0) HA6.out (HSY.out ()) (HZY.out ()) (iCells_one _) ?_
          refine hK.out _ _ (below_setRow hHeld hge6 _) (fun hHeld => ?_)
          clear hK K
          have HA5 := Lib.hid (row_far_setRow HA5.out (Ne.symm hne65) (iCells Y))
          have HA6 := Lib.hid (Row.setRow HA6.out (iCells Y))
          generalize w46.setRow ga6 (iCells Y) = w47 at hHeld HA6 HA5 ⊢
          (try simp only [List.getElem_toArray, List.getElem_cons_succ, List.getElem_cons_zero, Act.put])
          refine wpAnyH_done (by kernel_rfl) ?_ _
          go_wp2_with fail
          go_meet
          case rel => exact ⟨_, _, rfl, rfl, HA5.out, HA6.out, HB2.out.trans (hHeld.mono HB2.out.size)⟩
    · go_simp
      have hHeld0 := hHeld
      refine hK.out _ _ (hHeld.alloc hHeld.size _) (fun hHeld => ?_)
      clear hK K
      obtain ⟨ga5, hga5⟩ : ∃ g, w4.heap.size = g := ⟨_, rfl⟩
      have hge5 : w2.heap.size ≤ ga5 := by rw [← hga5]; exact hHeld0.size
      have HA5 : Hid (Row (w4.alloc (.cells (iCells f0) 34)) ga5 34 (iCells f0)) := row_new _ _ hga5 _ _
      rw [hga5]
      generalize w4.alloc (.cells (iCells f0) 34) = w48 at hHeld HA5 ⊢
      clear hga5 hHeld0
      (try simp only [List.getElem_toArray, List.getElem_cons_succ, List.getElem_cons_zero, Act.put, List.setIfInBounds_toArray, List.set_cons_zero, List.set_cons_succ])
      refine wpAnyH_ready (rs := [1, 5]) (by kernel_rfl) (by simp) ?_
      refine (AllReadyH.cons (o := _) rfl (fun K hK => ?_) (AllReadyH.cons (o := _) rfl (fun K hK => ?_) AllReadyH.nil))
      · go_simp
        refine (HLF.out _).mono ?_
        rintro e w49 ⟨rfl, hb⟩
        go_wp2_with fail
        have hN := hHeld.trans (hb.mono hHeld.size)
        have HA5 := Lib.hid (Row.box HA5.out hb)
        clear hHeld hb
        refine hK.out _ _ hN (fun hHeld => ?_)
        clear hN hK K
        (try simp only [List.getElem_toArray, List.getElem_cons_succ, List.getElem_cons_zero, Act.put, List.setIfInBounds_toArray, List.set_cons_zero, List.set_cons_succ])
        refine wpAnyH_ready (rs := [3, 5]) (by kernel_rfl) (by simp) ?_
        refine (AllReadyH.cons (o := _) rfl (fun K hK => ?_) (AllReadyH.cons (o := _) rfl (fun K hK => ?_) AllReadyH.nil))
        · go_simp
          refine (HLG.out _).mono ?_
          rintro e w50 ⟨rfl, hb⟩
          go_wp2_with fail
          have hN := hHeld.trans (hb.mono hHeld.size)
          have HA5 := Lib.hid (Row.box HA5.out hb)
          clear hHeld hb
          refine hK.out _ _ hN (fun hHeld => ?_)
          clear hN hK K
          (try simp only [List.getElem_toArray, List.getElem_cons_succ, List.getElem_cons_zero, Act.put, List.setIfInBounds_toArray, List.set_cons_zero, List.set_cons_succ])
          refine wpAnyH_ready (rs := [5]) (by kernel_rfl) (by simp) ?_
          refine (AllReadyH.cons (o := _) rfl (fun K hK => ?_) AllReadyH.nil)
          go_simp
          have hHeld0 := hHeld
          refine hK.out _ _ (hHeld.alloc hHeld.size _) (fun hHeld => ?_)
          clear hK K
          obtain ⟨ga6, hga6⟩ : ∃ g, w50.heap.size = g := ⟨_, rfl⟩
          have hge6 : w2.heap.size ≤ ga6 := by rw [← hga6]; exact hHeld0.size
          have hne56 : ga5 ≠ ga6 := by have := HA5.out.lt; omega
          have HA5 := Lib.hid (Row.alloc HA5.out (.cells (iCells f0) 34))
          have HA6 : Hid (Row (w50.alloc (.cells (iCells f0) 34)) ga6 34 (iCells f0)) := row_new _ _ hga6 _ _
          rw [hga6]
          generalize w50.alloc (.cells (iCells f0) 34) = w51 at hHeld HA5 HA6 ⊢
          clear hga6 hHeld0
          (try simp only [List.getElem_toArray, List.getElem_cons_succ, List.getElem_cons_zero, Act.put, List.setIfInBounds_toArray, List.set_cons_zero, List.set_cons_succ])
          refine wpAnyH_ready (rs := [6]) (by kernel_rfl) (by simp) ?_
          refine (AllReadyH.cons (o := _) rfl (fun K hK => ?_) AllReadyH.nil)
          refine wp_store_row 34 (.tmp 5) (.tmp 19) rfl ga5 (iCells X) rfl rfl 34 (iCells f0) HA5.out (HSX.out ()) (HZX.out ()) (iCells_one _) ?_
          refine hK.out _ _ (below_setRow hHeld hge5 _) (fun hHeld => ?_)
          clear hK K
          have HA6 := Lib.hid (row_far_setRow HA6.out (Ne.symm hne56) (iCells X))
          have HA5 := Lib.hid (Row.setRow HA5.out (iCells X))
          generalize w51.setRow ga5 (iCells X) = w52 at hHeld HA5 HA6 ⊢
          (try simp only [List.getElem_toArray, List.getElem_cons_succ, List.getElem_cons_zero, Act.put])
          refine wpAnyH_ready (rs := [7]) (by kernel_rfl) (by simp) ?_
          refine (AllReadyH.cons (o := _) rfl (fun K hK => ?_) AllReadyH.nil)
          refine wp_store_row 34 (.tmp 6) (.tmp 21) rfl ga6 (iCells Y) rfl rfl 34 (iCells f0) HA6.out (HSY.out ()) (HZY.out ()) (iCells_one _) ?_
          refine hK.out _ _ (below_setRow hHeld hge6 _) (fun hHeld => ?_)
          clear hK K
          have HA5 := Lib.hid (row_far_setRow HA5.out hne56 (iCells Y))
          have HA6 := Lib.hid (Row.setRow HA6.out (iCells Y))
          generalize w52.setRow ga6 (iCells Y) = w53 at hHeld HA5 HA6 ⊢
          (try simp only [List.getElem_toArray, List.getElem_cons_succ, List.getElem_cons_zero, Act.put])
          refine wpAnyH_done (by kernel_rfl) ?_ _
          go_wp2_with fail
          go_meet
          case rel => exact ⟨_, _, rfl, rfl, HA5.out, HA6.out, HB2.out.trans (hHeld.mono HB2.out.size)⟩
        · go_simp
          have hHeld0 := hHeld
          refine hK.out _ _ (hHeld.alloc hHeld.size _) (fun hHeld => ?_)
          clear hK K
          obtain ⟨ga6, hga6⟩ : ∃ g, w49.heap.size = g := ⟨_, rfl⟩
          have hge6 : w2.heap.size ≤ ga6 := by rw [← hga6]; exact hHeld0.size
          have hne56 : ga5 ≠ ga6 := by have := HA5.out.lt; omega
          have HA5 := Lib.hid (Row.alloc HA5.out (.cells (iCells f0) 34))
          have HA6 : Hid (Row (w49.alloc (.cells (iCells f0) 34)) ga6 34 (iCells f0)) := row_new _ _ hga6 _ _
          rw [hga6]
          generalize w49.alloc (.cells (iCells f0) 34) = w54 at hHeld HA5 HA6 ⊢
          clear hga6 hHeld0
          (try simp only [List.getElem_toArray, List.getElem_cons_succ, List.getElem_cons_zero, Act.put, List.setIfInBounds_toArray, List.set_cons_zero, List.set_cons_succ])
          refine wpAnyH_ready (rs := [3]) (by kernel_rfl) (by simp) ?_
          refine (AllReadyH.cons (o := _) rfl (fun K hK => ?_) AllReadyH.nil)
          go_simp
          refine (HLG.out _).mono ?_
          rintro e w55 ⟨rfl, hb⟩
          go_wp2_with fail
          have hN := hHeld.trans (hb.mono hHeld.size)
          have HA5 := Lib.hid (Row.box HA5.out hb)
          have HA6 := Lib.hid (Row.box HA6.out hb)
          clear hHeld hb
          refine hK.out _ _ hN (fun hHeld => ?_)
          clear hN hK K
          (try simp only [List.getElem_toArray, List.getElem_cons_succ, List.getElem_cons_zero, Act.put, List.setIfInBounds_toArray, List.set_cons_zero, List.set_cons_succ])
          refine wpAnyH_ready (rs := [6]) (by kernel_rfl) (by simp) ?_
          refine (AllReadyH.cons (o := _) rfl (fun K hK => ?_) AllReadyH.nil)
          refine wp_store_row 34 (.tmp 5) (.tmp 19) rfl ga5 (iCells X) rfl rfl 34 (iCells f0) HA5.out (HSX.out ()) (HZX.out ()) (iCells_one _) ?_
          refine hK.out _ _ (below_setRow hHeld hge5 _) (fun hHeld => ?_)
          clear hK K
          have HA6 := Lib.hid (row_far_setRow HA6.out (Ne.symm hne56) (iCells X))
          have HA5 := Lib.hid (Row.setRow HA5.out (iCells X))
          generalize w55.setRow ga5 (iCells X) = w56 at hHeld HA5 HA6 ⊢
          (try simp only [List.getElem_toArray, List.getElem_cons_succ, List.getElem_cons_zero, Act.put])
          refine wpAnyH_ready (rs := [7]) (by kernel_rfl) (by simp) ?_
          refine (AllReadyH.cons (o := _) rfl (fun K hK => ?_) AllReadyH.nil)
          refine wp_store_row 34 (.tmp 6) (.tmp 21) rfl ga6 (iCells Y) rfl rfl 34 (iCells f0) HA6.out (HSY.out ()) (HZY.out ()) (iCells_one _) ?_
          refine hK.out _ _ (below_setRow hHeld hge6 _) (fun hHeld => ?_)
          clear hK K
          have HA5 := Lib.hid (row_far_setRow HA5.out hne56 (iCells Y))
          have HA6 := Lib.hid (Row.setRow HA6.out (iCells Y))
          generalize w56.setRow ga6 (iCells Y) = w57 at hHeld HA5 HA6 ⊢
          (try simp only [List.getElem_toArray, List.getElem_cons_succ, List.getElem_cons_zero, Act.put])
          refine wpAnyH_done (by kernel_rfl) ?_ _
          go_wp2_with fail
          go_meet
          case rel => exact ⟨_, _, rfl, rfl, HA5.out, HA6.out, HB2.out.trans (hHeld.mono HB2.out.size)⟩
      · go_simp
        have hHeld0 := hHeld
        refine hK.out _ _ (hHeld.alloc hHeld.size _) (fun hHeld => ?_)
        clear hK K
        obtain ⟨ga6, hga6⟩ : ∃ g, w48.heap.size = g := ⟨_, rfl⟩
        have hge6 : w2.heap.size ≤ ga6 := by rw [← hga6]; exact hHeld0.size
        have hne56 : ga5 ≠ ga6 := by have := HA5.out.lt; omega
        have HA5 := Lib.hid (Row.alloc HA5.out (.cells (iCells f0) 34))
        have HA6 : Hid (Row (w48.alloc (.cells (iCells f0) 34)) ga6 34 (iCells f0)) := row_new _ _ hga6 _ _
        rw [hga6]
        generalize w48.alloc (.cells (iCells f0) 34) = w58 at hHeld HA5 HA6 ⊢
        clear hga6 hHeld0
        (try simp only [List.getElem_toArray, List.getElem_cons_succ, List.getElem_cons_zero, Act.put, List.setIfInBounds_toArray, List.set_cons_zero, List.set_cons_succ])
        refine wpAnyH_ready (rs := [1]) (by kernel_rfl) (by simp) ?_
        refine (AllReadyH.cons (o := _) rfl (fun K hK => ?_) AllReadyH.nil)
        go_simp
        refine (HLF.out _).mono ?_
        rintro e w59 ⟨rfl, hb⟩
        go_wp2_with fail
        have hN := hHeld.trans (hb.mono hHeld.size)
        have HA5 := Lib.hid (Row.box HA5.out hb)
        have HA6 := Lib.hid (Row.box HA6.out hb)
        clear hHeld hb
        refine hK.out _ _ hN (fun hHeld => ?_)
        clear hN hK K
        (try simp only [List.getElem_toArray, List.getElem_cons_succ, List.getElem_cons_zero, Act.put, List.setIfInBounds_toArray, List.set_cons_zero, List.set_cons_succ])
        refine wpAnyH_ready (rs := [3]) (by kernel_rfl) (by simp) ?_
        refine (AllReadyH.cons (o := _) rfl (fun K hK => ?_) AllReadyH.nil)
        go_simp
        refine (HLG.out _).mono ?_
        rintro e w60 ⟨rfl, hb⟩
        go_wp2_with fail
        have hN := hHeld.trans (hb.mono hHeld.size)
        have HA5 := Lib.hid (Row.box HA5.out hb)
        have HA6 := Lib.hid (Row.box HA6.out hb)
        clear hHeld hb
        refine hK.out _ _ hN (fun hHeld => ?_)
        clear hN hK K
        (try simp only [List.getElem_toArray, List.getElem_cons_succ, List.getElem_cons_zero, Act.put, List.setIfInBounds_toArray, List.set_cons_zero, List.set_cons_succ])
        refine wpAnyH_ready (rs := [6]) (by kernel_rfl) (by simp) ?_
        refine (AllReadyH.cons (o := _) rfl (fun K hK => ?_) AllReadyH.nil)
        refine wp_store_row 34 (.tmp 5) (.tmp 19) rfl ga5 (iCells X) rfl rfl 34 (iCells f0) HA5.out (HSX.out ()) (HZX.out ()) (iCells_one _) ?_
        refine hK.out _ _ (below_setRow hHeld hge5 _) (fun hHeld => ?_)
        clear hK K
        have HA6 := Lib.hid (row_far_setRow HA6.out (Ne.symm hne56) (iCells X))
        have HA5 := Lib.hid (Row.setRow HA5.out (iCells X))
        generalize w60.setRow ga5 (iCells X) = w61 at hHeld HA5 HA6 ⊢
        (try simp only [List.getElem_toArray, List.getElem_cons_succ, List.getElem_cons_zero, Act.put])
        refine wpAnyH_ready (rs := [7]) (by kernel_rfl) (by simp) ?_
        refine (AllReadyH.cons (o := _) rfl (fun K hK => ?_) AllReadyH.nil)
        refine wp_store_row 34 (.tmp 6) (.tmp 21) rfl ga6 (iCells Y) rfl rfl 34 (iCells f0) HA6.out (HSY.out ()) (HZY.out ()) (iCells_one _) ?_
        refine hK.out _ _ (below_setRow hHeld hge6 _) (fun hHeld => ?_)
        clear hK K
        have HA5 := Lib.hid (row_far_setRow HA5.out hne56 (iCells Y))
        have HA6 := Lib.hid (Row.setRow HA6.out (iCells Y))
        generalize w61.setRow ga6 (iCells Y) = w62 at hHeld HA5 HA6 ⊢
        (try simp only [List.getElem_toArray, List.getElem_cons_succ, List.getElem_cons_zero, Act.put])
        refine wpAnyH_done (by kernel_rfl) ?_ _
        go_wp2_with fail
        go_meet
        case rel => exact ⟨_, _, rfl, rfl, HA5.out, HA6.out, HB2.out.trans (hHeld.mono HB2.out.size)⟩
    · go_simp
      have hHeld0 := hHeld
      refine hK.out _ _ (hHeld.alloc hHeld.size _) (fun hHeld => ?_)
      clear hK K
      obtain ⟨ga6, hga6⟩ : ∃ g, w4.heap.size = g := ⟨_, rfl⟩
      have hge6 : w2.heap.size ≤ ga6 := by rw [← hga6]; exact hHeld0.size
      have HA6 : Hid (Row (w4.alloc (.cells (iCells f0) 34)) ga6 34 (iCells f0)) := row_new _ _ hga6 _ _
      rw [hga6]
      generalize w4.alloc (.cells (iCells f0) 34) = w63 at hHeld HA6 ⊢
      clear hga6 hHeld0
      (try simp only [List.getElem_toArray, List.getElem_cons_succ, List.getElem_cons_zero, Act.put, List.setIfInBounds_toArray, List.set_cons_zero, List.set_cons_succ])
      refine wpAnyH_ready (rs := [1, 4]) (by kernel_rfl) (by simp) ?_
      refine (AllReadyH.cons (o := _) rfl (fun K hK => ?_) (AllReadyH.cons (o := _) rfl (fun K hK => ?_) AllReadyH.nil))
      · go_simp
        refine (HLF.out _).mono ?_
        rintro e w64 ⟨rfl, hb⟩
        go_wp2_with fail
        have hN := hHeld.trans (hb.mono hHeld.size)
        have HA6 := Lib.hid (Row.box HA6.out hb)
        clear hHeld hb
        refine hK.out _ _ hN (fun hHeld => ?_)
        clear hN hK K
        (try simp only [List.getElem_toArray, List.getElem_cons_succ, List.getElem_cons_zero, Act.put, List.setIfInBounds_toArray, List.set_cons_zero, List.set_cons_succ])
        refine wpAnyH_ready (rs := [3, 4]) (by kernel_rfl) (by simp) ?_
        refine (AllReadyH.cons (o := _) rfl (fun K hK => ?_) (AllReadyH.cons (o := _) rfl (fun K hK => ?_) AllReadyH.nil))
        · go_simp
          refine (HLG.out _).mono ?_
          rintro e w65 ⟨rfl, hb⟩
          go_wp2_with fail
          have hN := hHeld.trans (hb.mono hHeld.size)
          have HA6 := Lib.hid (Row.box HA6.out hb)
          clear hHeld hb
          refine hK.out _ _ hN (fun hHeld => ?_)
          clear hN hK K
          (try simp only [List.getElem_toArray, List.getElem_cons_succ, List.getElem_cons_zero, Act.put, List.setIfInBounds_toArray, List.set_cons_zero, List.set_cons_succ])
          refine wpAnyH_ready (rs := [4]) (by kernel_rfl) (by simp) ?_
          refine (AllReadyH.cons (o := _) rfl (fun K hK => ?_) AllReadyH.nil)
          go_simp
          have hHeld0 := hHeld
          refine hK.out _ _ (hHeld.alloc hHeld.size _) (fun hHeld => ?_)
          clear hK K
          obtain ⟨ga5, hga5⟩ : ∃ g, w65.heap.size = g := ⟨_, rfl⟩
          have hge5 : w2.heap.size ≤ ga5 := by rw [← hga5]; exact hHeld0.size
          have hne65 : ga6 ≠ ga5 := by have := HA6.out.lt; omega
          have HA6 := Lib.hid (Row.alloc HA6.out (.cells (iCells f0) 34))
          have HA5 : Hid (Row (w65.alloc (.cells (iCells f0) 34)) ga5 34 (iCells f0)) := row_new _ _ hga5 _ _
          rw [hga5]
          generalize w65.alloc (.cells (iCells f0) 34) = w66 at hHeld HA6 HA5 ⊢
          clear hga5 hHeld0
          (try simp only [List.getElem_toArray, List.getElem_cons_succ, List.getElem_cons_zero, Act.put, List.setIfInBounds_toArray, List.set_cons_zero, List.set_cons_succ])
          refine wpAnyH_ready (rs := [6]) (by kernel_rfl) (by simp) ?_
          refine (AllReadyH.cons (o := _) rfl (fun K hK => ?_) AllReadyH.nil)
          refine wp_store_row 34 (.tmp 5) (.tmp 19) rfl ga5 (iCells X) rfl rfl 34 (iCells f0) HA5.out (HSX.out ()) (HZX.out ()) (iCells_one _) ?_
          refine hK.out _ _ (below_setRow hHeld hge5 _) (fun hHeld => ?_)
          clear hK K
          have HA6 := Lib.hid (row_far_setRow HA6.out hne65 (iCells X))
          have HA5 := Lib.hid (Row.setRow HA5.out (iCells X))
          generalize w66.setRow ga5 (iCells X) = w67 at hHeld HA6 HA5 ⊢
          (try simp only [List.getElem_toArray, List.getElem_cons_succ, List.getElem_cons_zero, Act.put])
          refine wpAnyH_ready (rs := [7]) (by kernel_rfl) (by simp) ?_
          refine (AllReadyH.cons (o := _) rfl (fun K hK => ?_) AllReadyH.nil)
          refine wp_store_row 34 (.tmp 6) (.tmp 21) rfl ga6 (iCells Y) rfl rfl 34 (iCells f0) HA6.out (HSY.out ()) (HZY.out ()) (iCells_one _) ?_
          refine hK.out _ _ (below_setRow hHeld hge6 _) (fun hHeld => ?_)
          clear hK K
          have HA5 := Lib.hid (row_far_setRow HA5.out (Ne.symm hne65) (iCells Y))
          have HA6 := Lib.hid (Row.setRow HA6.out (iCells Y))
          generalize w67.setRow ga6 (iCells Y) = w68 at hHeld HA6 HA5 ⊢
          (try simp only [List.getElem_toArray, List.getElem_cons_succ, List.getElem_cons_zero, Act.put])
          refine wpAnyH_done (by kernel_rfl) ?_ _
          go_wp2_with fail
          go_meet
          case rel => exact ⟨_, _, rfl, rfl, HA5.out, HA6.out, HB2.out.trans (hHeld.mono HB2.out.size)⟩
        · go_simp
          have hHeld0 := hHeld
          refine hK.out _ _ (hHeld.alloc hHeld.size _) (fun hHeld => ?_)
          clear hK K
          obtain ⟨ga5, hga5⟩ : ∃ g, w64.heap.size = g := ⟨_, rfl⟩
          have hge5 : w2.heap.size ≤ ga5 := by rw [← hga5]; exact hHeld0.size
          have hne65 : ga6 ≠ ga5 := by have := HA6.out.lt; omega
          have HA6 := Lib.hid (Row.alloc HA6.out (.cells (iCells f0) 34))
          have HA5 : Hid (Row (w64.alloc (.cells (iCells f0) 34)) ga5 34 (iCells f0)) := row_new _ _ hga5 _ _
          rw [hga5]
          generalize w64.alloc (.cells (iCells f0) 34) = w69 at hHeld HA6 HA5 ⊢
          clear hga5 hHeld0
          (try simp only [List.getElem_toArray, List.getElem_cons_succ, List.getElem_cons_zero, Act.put, List.setIfInBounds_toArray, List.set_cons_zero, List.set_cons_succ])
          refine wpAnyH_ready (rs := [3]) (by kernel_rfl) (by simp) ?_
          refine (AllReadyH.cons (o := _) rfl (fun K hK => ?_) AllReadyH.nil)
          go_simp
          refine (HLG.out _).mono ?_
          rintro e w70 ⟨rfl, hb⟩
          go_wp2_with fail
          have hN := hHeld.trans (hb.mono hHeld.size)
          have HA6 := Lib.hid (Row.box HA6.out hb)
          have HA5 := Lib.hid (Row.box HA5.out hb)
          clear hHeld hb
          refine hK.out _ _ hN (fun hHeld => ?_)
          clear hN hK K
          (try simp only [List.getElem_toArray, List.getElem_cons_succ, List.getElem_cons_zero, Act.put, List.setIfInBounds_toArray, List.set_cons_zero, List.set_cons_succ])
          refine wpAnyH_ready (rs := [6]) (by kernel_rfl) (by simp) ?_
          refine (AllReadyH.cons (o := _) rfl (fun K hK => ?_) AllReadyH.nil)
          refine wp_store_row 34 (.tmp 5) (.tmp 19) rfl ga5 (iCells X) rfl rfl 34 (iCells f0) HA5.out (HSX.out ()) (HZX.out ()) (iCells_one _) ?_
          refine hK.out _ _ (below_setRow hHeld hge5 _) (fun hHeld => ?_)
          clear hK K
          have HA6 := Lib.hid (row_far_setRow HA6.out hne65 (iCells X))
          have HA5 := Lib.hid (Row.setRow HA5.out (iCells X))
          generalize w70.setRow ga5 (iCells X) = w71 at hHeld HA6 HA5 ⊢
          (try simp only [List.getElem_toArray, List.getElem_cons_succ, List.getElem_cons_zero, Act.put])
          refine wpAnyH_ready (rs := [7]) (by kernel_rfl) (by simp) ?_
          refine (AllReadyH.cons (o := _) rfl (fun K hK => ?_) AllReadyH.nil)
          refine wp_store_row 34 (.tmp 6) (.tmp 21) rfl ga6 (iCells Y) rfl rfl 34 (iCells f0) HA6.out (HSY.out ()) (HZY.out ()) (iCells_one _) ?_
          refine hK.out _ _ (below_setRow hHeld hge6 _) (fun hHeld => ?_)
          clear hK K
          have HA5 := Lib.hid (row_far_setRow HA5.out (Ne.symm hne65) (iCells Y))
          have HA6 := Lib.hid (Row.setRow HA6.out (iCells Y))
          generalize w71.setRow ga6 (iCells Y) = w72 at hHeld HA6 HA5 ⊢
          (try simp only [List.getElem_toArray, List.getElem_cons_succ, List.getElem_cons_zero, Act.put])
          refine wpAnyH_done (by kernel_rfl) ?_ _
          go_wp2_with fail
          go_meet
          case rel => exact ⟨_, _, rfl, rfl, HA5.out, HA6.out, HB2.out.trans (hHeld.mono HB2.out.size)⟩
      · go_simp
        have hHeld0 := hHeld
        refine hK.out _ _ (hHeld.alloc hHeld.size _) (fun hHeld => ?_)
        clear hK K
        obtain ⟨ga5, hga5⟩ : ∃ g, w63.heap.size = g := ⟨_, rfl⟩
        have hge5 : w2.heap.size ≤ ga5 := by rw [← hga5]; exact hHeld0.size
        have hne65 : ga6 ≠ ga5 := by have := HA6.out.lt; omega
        have HA6 := Lib.hid (Row.alloc HA6.out (.cells (iCells f0) 34))
        have HA5 : Hid (Row (w63.alloc (.cells (iCells f0) 34)) ga5 34 (iCells f0)) := row_new _ _ hga5 _ _
        rw [hga5]
        generalize w63.alloc (.cells (iCells f0) 34) = w73 at hHeld HA6 HA5 ⊢
        clear hga5 hHeld0
        (try simp only [List.getElem_toArray, List.getElem_cons_succ, List.getElem_cons_zero, Act.put, List.setIfInBounds_toArray, List.set_cons_zero, List.set_cons_succ])
        refine wpAnyH_ready (rs := [1]) (by kernel_rfl) (by simp) ?_
        refine (AllReadyH.cons (o := _) rfl (fun K hK => ?_) AllReadyH.nil)
        go_simp
        refine (HLF.out _).mono ?_
        rintro e w74 ⟨rfl, hb⟩
        go_wp2_with fail
        have hN := hHeld.trans (hb.mono hHeld.size)
        have HA6 := Lib.hid (Row.box HA6.out hb)
        have HA5 := Lib.hid (Row.box HA5.out hb)
        clear hHeld hb
        refine hK.out _ _ hN (fun hHeld => ?_)
        clear hN hK K
        (try simp only [List.getElem_toArray, List.getElem_cons_succ, List.getElem_cons_zero, Act.put, List.setIfInBounds_toArray, List.set_cons_zero, List.set_cons_succ])
        refine wpAnyH_ready (rs := [3]) (by kernel_rfl) (by simp) ?_
        refine (AllReadyH.cons (o := _) rfl (fun K hK => ?_) AllReadyH.nil)
        go_simp
        refine (HLG.out _).mono ?_
        rintro e w75 ⟨rfl, hb⟩
        go_wp2_with fail
        have hN := hHeld.trans (hb.mono hHeld.size)
        have HA6 := Lib.hid (Row.box HA6.out hb)
        have HA5 := Lib.hid (Row.box HA5.out hb)
        clear hHeld hb
        refine hK.out _ _ hN (fun hHeld => ?_)
        clear hN hK K
        (try simp only [List.getElem_toArray, List.getElem_cons_succ, List.getElem_cons_zero, Act.put, List.setIfInBounds_toArray, List.set_cons_zero, List.set_cons_succ])
        refine wpAnyH_ready (rs := [6]) (by kernel_rfl) (by simp) ?_
        refine (AllReadyH.cons (o := _) rfl (fun K hK => ?_) AllReadyH.nil)
        refine wp_store_row 34 (.tmp 5) (.tmp 19) rfl ga5 (iCells X) rfl rfl 34 (iCells f0) HA5.out (HSX.out ()) (HZX.out ()) (iCells_one _) ?_
        refine hK.out _ _ (below_setRow hHeld hge5 _) (fun hHeld => ?_)
        clear hK K
        have HA6 := Lib.hid (row_far_setRow HA6.out hne65 (iCells X))
        have HA5 := Lib.hid (Row.setRow HA5.out (iCells X))
        generalize w75.setRow ga5 (iCells X) = w76 at hHeld HA6 HA5 ⊢
        (try simp only [List.getElem_toArray, List.getElem_cons_succ, List.getElem_cons_zero, Act.put])
        refine wpAnyH_ready (rs := [7]) (by kernel_rfl) (by simp) ?_
        refine (AllReadyH.cons (o := _) rfl (fun K hK => ?_) AllReadyH.nil)
        refine wp_store_row 34 (.tmp 6) (.tmp 21) rfl ga6 (iCells Y) rfl rfl 34 (iCells f0) HA6.out (HSY.out ()) (HZY.out ()) (iCells_one _) ?_
        refine hK.out _ _ (below_setRow hHeld hge6 _) (fun hHeld => ?_)
        clear hK K
        have HA5 := Lib.hid (row_far_setRow HA5.out (Ne.symm hne65) (iCells Y))
        have HA6 := Lib.hid (Row.setRow HA6.out (iCells Y))
        generalize w76.setRow ga6 (iCells Y) = w77 at hHeld HA6 HA5 ⊢
        (try simp only [List.getElem_toArray, List.getElem_cons_succ, List.getElem_cons_zero, Act.put])
        refine wpAnyH_done (by kernel_rfl) ?_ _
        go_wp2_with fail
        go_meet
        case rel => exact ⟨_, _, rfl, rfl, HA5.out, HA6.out, HB2.out.trans (hHeld.mono HB2.out.size)⟩
  case rest =>
    obtain ⟨g5, g6, rfl, rfl, h5, h6, hb⟩ := hcut
    have R5 := Lib.hid h5
    have R6 := Lib.hid h6
    have HB_0 := Lib.hid hb
    clear h5 h6 hb HB2 HR2a HR3a
    generalize wc = w0 at *
    go_wp2_with (first
        | (refine wpList_load_row rfl 34 (.tmp 5) rfl g5 rfl 34 (iCells X) (0, 0) _ R5.out Try.underlying34 rfl (HSX.out ()) ?_)
        | (refine wpList_load_row rfl 34 (.tmp 6) rfl g6 rfl 34 (iCells Y) (0, 0) _ R6.out Try.underlying34 rfl (HSY.out ()) ?_))
    refine (HW1.out _).mono ?_
    rintro e w1 ⟨rfl, hb⟩
    have R5_1 := Lib.hid (R5.out.box hb)
    have R6_1 := Lib.hid (R6.out.box hb)
    have HB_1 := Lib.hid (HB_0.out.trans (hb.mono HB_0.out.size))
    clear hb R5 R6 HB_0
    have H0 : Hid (Row ((w1.alloc (.cells (iCells f0) 34)).alloc (.cells (iCells f0) 34)) w1.heap.size 34 (iCells f0)) := heap_alloc2_old _ _ _
    have H1 : Hid (Row ((w1.alloc (.cells (iCells f0) 34)).alloc (.cells (iCells f0) 34)) (w1.heap.size + 1) 34 (iCells f0)) := heap_alloc2_new _ _ _
    have H2 : Hid (Row (((w1.alloc (.cells (iCells f0) 34)).alloc (.cells (iCells f0) 34)).setRow w1.heap.size (iCells A)) (w1.heap.size + 1) 34 (iCells f0)) := Lib.hid ((setRow_other _ _ _ _ (by omega)).trans H1.out)
    go_upto_region 5 with (first
        | (refine wpList_store_row rfl 34 (.tmp 7) (.tmp 26) rfl w1.heap.size (iCells A) rfl rfl 34 (iCells f0) H0.out (HSA.out ()) (HZA.out ()) (iCells_one _) ?_)
        | (refine wpList_store_row rfl 34 (.tmp 8) (.tmp 27) rfl (w1.heap.size + 1) (iCells B) rfl rfl 34 (iCells f0) H2.out (HSB.out ()) (HZB.out ()) (iCells_one _) ?_)
        | (refine wpList_load_row rfl 34 (.tmp 5) rfl g5 rfl 34 (iCells X) (0, 0) _ R5_1.out Try.underlying34 rfl (HSX.out ()) ?_)
        | (refine wpList_load_row rfl 34 (.tmp 6) rfl g6 rfl 34 (iCells Y) (0, 0) _ R6_1.out Try.underlying34 rfl (HSY.out ()) ?_))
    have hgs := HB_1.out.size
    have hbs : Below w1.heap.size w1 ((((w1.alloc (.cells (iCells f0) 34)).alloc (.cells (iCells f0) 34)).setRow w1.heap.size (iCells A)).setRow (w1.heap.size + 1) (iCells B)) := below_setRow (below_setRow (((Below.refl _ _).alloc (Nat.le_refl _) _).alloc (by simp) _) (Nat.le_refl _) _) (by omega) _
    have R5_2 := Lib.hid (R5_1.out.box hbs)
    have R6_2 := Lib.hid (R6_1.out.box hbs)
    have R7_2 : Hid (Row ((((w1.alloc (.cells (iCells f0) 34)).alloc (.cells (iCells f0) 34)).setRow w1.heap.size (iCells A)).setRow (w1.heap.size + 1) (iCells B)) w1.heap.size 34 (iCells A)) := Lib.hid ((setRow_other _ _ _ _ (by omega)).trans (Row.setRow H0.out (iCells A)))
    have R8_2 : Hid (Row ((((w1.alloc (.cells (iCells f0) 34)).alloc (.cells (iCells f0) 34)).setRow w1.heap.size (iCells A)).setRow (w1.heap.size + 1) (iCells B)) (w1.heap.size + 1) 34 (iCells B)) := Lib.hid (Row.setRow H2.out (iCells B))
    have HB_2 : Hid (Below w.heap.size w ((((w1.alloc (.cells (iCells f0) 34)).alloc (.cells (iCells f0) 34)).setRow w1.heap.size (iCells A)).setRow (w1.heap.size + 1) (iCells B))) := Lib.hid (HB_1.out.trans (hbs.mono hgs))
    clear H0 H1 H2 R5_1 R6_1 HB_1 hbs hgs
    generalize ((((w1.alloc (.cells (iCells f0) 34)).alloc (.cells (iCells f0) 34)).setRow w1.heap.size (iCells A)).setRow (w1.heap.size + 1) (iCells B)) = w2 at *
    generalize w1.heap.size + 1 = g8 at *
    generalize w1.heap.size = g7 at *
    go_wp2_with (first
        | (refine wpList_load_row rfl 34 (.tmp 7) rfl g7 rfl 34 (iCells A) (0, 0) _ R7_2.out Try.underlying34 rfl (HSA.out ()) ?_)
        | (refine wpList_load_row rfl 34 (.tmp 8) rfl g8 rfl 34 (iCells B) (0, 0) _ R8_2.out Try.underlying34 rfl (HSB.out ()) ?_))
    refine (HW3.out _).mono ?_
    rintro e w3 ⟨rfl, hb⟩
    have R5_3 := Lib.hid (R5_2.out.box hb)
    have R6_3 := Lib.hid (R6_2.out.box hb)
    have R7_3 := Lib.hid (R7_2.out.box hb)
    have R8_3 := Lib.hid (R8_2.out.box hb)
    have HB_3 := Lib.hid (HB_2.out.trans (hb.mono HB_2.out.size))
    clear hb R5_2 R6_2 R7_2 R8_2 HB_2
    have H0 : Hid (Row ((w3.alloc (.cells (iCells f0) 34)).alloc (.cells (iCells f0) 34)) w3.heap.size 34 (iCells f0)) := heap_alloc2_old _ _ _
    have H1 : Hid (Row ((w3.alloc (.cells (iCells f0) 34)).alloc (.cells (iCells f0) 34)) (w3.heap.size + 1) 34 (iCells f0)) := heap_alloc2_new _ _ _
    have H2 : Hid (Row (((w3.alloc (.cells (iCells f0) 34)).alloc (.cells (iCells f0) 34)).setRow w3.heap.size (iCells X)) (w3.heap.size + 1) 34 (iCells f0)) := Lib.hid ((setRow_other _ _ _ _ (by omega)).trans H1.out)
    go_upto_region 6 with (first
        | (refine wpList_store_row rfl 34 (.tmp 9) (.tmp 32) rfl w3.heap.size (iCells X) rfl rfl 34 (iCells f0) H0.out (HSX.out ()) (HZX.out ()) (iCells_one _) ?_)
        | (refine wpList_store_row rfl 34 (.tmp 10) (.tmp 33) rfl (w3.heap.size + 1) (iCells Y) rfl rfl 34 (iCells f0) H2.out (HSY.out ()) (HZY.out ()) (iCells_one _) ?_)
        | (refine wpList_load_row rfl 34 (.tmp 5) rfl g5 rfl 34 (iCells X) (0, 0) _ R5_3.out Try.underlying34 rfl (HSX.out ()) ?_)
        | (refine wpList_load_row rfl 34 (.tmp 6) rfl g6 rfl 34 (iCells Y) (0, 0) _ R6_3.out Try.underlying34 rfl (HSY.out ()) ?_)
        | (refine wpList_load_row rfl 34 (.tmp 7) rfl g7 rfl 34 (iCells A) (0, 0) _ R7_3.out Try.underlying34 rfl (HSA.out ()) ?_)
        | (refine wpList_load_row rfl 34 (.tmp 8) rfl g8 rfl 34 (iCells B) (0, 0) _ R8_3.out Try.underlying34 rfl (HSB.out ()) ?_))
    have hgs := HB_3.out.size
    have hbs : Below w3.heap.size w3 ((((w3.alloc (.cells (iCells f0) 34)).alloc (.cells (iCells f0) 34)).setRow w3.heap.size (iCells X)).setRow (w3.heap.size + 1) (iCells Y)) := below_setRow (below_setRow (((Below.refl _ _).alloc (Nat.le_refl _) _).alloc (by simp) _) (Nat.le_refl _) _) (by omega) _
    have R5_4 := Lib.hid (R5_3.out.box hbs)
    have R6_4 := Lib.hid (R6_3.out.box hbs)
    have R7_4 := Lib.hid (R7_3.out.box hbs)
    have R8_4 := Lib.hid (R8_3.out.box hbs)
    have R9_4 : Hid (Row ((((w3.alloc (.cells (iCells f0) 34)).alloc (.cells (iCells f0) 34)).setRow w3.heap.size (iCells X)).setRow (w3.heap.size + 1) (iCells Y)) w3.heap.size 34 (iCells X)) := Lib.hid ((setRow_other _ _ _ _ (by omega)).trans (Row.setRow H0.out (iCells X)))
    have R10_4 : Hid (Row ((((w3.alloc (.cells (iCells f0) 34)).alloc (.cells (iCells f0) 34)).setRow w3.heap.size (iCells X)).setRow (w3.heap.size + 1) (iCells Y)) (w3.heap.size + 1) 34 (iCells Y)) := Lib.hid (Row.setRow H2.out (iCells Y))
    have HB_4 : Hid (Below w.heap.size w ((((w3.alloc (.cells (iCells f0) 34)).alloc (.cells (iCells f0) 34)).setRow w3.heap.size (iCells X)).setRow (w3.heap.size + 1) (iCells Y))) := Lib.hid (HB_3.out.trans (hbs.mono hgs))
    clear H0 H1 H2 R5_3 R6_3 R7_3 R8_3 HB_3 hbs hgs
    generalize ((((w3.alloc (.cells (iCells f0) 34)).alloc (.cells (iCells f0) 34)).setRow w3.heap.size (iCells X)).setRow (w3.heap.size + 1) (iCells Y)) = w4 at *
    generalize w3.heap.size + 1 = g10 at *
    generalize w3.heap.size = g9 at *
    go_wp2_with (first
        | (refine wpList_load_row rfl 34 (.tmp 5) rfl g5 rfl 34 (iCells X) (0, 0) _ R5_4.out Try.underlying34 rfl (HSX.out ()) ?_)
        | (refine wpList_load_row rfl 34 (.tmp 6) rfl g6 rfl 34 (iCells Y) (0, 0) _ R6_4.out Try.underlying34 rfl (HSY.out ()) ?_))
    refine (HW2.out _).mono ?_
    rintro e w5 ⟨rfl, hb⟩
    have R5_5 := Lib.hid (R5_4.out.box hb)
    have R6_5 := Lib.hid (R6_4.out.box hb)
    have R7_5 := Lib.hid (R7_4.out.box hb)
    have R8_5 := Lib.hid (R8_4.out.box hb)
    have R9_5 := Lib.hid (R9_4.out.box hb)
    have R10_5 := Lib.hid (R10_4.out.box hb)
    have HB_5 := Lib.hid (HB_4.out.trans (hb.mono HB_4.out.size))
    clear hb R5_4 R6_4 R7_4 R8_4 R9_4 R10_4 HB_4
    have H0 : Hid (Row ((w5.alloc (.cells (iCells f0) 34)).alloc (.cells (iCells f0) 34)) w5.heap.size 34 (iCells f0)) := heap_alloc2_old _ _ _
    have H1 : Hid (Row ((w5.alloc (.cells (iCells f0) 34)).alloc (.cells (iCells f0) 34)) (w5.heap.size + 1) 34 (iCells f0)) := heap_alloc2_new _ _ _
    have H2 : Hid (Row (((w5.alloc (.cells (iCells f0) 34)).alloc (.cells (iCells f0) 34)).setRow w5.heap.size (iCells P)) (w5.heap.size + 1) 34 (iCells f0)) := Lib.hid ((setRow_other _ _ _ _ (by omega)).trans H1.out)
    go_upto_region 7 with (first
        | (refine wpList_store_row rfl 34 (.tmp 11) (.tmp 38) rfl w5.heap.size (iCells P) rfl rfl 34 (iCells f0) H0.out (HSP.out ()) (HZP.out ()) (iCells_one _) ?_)
        | (refine wpList_store_row rfl 34 (.tmp 12) (.tmp 39) rfl (w5.heap.size + 1) (iCells Q) rfl rfl 34 (iCells f0) H2.out (HSQ.out ()) (HZQ.out ()) (iCells_one _) ?_)
        | (refine wpList_load_row rfl 34 (.tmp 5) rfl g5 rfl 34 (iCells X) (0, 0) _ R5_5.out Try.underlying34 rfl (HSX.out ()) ?_)
        | (refine wpList_load_row rfl 34 (.tmp 6) rfl g6 rfl 34 (iCells Y) (0, 0) _ R6_5.out Try.underlying34 rfl (HSY.out ()) ?_)
        | (refine wpList_load_row rfl 34 (.tmp 7) rfl g7 rfl 34 (iCells A) (0, 0) _ R7_5.out Try.underlying34 rfl (HSA.out ()) ?_)
        | (refine wpList_load_row rfl 34 (.tmp 8) rfl g8 rfl 34 (iCells B) (0, 0) _ R8_5.out Try.underlying34 rfl (HSB.out ()) ?_)
        | (refine wpList_load_row rfl 34 (.tmp 9) rfl g9 rfl 34 (iCells X) (0, 0) _ R9_5.out Try.underlying34 rfl (HSX.out ()) ?_)
        | (refine wpList_load_row rfl 34 (.tmp 10) rfl g10 rfl 34 (iCells Y) (0, 0) _ R10_5.out Try.underlying34 rfl (HSY.out ()) ?_))
    have hgs := HB_5.out.size
    have hbs : Below w5.heap.size w5 ((((w5.alloc (.cells (iCells f0) 34)).alloc (.cells (iCells f0) 34)).setRow w5.heap.size (iCells P)).setRow (w5.heap.size + 1) (iCells Q)) := below_setRow (below_setRow (((Below.refl _ _).alloc (Nat.le_refl _) _).alloc (by simp) _) (Nat.le_refl _) _) (by omega) _
    have R5_6 := Lib.hid (R5_5.out.box hbs)
    have R6_6 := Lib.hid (R6_5.out.box hbs)
    have R7_6 := Lib.hid (R7_5.out.box hbs)
    have R8_6 := Lib.hid (R8_5.out.box hbs)
    have R9_6 := Lib.hid (R9_5.out.box hbs)
    have R10_6 := Lib.hid (R10_5.out.box hbs)
    have R11_6 : Hid (Row ((((w5.alloc (.cells (iCells f0) 34)).alloc (.cells (iCells f0) 34)).setRow w5.heap.size (iCells P)).setRow (w5.heap.size + 1) (iCells Q)) w5.heap.size 34 (iCells P)) := Lib.hid ((setRow_other _ _ _ _ (by omega)).trans (Row.setRow H0.out (iCells P)))
    have R12_6 : Hid (Row ((((w5.alloc (.cells (iCells f0) 34)).alloc (.cells (iCells f0) 34)).setRow w5.heap.size (iCells P)).setRow (w5.heap.size + 1) (iCells Q)) (w5.heap.size + 1) 34 (iCells Q)) := Lib.hid (Row.setRow H2.out (iCells Q))
    have HB_6 : Hid (Below w.heap.size w ((((w5.alloc (.cells (iCells f0) 34)).alloc (.cells (iCells f0) 34)).setRow w5.heap.size (iCells P)).setRow (w5.heap.size + 1) (iCells Q))) := Lib.hid (HB_5.out.trans (hbs.mono hgs))
    clear H0 H1 H2 R5_5 R6_5 R7_5 R8_5 R9_5 R10_5 HB_5 hbs hgs
    generalize ((((w5.alloc (.cells (iCells f0) 34)).alloc (.cells (iCells f0) 34)).setRow w5.heap.size (iCells P)).setRow (w5.heap.size + 1) (iCells Q)) = w6 at *
    generalize w5.heap.size + 1 = g12 at *
    generalize w5.heap.size = g11 at *
    go_wp2_with (first
        | (refine wpList_load_row rfl 34 (.tmp 11) rfl g11 rfl 34 (iCells P) (0, 0) _ R11_6.out Try.underlying34 rfl (HSP.out ()) ?_)
        | (refine wpList_load_row rfl 34 (.tmp 12) rfl g12 rfl 34 (iCells Q) (0, 0) _ R12_6.out Try.underlying34 rfl (HSQ.out ()) ?_))
    refine (HW4.out _).mono ?_
    rintro e w7 ⟨rfl, hb⟩
    have R5_7 := Lib.hid (R5_6.out.box hb)
    have R6_7 := Lib.hid (R6_6.out.box hb)
    have R7_7 := Lib.hid (R7_6.out.box hb)
    have R8_7 := Lib.hid (R8_6.out.box hb)
    have R9_7 := Lib.hid (R9_6.out.box hb)
    have R10_7 := Lib.hid (R10_6.out.box hb)
    have R11_7 := Lib.hid (R11_6.out.box hb)
    have R12_7 := Lib.hid (R12_6.out.box hb)
    have HB_7 := Lib.hid (HB_6.out.trans (hb.mono HB_6.out.size))
    clear hb R5_6 R6_6 R7_6 R8_6 R9_6 R10_6 R11_6 R12_6 HB_6
    have H0 : Hid (Row ((w7.alloc (.cells (iCells f0) 34)).alloc (.cells (iCells f0) 34)) w7.heap.size 34 (iCells f0)) := heap_alloc2_old _ _ _
    have H1 : Hid (Row ((w7.alloc (.cells (iCells f0) 34)).alloc (.cells (iCells f0) 34)) (w7.heap.size + 1) 34 (iCells f0)) := heap_alloc2_new _ _ _
    have H2 : Hid (Row (((w7.alloc (.cells (iCells f0) 34)).alloc (.cells (iCells f0) 34)).setRow w7.heap.size (iCells X)) (w7.heap.size + 1) 34 (iCells f0)) := Lib.hid ((setRow_other _ _ _ _ (by omega)).trans H1.out)
    go_upto_region 8 with (first
        | (refine wpList_store_row rfl 34 (.tmp 13) (.tmp 44) rfl w7.heap.size (iCells X) rfl rfl 34 (iCells f0) H0.out (HSX.out ()) (HZX.out ()) (iCells_one _) ?_)
        | (refine wpList_store_row rfl 34 (.tmp 14) (.tmp 45) rfl (w7.heap.size + 1) (iCells Y) rfl rfl 34 (iCells f0) H2.out (HSY.out ()) (HZY.out ()) (iCells_one _) ?_)
        | (refine wpList_load_row rfl 34 (.tmp 5) rfl g5 rfl 34 (iCells X) (0, 0) _ R5_7.out Try.underlying34 rfl (HSX.out ()) ?_)
        | (refine wpList_load_row rfl 34 (.tmp 6) rfl g6 rfl 34 (iCells Y) (0, 0) _ R6_7.out Try.underlying34 rfl (HSY.out ()) ?_)
        | (refine wpList_load_row rfl 34 (.tmp 7) rfl g7 rfl 34 (iCells A) (0, 0) _ R7_7.out Try.underlying34 rfl (HSA.out ()) ?_)
        | (refine wpList_load_row rfl 34 (.tmp 8) rfl g8 rfl 34 (iCells B) (0, 0) _ R8_7.out Try.underlying34 rfl (HSB.out ()) ?_)
        | (refine wpList_load_row rfl 34 (.tmp 9) rfl g9 rfl 34 (iCells X) (0, 0) _ R9_7.out Try.underlying34 rfl (HSX.out ()) ?_)
        | (refine wpList_load_row rfl 34 (.tmp 10) rfl g10 rfl 34 (iCells Y) (0, 0) _ R10_7.out Try.underlying34 rfl (HSY.out ()) ?_)
        | (refine wpList_load_row rfl 34 (.tmp 11) rfl g11 rfl 34 (iCells P) (0, 0) _ R11_7.out Try.underlying34 rfl (HSP.out ()) ?_)
        | (refine wpList_load_row rfl 34 (.tmp 12) rfl g12 rfl 34 (iCells Q) (0, 0) _ R12_7.out Try.underlying34 rfl (HSQ.out ()) ?_))
    have hgs := HB_7.out.size
    have hbs : Below w7.heap.size w7 ((((w7.alloc (.cells (iCells f0) 34)).alloc (.cells (iCells f0) 34)).setRow w7.heap.size (iCells X)).setRow (w7.heap.size + 1) (iCells Y)) := below_setRow (below_setRow (((Below.refl _ _).alloc (Nat.le_refl _) _).alloc (by simp) _) (Nat.le_refl _) _) (by omega) _
    have R5_8 := Lib.hid (R5_7.out.box hbs)
    have R6_8 := Lib.hid (R6_7.out.box hbs)
    have R7_8 := Lib.hid (R7_7.out.box hbs)
    have R8_8 := Lib.hid (R8_7.out.box hbs)
    have R9_8 := Lib.hid (R9_7.out.box hbs)
    have R10_8 := Lib.hid (R10_7.out.box hbs)
    have R11_8 := Lib.hid (R11_7.out.box hbs)
    have R12_8 := Lib.hid (R12_7.out.box hbs)
    have R13_8 : Hid (Row ((((w7.alloc (.cells (iCells f0) 34)).alloc (.cells (iCells f0) 34)).setRow w7.heap.size (iCells X)).setRow (w7.heap.size + 1) (iCells Y)) w7.heap.size 34 (iCells X)) := Lib.hid ((setRow_other _ _ _ _ (by omega)).trans (Row.setRow H0.out (iCells X)))
    have R14_8 : Hid (Row ((((w7.alloc (.cells (iCells f0) 34)).alloc (.cells (iCells f0) 34)).setRow w7.heap.size (iCells X)).setRow (w7.heap.size + 1) (iCells Y)) (w7.heap.size + 1) 34 (iCells Y)) := Lib.hid (Row.setRow H2.out (iCells Y))
    have HB_8 : Hid (Below w.heap.size w ((((w7.alloc (.cells (iCells f0) 34)).alloc (.cells (iCells f0) 34)).setRow w7.heap.size (iCells X)).setRow (w7.heap.size + 1) (iCells Y))) := Lib.hid (HB_7.out.trans (hbs.mono hgs))
    clear H0 H1 H2 R5_7 R6_7 R7_7 R8_7 R9_7 R10_7 R11_7 R12_7 HB_7 hbs hgs
    generalize ((((w7.alloc (.cells (iCells f0) 34)).alloc (.cells (iCells f0) 34)).setRow w7.heap.size (iCells X)).setRow (w7.heap.size + 1) (iCells Y)) = w8 at *
    generalize w7.heap.size + 1 = g14 at *
    generalize w7.heap.size = g13 at *
    go_wp2_with fail
    go_loopw [15] (fun ii wr => ∃ k : Nat, k ≤ 16 ∧ ii = .int .i64 k ∧ Below w8.heap.size w8 wr) (fun ii _ => 16 - (intOf ii).toNat)
    case atStart => exact ⟨0, by omega, rfl, Below.refl _ _⟩
    case round =>
      obtain ⟨k, hk, rfl, hb⟩ := hrel
      rcases Nat.lt_or_ge k 16 with hlt | hge
      · have c5 := (hb.cell (p := ⟨g5, k, none⟩) (Row.lt R5_8.out)).trans (i_at R5_8.out k (by rw [HLX.out]; omega))
        have c7 := (hb.cell (p := ⟨g7, k, none⟩) (Row.lt R7_8.out)).trans (i_at R7_8.out k (by rw [HLA.out]; omega))
        have c6 := (hb.cell (p := ⟨g6, 31 - k, none⟩) (Row.lt R6_8.out)).trans (i_at R6_8.out (31 - k) (by rw [HLY.out]; omega))
        have c8 := (hb.cell (p := ⟨g8, 31 - k, none⟩) (Row.lt R8_8.out)).trans (i_at R8_8.out (31 - k) (by rw [HLB.out]; omega))
        rw [HAX.out k hlt] at c7
        rw [HBY.out k hlt] at c8
        obtain ⟨x, hx⟩ : ∃ x, X.getD k 0 = x := ⟨_, rfl⟩
        obtain ⟨y, hy⟩ : ∃ y, Y.getD (31 - k) 0 = y := ⟨_, rfl⟩
        rw [hx] at c5 c7
        rw [hy] at c6 c8
        have hkI : (k : Int) < 32 := by omega
        have hiI : (31 : Int) - (k : Int) = ((31 - k : Nat) : Int) := by omega
        have hdI : ((31 - k : Nat) : Int) < 32 := by omega
        generalize 31 - k = d at *
        have hw1 : IntKind.i64.wrap (d : Int) = d := by rw [IntKind.wrap_i64]; omega
        have HK := Lib.hid hlt
        have HBB := Lib.hid hb
        clear hx hy hb hk
        go_wp2_with fail
        go_big_quiet (fail)
        go_wp2_with fail
        go_roundw
        case rel => exact ⟨k + 1, HK.out, by go_num, Below.drewN HBB.out nq⟩
        case measure =>
          have := HK.out
          simp only [intOf]
          omega
      · obtain rfl : k = 16 := by omega
        clear hk hge
        have R5_9 := Lib.hid (R5_8.out.box hb)
        have R6_9 := Lib.hid (R6_8.out.box hb)
        have R7_9 := Lib.hid (R7_8.out.box hb)
        have R8_9 := Lib.hid (R8_8.out.box hb)
        have R9_9 := Lib.hid (R9_8.out.box hb)
        have R10_9 := Lib.hid (R10_8.out.box hb)
        have R11_9 := Lib.hid (R11_8.out.box hb)
        have R12_9 := Lib.hid (R12_8.out.box hb)
        have R13_9 := Lib.hid (R13_8.out.box hb)
        have R14_9 := Lib.hid (R14_8.out.box hb)
        have HB_9 := Lib.hid (HB_8.out.trans (hb.mono HB_8.out.size))
        clear hb R5_8 R6_8 R7_8 R8_8 R9_8 R10_8 R11_8 R12_8 R13_8 R14_8 HB_8
        generalize wr = w9 at *
        have hq1 := HQ1.out
        have hq2 := HQ2.out
        clear hz
        go_wp2_with (first
            | (refine wpList_load_row rfl 34 (.tmp 5) rfl g5 rfl 34 (iCells X) (0, 0) _ R5_9.out Try.underlying34 rfl (HSX.out ()) ?_)
            | (refine wpList_load_row rfl 34 (.tmp 9) rfl g9 rfl 34 (iCells X) (0, 0) _ R9_9.out Try.underlying34 rfl (HSX.out ()) ?_)
            | (refine g_load_row (by rfl) 34 (.tmp 10) rfl g10 rfl 34 (iCells Y) (0, 0) _ R10_9.out Try.underlying34 rfl (HSY.out ()) ?_)
            | (refine g_load_row (by rfl) 34 (.tmp 6) rfl g6 rfl 34 (iCells Y) (0, 0) _ R6_9.out Try.underlying34 rfl (HSY.out ()) ?_)
            | (refine g_load_row (by rfl) 34 (.tmp 13) rfl g13 rfl 34 (iCells X) (0, 0) _ R13_9.out Try.underlying34 rfl (HSX.out ()) ?_)
            | (refine g_load_row (by rfl) 34 (.tmp 5) rfl g5 rfl 34 (iCells X) (0, 0) _ R5_9.out Try.underlying34 rfl (HSX.out ()) ?_)
            | (refine g_load_row (by rfl) 34 (.tmp 14) rfl g14 rfl 34 (iCells Y) (0, 0) _ R14_9.out Try.underlying34 rfl (HSY.out ()) ?_))
        go_ret
        exact ⟨rfl, HB_9.out⟩
end Go.Proofs.Ytdnchnhflfcdkaa
