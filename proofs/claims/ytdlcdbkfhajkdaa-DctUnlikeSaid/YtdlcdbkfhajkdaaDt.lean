/-
  Promise 10.2, DctUnlike: unlike frames have unlike waves. Conditions: frames of 32 ints.
-/
import Derived.Test.YtdlcdbkfhajkdaaDq
import Derived.Lib.QuietBelow
import Derived.Deep.Cut
import Derived.OrdersHeld
import Derived.Deep.RegionHeld
namespace Go.Proofs.Ytdlcdbkfhajkdaa
open Go.RowKit
open M
theorem row_far_setRow {w : World} {g h : Nat} {t : TypeId} {cs : Array Value} (hr : Row w g t cs) (hne : g ≠ h) (ds : Array Value) : Row (w.setRow h ds) g t cs := (setRow_other w h g ds hne).trans hr
/-- A whole row is read, in every world that has what was there. -/
theorem yieldsRow {ops : Array Oper} {op : Oper} {a : Act} {W0 : World} (hw : Region.wanted op (yielded ops a.tmps) = true) (ty : TypeId) (x : Operand) (ho : op.op = .load ty x)
    (g : Nat) (hx : a.eval x = .pointer (some ⟨g, 0, none⟩)) (t : TypeId) (cs : Array Value) (hr : Row W0 g t cs) {n : Nat} {e : TypeId} (hu : Try.prog.underlying ty = some (.array n e))
    (hi : (Try.prog.info? ty).map (·.size) = some cs.size) : YieldsIf Try.prog ops (fun w' => Below W0.heap.size W0 w') op (.agg cs) a :=
  .inl ⟨hw, fun w hw' => by
    unfold execOp
    simp only [ho, hx, Instr.loadAt, Instr.sureAddr, Sem.run_bind, Sem.run_pure, Result.andThen_ok, run_loadVar_row w g t ty cs (0, 0) _ (hr.below hw' hr.lt) hu rfl hi]⟩
theorem wav_same (a b : List Int) (ha : a.length = 32) (hb : b.length = 32) : (wav a == wav b) = (a == b) := by
  rw [Bool.eq_iff_iff, beq_iff_eq, beq_iff_eq]
  constructor
  · intro h
    rw [← wbk_wav a ha, ← wbk_wav b hb, h]
  · rintro rfl
    rfl
set_option maxRecDepth 100000 in
set_option maxHeartbeats 2000000 in
theorem unlike_law (f g : List Int) (w : World) (hf : f.length = 32) (hg : g.length = 32) :
    Calls Try.prog 4 #[.agg (iCells f), .agg (iCells g)] w fun e w' => e = .returned (.bool true) ∧ Below w.heap.size w w' := by
  have HR2 : Hid (Row ((w.alloc (.cells (iCells f) 22)).alloc (.cells (iCells g) 22)) w.heap.size 22 (iCells f)) := heap_alloc2_old _ _ _
  have HR3 : Hid (Row ((w.alloc (.cells (iCells f) 22)).alloc (.cells (iCells g) 22)) (w.heap.size + 1) 22 (iCells g)) := heap_alloc2_new _ _ _
  have HB0 : Hid (Below w.heap.size w ((w.alloc (.cells (iCells f) 22)).alloc (.cells (iCells g) 22))) := ((Below.refl _ _).alloc (Nat.le_refl _) _).alloc (by simp) _
  have HSF := Lib.hid (nums_size f hf)
  have HSG := Lib.hid (nums_size g hg)
  have HLF := Lib.hid fun W => lheld_any f W hf
  have HLG := Lib.hid fun W => lheld_any g W hg
  have HAW := Lib.hid fun W => lawake_any W
  have HSX := Lib.hid (frame_size (hd24 f 32) (hd24_len f 32))
  have HSY := Lib.hid (frame_size (hd24 g 32) (hd24_len g 32))
  have HZX := Lib.hid (frame_same f0 (hd24 f 32) f0_length (hd24_len f 32))
  have HZY := Lib.hid (frame_same f0 (hd24 g 32) f0_length (hd24_len g 32))
  have HW1 := Lib.hid fun W => waves_in (hd24 f 32) W (hd24_held f)
  have HW2 := Lib.hid fun W => waves_in (hd24 g 32) W (hd24_held g)
  have hq1 := frame_eq (wav (hd24 f 32)) (wav (hd24 g 32)) (wav_len _) (wav_len _)
  rw [wav_same _ _ (hd24_len f 32) (hd24_len g 32)] at hq1
  have hq2 := frame_eq (hd24 f 32) (hd24 g 32) (hd24_len f 32) (hd24_len g 32)
  have HQ1 := Lib.hid hq1
  have HQ2 := Lib.hid hq2
  have hz := fun w => frame_zero w
  clear hf hg hq1 hq2
  generalize wav (hd24 f 32) = A at *
  generalize wav (hd24 g 32) = B at *
  generalize hd24 f 32 = X at *
  generalize hd24 g 32 = Y at *
  generalize (X == Y) = t at *
  go_enter Try.func4, Try.ntmps4
  go_upto_region 1 with fail
  generalize (w.alloc (.cells (iCells f) 22)).alloc (.cells (iCells g) 22) = w2 at *
  go_cut [5, 6] from 7 (fun s5 s6 W => ∃ g5 g6 : Nat, s5 = .pointer (some ⟨g5, 0, none⟩) ∧ s6 = .pointer (some ⟨g6, 0, none⟩) ∧ Row W g5 23 (iCells X) ∧ Row W g6 23 (iCells Y) ∧ Below w.heap.size w W)
  case first =>
    refine wp_region_held_drew (S := fun w' => Below w2.heap.size w2 w') (by kernel_rfl) ?_ (fun hHeld => ?_)
    · exact below_drew1 (Below.refl _ _)
    generalize w2.drew = w4 at hHeld ⊢
    refine wpAnyH_take (i := 0) (oi := _) rfl (by kernel_rfl) (by kernel_rfl) (by kernel_rfl) (fun _ _ _ h => h) (yieldsRow (by rfl) 22 (.tmp 2) rfl w.heap.size rfl 22 (iCells f) HR2.out Try.underlying22 HSF.out) hHeld ?_
    (try simp only [List.getElem_toArray, List.getElem_cons_zero, Act.put, List.setIfInBounds_toArray, List.set_cons_zero, List.set_cons_succ])
    refine wpAnyH_take (i := 2) (oi := _) rfl (by kernel_rfl) (by kernel_rfl) (by kernel_rfl) (fun _ _ _ h => h) (yieldsRow (by rfl) 22 (.tmp 3) rfl (w.heap.size + 1) rfl 22 (iCells g) HR3.out Try.underlying22 HSG.out) hHeld ?_
    (try simp only [List.getElem_toArray, List.getElem_cons_succ, List.getElem_cons_zero, Act.put, List.setIfInBounds_toArray, List.set_cons_zero, List.set_cons_succ])
    refine wpAnyH_ready (rs := [1, 4, 5]) (by kernel_rfl) (by simp) ?_
    refine (AllReadyH.cons (o := _) rfl (fun K hK => ?_) (AllReadyH.cons (o := _) rfl (fun K hK => ?_) (AllReadyH.cons (o := _) rfl (fun K hK => ?_) AllReadyH.nil)))
    · go_simp
      refine (HLF.out _).mono ?_
      rintro e w20 ⟨rfl, hb⟩
      go_wp2_with fail
      have hN := hHeld.trans (hb.mono hHeld.size)
      clear hHeld hb
      refine hK.out _ _ hN (fun hHeld => ?_)
      clear hN hK K
      (try simp only [List.getElem_toArray, List.getElem_cons_succ, List.getElem_cons_zero, Act.put, List.setIfInBounds_toArray, List.set_cons_zero, List.set_cons_succ])
      refine wpAnyH_ready (rs := [3, 4, 5]) (by kernel_rfl) (by simp) ?_
      refine (AllReadyH.cons (o := _) rfl (fun K hK => ?_) (AllReadyH.cons (o := _) rfl (fun K hK => ?_) (AllReadyH.cons (o := _) rfl (fun K hK => ?_) AllReadyH.nil)))
      · go_simp
        refine (HLG.out _).mono ?_
        rintro e w21 ⟨rfl, hb⟩
        go_wp2_with fail
        have hN := hHeld.trans (hb.mono hHeld.size)
        clear hHeld hb
        refine hK.out _ _ hN (fun hHeld => ?_)
        clear hN hK K
        (try simp only [List.getElem_toArray, List.getElem_cons_succ, List.getElem_cons_zero, Act.put, List.setIfInBounds_toArray, List.set_cons_zero, List.set_cons_succ])
        refine wpAnyH_ready (rs := [4, 5]) (by kernel_rfl) (by simp) ?_
        refine (AllReadyH.cons (o := _) rfl (fun K hK => ?_) (AllReadyH.cons (o := _) rfl (fun K hK => ?_) AllReadyH.nil))
        · go_simp
          have hHeld0 := hHeld
          refine hK.out _ _ (hHeld.alloc hHeld.size _) (fun hHeld => ?_)
          clear hK K
          obtain ⟨ga5, hga5⟩ : ∃ g, w21.heap.size = g := ⟨_, rfl⟩
          have hge5 : w2.heap.size ≤ ga5 := by rw [← hga5]; exact hHeld0.size
          have HA5 : Hid (Row (w21.alloc (.cells (iCells f0) 23)) ga5 23 (iCells f0)) := row_new _ _ hga5 _ _
          rw [hga5]
          generalize w21.alloc (.cells (iCells f0) 23) = w22 at hHeld HA5 ⊢
          clear hga5 hHeld0
          (try simp only [List.getElem_toArray, List.getElem_cons_succ, List.getElem_cons_zero, Act.put, List.setIfInBounds_toArray, List.set_cons_zero, List.set_cons_succ])
          refine wpAnyH_ready (rs := [5]) (by kernel_rfl) (by simp) ?_
          refine (AllReadyH.cons (o := _) rfl (fun K hK => ?_) AllReadyH.nil)
          go_simp
          have hHeld0 := hHeld
          refine hK.out _ _ (hHeld.alloc hHeld.size _) (fun hHeld => ?_)
          clear hK K
          obtain ⟨ga6, hga6⟩ : ∃ g, w22.heap.size = g := ⟨_, rfl⟩
          have hge6 : w2.heap.size ≤ ga6 := by rw [← hga6]; exact hHeld0.size
          have hne56 : ga5 ≠ ga6 := by have := HA5.out.lt; omega
          have HA5 := Lib.hid (Row.alloc HA5.out (.cells (iCells f0) 23))
          have HA6 : Hid (Row (w22.alloc (.cells (iCells f0) 23)) ga6 23 (iCells f0)) := row_new _ _ hga6 _ _
          rw [hga6]
          generalize w22.alloc (.cells (iCells f0) 23) = w23 at hHeld HA5 HA6 ⊢
          clear hga6 hHeld0
          (try simp only [List.getElem_toArray, List.getElem_cons_succ, List.getElem_cons_zero, Act.put, List.setIfInBounds_toArray, List.set_cons_zero, List.set_cons_succ])
          refine wpAnyH_ready (rs := [6]) (by kernel_rfl) (by simp) ?_
          refine (AllReadyH.cons (o := _) rfl (fun K hK => ?_) AllReadyH.nil)
          refine wp_store_row 23 (.tmp 5) (.tmp 8) rfl ga5 (iCells X) rfl rfl 23 (iCells f0) HA5.out HSX.out HZX.out (iCells_one _) ?_
          refine hK.out _ _ (below_setRow hHeld hge5 _) (fun hHeld => ?_)
          clear hK K
          have HA6 := Lib.hid (row_far_setRow HA6.out (Ne.symm hne56) (iCells X))
          have HA5 := Lib.hid (Row.setRow HA5.out (iCells X))
          generalize w23.setRow ga5 (iCells X) = w24 at hHeld HA5 HA6 ⊢
          (try simp only [List.getElem_toArray, List.getElem_cons_succ, List.getElem_cons_zero, Act.put])
          refine wpAnyH_ready (rs := [7]) (by kernel_rfl) (by simp) ?_
          refine (AllReadyH.cons (o := _) rfl (fun K hK => ?_) AllReadyH.nil)
          refine wp_store_row 23 (.tmp 6) (.tmp 10) rfl ga6 (iCells Y) rfl rfl 23 (iCells f0) HA6.out HSY.out HZY.out (iCells_one _) ?_
          refine hK.out _ _ (below_setRow hHeld hge6 _) (fun hHeld => ?_)
          clear hK K
          have HA5 := Lib.hid (row_far_setRow HA5.out hne56 (iCells Y))
          have HA6 := Lib.hid (Row.setRow HA6.out (iCells Y))
          generalize w24.setRow ga6 (iCells Y) = w25 at hHeld HA5 HA6 ⊢
          (try simp only [List.getElem_toArray, List.getElem_cons_succ, List.getElem_cons_zero, Act.put])
          refine wpAnyH_done (by kernel_rfl) ?_ _
          go_wp2_with fail
          go_meet
          case rel => exact ⟨_, _, rfl, rfl, HA5.out, HA6.out, HB0.out.trans (hHeld.mono HB0.out.size)⟩
        · go_simp
          have hHeld0 := hHeld
          refine hK.out _ _ (hHeld.alloc hHeld.size _) (fun hHeld => ?_)
          clear hK K
          obtain ⟨ga6, hga6⟩ : ∃ g, w21.heap.size = g := ⟨_, rfl⟩
          have hge6 : w2.heap.size ≤ ga6 := by rw [← hga6]; exact hHeld0.size
          have HA6 : Hid (Row (w21.alloc (.cells (iCells f0) 23)) ga6 23 (iCells f0)) := row_new _ _ hga6 _ _
          rw [hga6]
          generalize w21.alloc (.cells (iCells f0) 23) = w26 at hHeld HA6 ⊢
          clear hga6 hHeld0
          (try simp only [List.getElem_toArray, List.getElem_cons_succ, List.getElem_cons_zero, Act.put, List.setIfInBounds_toArray, List.set_cons_zero, List.set_cons_succ])
          refine wpAnyH_ready (rs := [4]) (by kernel_rfl) (by simp) ?_
          refine (AllReadyH.cons (o := _) rfl (fun K hK => ?_) AllReadyH.nil)
          go_simp
          have hHeld0 := hHeld
          refine hK.out _ _ (hHeld.alloc hHeld.size _) (fun hHeld => ?_)
          clear hK K
          obtain ⟨ga5, hga5⟩ : ∃ g, w26.heap.size = g := ⟨_, rfl⟩
          have hge5 : w2.heap.size ≤ ga5 := by rw [← hga5]; exact hHeld0.size
          have hne65 : ga6 ≠ ga5 := by have := HA6.out.lt; omega
          have HA6 := Lib.hid (Row.alloc HA6.out (.cells (iCells f0) 23))
          have HA5 : Hid (Row (w26.alloc (.cells (iCells f0) 23)) ga5 23 (iCells f0)) := row_new _ _ hga5 _ _
          rw [hga5]
          generalize w26.alloc (.cells (iCells f0) 23) = w27 at hHeld HA6 HA5 ⊢
          clear hga5 hHeld0
          (try simp only [List.getElem_toArray, List.getElem_cons_succ, List.getElem_cons_zero, Act.put, List.setIfInBounds_toArray, List.set_cons_zero, List.set_cons_succ])
          refine wpAnyH_ready (rs := [6]) (by kernel_rfl) (by simp) ?_
          refine (AllReadyH.cons (o := _) rfl (fun K hK => ?_) AllReadyH.nil)
          refine wp_store_row 23 (.tmp 5) (.tmp 8) rfl ga5 (iCells X) rfl rfl 23 (iCells f0) HA5.out HSX.out HZX.out (iCells_one _) ?_
          refine hK.out _ _ (below_setRow hHeld hge5 _) (fun hHeld => ?_)
          clear hK K
          have HA6 := Lib.hid (row_far_setRow HA6.out hne65 (iCells X))
          have HA5 := Lib.hid (Row.setRow HA5.out (iCells X))
          generalize w27.setRow ga5 (iCells X) = w28 at hHeld HA6 HA5 ⊢
          (try simp only [List.getElem_toArray, List.getElem_cons_succ, List.getElem_cons_zero, Act.put])
          refine wpAnyH_ready (rs := [7]) (by kernel_rfl) (by simp) ?_
          refine (AllReadyH.cons (o := _) rfl (fun K hK => ?_) AllReadyH.nil)
          refine wp_store_row 23 (.tmp 6) (.tmp 10) rfl ga6 (iCells Y) rfl rfl 23 (iCells f0) HA6.out HSY.out HZY.out (iCells_one _) ?_
          refine hK.out _ _ (below_setRow hHeld hge6 _) (fun hHeld => ?_)
          clear hK K
          have HA5 := Lib.hid (row_far_setRow HA5.out (Ne.symm hne65) (iCells Y))
          have HA6 := Lib.hid (Row.setRow HA6.out (iCells Y))
          generalize w28.setRow ga6 (iCells Y) = w29 at hHeld HA6 HA5 ⊢
          (try simp only [List.getElem_toArray, List.getElem_cons_succ, List.getElem_cons_zero, Act.put])
          refine wpAnyH_done (by kernel_rfl) ?_ _
          go_wp2_with fail
          go_meet
          case rel => exact ⟨_, _, rfl, rfl, HA5.out, HA6.out, HB0.out.trans (hHeld.mono HB0.out.size)⟩
      · go_simp
        have hHeld0 := hHeld
        refine hK.out _ _ (hHeld.alloc hHeld.size _) (fun hHeld => ?_)
        clear hK K
        obtain ⟨ga5, hga5⟩ : ∃ g, w20.heap.size = g := ⟨_, rfl⟩
        have hge5 : w2.heap.size ≤ ga5 := by rw [← hga5]; exact hHeld0.size
        have HA5 : Hid (Row (w20.alloc (.cells (iCells f0) 23)) ga5 23 (iCells f0)) := row_new _ _ hga5 _ _
        rw [hga5]
        generalize w20.alloc (.cells (iCells f0) 23) = w30 at hHeld HA5 ⊢
        clear hga5 hHeld0
        (try simp only [List.getElem_toArray, List.getElem_cons_succ, List.getElem_cons_zero, Act.put, List.setIfInBounds_toArray, List.set_cons_zero, List.set_cons_succ])
        refine wpAnyH_ready (rs := [3, 5]) (by kernel_rfl) (by simp) ?_
        refine (AllReadyH.cons (o := _) rfl (fun K hK => ?_) (AllReadyH.cons (o := _) rfl (fun K hK => ?_) AllReadyH.nil))
        · go_simp
          refine (HLG.out _).mono ?_
          rintro e w31 ⟨rfl, hb⟩
          go_wp2_with fail
          have hN := hHeld.trans (hb.mono hHeld.size)
          have HA5 := Lib.hid (Row.box HA5.out hb)
          clear hHeld hb
          refine hK.out _ _ hN (fun hHeld => ?_)
          clear hN hK K
          (try simp only [List.getElem_toArray, List.getElem_cons_succ, List.getElem_cons_zero, Act.put, List.setIfInBounds_toArray, List.set_cons_zero, List.set_cons_succ])
          refine wpAnyH_ready (rs := [5]) (by kernel_rfl) (by simp) ?_
          refine (AllReadyH.cons (o := _) rfl (fun K hK => ?_) AllReadyH.nil)
          go_simp
          have hHeld0 := hHeld
          refine hK.out _ _ (hHeld.alloc hHeld.size _) (fun hHeld => ?_)
          clear hK K
          obtain ⟨ga6, hga6⟩ : ∃ g, w31.heap.size = g := ⟨_, rfl⟩
          have hge6 : w2.heap.size ≤ ga6 := by rw [← hga6]; exact hHeld0.size
          have hne56 : ga5 ≠ ga6 := by have := HA5.out.lt; omega
          have HA5 := Lib.hid (Row.alloc HA5.out (.cells (iCells f0) 23))
          have HA6 : Hid (Row (w31.alloc (.cells (iCells f0) 23)) ga6 23 (iCells f0)) := row_new _ _ hga6 _ _
          rw [hga6]
          generalize w31.alloc (.cells (iCells f0) 23) = w32 at hHeld HA5 HA6 ⊢
          clear hga6 hHeld0
          (try simp only [List.getElem_toArray, List.getElem_cons_succ, List.getElem_cons_zero, Act.put, List.setIfInBounds_toArray, List.set_cons_zero, List.set_cons_succ])
          refine wpAnyH_ready (rs := [6]) (by kernel_rfl) (by simp) ?_
          refine (AllReadyH.cons (o := _) rfl (fun K hK => ?_) AllReadyH.nil)
          refine wp_store_row 23 (.tmp 5) (.tmp 8) rfl ga5 (iCells X) rfl rfl 23 (iCells f0) HA5.out HSX.out HZX.out (iCells_one _) ?_
          refine hK.out _ _ (below_setRow hHeld hge5 _) (fun hHeld => ?_)
          clear hK K
          have HA6 := Lib.hid (row_far_setRow HA6.out (Ne.symm hne56) (iCells X))
          have HA5 := Lib.hid (Row.setRow HA5.out (iCells X))
          generalize w32.setRow ga5 (iCells X) = w33 at hHeld HA5 HA6 ⊢
          (try simp only [List.getElem_toArray, List.getElem_cons_succ, List.getElem_cons_zero, Act.put])
          refine wpAnyH_ready (rs := [7]) (by kernel_rfl) (by simp) ?_
          refine (AllReadyH.cons (o := _) rfl (fun K hK => ?_) AllReadyH.nil)
          refine wp_store_row 23 (.tmp 6) (.tmp 10) rfl ga6 (iCells Y) rfl rfl 23 (iCells f0) HA6.out HSY.out HZY.out (iCells_one _) ?_
          refine hK.out _ _ (below_setRow hHeld hge6 _) (fun hHeld => ?_)
          clear hK K
          have HA5 := Lib.hid (row_far_setRow HA5.out hne56 (iCells Y))
          have HA6 := Lib.hid (Row.setRow HA6.out (iCells Y))
          generalize w33.setRow ga6 (iCells Y) = w34 at hHeld HA5 HA6 ⊢
          (try simp only [List.getElem_toArray, List.getElem_cons_succ, List.getElem_cons_zero, Act.put])
          refine wpAnyH_done (by kernel_rfl) ?_ _
          go_wp2_with fail
          go_meet
          case rel => exact ⟨_, _, rfl, rfl, HA5.out, HA6.out, HB0.out.trans (hHeld.mono HB0.out.size)⟩
        · go_simp
          have hHeld0 := hHeld
          refine hK.out _ _ (hHeld.alloc hHeld.size _) (fun hHeld => ?_)
          clear hK K
          obtain ⟨ga6, hga6⟩ : ∃ g, w30.heap.size = g := ⟨_, rfl⟩
          have hge6 : w2.heap.size ≤ ga6 := by rw [← hga6]; exact hHeld0.size
          have hne56 : ga5 ≠ ga6 := by have := HA5.out.lt; omega
          have HA5 := Lib.hid (Row.alloc HA5.out (.cells (iCells f0) 23))
          have HA6 : Hid (Row (w30.alloc (.cells (iCells f0) 23)) ga6 23 (iCells f0)) := row_new _ _ hga6 _ _
          rw [hga6]
          generalize w30.alloc (.cells (iCells f0) 23) = w35 at hHeld HA5 HA6 ⊢
          clear hga6 hHeld0
          (try simp only [List.getElem_toArray, List.getElem_cons_succ, List.getElem_cons_zero, Act.put, List.setIfInBounds_toArray, List.set_cons_zero, List.set_cons_succ])
          refine wpAnyH_ready (rs := [3]) (by kernel_rfl) (by simp) ?_
          refine (AllReadyH.cons (o := _) rfl (fun K hK => ?_) AllReadyH.nil)
          go_simp
          refine (HLG.out _).mono ?_
          rintro e w36 ⟨rfl, hb⟩
          go_wp2_with fail
          have hN := hHeld.trans (hb.mono hHeld.size)
          have HA5 := Lib.hid (Row.box HA5.out hb)
          have HA6 := Lib.hid (Row.box HA6.out hb)
          clear hHeld hb
          refine hK.out _ _ hN (fun hHeld => ?_)
          clear hN hK K
          (try simp only [List.getElem_toArray, List.getElem_cons_succ, List.getElem_cons_zero, Act.put, List.setIfInBounds_toArray, List.set_cons_zero, List.set_cons_succ])
          refine wpAnyH_ready (rs := [6]) (by kernel_rfl) (by simp) ?_
          refine (AllReadyH.cons (o := _) rfl (fun K hK => ?_) AllReadyH.nil)
          refine wp_store_row 23 (.tmp 5) (.tmp 8) rfl ga5 (iCells X) rfl rfl 23 (iCells f0) HA5.out HSX.out HZX.out (iCells_one _) ?_
          refine hK.out _ _ (below_setRow hHeld hge5 _) (fun hHeld => ?_)
          clear hK K
          have HA6 := Lib.hid (row_far_setRow HA6.out (Ne.symm hne56) (iCells X))
          have HA5 := Lib.hid (Row.setRow HA5.out (iCells X))
          generalize w36.setRow ga5 (iCells X) = w37 at hHeld HA5 HA6 ⊢
          (try simp only [List.getElem_toArray, List.getElem_cons_succ, List.getElem_cons_zero, Act.put])
          refine wpAnyH_ready (rs := [7]) (by kernel_rfl) (by simp) ?_
          refine (AllReadyH.cons (o := _) rfl (fun K hK => ?_) AllReadyH.nil)
          refine wp_store_row 23 (.tmp 6) (.tmp 10) rfl ga6 (iCells Y) rfl rfl 23 (iCells f0) HA6.out HSY.out HZY.out (iCells_one _) ?_
          refine hK.out _ _ (below_setRow hHeld hge6 _) (fun hHeld => ?_)
          clear hK K
          have HA5 := Lib.hid (row_far_setRow HA5.out hne56 (iCells Y))
          have HA6 := Lib.hid (Row.setRow HA6.out (iCells Y))
          generalize w37.setRow ga6 (iCells Y) = w38 at hHeld HA5 HA6 ⊢
          (try simp only [List.getElem_toArray, List.getElem_cons_succ, List.getElem_cons_zero, Act.put])
          refine wpAnyH_done (by kernel_rfl) ?_ _
          go_wp2_with fail
          go_meet
          case rel => exact ⟨_, _, rfl, rfl, HA5.out, HA6.out, HB0.out.trans (hHeld.mono HB0.out.size)⟩
      · go_simp
        have hHeld0 := hHeld
        refine hK.out _ _ (hHeld.alloc hHeld.size _) (fun hHeld => ?_)
        clear hK K
        obtain ⟨ga6, hga6⟩ : ∃ g, w20.heap.size = g := ⟨_, rfl⟩
        have hge6 : w2.heap.size ≤ ga6 := by rw [← hga6]; exact hHeld0.size
        have HA6 : Hid (Row (w20.alloc (.cells (iCells f0) 23)) ga6 23 (iCells f0)) := row_new _ _ hga6 _ _
        rw [hga6]
        generalize w20.alloc (.cells (iCells f0) 23) = w39 at hHeld HA6 ⊢
        clear hga6 hHeld0
        (try simp only [List.getElem_toArray, List.getElem_cons_succ, List.getElem_cons_zero, Act.put, List.setIfInBounds_toArray, List.set_cons_zero, List.set_cons_succ])
        refine wpAnyH_ready (rs := [3, 4]) (by kernel_rfl) (by simp) ?_
        refine (AllReadyH.cons (o := _) rfl (fun K hK => ?_) (AllReadyH.cons (o := _) rfl (fun K hK => ?_) AllReadyH.nil))
        · go_simp
          refine (HLG.out _).mono ?_
          rintro e w40 ⟨rfl, hb⟩
          go_wp2_with fail
          have hN := hHeld.trans (hb.mono hHeld.size)
          have HA6 := Lib.hid (Row.box HA6.out hb)
          clear hHeld hb
          refine hK.out _ _ hN (fun hHeld => ?_)
          clear hN hK K
          (try simp only [List.getElem_toArray, List.getElem_cons_succ, List.getElem_cons_zero, Act.put, List.setIfInBounds_toArray, List.set_cons_zero, List.set_cons_succ])
          refine wpAnyH_ready (rs := [4]) (by kernel_rfl) (by simp) ?_
          refine (AllReadyH.cons (o := _) rfl (fun K hK => ?_) AllReadyH.nil)
          go_simp
          have hHeld0 := hHeld
          refine hK.out _ _ (hHeld.alloc hHeld.size _) (fun hHeld => ?_)
          clear hK K
          obtain ⟨ga5, hga5⟩ : ∃ g, w40.heap.size = g := ⟨_, rfl⟩
          have hge5 : w2.heap.size ≤ ga5 := by rw [← hga5]; exact hHeld0.size
          have hne65 : ga6 ≠ ga5 := by have := HA6.out.lt; omega
          have HA6 := Lib.hid (Row.alloc HA6.out (.cells (iCells f0) 23))
          have HA5 : Hid (Row (w40.alloc (.cells (iCells f0) 23)) ga5 23 (iCells f0)) := row_new _ _ hga5 _ _
          rw [hga5]
          generalize w40.alloc (.cells (iCells f0) 23) = w41 at hHeld HA6 HA5 ⊢
          clear hga5 hHeld0
          (try simp only [List.getElem_toArray, List.getElem_cons_succ, List.getElem_cons_zero, Act.put, List.setIfInBounds_toArray, List.set_cons_zero, List.set_cons_succ])
          refine wpAnyH_ready (rs := [6]) (by kernel_rfl) (by simp) ?_
          refine (AllReadyH.cons (o := _) rfl (fun K hK => ?_) AllReadyH.nil)
          refine wp_store_row 23 (.tmp 5) (.tmp 8) rfl ga5 (iCells X) rfl rfl 23 (iCells f0) HA5.out HSX.out HZX.out (iCells_one _) ?_
          refine hK.out _ _ (below_setRow hHeld hge5 _) (fun hHeld => ?_)
          clear hK K
          have HA6 := Lib.hid (row_far_setRow HA6.out hne65 (iCells X))
          have HA5 := Lib.hid (Row.setRow HA5.out (iCells X))
          generalize w41.setRow ga5 (iCells X) = w42 at hHeld HA6 HA5 ⊢
          (try simp only [List.getElem_toArray, List.getElem_cons_succ, List.getElem_cons_zero, Act.put])
          refine wpAnyH_ready (rs := [7]) (by kernel_rfl) (by simp) ?_
          refine (AllReadyH.cons (o := _) rfl (fun K hK => ?_) AllReadyH.nil)
          refine wp_store_row 23 (.tmp 6) (.tmp 10) rfl ga6 (iCells Y) rfl rfl 23 (iCells f0) HA6.out HSY.out HZY.out (iCells_one _) ?_
          refine hK.out _ _ (below_setRow hHeld hge6 _) (fun hHeld => ?_)
          clear hK K
          have HA5 := Lib.hid (row_far_setRow HA5.out (Ne.symm hne65) (iCells Y))
          have HA6 := Lib.hid (Row.setRow HA6.out (iCells Y))
          generalize w42.setRow ga6 (iCells Y) = w43 at hHeld HA6 HA5 ⊢
          (try simp only [List.getElem_toArray, List.getElem_cons_succ, List.getElem_cons_zero, Act.put])
          refine wpAnyH_done (by kernel_rfl) ?_ _
          go_wp2_with fail
          go_meet
          case rel => exact ⟨_, _, rfl, rfl, HA5.out, HA6.out, HB0.out.trans (hHeld.mono HB0.out.size)⟩
        · go_simp
          have hHeld0 := hHeld
          refine hK.out _ _ (hHeld.alloc hHeld.size _) (fun hHeld => ?_)
          clear hK K
          obtain ⟨ga5, hga5⟩ : ∃ g, w39.heap.size = g := ⟨_, rfl⟩
          have hge5 : w2.heap.size ≤ ga5 := by rw [← hga5]; exact hHeld0.size
          have hne65 : ga6 ≠ ga5 := by have := HA6.out.lt; omega
          have HA6 := Lib.hid (Row.alloc HA6.out (.cells (iCells f0) 23))
          have HA5 : Hid (Row (w39.alloc (.cells (iCells f0) 23)) ga5 23 (iCells f0)) := row_new _ _ hga5 _ _
          rw [hga5]
          generalize w39.alloc (.cells (iCells f0) 23) = w44 at hHeld HA6 HA5 ⊢
          clear hga5 hHeld0
          (try simp only [List.getElem_toArray, List.getElem_cons_succ, List.getElem_cons_zero, Act.put, List.setIfInBounds_toArray, List.set_cons_zero, List.set_cons_succ])
          refine wpAnyH_ready (rs := [3]) (by kernel_rfl) (by simp) ?_
          refine (AllReadyH.cons (o := _) rfl (fun K hK => ?_) AllReadyH.nil)
          go_simp
          refine (HLG.out _).mono ?_
          rintro e w45 ⟨rfl, hb⟩
          go_wp2_with fail
          have hN := hHeld.trans (hb.mono hHeld.size)
          have HA6 := Lib.hid (Row.box HA6.out hb)
          have HA5 := Lib.hid (Row.box HA5.out hb)
          clear hHeld hb
          refine hK.out _ _ hN (fun hHeld => ?_)
          clear hN hK K
          (try simp only [List.getElem_toArray, List.getElem_cons_succ, List.getElem_cons_zero, Act.put, List.setIfInBounds_toArray, List.set_cons_zero, List.set_cons_succ])
          refine wpAnyH_ready (rs := [6]) (by kernel_rfl) (by simp) ?_
          refine (AllReadyH.cons (o := _) rfl (fun K hK => ?_) AllReadyH.nil)
          refine wp_store_row 23 (.tmp 5) (.tmp 8) rfl ga5 (iCells X) rfl rfl 23 (iCells f0) HA5.out HSX.out HZX.out (iCells_one _) ?_
          refine hK.out _ _ (below_setRow hHeld hge5 _) (fun hHeld => ?_)
          clear hK K
          have HA6 := Lib.hid (row_far_setRow HA6.out hne65 (iCells X))
          have HA5 := Lib.hid (Row.setRow HA5.out (iCells X))
          generalize w45.setRow ga5 (iCells X) = w46 at hHeld HA6 HA5 ⊢
          (try simp only [List.getElem_toArray, List.getElem_cons_succ, List.getElem_cons_zero, Act.put])
          refine wpAnyH_ready (rs := [7]) (by kernel_rfl) (by simp) ?_
          refine (AllReadyH.cons (o := _) rfl (fun K hK => ?_) AllReadyH.nil)
          refine wp_store_row 23 (.tmp 6) (.tmp 10) rfl ga6 (iCells Y) rfl rfl 23 (iCells f0) HA6.out HSY.out HZY.out (iCells_one _) ?_
          refine hK.out _ _ (below_setRow hHeld hge6 _) (fun hHeld => ?_)
          clear hK K
          have HA5 := Lib.hid (row_far_setRow HA5.out (Ne.symm hne65) (iCells Y))
          have HA6 := Lib.hid (Row.setRow HA6.out (iCells Y))
          generalize w46.setRow ga6 (iCells Y) = w47 at hHeld HA6 HA5 ⊢
          (try simp only [List.getElem_toArray, List.getElem_cons_succ, List.getElem_cons_zero, Act.put])
          refine wpAnyH_done (by kernel_rfl) ?_ _
          go_wp2_with fail
          go_meet
          case rel => exact ⟨_, _, rfl, rfl, HA5.out, HA6.out, HB0.out.trans (hHeld.mono HB0.out.size)⟩
    · go_simp
      have hHeld0 := hHeld
      refine hK.out _ _ (hHeld.alloc hHeld.size _) (fun hHeld => ?_)
      clear hK K
      obtain ⟨ga5, hga5⟩ : ∃ g, w4.heap.size = g := ⟨_, rfl⟩
      have hge5 : w2.heap.size ≤ ga5 := by rw [← hga5]; exact hHeld0.size
      have HA5 : Hid (Row (w4.alloc (.cells (iCells f0) 23)) ga5 23 (iCells f0)) := row_new _ _ hga5 _ _
      rw [hga5]
      generalize w4.alloc (.cells (iCells f0) 23) = w48 at hHeld HA5 ⊢
      clear hga5 hHeld0
      (try simp only [List.getElem_toArray, List.getElem_cons_succ, List.getElem_cons_zero, Act.put, List.setIfInBounds_toArray, List.set_cons_zero, List.set_cons_succ])
      refine wpAnyH_ready (rs := [1, 5]) (by kernel_rfl) (by simp) ?_
      refine (AllReadyH.cons (o := _) rfl (fun K hK => ?_) (AllReadyH.cons (o := _) rfl (fun K hK => ?_) AllReadyH.nil))
      · go_simp
        refine (HLF.out _).mono ?_
        rintro e w49 ⟨rfl, hb⟩
        go_wp2_with fail
        have hN := hHeld.trans (hb.mono hHeld.size)
        have HA5 := Lib.hid (Row.box HA5.out hb)
        clear hHeld hb
        refine hK.out _ _ hN (fun hHeld => ?_)
        clear hN hK K
        (try simp only [List.getElem_toArray, List.getElem_cons_succ, List.getElem_cons_zero, Act.put, List.setIfInBounds_toArray, List.set_cons_zero, List.set_cons_succ])
        refine wpAnyH_ready (rs := [3, 5]) (by kernel_rfl) (by simp) ?_
        refine (AllReadyH.cons (o := _) rfl (fun K hK => ?_) (AllReadyH.cons (o := _) rfl (fun K hK => ?_) AllReadyH.nil))
        · go_simp
          refine (HLG.out _).mono ?_
          rintro e w50 ⟨rfl, hb⟩
          go_wp2_with fail
          have hN := hHeld.trans (hb.mono hHeld.size)
          have HA5 := Lib.hid (Row.box HA5.out hb)
          clear hHeld hb
          refine hK.out _ _ hN (fun hHeld => ?_)
          clear hN hK K
          (try simp only [List.getElem_toArray, List.getElem_cons_succ, List.getElem_cons_zero, Act.put, List.setIfInBounds_toArray, List.set_cons_zero, List.set_cons_succ])
          refine wpAnyH_ready (rs := [5]) (by kernel_rfl) (by simp) ?_
          refine (AllReadyH.cons (o := _) rfl (fun K hK => ?_) AllReadyH.nil)
          go_simp
          have hHeld0 := hHeld
          refine hK.out _ _ (hHeld.alloc hHeld.size _) (fun hHeld => ?_)
          clear hK K
          obtain ⟨ga6, hga6⟩ : ∃ g, w50.heap.size = g := ⟨_, rfl⟩
          have hge6 : w2.heap.size ≤ ga6 := by rw [← hga6]; exact hHeld0.size
          have hne56 : ga5 ≠ ga6 := by have := HA5.out.lt; omega
          have HA5 := Lib.hid (Row.alloc HA5.out (.cells (iCells f0) 23))
          have HA6 : Hid (Row (w50.alloc (.cells (iCells f0) 23)) ga6 23 (iCells f0)) := row_new _ _ hga6 _ _
          rw [hga6]
          generalize w50.alloc (.cells (iCells f0) 23) = w51 at hHeld HA5 HA6 ⊢
          clear hga6 hHeld0
          (try simp only [List.getElem_toArray, List.getElem_cons_succ, List.getElem_cons_zero, Act.put, List.setIfInBounds_toArray, List.set_cons_zero, List.set_cons_succ])
          refine wpAnyH_ready (rs := [6]) (by kernel_rfl) (by simp) ?_
          refine (AllReadyH.cons (o := _) rfl (fun K hK => ?_) AllReadyH.nil)
          refine wp_store_row 23 (.tmp 5) (.tmp 8) rfl ga5 (iCells X) rfl rfl 23 (iCells f0) HA5.out HSX.out HZX.out (iCells_one _) ?_
          refine hK.out _ _ (below_setRow hHeld hge5 _) (fun hHeld => ?_)
          clear hK K
          have HA6 := Lib.hid (row_far_setRow HA6.out (Ne.symm hne56) (iCells X))
          have HA5 := Lib.hid (Row.setRow HA5.out (iCells X))
          generalize w51.setRow ga5 (iCells X) = w52 at hHeld HA5 HA6 ⊢
          (try simp only [List.getElem_toArray, List.getElem_cons_succ, List.getElem_cons_zero, Act.put])
          refine wpAnyH_ready (rs := [7]) (by kernel_rfl) (by simp) ?_
          refine (AllReadyH.cons (o := _) rfl (fun K hK => ?_) AllReadyH.nil)
          refine wp_store_row 23 (.tmp 6) (.tmp 10) rfl ga6 (iCells Y) rfl rfl 23 (iCells f0) HA6.out HSY.out HZY.out (iCells_one _) ?_
          refine hK.out _ _ (below_setRow hHeld hge6 _) (fun hHeld => ?_)
          clear hK K
          have HA5 := Lib.hid (row_far_setRow HA5.out hne56 (iCells Y))
          have HA6 := Lib.hid (Row.setRow HA6.out (iCells Y))
          generalize w52.setRow ga6 (iCells Y) = w53 at hHeld HA5 HA6 ⊢
          (try simp only [List.getElem_toArray, List.getElem_cons_succ, List.getElem_cons_zero, Act.put])
          refine wpAnyH_done (by kernel_rfl) ?_ _
          go_wp2_with fail
          go_meet
          case rel => exact ⟨_, _, rfl, rfl, HA5.out, HA6.out, HB0.out.trans (hHeld.mono HB0.out.size)⟩
        · go_simp
          have hHeld0 := hHeld
          refine hK.out _ _ (hHeld.alloc hHeld.size _) (fun hHeld => ?_)
          clear hK K
          obtain ⟨ga6, hga6⟩ : ∃ g, w49.heap.size = g := ⟨_, rfl⟩
          have hge6 : w2.heap.size ≤ ga6 := by rw [← hga6]; exact hHeld0.size
          have hne56 : ga5 ≠ ga6 := by have := HA5.out.lt; omega
          have HA5 := Lib.hid (Row.alloc HA5.out (.cells (iCells f0) 23))
          have HA6 : Hid (Row (w49.alloc (.cells (iCells f0) 23)) ga6 23 (iCells f0)) := row_new _ _ hga6 _ _
          rw [hga6]
          generalize w49.alloc (.cells (iCells f0) 23) = w54 at hHeld HA5 HA6 ⊢
          clear hga6 hHeld0
          (try simp only [List.getElem_toArray, List.getElem_cons_succ, List.getElem_cons_zero, Act.put, List.setIfInBounds_toArray, List.set_cons_zero, List.set_cons_succ])
          refine wpAnyH_ready (rs := [3]) (by kernel_rfl) (by simp) ?_
          refine (AllReadyH.cons (o := _) rfl (fun K hK => ?_) AllReadyH.nil)
          go_simp
          refine (HLG.out _).mono ?_
          rintro e w55 ⟨rfl, hb⟩
          go_wp2_with fail
          have hN := hHeld.trans (hb.mono hHeld.size)
          have HA5 := Lib.hid (Row.box HA5.out hb)
          have HA6 := Lib.hid (Row.box HA6.out hb)
          clear hHeld hb
          refine hK.out _ _ hN (fun hHeld => ?_)
          clear hN hK K
          (try simp only [List.getElem_toArray, List.getElem_cons_succ, List.getElem_cons_zero, Act.put, List.setIfInBounds_toArray, List.set_cons_zero, List.set_cons_succ])
          refine wpAnyH_ready (rs := [6]) (by kernel_rfl) (by simp) ?_
          refine (AllReadyH.cons (o := _) rfl (fun K hK => ?_) AllReadyH.nil)
          refine wp_store_row 23 (.tmp 5) (.tmp 8) rfl ga5 (iCells X) rfl rfl 23 (iCells f0) HA5.out HSX.out HZX.out (iCells_one _) ?_
          refine hK.out _ _ (below_setRow hHeld hge5 _) (fun hHeld => ?_)
          clear hK K
          have HA6 := Lib.hid (row_far_setRow HA6.out (Ne.symm hne56) (iCells X))
          have HA5 := Lib.hid (Row.setRow HA5.out (iCells X))
          generalize w55.setRow ga5 (iCells X) = w56 at hHeld HA5 HA6 ⊢
          (try simp only [List.getElem_toArray, List.getElem_cons_succ, List.getElem_cons_zero, Act.put])
          refine wpAnyH_ready (rs := [7]) (by kernel_rfl) (by simp) ?_
          refine (AllReadyH.cons (o := _) rfl (fun K hK => ?_) AllReadyH.nil)
          refine wp_store_row 23 (.tmp 6) (.tmp 10) rfl ga6 (iCells Y) rfl rfl 23 (iCells f0) HA6.out HSY.out HZY.out (iCells_one _) ?_
          refine hK.out _ _ (below_setRow hHeld hge6 _) (fun hHeld => ?_)
          clear hK K
          have HA5 := Lib.hid (row_far_setRow HA5.out hne56 (iCells Y))
          have HA6 := Lib.hid (Row.setRow HA6.out (iCells Y))
          generalize w56.setRow ga6 (iCells Y) = w57 at hHeld HA5 HA6 ⊢
          (try simp only [List.getElem_toArray, List.getElem_cons_succ, List.getElem_cons_zero, Act.put])
          refine wpAnyH_done (by kernel_rfl) ?_ _
          go_wp2_with fail
          go_meet
          case rel => exact ⟨_, _, rfl, rfl, HA5.out, HA6.out, HB0.out.trans (hHeld.mono HB0.out.size)⟩
      · go_simp
        have hHeld0 := hHeld
        refine hK.out _ _ (hHeld.alloc hHeld.size _) (fun hHeld => ?_)
        clear hK K
        obtain ⟨ga6, hga6⟩ : ∃ g, w48.heap.size = g := ⟨_, rfl⟩
        have hge6 : w2.heap.size ≤ ga6 := by rw [← hga6]; exact hHeld0.size
        have hne56 : ga5 ≠ ga6 := by have := HA5.out.lt; omega
        have HA5 := Lib.hid (Row.alloc HA5.out (.cells (iCells f0) 23))
        have HA6 : Hid (Row (w48.alloc (.cells (iCells f0) 23)) ga6 23 (iCells f0)) := row_new _ _ hga6 _ _
        rw [hga6]
        generalize w48.alloc (.cells (iCells f0) 23) = w58 at hHeld HA5 HA6 ⊢
        clear hga6 hHeld0
        (try simp only [List.getElem_toArray, List.getElem_cons_succ, List.getElem_cons_zero, Act.put, List.setIfInBounds_toArray, List.set_cons_zero, List.set_cons_succ])
        refine wpAnyH_ready (rs := [1]) (by kernel_rfl) (by simp) ?_
        refine (AllReadyH.cons (o := _) rfl (fun K hK => ?_) AllReadyH.nil)
        go_simp
        refine (HLF.out _).mono ?_
        rintro e w59 ⟨rfl, hb⟩
        go_wp2_with fail
        have hN := hHeld.trans (hb.mono hHeld.size)
        have HA5 := Lib.hid (Row.box HA5.out hb)
        have HA6 := Lib.hid (Row.box HA6.out hb)
        clear hHeld hb
        refine hK.out _ _ hN (fun hHeld => ?_)
        clear hN hK K
        (try simp only [List.getElem_toArray, List.getElem_cons_succ, List.getElem_cons_zero, Act.put, List.setIfInBounds_toArray, List.set_cons_zero, List.set_cons_succ])
        refine wpAnyH_ready (rs := [3]) (by kernel_rfl) (by simp) ?_
        refine (AllReadyH.cons (o := _) rfl (fun K hK => ?_) AllReadyH.nil)
        go_simp
        refine (HLG.out _).mono ?_
        rintro e w60 ⟨rfl, hb⟩
        go_wp2_with fail
        have hN := hHeld.trans (hb.mono hHeld.size)
        have HA5 := Lib.hid (Row.box HA5.out hb)
        have HA6 := Lib.hid (Row.box HA6.out hb)
        clear hHeld hb
        refine hK.out _ _ hN (fun hHeld => ?_)
        clear hN hK K
        (try simp only [List.getElem_toArray, List.getElem_cons_succ, List.getElem_cons_zero, Act.put, List.setIfInBounds_toArray, List.set_cons_zero, List.set_cons_succ])
        refine wpAnyH_ready (rs := [6]) (by kernel_rfl) (by simp) ?_
        refine (AllReadyH.cons (o := _) rfl (fun K hK => ?_) AllReadyH.nil)
        refine wp_store_row 23 (.tmp 5) (.tmp 8) rfl ga5 (iCells X) rfl rfl 23 (iCells f0) HA5.out HSX.out HZX.out (iCells_one _) ?_
        refine hK.out _ _ (below_setRow hHeld hge5 _) (fun hHeld => ?_)
        clear hK K
        have HA6 := Lib.hid (row_far_setRow HA6.out (Ne.symm hne56) (iCells X))
        have HA5 := Lib.hid (Row.setRow HA5.out (iCells X))
        generalize w60.setRow ga5 (iCells X) = w61 at hHeld HA5 HA6 ⊢
        (try simp only [List.getElem_toArray, List.getElem_cons_succ, List.getElem_cons_zero, Act.put])
        refine wpAnyH_ready (rs := [7]) (by kernel_rfl) (by simp) ?_
        refine (AllReadyH.cons (o := _) rfl (fun K hK => ?_) AllReadyH.nil)
        refine wp_store_row 23 (.tmp 6) (.tmp 10) rfl ga6 (iCells Y) rfl rfl 23 (iCells f0) HA6.out HSY.out HZY.out (iCells_one _) ?_
        refine hK.out _ _ (below_setRow hHeld hge6 _) (fun hHeld => ?_)
        clear hK K
        have HA5 := Lib.hid (row_far_setRow HA5.out hne56 (iCells Y))
        have HA6 := Lib.hid (Row.setRow HA6.out (iCells Y))
        generalize w61.setRow ga6 (iCells Y) = w62 at hHeld HA5 HA6 ⊢
        (try simp only [List.getElem_toArray, List.getElem_cons_succ, List.getElem_cons_zero, Act.put])
        refine wpAnyH_done (by kernel_rfl) ?_ _
        go_wp2_with fail
        go_meet
        case rel => exact ⟨_, _, rfl, rfl, HA5.out, HA6.out, HB0.out.trans (hHeld.mono HB0.out.size)⟩
    · go_simp
      have hHeld0 := hHeld
      refine hK.out _ _ (hHeld.alloc hHeld.size _) (fun hHeld => ?_)
      clear hK K
      obtain ⟨ga6, hga6⟩ : ∃ g, w4.heap.size = g := ⟨_, rfl⟩
      have hge6 : w2.heap.size ≤ ga6 := by rw [← hga6]; exact hHeld0.size
      have HA6 : Hid (Row (w4.alloc (.cells (iCells f0) 23)) ga6 23 (iCells f0)) := row_new _ _ hga6 _ _
      rw [hga6]
      generalize w4.alloc (.cells (iCells f0) 23) = w63 at hHeld HA6 ⊢
      clear hga6 hHeld0
      (try simp only [List.getElem_toArray, List.getElem_cons_succ, List.getElem_cons_zero, Act.put, List.setIfInBounds_toArray, List.set_cons_zero, List.set_cons_succ])
      refine wpAnyH_ready (rs := [1, 4]) (by kernel_rfl) (by simp) ?_
      refine (AllReadyH.cons (o := _) rfl (fun K hK => ?_) (AllReadyH.cons (o := _) rfl (fun K hK => ?_) AllReadyH.nil))
      · go_simp
        refine (HLF.out _).mono ?_
        rintro e w64 ⟨rfl, hb⟩
        go_wp2_with fail
        have hN := hHeld.trans (hb.mono hHeld.size)
        have HA6 := Lib.hid (Row.box HA6.out hb)
        clear hHeld hb
        refine hK.out _ _ hN (fun hHeld => ?_)
        clear hN hK K
        (try simp only [List.getElem_toArray, List.getElem_cons_succ, List.getElem_cons_zero, Act.put, List.setIfInBounds_toArray, List.set_cons_zero, List.set_cons_succ])
        refine wpAnyH_ready (rs := [3, 4]) (by kernel_rfl) (by simp) ?_
        refine (AllReadyH.cons (o := _) rfl (fun K hK => ?_) (AllReadyH.cons (o := _) rfl (fun K hK => ?_) AllReadyH.nil))
        · go_simp
          refine (HLG.out _).mono ?_
          rintro e w65 ⟨rfl, hb⟩
          go_wp2_with fail
          have hN := hHeld.trans (hb.mono hHeld.size)
          have HA6 := Lib.hid (Row.box HA6.out hb)
          clear hHeld hb
          refine hK.out _ _ hN (fun hHeld => ?_)
          clear hN hK K
          (try simp only [List.getElem_toArray, List.getElem_cons_succ, List.getElem_cons_zero, Act.put, List.setIfInBounds_toArray, List.set_cons_zero, List.set_cons_succ])
          refine wpAnyH_ready (rs := [4]) (by kernel_rfl) (by simp) ?_
          refine (AllReadyH.cons (o := _) rfl (fun K hK => ?_) AllReadyH.nil)
          go_simp
          have hHeld0 := hHeld
          refine hK.out _ _ (hHeld.alloc hHeld.size _) (fun hHeld => ?_)
          clear hK K
          obtain ⟨ga5, hga5⟩ : ∃ g, w65.heap.size = g := ⟨_, rfl⟩
          have hge5 : w2.heap.size ≤ ga5 := by rw [← hga5]; exact hHeld0.size
          have hne65 : ga6 ≠ ga5 := by have := HA6.out.lt; omega
          have HA6 := Lib.hid (Row.alloc HA6.out (.cells (iCells f0) 23))
          have HA5 : Hid (Row (w65.alloc (.cells (iCells f0) 23)) ga5 23 (iCells f0)) := row_new _ _ hga5 _ _
          rw [hga5]
          generalize w65.alloc (.cells (iCells f0) 23) = w66 at hHeld HA6 HA5 ⊢
          clear hga5 hHeld0
          (try simp only [List.getElem_toArray, List.getElem_cons_succ, List.getElem_cons_zero, Act.put, List.setIfInBounds_toArray, List.set_cons_zero, List.set_cons_succ])
          refine wpAnyH_ready (rs := [6]) (by kernel_rfl) (by simp) ?_
          refine (AllReadyH.cons (o := _) rfl (fun K hK => ?_) AllReadyH.nil)
          refine wp_store_row 23 (.tmp 5) (.tmp 8) rfl ga5 (iCells X) rfl rfl 23 (iCells f0) HA5.out HSX.out HZX.out (iCells_one _) ?_
          refine hK.out _ _ (below_setRow hHeld hge5 _) (fun hHeld => ?_)
          clear hK K
          have HA6 := Lib.hid (row_far_setRow HA6.out hne65 (iCells X))
          have HA5 := Lib.hid (Row.setRow HA5.out (iCells X))
          generalize w66.setRow ga5 (iCells X) = w67 at hHeld HA6 HA5 ⊢
          (try simp only [List.getElem_toArray, List.getElem_cons_succ, List.getElem_cons_zero, Act.put])
          refine wpAnyH_ready (rs := [7]) (by kernel_rfl) (by simp) ?_
          refine (AllReadyH.cons (o := _) rfl (fun K hK => ?_) AllReadyH.nil)
          refine wp_store_row 23 (.tmp 6) (.tmp 10) rfl ga6 (iCells Y) rfl rfl 23 (iCells f0) HA6.out HSY.out HZY.out (iCells_one _) ?_
          refine hK.out _ _ (below_setRow hHeld hge6 _) (fun hHeld => ?_)
          clear hK K
          have HA5 := Lib.hid (row_far_setRow HA5.out (Ne.symm hne65) (iCells Y))
          have HA6 := Lib.hid (Row.setRow HA6.out (iCells Y))
          generalize w67.setRow ga6 (iCells Y) = w68 at hHeld HA6 HA5 ⊢
          (try simp only [List.getElem_toArray, List.getElem_cons_succ, List.getElem_cons_zero, Act.put])
          refine wpAnyH_done (by kernel_rfl) ?_ _
          go_wp2_with fail
          go_meet
          case rel => exact ⟨_, _, rfl, rfl, HA5.out, HA6.out, HB0.out.trans (hHeld.mono HB0.out.size)⟩
        · go_simp
          have hHeld0 := hHeld
          refine hK.out _ _ (hHeld.alloc hHeld.size _) (fun hHeld => ?_)
          clear hK K
          obtain ⟨ga5, hga5⟩ : ∃ g, w64.heap.size = g := ⟨_, rfl⟩
          have hge5 : w2.heap.size ≤ ga5 := by rw [← hga5]; exact hHeld0.size
          have hne65 : ga6 ≠ ga5 := by have := HA6.out.lt; omega
          have HA6 := Lib.hid (Row.alloc HA6.out (.cells (iCells f0) 23))
          have HA5 : Hid (Row (w64.alloc (.cells (iCells f0) 23)) ga5 23 (iCells f0)) := row_new _ _ hga5 _ _
          rw [hga5]
          generalize w64.alloc (.cells (iCells f0) 23) = w69 at hHeld HA6 HA5 ⊢
          clear hga5 hHeld0
          (try simp only [List.getElem_toArray, List.getElem_cons_succ, List.getElem_cons_zero, Act.put, List.setIfInBounds_toArray, List.set_cons_zero, List.set_cons_succ])
          refine wpAnyH_ready (rs := [3]) (by kernel_rfl) (by simp) ?_
          refine (AllReadyH.cons (o := _) rfl (fun K hK => ?_) AllReadyH.nil)
          go_simp
          refine (HLG.out _).mono ?_
          rintro e w70 ⟨rfl, hb⟩
          go_wp2_with fail
          have hN := hHeld.trans (hb.mono hHeld.size)
          have HA6 := Lib.hid (Row.box HA6.out hb)
          have HA5 := Lib.hid (Row.box HA5.out hb)
          clear hHeld hb
          refine hK.out _ _ hN (fun hHeld => ?_)
          clear hN hK K
          (try simp only [List.getElem_toArray, List.getElem_cons_succ, List.getElem_cons_zero, Act.put, List.setIfInBounds_toArray, List.set_cons_zero, List.set_cons_succ])
          refine wpAnyH_ready (rs := [6]) (by kernel_rfl) (by simp) ?_
          refine (AllReadyH.cons (o := _) rfl (fun K hK => ?_) AllReadyH.nil)
          refine wp_store_row 23 (.tmp 5) (.tmp 8) rfl ga5 (iCells X) rfl rfl 23 (iCells f0) HA5.out HSX.out HZX.out (iCells_one _) ?_
          refine hK.out _ _ (below_setRow hHeld hge5 _) (fun hHeld => ?_)
          clear hK K
          have HA6 := Lib.hid (row_far_setRow HA6.out hne65 (iCells X))
          have HA5 := Lib.hid (Row.setRow HA5.out (iCells X))
          generalize w70.setRow ga5 (iCells X) = w71 at hHeld HA6 HA5 ⊢
          (try simp only [List.getElem_toArray, List.getElem_cons_succ, List.getElem_cons_zero, Act.put])
          refine wpAnyH_ready (rs := [7]) (by kernel_rfl) (by simp) ?_
          refine (AllReadyH.cons (o := _) rfl (fun K hK => ?_) AllReadyH.nil)
          refine wp_store_row 23 (.tmp 6) (.tmp 10) rfl ga6 (iCells Y) rfl rfl 23 (iCells f0) HA6.out HSY.out HZY.out (iCells_one _) ?_
          refine hK.out _ _ (below_setRow hHeld hge6 _) (fun hHeld => ?_)
          clear hK K
          have HA5 := Lib.hid (row_far_setRow HA5.out (Ne.symm hne65) (iCells Y))
          have HA6 := Lib.hid (Row.setRow HA6.out (iCells Y))
          generalize w71.setRow ga6 (iCells Y) = w72 at hHeld HA6 HA5 ⊢
          (try simp only [List.getElem_toArray, List.getElem_cons_succ, List.getElem_cons_zero, Act.put])
          refine wpAnyH_done (by kernel_rfl) ?_ _
          go_wp2_with fail
          go_meet
          case rel => exact ⟨_, _, rfl, rfl, HA5.out, HA6.out, HB0.out.trans (hHeld.mono HB0.out.size)⟩
      · go_simp
        have hHeld0 := hHeld
        refine hK.out _ _ (hHeld.alloc hHeld.size _) (fun hHeld => ?_)
        clear hK K
        obtain ⟨ga5, hga5⟩ : ∃ g, w63.heap.size = g := ⟨_, rfl⟩
        have hge5 : w2.heap.size ≤ ga5 := by rw [← hga5]; exact hHeld0.size
        have hne65 : ga6 ≠ ga5 := by have := HA6.out.lt; omega
        have HA6 := Lib.hid (Row.alloc HA6.out (.cells (iCells f0) 23))
        have HA5 : Hid (Row (w63.alloc (.cells (iCells f0) 23)) ga5 23 (iCells f0)) := row_new _ _ hga5 _ _
        rw [hga5]
        generalize w63.alloc (.cells (iCells f0) 23) = w73 at hHeld HA6 HA5 ⊢
        clear hga5 hHeld0
        (try simp only [List.getElem_toArray, List.getElem_cons_succ, List.getElem_cons_zero, Act.put, List.setIfInBounds_toArray, List.set_cons_zero, List.set_cons_succ])
        refine wpAnyH_ready (rs := [1]) (by kernel_rfl) (by simp) ?_
        refine (AllReadyH.cons (o := _) rfl (fun K hK => ?_) AllReadyH.nil)
        go_simp
        refine (HLF.out _).mono ?_
        rintro e w74 ⟨rfl, hb⟩
        go_wp2_with fail
        have hN := hHeld.trans (hb.mono hHeld.size)
        have HA6 := Lib.hid (Row.box HA6.out hb)
        have HA5 := Lib.hid (Row.box HA5.out hb)
        clear hHeld hb
        refine hK.out _ _ hN (fun hHeld => ?_)
        clear hN hK K
        (try simp only [List.getElem_toArray, List.getElem_cons_succ, List.getElem_cons_zero, Act.put, List.setIfInBounds_toArray, List.set_cons_zero, List.set_cons_succ])
        refine wpAnyH_ready (rs := [3]) (by kernel_rfl) (by simp) ?_
        refine (AllReadyH.cons (o := _) rfl (fun K hK => ?_) AllReadyH.nil)
        go_simp
        refine (HLG.out _).mono ?_
        rintro e w75 ⟨rfl, hb⟩
        go_wp2_with fail
        have hN := hHeld.trans (hb.mono hHeld.size)
        have HA6 := Lib.hid (Row.box HA6.out hb)
        have HA5 := Lib.hid (Row.box HA5.out hb)
        clear hHeld hb
        refine hK.out _ _ hN (fun hHeld => ?_)
        clear hN hK K
        (try simp only [List.getElem_toArray, List.getElem_cons_succ, List.getElem_cons_zero, Act.put, List.setIfInBounds_toArray, List.set_cons_zero, List.set_cons_succ])
        refine wpAnyH_ready (rs := [6]) (by kernel_rfl) (by simp) ?_
        refine (AllReadyH.cons (o := _) rfl (fun K hK => ?_) AllReadyH.nil)
        refine wp_store_row 23 (.tmp 5) (.tmp 8) rfl ga5 (iCells X) rfl rfl 23 (iCells f0) HA5.out HSX.out HZX.out (iCells_one _) ?_
        refine hK.out _ _ (below_setRow hHeld hge5 _) (fun hHeld => ?_)
        clear hK K
        have HA6 := Lib.hid (row_far_setRow HA6.out hne65 (iCells X))
        have HA5 := Lib.hid (Row.setRow HA5.out (iCells X))
        generalize w75.setRow ga5 (iCells X) = w76 at hHeld HA6 HA5 ⊢
        (try simp only [List.getElem_toArray, List.getElem_cons_succ, List.getElem_cons_zero, Act.put])
        refine wpAnyH_ready (rs := [7]) (by kernel_rfl) (by simp) ?_
        refine (AllReadyH.cons (o := _) rfl (fun K hK => ?_) AllReadyH.nil)
        refine wp_store_row 23 (.tmp 6) (.tmp 10) rfl ga6 (iCells Y) rfl rfl 23 (iCells f0) HA6.out HSY.out HZY.out (iCells_one _) ?_
        refine hK.out _ _ (below_setRow hHeld hge6 _) (fun hHeld => ?_)
        clear hK K
        have HA5 := Lib.hid (row_far_setRow HA5.out (Ne.symm hne65) (iCells Y))
        have HA6 := Lib.hid (Row.setRow HA6.out (iCells Y))
        generalize w76.setRow ga6 (iCells Y) = w77 at hHeld HA6 HA5 ⊢
        (try simp only [List.getElem_toArray, List.getElem_cons_succ, List.getElem_cons_zero, Act.put])
        refine wpAnyH_done (by kernel_rfl) ?_ _
        go_wp2_with fail
        go_meet
        case rel => exact ⟨_, _, rfl, rfl, HA5.out, HA6.out, HB0.out.trans (hHeld.mono HB0.out.size)⟩
  case rest =>
    obtain ⟨g5, g6, rfl, rfl, h5, h6, hb⟩ := hcut
    have R5 := Lib.hid h5
    have R6 := Lib.hid h6
    have HB_0 := Lib.hid hb
    clear h5 h6 hb HB0 HR2 HR3
    have hq1 := HQ1.out
    have hq2 := HQ2.out
    generalize wc = w0 at *
    have HC5 : Hid (∀ W : World, (∃ p : Regrown, W = Sort.grow (redrawn w0 p.d) p.os) → W.heap[g5]? = some (.cells (iCells X) 23 (0, 0))) := by
      rintro W ⟨p, rfl⟩
      exact R5.out.below (below_regrown w0 p.d p.os) R5.out.lt
    have HC6 : Hid (∀ W : World, (∃ p : Regrown, W = Sort.grow (redrawn w0 p.d) p.os) → W.heap[g6]? = some (.cells (iCells Y) 23 (0, 0))) := by
      rintro W ⟨p, rfl⟩
      exact R6.out.below (below_regrown w0 p.d p.os) R6.out.lt
    have KC0 : Hid (∀ d os, Calls Try.prog 9 #[] (Sort.grow (redrawn w0 d) os) fun e w'' => e = .returned (.bool true) ∧ ∃ p : Regrown, w'' = Sort.grow (redrawn w0 p.d) p.os) :=
      fun d os => Calls.regrown_of (HAW.out _)
    have KC1 : Hid (∀ d os, Calls Try.prog 11 #[.agg (iCells X)] (Sort.grow (redrawn w0 d) os) fun e w'' => e = .returned (.agg (iCells A)) ∧ ∃ p : Regrown, w'' = Sort.grow (redrawn w0 p.d) p.os) :=
      fun d os => Calls.regrown_of (HW1.out _)
    have KC2 : Hid (∀ d os, Calls Try.prog 11 #[.agg (iCells Y)] (Sort.grow (redrawn w0 d) os) fun e w'' => e = .returned (.agg (iCells B)) ∧ ∃ p : Regrown, w'' = Sort.grow (redrawn w0 p.d) p.os) :=
      fun d os => Calls.regrown_of (HW2.out _)
    go_wp2_with fail
    refine wp_region_quiet_below (by kernel_rfl) (by kernel_rfl) ?_
    repeat (first
      | (refine BigFrame.wpQuiet_want (by rfl) (fun K hK => ?_); refine q_load_row 23 (.tmp 5) rfl g5 rfl 23 (iCells X) (0, 0) _ HC5.out Try.underlying23 rfl HSX.out ?_; refine hK _ ?_; clear hK K; simp only [Act.put, List.setIfInBounds_toArray, List.set_cons_zero, List.set_cons_succ])
      | (refine BigFrame.wpQuiet_want (by rfl) (fun K hK => ?_); refine q_load_row 23 (.tmp 6) rfl g6 rfl 23 (iCells Y) (0, 0) _ HC6.out Try.underlying23 rfl HSY.out ?_; refine hK _ ?_; clear hK K; simp only [Act.put, List.setIfInBounds_toArray, List.set_cons_zero, List.set_cons_succ])
      | quiet_step (fail))
    quiet_step (first | (go_at_call 9; exact KC0.out _ _))
    repeat (first
      | (refine BigFrame.wpQuiet_want (by rfl) (fun K hK => ?_); refine q_load_row 23 (.tmp 5) rfl g5 rfl 23 (iCells X) (0, 0) _ HC5.out Try.underlying23 rfl HSX.out ?_; refine hK _ ?_; clear hK K; simp only [Act.put, List.setIfInBounds_toArray, List.set_cons_zero, List.set_cons_succ])
      | (refine BigFrame.wpQuiet_want (by rfl) (fun K hK => ?_); refine q_load_row 23 (.tmp 6) rfl g6 rfl 23 (iCells Y) (0, 0) _ HC6.out Try.underlying23 rfl HSY.out ?_; refine hK _ ?_; clear hK K; simp only [Act.put, List.setIfInBounds_toArray, List.set_cons_zero, List.set_cons_succ])
      | quiet_step (fail))
    quiet_step (first | (go_at_call 11; exact KC1.out _ _))
    repeat (first
      | (refine BigFrame.wpQuiet_want (by rfl) (fun K hK => ?_); refine q_load_row 23 (.tmp 5) rfl g5 rfl 23 (iCells X) (0, 0) _ HC5.out Try.underlying23 rfl HSX.out ?_; refine hK _ ?_; clear hK K; simp only [Act.put, List.setIfInBounds_toArray, List.set_cons_zero, List.set_cons_succ])
      | (refine BigFrame.wpQuiet_want (by rfl) (fun K hK => ?_); refine q_load_row 23 (.tmp 6) rfl g6 rfl 23 (iCells Y) (0, 0) _ HC6.out Try.underlying23 rfl HSY.out ?_; refine hK _ ?_; clear hK K; simp only [Act.put, List.setIfInBounds_toArray, List.set_cons_zero, List.set_cons_succ])
      | quiet_step (fail))
    quiet_step (first | (go_at_call 11; exact KC2.out _ _))
    repeat (first
      | (refine BigFrame.wpQuiet_want (by rfl) (fun K hK => ?_); refine q_load_row 23 (.tmp 5) rfl g5 rfl 23 (iCells X) (0, 0) _ HC5.out Try.underlying23 rfl HSX.out ?_; refine hK _ ?_; clear hK K; simp only [Act.put, List.setIfInBounds_toArray, List.set_cons_zero, List.set_cons_succ])
      | (refine BigFrame.wpQuiet_want (by rfl) (fun K hK => ?_); refine q_load_row 23 (.tmp 6) rfl g6 rfl 23 (iCells Y) (0, 0) _ HC6.out Try.underlying23 rfl HSY.out ?_; refine hK _ ?_; clear hK K; simp only [Act.put, List.setIfInBounds_toArray, List.set_cons_zero, List.set_cons_succ])
      | quiet_step (fail))
    refine wpQuiet_nil ?_
    intro _ hw'
    obtain ⟨⟨dq, osq⟩, hw''⟩ := hw'
    subst hw''
    have hb := below_regrown w0 dq osq
    have R5_1 := Lib.hid (R5.out.box hb)
    have R6_1 := Lib.hid (R6.out.box hb)
    have HB_1 := Lib.hid (HB_0.out.trans (hb.mono HB_0.out.size))
    clear hb R5 R6 HB_0
    clear HC5 HC6 KC0 KC1 KC2
    generalize Sort.grow (redrawn w0 dq) osq = w1 at *
    go_wp2
    go_ret
    exact ⟨rfl, HB_1.out⟩
end Go.Proofs.Ytdlcdbkfhajkdaa
