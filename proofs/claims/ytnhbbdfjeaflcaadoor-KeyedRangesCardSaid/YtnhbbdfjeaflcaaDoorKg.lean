/-
  The walk of the law KeyedRanges: it returns true, and nothing that was there is changed. Condition: the signs lie as the program's text lays them.
-/
import Derived.Test.YtnhbbdfjeaflcaaDoorKd
import Derived.Deep.Cut
namespace Go.Proofs.YtnhbbdfjeaflcaaDoor
open Go.RowKit
open M

theorem chip_or (x : BitVec 64) (i : Nat) : chip x i = 1 ∨ chip x i = -1 := by unfold chip; cases bitB x i <;> simp

set_option maxRecDepth 100000 in
set_option maxHeartbeats 4000000 in
theorem ranges_law (k : List UInt8) (f : Int) (w : World) (hk : k.length = 16) (h : Signs w) :
    Calls Tryd.prog 7 #[.agg (byteCells k), .int .i64 f] w fun e w' => e = .returned (.bool true) ∧ Below w.heap.size w w' := by
  have hb0 : Below w.heap.size w (w.alloc (.cells (byteCells k) 23)) := (Below.refl _ _).alloc (Nat.le_refl _) _
  have HG := Lib.hid (h.below hb0 h.lt)
  have HR0 : Hid (Row (w.alloc (.cells (byteCells k) 23)) w.heap.size 23 (byteCells k)) := heap_alloc_new _ _
  have HB0 := Lib.hid hb0
  have HI := Lib.hid (key_info k hk)
  clear h hb0
  go_enter Tryd.func7, Tryd.ntmps7
  go_wp2_with fail
  refine (awake_any _ HG.out).mono ?_
  rintro e w1 ⟨rfl, hb⟩
  have HR := Lib.hid (HR0.out.below hb HR0.out.lt)
  have HB := Lib.hid (HB0.out.trans (hb.mono HB0.out.size))
  have HS := Lib.hid (HG.out.below hb HG.out.lt)
  have hw1 : w.heap.size + 1 ≤ w1.heap.size := by have := hb.size; simpa using this
  clear hb HR0 HB0 HG
  go_wp2_with fail
  go_cut [5, 6, 7] from 11 (fun s5 s6 s7 W => s5 = .int .i64 (bandOf k f : Nat) ∧ s6 = .int .i64 (placeOf k f : Nat) ∧ ∃ ga, s7 = .pointer (some ⟨ga, 0, none⟩) ∧ w.heap.size ≤ ga ∧ Row W ga 29 (chipsOf k f) ∧ Below w.heap.size w W)
  case first =>
    refine wp_region_held_drew (S := fun w' => Below w1.heap.size w1 w') (by kernel_rfl) ?_ (fun hHeld => ?_)
    · exact below_drew1 (Below.refl _ _)
    refine wpAnyH_take (i := 0) (oi := _) rfl (by kernel_rfl) (by kernel_rfl) (by kernel_rfl) (fun _ _ _ h => h) (yields_row (by rfl) 23 (.tmp 2) rfl w.heap.size rfl 23 (byteCells k) HR.out Tryd.underlying23 HI.out) hHeld ?_
    (try simp only [List.getElem_toArray, List.getElem_cons_zero, Act.put, List.setIfInBounds_toArray, List.set_cons_zero, List.set_cons_succ])
    refine wpAnyH_take (i := 1) (oi := _) (v := ?_) rfl (by kernel_rfl) (by kernel_rfl) (by kernel_rfl) (fun _ _ _ h => h) (Or.inl ⟨by rfl, ?_⟩) hHeld ?_
    rotate_left
    · (intro w hSw; (try dsimp only at hSw); first | (go_simp; done) | (go_simp; with_reducible rfl))
    (try simp only [List.getElem_toArray, List.getElem_cons_succ, List.getElem_cons_zero, Act.put, List.setIfInBounds_toArray, List.set_cons_zero, List.set_cons_succ])
    refine wpAnyH_take (i := 3) (oi := _) rfl (by kernel_rfl) (by kernel_rfl) (by kernel_rfl) (fun _ _ _ h => h) (yields_row (by rfl) 23 (.tmp 2) rfl w.heap.size rfl 23 (byteCells k) HR.out Tryd.underlying23 HI.out) hHeld ?_
    (try simp only [List.getElem_toArray, List.getElem_cons_succ, List.getElem_cons_zero, Act.put, List.setIfInBounds_toArray, List.set_cons_zero, List.set_cons_succ])
    refine wpAnyH_take (i := 4) (oi := _) (v := ?_) rfl (by kernel_rfl) (by kernel_rfl) (by kernel_rfl) (fun _ _ _ h => h) (Or.inl ⟨by rfl, ?_⟩) hHeld ?_
    rotate_left
    · (intro w hSw; (try dsimp only at hSw); first | (go_simp; done) | (go_simp; with_reducible rfl))
    (try simp only [List.getElem_toArray, List.getElem_cons_succ, List.getElem_cons_zero, Act.put, List.setIfInBounds_toArray, List.set_cons_zero, List.set_cons_succ])
    refine wpAnyH_take (i := 6) (oi := _) rfl (by kernel_rfl) (by kernel_rfl) (by kernel_rfl) (fun _ _ _ h => h) (yields_row (by rfl) 23 (.tmp 2) rfl w.heap.size rfl 23 (byteCells k) HR.out Tryd.underlying23 HI.out) hHeld ?_
    (try simp only [List.getElem_toArray, List.getElem_cons_succ, List.getElem_cons_zero, Act.put, List.setIfInBounds_toArray, List.set_cons_zero, List.set_cons_succ])
    refine wpAnyH_take (i := 7) (oi := _) (v := ?_) rfl (by kernel_rfl) (by kernel_rfl) (by kernel_rfl) (fun _ _ _ h => h) (Or.inl ⟨by rfl, ?_⟩) hHeld ?_
    rotate_left
    · (intro w hSw; (try dsimp only at hSw); first | (go_simp; done) | (go_simp; with_reducible rfl))
    (try simp only [List.getElem_toArray, List.getElem_cons_succ, List.getElem_cons_zero, Act.put, List.setIfInBounds_toArray, List.set_cons_zero, List.set_cons_succ])
    refine wpAnyH_ready (rs := [2, 9]) (by kernel_rfl) (by simp) ?_
    refine AllReadyH.cons (o := _) rfl (fun K hK => ?_) (AllReadyH.cons (o := _) rfl (fun K hK => ?_) AllReadyH.nil)
    · go_simp
      refine (band_any k f _ hk (HS.out.below hHeld HS.out.lt)).mono ?_
      rintro e w3 ⟨rfl, hb⟩
      go_wp2_with fail
      have hN := hHeld.trans (hb.mono hHeld.size)
      clear hHeld hb
      refine hK.out _ _ hN (fun hHeld => ?_)
      clear hN hK K
      (try simp only [List.getElem_toArray, List.getElem_cons_succ, List.getElem_cons_zero, Act.put, List.setIfInBounds_toArray, List.set_cons_zero, List.set_cons_succ])
      refine wpAnyH_ready (rs := [5, 9]) (by kernel_rfl) (by simp) ?_
      refine AllReadyH.cons (o := _) rfl (fun K hK => ?_) (AllReadyH.cons (o := _) rfl (fun K hK => ?_) AllReadyH.nil)
      · go_simp
        refine (place_any k f _ hk (HS.out.below hHeld HS.out.lt)).mono ?_
        rintro e w4 ⟨rfl, hb⟩
        go_wp2_with fail
        have hN := hHeld.trans (hb.mono hHeld.size)
        clear hHeld hb
        refine hK.out _ _ hN (fun hHeld => ?_)
        clear hN hK K
        (try simp only [List.getElem_toArray, List.getElem_cons_succ, List.getElem_cons_zero, Act.put, List.setIfInBounds_toArray, List.set_cons_zero, List.set_cons_succ])
        refine wpAnyH_ready (rs := [8, 9]) (by kernel_rfl) (by simp) ?_
        refine AllReadyH.cons (o := _) rfl (fun K hK => ?_) (AllReadyH.cons (o := _) rfl (fun K hK => ?_) AllReadyH.nil)
        · go_simp
          refine (chips_any k f _ hk (HS.out.below hHeld HS.out.lt)).mono ?_
          rintro e w5 ⟨rfl, hb⟩
          go_wp2_with fail
          have hN := hHeld.trans (hb.mono hHeld.size)
          clear hHeld hb
          refine hK.out _ _ hN (fun hHeld => ?_)
          clear hN hK K
          (try simp only [List.getElem_toArray, List.getElem_cons_succ, List.getElem_cons_zero, Act.put, List.setIfInBounds_toArray, List.set_cons_zero, List.set_cons_succ])
          refine wpAnyH_ready (rs := [9]) (by kernel_rfl) (by simp) ?_
          refine AllReadyH.cons (o := _) rfl (fun K hK => ?_) AllReadyH.nil
          have hHeld0 := hHeld
          go_simp
          refine hK.out _ _ (hHeld.alloc hHeld.size _) (fun hHeld => ?_)
          have HA : Hid (Row (w5.alloc (.cells #[.int .i64 0, .int .i64 0, .int .i64 0, .int .i64 0] 29)) w5.heap.size 29 #[.int .i64 0, .int .i64 0, .int .i64 0, .int .i64 0]) := heap_alloc_new _ _
          have hge : w1.heap.size ≤ w5.heap.size := hHeld0.size
          clear hK K
          (try simp only [List.getElem_toArray, List.getElem_cons_succ, List.getElem_cons_zero, Act.put, List.setIfInBounds_toArray, List.set_cons_zero, List.set_cons_succ])
          refine wpAnyH_take (i := 10) (oi := _) (v := ?_) rfl (by kernel_rfl) (by kernel_rfl) (by kernel_rfl) (fun _ _ _ h => h) (Or.inl ⟨by rfl, ?_⟩) hHeld ?_
          rotate_left
          · (intro w hSw; (try dsimp only at hSw); first | (go_simp; done) | (go_simp; with_reducible rfl))
          (try simp only [List.getElem_toArray, List.getElem_cons_succ, List.getElem_cons_zero, Act.put, List.setIfInBounds_toArray, List.set_cons_zero, List.set_cons_succ])
          refine wpAnyH_take (i := 11) (oi := _) (v := ?_) rfl (by kernel_rfl) (by kernel_rfl) (by kernel_rfl) (fun _ _ _ h => h) (Or.inl ⟨by rfl, ?_⟩) hHeld ?_
          rotate_left
          · (intro w hSw; (try dsimp only at hSw); first | (go_simp; done) | (go_simp; with_reducible rfl))
          (try simp only [List.getElem_toArray, List.getElem_cons_succ, List.getElem_cons_zero, Act.put, List.setIfInBounds_toArray, List.set_cons_zero, List.set_cons_succ])
          refine wpAnyH_ready (rs := [12]) (by kernel_rfl) (by simp) ?_
          refine AllReadyH.cons (o := _) rfl (fun K hK => ?_) AllReadyH.nil
          obtain ⟨ga, hga⟩ : ∃ ga, w5.heap.size = ga := ⟨_, rfl⟩
          obtain ⟨wl, hwl⟩ : ∃ wl, (w5.alloc (.cells #[.int .i64 0, .int .i64 0, .int .i64 0, .int .i64 0] 29)) = wl := ⟨_, rfl⟩
          have hgx : w1.heap.size ≤ ga := by rw [← hga]; exact hge
          rw [hwl, hga] at HA
          clear hge
          rw [hwl] at hHeld
          rw [hwl, hga]
          have a0 : wl.cell? ⟨ga, 0, none⟩ = some (.int .i64 0) := cell_of_row _ _ _ _ _ _ HA.out
          have a1 : wl.cell? ⟨ga, 1, none⟩ = some (.int .i64 0) := cell_of_row _ _ _ _ _ _ HA.out
          have a2 : wl.cell? ⟨ga, 2, none⟩ = some (.int .i64 0) := cell_of_row _ _ _ _ _ _ HA.out
          have a3 : wl.cell? ⟨ga, 3, none⟩ = some (.int .i64 0) := cell_of_row _ _ _ _ _ _ HA.out
          have af := fun i => HA.out.free i
          clear hwl hga
          unfold chipsOf
          go_simp
          refine hK.out _ _ (below_sets4 hHeld (by omega) _ _ _ _) (fun hHeld => ?_)
          clear hK K
          (try simp only [List.getElem_toArray, List.getElem_cons_succ, List.getElem_cons_zero, Act.put, List.setIfInBounds_toArray, List.set_cons_zero, List.set_cons_succ])
          refine wpAnyH_done (by kernel_rfl) ?_ _
          have HFF := Lib.hid (And.intro (row_set4 HA.out (.int .i64 (chip (num k 99 (fr f : Nat)) 0)) (.int .i64 (chip (num k 99 (fr f : Nat)) 1)) (.int .i64 (chip (num k 99 (fr f : Nat)) 2)) (.int .i64 (chip (num k 99 (fr f : Nat)) 3))) (HB.out.trans (hHeld.mono HB.out.size)))
          clear a0 a1 a2 a3 af HA hHeld
          go_wp2_with fail
          go_meet
          case rel => exact ⟨rfl, rfl, ga, rfl, by omega, HFF.out.1, HFF.out.2⟩
        · have hHeld0 := hHeld
          go_simp
          refine hK.out _ _ (hHeld.alloc hHeld.size _) (fun hHeld => ?_)
          have HA : Hid (Row (w4.alloc (.cells #[.int .i64 0, .int .i64 0, .int .i64 0, .int .i64 0] 29)) w4.heap.size 29 #[.int .i64 0, .int .i64 0, .int .i64 0, .int .i64 0]) := heap_alloc_new _ _
          have hge : w1.heap.size ≤ w4.heap.size := hHeld0.size
          clear hK K
          (try simp only [List.getElem_toArray, List.getElem_cons_succ, List.getElem_cons_zero, Act.put, List.setIfInBounds_toArray, List.set_cons_zero, List.set_cons_succ])
          refine wpAnyH_ready (rs := [8]) (by kernel_rfl) (by simp) ?_
          refine AllReadyH.cons (o := _) rfl (fun K hK => ?_) AllReadyH.nil
          go_simp
          refine (chips_any k f _ hk (HS.out.below hHeld HS.out.lt)).mono ?_
          rintro e w5 ⟨rfl, hb⟩
          go_wp2_with fail
          have hN := hHeld.trans (hb.mono hHeld.size)
          have HA := Lib.hid (Row.box HA.out hb)
          clear hHeld hb
          refine hK.out _ _ hN (fun hHeld => ?_)
          clear hN hK K
          (try simp only [List.getElem_toArray, List.getElem_cons_succ, List.getElem_cons_zero, Act.put, List.setIfInBounds_toArray, List.set_cons_zero, List.set_cons_succ])
          refine wpAnyH_take (i := 10) (oi := _) (v := ?_) rfl (by kernel_rfl) (by kernel_rfl) (by kernel_rfl) (fun _ _ _ h => h) (Or.inl ⟨by rfl, ?_⟩) hHeld ?_
          rotate_left
          · (intro w hSw; (try dsimp only at hSw); first | (go_simp; done) | (go_simp; with_reducible rfl))
          (try simp only [List.getElem_toArray, List.getElem_cons_succ, List.getElem_cons_zero, Act.put, List.setIfInBounds_toArray, List.set_cons_zero, List.set_cons_succ])
          refine wpAnyH_take (i := 11) (oi := _) (v := ?_) rfl (by kernel_rfl) (by kernel_rfl) (by kernel_rfl) (fun _ _ _ h => h) (Or.inl ⟨by rfl, ?_⟩) hHeld ?_
          rotate_left
          · (intro w hSw; (try dsimp only at hSw); first | (go_simp; done) | (go_simp; with_reducible rfl))
          (try simp only [List.getElem_toArray, List.getElem_cons_succ, List.getElem_cons_zero, Act.put, List.setIfInBounds_toArray, List.set_cons_zero, List.set_cons_succ])
          refine wpAnyH_ready (rs := [12]) (by kernel_rfl) (by simp) ?_
          refine AllReadyH.cons (o := _) rfl (fun K hK => ?_) AllReadyH.nil
          obtain ⟨ga, hga⟩ : ∃ ga, w4.heap.size = ga := ⟨_, rfl⟩
          obtain ⟨wl, hwl⟩ : ∃ wl, w5 = wl := ⟨_, rfl⟩
          have hgx : w1.heap.size ≤ ga := by rw [← hga]; exact hge
          rw [hwl, hga] at HA
          clear hge
          rw [hwl] at hHeld
          rw [hwl, hga]
          have a0 : wl.cell? ⟨ga, 0, none⟩ = some (.int .i64 0) := cell_of_row _ _ _ _ _ _ HA.out
          have a1 : wl.cell? ⟨ga, 1, none⟩ = some (.int .i64 0) := cell_of_row _ _ _ _ _ _ HA.out
          have a2 : wl.cell? ⟨ga, 2, none⟩ = some (.int .i64 0) := cell_of_row _ _ _ _ _ _ HA.out
          have a3 : wl.cell? ⟨ga, 3, none⟩ = some (.int .i64 0) := cell_of_row _ _ _ _ _ _ HA.out
          have af := fun i => HA.out.free i
          clear hwl hga
          unfold chipsOf
          go_simp
          refine hK.out _ _ (below_sets4 hHeld (by omega) _ _ _ _) (fun hHeld => ?_)
          clear hK K
          (try simp only [List.getElem_toArray, List.getElem_cons_succ, List.getElem_cons_zero, Act.put, List.setIfInBounds_toArray, List.set_cons_zero, List.set_cons_succ])
          refine wpAnyH_done (by kernel_rfl) ?_ _
          have HFF := Lib.hid (And.intro (row_set4 HA.out (.int .i64 (chip (num k 99 (fr f : Nat)) 0)) (.int .i64 (chip (num k 99 (fr f : Nat)) 1)) (.int .i64 (chip (num k 99 (fr f : Nat)) 2)) (.int .i64 (chip (num k 99 (fr f : Nat)) 3))) (HB.out.trans (hHeld.mono HB.out.size)))
          clear a0 a1 a2 a3 af HA hHeld
          go_wp2_with fail
          go_meet
          case rel => exact ⟨rfl, rfl, ga, rfl, by omega, HFF.out.1, HFF.out.2⟩
      · have hHeld0 := hHeld
        go_simp
        refine hK.out _ _ (hHeld.alloc hHeld.size _) (fun hHeld => ?_)
        have HA : Hid (Row (w3.alloc (.cells #[.int .i64 0, .int .i64 0, .int .i64 0, .int .i64 0] 29)) w3.heap.size 29 #[.int .i64 0, .int .i64 0, .int .i64 0, .int .i64 0]) := heap_alloc_new _ _
        have hge : w1.heap.size ≤ w3.heap.size := hHeld0.size
        clear hK K
        (try simp only [List.getElem_toArray, List.getElem_cons_succ, List.getElem_cons_zero, Act.put, List.setIfInBounds_toArray, List.set_cons_zero, List.set_cons_succ])
        refine wpAnyH_ready (rs := [5]) (by kernel_rfl) (by simp) ?_
        refine AllReadyH.cons (o := _) rfl (fun K hK => ?_) AllReadyH.nil
        go_simp
        refine (place_any k f _ hk (HS.out.below hHeld HS.out.lt)).mono ?_
        rintro e w4 ⟨rfl, hb⟩
        go_wp2_with fail
        have hN := hHeld.trans (hb.mono hHeld.size)
        have HA := Lib.hid (Row.box HA.out hb)
        clear hHeld hb
        refine hK.out _ _ hN (fun hHeld => ?_)
        clear hN hK K
        (try simp only [List.getElem_toArray, List.getElem_cons_succ, List.getElem_cons_zero, Act.put, List.setIfInBounds_toArray, List.set_cons_zero, List.set_cons_succ])
        refine wpAnyH_ready (rs := [8]) (by kernel_rfl) (by simp) ?_
        refine AllReadyH.cons (o := _) rfl (fun K hK => ?_) AllReadyH.nil
        go_simp
        refine (chips_any k f _ hk (HS.out.below hHeld HS.out.lt)).mono ?_
        rintro e w5 ⟨rfl, hb⟩
        go_wp2_with fail
        have hN := hHeld.trans (hb.mono hHeld.size)
        have HA := Lib.hid (Row.box HA.out hb)
        clear hHeld hb
        refine hK.out _ _ hN (fun hHeld => ?_)
        clear hN hK K
        (try simp only [List.getElem_toArray, List.getElem_cons_succ, List.getElem_cons_zero, Act.put, List.setIfInBounds_toArray, List.set_cons_zero, List.set_cons_succ])
        refine wpAnyH_take (i := 10) (oi := _) (v := ?_) rfl (by kernel_rfl) (by kernel_rfl) (by kernel_rfl) (fun _ _ _ h => h) (Or.inl ⟨by rfl, ?_⟩) hHeld ?_
        rotate_left
        · (intro w hSw; (try dsimp only at hSw); first | (go_simp; done) | (go_simp; with_reducible rfl))
        (try simp only [List.getElem_toArray, List.getElem_cons_succ, List.getElem_cons_zero, Act.put, List.setIfInBounds_toArray, List.set_cons_zero, List.set_cons_succ])
        refine wpAnyH_take (i := 11) (oi := _) (v := ?_) rfl (by kernel_rfl) (by kernel_rfl) (by kernel_rfl) (fun _ _ _ h => h) (Or.inl ⟨by rfl, ?_⟩) hHeld ?_
        rotate_left
        · (intro w hSw; (try dsimp only at hSw); first | (go_simp; done) | (go_simp; with_reducible rfl))
        (try simp only [List.getElem_toArray, List.getElem_cons_succ, List.getElem_cons_zero, Act.put, List.setIfInBounds_toArray, List.set_cons_zero, List.set_cons_succ])
        refine wpAnyH_ready (rs := [12]) (by kernel_rfl) (by simp) ?_
        refine AllReadyH.cons (o := _) rfl (fun K hK => ?_) AllReadyH.nil
        obtain ⟨ga, hga⟩ : ∃ ga, w3.heap.size = ga := ⟨_, rfl⟩
        obtain ⟨wl, hwl⟩ : ∃ wl, w5 = wl := ⟨_, rfl⟩
        have hgx : w1.heap.size ≤ ga := by rw [← hga]; exact hge
        rw [hwl, hga] at HA
        clear hge
        rw [hwl] at hHeld
        rw [hwl, hga]
        have a0 : wl.cell? ⟨ga, 0, none⟩ = some (.int .i64 0) := cell_of_row _ _ _ _ _ _ HA.out
        have a1 : wl.cell? ⟨ga, 1, none⟩ = some (.int .i64 0) := cell_of_row _ _ _ _ _ _ HA.out
        have a2 : wl.cell? ⟨ga, 2, none⟩ = some (.int .i64 0) := cell_of_row _ _ _ _ _ _ HA.out
        have a3 : wl.cell? ⟨ga, 3, none⟩ = some (.int .i64 0) := cell_of_row _ _ _ _ _ _ HA.out
        have af := fun i => HA.out.free i
        clear hwl hga
        unfold chipsOf
        go_simp
        refine hK.out _ _ (below_sets4 hHeld (by omega) _ _ _ _) (fun hHeld => ?_)
        clear hK K
        (try simp only [List.getElem_toArray, List.getElem_cons_succ, List.getElem_cons_zero, Act.put, List.setIfInBounds_toArray, List.set_cons_zero, List.set_cons_succ])
        refine wpAnyH_done (by kernel_rfl) ?_ _
        have HFF := Lib.hid (And.intro (row_set4 HA.out (.int .i64 (chip (num k 99 (fr f : Nat)) 0)) (.int .i64 (chip (num k 99 (fr f : Nat)) 1)) (.int .i64 (chip (num k 99 (fr f : Nat)) 2)) (.int .i64 (chip (num k 99 (fr f : Nat)) 3))) (HB.out.trans (hHeld.mono HB.out.size)))
        clear a0 a1 a2 a3 af HA hHeld
        go_wp2_with fail
        go_meet
        case rel => exact ⟨rfl, rfl, ga, rfl, by omega, HFF.out.1, HFF.out.2⟩
    · have hHeld0 := hHeld
      go_simp
      refine hK.out _ _ (hHeld.alloc hHeld.size _) (fun hHeld => ?_)
      have HA : Hid (Row (w1.drew.alloc (.cells #[.int .i64 0, .int .i64 0, .int .i64 0, .int .i64 0] 29)) w1.heap.size 29 #[.int .i64 0, .int .i64 0, .int .i64 0, .int .i64 0]) := heap_alloc_new _ _
      have hge : w1.heap.size ≤ w1.heap.size := hHeld0.size
      clear hK K
      (try simp only [List.getElem_toArray, List.getElem_cons_succ, List.getElem_cons_zero, Act.put, List.setIfInBounds_toArray, List.set_cons_zero, List.set_cons_succ])
      refine wpAnyH_ready (rs := [2]) (by kernel_rfl) (by simp) ?_
      refine AllReadyH.cons (o := _) rfl (fun K hK => ?_) AllReadyH.nil
      go_simp
      refine (band_any k f _ hk (HS.out.below hHeld HS.out.lt)).mono ?_
      rintro e w3 ⟨rfl, hb⟩
      go_wp2_with fail
      have hN := hHeld.trans (hb.mono hHeld.size)
      have HA := Lib.hid (Row.box HA.out hb)
      clear hHeld hb
      refine hK.out _ _ hN (fun hHeld => ?_)
      clear hN hK K
      (try simp only [List.getElem_toArray, List.getElem_cons_succ, List.getElem_cons_zero, Act.put, List.setIfInBounds_toArray, List.set_cons_zero, List.set_cons_succ])
      refine wpAnyH_ready (rs := [5]) (by kernel_rfl) (by simp) ?_
      refine AllReadyH.cons (o := _) rfl (fun K hK => ?_) AllReadyH.nil
      go_simp
      refine (place_any k f _ hk (HS.out.below hHeld HS.out.lt)).mono ?_
      rintro e w4 ⟨rfl, hb⟩
      go_wp2_with fail
      have hN := hHeld.trans (hb.mono hHeld.size)
      have HA := Lib.hid (Row.box HA.out hb)
      clear hHeld hb
      refine hK.out _ _ hN (fun hHeld => ?_)
      clear hN hK K
      (try simp only [List.getElem_toArray, List.getElem_cons_succ, List.getElem_cons_zero, Act.put, List.setIfInBounds_toArray, List.set_cons_zero, List.set_cons_succ])
      refine wpAnyH_ready (rs := [8]) (by kernel_rfl) (by simp) ?_
      refine AllReadyH.cons (o := _) rfl (fun K hK => ?_) AllReadyH.nil
      go_simp
      refine (chips_any k f _ hk (HS.out.below hHeld HS.out.lt)).mono ?_
      rintro e w5 ⟨rfl, hb⟩
      go_wp2_with fail
      have hN := hHeld.trans (hb.mono hHeld.size)
      have HA := Lib.hid (Row.box HA.out hb)
      clear hHeld hb
      refine hK.out _ _ hN (fun hHeld => ?_)
      clear hN hK K
      (try simp only [List.getElem_toArray, List.getElem_cons_succ, List.getElem_cons_zero, Act.put, List.setIfInBounds_toArray, List.set_cons_zero, List.set_cons_succ])
      refine wpAnyH_take (i := 10) (oi := _) (v := ?_) rfl (by kernel_rfl) (by kernel_rfl) (by kernel_rfl) (fun _ _ _ h => h) (Or.inl ⟨by rfl, ?_⟩) hHeld ?_
      rotate_left
      · (intro w hSw; (try dsimp only at hSw); first | (go_simp; done) | (go_simp; with_reducible rfl))
      (try simp only [List.getElem_toArray, List.getElem_cons_succ, List.getElem_cons_zero, Act.put, List.setIfInBounds_toArray, List.set_cons_zero, List.set_cons_succ])
      refine wpAnyH_take (i := 11) (oi := _) (v := ?_) rfl (by kernel_rfl) (by kernel_rfl) (by kernel_rfl) (fun _ _ _ h => h) (Or.inl ⟨by rfl, ?_⟩) hHeld ?_
      rotate_left
      · (intro w hSw; (try dsimp only at hSw); first | (go_simp; done) | (go_simp; with_reducible rfl))
      (try simp only [List.getElem_toArray, List.getElem_cons_succ, List.getElem_cons_zero, Act.put, List.setIfInBounds_toArray, List.set_cons_zero, List.set_cons_succ])
      refine wpAnyH_ready (rs := [12]) (by kernel_rfl) (by simp) ?_
      refine AllReadyH.cons (o := _) rfl (fun K hK => ?_) AllReadyH.nil
      obtain ⟨ga, hga⟩ : ∃ ga, w1.heap.size = ga := ⟨_, rfl⟩
      obtain ⟨wl, hwl⟩ : ∃ wl, w5 = wl := ⟨_, rfl⟩
      have hgx : w1.heap.size ≤ ga := by rw [← hga]; exact hge
      rw [hwl, hga] at HA
      clear hge
      rw [hwl] at hHeld
      rw [hwl, hga]
      have a0 : wl.cell? ⟨ga, 0, none⟩ = some (.int .i64 0) := cell_of_row _ _ _ _ _ _ HA.out
      have a1 : wl.cell? ⟨ga, 1, none⟩ = some (.int .i64 0) := cell_of_row _ _ _ _ _ _ HA.out
      have a2 : wl.cell? ⟨ga, 2, none⟩ = some (.int .i64 0) := cell_of_row _ _ _ _ _ _ HA.out
      have a3 : wl.cell? ⟨ga, 3, none⟩ = some (.int .i64 0) := cell_of_row _ _ _ _ _ _ HA.out
      have af := fun i => HA.out.free i
      clear hwl hga
      unfold chipsOf
      go_simp
      refine hK.out _ _ (below_sets4 hHeld (by omega) _ _ _ _) (fun hHeld => ?_)
      clear hK K
      (try simp only [List.getElem_toArray, List.getElem_cons_succ, List.getElem_cons_zero, Act.put, List.setIfInBounds_toArray, List.set_cons_zero, List.set_cons_succ])
      refine wpAnyH_done (by kernel_rfl) ?_ _
      have HFF := Lib.hid (And.intro (row_set4 HA.out (.int .i64 (chip (num k 99 (fr f : Nat)) 0)) (.int .i64 (chip (num k 99 (fr f : Nat)) 1)) (.int .i64 (chip (num k 99 (fr f : Nat)) 2)) (.int .i64 (chip (num k 99 (fr f : Nat)) 3))) (HB.out.trans (hHeld.mono HB.out.size)))
      clear a0 a1 a2 a3 af HA hHeld
      go_wp2_with fail
      go_meet
      case rel => exact ⟨rfl, rfl, ga, rfl, by omega, HFF.out.1, HFF.out.2⟩
  case rest =>
    obtain ⟨rfl, rfl, ga, rfl, hga, hrow, hbel⟩ := hcut
    have HRW := Lib.hid hrow
    have HBW := Lib.hid hbel
    have hbl := bandOf_lt k f
    have hpl := placeOf_lt k f
    have hml := fr_lt f
    have c0 : wc.cell? ⟨ga, 0, none⟩ = some (.int .i64 (chip (num k 99 (fr f : Nat)) 0)) := cell_of_row _ _ _ _ _ _ hrow
    have c1 : wc.cell? ⟨ga, 1, none⟩ = some (.int .i64 (chip (num k 99 (fr f : Nat)) 1)) := cell_of_row _ _ _ _ _ _ hrow
    have c2 : wc.cell? ⟨ga, 2, none⟩ = some (.int .i64 (chip (num k 99 (fr f : Nat)) 2)) := cell_of_row _ _ _ _ _ _ hrow
    have c3 : wc.cell? ⟨ga, 3, none⟩ = some (.int .i64 (chip (num k 99 (fr f : Nat)) 3)) := cell_of_row _ _ _ _ _ _ hrow
    have hcell : ∀ j, j < 4 → ∃ v : Int, wc.cell? ⟨ga, j, none⟩ = some (.int .i64 v) ∧ (v = 1 ∨ v = -1) := by
      intro j hj
      match j, hj with
      | 0, _ => exact ⟨_, c0, chip_or _ _⟩
      | 1, _ => exact ⟨_, c1, chip_or _ _⟩
      | 2, _ => exact ⟨_, c2, chip_or _ _⟩
      | 3, _ => exact ⟨_, c3, chip_or _ _⟩
      | n + 4, h => omega
    have HCL := Lib.hid hcell
    clear hcell c0 c1 c2 c3 hrow hbel
    go_wp2
    go_loop [8] (fun i => ∃ j : Nat, j ≤ 4 ∧ i = .int .i64 j) (fun i => 4 - (intOf i).toNat)
    case atStart => exact ⟨0, Nat.zero_le _, rfl⟩
    case round =>
      obtain ⟨j, hj, rfl⟩ := hrel
      by_cases hlt : j < 4
      · obtain ⟨v, cv, hv⟩ := HCL.out j hlt
        have hji : (j : Int) < 4 := by omega
        rcases hv with rfl | rfl
        · go_wp2
          go_round
          case rel => exact ⟨j + 1, by omega, by go_num⟩
          case measure => simp [intOf]; omega
        · go_wp2
          go_round
          case rel => exact ⟨j + 1, by omega, by go_num⟩
          case measure => simp [intOf]; omega
      · obtain rfl : j = 4 := by omega
        clear hj hlt
        rw [show ((4 : Nat) : Int) = (4 : Int) from rfl]
        have g1 : (0 : Int) ≤ (bandOf k f : Nat) := by omega
        have g2 : ((bandOf k f : Nat) : Int) ≤ 7 := by omega
        have g3 : (0 : Int) ≤ (placeOf k f : Nat) := by omega
        have g4 : ((placeOf k f : Nat) : Int) ≤ 126 := by omega
        generalize bandOf k f = bb at *
        generalize placeOf k f = pp at *
        go_wp2_with fail
        refine (frame_any f _).mono ?_
        rintro e w9 ⟨rfl, rfl⟩
        have g5 : (0 : Int) ≤ (fr f : Nat) := by omega
        have g6 : ((fr f : Nat) : Int) < 1016 := by omega
        go_wp2_with fail
        refine (frame_any f _).mono ?_
        rintro e w10 ⟨rfl, rfl⟩
        go_wp2
        go_ret
        exact ⟨rfl, HBW.out⟩
end Go.Proofs.YtnhbbdfjeaflcaaDoor
