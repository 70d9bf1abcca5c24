/-
  The walk of the law KeyedPeriod: it returns true, and nothing that was there is changed. Condition: the signs lie as the program's text lays them.
-/
import Derived.Test.YtppkiponpjnkkaaDoorKe
import Derived.Deep.Cut
namespace Go.Proofs.YtppkiponpjnkkaaDoor
open Go.RowKit
open M
attribute [local go_sem] eq31

theorem row_far4 {w : World} {g g' : Nat} {t : TypeId} {cs : Array Value} (h : Row w g t cs) (hne : g ≠ g') (a b c d : Value) :
    Row ((((w.setCell ⟨g', 0, none⟩ a).setCell ⟨g', 1, none⟩ b).setCell ⟨g', 2, none⟩ c).setCell ⟨g', 3, none⟩ d) g t cs :=
  (((h.far (p := ⟨g', 0, none⟩) hne a).far (p := ⟨g', 1, none⟩) hne b).far (p := ⟨g', 2, none⟩) hne c).far (p := ⟨g', 3, none⟩) hne d
theorem chips_same (k : List UInt8) {f g : Int} (h : fr g = fr f) : chipsOf k g = chipsOf k f := by unfold chipsOf; rw [h]
theorem band_same (k : List UInt8) {f g : Int} (h : fr g = fr f) : bandOf k g = bandOf k f := by unfold bandOf; rw [h]
theorem place_same (k : List UInt8) {f g : Int} (h : fr g = fr f) : placeOf k g = placeOf k f := by unfold placeOf; rw [h]
theorem sub_some (x : BitVec 64) (b : Nat) : eqB4 (subB x b 0 || none4 x b) (subB x b 1) (subB x b 2) (subB x b 3) false false false false = false := by
  unfold eqB4 none4
  cases subB x b 0 <;> cases subB x b 1 <;> cases subB x b 2 <;> cases subB x b 3 <;> rfl
theorem eqI4 (a b c d : Int) (w : World) :
    (Op.equalIn 10000 25 (.agg #[.int .i64 a, .int .i64 b, .int .i64 c, .int .i64 d]) (.agg #[.int .i64 a, .int .i64 b, .int .i64 c, .int .i64 d])).run Tryd.prog w = .ok true w := by
  have u3 := Tryd.underlying3
  have a3 := Tryd.isAgg3
  have z3 := Tryd.sizeOf3
  rw [show (10000 : Nat) = 9999 + 1 from rfl, Op.equalIn]
  simp only [Sem.run_bind, run_underlying Tryd.underlying25, Result.andThen_ok]
  simp only [Std.Legacy.Range.forIn_eq_forIn_range', Std.Legacy.Range.size, Nat.sub_zero, Nat.add_sub_cancel, Nat.div_one, List.range'_succ, List.range'_zero, List.forIn_cons, List.forIn_nil]
  go_simp
theorem eqB4_self (a b c d : Bool) : eqB4 a b c d a b c d = true := by unfold eqB4; cases a <;> cases b <;> cases c <;> cases d <;> rfl
theorem int4_info : (Tryd.prog.info? 25).map (·.size) = some 4 := by kernel_rfl
theorem bool4_info : (Tryd.prog.info? 27).map (·.size) = some 4 := by kernel_rfl
attribute [local go_sem] eqI4 eqB4_self
theorem tmod6 (n : Int) : -1000000 < n.tmod 1000000 ∧ n.tmod 1000000 < 1000000 := by
  have h1 := Int.tmod_lt_of_pos n (show (0 : Int) < 1000000 by decide)
  rcases Int.le_total 0 n with h | h
  · have := Int.tmod_nonneg 1000000 h; omega
  · have h3 := Int.tmod_lt_of_pos (-n) (show (0 : Int) < 1000000 by decide)
    rw [Int.neg_tmod] at h3; omega
theorem tmod3 (n : Int) : -1000 < n.tmod 1000 ∧ n.tmod 1000 < 1000 := by
  have h1 := Int.tmod_lt_of_pos n (show (0 : Int) < 1000 by decide)
  rcases Int.le_total 0 n with h | h
  · have := Int.tmod_nonneg 1000 h; omega
  · have h3 := Int.tmod_lt_of_pos (-n) (show (0 : Int) < 1000 by decide)
    rw [Int.neg_tmod] at h3; omega

set_option maxRecDepth 100000 in
set_option maxHeartbeats 8000000 in
theorem period_law (k : List UInt8) (f n : Int) (bn bt : Nat) (w : World) (hk : k.length = 16) (hbn : bn < 256) (hbt : bt < 256) (h : Signs w) :
    Calls Tryd.prog 3 #[.agg (byteCells k), .int .i64 f, .int .i64 n, .int .u8 bn, .int .u8 bt] w fun e w' => e = .returned (.bool true) ∧ Below w.heap.size w w' := by
  have hb0 : Below w.heap.size w (w.alloc (.cells (byteCells k) 23)) := (Below.refl _ _).alloc (Nat.le_refl _) _
  have HG := Lib.hid (h.below hb0 h.lt)
  have HGG := Lib.hid h
  have HR0 : Hid (Row (w.alloc (.cells (byteCells k) 23)) w.heap.size 23 (byteCells k)) := heap_alloc_new _ _
  have HB0 := Lib.hid hb0
  have HI := Lib.hid (key_info k hk)
  have hF := tmod6 f
  have hN0 := tmod3 n
  obtain ⟨F, hFF⟩ : ∃ F, f.tmod 1000000 = F := ⟨_, rfl⟩
  obtain ⟨M, hMM⟩ : ∃ M, n.tmod 1000 = M := ⟨_, rfl⟩
  rw [hFF] at hF
  rw [hMM] at hN0
  obtain ⟨hF1, hF2⟩ := hF
  obtain ⟨hM1, hM2⟩ := hN0
  obtain ⟨P, hPP⟩ : ∃ P, 1016 * M = P := ⟨_, rfl⟩
  have hP1 : -1016000 ≤ P := by omega
  have hP2 : P ≤ 1016000 := by omega
  obtain ⟨G, hGG⟩ : ∃ G, F + P = G := ⟨_, rfl⟩
  have hfg : fr G = fr F := by unfold fr; omega
  have HFG := Lib.hid hfg
  clear h hb0 hfg hM1 hM2
  go_enter Tryd.func3, Tryd.ntmps3
  go_wp2_with fail
  refine (awake_any _ HG.out).mono ?_
  rintro e w1 ⟨rfl, hb⟩
  have HR := Lib.hid (HR0.out.below hb HR0.out.lt)
  have HB := Lib.hid (HB0.out.trans (hb.mono HB0.out.size))
  have HS := Lib.hid (HG.out.below hb HG.out.lt)
  have hw1 : w.heap.size + 1 ≤ w1.heap.size := by have := hb.size; simpa using this
  clear hb HR0 HB0 HG
  go_wp2_with fail
  go_cut [13, 14] from 19 (fun s13 s14 W => ∃ g1 g2, s13 = .pointer (some ⟨g1, 0, none⟩) ∧ s14 = .pointer (some ⟨g2, 0, none⟩) ∧ w.heap.size ≤ g1 ∧ w.heap.size ≤ g2 ∧ Row W g1 25 (chipsOf k F) ∧ Row W g2 25 (chipsOf k G) ∧ Row W w.heap.size 23 (byteCells k) ∧ Below w.heap.size w W)
  case first =>
    refine wp_region_held_drew (S := fun w' => Below w1.heap.size w1 w') (by kernel_rfl) ?_ (fun hHeld => ?_)
    · exact below_drew1 (Below.refl _ _)
    generalize w1.drew = w2 at hHeld ⊢
    refine wpAnyH_take (i := 0) (oi := _) rfl (by kernel_rfl) (by kernel_rfl) (by kernel_rfl) (fun _ _ _ h => h) (yields_row (by rfl) 23 (.tmp 5) rfl w.heap.size rfl 23 (byteCells k) HR.out Tryd.underlying23 HI.out) hHeld ?_
    (try simp only [List.getElem_toArray, List.getElem_cons_zero, Act.put, List.setIfInBounds_toArray, List.set_cons_zero, List.set_cons_succ])
    refine wpAnyH_take (i := 1) (oi := _) (v := ?_) rfl (by kernel_rfl) (by kernel_rfl) (by kernel_rfl) (fun _ _ _ h => h) (Or.inl ⟨by rfl, ?_⟩) hHeld ?_
    rotate_left
    · (intro w hSw; (try dsimp only at hSw); first | (go_simp; done) | (go_simp; with_reducible rfl))
    (try simp only [List.getElem_toArray, List.getElem_cons_succ, List.getElem_cons_zero, Act.put, List.setIfInBounds_toArray, List.set_cons_zero, List.set_cons_succ])
    refine wpAnyH_take (i := 3) (oi := _) rfl (by kernel_rfl) (by kernel_rfl) (by kernel_rfl) (fun _ _ _ h => h) (yields_row (by rfl) 23 (.tmp 5) rfl w.heap.size rfl 23 (byteCells k) HR.out Tryd.underlying23 HI.out) hHeld ?_
    (try simp only [List.getElem_toArray, List.getElem_cons_succ, List.getElem_cons_zero, Act.put, List.setIfInBounds_toArray, List.set_cons_zero, List.set_cons_succ])
    refine wpAnyH_take (i := 4) (oi := _) (v := ?_) rfl (by kernel_rfl) (by kernel_rfl) (by kernel_rfl) (fun _ _ _ h => h) (Or.inl ⟨by rfl, ?_⟩) hHeld ?_
    rotate_left
    · (intro w hSw; (try dsimp only at hSw); first | (go_simp; done) | (go_simp; with_reducible rfl))
    (try simp only [List.getElem_toArray, List.getElem_cons_succ, List.getElem_cons_zero, Act.put, List.setIfInBounds_toArray, List.set_cons_zero, List.set_cons_succ])
    refine wpAnyH_ready (rs := [2, 6, 7]) (by kernel_rfl) (by simp) ?_
    refine (AllReadyH.cons (o := _) rfl (fun K hK => ?_) (AllReadyH.cons (o := _) rfl (fun K hK => ?_) (AllReadyH.cons (o := _) rfl (fun K hK => ?_) AllReadyH.nil)))
    · go_simp
      refine (chips_any k F _ hk (HS.out.below hHeld HS.out.lt)).mono ?_
      rintro e w20 ⟨rfl, hb⟩
      go_wp2_with fail
      have hN := hHeld.trans (hb.mono hHeld.size)
      clear hHeld hb
      refine hK.out _ _ hN (fun hHeld => ?_)
      clear hN hK K
      (try simp only [List.getElem_toArray, List.getElem_cons_succ, List.getElem_cons_zero, Act.put, List.setIfInBounds_toArray, List.set_cons_zero, List.set_cons_succ])
      refine wpAnyH_ready (rs := [5, 6, 7]) (by kernel_rfl) (by simp) ?_
      refine (AllReadyH.cons (o := _) rfl (fun K hK => ?_) (AllReadyH.cons (o := _) rfl (fun K hK => ?_) (AllReadyH.cons (o := _) rfl (fun K hK => ?_) AllReadyH.nil)))
      · go_simp
        refine (chips_any k G _ hk (HS.out.below hHeld HS.out.lt)).mono ?_
        rintro e w21 ⟨rfl, hb⟩
        go_wp2_with fail
        have hN := hHeld.trans (hb.mono hHeld.size)
        clear hHeld hb
        refine hK.out _ _ hN (fun hHeld => ?_)
        clear hN hK K
        (try simp only [List.getElem_toArray, List.getElem_cons_succ, List.getElem_cons_zero, Act.put, List.setIfInBounds_toArray, List.set_cons_zero, List.set_cons_succ])
        refine wpAnyH_ready (rs := [6, 7]) (by kernel_rfl) (by simp) ?_
        refine (AllReadyH.cons (o := _) rfl (fun K hK => ?_) (AllReadyH.cons (o := _) rfl (fun K hK => ?_) AllReadyH.nil))
        · go_simp
          have hHeld0 := hHeld
          refine hK.out _ _ (hHeld.alloc hHeld.size _) (fun hHeld => ?_)
          clear hK K
          obtain ⟨ga0, hga0⟩ : ∃ g, w21.heap.size = g := ⟨_, rfl⟩
          have hge0 : w1.heap.size ≤ ga0 := by rw [← hga0]; exact hHeld0.size
          have HA0 : Hid (Row (w21.alloc (.cells #[.int .i64 0, .int .i64 0, .int .i64 0, .int .i64 0] 25)) ga0 25 #[.int .i64 0, .int .i64 0, .int .i64 0, .int .i64 0]) := row_new _ _ hga0 _ _
          rw [hga0]
          generalize w21.alloc (.cells #[.int .i64 0, .int .i64 0, .int .i64 0, .int .i64 0] 25) = w22 at hHeld HA0 ⊢
          clear hga0 hHeld0
          (try simp only [List.getElem_toArray, List.getElem_cons_succ, List.getElem_cons_zero, Act.put, List.setIfInBounds_toArray, List.set_cons_zero, List.set_cons_succ])
          refine wpAnyH_ready (rs := [7]) (by kernel_rfl) (by simp) ?_
          refine (AllReadyH.cons (o := _) rfl (fun K hK => ?_) AllReadyH.nil)
          go_simp
          have hHeld0 := hHeld
          refine hK.out _ _ (hHeld.alloc hHeld.size _) (fun hHeld => ?_)
          clear hK K
          obtain ⟨ga1, hga1⟩ : ∃ g, w22.heap.size = g := ⟨_, rfl⟩
          have hge1 : w1.heap.size ≤ ga1 := by rw [← hga1]; exact hHeld0.size
          have hne01 : ga0 ≠ ga1 := by have := HA0.out.lt; omega
          have HA0 := Lib.hid (Row.alloc HA0.out (.cells #[.int .i64 0, .int .i64 0, .int .i64 0, .int .i64 0] 25))
          have HA1 : Hid (Row (w22.alloc (.cells #[.int .i64 0, .int .i64 0, .int .i64 0, .int .i64 0] 25)) ga1 25 #[.int .i64 0, .int .i64 0, .int .i64 0, .int .i64 0]) := row_new _ _ hga1 _ _
          rw [hga1]
          generalize w22.alloc (.cells #[.int .i64 0, .int .i64 0, .int .i64 0, .int .i64 0] 25) = w23 at hHeld HA0 HA1 ⊢
          clear hga1 hHeld0
          (try simp only [List.getElem_toArray, List.getElem_cons_succ, List.getElem_cons_zero, Act.put, List.setIfInBounds_toArray, List.set_cons_zero, List.set_cons_succ])
          refine wpAnyH_ready (rs := [8]) (by kernel_rfl) (by simp) ?_
          refine (AllReadyH.cons (o := _) rfl (fun K hK => ?_) AllReadyH.nil)
          have a0 : w23.cell? ⟨ga0, 0, none⟩ = some (.int .i64 0) := cell_of_row _ _ _ _ _ _ HA0.out
          have a1 : w23.cell? ⟨ga0, 1, none⟩ = some (.int .i64 0) := cell_of_row _ _ _ _ _ _ HA0.out
          have a2 : w23.cell? ⟨ga0, 2, none⟩ = some (.int .i64 0) := cell_of_row _ _ _ _ _ _ HA0.out
          have a3 : w23.cell? ⟨ga0, 3, none⟩ = some (.int .i64 0) := cell_of_row _ _ _ _ _ _ HA0.out
          have af := fun i => HA0.out.free i
          (try unfold chipsOf)
          go_simp
          refine hK.out _ _ (below_sets4 hHeld hge0 _ _ _ _) (fun hHeld => ?_)
          clear hK K a0 a1 a2 a3 af
          have HA1 := Lib.hid (row_far4 HA1.out hne01.symm (.int .i64 (chip (num k 99 (fr F : Nat)) 0)) (.int .i64 (chip (num k 99 (fr F : Nat)) 1)) (.int .i64 (chip (num k 99 (fr F : Nat)) 2)) (.int .i64 (chip (num k 99 (fr F : Nat)) 3)))
          have HA0 := Lib.hid (row_set4 HA0.out (.int .i64 (chip (num k 99 (fr F : Nat)) 0)) (.int .i64 (chip (num k 99 (fr F : Nat)) 1)) (.int .i64 (chip (num k 99 (fr F : Nat)) 2)) (.int .i64 (chip (num k 99 (fr F : Nat)) 3)))
          generalize (((w23.setCell _ _).setCell _ _).setCell _ _).setCell _ _ = w24 at hHeld HA0 HA1 ⊢
          (try simp only [List.getElem_toArray, List.getElem_cons_succ, List.getElem_cons_zero, Act.put, List.setIfInBounds_toArray, List.set_cons_zero, List.set_cons_succ])
          refine wpAnyH_ready (rs := [9]) (by kernel_rfl) (by simp) ?_
          refine (AllReadyH.cons (o := _) rfl (fun K hK => ?_) AllReadyH.nil)
          have a0 : w24.cell? ⟨ga1, 0, none⟩ = some (.int .i64 0) := cell_of_row _ _ _ _ _ _ HA1.out
          have a1 : w24.cell? ⟨ga1, 1, none⟩ = some (.int .i64 0) := cell_of_row _ _ _ _ _ _ HA1.out
          have a2 : w24.cell? ⟨ga1, 2, none⟩ = some (.int .i64 0) := cell_of_row _ _ _ _ _ _ HA1.out
          have a3 : w24.cell? ⟨ga1, 3, none⟩ = some (.int .i64 0) := cell_of_row _ _ _ _ _ _ HA1.out
          have af := fun i => HA1.out.free i
          (try unfold chipsOf)
          go_simp
          refine hK.out _ _ (below_sets4 hHeld hge1 _ _ _ _) (fun hHeld => ?_)
          clear hK K a0 a1 a2 a3 af
          have HA0 := Lib.hid (row_far4 HA0.out hne01 (.int .i64 (chip (num k 99 (fr G : Nat)) 0)) (.int .i64 (chip (num k 99 (fr G : Nat)) 1)) (.int .i64 (chip (num k 99 (fr G : Nat)) 2)) (.int .i64 (chip (num k 99 (fr G : Nat)) 3)))
          have HA1 := Lib.hid (row_set4 HA1.out (.int .i64 (chip (num k 99 (fr G : Nat)) 0)) (.int .i64 (chip (num k 99 (fr G : Nat)) 1)) (.int .i64 (chip (num k 99 (fr G : Nat)) 2)) (.int .i64 (chip (num k 99 (fr G : Nat)) 3)))
          generalize (((w24.setCell _ _).setCell _ _).setCell _ _).setCell _ _ = w25 at hHeld HA0 HA1 ⊢
          (try simp only [List.getElem_toArray, List.getElem_cons_succ, List.getElem_cons_zero, Act.put, List.setIfInBounds_toArray, List.set_cons_zero, List.set_cons_succ])
          refine wpAnyH_done (by kernel_rfl) ?_ _
          have HBB := Lib.hid (HB.out.trans (hHeld.mono HB.out.size))
          have HR2 := Lib.hid (HR.out.below hHeld HR.out.lt)
          clear hHeld
          go_wp2_with fail
          go_meet
          case rel => exact ⟨ga0, ga1, rfl, rfl, by omega, by omega, HA0.out, HA1.out, HR2.out, HBB.out⟩
        · go_simp
          have hHeld0 := hHeld
          refine hK.out _ _ (hHeld.alloc hHeld.size _) (fun hHeld => ?_)
          clear hK K
          obtain ⟨ga1, hga1⟩ : ∃ g, w21.heap.size = g := ⟨_, rfl⟩
          have hge1 : w1.heap.size ≤ ga1 := by rw [← hga1]; exact hHeld0.size
          have HA1 : Hid (Row (w21.alloc (.cells #[.int .i64 0, .int .i64 0, .int .i64 0, .int .i64 0] 25)) ga1 25 #[.int .i64 0, .int .i64 0, .int .i64 0, .int .i64 0]) := row_new _ _ hga1 _ _
          rw [hga1]
          generalize w21.alloc (.cells #[.int .i64 0, .int .i64 0, .int .i64 0, .int .i64 0] 25) = w26 at hHeld HA1 ⊢
          clear hga1 hHeld0
          (try simp only [List.getElem_toArray, List.getElem_cons_succ, List.getElem_cons_zero, Act.put, List.setIfInBounds_toArray, List.set_cons_zero, List.set_cons_succ])
          refine wpAnyH_ready (rs := [6]) (by kernel_rfl) (by simp) ?_
          refine (AllReadyH.cons (o := _) rfl (fun K hK => ?_) AllReadyH.nil)
          go_simp
          have hHeld0 := hHeld
          refine hK.out _ _ (hHeld.alloc hHeld.size _) (fun hHeld => ?_)
          clear hK K
          obtain ⟨ga0, hga0⟩ : ∃ g, w26.heap.size = g := ⟨_, rfl⟩
          have hge0 : w1.heap.size ≤ ga0 := by rw [← hga0]; exact hHeld0.size
          have hne10 : ga1 ≠ ga0 := by have := HA1.out.lt; omega
          have HA1 := Lib.hid (Row.alloc HA1.out (.cells #[.int .i64 0, .int .i64 0, .int .i64 0, .int .i64 0] 25))
          have HA0 : Hid (Row (w26.alloc (.cells #[.int .i64 0, .int .i64 0, .int .i64 0, .int .i64 0] 25)) ga0 25 #[.int .i64 0, .int .i64 0, .int .i64 0, .int .i64 0]) := row_new _ _ hga0 _ _
          rw [hga0]
          generalize w26.alloc (.cells #[.int .i64 0, .int .i64 0, .int .i64 0, .int .i64 0] 25) = w27 at hHeld HA1 HA0 ⊢
          clear hga0 hHeld0
          (try simp only [List.getElem_toArray, List.getElem_cons_succ, List.getElem_cons_zero, Act.put, List.setIfInBounds_toArray, List.set_cons_zero, List.set_cons_succ])
          refine wpAnyH_ready (rs := [8]) (by kernel_rfl) (by simp) ?_
          refine (AllReadyH.cons (o := _) rfl (fun K hK => ?_) AllReadyH.nil)
          have a0 : w27.cell? ⟨ga0, 0, none⟩ = some (.int .i64 0) := cell_of_row _ _ _ _ _ _ HA0.out
          have a1 : w27.cell? ⟨ga0, 1, none⟩ = some (.int .i64 0) := cell_of_row _ _ _ _ _ _ HA0.out
          have a2 : w27.cell? ⟨ga0, 2, none⟩ = some (.int .i64 0) := cell_of_row _ _ _ _ _ _ HA0.out
          have a3 : w27.cell? ⟨ga0, 3, none⟩ = some (.int .i64 0) := cell_of_row _ _ _ _ _ _ HA0.out
          have af := fun i => HA0.out.free i
          (try unfold chipsOf)
          go_simp
          refine hK.out _ _ (below_sets4 hHeld hge0 _ _ _ _) (fun hHeld => ?_)
          clear hK K a0 a1 a2 a3 af
          have HA1 := Lib.hid (row_far4 HA1.out hne10 (.int .i64 (chip (num k 99 (fr F : Nat)) 0)) (.int .i64 (chip (num k 99 (fr F : Nat)) 1)) (.int .i64 (chip (num k 99 (fr F : Nat)) 2)) (.int .i64 (chip (num k 99 (fr F : Nat)) 3)))
          have HA0 := Lib.hid (row_set4 HA0.out (.int .i64 (chip (num k 99 (fr F : Nat)) 0)) (.int .i64 (chip (num k 99 (fr F : Nat)) 1)) (.int .i64 (chip (num k 99 (fr F : Nat)) 2)) (.int .i64 (chip (num k 99 (fr F : Nat)) 3)))
          generalize (((w27.setCell _ _).setCell _ _).setCell _ _).setCell _ _ = w28 at hHeld HA1 HA0 ⊢
          (try simp only [List.getElem_toArray, List.getElem_cons_succ, List.getElem_cons_zero, Act.put, List.setIfInBounds_toArray, List.set_cons_zero, List.set_cons_succ])
          refine wpAnyH_ready (rs := [9]) (by kernel_rfl) (by simp) ?_
          refine (AllReadyH.cons (o := _) rfl (fun K hK => ?_) AllReadyH.nil)
          have a0 : w28.cell? ⟨ga1, 0, none⟩ = some (.int .i64 0) := cell_of_row _ _ _ _ _ _ HA1.out
          have a1 : w28.cell? ⟨ga1, 1, none⟩ = some (.int .i64 0) := cell_of_row _ _ _ _ _ _ HA1.out
          have a2 : w28.cell? ⟨ga1, 2, none⟩ = some (.int .i64 0) := cell_of_row _ _ _ _ _ _ HA1.out
          have a3 : w28.cell? ⟨ga1, 3, none⟩ = some (.int .i64 0) := cell_of_row _ _ _ _ _ _ HA1.out
          have af := fun i => HA1.out.free i
          (try unfold chipsOf)
          go_simp
          refine hK.out _ _ (below_sets4 hHeld hge1 _ _ _ _) (fun hHeld => ?_)
          clear hK K a0 a1 a2 a3 af
          have HA0 := Lib.hid (row_far4 HA0.out hne10.symm (.int .i64 (chip (num k 99 (fr G : Nat)) 0)) (.int .i64 (chip (num k 99 (fr G : Nat)) 1)) (.int .i64 (chip (num k 99 (fr G : Nat)) 2)) (.int .i64 (chip (num k 99 (fr G : Nat)) 3)))
          have HA1 := Lib.hid (row_set4 HA1.out (.int .i64 (chip (num k 99 (fr G : Nat)) 0)) (.int .i64 (chip (num k 99 (fr G : Nat)) 1)) (.int .i64 (chip (num k 99 (fr G : Nat)) 2)) (.int .i64 (chip (num k 99 (fr G : Nat)) 3)))
          generalize (((w28.setCell _ _).setCell _ _).setCell _ _).setCell _ _ = w29 at hHeld HA1 HA0 ⊢
          (try simp only [List.getElem_toArray, List.getElem_cons_succ, List.getElem_cons_zero, Act.put, List.setIfInBounds_toArray, List.set_cons_zero, List.set_cons_succ])
          refine wpAnyH_done (by kernel_rfl) ?_ _
          have HBB := Lib.hid (HB.out.trans (hHeld.mono HB.out.size))
          have HR2 := Lib.hid (HR.out.below hHeld HR.out.lt)
          clear hHeld
          go_wp2_with fail
          go_meet
          case rel => exact ⟨ga0, ga1, rfl, rfl, by omega, by omega, HA0.out, HA1.out, HR2.out, HBB.out⟩
      · go_simp
        have hHeld0 := hHeld
        refine hK.out _ _ (hHeld.alloc hHeld.size _) (fun hHeld => ?_)
        clear hK K
        obtain ⟨ga0, hga0⟩ : ∃ g, w20.heap.size = g := ⟨_, rfl⟩
        have hge0 : w1.heap.size ≤ ga0 := by rw [← hga0]; exact hHeld0.size
        have HA0 : Hid (Row (w20.alloc (.cells #[.int .i64 0, .int .i64 0, .int .i64 0, .int .i64 0] 25)) ga0 25 #[.int .i64 0, .int .i64 0, .int .i64 0, .int .i64 0]) := row_new _ _ hga0 _ _
        rw [hga0]
        generalize w20.alloc (.cells #[.int .i64 0, .int .i64 0, .int .i64 0, .int .i64 0] 25) = w30 at hHeld HA0 ⊢
        clear hga0 hHeld0
        (try simp only [List.getElem_toArray, List.getElem_cons_succ, List.getElem_cons_zero, Act.put, List.setIfInBounds_toArray, List.set_cons_zero, List.set_cons_succ])
        refine wpAnyH_ready (rs := [5, 7]) (by kernel_rfl) (by simp) ?_
        refine (AllReadyH.cons (o := _) rfl (fun K hK => ?_) (AllReadyH.cons (o := _) rfl (fun K hK => ?_) AllReadyH.nil))
        · go_simp
          refine (chips_any k G _ hk (HS.out.below hHeld HS.out.lt)).mono ?_
          rintro e w31 ⟨rfl, hb⟩
          go_wp2_with fail
          have hN := hHeld.trans (hb.mono hHeld.size)
          have HA0 := Lib.hid (Row.box HA0.out hb)
          clear hHeld hb
          refine hK.out _ _ hN (fun hHeld => ?_)
          clear hN hK K
          (try simp only [List.getElem_toArray, List.getElem_cons_succ, List.getElem_cons_zero, Act.put, List.setIfInBounds_toArray, List.set_cons_zero, List.set_cons_succ])
          refine wpAnyH_ready (rs := [7]) (by kernel_rfl) (by simp) ?_
          refine (AllReadyH.cons (o := _) rfl (fun K hK => ?_) AllReadyH.nil)
          go_simp
          have hHeld0 := hHeld
          refine hK.out _ _ (hHeld.alloc hHeld.size _) (fun hHeld => ?_)
          clear hK K
          obtain ⟨ga1, hga1⟩ : ∃ g, w31.heap.size = g := ⟨_, rfl⟩
          have hge1 : w1.heap.size ≤ ga1 := by rw [← hga1]; exact hHeld0.size
          have hne01 : ga0 ≠ ga1 := by have := HA0.out.lt; omega
          have HA0 := Lib.hid (Row.alloc HA0.out (.cells #[.int .i64 0, .int .i64 0, .int .i64 0, .int .i64 0] 25))
          have HA1 : Hid (Row (w31.alloc (.cells #[.int .i64 0, .int .i64 0, .int .i64 0, .int .i64 0] 25)) ga1 25 #[.int .i64 0, .int .i64 0, .int .i64 0, .int .i64 0]) := row_new _ _ hga1 _ _
          rw [hga1]
          generalize w31.alloc (.cells #[.int .i64 0, .int .i64 0, .int .i64 0, .int .i64 0] 25) = w32 at hHeld HA0 HA1 ⊢
          clear hga1 hHeld0
          (try simp only [List.getElem_toArray, List.getElem_cons_succ, List.getElem_cons_zero, Act.put, List.setIfInBounds_toArray, List.set_cons_zero, List.set_cons_succ])
          refine wpAnyH_ready (rs := [8]) (by kernel_rfl) (by simp) ?_
          refine (AllReadyH.cons (o := _) rfl (fun K hK => ?_) AllReadyH.nil)
          have a0 : w32.cell? ⟨ga0, 0, none⟩ = some (.int .i64 0) := cell_of_row _ _ _ _ _ _ HA0.out
          have a1 : w32.cell? ⟨ga0, 1, none⟩ = some (.int .i64 0) := cell_of_row _ _ _ _ _ _ HA0.out
          have a2 : w32.cell? ⟨ga0, 2, none⟩ = some (.int .i64 0) := cell_of_row _ _ _ _ _ _ HA0.out
          have a3 : w32.cell? ⟨ga0, 3, none⟩ = some (.int .i64 0) := cell_of_row _ _ _ _ _ _ HA0.out
          have af := fun i => HA0.out.free i
          (try unfold chipsOf)
          go_simp
          refine hK.out _ _ (below_sets4 hHeld hge0 _ _ _ _) (fun hHeld => ?_)
          clear hK K a0 a1 a2 a3 af
          have HA1 := Lib.hid (row_far4 HA1.out hne01.symm (.int .i64 (chip (num k 99 (fr F : Nat)) 0)) (.int .i64 (chip (num k 99 (fr F : Nat)) 1)) (.int .i64 (chip (num k 99 (fr F : Nat)) 2)) (.int .i64 (chip (num k 99 (fr F : Nat)) 3)))
          have HA0 := Lib.hid (row_set4 HA0.out (.int .i64 (chip (num k 99 (fr F : Nat)) 0)) (.int .i64 (chip (num k 99 (fr F : Nat)) 1)) (.int .i64 (chip (num k 99 (fr F : Nat)) 2)) (.int .i64 (chip (num k 99 (fr F : Nat)) 3)))
          generalize (((w32.setCell _ _).setCell _ _).setCell _ _).setCell _ _ = w33 at hHeld HA0 HA1 ⊢
          (try simp only [List.getElem_toArray, List.getElem_cons_succ, List.getElem_cons_zero, Act.put, List.setIfInBounds_toArray, List.set_cons_zero, List.set_cons_succ])
          refine wpAnyH_ready (rs := [9]) (by kernel_rfl) (by simp) ?_
          refine (AllReadyH.cons (o := _) rfl (fun K hK => ?_) AllReadyH.nil)
          have a0 : w33.cell? ⟨ga1, 0, none⟩ = some (.int .i64 0) := cell_of_row _ _ _ _ _ _ HA1.out
          have a1 : w33.cell? ⟨ga1, 1, none⟩ = some (.int .i64 0) := cell_of_row _ _ _ _ _ _ HA1.out
          have a2 : w33.cell? ⟨ga1, 2, none⟩ = some (.int .i64 0) := cell_of_row _ _ _ _ _ _ HA1.out
          have a3 : w33.cell? ⟨ga1, 3, none⟩ = some (.int .i64 0) := cell_of_row _ _ _ _ _ _ HA1.out
          have af := fun i => HA1.out.free i
          (try unfold chipsOf)
          go_simp
          refine hK.out _ _ (below_sets4 hHeld hge1 _ _ _ _) (fun hHeld => ?_)
          clear hK K a0 a1 a2 a3 af
          have HA0 := Lib.hid (row_far4 HA0.out hne01 (.int .i64 (chip (num k 99 (fr G : Nat)) 0)) (.int .i64 (chip (num k 99 (fr G : Nat)) 1)) (.int .i64 (chip (num k 99 (fr G : Nat)) 2)) (.int .i64 (chip (num k 99 (fr G : Nat)) 3)))
          have HA1 := Lib.hid (row_set4 HA1.out (.int .i64 (chip (num k 99 (fr G : Nat)) 0)) (.int .i64 (chip (num k 99 (fr G : Nat)) 1)) (.int .i64 (chip (num k 99 (fr G : Nat)) 2)) (.int .i64 (chip (num k 99 (fr G : Nat)) 3)))
          generalize (((w33.setCell _ _).setCell _ _).setCell _ _).setCell _ _ = w34 at hHeld HA0 HA1 ⊢
          (try simp only [List.getElem_toArray, List.getElem_cons_succ, List.getElem_cons_zero, Act.put, List.setIfInBounds_toArray, List.set_cons_zero, List.set_cons_succ])
          refine wpAnyH_done (by kernel_rfl) ?_ _
          have HBB := Lib.hid (HB.out.trans (hHeld.mono HB.out.size))
          have HR2 := Lib.hid (HR.out.below hHeld HR.out.lt)
          clear hHeld
          go_wp2_with fail
          go_meet
          case rel => exact ⟨ga0, ga1, rfl, rfl, by omega, by omega, HA0.out, HA1.out, HR2.out, HBB.out⟩
        · go_simp
          have hHeld0 := hHeld
          refine hK.out _ _ (hHeld.alloc hHeld.size _) (fun hHeld => ?_)
          clear hK K
          obtain ⟨ga1, hga1⟩ : ∃ g, w30.heap.size = g := ⟨_, rfl⟩
          have hge1 : w1.heap.size ≤ ga1 := by rw [← hga1]; exact hHeld0.size
          have hne01 : ga0 ≠ ga1 := by have := HA0.out.lt; omega
          have HA0 := Lib.hid (Row.alloc HA0.out (.cells #[.int .i64 0, .int .i64 0, .int .i64 0, .int .i64 0] 25))
          have HA1 : Hid (Row (w30.alloc (.cells #[.int .i64 0, .int .i64 0, .int .i64 0, .int .i64 0] 25)) ga1 25 #[.int .i64 0, .int .i64 0, .int .i64 0, .int .i64 0]) := row_new _ _ hga1 _ _
          rw [hga1]
          generalize w30.alloc (.cells #[.int .i64 0, .int .i64 0, .int .i64 0, .int .i64 0] 25) = w35 at hHeld HA0 HA1 ⊢
          clear hga1 hHeld0
          (try simp only [List.getElem_toArray, List.getElem_cons_succ, List.getElem_cons_zero, Act.put, List.setIfInBounds_toArray, List.set_cons_zero, List.set_cons_succ])
          refine wpAnyH_ready (rs := [5]) (by kernel_rfl) (by simp) ?_
          refine (AllReadyH.cons (o := _) rfl (fun K hK => ?_) AllReadyH.nil)
          go_simp
          refine (chips_any k G _ hk (HS.out.below hHeld HS.out.lt)).mono ?_
          rintro e w36 ⟨rfl, hb⟩
          go_wp2_with fail
          have hN := hHeld.trans (hb.mono hHeld.size)
          have HA0 := Lib.hid (Row.box HA0.out hb)
          have HA1 := Lib.hid (Row.box HA1.out hb)
          clear hHeld hb
          refine hK.out _ _ hN (fun hHeld => ?_)
          clear hN hK K
          (try simp only [List.getElem_toArray, List.getElem_cons_succ, List.getElem_cons_zero, Act.put, List.setIfInBounds_toArray, List.set_cons_zero, List.set_cons_succ])
          refine wpAnyH_ready (rs := [8]) (by kernel_rfl) (by simp) ?_
          refine (AllReadyH.cons (o := _) rfl (fun K hK => ?_) AllReadyH.nil)
          have a0 : w36.cell? ⟨ga0, 0, none⟩ = some (.int .i64 0) := cell_of_row _ _ _ _ _ _ HA0.out
          have a1 : w36.cell? ⟨ga0, 1, none⟩ = some (.int .i64 0) := cell_of_row _ _ _ _ _ _ HA0.out
          have a2 : w36.cell? ⟨ga0, 2, none⟩ = some (.int .i64 0) := cell_of_row _ _ _ _ _ _ HA0.out
          have a3 : w36.cell? ⟨ga0, 3, none⟩ = some (.int .i64 0) := cell_of_row _ _ _ _ _ _ HA0.out
          have af := fun i => HA0.out.free i
          (try unfold chipsOf)
          go_simp
          refine hK.out _ _ (below_sets4 hHeld hge0 _ _ _ _) (fun hHeld => ?_)
          clear hK K a0 a1 a2 a3 af
          have HA1 := Lib.hid (row_far4 HA1.out hne01.symm (.int .i64 (chip (num k 99 (fr F : Nat)) 0)) (.int .i64 (chip (num k 99 (fr F : Nat)) 1)) (.int .i64 (chip (num k 99 (fr F : Nat)) 2)) (.int .i64 (chip (num k 99 (fr F : Nat)) 3)))
          have HA0 := Lib.hid (row_set4 HA0.out (.int .i64 (chip (num k 99 (fr F : Nat)) 0)) (.int .i64 (chip (num k 99 (fr F : Nat)) 1)) (.int .i64 (chip (num k 99 (fr F : Nat)) 2)) (.int .i64 (chip (num k 99 (fr F : Nat)) 3)))
          generalize (((w36.setCell _ _).setCell _ _).setCell _ _).setCell _ _ = w37 at hHeld HA0 HA1 ⊢
          (try simp only [List.getElem_toArray, List.getElem_cons_succ, List.getElem_cons_zero, Act.put, List.setIfInBounds_toArray, List.set_cons_zero, List.set_cons_succ])
          refine wpAnyH_ready (rs := [9]) (by kernel_rfl) (by simp) ?_
          refine (AllReadyH.cons (o := _) rfl (fun K hK => ?_) AllReadyH.nil)
          have a0 : w37.cell? ⟨ga1, 0, none⟩ = some (.int .i64 0) := cell_of_row _ _ _ _ _ _ HA1.out
          have a1 : w37.cell? ⟨ga1, 1, none⟩ = some (.int .i64 0) := cell_of_row _ _ _ _ _ _ HA1.out
          have a2 : w37.cell? ⟨ga1, 2, none⟩ = some (.int .i64 0) := cell_of_row _ _ _ _ _ _ HA1.out
          have a3 : w37.cell? ⟨ga1, 3, none⟩ = some (.int .i64 0) := cell_of_row _ _ _ _ _ _ HA1.out
          have af := fun i => HA1.out.free i
          (try unfold chipsOf)
          go_simp
          refine hK.out _ _ (below_sets4 hHeld hge1 _ _ _ _) (fun hHeld => ?_)
          clear hK K a0 a1 a2 a3 af
          have HA0 := Lib.hid (row_far4 HA0.out hne01 (.int .i64 (chip (num k 99 (fr G : Nat)) 0)) (.int .i64 (chip (num k 99 (fr G : Nat)) 1)) (.int .i64 (chip (num k 99 (fr G : Nat)) 2)) (.int .i64 (chip (num k 99 (fr G : Nat)) 3)))
          have HA1 := Lib.hid (row_set4 HA1.out (.int .i64 (chip (num k 99 (fr G : Nat)) 0)) (.int .i64 (chip (num k 99 (fr G : Nat)) 1)) (.int .i64 (chip (num k 99 (fr G : Nat)) 2)) (.int .i64 (chip (num k 99 (fr G : Nat)) 3)))
          generalize (((w37.setCell _ _).setCell _ _).setCell _ _).setCell _ _ = w38 at hHeld HA0 HA1 ⊢
          (try simp only [List.getElem_toArray, List.getElem_cons_succ, List.getElem_cons_zero, Act.put, List.setIfInBounds_toArray, List.set_cons_zero, List.set_cons_succ])
          refine wpAnyH_done (by kernel_rfl) ?_ _
          have HBB := Lib.hid (HB.out.trans (hHeld.mono HB.out.size))
          have HR2 := Lib.hid (HR.out.below hHeld HR.out.lt)
          clear hHeld
          go_wp2_with fail
          go_meet
          case rel => exact ⟨ga0, ga1, rfl, rfl, by omega, by omega, HA0.out, HA1.out, HR2.out, HBB.out⟩
      · go_simp
        have hHeld0 := hHeld
        refine hK.out _ _ (hHeld.alloc hHeld.size _) (fun hHeld => ?_)
        clear hK K
        obtain ⟨ga1, hga1⟩ : ∃ g, w20.heap.size = g := ⟨_, rfl⟩
        have hge1 : w1.heap.size ≤ ga1 := by rw [← hga1]; exact hHeld0.size
        have HA1 : Hid (Row (w20.alloc (.cells #[.int .i64 0, .int .i64 0, .int .i64 0, .int .i64 0] 25)) ga1 25 #[.int .i64 0, .int .i64 0, .int .i64 0, .int .i64 0]) := row_new _ _ hga1 _ _
        rw [hga1]
        generalize w20.alloc (.cells #[.int .i64 0, .int .i64 0, .int .i64 0, .int .i64 0] 25) = w39 at hHeld HA1 ⊢
        clear hga1 hHeld0
        (try simp only [List.getElem_toArray, List.getElem_cons_succ, List.getElem_cons_zero, Act.put, List.setIfInBounds_toArray, List.set_cons_zero, List.set_cons_succ])
        refine wpAnyH_ready (rs := [5, 6]) (by kernel_rfl) (by simp) ?_
        refine (AllReadyH.cons (o := _) rfl (fun K hK => ?_) (AllReadyH.cons (o := _) rfl (fun K hK => ?_) AllReadyH.nil))
        · go_simp
          refine (chips_any k G _ hk (HS.out.below hHeld HS.out.lt)).mono ?_
          rintro e w40 ⟨rfl, hb⟩
          go_wp2_with fail
          have hN := hHeld.trans (hb.mono hHeld.size)
          have HA1 := Lib.hid (Row.box HA1.out hb)
          clear hHeld hb
          refine hK.out _ _ hN (fun hHeld => ?_)
          clear hN hK K
          (try simp only [List.getElem_toArray, List.getElem_cons_succ, List.getElem_cons_zero, Act.put, List.setIfInBounds_toArray, List.set_cons_zero, List.set_cons_succ])
          refine wpAnyH_ready (rs := [6]) (by kernel_rfl) (by simp) ?_
          refine (AllReadyH.cons (o := _) rfl (fun K hK => ?_) AllReadyH.nil)
          go_simp
          have hHeld0 := hHeld
          refine hK.out _ _ (hHeld.alloc hHeld.size _) (fun hHeld => ?_)
          clear hK K
          obtain ⟨ga0, hga0⟩ : ∃ g, w40.heap.size = g := ⟨_, rfl⟩
          have hge0 : w1.heap.size ≤ ga0 := by rw [← hga0]; exact hHeld0.size
          have hne10 : ga1 ≠ ga0 := by have := HA1.out.lt; omega
          have HA1 := Lib.hid (Row.alloc HA1.out (.cells #[.int .i64 0, .int .i64 0, .int .i64 0, .int .i64 0] 25))
          have HA0 : Hid (Row (w40.alloc (.cells #[.int .i64 0, .int .i64 0, .int .i64 0, .int .i64 0] 25)) ga0 25 #[.int .i64 0, .int .i64 0, .int .i64 0, .int .i64 0]) := row_new _ _ hga0 _ _
          rw [hga0]
          generalize w40.alloc (.cells #[.int .i64 0, .int .i64 0, .int .i64 0, .int .i64 0] 25) = w41 at hHeld HA1 HA0 ⊢
          clear hga0 hHeld0
          (try simp only [List.getElem_toArray, List.getElem_cons_succ, List.getElem_cons_zero, Act.put, List.setIfInBounds_toArray, List.set_cons_zero, List.set_cons_succ])
          refine wpAnyH_ready (rs := [8]) (by kernel_rfl) (by simp) ?_
          refine (AllReadyH.cons (o := _) rfl (fun K hK => ?_) AllReadyH.nil)
          have a0 : w41.cell? ⟨ga0, 0, none⟩ = some (.int .i64 0) := cell_of_row _ _ _ _ _ _ HA0.out
          have a1 : w41.cell? ⟨ga0, 1, none⟩ = some (.int .i64 0) := cell_of_row _ _ _ _ _ _ HA0.out
          have a2 : w41.cell? ⟨ga0, 2, none⟩ = some (.int .i64 0) := cell_of_row _ _ _ _ _ _ HA0.out
          have a3 : w41.cell? ⟨ga0, 3, none⟩ = some (.int .i64 0) := cell_of_row _ _ _ _ _ _ HA0.out
          have af := fun i => HA0.out.free i
          (try unfold chipsOf)
          go_simp
          refine hK.out _ _ (below_sets4 hHeld hge0 _ _ _ _) (fun hHeld => ?_)
          clear hK K a0 a1 a2 a3 af
          have HA1 := Lib.hid (row_far4 HA1.out hne10 (.int .i64 (chip (num k 99 (fr F : Nat)) 0)) (.int .i64 (chip (num k 99 (fr F : Nat)) 1)) (.int .i64 (chip (num k 99 (fr F : Nat)) 2)) (.int .i64 (chip (num k 99 (fr F : Nat)) 3)))
          have HA0 := Lib.hid (row_set4 HA0.out (.int .i64 (chip (num k 99 (fr F : Nat)) 0)) (.int .i64 (chip (num k 99 (fr F : Nat)) 1)) (.int .i64 (chip (num k 99 (fr F : Nat)) 2)) (.int .i64 (chip (num k 99 (fr F : Nat)) 3)))
          generalize (((w41.setCell _ _).setCell _ _).setCell _ _).setCell _ _ = w42 at hHeld HA1 HA0 ⊢
          (try simp only [List.getElem_toArray, List.getElem_cons_succ, List.getElem_cons_zero, Act.put, List.setIfInBounds_toArray, List.set_cons_zero, List.set_cons_succ])
          refine wpAnyH_ready (rs := [9]) (by kernel_rfl) (by simp) ?_
          refine (AllReadyH.cons (o := _) rfl (fun K hK => ?_) AllReadyH.nil)
          have a0 : w42.cell? ⟨ga1, 0, none⟩ = some (.int .i64 0) := cell_of_row _ _ _ _ _ _ HA1.out
          have a1 : w42.cell? ⟨ga1, 1, none⟩ = some (.int .i64 0) := cell_of_row _ _ _ _ _ _ HA1.out
          have a2 : w42.cell? ⟨ga1, 2, none⟩ = some (.int .i64 0) := cell_of_row _ _ _ _ _ _ HA1.out
          have a3 : w42.cell? ⟨ga1, 3, none⟩ = some (.int .i64 0) := cell_of_row _ _ _ _ _ _ HA1.out
          have af := fun i => HA1.out.free i
          (try unfold chipsOf)
          go_simp
          refine hK.out _ _ (below_sets4 hHeld hge1 _ _ _ _) (fun hHeld => ?_)
          clear hK K a0 a1 a2 a3 af
          have HA0 := Lib.hid (row_far4 HA0.out hne10.symm (.int .i64 (chip (num k 99 (fr G : Nat)) 0)) (.int .i64 (chip (num k 99 (fr G : Nat)) 1)) (.int .i64 (chip (num k 99 (fr G : Nat)) 2)) (.int .i64 (chip (num k 99 (fr G : Nat)) 3)))
          have HA1 := Lib.hid (row_set4 HA1.out (.int .i64 (chip (num k 99 (fr G : Nat)) 0)) (.int .i64 (chip (num k 99 (fr G : Nat)) 1)) (.int .i64 (chip (num k 99 (fr G : Nat)) 2)) (.int .i64 (chip (num k 99 (fr G : Nat)) 3)))
          generalize (((w42.setCell _ _).setCell _ _).setCell _ _).setCell _ _ = w43 at hHeld HA1 HA0 ⊢
          (try simp only [List.getElem_toArray, List.getElem_cons_succ, List.getElem_cons_zero, Act.put, List.setIfInBounds_toArray, List.set_cons_zero, List.set_cons_succ])
          refine wpAnyH_done (by kernel_rfl) ?_ _
          have HBB := Lib.hid (HB.out.trans (hHeld.mono HB.out.size))
          have HR2 := Lib.hid (HR.out.below hHeld HR.out.lt)
          clear hHeld
          go_wp2_with fail
          go_meet
          case rel => exact ⟨ga0, ga1, rfl, rfl, by omega, by omega, HA0.out, HA1.out, HR2.out, HBB.out⟩
        · go_simp
          have hHeld0 := hHeld
          refine hK.out _ _ (hHeld.alloc hHeld.size _) (fun hHeld => ?_)
          clear hK K
          obtain ⟨ga0, hga0⟩ : ∃ g, w39.heap.size = g := ⟨_, rfl⟩
          have hge0 : w1.heap.size ≤ ga0 := by rw [← hga0]; exact hHeld0.size
          have hne10 : ga1 ≠ ga0 := by have := HA1.out.lt; omega
          have HA1 := Lib.hid (Row.alloc HA1.out (.cells #[.int .i64 0, .int .i64 0, .int .i64 0, .int .i64 0] 25))
          have HA0 : Hid (Row (w39.alloc (.cells #[.int .i64 0, .int .i64 0, .int .i64 0, .int .i64 0] 25)) ga0 25 #[.int .i64 0, .int .i64 0, .int .i64 0, .int .i64 0]) := row_new _ _ hga0 _ _
          rw [hga0]
          generalize w39.alloc (.cells #[.int .i64 0, .int .i64 0, .int .i64 0, .int .i64 0] 25) = w44 at hHeld HA1 HA0 ⊢
          clear hga0 hHeld0
          (try simp only [List.getElem_toArray, List.getElem_cons_succ, List.getElem_cons_zero, Act.put, List.setIfInBounds_toArray, List.set_cons_zero, List.set_cons_succ])
          refine wpAnyH_ready (rs := [5]) (by kernel_rfl) (by simp) ?_
          refine (AllReadyH.cons (o := _) rfl (fun K hK => ?_) AllReadyH.nil)
          go_simp
          refine (chips_any k G _ hk (HS.out.below hHeld HS.out.lt)).mono ?_
          rintro e w45 ⟨rfl, hb⟩
          go_wp2_with fail
          have hN := hHeld.trans (hb.mono hHeld.size)
          have HA1 := Lib.hid (Row.box HA1.out hb)
          have HA0 := Lib.hid (Row.box HA0.out hb)
          clear hHeld hb
          refine hK.out _ _ hN (fun hHeld => ?_)
          clear hN hK K
          (try simp only [List.getElem_toArray, List.getElem_cons_succ, List.getElem_cons_zero, Act.put, List.setIfInBounds_toArray, List.set_cons_zero, List.set_cons_succ])
          refine wpAnyH_ready (rs := [8]) (by kernel_rfl) (by simp) ?_
          refine (AllReadyH.cons (o := _) rfl (fun K hK => ?_) AllReadyH.nil)
          have a0 : w45.cell? ⟨ga0, 0, none⟩ = some (.int .i64 0) := cell_of_row _ _ _ _ _ _ HA0.out
          have a1 : w45.cell? ⟨ga0, 1, none⟩ = some (.int .i64 0) := cell_of_row _ _ _ _ _ _ HA0.out
          have a2 : w45.cell? ⟨ga0, 2, none⟩ = some (.int .i64 0) := cell_of_row _ _ _ _ _ _ HA0.out
          have a3 : w45.cell? ⟨ga0, 3, none⟩ = some (.int .i64 0) := cell_of_row _ _ _ _ _ _ HA0.out
          have af := fun i => HA0.out.free i
          (try unfold chipsOf)
          go_simp
          refine hK.out _ _ (below_sets4 hHeld hge0 _ _ _ _) (fun hHeld => ?_)
          clear hK K a0 a1 a2 a3 af
          have HA1 := Lib.hid (row_far4 HA1.out hne10 (.int .i64 (chip (num k 99 (fr F : Nat)) 0)) (.int .i64 (chip (num k 99 (fr F : Nat)) 1)) (.int .i64 (chip (num k 99 (fr F : Nat)) 2)) (.int .i64 (chip (num k 99 (fr F : Nat)) 3)))
          have HA0 := Lib.hid (row_set4 HA0.out (.int .i64 (chip (num k 99 (fr F : Nat)) 0)) (.int .i64 (chip (num k 99 (fr F : Nat)) 1)) (.int .i64 (chip (num k 99 (fr F : Nat)) 2)) (.int .i64 (chip (num k 99 (fr F : Nat)) 3)))
          generalize (((w45.setCell _ _).setCell _ _).setCell _ _).setCell _ _ = w46 at hHeld HA1 HA0 ⊢
          (try simp only [List.getElem_toArray, List.getElem_cons_succ, List.getElem_cons_zero, Act.put, List.setIfInBounds_toArray, List.set_cons_zero, List.set_cons_succ])
          refine wpAnyH_ready (rs := [9]) (by kernel_rfl) (by simp) ?_
          refine (AllReadyH.cons (o := _) rfl (fun K hK => ?_) AllReadyH.nil)
          have a0 : w46.cell? ⟨ga1, 0, none⟩ = some (.int .i64 0) := cell_of_row _ _ _ _ _ _ HA1.out
          have a1 : w46.cell? ⟨ga1, 1, none⟩ = some (.int .i64 0) := cell_of_row _ _ _ _ _ _ HA1.out
          have a2 : w46.cell? ⟨ga1, 2, none⟩ = some (.int .i64 0) := cell_of_row _ _ _ _ _ _ HA1.out
          have a3 : w46.cell? ⟨ga1, 3, none⟩ = some (.int .i64 0) := cell_of_row _ _ _ _ _ _ HA1.out
          have af := fun i => HA1.out.free i
          (try unfold chipsOf)
          go_simp
          refine hK.out _ _ (below_sets4 hHeld hge1 _ _ _ _) (fun hHeld => ?_)
          clear hK K a0 a1 a2 a3 af
          have HA0 := Lib.hid (row_far4 HA0.out hne10.symm (.int .i64 (chip (num k 99 (fr G : Nat)) 0)) (.int .i64 (chip (num k 99 (fr G : Nat)) 1)) (.int .i64 (chip (num k 99 (fr G : Nat)) 2)) (.int .i64 (chip (num k 99 (fr G : Nat)) 3)))
          have HA1 := Lib.hid (row_set4 HA1.out (.int .i64 (chip (num k 99 (fr G : Nat)) 0)) (.int .i64 (chip (num k 99 (fr G : Nat)) 1)) (.int .i64 (chip (num k 99 (fr G : Nat)) 2)) (.int .i64 (chip (num k 99 (fr G : Nat)) 3)))
          generalize (((w46.setCell _ _).setCell _ _).setCell _ _).setCell _ _ = w47 at hHeld HA1 HA0 ⊢
          (try simp only [List.getElem_toArray, List.getElem_cons_succ, List.getElem_cons_zero, Act.put, List.setIfInBounds_toArray, List.set_cons_zero, List.set_cons_succ])
          refine wpAnyH_done (by kernel_rfl) ?_ _
          have HBB := Lib.hid (HB.out.trans (hHeld.mono HB.out.size))
          have HR2 := Lib.hid (HR.out.below hHeld HR.out.lt)
          clear hHeld
          go_wp2_with fail
          go_meet
          case rel => exact ⟨ga0, ga1, rfl, rfl, by omega, by omega, HA0.out, HA1.out, HR2.out, HBB.out⟩
    · go_simp
      have hHeld0 := hHeld
      refine hK.out _ _ (hHeld.alloc hHeld.size _) (fun hHeld => ?_)
      clear hK K
      obtain ⟨ga0, hga0⟩ : ∃ g, w2.heap.size = g := ⟨_, rfl⟩
      have hge0 : w1.heap.size ≤ ga0 := by rw [← hga0]; exact hHeld0.size
      have HA0 : Hid (Row (w2.alloc (.cells #[.int .i64 0, .int .i64 0, .int .i64 0, .int .i64 0] 25)) ga0 25 #[.int .i64 0, .int .i64 0, .int .i64 0, .int .i64 0]) := row_new _ _ hga0 _ _
      rw [hga0]
      generalize w2.alloc (.cells #[.int .i64 0, .int .i64 0, .int .i64 0, .int .i64 0] 25) = w48 at hHeld HA0 ⊢
      clear hga0 hHeld0
      (try simp only [List.getElem_toArray, List.getElem_cons_succ, List.getElem_cons_zero, Act.put, List.setIfInBounds_toArray, List.set_cons_zero, List.set_cons_succ])
      refine wpAnyH_ready (rs := [2, 7]) (by kernel_rfl) (by simp) ?_
      refine (AllReadyH.cons (o := _) rfl (fun K hK => ?_) (AllReadyH.cons (o := _) rfl (fun K hK => ?_) AllReadyH.nil))
      · go_simp
        refine (chips_any k F _ hk (HS.out.below hHeld HS.out.lt)).mono ?_
        rintro e w49 ⟨rfl, hb⟩
        go_wp2_with fail
        have hN := hHeld.trans (hb.mono hHeld.size)
        have HA0 := Lib.hid (Row.box HA0.out hb)
        clear hHeld hb
        refine hK.out _ _ hN (fun hHeld => ?_)
        clear hN hK K
        (try simp only [List.getElem_toArray, List.getElem_cons_succ, List.getElem_cons_zero, Act.put, List.setIfInBounds_toArray, List.set_cons_zero, List.set_cons_succ])
        refine wpAnyH_ready (rs := [5, 7]) (by kernel_rfl) (by simp) ?_
        refine (AllReadyH.cons (o := _) rfl (fun K hK => ?_) (AllReadyH.cons (o := _) rfl (fun K hK => ?_) AllReadyH.nil))
        · go_simp
          refine (chips_any k G _ hk (HS.out.below hHeld HS.out.lt)).mono ?_
          rintro e w50 ⟨rfl, hb⟩
          go_wp2_with fail
          have hN := hHeld.trans (hb.mono hHeld.size)
          have HA0 := Lib.hid (Row.box HA0.out hb)
          clear hHeld hb
          refine hK.out _ _ hN (fun hHeld => ?_)
          clear hN hK K
          (try simp only [List.getElem_toArray, List.getElem_cons_succ, List.getElem_cons_zero, Act.put, List.setIfInBounds_toArray, List.set_cons_zero, List.set_cons_succ])
          refine wpAnyH_ready (rs := [7]) (by kernel_rfl) (by simp) ?_
          refine (AllReadyH.cons (o := _) rfl (fun K hK => ?_) AllReadyH.nil)
          go_simp
          have hHeld0 := hHeld
          refine hK.out _ _ (hHeld.alloc hHeld.size _) (fun hHeld => ?_)
          clear hK K
          obtain ⟨ga1, hga1⟩ : ∃ g, w50.heap.size = g := ⟨_, rfl⟩
          have hge1 : w1.heap.size ≤ ga1 := by rw [← hga1]; exact hHeld0.size
          have hne01 : ga0 ≠ ga1 := by have := HA0.out.lt; omega
          have HA0 := Lib.hid (Row.alloc HA0.out (.cells #[.int .i64 0, .int .i64 0, .int .i64 0, .int .i64 0] 25))
          have HA1 : Hid (Row (w50.alloc (.cells #[.int .i64 0, .int .i64 0, .int .i64 0, .int .i64 0] 25)) ga1 25 #[.int .i64 0, .int .i64 0, .int .i64 0, .int .i64 0]) := row_new _ _ hga1 _ _
          rw [hga1]
          generalize w50.alloc (.cells #[.int .i64 0, .int .i64 0, .int .i64 0, .int .i64 0] 25) = w51 at hHeld HA0 HA1 ⊢
          clear hga1 hHeld0
          (try simp only [List.getElem_toArray, List.getElem_cons_succ, List.getElem_cons_zero, Act.put, List.setIfInBounds_toArray, List.set_cons_zero, List.set_cons_succ])
          refine wpAnyH_ready (rs := [8]) (by kernel_rfl) (by simp) ?_
          refine (AllReadyH.cons (o := _) rfl (fun K hK => ?_) AllReadyH.nil)
          have a0 : w51.cell? ⟨ga0, 0, none⟩ = some (.int .i64 0) := cell_of_row _ _ _ _ _ _ HA0.out
          have a1 : w51.cell? ⟨ga0, 1, none⟩ = some (.int .i64 0) := cell_of_row _ _ _ _ _ _ HA0.out
          have a2 : w51.cell? ⟨ga0, 2, none⟩ = some (.int .i64 0) := cell_of_row _ _ _ _ _ _ HA0.out
          have a3 : w51.cell? ⟨ga0, 3, none⟩ = some (.int .i64 0) := cell_of_row _ _ _ _ _ _ HA0.out
          have af := fun i => HA0.out.free i
          (try unfold chipsOf)
          go_simp
          refine hK.out _ _ (below_sets4 hHeld hge0 _ _ _ _) (fun hHeld => ?_)
          clear hK K a0 a1 a2 a3 af
          have HA1 := Lib.hid (row_far4 HA1.out hne01.symm (.int .i64 (chip (num k 99 (fr F : Nat)) 0)) (.int .i64 (chip (num k 99 (fr F : Nat)) 1)) (.int .i64 (chip (num k 99 (fr F : Nat)) 2)) (.int .i64 (chip (num k 99 (fr F : Nat)) 3)))
          have HA0 := Lib.hid (row_set4 HA0.out (.int .i64 (chip (num k 99 (fr F : Nat)) 0)) (.int .i64 (chip (num k 99 (fr F : Nat)) 1)) (.int .i64 (chip (num k 99 (fr F : Nat)) 2)) (.int .i64 (chip (num k 99 (fr F : Nat)) 3)))
          generalize (((w51.setCell _ _).setCell _ _).setCell _ _).setCell _ _ = w52 at hHeld HA0 HA1 ⊢
          (try simp only [List.getElem_toArray, List.getElem_cons_succ, List.getElem_cons_zero, Act.put, List.setIfInBounds_toArray, List.set_cons_zero, List.set_cons_succ])
          refine wpAnyH_ready (rs := [9]) (by kernel_rfl) (by simp) ?_
          refine (AllReadyH.cons (o := _) rfl (fun K hK => ?_) AllReadyH.nil)
          have a0 : w52.cell? ⟨ga1, 0, none⟩ = some (.int .i64 0) := cell_of_row _ _ _ _ _ _ HA1.out
          have a1 : w52.cell? ⟨ga1, 1, none⟩ = some (.int .i64 0) := cell_of_row _ _ _ _ _ _ HA1.out
          have a2 : w52.cell? ⟨ga1, 2, none⟩ = some (.int .i64 0) := cell_of_row _ _ _ _ _ _ HA1.out
          have a3 : w52.cell? ⟨ga1, 3, none⟩ = some (.int .i64 0) := cell_of_row _ _ _ _ _ _ HA1.out
          have af := fun i => HA1.out.free i
          (try unfold chipsOf)
          go_simp
          refine hK.out _ _ (below_sets4 hHeld hge1 _ _ _ _) (fun hHeld => ?_)
          clear hK K a0 a1 a2 a3 af
          have HA0 := Lib.hid (row_far4 HA0.out hne01 (.int .i64 (chip (num k 99 (fr G : Nat)) 0)) (.int .i64 (chip (num k 99 (fr G : Nat)) 1)) (.int .i64 (chip (num k 99 (fr G : Nat)) 2)) (.int .i64 (chip (num k 99 (fr G : Nat)) 3)))
          have HA1 := Lib.hid (row_set4 HA1.out (.int .i64 (chip (num k 99 (fr G : Nat)) 0)) (.int .i64 (chip (num k 99 (fr G : Nat)) 1)) (.int .i64 (chip (num k 99 (fr G : Nat)) 2)) (.int .i64 (chip (num k 99 (fr G : Nat)) 3)))
          generalize (((w52.setCell _ _).setCell _ _).setCell _ _).setCell _ _ = w53 at hHeld HA0 HA1 ⊢
          (try simp only [List.getElem_toArray, List.getElem_cons_succ, List.getElem_cons_zero, Act.put, List.setIfInBounds_toArray, List.set_cons_zero, List.set_cons_succ])
          refine wpAnyH_done (by kernel_rfl) ?_ _
          have HBB := Lib.hid (HB.out.trans (hHeld.mono HB.out.size))
          have HR2 := Lib.hid (HR.out.below hHeld HR.out.lt)
          clear hHeld
          go_wp2_with fail
          go_meet
          case rel => exact ⟨ga0, ga1, rfl, rfl, by omega, by omega, HA0.out, HA1.out, HR2.out, HBB.out⟩
        · go_simp
          have hHeld0 := hHeld
          refine hK.out _ _ (hHeld.alloc hHeld.size _) (fun hHeld => ?_)
          clear hK K
          obtain ⟨ga1, hga1⟩ : ∃ g, w49.heap.size = g := ⟨_, rfl⟩
          have hge1 : w1.heap.size ≤ ga1 := by rw [← hga1]; exact hHeld0.size
          have hne01 : ga0 ≠ ga1 := by have := HA0.out.lt; omega
          have HA0 := Lib.hid (Row.alloc HA0.out (.cells #[.int .i64 0, .int .i64 0, .int .i64 0, .int .i64 0] 25))
          have HA1 : Hid (Row (w49.alloc (.cells #[.int .i64 0, .int .i64 0, .int .i64 0, .int .i64 0] 25)) ga1 25 #[.int .i64 0, .int .i64 0, .int .i64 0, .int .i64 0]) := row_new _ _ hga1 _ _
          rw [hga1]
          generalize w49.alloc (.cells #[.int .i64 0, .int .i64 0, .int .i64 0, .int .i64 0] 25) = w54 at hHeld HA0 HA1 ⊢
          clear hga1 hHeld0
          (try simp only [List.getElem_toArray, List.getElem_cons_succ, List.getElem_cons_zero, Act.put, List.setIfInBounds_toArray, List.set_cons_zero, List.set_cons_succ])
          refine wpAnyH_ready (rs := [5]) (by kernel_rfl) (by simp) ?_
          refine (AllReadyH.cons (o := _) rfl (fun K hK => ?_) AllReadyH.nil)
          go_simp
          refine (chips_any k G _ hk (HS.out.below hHeld HS.out.lt)).mono ?_
          rintro e w55 ⟨rfl, hb⟩
          go_wp2_with fail
          have hN := hHeld.trans (hb.mono hHeld.size)
          have HA0 := Lib.hid (Row.box HA0.out hb)
          have HA1 := Lib.hid (Row.box HA1.out hb)
          clear hHeld hb
          refine hK.out _ _ hN (fun hHeld => ?_)
          clear hN hK K
          (try simp only [List.getElem_toArray, List.getElem_cons_succ, List.getElem_cons_zero, Act.put, List.setIfInBounds_toArray, List.set_cons_zero, List.set_cons_succ])
          refine wpAnyH_ready (rs := [8]) (by kernel_rfl) (by simp) ?_
          refine (AllReadyH.cons (o := _) rfl (fun K hK => ?_) AllReadyH.nil)
          have a0 : w55.cell? ⟨ga0, 0, none⟩ = some (.int .i64 0) := cell_of_row _ _ _ _ _ _ HA0.out
          have a1 : w55.cell? ⟨ga0, 1, none⟩ = some (.int .i64 0) := cell_of_row _ _ _ _ _ _ HA0.out
          have a2 : w55.cell? ⟨ga0, 2, none⟩ = some (.int .i64 0) := cell_of_row _ _ _ _ _ _ HA0.out
          have a3 : w55.cell? ⟨ga0, 3, none⟩ = some (.int .i64 0) := cell_of_row _ _ _ _ _ _ HA0.out
          have af := fun i => HA0.out.free i
          (try unfold chipsOf)
          go_simp
          refine hK.out _ _ (below_sets4 hHeld hge0 _ _ _ _) (fun hHeld => ?_)
          clear hK K a0 a1 a2 a3 af
          have HA1 := Lib.hid (row_far4 HA1.out hne01.symm (.int .i64 (chip (num k 99 (fr F : Nat)) 0)) (.int .i64 (chip (num k 99 (fr F : Nat)) 1)) (.int .i64 (chip (num k 99 (fr F : Nat)) 2)) (.int .i64 (chip (num k 99 (fr F : Nat)) 3)))
          have HA0 := Lib.hid (row_set4 HA0.out (.int .i64 (chip (num k 99 (fr F : Nat)) 0)) (.int .i64 (chip (num k 99 (fr F : Nat)) 1)) (.int .i64 (chip (num k 99 (fr F : Nat)) 2)) (.int .i64 (chip (num k 99 (fr F : Nat)) 3)))
          generalize (((w55.setCell _ _).setCell _ _).setCell _ _).setCell _ _ = w56 at hHeld HA0 HA1 ⊢
          (try simp only [List.getElem_toArray, List.getElem_cons_succ, List.getElem_cons_zero, Act.put, List.setIfInBounds_toArray, List.set_cons_zero, List.set_cons_succ])
          refine wpAnyH_ready (rs := [9]) (by kernel_rfl) (by simp) ?_
          refine (AllReadyH.cons (o := _) rfl (fun K hK => ?_) AllReadyH.nil)
          have a0 : w56.cell? ⟨ga1, 0, none⟩ = some (.int .i64 0) := cell_of_row _ _ _ _ _ _ HA1.out
          have a1 : w56.cell? ⟨ga1, 1, none⟩ = some (.int .i64 0) := cell_of_row _ _ _ _ _ _ HA1.out
          have a2 : w56.cell? ⟨ga1, 2, none⟩ = some (.int .i64 0) := cell_of_row _ _ _ _ _ _ HA1.out
          have a3 : w56.cell? ⟨ga1, 3, none⟩ = some (.int .i64 0) := cell_of_row _ _ _ _ _ _ HA1.out
          have af := fun i => HA1.out.free i
          (try unfold chipsOf)
          go_simp
          refine hK.out _ _ (below_sets4 hHeld hge1 _ _ _ _) (fun hHeld => ?_)
          clear hK K a0 a1 a2 a3 af
          have HA0 := Lib.hid (row_far4 HA0.out hne01 (.int .i64 (chip (num k 99 (fr G : Nat)) 0)) (.int .i64 (chip (num k 99 (fr G : Nat)) 1)) (.int .i64 (chip (num k 99 (fr G : Nat)) 2)) (.int .i64 (chip (num k 99 (fr G : Nat)) 3)))
          have HA1 := Lib.hid (row_set4 HA1.out (.int .i64 (chip (num k 99 (fr G : Nat)) 0)) (.int .i64 (chip (num k 99 (fr G : Nat)) 1)) (.int .i64 (chip (num k 99 (fr G : Nat)) 2)) (.int .i64 (chip (num k 99 (fr G : Nat)) 3)))
          generalize (((w56.setCell _ _).setCell _ _).setCell _ _).setCell _ _ = w57 at hHeld HA0 HA1 ⊢
          (try simp only [List.getElem_toArray, List.getElem_cons_succ, List.getElem_cons_zero, Act.put, List.setIfInBounds_toArray, List.set_cons_zero, List.set_cons_succ])
          refine wpAnyH_done (by kernel_rfl) ?_ _
          have HBB := Lib.hid (HB.out.trans (hHeld.mono HB.out.size))
          have HR2 := Lib.hid (HR.out.below hHeld HR.out.lt)
          clear hHeld
          go_wp2_with fail
          go_meet
          case rel => exact ⟨ga0, ga1, rfl, rfl, by omega, by omega, HA0.out, HA1.out, HR2.out, HBB.out⟩
      · go_simp
        have hHeld0 := hHeld
        refine hK.out _ _ (hHeld.alloc hHeld.size _) (fun hHeld => ?_)
        clear hK K
        obtain ⟨ga1, hga1⟩ : ∃ g, w48.heap.size = g := ⟨_, rfl⟩
        have hge1 : w1.heap.size ≤ ga1 := by rw [← hga1]; exact hHeld0.size
        have hne01 : ga0 ≠ ga1 := by have := HA0.out.lt; omega
        have HA0 := Lib.hid (Row.alloc HA0.out (.cells #[.int .i64 0, .int .i64 0, .int .i64 0, .int .i64 0] 25))
        have HA1 : Hid (Row (w48.alloc (.cells #[.int .i64 0, .int .i64 0, .int .i64 0, .int .i64 0] 25)) ga1 25 #[.int .i64 0, .int .i64 0, .int .i64 0, .int .i64 0]) := row_new _ _ hga1 _ _
        rw [hga1]
        generalize w48.alloc (.cells #[.int .i64 0, .int .i64 0, .int .i64 0, .int .i64 0] 25) = w58 at hHeld HA0 HA1 ⊢
        clear hga1 hHeld0
        (try simp only [List.getElem_toArray, List.getElem_cons_succ, List.getElem_cons_zero, Act.put, List.setIfInBounds_toArray, List.set_cons_zero, List.set_cons_succ])
        refine wpAnyH_ready (rs := [2]) (by kernel_rfl) (by simp) ?_
        refine (AllReadyH.cons (o := _) rfl (fun K hK => ?_) AllReadyH.nil)
        go_simp
        refine (chips_any k F _ hk (HS.out.below hHeld HS.out.lt)).mono ?_
        rintro e w59 ⟨rfl, hb⟩
        go_wp2_with fail
        have hN := hHeld.trans (hb.mono hHeld.size)
        have HA0 := Lib.hid (Row.box HA0.out hb)
        have HA1 := Lib.hid (Row.box HA1.out hb)
        clear hHeld hb
        refine hK.out _ _ hN (fun hHeld => ?_)
        clear hN hK K
        (try simp only [List.getElem_toArray, List.getElem_cons_succ, List.getElem_cons_zero, Act.put, List.setIfInBounds_toArray, List.set_cons_zero, List.set_cons_succ])
        refine wpAnyH_ready (rs := [5]) (by kernel_rfl) (by simp) ?_
        refine (AllReadyH.cons (o := _) rfl (fun K hK => ?_) AllReadyH.nil)
        go_simp
        refine (chips_any k G _ hk (HS.out.below hHeld HS.out.lt)).mono ?_
        rintro e w60 ⟨rfl, hb⟩
        go_wp2_with fail
        have hN := hHeld.trans (hb.mono hHeld.size)
        have HA0 := Lib.hid (Row.box HA0.out hb)
        have HA1 := Lib.hid (Row.box HA1.out hb)
        clear hHeld hb
        refine hK.out _ _ hN (fun hHeld => ?_)
        clear hN hK K
        (try simp only [List.getElem_toArray, List.getElem_cons_succ, List.getElem_cons_zero, Act.put, List.setIfInBounds_toArray, List.set_cons_zero, List.set_cons_succ])
        refine wpAnyH_ready (rs := [8]) (by kernel_rfl) (by simp) ?_
        refine (AllReadyH.cons (o := _) rfl (fun K hK => ?_) AllReadyH.nil)
        have a0 : w60.cell? ⟨ga0, 0, none⟩ = some (.int .i64 0) := cell_of_row _ _ _ _ _ _ HA0.out
        have a1 : w60.cell? ⟨ga0, 1, none⟩ = some (.int .i64 0) := cell_of_row _ _ _ _ _ _ HA0.out
        have a2 : w60.cell? ⟨ga0, 2, none⟩ = some (.int .i64 0) := cell_of_row _ _ _ _ _ _ HA0.out
        have a3 : w60.cell? ⟨ga0, 3, none⟩ = some (.int .i64 0) := cell_of_row _ _ _ _ _ _ HA0.out
        have af := fun i => HA0.out.free i
        (try unfold chipsOf)
        go_simp
        refine hK.out _ _ (below_sets4 hHeld hge0 _ _ _ _) (fun hHeld => ?_)
        clear hK K a0 a1 a2 a3 af
        have HA1 := Lib.hid (row_far4 HA1.out hne01.symm (.int .i64 (chip (num k 99 (fr F : Nat)) 0)) (.int .i64 (chip (num k 99 (fr F : Nat)) 1)) (.int .i64 (chip (num k 99 (fr F : Nat)) 2)) (.int .i64 (chip (num k 99 (fr F : Nat)) 3)))
        have HA0 := Lib.hid (row_set4 HA0.out (.int .i64 (chip (num k 99 (fr F : Nat)) 0)) (.int .i64 (chip (num k 99 (fr F : Nat)) 1)) (.int .i64 (chip (num k 99 (fr F : Nat)) 2)) (.int .i64 (chip (num k 99 (fr F : Nat)) 3)))
        generalize (((w60.setCell _ _).setCell _ _).setCell _ _).setCell _ _ = w61 at hHeld HA0 HA1 ⊢
        (try simp only [List.getElem_toArray, List.getElem_cons_succ, List.getElem_cons_zero, Act.put, List.setIfInBounds_toArray, List.set_cons_zero, List.set_cons_succ])
        refine wpAnyH_ready (rs := [9]) (by kernel_rfl) (by simp) ?_
        refine (AllReadyH.cons (o := _) rfl (fun K hK => ?_) AllReadyH.nil)
        have a0 : w61.cell? ⟨ga1, 0, none⟩ = some (.int .i64 0) := cell_of_row _ _ _ _ _ _ HA1.out
        have a1 : w61.cell? ⟨ga1, 1, none⟩ = some (.int .i64 0) := cell_of_row _ _ _ _ _ _ HA1.out
        have a2 : w61.cell? ⟨ga1, 2, none⟩ = some (.int .i64 0) := cell_of_row _ _ _ _ _ _ HA1.out
        have a3 : w61.cell? ⟨ga1, 3, none⟩ = some (.int .i64 0) := cell_of_row _ _ _ _ _ _ HA1.out
        have af := fun i => HA1.out.free i
        (try unfold chipsOf)
        go_simp
        refine hK.out _ _ (below_sets4 hHeld hge1 _ _ _ _) (fun hHeld => ?_)
        clear hK K a0 a1 a2 a3 af
        have HA0 := Lib.hid (row_far4 HA0.out hne01 (.int .i64 (chip (num k 99 (fr G : Nat)) 0)) (.int .i64 (chip (num k 99 (fr G : Nat)) 1)) (.int .i64 (chip (num k 99 (fr G : Nat)) 2)) (.int .i64 (chip (num k 99 (fr G : Nat)) 3)))
        have HA1 := Lib.hid (row_set4 HA1.out (.int .i64 (chip (num k 99 (fr G : Nat)) 0)) (.int .i64 (chip (num k 99 (fr G : Nat)) 1)) (.int .i64 (chip (num k 99 (fr G : Nat)) 2)) (.int .i64 (chip (num k 99 (fr G : Nat)) 3)))
        generalize (((w61.setCell _ _).setCell _ _).setCell _ _).setCell _ _ = w62 at hHeld HA0 HA1 ⊢
        (try simp only [List.getElem_toArray, List.getElem_cons_succ, List.getElem_cons_zero, Act.put, List.setIfInBounds_toArray, List.set_cons_zero, List.set_cons_succ])
        refine wpAnyH_done (by kernel_rfl) ?_ _
        have HBB := Lib.hid (HB.out.trans (hHeld.mono HB.out.size))
        have HR2 := Lib.hid (HR.out.below hHeld HR.out.lt)
        clear hHeld
        go_wp2_with fail
        go_meet
        case rel => exact ⟨ga0, ga1, rfl, rfl, by omega, by omega, HA0.out, HA1.out, HR2.out, HBB.out⟩
    · go_simp
      have hHeld0 := hHeld
      refine hK.out _ _ (hHeld.alloc hHeld.size _) (fun hHeld => ?_)
      clear hK K
      obtain ⟨ga1, hga1⟩ : ∃ g, w2.heap.size = g := ⟨_, rfl⟩
      have hge1 : w1.heap.size ≤ ga1 := by rw [← hga1]; exact hHeld0.size
      have HA1 : Hid (Row (w2.alloc (.cells #[.int .i64 0, .int .i64 0, .int .i64 0, .int .i64 0] 25)) ga1 25 #[.int .i64 0, .int .i64 0, .int .i64 0, .int .i64 0]) := row_new _ _ hga1 _ _
      rw [hga1]
      generalize w2.alloc (.cells #[.int .i64 0, .int .i64 0, .int .i64 0, .int .i64 0] 25) = w63 at hHeld HA1 ⊢
      clear hga1 hHeld0
      (try simp only [List.getElem_toArray, List.getElem_cons_succ, List.getElem_cons_zero, Act.put, List.setIfInBounds_toArray, List.set_cons_zero, List.set_cons_succ])
      refine wpAnyH_ready (rs := [2, 6]) (by kernel_rfl) (by simp) ?_
      refine (AllReadyH.cons (o := _) rfl (fun K hK => ?_) (AllReadyH.cons (o := _) rfl (fun K hK => ?_) AllReadyH.nil))
      · go_simp
        refine (chips_any k F _ hk (HS.out.below hHeld HS.out.lt)).mono ?_
        rintro e w64 ⟨rfl, hb⟩
        go_wp2_with fail
        have hN := hHeld.trans (hb.mono hHeld.size)
        have HA1 := Lib.hid (Row.box HA1.out hb)
        clear hHeld hb
        refine hK.out _ _ hN (fun hHeld => ?_)
        clear hN hK K
        (try simp only [List.getElem_toArray, List.getElem_cons_succ, List.getElem_cons_zero, Act.put, List.setIfInBounds_toArray, List.set_cons_zero, List.set_cons_succ])
        refine wpAnyH_ready (rs := [5, 6]) (by kernel_rfl) (by simp) ?_
        refine (AllReadyH.cons (o := _) rfl (fun K hK => ?_) (AllReadyH.cons (o := _) rfl (fun K hK => ?_) AllReadyH.nil))
        · go_simp
          refine (chips_any k G _ hk (HS.out.below hHeld HS.out.lt)).mono ?_
          rintro e w65 ⟨rfl, hb⟩
          go_wp2_with fail
          have hN := hHeld.trans (hb.mono hHeld.size)
          have HA1 := Lib.hid (Row.box HA1.out hb)
          clear hHeld hb
          refine hK.out _ _ hN (fun hHeld => ?_)
          clear hN hK K
          (try simp only [List.getElem_toArray, List.getElem_cons_succ, List.getElem_cons_zero, Act.put, List.setIfInBounds_toArray, List.set_cons_zero, List.set_cons_succ])
          refine wpAnyH_ready (rs := [6]) (by kernel_rfl) (by simp) ?_
          refine (AllReadyH.cons (o := _) rfl (fun K hK => ?_) AllReadyH.nil)
          go_simp
          have hHeld0 := hHeld
          refine hK.out _ _ (hHeld.alloc hHeld.size _) (fun hHeld => ?_)
          clear hK K
          obtain ⟨ga0, hga0⟩ : ∃ g, w65.heap.size = g := ⟨_, rfl⟩
          have hge0 : w1.heap.size ≤ ga0 := by rw [← hga0]; exact hHeld0.size
          have hne10 : ga1 ≠ ga0 := by have := HA1.out.lt; omega
          have HA1 := Lib.hid (Row.alloc HA1.out (.cells #[.int .i64 0, .int .i64 0, .int .i64 0, .int .i64 0] 25))
          have HA0 : Hid (Row (w65.alloc (.cells #[.int .i64 0, .int .i64 0, .int .i64 0, .int .i64 0] 25)) ga0 25 #[.int .i64 0, .int .i64 0, .int .i64 0, .int .i64 0]) := row_new _ _ hga0 _ _
          rw [hga0]
          generalize w65.alloc (.cells #[.int .i64 0, .int .i64 0, .int .i64 0, .int .i64 0] 25) = w66 at hHeld HA1 HA0 ⊢
          clear hga0 hHeld0
          (try simp only [List.getElem_toArray, List.getElem_cons_succ, List.getElem_cons_zero, Act.put, List.setIfInBounds_toArray, List.set_cons_zero, List.set_cons_succ])
          refine wpAnyH_ready (rs := [8]) (by kernel_rfl) (by simp) ?_
          refine (AllReadyH.cons (o := _) rfl (fun K hK => ?_) AllReadyH.nil)
          have a0 : w66.cell? ⟨ga0, 0, none⟩ = some (.int .i64 0) := cell_of_row _ _ _ _ _ _ HA0.out
          have a1 : w66.cell? ⟨ga0, 1, none⟩ = some (.int .i64 0) := cell_of_row _ _ _ _ _ _ HA0.out
          have a2 : w66.cell? ⟨ga0, 2, none⟩ = some (.int .i64 0) := cell_of_row _ _ _ _ _ _ HA0.out
          have a3 : w66.cell? ⟨ga0, 3, none⟩ = some (.int .i64 0) := cell_of_row _ _ _ _ _ _ HA0.out
          have af := fun i => HA0.out.free i
          (try unfold chipsOf)
          go_simp
          refine hK.out _ _ (below_sets4 hHeld hge0 _ _ _ _) (fun hHeld => ?_)
          clear hK K a0 a1 a2 a3 af
          have HA1 := Lib.hid (row_far4 HA1.out hne10 (.int .i64 (chip (num k 99 (fr F : Nat)) 0)) (.int .i64 (chip (num k 99 (fr F : Nat)) 1)) (.int .i64 (chip (num k 99 (fr F : Nat)) 2)) (.int .i64 (chip (num k 99 (fr F : Nat)) 3)))
          have HA0 := Lib.hid (row_set4 HA0.out (.int .i64 (chip (num k 99 (fr F : Nat)) 0)) (.int .i64 (chip (num k 99 (fr F : Nat)) 1)) (.int .i64 (chip (num k 99 (fr F : Nat)) 2)) (.int .i64 (chip (num k 99 (fr F : Nat)) 3)))
          generalize (((w66.setCell _ _).setCell _ _).setCell _ _).setCell _ _ = w67 at hHeld HA1 HA0 ⊢
          (try simp only [List.getElem_toArray, List.getElem_cons_succ, List.getElem_cons_zero, Act.put, List.setIfInBounds_toArray, List.set_cons_zero, List.set_cons_succ])
          refine wpAnyH_ready (rs := [9]) (by kernel_rfl) (by simp) ?_
          refine (AllReadyH.cons (o := _) rfl (fun K hK => ?_) AllReadyH.nil)
          have a0 : w67.cell? ⟨ga1, 0, none⟩ = some (.int .i64 0) := cell_of_row _ _ _ _ _ _ HA1.out
          have a1 : w67.cell? ⟨ga1, 1, none⟩ = some (.int .i64 0) := cell_of_row _ _ _ _ _ _ HA1.out
          have a2 : w67.cell? ⟨ga1, 2, none⟩ = some (.int .i64 0) := cell_of_row _ _ _ _ _ _ HA1.out
          have a3 : w67.cell? ⟨ga1, 3, none⟩ = some (.int .i64 0) := cell_of_row _ _ _ _ _ _ HA1.out
          have af := fun i => HA1.out.free i
          (try unfold chipsOf)
          go_simp
          refine hK.out _ _ (below_sets4 hHeld hge1 _ _ _ _) (fun hHeld => ?_)
          clear hK K a0 a1 a2 a3 af
          have HA0 := Lib.hid (row_far4 HA0.out hne10.symm (.int .i64 (chip (num k 99 (fr G : Nat)) 0)) (.int .i64 (chip (num k 99 (fr G : Nat)) 1)) (.int .i64 (chip (num k 99 (fr G : Nat)) 2)) (.int .i64 (chip (num k 99 (fr G : Nat)) 3)))
          have HA1 := Lib.hid (row_set4 HA1.out (.int .i64 (chip (num k 99 (fr G : Nat)) 0)) (.int .i64 (chip (num k 99 (fr G : Nat)) 1)) (.int .i64 (chip (num k 99 (fr G : Nat)) 2)) (.int .i64 (chip (num k 99 (fr G : Nat)) 3)))
          generalize (((w67.setCell _ _).setCell _ _).setCell _ _).setCell _ _ = w68 at hHeld HA1 HA0 ⊢
          (try simp only [List.getElem_toArray, List.getElem_cons_succ, List.getElem_cons_zero, Act.put, List.setIfInBounds_toArray, List.set_cons_zero, List.set_cons_succ])
          refine wpAnyH_done (by kernel_rfl) ?_ _
          have HBB := Lib.hid (HB.out.trans (hHeld.mono HB.out.size))
          have HR2 := Lib.hid (HR.out.below hHeld HR.out.lt)
          clear hHeld
          go_wp2_with fail
          go_meet
          case rel => exact ⟨ga0, ga1, rfl, rfl, by omega, by omega, HA0.out, HA1.out, HR2.out, HBB.out⟩
        · go_simp
          have hHeld0 := hHeld
          refine hK.out _ _ (hHeld.alloc hHeld.size _) (fun hHeld => ?_)
          clear hK K
          obtain ⟨ga0, hga0⟩ : ∃ g, w64.heap.size = g := ⟨_, rfl⟩
          have hge0 : w1.heap.size ≤ ga0 := by rw [← hga0]; exact hHeld0.size
          have hne10 : ga1 ≠ ga0 := by have := HA1.out.lt; omega
          have HA1 := Lib.hid (Row.alloc HA1.out (.cells #[.int .i64 0, .int .i64 0, .int .i64 0, .int .i64 0] 25))
          have HA0 : Hid (Row (w64.alloc (.cells #[.int .i64 0, .int .i64 0, .int .i64 0, .int .i64 0] 25)) ga0 25 #[.int .i64 0, .int .i64 0, .int .i64 0, .int .i64 0]) := row_new _ _ hga0 _ _
          rw [hga0]
          generalize w64.alloc (.cells #[.int .i64 0, .int .i64 0, .int .i64 0, .int .i64 0] 25) = w69 at hHeld HA1 HA0 ⊢
          clear hga0 hHeld0
          (try simp only [List.getElem_toArray, List.getElem_cons_succ, List.getElem_cons_zero, Act.put, List.setIfInBounds_toArray, List.set_cons_zero, List.set_cons_succ])
          refine wpAnyH_ready (rs := [5]) (by kernel_rfl) (by simp) ?_
          refine (AllReadyH.cons (o := _) rfl (fun K hK => ?_) AllReadyH.nil)
          go_simp
          refine (chips_any k G _ hk (HS.out.below hHeld HS.out.lt)).mono ?_
          rintro e w70 ⟨rfl, hb⟩
          go_wp2_with fail
          have hN := hHeld.trans (hb.mono hHeld.size)
          have HA1 := Lib.hid (Row.box HA1.out hb)
          have HA0 := Lib.hid (Row.box HA0.out hb)
          clear hHeld hb
          refine hK.out _ _ hN (fun hHeld => ?_)
          clear hN hK K
          (try simp only [List.getElem_toArray, List.getElem_cons_succ, List.getElem_cons_zero, Act.put, List.setIfInBounds_toArray, List.set_cons_zero, List.set_cons_succ])
          refine wpAnyH_ready (rs := [8]) (by kernel_rfl) (by simp) ?_
          refine (AllReadyH.cons (o := _) rfl (fun K hK => ?_) AllReadyH.nil)
          have a0 : w70.cell? ⟨ga0, 0, none⟩ = some (.int .i64 0) := cell_of_row _ _ _ _ _ _ HA0.out
          have a1 : w70.cell? ⟨ga0, 1, none⟩ = some (.int .i64 0) := cell_of_row _ _ _ _ _ _ HA0.out
          have a2 : w70.cell? ⟨ga0, 2, none⟩ = some (.int .i64 0) := cell_of_row _ _ _ _ _ _ HA0.out
          have a3 : w70.cell? ⟨ga0, 3, none⟩ = some (.int .i64 0) := cell_of_row _ _ _ _ _ _ HA0.out
          have af := fun i => HA0.out.free i
          (try unfold chipsOf)
          go_simp
          refine hK.out _ _ (below_sets4 hHeld hge0 _ _ _ _) (fun hHeld => ?_)
          clear hK K a0 a1 a2 a3 af
          have HA1 := Lib.hid (row_far4 HA1.out hne10 (.int .i64 (chip (num k 99 (fr F : Nat)) 0)) (.int .i64 (chip (num k 99 (fr F : Nat)) 1)) (.int .i64 (chip (num k 99 (fr F : Nat)) 2)) (.int .i64 (chip (num k 99 (fr F : Nat)) 3)))
          have HA0 := Lib.hid (row_set4 HA0.out (.int .i64 (chip (num k 99 (fr F : Nat)) 0)) (.int .i64 (chip (num k 99 (fr F : Nat)) 1)) (.int .i64 (chip (num k 99 (fr F : Nat)) 2)) (.int .i64 (chip (num k 99 (fr F : Nat)) 3)))
          generalize (((w70.setCell _ _).setCell _ _).setCell _ _).setCell _ _ = w71 at hHeld HA1 HA0 ⊢
          (try simp only [List.getElem_toArray, List.getElem_cons_succ, List.getElem_cons_zero, Act.put, List.setIfInBounds_toArray, List.set_cons_zero, List.set_cons_succ])
          refine wpAnyH_ready (rs := [9]) (by kernel_rfl) (by simp) ?_
          refine (AllReadyH.cons (o := _) rfl (fun K hK => ?_) AllReadyH.nil)
          have a0 : w71.cell? ⟨ga1, 0, none⟩ = some (.int .i64 0) := cell_of_row _ _ _ _ _ _ HA1.out
          have a1 : w71.cell? ⟨ga1, 1, none⟩ = some (.int .i64 0) := cell_of_row _ _ _ _ _ _ HA1.out
          have a2 : w71.cell? ⟨ga1, 2, none⟩ = some (.int .i64 0) := cell_of_row _ _ _ _ _ _ HA1.out
          have a3 : w71.cell? ⟨ga1, 3, none⟩ = some (.int .i64 0) := cell_of_row _ _ _ _ _ _ HA1.out
          have af := fun i => HA1.out.free i
          (try unfold chipsOf)
          go_simp
          refine hK.out _ _ (below_sets4 hHeld hge1 _ _ _ _) (fun hHeld => ?_)
          clear hK K a0 a1 a2 a3 af
          have HA0 := Lib.hid (row_far4 HA0.out hne10.symm (.int .i64 (chip (num k 99 (fr G : Nat)) 0)) (.int .i64 (chip (num k 99 (fr G : Nat)) 1)) (.int .i64 (chip (num k 99 (fr G : Nat)) 2)) (.int .i64 (chip (num k 99 (fr G : Nat)) 3)))
          have HA1 := Lib.hid (row_set4 HA1.out (.int .i64 (chip (num k 99 (fr G : Nat)) 0)) (.int .i64 (chip (num k 99 (fr G : Nat)) 1)) (.int .i64 (chip (num k 99 (fr G : Nat)) 2)) (.int .i64 (chip (num k 99 (fr G : Nat)) 3)))
          generalize (((w71.setCell _ _).setCell _ _).setCell _ _).setCell _ _ = w72 at hHeld HA1 HA0 ⊢
          (try simp only [List.getElem_toArray, List.getElem_cons_succ, List.getElem_cons_zero, Act.put, List.setIfInBounds_toArray, List.set_cons_zero, List.set_cons_succ])
          refine wpAnyH_done (by kernel_rfl) ?_ _
          have HBB := Lib.hid (HB.out.trans (hHeld.mono HB.out.size))
          have HR2 := Lib.hid (HR.out.below hHeld HR.out.lt)
          clear hHeld
          go_wp2_with fail
          go_meet
          case rel => exact ⟨ga0, ga1, rfl, rfl, by omega, by omega, HA0.out, HA1.out, HR2.out, HBB.out⟩
      · go_simp
        have hHeld0 := hHeld
        refine hK.out _ _ (hHeld.alloc hHeld.size _) (fun hHeld => ?_)
        clear hK K
        obtain ⟨ga0, hga0⟩ : ∃ g, w63.heap.size = g := ⟨_, rfl⟩
        have hge0 : w1.heap.size ≤ ga0 := by rw [← hga0]; exact hHeld0.size
        have hne10 : ga1 ≠ ga0 := by have := HA1.out.lt; omega
        have HA1 := Lib.hid (Row.alloc HA1.out (.cells #[.int .i64 0, .int .i64 0, .int .i64 0, .int .i64 0] 25))
        have HA0 : Hid (Row (w63.alloc (.cells #[.int .i64 0, .int .i64 0, .int .i64 0, .int .i64 0] 25)) ga0 25 #[.int .i64 0, .int .i64 0, .int .i64 0, .int .i64 0]) := row_new _ _ hga0 _ _
        rw [hga0]
        generalize w63.alloc (.cells #[.int .i64 0, .int .i64 0, .int .i64 0, .int .i64 0] 25) = w73 at hHeld HA1 HA0 ⊢
        clear hga0 hHeld0
        (try simp only [List.getElem_toArray, List.getElem_cons_succ, List.getElem_cons_zero, Act.put, List.setIfInBounds_toArray, List.set_cons_zero, List.set_cons_succ])
        refine wpAnyH_ready (rs := [2]) (by kernel_rfl) (by simp) ?_
        refine (AllReadyH.cons (o := _) rfl (fun K hK => ?_) AllReadyH.nil)
        go_simp
        refine (chips_any k F _ hk (HS.out.below hHeld HS.out.lt)).mono ?_
        rintro e w74 ⟨rfl, hb⟩
        go_wp2_with fail
        have hN := hHeld.trans (hb.mono hHeld.size)
        have HA1 := Lib.hid (Row.box HA1.out hb)
        have HA0 := Lib.hid (Row.box HA0.out hb)
        clear hHeld hb
        refine hK.out _ _ hN (fun hHeld => ?_)
        clear hN hK K
        (try simp only [List.getElem_toArray, List.getElem_cons_succ, List.getElem_cons_zero, Act.put, List.setIfInBounds_toArray, List.set_cons_zero, List.set_cons_succ])
        refine wpAnyH_ready (rs := [5]) (by kernel_rfl) (by simp) ?_
        refine (AllReadyH.cons (o := _) rfl (fun K hK => ?_) AllReadyH.nil)
        go_simp
        refine (chips_any k G _ hk (HS.out.below hHeld HS.out.lt)).mono ?_
        rintro e w75 ⟨rfl, hb⟩
        go_wp2_with fail
        have hN := hHeld.trans (hb.mono hHeld.size)
        have HA1 := Lib.hid (Row.box HA1.out hb)
        have HA0 := Lib.hid (Row.box HA0.out hb)
        clear hHeld hb
        refine hK.out _ _ hN (fun hHeld => ?_)
        clear hN hK K
        (try simp only [List.getElem_toArray, List.getElem_cons_succ, List.getElem_cons_zero, Act.put, List.setIfInBounds_toArray, List.set_cons_zero, List.set_cons_succ])
        refine wpAnyH_ready (rs := [8]) (by kernel_rfl) (by simp) ?_
        refine (AllReadyH.cons (o := _) rfl (fun K hK => ?_) AllReadyH.nil)
        have a0 : w75.cell? ⟨ga0, 0, none⟩ = some (.int .i64 0) := cell_of_row _ _ _ _ _ _ HA0.out
        have a1 : w75.cell? ⟨ga0, 1, none⟩ = some (.int .i64 0) := cell_of_row _ _ _ _ _ _ HA0.out
        have a2 : w75.cell? ⟨ga0, 2, none⟩ = some (.int .i64 0) := cell_of_row _ _ _ _ _ _ HA0.out
        have a3 : w75.cell? ⟨ga0, 3, none⟩ = some (.int .i64 0) := cell_of_row _ _ _ _ _ _ HA0.out
        have af := fun i => HA0.out.free i
        (try unfold chipsOf)
        go_simp
        refine hK.out _ _ (below_sets4 hHeld hge0 _ _ _ _) (fun hHeld => ?_)
        clear hK K a0 a1 a2 a3 af
        have HA1 := Lib.hid (row_far4 HA1.out hne10 (.int .i64 (chip (num k 99 (fr F : Nat)) 0)) (.int .i64 (chip (num k 99 (fr F : Nat)) 1)) (.int .i64 (chip (num k 99 (fr F : Nat)) 2)) (.int .i64 (chip (num k 99 (fr F : Nat)) 3)))
        have HA0 := Lib.hid (row_set4 HA0.out (.int .i64 (chip (num k 99 (fr F : Nat)) 0)) (.int .i64 (chip (num k 99 (fr F : Nat)) 1)) (.int .i64 (chip (num k 99 (fr F : Nat)) 2)) (.int .i64 (chip (num k 99 (fr F : Nat)) 3)))
        generalize (((w75.setCell _ _).setCell _ _).setCell _ _).setCell _ _ = w76 at hHeld HA1 HA0 ⊢
        (try simp only [List.getElem_toArray, List.getElem_cons_succ, List.getElem_cons_zero, Act.put, List.setIfInBounds_toArray, List.set_cons_zero, List.set_cons_succ])
        refine wpAnyH_ready (rs := [9]) (by kernel_rfl) (by simp) ?_
        refine (AllReadyH.cons (o := _) rfl (fun K hK => ?_) AllReadyH.nil)
        have a0 : w76.cell? ⟨ga1, 0, none⟩ = some (.int .i64 0) := cell_of_row _ _ _ _ _ _ HA1.out
        have a1 : w76.cell? ⟨ga1, 1, none⟩ = some (.int .i64 0) := cell_of_row _ _ _ _ _ _ HA1.out
        have a2 : w76.cell? ⟨ga1, 2, none⟩ = some (.int .i64 0) := cell_of_row _ _ _ _ _ _ HA1.out
        have a3 : w76.cell? ⟨ga1, 3, none⟩ = some (.int .i64 0) := cell_of_row _ _ _ _ _ _ HA1.out
        have af := fun i => HA1.out.free i
        (try unfold chipsOf)
        go_simp
        refine hK.out _ _ (below_sets4 hHeld hge1 _ _ _ _) (fun hHeld => ?_)
        clear hK K a0 a1 a2 a3 af
        have HA0 := Lib.hid (row_far4 HA0.out hne10.symm (.int .i64 (chip (num k 99 (fr G : Nat)) 0)) (.int .i64 (chip (num k 99 (fr G : Nat)) 1)) (.int .i64 (chip (num k 99 (fr G : Nat)) 2)) (.int .i64 (chip (num k 99 (fr G : Nat)) 3)))
        have HA1 := Lib.hid (row_set4 HA1.out (.int .i64 (chip (num k 99 (fr G : Nat)) 0)) (.int .i64 (chip (num k 99 (fr G : Nat)) 1)) (.int .i64 (chip (num k 99 (fr G : Nat)) 2)) (.int .i64 (chip (num k 99 (fr G : Nat)) 3)))
        generalize (((w76.setCell _ _).setCell _ _).setCell _ _).setCell _ _ = w77 at hHeld HA1 HA0 ⊢
        (try simp only [List.getElem_toArray, List.getElem_cons_succ, List.getElem_cons_zero, Act.put, List.setIfInBounds_toArray, List.set_cons_zero, List.set_cons_succ])
        refine wpAnyH_done (by kernel_rfl) ?_ _
        have HBB := Lib.hid (HB.out.trans (hHeld.mono HB.out.size))
        have HR2 := Lib.hid (HR.out.below hHeld HR.out.lt)
        clear hHeld
        go_wp2_with fail
        go_meet
        case rel => exact ⟨ga0, ga1, rfl, rfl, by omega, by omega, HA0.out, HA1.out, HR2.out, HBB.out⟩
  case rest =>
    obtain ⟨B, hB⟩ : ∃ B, bn % 8 = B := ⟨_, rfl⟩
    obtain ⟨T, hT⟩ : ∃ T, bt % 8 = T := ⟨_, rfl⟩
    have hB8 : B < 8 := by omega
    have hT8 : T < 8 := by omega
    have e1 : (bn : Int).tmod 8 = (B : Int) := by rw [Int.tmod_eq_emod_of_nonneg (by omega)]; omega
    have e2 : IntKind.i64.wrap (B : Int) = (B : Int) := IntWalk.i64_in _ (by omega)
    have e3 : (bt : Int).tmod 8 = (T : Int) := by rw [Int.tmod_eq_emod_of_nonneg (by omega)]; omega
    have e4 : IntKind.i64.wrap (T : Int) = (T : Int) := IntWalk.i64_in _ (by omega)
    have HE := Lib.hid (And.intro e1 (And.intro e2 (And.intro e3 e4)))
    clear hB hT e1 e2 e3 e4
    obtain ⟨g1, g2, rfl, rfl, hx1, hx2, hr1, hr2, hr, hbel⟩ := hcut
    have HR := Lib.hid hr
    have HB := Lib.hid hbel
    have H1 := Lib.hid hr1
    have H2 := Lib.hid hr2
    have HS := Lib.hid (HGG.out.below hbel HGG.out.lt)
    have hwc := hbel.size
    clear hr hr1 hr2 hbel
    obtain ⟨p0, p1, p2, p3, hp⟩ : ∃ p0 p1 p2 p3 : Bool, subOf (num k 115 ((fr F * 8 + B : Nat) : Int)) T = #[.bool p0, .bool p1, .bool p2, .bool p3] ∧ eqB4 p0 p1 p2 p3 false false false false = false := ⟨_, _, _, _, rfl, sub_some _ _⟩
    have HPF := Lib.hid hp.1
    have HPG : Hid (subOf (num k 115 ((fr G * 8 + B : Nat) : Int)) T = #[.bool p0, .bool p1, .bool p2, .bool p3]) := by unfold Hid; rw [HFG.out]; exact hp.1
    have HPN := Lib.hid hp.2
    clear hp
    go_wp2_with fail
    go_cut [15, 16] from 19 (fun s15 s16 W => ∃ g3 g4, s15 = .pointer (some ⟨g3, 0, none⟩) ∧ s16 = .pointer (some ⟨g4, 0, none⟩) ∧ Row W g3 27 #[.bool p0, .bool p1, .bool p2, .bool p3] ∧ Row W g4 27 #[.bool p0, .bool p1, .bool p2, .bool p3] ∧ Row W g1 25 (chipsOf k F) ∧ Row W g2 25 (chipsOf k G) ∧ Row W w.heap.size 23 (byteCells k) ∧ Below w.heap.size w W)
    case first =>
      have e1 := HE.out.1
      have e2 := HE.out.2.1
      have e3 := HE.out.2.2.1
      have e4 := HE.out.2.2.2
      refine wp_region_held_drew (S := fun w' => Below wc.heap.size wc w') (by kernel_rfl) ?_ (fun hHeld => ?_)
      · exact below_drew1 (Below.refl _ _)
      generalize wc.drew = w2 at hHeld ⊢
      refine wpAnyH_take (i := 0) (oi := _) rfl (by kernel_rfl) (by kernel_rfl) (by kernel_rfl) (fun _ _ _ h => h) (yields_row (by rfl) 23 (.tmp 5) rfl w.heap.size rfl 23 (byteCells k) HR.out Tryd.underlying23 HI.out) hHeld ?_
      (try simp only [List.getElem_toArray, List.getElem_cons_zero, Act.put, List.setIfInBounds_toArray, List.set_cons_zero, List.set_cons_succ])
      refine wpAnyH_take (i := 1) (oi := _) (v := ?_) rfl (by kernel_rfl) (by kernel_rfl) (by kernel_rfl) (fun _ _ _ h => h) (Or.inl ⟨by rfl, ?_⟩) hHeld ?_
      rotate_left
      · (intro w hSw; (try dsimp only at hSw); first | (go_simp; done) | (go_simp; with_reducible rfl))
      (try simp only [List.getElem_toArray, List.getElem_cons_succ, List.getElem_cons_zero, Act.put, List.setIfInBounds_toArray, List.set_cons_zero, List.set_cons_succ])
      refine wpAnyH_take (i := 2) (oi := _) (v := ?_) rfl (by kernel_rfl) (by kernel_rfl) (by kernel_rfl) (fun _ _ _ h => h) (Or.inl ⟨by rfl, ?_⟩) hHeld ?_
      rotate_left
      · (intro w hSw; (try dsimp only at hSw); first | (go_simp; done) | (go_simp; with_reducible rfl))
      (try simp only [List.getElem_toArray, List.getElem_cons_succ, List.getElem_cons_zero, Act.put, List.setIfInBounds_toArray, List.set_cons_zero, List.set_cons_succ])
      refine wpAnyH_take (i := 3) (oi := _) (v := ?_) rfl (by kernel_rfl) (by kernel_rfl) (by kernel_rfl) (fun _ _ _ h => h) (Or.inl ⟨by rfl, ?_⟩) hHeld ?_
      rotate_left
      · (intro w hSw; (try dsimp only at hSw); first | (go_simp; done) | (go_simp; with_reducible rfl))
      (try simp only [List.getElem_toArray, List.getElem_cons_succ, List.getElem_cons_zero, Act.put, List.setIfInBounds_toArray, List.set_cons_zero, List.set_cons_succ])
      refine wpAnyH_take (i := 4) (oi := _) (v := ?_) rfl (by kernel_rfl) (by kernel_rfl) (by kernel_rfl) (fun _ _ _ h => h) (Or.inl ⟨by rfl, ?_⟩) hHeld ?_
      rotate_left
      · (intro w hSw; (try dsimp only at hSw); first | (go_simp; done) | (go_simp; with_reducible rfl))
      (try simp only [List.getElem_toArray, List.getElem_cons_succ, List.getElem_cons_zero, Act.put, List.setIfInBounds_toArray, List.set_cons_zero, List.set_cons_succ])
      refine wpAnyH_take (i := 5) (oi := _) (v := ?_) rfl (by kernel_rfl) (by kernel_rfl) (by kernel_rfl) (fun _ _ _ h => h) (Or.inl ⟨by rfl, ?_⟩) hHeld ?_
      rotate_left
      · (intro w hSw; (try dsimp only at hSw); first | (go_simp; done) | (go_simp; with_reducible rfl))
      (try simp only [List.getElem_toArray, List.getElem_cons_succ, List.getElem_cons_zero, Act.put, List.setIfInBounds_toArray, List.set_cons_zero, List.set_cons_succ])
      refine wpAnyH_take (i := 6) (oi := _) (v := ?_) rfl (by kernel_rfl) (by kernel_rfl) (by kernel_rfl) (fun _ _ _ h => h) (Or.inl ⟨by rfl, ?_⟩) hHeld ?_
      rotate_left
      · (intro w hSw; (try dsimp only at hSw); first | (go_simp; done) | (go_simp; with_reducible rfl))
      (try simp only [List.getElem_toArray, List.getElem_cons_succ, List.getElem_cons_zero, Act.put, List.setIfInBounds_toArray, List.set_cons_zero, List.set_cons_succ])
      refine wpAnyH_take (i := 7) (oi := _) (v := ?_) rfl (by kernel_rfl) (by kernel_rfl) (by kernel_rfl) (fun _ _ _ h => h) (Or.inl ⟨by rfl, ?_⟩) hHeld ?_
      rotate_left
      · (intro w hSw; (try dsimp only at hSw); first | (go_simp; done) | (go_simp; with_reducible rfl))
      (try simp only [List.getElem_toArray, List.getElem_cons_succ, List.getElem_cons_zero, Act.put, List.setIfInBounds_toArray, List.set_cons_zero, List.set_cons_succ])
      refine wpAnyH_take (i := 9) (oi := _) rfl (by kernel_rfl) (by kernel_rfl) (by kernel_rfl) (fun _ _ _ h => h) (yields_row (by rfl) 23 (.tmp 5) rfl w.heap.size rfl 23 (byteCells k) HR.out Tryd.underlying23 HI.out) hHeld ?_
      (try simp only [List.getElem_toArray, List.getElem_cons_succ, List.getElem_cons_zero, Act.put, List.setIfInBounds_toArray, List.set_cons_zero, List.set_cons_succ])
      refine wpAnyH_take (i := 10) (oi := _) (v := ?_) rfl (by kernel_rfl) (by kernel_rfl) (by kernel_rfl) (fun _ _ _ h => h) (Or.inl ⟨by rfl, ?_⟩) hHeld ?_
      rotate_left
      · (intro w hSw; (try dsimp only at hSw); first | (go_simp; done) | (go_simp; with_reducible rfl))
      (try simp only [List.getElem_toArray, List.getElem_cons_succ, List.getElem_cons_zero, Act.put, List.setIfInBounds_toArray, List.set_cons_zero, List.set_cons_succ])
      refine wpAnyH_take (i := 11) (oi := _) (v := ?_) rfl (by kernel_rfl) (by kernel_rfl) (by kernel_rfl) (fun _ _ _ h => h) (Or.inl ⟨by rfl, ?_⟩) hHeld ?_
      rotate_left
      · (intro w hSw; (try dsimp only at hSw); first | (go_simp; done) | (go_simp; with_reducible rfl))
      (try simp only [List.getElem_toArray, List.getElem_cons_succ, List.getElem_cons_zero, Act.put, List.setIfInBounds_toArray, List.set_cons_zero, List.set_cons_succ])
      refine wpAnyH_take (i := 12) (oi := _) (v := ?_) rfl (by kernel_rfl) (by kernel_rfl) (by kernel_rfl) (fun _ _ _ h => h) (Or.inl ⟨by rfl, ?_⟩) hHeld ?_
      rotate_left
      · (intro w hSw; (try dsimp only at hSw); first | (go_simp; done) | (go_simp; with_reducible rfl))
      (try simp only [List.getElem_toArray, List.getElem_cons_succ, List.getElem_cons_zero, Act.put, List.setIfInBounds_toArray, List.set_cons_zero, List.set_cons_succ])
      refine wpAnyH_take (i := 13) (oi := _) (v := ?_) rfl (by kernel_rfl) (by kernel_rfl) (by kernel_rfl) (fun _ _ _ h => h) (Or.inl ⟨by rfl, ?_⟩) hHeld ?_
      rotate_left
      · (intro w hSw; (try dsimp only at hSw); first | (go_simp; done) | (go_simp; with_reducible rfl))
      (try simp only [List.getElem_toArray, List.getElem_cons_succ, List.getElem_cons_zero, Act.put, List.setIfInBounds_toArray, List.set_cons_zero, List.set_cons_succ])
      refine wpAnyH_take (i := 14) (oi := _) (v := ?_) rfl (by kernel_rfl) (by kernel_rfl) (by kernel_rfl) (fun _ _ _ h => h) (Or.inl ⟨by rfl, ?_⟩) hHeld ?_
      rotate_left
      · (intro w hSw; (try dsimp only at hSw); first | (go_simp; done) | (go_simp; with_reducible rfl))
      (try simp only [List.getElem_toArray, List.getElem_cons_succ, List.getElem_cons_zero, Act.put, List.setIfInBounds_toArray, List.set_cons_zero, List.set_cons_succ])
      refine wpAnyH_take (i := 15) (oi := _) (v := ?_) rfl (by kernel_rfl) (by kernel_rfl) (by kernel_rfl) (fun _ _ _ h => h) (Or.inl ⟨by rfl, ?_⟩) hHeld ?_
      rotate_left
      · (intro w hSw; (try dsimp only at hSw); first | (go_simp; done) | (go_simp; with_reducible rfl))
      (try simp only [List.getElem_toArray, List.getElem_cons_succ, List.getElem_cons_zero, Act.put, List.setIfInBounds_toArray, List.set_cons_zero, List.set_cons_succ])
      refine wpAnyH_take (i := 16) (oi := _) (v := ?_) rfl (by kernel_rfl) (by kernel_rfl) (by kernel_rfl) (fun _ _ _ h => h) (Or.inl ⟨by rfl, ?_⟩) hHeld ?_
      rotate_left
      · (intro w hSw; (try dsimp only at hSw); first | (go_simp; done) | (go_simp; with_reducible rfl))
      (try simp only [List.getElem_toArray, List.getElem_cons_succ, List.getElem_cons_zero, Act.put, List.setIfInBounds_toArray, List.set_cons_zero, List.set_cons_succ])
      refine wpAnyH_ready (rs := [8, 18, 19]) (by kernel_rfl) (by simp) ?_
      refine (AllReadyH.cons (o := _) rfl (fun K hK => ?_) (AllReadyH.cons (o := _) rfl (fun K hK => ?_) (AllReadyH.cons (o := _) rfl (fun K hK => ?_) AllReadyH.nil)))
      · go_simp
        refine (subset_in k F B T _ hk (by omega) (by omega) (HS.out.below hHeld HS.out.lt)).mono ?_
        rintro e w20 ⟨rfl, hb⟩
        rw [HPF.out]
        go_wp2_with fail
        have hN := hHeld.trans (hb.mono hHeld.size)
        clear hHeld hb
        refine hK.out _ _ hN (fun hHeld => ?_)
        clear hN hK K
        (try simp only [List.getElem_toArray, List.getElem_cons_succ, List.getElem_cons_zero, Act.put, List.setIfInBounds_toArray, List.set_cons_zero, List.set_cons_succ])
        refine wpAnyH_ready (rs := [17, 18, 19]) (by kernel_rfl) (by simp) ?_
        refine (AllReadyH.cons (o := _) rfl (fun K hK => ?_) (AllReadyH.cons (o := _) rfl (fun K hK => ?_) (AllReadyH.cons (o := _) rfl (fun K hK => ?_) AllReadyH.nil)))
        · clear e1 e2 e3 e4
          go_simp
          refine (subset_in k G B T _ hk (by omega) (by omega) (HS.out.below hHeld HS.out.lt)).mono ?_
          rintro e w21 ⟨rfl, hb⟩
          rw [HPG.out]
          go_wp2_with fail
          have hN := hHeld.trans (hb.mono hHeld.size)
          clear hHeld hb
          refine hK.out _ _ hN (fun hHeld => ?_)
          clear hN hK K
          (try simp only [List.getElem_toArray, List.getElem_cons_succ, List.getElem_cons_zero, Act.put, List.setIfInBounds_toArray, List.set_cons_zero, List.set_cons_succ])
          refine wpAnyH_ready (rs := [18, 19]) (by kernel_rfl) (by simp) ?_
          refine (AllReadyH.cons (o := _) rfl (fun K hK => ?_) (AllReadyH.cons (o := _) rfl (fun K hK => ?_) AllReadyH.nil))
          · go_simp
            have hHeld0 := hHeld
            refine hK.out _ _ (hHeld.alloc hHeld.size _) (fun hHeld => ?_)
            clear hK K
            obtain ⟨ga0, hga0⟩ : ∃ g, w21.heap.size = g := ⟨_, rfl⟩
            have hge0 : wc.heap.size ≤ ga0 := by rw [← hga0]; exact hHeld0.size
            have HA0 : Hid (Row (w21.alloc (.cells #[.bool false, .bool false, .bool false, .bool false] 27)) ga0 27 #[.bool false, .bool false, .bool false, .bool false]) := row_new _ _ hga0 _ _
            rw [hga0]
            generalize w21.alloc (.cells #[.bool false, .bool false, .bool false, .bool false] 27) = w22 at hHeld HA0 ⊢
            clear hga0 hHeld0
            (try simp only [List.getElem_toArray, List.getElem_cons_succ, List.getElem_cons_zero, Act.put, List.setIfInBounds_toArray, List.set_cons_zero, List.set_cons_succ])
            refine wpAnyH_ready (rs := [19]) (by kernel_rfl) (by simp) ?_
            refine (AllReadyH.cons (o := _) rfl (fun K hK => ?_) AllReadyH.nil)
            go_simp
            have hHeld0 := hHeld
            refine hK.out _ _ (hHeld.alloc hHeld.size _) (fun hHeld => ?_)
            clear hK K
            obtain ⟨ga1, hga1⟩ : ∃ g, w22.heap.size = g := ⟨_, rfl⟩
            have hge1 : wc.heap.size ≤ ga1 := by rw [← hga1]; exact hHeld0.size
            have hne01 : ga0 ≠ ga1 := by have := HA0.out.lt; omega
            have HA0 := Lib.hid (Row.alloc HA0.out (.cells #[.bool false, .bool false, .bool false, .bool false] 27))
            have HA1 : Hid (Row (w22.alloc (.cells #[.bool false, .bool false, .bool false, .bool false] 27)) ga1 27 #[.bool false, .bool false, .bool false, .bool false]) := row_new _ _ hga1 _ _
            rw [hga1]
            generalize w22.alloc (.cells #[.bool false, .bool false, .bool false, .bool false] 27) = w23 at hHeld HA0 HA1 ⊢
            clear hga1 hHeld0
            (try simp only [List.getElem_toArray, List.getElem_cons_succ, List.getElem_cons_zero, Act.put, List.setIfInBounds_toArray, List.set_cons_zero, List.set_cons_succ])
            refine wpAnyH_ready (rs := [20]) (by kernel_rfl) (by simp) ?_
            refine (AllReadyH.cons (o := _) rfl (fun K hK => ?_) AllReadyH.nil)
            have a0 : w23.cell? ⟨ga0, 0, none⟩ = some (.bool false) := cell_of_row _ _ _ _ _ _ HA0.out
            have a1 : w23.cell? ⟨ga0, 1, none⟩ = some (.bool false) := cell_of_row _ _ _ _ _ _ HA0.out
            have a2 : w23.cell? ⟨ga0, 2, none⟩ = some (.bool false) := cell_of_row _ _ _ _ _ _ HA0.out
            have a3 : w23.cell? ⟨ga0, 3, none⟩ = some (.bool false) := cell_of_row _ _ _ _ _ _ HA0.out
            have af := fun i => HA0.out.free i
            go_simp
            refine hK.out _ _ (below_sets4 hHeld hge0 _ _ _ _) (fun hHeld => ?_)
            clear hK K a0 a1 a2 a3 af
            have HA1 := Lib.hid (row_far4 HA1.out hne01.symm (.bool p0) (.bool p1) (.bool p2) (.bool p3))
            have HA0 := Lib.hid (row_set4 HA0.out (.bool p0) (.bool p1) (.bool p2) (.bool p3))
            generalize (((w23.setCell _ _).setCell _ _).setCell _ _).setCell _ _ = w24 at hHeld HA0 HA1 ⊢
            (try simp only [List.getElem_toArray, List.getElem_cons_succ, List.getElem_cons_zero, Act.put, List.setIfInBounds_toArray, List.set_cons_zero, List.set_cons_succ])
            refine wpAnyH_ready (rs := [21]) (by kernel_rfl) (by simp) ?_
            refine (AllReadyH.cons (o := _) rfl (fun K hK => ?_) AllReadyH.nil)
            have a0 : w24.cell? ⟨ga1, 0, none⟩ = some (.bool false) := cell_of_row _ _ _ _ _ _ HA1.out
            have a1 : w24.cell? ⟨ga1, 1, none⟩ = some (.bool false) := cell_of_row _ _ _ _ _ _ HA1.out
            have a2 : w24.cell? ⟨ga1, 2, none⟩ = some (.bool false) := cell_of_row _ _ _ _ _ _ HA1.out
            have a3 : w24.cell? ⟨ga1, 3, none⟩ = some (.bool false) := cell_of_row _ _ _ _ _ _ HA1.out
            have af := fun i => HA1.out.free i
            go_simp
            refine hK.out _ _ (below_sets4 hHeld hge1 _ _ _ _) (fun hHeld => ?_)
            clear hK K a0 a1 a2 a3 af
            have HA0 := Lib.hid (row_far4 HA0.out hne01 (.bool p0) (.bool p1) (.bool p2) (.bool p3))
            have HA1 := Lib.hid (row_set4 HA1.out (.bool p0) (.bool p1) (.bool p2) (.bool p3))
            generalize (((w24.setCell _ _).setCell _ _).setCell _ _).setCell _ _ = w25 at hHeld HA0 HA1 ⊢
            (try simp only [List.getElem_toArray, List.getElem_cons_succ, List.getElem_cons_zero, Act.put, List.setIfInBounds_toArray, List.set_cons_zero, List.set_cons_succ])
            refine wpAnyH_done (by kernel_rfl) ?_ _
            have HBB := Lib.hid (HB.out.trans (hHeld.mono HB.out.size))
            have HR2 := Lib.hid (HR.out.below hHeld HR.out.lt)
            have H12 := Lib.hid (H1.out.below hHeld H1.out.lt)
            have H22 := Lib.hid (H2.out.below hHeld H2.out.lt)
            clear hHeld
            go_wp2_with fail
            go_meet
            case rel => exact ⟨ga0, ga1, rfl, rfl, HA0.out, HA1.out, H12.out, H22.out, HR2.out, HBB.out⟩
          · go_simp
            have hHeld0 := hHeld
            refine hK.out _ _ (hHeld.alloc hHeld.size _) (fun hHeld => ?_)
            clear hK K
            obtain ⟨ga1, hga1⟩ : ∃ g, w21.heap.size = g := ⟨_, rfl⟩
            have hge1 : wc.heap.size ≤ ga1 := by rw [← hga1]; exact hHeld0.size
            have HA1 : Hid (Row (w21.alloc (.cells #[.bool false, .bool false, .bool false, .bool false] 27)) ga1 27 #[.bool false, .bool false, .bool false, .bool false]) := row_new _ _ hga1 _ _
            rw [hga1]
            generalize w21.alloc (.cells #[.bool false, .bool false, .bool false, .bool false] 27) = w26 at hHeld HA1 ⊢
            clear hga1 hHeld0
            (try simp only [List.getElem_toArray, List.getElem_cons_succ, List.getElem_cons_zero, Act.put, List.setIfInBounds_toArray, List.set_cons_zero, List.set_cons_succ])
            refine wpAnyH_ready (rs := [18]) (by kernel_rfl) (by simp) ?_
            refine (AllReadyH.cons (o := _) rfl (fun K hK => ?_) AllReadyH.nil)
            go_simp
            have hHeld0 := hHeld
            refine hK.out _ _ (hHeld.alloc hHeld.size _) (fun hHeld => ?_)
            clear hK K
            obtain ⟨ga0, hga0⟩ : ∃ g, w26.heap.size = g := ⟨_, rfl⟩
            have hge0 : wc.heap.size ≤ ga0 := by rw [← hga0]; exact hHeld0.size
            have hne10 : ga1 ≠ ga0 := by have := HA1.out.lt; omega
            have HA1 := Lib.hid (Row.alloc HA1.out (.cells #[.bool false, .bool false, .bool false, .bool false] 27))
            have HA0 : Hid (Row (w26.alloc (.cells #[.bool false, .bool false, .bool false, .bool false] 27)) ga0 27 #[.bool false, .bool false, .bool false, .bool false]) := row_new _ _ hga0 _ _
            rw [hga0]
            generalize w26.alloc (.cells #[.bool false, .bool false, .bool false, .bool false] 27) = w27 at hHeld HA1 HA0 ⊢
            clear hga0 hHeld0
            (try simp only [List.getElem_toArray, List.getElem_cons_succ, List.getElem_cons_zero, Act.put, List.setIfInBounds_toArray, List.set_cons_zero, List.set_cons_succ])
            refine wpAnyH_ready (rs := [20]) (by kernel_rfl) (by simp) ?_
            refine (AllReadyH.cons (o := _) rfl (fun K hK => ?_) AllReadyH.nil)
            have a0 : w27.cell? ⟨ga0, 0, none⟩ = some (.bool false) := cell_of_row _ _ _ _ _ _ HA0.out
            have a1 : w27.cell? ⟨ga0, 1, none⟩ = some (.bool false) := cell_of_row _ _ _ _ _ _ HA0.out
            have a2 : w27.cell? ⟨ga0, 2, none⟩ = some (.bool false) := cell_of_row _ _ _ _ _ _ HA0.out
            have a3 : w27.cell? ⟨ga0, 3, none⟩ = some (.bool false) := cell_of_row _ _ _ _ _ _ HA0.out
            have af := fun i => HA0.out.free i
            go_simp
            refine hK.out _ _ (below_sets4 hHeld hge0 _ _ _ _) (fun hHeld => ?_)
            clear hK K a0 a1 a2 a3 af
            have HA1 := Lib.hid (row_far4 HA1.out hne10 (.bool p0) (.bool p1) (.bool p2) (.bool p3))
            have HA0 := Lib.hid (row_set4 HA0.out (.bool p0) (.bool p1) (.bool p2) (.bool p3))
            generalize (((w27.setCell _ _).setCell _ _).setCell _ _).setCell _ _ = w28 at hHeld HA1 HA0 ⊢
            (try simp only [List.getElem_toArray, List.getElem_cons_succ, List.getElem_cons_zero, Act.put, List.setIfInBounds_toArray, List.set_cons_zero, List.set_cons_succ])
            refine wpAnyH_ready (rs := [21]) (by kernel_rfl) (by simp) ?_
            refine (AllReadyH.cons (o := _) rfl (fun K hK => ?_) AllReadyH.nil)
            have a0 : w28.cell? ⟨ga1, 0, none⟩ = some (.bool false) := cell_of_row _ _ _ _ _ _ HA1.out
            have a1 : w28.cell? ⟨ga1, 1, none⟩ = some (.bool false) := cell_of_row _ _ _ _ _ _ HA1.out
            have a2 : w28.cell? ⟨ga1, 2, none⟩ = some (.bool false) := cell_of_row _ _ _ _ _ _ HA1.out
            have a3 : w28.cell? ⟨ga1, 3, none⟩ = some (.bool false) := cell_of_row _ _ _ _ _ _ HA1.out
            have af := fun i => HA1.out.free i
            go_simp
            refine hK.out _ _ (below_sets4 hHeld hge1 _ _ _ _) (fun hHeld => ?_)
            clear hK K a0 a1 a2 a3 af
            have HA0 := Lib.hid (row_far4 HA0.out hne10.symm (.bool p0) (.bool p1) (.bool p2) (.bool p3))
            have HA1 := Lib.hid (row_set4 HA1.out (.bool p0) (.bool p1) (.bool p2) (.bool p3))
            generalize (((w28.setCell _ _).setCell _ _).setCell _ _).setCell _ _ = w29 at hHeld HA1 HA0 ⊢
            (try simp only [List.getElem_toArray, List.getElem_cons_succ, List.getElem_cons_zero, Act.put, List.setIfInBounds_toArray, List.set_cons_zero, List.set_cons_succ])
            refine wpAnyH_done (by kernel_rfl) ?_ _
            have HBB := Lib.hid (HB.out.trans (hHeld.mono HB.out.size))
            have HR2 := Lib.hid (HR.out.below hHeld HR.out.lt)
            have H12 := Lib.hid (H1.out.below hHeld H1.out.lt)
            have H22 := Lib.hid (H2.out.below hHeld H2.out.lt)
            clear hHeld
            go_wp2_with fail
            go_meet
            case rel => exact ⟨ga0, ga1, rfl, rfl, HA0.out, HA1.out, H12.out, H22.out, HR2.out, HBB.out⟩
        · go_simp
          have hHeld0 := hHeld
          refine hK.out _ _ (hHeld.alloc hHeld.size _) (fun hHeld => ?_)
          clear hK K
          obtain ⟨ga0, hga0⟩ : ∃ g, w20.heap.size = g := ⟨_, rfl⟩
          have hge0 : wc.heap.size ≤ ga0 := by rw [← hga0]; exact hHeld0.size
          have HA0 : Hid (Row (w20.alloc (.cells #[.bool false, .bool false, .bool false, .bool false] 27)) ga0 27 #[.bool false, .bool false, .bool false, .bool false]) := row_new _ _ hga0 _ _
          rw [hga0]
          generalize w20.alloc (.cells #[.bool false, .bool false, .bool false, .bool false] 27) = w30 at hHeld HA0 ⊢
          clear hga0 hHeld0
          (try simp only [List.getElem_toArray, List.getElem_cons_succ, List.getElem_cons_zero, Act.put, List.setIfInBounds_toArray, List.set_cons_zero, List.set_cons_succ])
          refine wpAnyH_ready (rs := [17, 19]) (by kernel_rfl) (by simp) ?_
          refine (AllReadyH.cons (o := _) rfl (fun K hK => ?_) (AllReadyH.cons (o := _) rfl (fun K hK => ?_) AllReadyH.nil))
          · clear e1 e2 e3 e4
            go_simp
            refine (subset_in k G B T _ hk (by omega) (by omega) (HS.out.below hHeld HS.out.lt)).mono ?_
            rintro e w31 ⟨rfl, hb⟩
            rw [HPG.out]
            go_wp2_with fail
            have hN := hHeld.trans (hb.mono hHeld.size)
            have HA0 := Lib.hid (Row.box HA0.out hb)
            clear hHeld hb
            refine hK.out _ _ hN (fun hHeld => ?_)
            clear hN hK K
            (try simp only [List.getElem_toArray, List.getElem_cons_succ, List.getElem_cons_zero, Act.put, List.setIfInBounds_toArray, List.set_cons_zero, List.set_cons_succ])
            refine wpAnyH_ready (rs := [19]) (by kernel_rfl) (by simp) ?_
            refine (AllReadyH.cons (o := _) rfl (fun K hK => ?_) AllReadyH.nil)
            go_simp
            have hHeld0 := hHeld
            refine hK.out _ _ (hHeld.alloc hHeld.size _) (fun hHeld => ?_)
            clear hK K
            obtain ⟨ga1, hga1⟩ : ∃ g, w31.heap.size = g := ⟨_, rfl⟩
            have hge1 : wc.heap.size ≤ ga1 := by rw [← hga1]; exact hHeld0.size
            have hne01 : ga0 ≠ ga1 := by have := HA0.out.lt; omega
            have HA0 := Lib.hid (Row.alloc HA0.out (.cells #[.bool false, .bool false, .bool false, .bool false] 27))
            have HA1 : Hid (Row (w31.alloc (.cells #[.bool false, .bool false, .bool false, .bool false] 27)) ga1 27 #[.bool false, .bool false, .bool false, .bool false]) := row_new _ _ hga1 _ _
            rw [hga1]
            generalize w31.alloc (.cells #[.bool false, .bool false, .bool false, .bool false] 27) = w32 at hHeld HA0 HA1 ⊢
            clear hga1 hHeld0
            (try simp only [List.getElem_toArray, List.getElem_cons_succ, List.getElem_cons_zero, Act.put, List.setIfInBounds_toArray, List.set_cons_zero, List.set_cons_succ])
            refine wpAnyH_ready (rs := [20]) (by kernel_rfl) (by simp) ?_
            refine (AllReadyH.cons (o := _) rfl (fun K hK => ?_) AllReadyH.nil)
            have a0 : w32.cell? ⟨ga0, 0, none⟩ = some (.bool false) := cell_of_row _ _ _ _ _ _ HA0.out
            have a1 : w32.cell? ⟨ga0, 1, none⟩ = some (.bool false) := cell_of_row _ _ _ _ _ _ HA0.out
            have a2 : w32.cell? ⟨ga0, 2, none⟩ = some (.bool false) := cell_of_row _ _ _ _ _ _ HA0.out
            have a3 : w32.cell? ⟨ga0, 3, none⟩ = some (.bool false) := cell_of_row _ _ _ _ _ _ HA0.out
            have af := fun i => HA0.out.free i
            go_simp
            refine hK.out _ _ (below_sets4 hHeld hge0 _ _ _ _) (fun hHeld => ?_)
            clear hK K a0 a1 a2 a3 af
            have HA1 := Lib.hid (row_far4 HA1.out hne01.symm (.bool p0) (.bool p1) (.bool p2) (.bool p3))
            have HA0 := Lib.hid (row_set4 HA0.out (.bool p0) (.bool p1) (.bool p2) (.bool p3))
            generalize (((w32.setCell _ _).setCell _ _).setCell _ _).setCell _ _ = w33 at hHeld HA0 HA1 ⊢
            (try simp only [List.getElem_toArray, List.getElem_cons_succ, List.getElem_cons_zero, Act.put, List.setIfInBounds_toArray, List.set_cons_zero, List.set_cons_succ])
            refine wpAnyH_ready (rs := [21]) (by kernel_rfl) (by simp) ?_
            refine (AllReadyH.cons (o := _) rfl (fun K hK => ?_) AllReadyH.nil)
            have a0 : w33.cell? ⟨ga1, 0, none⟩ = some (.bool false) := cell_of_row _ _ _ _ _ _ HA1.out
            have a1 : w33.cell? ⟨ga1, 1, none⟩ = some (.bool false) := cell_of_row _ _ _ _ _ _ HA1.out
            have a2 : w33.cell? ⟨ga1, 2, none⟩ = some (.bool false) := cell_of_row _ _ _ _ _ _ HA1.out
            have a3 : w33.cell? ⟨ga1, 3, none⟩ = some (.bool false) := cell_of_row _ _ _ _ _ _ HA1.out
            have af := fun i => HA1.out.free i
            go_simp
            refine hK.out _ _ (below_sets4 hHeld hge1 _ _ _ _) (fun hHeld => ?_)
            clear hK K a0 a1 a2 a3 af
            have HA0 := Lib.hid (row_far4 HA0.out hne01 (.bool p0) (.bool p1) (.bool p2) (.bool p3))
            have HA1 := Lib.hid (row_set4 HA1.out (.bool p0) (.bool p1) (.bool p2) (.bool p3))
            generalize (((w33.setCell _ _).setCell _ _).setCell _ _).setCell _ _ = w34 at hHeld HA0 HA1 ⊢
            (try simp only [List.getElem_toArray, List.getElem_cons_succ, List.getElem_cons_zero, Act.put, List.setIfInBounds_toArray, List.set_cons_zero, List.set_cons_succ])
            refine wpAnyH_done (by kernel_rfl) ?_ _
            have HBB := Lib.hid (HB.out.trans (hHeld.mono HB.out.size))
            have HR2 := Lib.hid (HR.out.below hHeld HR.out.lt)
            have H12 := Lib.hid (H1.out.below hHeld H1.out.lt)
            have H22 := Lib.hid (H2.out.below hHeld H2.out.lt)
            clear hHeld
            go_wp2_with fail
            go_meet
            case rel => exact ⟨ga0, ga1, rfl, rfl, HA0.out, HA1.out, H12.out, H22.out, HR2.out, HBB.out⟩
          · go_simp
            have hHeld0 := hHeld
            refine hK.out _ _ (hHeld.alloc hHeld.size _) (fun hHeld => ?_)
            clear hK K
            obtain ⟨ga1, hga1⟩ : ∃ g, w30.heap.size = g := ⟨_, rfl⟩
            have hge1 : wc.heap.size ≤ ga1 := by rw [← hga1]; exact hHeld0.size
            have hne01 : ga0 ≠ ga1 := by have := HA0.out.lt; omega
            have HA0 := Lib.hid (Row.alloc HA0.out (.cells #[.bool false, .bool false, .bool false, .bool false] 27))
            have HA1 : Hid (Row (w30.alloc (.cells #[.bool false, .bool false, .bool false, .bool false] 27)) ga1 27 #[.bool false, .bool false, .bool false, .bool false]) := row_new _ _ hga1 _ _
            rw [hga1]
            generalize w30.alloc (.cells #[.bool false, .bool false, .bool false, .bool false] 27) = w35 at hHeld HA0 HA1 ⊢
            clear hga1 hHeld0
            (try simp only [List.getElem_toArray, List.getElem_cons_succ, List.getElem_cons_zero, Act.put, List.setIfInBounds_toArray, List.set_cons_zero, List.set_cons_succ])
            refine wpAnyH_ready (rs := [17]) (by kernel_rfl) (by simp) ?_
            refine (AllReadyH.cons (o := _) rfl (fun K hK => ?_) AllReadyH.nil)
            clear e1 e2 e3 e4
            go_simp
            refine (subset_in k G B T _ hk (by omega) (by omega) (HS.out.below hHeld HS.out.lt)).mono ?_
            rintro e w36 ⟨rfl, hb⟩
            rw [HPG.out]
            go_wp2_with fail
            have hN := hHeld.trans (hb.mono hHeld.size)
            have HA0 := Lib.hid (Row.box HA0.out hb)
            have HA1 := Lib.hid (Row.box HA1.out hb)
            clear hHeld hb
            refine hK.out _ _ hN (fun hHeld => ?_)
            clear hN hK K
            (try simp only [List.getElem_toArray, List.getElem_cons_succ, List.getElem_cons_zero, Act.put, List.setIfInBounds_toArray, List.set_cons_zero, List.set_cons_succ])
            refine wpAnyH_ready (rs := [20]) (by kernel_rfl) (by simp) ?_
            refine (AllReadyH.cons (o := _) rfl (fun K hK => ?_) AllReadyH.nil)
            have a0 : w36.cell? ⟨ga0, 0, none⟩ = some (.bool false) := cell_of_row _ _ _ _ _ _ HA0.out
            have a1 : w36.cell? ⟨ga0, 1, none⟩ = some (.bool false) := cell_of_row _ _ _ _ _ _ HA0.out
            have a2 : w36.cell? ⟨ga0, 2, none⟩ = some (.bool false) := cell_of_row _ _ _ _ _ _ HA0.out
            have a3 : w36.cell? ⟨ga0, 3, none⟩ = some (.bool false) := cell_of_row _ _ _ _ _ _ HA0.out
            have af := fun i => HA0.out.free i
            go_simp
            refine hK.out _ _ (below_sets4 hHeld hge0 _ _ _ _) (fun hHeld => ?_)
            clear hK K a0 a1 a2 a3 af
            have HA1 := Lib.hid (row_far4 HA1.out hne01.symm (.bool p0) (.bool p1) (.bool p2) (.bool p3))
            have HA0 := Lib.hid (row_set4 HA0.out (.bool p0) (.bool p1) (.bool p2) (.bool p3))
            generalize (((w36.setCell _ _).setCell _ _).setCell _ _).setCell _ _ = w37 at hHeld HA0 HA1 ⊢
            (try simp only [List.getElem_toArray, List.getElem_cons_succ, List.getElem_cons_zero, Act.put, List.setIfInBounds_toArray, List.set_cons_zero, List.set_cons_succ])
            refine wpAnyH_ready (rs := [21]) (by kernel_rfl) (by simp) ?_
            refine (AllReadyH.cons (o := _) rfl (fun K hK => ?_) AllReadyH.nil)
            have a0 : w37.cell? ⟨ga1, 0, none⟩ = some (.bool false) := cell_of_row _ _ _ _ _ _ HA1.out
            have a1 : w37.cell? ⟨ga1, 1, none⟩ = some (.bool false) := cell_of_row _ _ _ _ _ _ HA1.out
            have a2 : w37.cell? ⟨ga1, 2, none⟩ = some (.bool false) := cell_of_row _ _ _ _ _ _ HA1.out
            have a3 : w37.cell? ⟨ga1, 3, none⟩ = some (.bool false) := cell_of_row _ _ _ _ _ _ HA1.out
            have af := fun i => HA1.out.free i
            go_simp
            refine hK.out _ _ (below_sets4 hHeld hge1 _ _ _ _) (fun hHeld => ?_)
            clear hK K a0 a1 a2 a3 af
            have HA0 := Lib.hid (row_far4 HA0.out hne01 (.bool p0) (.bool p1) (.bool p2) (.bool p3))
            have HA1 := Lib.hid (row_set4 HA1.out (.bool p0) (.bool p1) (.bool p2) (.bool p3))
            generalize (((w37.setCell _ _).setCell _ _).setCell _ _).setCell _ _ = w38 at hHeld HA0 HA1 ⊢
            (try simp only [List.getElem_toArray, List.getElem_cons_succ, List.getElem_cons_zero, Act.put, List.setIfInBounds_toArray, List.set_cons_zero, List.set_cons_succ])
            refine wpAnyH_done (by kernel_rfl) ?_ _
            have HBB := Lib.hid (HB.out.trans (hHeld.mono HB.out.size))
            have HR2 := Lib.hid (HR.out.below hHeld HR.out.lt)
            have H12 := Lib.hid (H1.out.below hHeld H1.out.lt)
            have H22 := Lib.hid (H2.out.below hHeld H2.out.lt)
            clear hHeld
            go_wp2_with fail
            go_meet
            case rel => exact ⟨ga0, ga1, rfl, rfl, HA0.out, HA1.out, H12.out, H22.out, HR2.out, HBB.out⟩
        · go_simp
          have hHeld0 := hHeld
          refine hK.out _ _ (hHeld.alloc hHeld.size _) (fun hHeld => ?_)
          clear hK K
          obtain ⟨ga1, hga1⟩ : ∃ g, w20.heap.size = g := ⟨_, rfl⟩
          have hge1 : wc.heap.size ≤ ga1 := by rw [← hga1]; exact hHeld0.size
          have HA1 : Hid (Row (w20.alloc (.cells #[.bool false, .bool false, .bool false, .bool false] 27)) ga1 27 #[.bool false, .bool false, .bool false, .bool false]) := row_new _ _ hga1 _ _
          rw [hga1]
          generalize w20.alloc (.cells #[.bool false, .bool false, .bool false, .bool false] 27) = w39 at hHeld HA1 ⊢
          clear hga1 hHeld0
          (try simp only [List.getElem_toArray, List.getElem_cons_succ, List.getElem_cons_zero, Act.put, List.setIfInBounds_toArray, List.set_cons_zero, List.set_cons_succ])
          refine wpAnyH_ready (rs := [17, 18]) (by kernel_rfl) (by simp) ?_
          refine (AllReadyH.cons (o := _) rfl (fun K hK => ?_) (AllReadyH.cons (o := _) rfl (fun K hK => ?_) AllReadyH.nil))
          · clear e1 e2 e3 e4
            go_simp
            refine (subset_in k G B T _ hk (by omega) (by omega) (HS.out.below hHeld HS.out.lt)).mono ?_
            rintro e w40 ⟨rfl, hb⟩
            rw [HPG.out]
            go_wp2_with fail
            have hN := hHeld.trans (hb.mono hHeld.size)
            have HA1 := Lib.hid (Row.box HA1.out hb)
            clear hHeld hb
            refine hK.out _ _ hN (fun hHeld => ?_)
            clear hN hK K
            (try simp only [List.getElem_toArray, List.getElem_cons_succ, List.getElem_cons_zero, Act.put, List.setIfInBounds_toArray, List.set_cons_zero, List.set_cons_succ])
            refine wpAnyH_ready (rs := [18]) (by kernel_rfl) (by simp) ?_
            refine (AllReadyH.cons (o := _) rfl (fun K hK => ?_) AllReadyH.nil)
            go_simp
            have hHeld0 := hHeld
            refine hK.out _ _ (hHeld.alloc hHeld.size _) (fun hHeld => ?_)
            clear hK K
            obtain ⟨ga0, hga0⟩ : ∃ g, w40.heap.size = g := ⟨_, rfl⟩
            have hge0 : wc.heap.size ≤ ga0 := by rw [← hga0]; exact hHeld0.size
            have hne10 : ga1 ≠ ga0 := by have := HA1.out.lt; omega
            have HA1 := Lib.hid (Row.alloc HA1.out (.cells #[.bool false, .bool false, .bool false, .bool false] 27))
            have HA0 : Hid (Row (w40.alloc (.cells #[.bool false, .bool false, .bool false, .bool false] 27)) ga0 27 #[.bool false, .bool false, .bool false, .bool false]) := row_new _ _ hga0 _ _
            rw [hga0]
            generalize w40.alloc (.cells #[.bool false, .bool false, .bool false, .bool false] 27) = w41 at hHeld HA1 HA0 ⊢
            clear hga0 hHeld0
            (try simp only [List.getElem_toArray, List.getElem_cons_succ, List.getElem_cons_zero, Act.put, List.setIfInBounds_toArray, List.set_cons_zero, List.set_cons_succ])
            refine wpAnyH_ready (rs := [20]) (by kernel_rfl) (by simp) ?_
            refine (AllReadyH.cons (o := _) rfl (fun K hK => ?_) AllReadyH.nil)
            have a0 : w41.cell? ⟨ga0, 0, none⟩ = some (.bool false) := cell_of_row _ _ _ _ _ _ HA0.out
            have a1 : w41.cell? ⟨ga0, 1, none⟩ = some (.bool false) := cell_of_row _ _ _ _ _ _ HA0.out
            have a2 : w41.cell? ⟨ga0, 2, none⟩ = some (.bool false) := cell_of_row _ _ _ _ _ _ HA0.out
            have a3 : w41.cell? ⟨ga0, 3, none⟩ = some (.bool false) := cell_of_row _ _ _ _ _ _ HA0.out
            have af := fun i => HA0.out.free i
            go_simp
            refine hK.out _ _ (below_sets4 hHeld hge0 _ _ _ _) (fun hHeld => ?_)
            clear hK K a0 a1 a2 a3 af
            have HA1 := Lib.hid (row_far4 HA1.out hne10 (.bool p0) (.bool p1) (.bool p2) (.bool p3))
            have HA0 := Lib.hid (row_set4 HA0.out (.bool p0) (.bool p1) (.bool p2) (.bool p3))
            generalize (((w41.setCell _ _).setCell _ _).setCell _ _).setCell _ _ = w42 at hHeld HA1 HA0 ⊢
            (try simp only [List.getElem_toArray, List.getElem_cons_succ, List.getElem_cons_zero, Act.put, List.setIfInBounds_toArray, List.set_cons_zero, List.set_cons_succ])
            refine wpAnyH_ready (rs := [21]) (by kernel_rfl) (by simp) ?_
            refine (AllReadyH.cons (o := _) rfl (fun K hK => ?_) AllReadyH.nil)
            have a0 : w42.cell? ⟨ga1, 0, none⟩ = some (.bool false) := cell_of_row _ _ _ _ _ _ HA1.out
            have a1 : w42.cell? ⟨ga1, 1, none⟩ = some (.bool false) := cell_of_row _ _ _ _ _ _ HA1.out
            have a2 : w42.cell? ⟨ga1, 2, none⟩ = some (.bool false) := cell_of_row _ _ _ _ _ _ HA1.out
            have a3 : w42.cell? ⟨ga1, 3, none⟩ = some (.bool false) := cell_of_row _ _ _ _ _ _ HA1.out
            have af := fun i => HA1.out.free i
            go_simp
            refine hK.out _ _ (below_sets4 hHeld hge1 _ _ _ _) (fun hHeld => ?_)
            clear hK K a0 a1 a2 a3 af
            have HA0 := Lib.hid (row_far4 HA0.out hne10.symm (.bool p0) (.bool p1) (.bool p2) (.bool p3))
            have HA1 := Lib.hid (row_set4 HA1.out (.bool p0) (.bool p1) (.bool p2) (.bool p3))
            generalize (((w42.setCell _ _).setCell _ _).setCell _ _).setCell _ _ = w43 at hHeld HA1 HA0 ⊢
            (try simp only [List.getElem_toArray, List.getElem_cons_succ, List.getElem_cons_zero, Act.put, List.setIfInBounds_toArray, List.set_cons_zero, List.set_cons_succ])
            refine wpAnyH_done (by kernel_rfl) ?_ _
            have HBB := Lib.hid (HB.out.trans (hHeld.mono HB.out.size))
            have HR2 := Lib.hid (HR.out.below hHeld HR.out.lt)
            have H12 := Lib.hid (H1.out.below hHeld H1.out.lt)
            have H22 := Lib.hid (H2.out.below hHeld H2.out.lt)
            clear hHeld
            go_wp2_with fail
            go_meet
            case rel => exact ⟨ga0, ga1, rfl, rfl, HA0.out, HA1.out, H12.out, H22.out, HR2.out, HBB.out⟩
          · go_simp
            have hHeld0 := hHeld
            refine hK.out _ _ (hHeld.alloc hHeld.size _) (fun hHeld => ?_)
            clear hK K
            obtain ⟨ga0, hga0⟩ : ∃ g, w39.heap.size = g := ⟨_, rfl⟩
            have hge0 : wc.heap.size ≤ ga0 := by rw [← hga0]; exact hHeld0.size
            have hne10 : ga1 ≠ ga0 := by have := HA1.out.lt; omega
            have HA1 := Lib.hid (Row.alloc HA1.out (.cells #[.bool false, .bool false, .bool false, .bool false] 27))
            have HA0 : Hid (Row (w39.alloc (.cells #[.bool false, .bool false, .bool false, .bool false] 27)) ga0 27 #[.bool false, .bool false, .bool false, .bool false]) := row_new _ _ hga0 _ _
            rw [hga0]
            generalize w39.alloc (.cells #[.bool false, .bool false, .bool false, .bool false] 27) = w44 at hHeld HA1 HA0 ⊢
            clear hga0 hHeld0
            (try simp only [List.getElem_toArray, List.getElem_cons_succ, List.getElem_cons_zero, Act.put, List.setIfInBounds_toArray, List.set_cons_zero, List.set_cons_succ])
            refine wpAnyH_ready (rs := [17]) (by kernel_rfl) (by simp) ?_
            refine (AllReadyH.cons (o := _) rfl (fun K hK => ?_) AllReadyH.nil)
            clear e1 e2 e3 e4
            go_simp
            refine (subset_in k G B T _ hk (by omega) (by omega) (HS.out.below hHeld HS.out.lt)).mono ?_
            rintro e w45 ⟨rfl, hb⟩
            rw [HPG.out]
            go_wp2_with fail
            have hN := hHeld.trans (hb.mono hHeld.size)
            have HA1 := Lib.hid (Row.box HA1.out hb)
            have HA0 := Lib.hid (Row.box HA0.out hb)
            clear hHeld hb
            refine hK.out _ _ hN (fun hHeld => ?_)
            clear hN hK K
            (try simp only [List.getElem_toArray, List.getElem_cons_succ, List.getElem_cons_zero, Act.put, List.setIfInBounds_toArray, List.set_cons_zero, List.set_cons_succ])
            refine wpAnyH_ready (rs := [20]) (by kernel_rfl) (by simp) ?_
            refine (AllReadyH.cons (o := _) rfl (fun K hK => ?_) AllReadyH.nil)
            have a0 : w45.cell? ⟨ga0, 0, none⟩ = some (.bool false) := cell_of_row _ _ _ _ _ _ HA0.out
            have a1 : w45.cell? ⟨ga0, 1, none⟩ = some (.bool false) := cell_of_row _ _ _ _ _ _ HA0.out
            have a2 : w45.cell? ⟨ga0, 2, none⟩ = some (.bool false) := cell_of_row _ _ _ _ _ _ HA0.out
            have a3 : w45.cell? ⟨ga0, 3, none⟩ = some (.bool false) := cell_of_row _ _ _ _ _ _ HA0.out
            have af := fun i => HA0.out.free i
            go_simp
            refine hK.out _ _ (below_sets4 hHeld hge0 _ _ _ _) (fun hHeld => ?_)
            clear hK K a0 a1 a2 a3 af
            have HA1 := Lib.hid (row_far4 HA1.out hne10 (.bool p0) (.bool p1) (.bool p2) (.bool p3))
            have HA0 := Lib.hid (row_set4 HA0.out (.bool p0) (.bool p1) (.bool p2) (.bool p3))
            generalize (((w45.setCell _ _).setCell _ _).setCell _ _).setCell _ _ = w46 at hHeld HA1 HA0 ⊢
            (try simp only [List.getElem_toArray, List.getElem_cons_succ, List.getElem_cons_zero, Act.put, List.setIfInBounds_toArray, List.set_cons_zero, List.set_cons_succ])
            refine wpAnyH_ready (rs := [21]) (by kernel_rfl) (by simp) ?_
            refine (AllReadyH.cons (o := _) rfl (fun K hK => ?_) AllReadyH.nil)
            have a0 : w46.cell? ⟨ga1, 0, none⟩ = some (.bool false) := cell_of_row _ _ _ _ _ _ HA1.out
            have a1 : w46.cell? ⟨ga1, 1, none⟩ = some (.bool false) := cell_of_row _ _ _ _ _ _ HA1.out
            have a2 : w46.cell? ⟨ga1, 2, none⟩ = some (.bool false) := cell_of_row _ _ _ _ _ _ HA1.out
            have a3 : w46.cell? ⟨ga1, 3, none⟩ = some (.bool false) := cell_of_row _ _ _ _ _ _ HA1.out
            have af := fun i => HA1.out.free i
            go_simp
            refine hK.out _ _ (below_sets4 hHeld hge1 _ _ _ _) (fun hHeld => ?_)
            clear hK K a0 a1 a2 a3 af
            have HA0 := Lib.hid (row_far4 HA0.out hne10.symm (.bool p0) (.bool p1) (.bool p2) (.bool p3))
            have HA1 := Lib.hid (row_set4 HA1.out (.bool p0) (.bool p1) (.bool p2) (.bool p3))
            generalize (((w46.setCell _ _).setCell _ _).setCell _ _).setCell _ _ = w47 at hHeld HA1 HA0 ⊢
            (try simp only [List.getElem_toArray, List.getElem_cons_succ, List.getElem_cons_zero, Act.put, List.setIfInBounds_toArray, List.set_cons_zero, List.set_cons_succ])
            refine wpAnyH_done (by kernel_rfl) ?_ _
            have HBB := Lib.hid (HB.out.trans (hHeld.mono HB.out.size))
            have HR2 := Lib.hid (HR.out.below hHeld HR.out.lt)
            have H12 := Lib.hid (H1.out.below hHeld H1.out.lt)
            have H22 := Lib.hid (H2.out.below hHeld H2.out.lt)
            clear hHeld
            go_wp2_with fail
            go_meet
            case rel => exact ⟨ga0, ga1, rfl, rfl, HA0.out, HA1.out, H12.out, H22.out, HR2.out, HBB.out⟩
      · go_simp
        have hHeld0 := hHeld
        refine hK.out _ _ (hHeld.alloc hHeld.size _) (fun hHeld => ?_)
        clear hK K
        obtain ⟨ga0, hga0⟩ : ∃ g, w2.heap.size = g := ⟨_, rfl⟩
        have hge0 : wc.heap.size ≤ ga0 := by rw [← hga0]; exact hHeld0.size
        have HA0 : Hid (Row (w2.alloc (.cells #[.bool false, .bool false, .bool false, .bool false] 27)) ga0 27 #[.bool false, .bool false, .bool false, .bool false]) := row_new _ _ hga0 _ _
        rw [hga0]
        generalize w2.alloc (.cells #[.bool false, .bool false, .bool false, .bool false] 27) = w48 at hHeld HA0 ⊢
        clear hga0 hHeld0
        (try simp only [List.getElem_toArray, List.getElem_cons_succ, List.getElem_cons_zero, Act.put, List.setIfInBounds_toArray, List.set_cons_zero, List.set_cons_succ])
        refine wpAnyH_ready (rs := [8, 19]) (by kernel_rfl) (by simp) ?_
        refine (AllReadyH.cons (o := _) rfl (fun K hK => ?_) (AllReadyH.cons (o := _) rfl (fun K hK => ?_) AllReadyH.nil))
        · go_simp
          refine (subset_in k F B T _ hk (by omega) (by omega) (HS.out.below hHeld HS.out.lt)).mono ?_
          rintro e w49 ⟨rfl, hb⟩
          rw [HPF.out]
          go_wp2_with fail
          have hN := hHeld.trans (hb.mono hHeld.size)
          have HA0 := Lib.hid (Row.box HA0.out hb)
          clear hHeld hb
          refine hK.out _ _ hN (fun hHeld => ?_)
          clear hN hK K
          (try simp only [List.getElem_toArray, List.getElem_cons_succ, List.getElem_cons_zero, Act.put, List.setIfInBounds_toArray, List.set_cons_zero, List.set_cons_succ])
          refine wpAnyH_ready (rs := [17, 19]) (by kernel_rfl) (by simp) ?_
          refine (AllReadyH.cons (o := _) rfl (fun K hK => ?_) (AllReadyH.cons (o := _) rfl (fun K hK => ?_) AllReadyH.nil))
          · clear e1 e2 e3 e4
            go_simp
            refine (subset_in k G B T _ hk (by omega) (by omega) (HS.out.below hHeld HS.out.lt)).mono ?_
            rintro e w50 ⟨rfl, hb⟩
            rw [HPG.out]
            go_wp2_with fail
            have hN := hHeld.trans (hb.mono hHeld.size)
            have HA0 := Lib.hid (Row.box HA0.out hb)
            clear hHeld hb
            refine hK.out _ _ hN (fun hHeld => ?_)
            clear hN hK K
            (try simp only [List.getElem_toArray, List.getElem_cons_succ, List.getElem_cons_zero, Act.put, List.setIfInBounds_toArray, List.set_cons_zero, List.set_cons_succ])
            refine wpAnyH_ready (rs := [19]) (by kernel_rfl) (by simp) ?_
            refine (AllReadyH.cons (o := _) rfl (fun K hK => ?_) AllReadyH.nil)
            go_simp
            have hHeld0 := hHeld
            refine hK.out _ _ (hHeld.alloc hHeld.size _) (fun hHeld => ?_)
            clear hK K
            obtain ⟨ga1, hga1⟩ : ∃ g, w50.heap.size = g := ⟨_, rfl⟩
            have hge1 : wc.heap.size ≤ ga1 := by rw [← hga1]; exact hHeld0.size
            have hne01 : ga0 ≠ ga1 := by have := HA0.out.lt; omega
            have HA0 := Lib.hid (Row.alloc HA0.out (.cells #[.bool false, .bool false, .bool false, .bool false] 27))
            have HA1 : Hid (Row (w50.alloc (.cells #[.bool false, .bool false, .bool false, .bool false] 27)) ga1 27 #[.bool false, .bool false, .bool false, .bool false]) := row_new _ _ hga1 _ _
            rw [hga1]
            generalize w50.alloc (.cells #[.bool false, .bool false, .bool false, .bool false] 27) = w51 at hHeld HA0 HA1 ⊢
            clear hga1 hHeld0
            (try simp only [List.getElem_toArray, List.getElem_cons_succ, List.getElem_cons_zero, Act.put, List.setIfInBounds_toArray, List.set_cons_zero, List.set_cons_succ])
            refine wpAnyH_ready (rs := [20]) (by kernel_rfl) (by simp) ?_
            refine (AllReadyH.cons (o := _) rfl (fun K hK => ?_) AllReadyH.nil)
            have a0 : w51.cell? ⟨ga0, 0, none⟩ = some (.bool false) := cell_of_row _ _ _ _ _ _ HA0.out
            have a1 : w51.cell? ⟨ga0, 1, none⟩ = some (.bool false) := cell_of_row _ _ _ _ _ _ HA0.out
            have a2 : w51.cell? ⟨ga0, 2, none⟩ = some (.bool false) := cell_of_row _ _ _ _ _ _ HA0.out
            have a3 : w51.cell? ⟨ga0, 3, none⟩ = some (.bool false) := cell_of_row _ _ _ _ _ _ HA0.out
            have af := fun i => HA0.out.free i
            go_simp
            refine hK.out _ _ (below_sets4 hHeld hge0 _ _ _ _) (fun hHeld => ?_)
            clear hK K a0 a1 a2 a3 af
            have HA1 := Lib.hid (row_far4 HA1.out hne01.symm (.bool p0) (.bool p1) (.bool p2) (.bool p3))
            have HA0 := Lib.hid (row_set4 HA0.out (.bool p0) (.bool p1) (.bool p2) (.bool p3))
            generalize (((w51.setCell _ _).setCell _ _).setCell _ _).setCell _ _ = w52 at hHeld HA0 HA1 ⊢
            (try simp only [List.getElem_toArray, List.getElem_cons_succ, List.getElem_cons_zero, Act.put, List.setIfInBounds_toArray, List.set_cons_zero, List.set_cons_succ])
            refine wpAnyH_ready (rs := [21]) (by kernel_rfl) (by simp) ?_
            refine (AllReadyH.cons (o := _) rfl (fun K hK => ?_) AllReadyH.nil)
            have a0 : w52.cell? ⟨ga1, 0, none⟩ = some (.bool false) := cell_of_row _ _ _ _ _ _ HA1.out
            have a1 : w52.cell? ⟨ga1, 1, none⟩ = some (.bool false) := cell_of_row _ _ _ _ _ _ HA1.out
            have a2 : w52.cell? ⟨ga1, 2, none⟩ = some (.bool false) := cell_of_row _ _ _ _ _ _ HA1.out
            have a3 : w52.cell? ⟨ga1, 3, none⟩ = some (.bool false) := cell_of_row _ _ _ _ _ _ HA1.out
            have af := fun i => HA1.out.free i
            go_simp
            refine hK.out _ _ (below_sets4 hHeld hge1 _ _ _ _) (fun hHeld => ?_)
            clear hK K a0 a1 a2 a3 af
            have HA0 := Lib.hid (row_far4 HA0.out hne01 (.bool p0) (.bool p1) (.bool p2) (.bool p3))
            have HA1 := Lib.hid (row_set4 HA1.out (.bool p0) (.bool p1) (.bool p2) (.bool p3))
            generalize (((w52.setCell _ _).setCell _ _).setCell _ _).setCell _ _ = w53 at hHeld HA0 HA1 ⊢
            (try simp only [List.getElem_toArray, List.getElem_cons_succ, List.getElem_cons_zero, Act.put, List.setIfInBounds_toArray, List.set_cons_zero, List.set_cons_succ])
            refine wpAnyH_done (by kernel_rfl) ?_ _
            have HBB := Lib.hid (HB.out.trans (hHeld.mono HB.out.size))
            have HR2 := Lib.hid (HR.out.below hHeld HR.out.lt)
            have H12 := Lib.hid (H1.out.below hHeld H1.out.lt)
            have H22 := Lib.hid (H2.out.below hHeld H2.out.lt)
            clear hHeld
            go_wp2_with fail
            go_meet
            case rel => exact ⟨ga0, ga1, rfl, rfl, HA0.out, HA1.out, H12.out, H22.out, HR2.out, HBB.out⟩
          · go_simp
            have hHeld0 := hHeld
            refine hK.out _ _ (hHeld.alloc hHeld.size _) (fun hHeld => ?_)
            clear hK K
            obtain ⟨ga1, hga1⟩ : ∃ g, w49.heap.size = g := ⟨_, rfl⟩
            have hge1 : wc.heap.size ≤ ga1 := by rw [← hga1]; exact hHeld0.size
            have hne01 : ga0 ≠ ga1 := by have := HA0.out.lt; omega
            have HA0 := Lib.hid (Row.alloc HA0.out (.cells #[.bool false, .bool false, .bool false, .bool false] 27))
            have HA1 : Hid (Row (w49.alloc (.cells #[.bool false, .bool false, .bool false, .bool false] 27)) ga1 27 #[.bool false, .bool false, .bool false, .bool false]) := row_new _ _ hga1 _ _
            rw [hga1]
            generalize w49.alloc (.cells #[.bool false, .bool false, .bool false, .bool false] 27) = w54 at hHeld HA0 HA1 ⊢
            clear hga1 hHeld0
            (try simp only [List.getElem_toArray, List.getElem_cons_succ, List.getElem_cons_zero, Act.put, List.setIfInBounds_toArray, List.set_cons_zero, List.set_cons_succ])
            refine wpAnyH_ready (rs := [17]) (by kernel_rfl) (by simp) ?_
            refine (AllReadyH.cons (o := _) rfl (fun K hK => ?_) AllReadyH.nil)
            clear e1 e2 e3 e4
            go_simp
            refine (subset_in k G B T _ hk (by omega) (by omega) (HS.out.below hHeld HS.out.lt)).mono ?_
            rintro e w55 ⟨rfl, hb⟩
            rw [HPG.out]
            go_wp2_with fail
            have hN := hHeld.trans (hb.mono hHeld.size)
            have HA0 := Lib.hid (Row.box HA0.out hb)
            have HA1 := Lib.hid (Row.box HA1.out hb)
            clear hHeld hb
            refine hK.out _ _ hN (fun hHeld => ?_)
            clear hN hK K
            (try simp only [List.getElem_toArray, List.getElem_cons_succ, List.getElem_cons_zero, Act.put, List.setIfInBounds_toArray, List.set_cons_zero, List.set_cons_succ])
            refine wpAnyH_ready (rs := [20]) (by kernel_rfl) (by simp) ?_
            refine (AllReadyH.cons (o := _) rfl (fun K hK => ?_) AllReadyH.nil)
            have a0 : w55.cell? ⟨ga0, 0, none⟩ = some (.bool false) := cell_of_row _ _ _ _ _ _ HA0.out
            have a1 : w55.cell? ⟨ga0, 1, none⟩ = some (.bool false) := cell_of_row _ _ _ _ _ _ HA0.out
            have a2 : w55.cell? ⟨ga0, 2, none⟩ = some (.bool false) := cell_of_row _ _ _ _ _ _ HA0.out
            have a3 : w55.cell? ⟨ga0, 3, none⟩ = some (.bool false) := cell_of_row _ _ _ _ _ _ HA0.out
            have af := fun i => HA0.out.free i
            go_simp
            refine hK.out _ _ (below_sets4 hHeld hge0 _ _ _ _) (fun hHeld => ?_)
            clear hK K a0 a1 a2 a3 af
            have HA1 := Lib.hid (row_far4 HA1.out hne01.symm (.bool p0) (.bool p1) (.bool p2) (.bool p3))
            have HA0 := Lib.hid (row_set4 HA0.out (.bool p0) (.bool p1) (.bool p2) (.bool p3))
            generalize (((w55.setCell _ _).setCell _ _).setCell _ _).setCell _ _ = w56 at hHeld HA0 HA1 ⊢
            (try simp only [List.getElem_toArray, List.getElem_cons_succ, List.getElem_cons_zero, Act.put, List.setIfInBounds_toArray, List.set_cons_zero, List.set_cons_succ])
            refine wpAnyH_ready (rs := [21]) (by kernel_rfl) (by simp) ?_
            refine (AllReadyH.cons (o := _) rfl (fun K hK => ?_) AllReadyH.nil)
            have a0 : w56.cell? ⟨ga1, 0, none⟩ = some (.bool false) := cell_of_row _ _ _ _ _ _ HA1.out
            have a1 : w56.cell? ⟨ga1, 1, none⟩ = some (.bool false) := cell_of_row _ _ _ _ _ _ HA1.out
            have a2 : w56.cell? ⟨ga1, 2, none⟩ = some (.bool false) := cell_of_row _ _ _ _ _ _ HA1.out
            have a3 : w56.cell? ⟨ga1, 3, none⟩ = some (.bool false) := cell_of_row _ _ _ _ _ _ HA1.out
            have af := fun i => HA1.out.free i
            go_simp
            refine hK.out _ _ (below_sets4 hHeld hge1 _ _ _ _) (fun hHeld => ?_)
            clear hK K a0 a1 a2 a3 af
            have HA0 := Lib.hid (row_far4 HA0.out hne01 (.bool p0) (.bool p1) (.bool p2) (.bool p3))
            have HA1 := Lib.hid (row_set4 HA1.out (.bool p0) (.bool p1) (.bool p2) (.bool p3))
            generalize (((w56.setCell _ _).setCell _ _).setCell _ _).setCell _ _ = w57 at hHeld HA0 HA1 ⊢
            (try simp only [List.getElem_toArray, List.getElem_cons_succ, List.getElem_cons_zero, Act.put, List.setIfInBounds_toArray, List.set_cons_zero, List.set_cons_succ])
            refine wpAnyH_done (by kernel_rfl) ?_ _
            have HBB := Lib.hid (HB.out.trans (hHeld.mono HB.out.size))
            have HR2 := Lib.hid (HR.out.below hHeld HR.out.lt)
            have H12 := Lib.hid (H1.out.below hHeld H1.out.lt)
            have H22 := Lib.hid (H2.out.below hHeld H2.out.lt)
            clear hHeld
            go_wp2_with fail
            go_meet
            case rel => exact ⟨ga0, ga1, rfl, rfl, HA0.out, HA1.out, H12.out, H22.out, HR2.out, HBB.out⟩
        · go_simp
          have hHeld0 := hHeld
          refine hK.out _ _ (hHeld.alloc hHeld.size _) (fun hHeld => ?_)
          clear hK K
          obtain ⟨ga1, hga1⟩ : ∃ g, w48.heap.size = g := ⟨_, rfl⟩
          have hge1 : wc.heap.size ≤ ga1 := by rw [← hga1]; exact hHeld0.size
          have hne01 : ga0 ≠ ga1 := by have := HA0.out.lt; omega
          have HA0 := Lib.hid (Row.alloc HA0.out (.cells #[.bool false, .bool false, .bool false, .bool false] 27))
          have HA1 : Hid (Row (w48.alloc (.cells #[.bool false, .bool false, .bool false, .bool false] 27)) ga1 27 #[.bool false, .bool false, .bool false, .bool false]) := row_new _ _ hga1 _ _
          rw [hga1]
          generalize w48.alloc (.cells #[.bool false, .bool false, .bool false, .bool false] 27) = w58 at hHeld HA0 HA1 ⊢
          clear hga1 hHeld0
          (try simp only [List.getElem_toArray, List.getElem_cons_succ, List.getElem_cons_zero, Act.put, List.setIfInBounds_toArray, List.set_cons_zero, List.set_cons_succ])
          refine wpAnyH_ready (rs := [8]) (by kernel_rfl) (by simp) ?_
          refine (AllReadyH.cons (o := _) rfl (fun K hK => ?_) AllReadyH.nil)
          go_simp
          refine (subset_in k F B T _ hk (by omega) (by omega) (HS.out.below hHeld HS.out.lt)).mono ?_
          rintro e w59 ⟨rfl, hb⟩
          rw [HPF.out]
          go_wp2_with fail
          have hN := hHeld.trans (hb.mono hHeld.size)
          have HA0 := Lib.hid (Row.box HA0.out hb)
          have HA1 := Lib.hid (Row.box HA1.out hb)
          clear hHeld hb
          refine hK.out _ _ hN (fun hHeld => ?_)
          clear hN hK K
          (try simp only [List.getElem_toArray, List.getElem_cons_succ, List.getElem_cons_zero, Act.put, List.setIfInBounds_toArray, List.set_cons_zero, List.set_cons_succ])
          refine wpAnyH_ready (rs := [17]) (by kernel_rfl) (by simp) ?_
          refine (AllReadyH.cons (o := _) rfl (fun K hK => ?_) AllReadyH.nil)
          clear e1 e2 e3 e4
          go_simp
          refine (subset_in k G B T _ hk (by omega) (by omega) (HS.out.below hHeld HS.out.lt)).mono ?_
          rintro e w60 ⟨rfl, hb⟩
          rw [HPG.out]
          go_wp2_with fail
          have hN := hHeld.trans (hb.mono hHeld.size)
          have HA0 := Lib.hid (Row.box HA0.out hb)
          have HA1 := Lib.hid (Row.box HA1.out hb)
          clear hHeld hb
          refine hK.out _ _ hN (fun hHeld => ?_)
          clear hN hK K
          (try simp only [List.getElem_toArray, List.getElem_cons_succ, List.getElem_cons_zero, Act.put, List.setIfInBounds_toArray, List.set_cons_zero, List.set_cons_succ])
          refine wpAnyH_ready (rs := [20]) (by kernel_rfl) (by simp) ?_
          refine (AllReadyH.cons (o := _) rfl (fun K hK => ?_) AllReadyH.nil)
          have a0 : w60.cell? ⟨ga0, 0, none⟩ = some (.bool false) := cell_of_row _ _ _ _ _ _ HA0.out
          have a1 : w60.cell? ⟨ga0, 1, none⟩ = some (.bool false) := cell_of_row _ _ _ _ _ _ HA0.out
          have a2 : w60.cell? ⟨ga0, 2, none⟩ = some (.bool false) := cell_of_row _ _ _ _ _ _ HA0.out
          have a3 : w60.cell? ⟨ga0, 3, none⟩ = some (.bool false) := cell_of_row _ _ _ _ _ _ HA0.out
          have af := fun i => HA0.out.free i
          go_simp
          refine hK.out _ _ (below_sets4 hHeld hge0 _ _ _ _) (fun hHeld => ?_)
          clear hK K a0 a1 a2 a3 af
          have HA1 := Lib.hid (row_far4 HA1.out hne01.symm (.bool p0) (.bool p1) (.bool p2) (.bool p3))
          have HA0 := Lib.hid (row_set4 HA0.out (.bool p0) (.bool p1) (.bool p2) (.bool p3))
          generalize (((w60.setCell _ _).setCell _ _).setCell _ _).setCell _ _ = w61 at hHeld HA0 HA1 ⊢
          (try simp only [List.getElem_toArray, List.getElem_cons_succ, List.getElem_cons_zero, Act.put, List.setIfInBounds_toArray, List.set_cons_zero, List.set_cons_succ])
          refine wpAnyH_ready (rs := [21]) (by kernel_rfl) (by simp) ?_
          refine (AllReadyH.cons (o := _) rfl (fun K hK => ?_) AllReadyH.nil)
          have a0 : w61.cell? ⟨ga1, 0, none⟩ = some (.bool false) := cell_of_row _ _ _ _ _ _ HA1.out
          have a1 : w61.cell? ⟨ga1, 1, none⟩ = some (.bool false) := cell_of_row _ _ _ _ _ _ HA1.out
          have a2 : w61.cell? ⟨ga1, 2, none⟩ = some (.bool false) := cell_of_row _ _ _ _ _ _ HA1.out
          have a3 : w61.cell? ⟨ga1, 3, none⟩ = some (.bool false) := cell_of_row _ _ _ _ _ _ HA1.out
          have af := fun i => HA1.out.free i
          go_simp
          refine hK.out _ _ (below_sets4 hHeld hge1 _ _ _ _) (fun hHeld => ?_)
          clear hK K a0 a1 a2 a3 af
          have HA0 := Lib.hid (row_far4 HA0.out hne01 (.bool p0) (.bool p1) (.bool p2) (.bool p3))
          have HA1 := Lib.hid (row_set4 HA1.out (.bool p0) (.bool p1) (.bool p2) (.bool p3))
          generalize (((w61.setCell _ _).setCell _ _).setCell _ _).setCell _ _ = w62 at hHeld HA0 HA1 ⊢
          (try simp only [List.getElem_toArray, List.getElem_cons_succ, List.getElem_cons_zero, Act.put, List.setIfInBounds_toArray, List.set_cons_zero, List.set_cons_succ])
          refine wpAnyH_done (by kernel_rfl) ?_ _
          have HBB := Lib.hid (HB.out.trans (hHeld.mono HB.out.size))
          have HR2 := Lib.hid (HR.out.below hHeld HR.out.lt)
          have H12 := Lib.hid (H1.out.below hHeld H1.out.lt)
          have H22 := Lib.hid (H2.out.below hHeld H2.out.lt)
          clear hHeld
          go_wp2_with fail
          go_meet
          case rel => exact ⟨ga0, ga1, rfl, rfl, HA0.out, HA1.out, H12.out, H22.out, HR2.out, HBB.out⟩
      · go_simp
        have hHeld0 := hHeld
        refine hK.out _ _ (hHeld.alloc hHeld.size _) (fun hHeld => ?_)
        clear hK K
        obtain ⟨ga1, hga1⟩ : ∃ g, w2.heap.size = g := ⟨_, rfl⟩
        have hge1 : wc.heap.size ≤ ga1 := by rw [← hga1]; exact hHeld0.size
        have HA1 : Hid (Row (w2.alloc (.cells #[.bool false, .bool false, .bool false, .bool false] 27)) ga1 27 #[.bool false, .bool false, .bool false, .bool false]) := row_new _ _ hga1 _ _
        rw [hga1]
        generalize w2.alloc (.cells #[.bool false, .bool false, .bool false, .bool false] 27) = w63 at hHeld HA1 ⊢
        clear hga1 hHeld0
        (try simp only [List.getElem_toArray, List.getElem_cons_succ, List.getElem_cons_zero, Act.put, List.setIfInBounds_toArray, List.set_cons_zero, List.set_cons_succ])
        refine wpAnyH_ready (rs := [8, 18]) (by kernel_rfl) (by simp) ?_
        refine (AllReadyH.cons (o := _) rfl (fun K hK => ?_) (AllReadyH.cons (o := _) rfl (fun K hK => ?_) AllReadyH.nil))
        · go_simp
          refine (subset_in k F B T _ hk (by omega) (by omega) (HS.out.below hHeld HS.out.lt)).mono ?_
          rintro e w64 ⟨rfl, hb⟩
          rw [HPF.out]
          go_wp2_with fail
          have hN := hHeld.trans (hb.mono hHeld.size)
          have HA1 := Lib.hid (Row.box HA1.out hb)
          clear hHeld hb
          refine hK.out _ _ hN (fun hHeld => ?_)
          clear hN hK K
          (try simp only [List.getElem_toArray, List.getElem_cons_succ, List.getElem_cons_zero, Act.put, List.setIfInBounds_toArray, List.set_cons_zero, List.set_cons_succ])
          refine wpAnyH_ready (rs := [17, 18]) (by kernel_rfl) (by simp) ?_
          refine (AllReadyH.cons (o := _) rfl (fun K hK => ?_) (AllReadyH.cons (o := _) rfl (fun K hK => ?_) AllReadyH.nil))
          · clear e1 e2 e3 e4
            go_simp
            refine (subset_in k G B T _ hk (by omega) (by omega) (HS.out.below hHeld HS.out.lt)).mono ?_
            rintro e w65 ⟨rfl, hb⟩
            rw [HPG.out]
            go_wp2_with fail
            have hN := hHeld.trans (hb.mono hHeld.size)
            have HA1 := Lib.hid (Row.box HA1.out hb)
            clear hHeld hb
            refine hK.out _ _ hN (fun hHeld => ?_)
            clear hN hK K
            (try simp only [List.getElem_toArray, List.getElem_cons_succ, List.getElem_cons_zero, Act.put, List.setIfInBounds_toArray, List.set_cons_zero, List.set_cons_succ])
            refine wpAnyH_ready (rs := [18]) (by kernel_rfl) (by simp) ?_
            refine (AllReadyH.cons (o := _) rfl (fun K hK => ?_) AllReadyH.nil)
            go_simp
            have hHeld0 := hHeld
            refine hK.out _ _ (hHeld.alloc hHeld.size _) (fun hHeld => ?_)
            clear hK K
            obtain ⟨ga0, hga0⟩ : ∃ g, w65.heap.size = g := ⟨_, rfl⟩
            have hge0 : wc.heap.size ≤ ga0 := by rw [← hga0]; exact hHeld0.size
            have hne10 : ga1 ≠ ga0 := by have := HA1.out.lt; omega
            have HA1 := Lib.hid (Row.alloc HA1.out (.cells #[.bool false, .bool false, .bool false, .bool false] 27))
            have HA0 : Hid (Row (w65.alloc (.cells #[.bool false, .bool false, .bool false, .bool false] 27)) ga0 27 #[.bool false, .bool false, .bool false, .bool false]) := row_new _ _ hga0 _ _
            rw [hga0]
            generalize w65.alloc (.cells #[.bool false, .bool false, .bool false, .bool false] 27) = w66 at hHeld HA1 HA0 ⊢
            clear hga0 hHeld0
            (try simp only [List.getElem_toArray, List.getElem_cons_succ, List.getElem_cons_zero, Act.put, List.setIfInBounds_toArray, List.set_cons_zero, List.set_cons_succ])
            refine wpAnyH_ready (rs := [20]) (by kernel_rfl) (by simp) ?_
            refine (AllReadyH.cons (o := _) rfl (fun K hK => ?_) AllReadyH.nil)
            have a0 : w66.cell? ⟨ga0, 0, none⟩ = some (.bool false) := cell_of_row _ _ _ _ _ _ HA0.out
            have a1 : w66.cell? ⟨ga0, 1, none⟩ = some (.bool false) := cell_of_row _ _ _ _ _ _ HA0.out
            have a2 : w66.cell? ⟨ga0, 2, none⟩ = some (.bool false) := cell_of_row _ _ _ _ _ _ HA0.out
            have a3 : w66.cell? ⟨ga0, 3, none⟩ = some (.bool false) := cell_of_row _ _ _ _ _ _ HA0.out
            have af := fun i => HA0.out.free i
            go_simp
            refine hK.out _ _ (below_sets4 hHeld hge0 _ _ _ _) (fun hHeld => ?_)
            clear hK K a0 a1 a2 a3 af
            have HA1 := Lib.hid (row_far4 HA1.out hne10 (.bool p0) (.bool p1) (.bool p2) (.bool p3))
            have HA0 := Lib.hid (row_set4 HA0.out (.bool p0) (.bool p1) (.bool p2) (.bool p3))
            generalize (((w66.setCell _ _).setCell _ _).setCell _ _).setCell _ _ = w67 at hHeld HA1 HA0 ⊢
            (try simp only [List.getElem_toArray, List.getElem_cons_succ, List.getElem_cons_zero, Act.put, List.setIfInBounds_toArray, List.set_cons_zero, List.set_cons_succ])
            refine wpAnyH_ready (rs := [21]) (by kernel_rfl) (by simp) ?_
            refine (AllReadyH.cons (o := _) rfl (fun K hK => ?_) AllReadyH.nil)
            have a0 : w67.cell? ⟨ga1, 0, none⟩ = some (.bool false) := cell_of_row _ _ _ _ _ _ HA1.out
            have a1 : w67.cell? ⟨ga1, 1, none⟩ = some (.bool false) := cell_of_row _ _ _ _ _ _ HA1.out
            have a2 : w67.cell? ⟨ga1, 2, none⟩ = some (.bool false) := cell_of_row _ _ _ _ _ _ HA1.out
            have a3 : w67.cell? ⟨ga1, 3, none⟩ = some (.bool false) := cell_of_row _ _ _ _ _ _ HA1.out
            have af := fun i => HA1.out.free i
            go_simp
            refine hK.out _ _ (below_sets4 hHeld hge1 _ _ _ _) (fun hHeld => ?_)
            clear hK K a0 a1 a2 a3 af
            have HA0 := Lib.hid (row_far4 HA0.out hne10.symm (.bool p0) (.bool p1) (.bool p2) (.bool p3))
            have HA1 := Lib.hid (row_set4 HA1.out (.bool p0) (.bool p1) (.bool p2) (.bool p3))
            generalize (((w67.setCell _ _).setCell _ _).setCell _ _).setCell _ _ = w68 at hHeld HA1 HA0 ⊢
            (try simp only [List.getElem_toArray, List.getElem_cons_succ, List.getElem_cons_zero, Act.put, List.setIfInBounds_toArray, List.set_cons_zero, List.set_cons_succ])
            refine wpAnyH_done (by kernel_rfl) ?_ _
            have HBB := Lib.hid (HB.out.trans (hHeld.mono HB.out.size))
            have HR2 := Lib.hid (HR.out.below hHeld HR.out.lt)
            have H12 := Lib.hid (H1.out.below hHeld H1.out.lt)
            have H22 := Lib.hid (H2.out.below hHeld H2.out.lt)
            clear hHeld
            go_wp2_with fail
            go_meet
            case rel => exact ⟨ga0, ga1, rfl, rfl, HA0.out, HA1.out, H12.out, H22.out, HR2.out, HBB.out⟩
          · go_simp
            have hHeld0 := hHeld
            refine hK.out _ _ (hHeld.alloc hHeld.size _) (fun hHeld => ?_)
            clear hK K
            obtain ⟨ga0, hga0⟩ : ∃ g, w64.heap.size = g := ⟨_, rfl⟩
            have hge0 : wc.heap.size ≤ ga0 := by rw [← hga0]; exact hHeld0.size
            have hne10 : ga1 ≠ ga0 := by have := HA1.out.lt; omega
            have HA1 := Lib.hid (Row.alloc HA1.out (.cells #[.bool false, .bool false, .bool false, .bool false] 27))
            have HA0 : Hid (Row (w64.alloc (.cells #[.bool false, .bool false, .bool false, .bool false] 27)) ga0 27 #[.bool false, .bool false, .bool false, .bool false]) := row_new _ _ hga0 _ _
            rw [hga0]
            generalize w64.alloc (.cells #[.bool false, .bool false, .bool false, .bool false] 27) = w69 at hHeld HA1 HA0 ⊢
            clear hga0 hHeld0
            (try simp only [List.getElem_toArray, List.getElem_cons_succ, List.getElem_cons_zero, Act.put, List.setIfInBounds_toArray, List.set_cons_zero, List.set_cons_succ])
            refine wpAnyH_ready (rs := [17]) (by kernel_rfl) (by simp) ?_
            refine (AllReadyH.cons (o := _) rfl (fun K hK => ?_) AllReadyH.nil)
            clear e1 e2 e3 e4
            go_simp
            refine (subset_in k G B T _ hk (by omega) (by omega) (HS.out.below hHeld HS.out.lt)).mono ?_
            rintro e w70 ⟨rfl, hb⟩
            rw [HPG.out]
            go_wp2_with fail
            have hN := hHeld.trans (hb.mono hHeld.size)
            have HA1 := Lib.hid (Row.box HA1.out hb)
            have HA0 := Lib.hid (Row.box HA0.out hb)
            clear hHeld hb
            refine hK.out _ _ hN (fun hHeld => ?_)
            clear hN hK K
            (try simp only [List.getElem_toArray, List.getElem_cons_succ, List.getElem_cons_zero, Act.put, List.setIfInBounds_toArray, List.set_cons_zero, List.set_cons_succ])
            refine wpAnyH_ready (rs := [20]) (by kernel_rfl) (by simp) ?_
            refine (AllReadyH.cons (o := _) rfl (fun K hK => ?_) AllReadyH.nil)
            have a0 : w70.cell? ⟨ga0, 0, none⟩ = some (.bool false) := cell_of_row _ _ _ _ _ _ HA0.out
            have a1 : w70.cell? ⟨ga0, 1, none⟩ = some (.bool false) := cell_of_row _ _ _ _ _ _ HA0.out
            have a2 : w70.cell? ⟨ga0, 2, none⟩ = some (.bool false) := cell_of_row _ _ _ _ _ _ HA0.out
            have a3 : w70.cell? ⟨ga0, 3, none⟩ = some (.bool false) := cell_of_row _ _ _ _ _ _ HA0.out
            have af := fun i => HA0.out.free i
            go_simp
            refine hK.out _ _ (below_sets4 hHeld hge0 _ _ _ _) (fun hHeld => ?_)
            clear hK K a0 a1 a2 a3 af
            have HA1 := Lib.hid (row_far4 HA1.out hne10 (.bool p0) (.bool p1) (.bool p2) (.bool p3))
            have HA0 := Lib.hid (row_set4 HA0.out (.bool p0) (.bool p1) (.bool p2) (.bool p3))
            generalize (((w70.setCell _ _).setCell _ _).setCell _ _).setCell _ _ = w71 at hHeld HA1 HA0 ⊢
            (try simp only [List.getElem_toArray, List.getElem_cons_succ, List.getElem_cons_zero, Act.put, List.setIfInBounds_toArray, List.set_cons_zero, List.set_cons_succ])
            refine wpAnyH_ready (rs := [21]) (by kernel_rfl) (by simp) ?_
            refine (AllReadyH.cons (o := _) rfl (fun K hK => ?_) AllReadyH.nil)
            have a0 : w71.cell? ⟨ga1, 0, none⟩ = some (.bool false) := cell_of_row _ _ _ _ _ _ HA1.out
            have a1 : w71.cell? ⟨ga1, 1, none⟩ = some (.bool false) := cell_of_row _ _ _ _ _ _ HA1.out
            have a2 : w71.cell? ⟨ga1, 2, none⟩ = some (.bool false) := cell_of_row _ _ _ _ _ _ HA1.out
            have a3 : w71.cell? ⟨ga1, 3, none⟩ = some (.bool false) := cell_of_row _ _ _ _ _ _ HA1.out
            have af := fun i => HA1.out.free i
            go_simp
            refine hK.out _ _ (below_sets4 hHeld hge1 _ _ _ _) (fun hHeld => ?_)
            clear hK K a0 a1 a2 a3 af
            have HA0 := Lib.hid (row_far4 HA0.out hne10.symm (.bool p0) (.bool p1) (.bool p2) (.bool p3))
            have HA1 := Lib.hid (row_set4 HA1.out (.bool p0) (.bool p1) (.bool p2) (.bool p3))
            generalize (((w71.setCell _ _).setCell _ _).setCell _ _).setCell _ _ = w72 at hHeld HA1 HA0 ⊢
            (try simp only [List.getElem_toArray, List.getElem_cons_succ, List.getElem_cons_zero, Act.put, List.setIfInBounds_toArray, List.set_cons_zero, List.set_cons_succ])
            refine wpAnyH_done (by kernel_rfl) ?_ _
            have HBB := Lib.hid (HB.out.trans (hHeld.mono HB.out.size))
            have HR2 := Lib.hid (HR.out.below hHeld HR.out.lt)
            have H12 := Lib.hid (H1.out.below hHeld H1.out.lt)
            have H22 := Lib.hid (H2.out.below hHeld H2.out.lt)
            clear hHeld
            go_wp2_with fail
            go_meet
            case rel => exact ⟨ga0, ga1, rfl, rfl, HA0.out, HA1.out, H12.out, H22.out, HR2.out, HBB.out⟩
        · go_simp
          have hHeld0 := hHeld
          refine hK.out _ _ (hHeld.alloc hHeld.size _) (fun hHeld => ?_)
          clear hK K
          obtain ⟨ga0, hga0⟩ : ∃ g, w63.heap.size = g := ⟨_, rfl⟩
          have hge0 : wc.heap.size ≤ ga0 := by rw [← hga0]; exact hHeld0.size
          have hne10 : ga1 ≠ ga0 := by have := HA1.out.lt; omega
          have HA1 := Lib.hid (Row.alloc HA1.out (.cells #[.bool false, .bool false, .bool false, .bool false] 27))
          have HA0 : Hid (Row (w63.alloc (.cells #[.bool false, .bool false, .bool false, .bool false] 27)) ga0 27 #[.bool false, .bool false, .bool false, .bool false]) := row_new _ _ hga0 _ _
          rw [hga0]
          generalize w63.alloc (.cells #[.bool false, .bool false, .bool false, .bool false] 27) = w73 at hHeld HA1 HA0 ⊢
          clear hga0 hHeld0
          (try simp only [List.getElem_toArray, List.getElem_cons_succ, List.getElem_cons_zero, Act.put, List.setIfInBounds_toArray, List.set_cons_zero, List.set_cons_succ])
          refine wpAnyH_ready (rs := [8]) (by kernel_rfl) (by simp) ?_
          refine (AllReadyH.cons (o := _) rfl (fun K hK => ?_) AllReadyH.nil)
          go_simp
          refine (subset_in k F B T _ hk (by omega) (by omega) (HS.out.below hHeld HS.out.lt)).mono ?_
          rintro e w74 ⟨rfl, hb⟩
          rw [HPF.out]
          go_wp2_with fail
          have hN := hHeld.trans (hb.mono hHeld.size)
          have HA1 := Lib.hid (Row.box HA1.out hb)
          have HA0 := Lib.hid (Row.box HA0.out hb)
          clear hHeld hb
          refine hK.out _ _ hN (fun hHeld => ?_)
          clear hN hK K
          (try simp only [List.getElem_toArray, List.getElem_cons_succ, List.getElem_cons_zero, Act.put, List.setIfInBounds_toArray, List.set_cons_zero, List.set_cons_succ])
          refine wpAnyH_ready (rs := [17]) (by kernel_rfl) (by simp) ?_
          refine (AllReadyH.cons (o := _) rfl (fun K hK => ?_) AllReadyH.nil)
          clear e1 e2 e3 e4
          go_simp
          refine (subset_in k G B T _ hk (by omega) (by omega) (HS.out.below hHeld HS.out.lt)).mono ?_
          rintro e w75 ⟨rfl, hb⟩
          rw [HPG.out]
          go_wp2_with fail
          have hN := hHeld.trans (hb.mono hHeld.size)
          have HA1 := Lib.hid (Row.box HA1.out hb)
          have HA0 := Lib.hid (Row.box HA0.out hb)
          clear hHeld hb
          refine hK.out _ _ hN (fun hHeld => ?_)
          clear hN hK K
          (try simp only [List.getElem_toArray, List.getElem_cons_succ, List.getElem_cons_zero, Act.put, List.setIfInBounds_toArray, List.set_cons_zero, List.set_cons_succ])
          refine wpAnyH_ready (rs := [20]) (by kernel_rfl) (by simp) ?_
          refine (AllReadyH.cons (o := _) rfl (fun K hK => ?_) AllReadyH.nil)
          have a0 : w75.cell? ⟨ga0, 0, none⟩ = some (.bool false) := cell_of_row _ _ _ _ _ _ HA0.out
          have a1 : w75.cell? ⟨ga0, 1, none⟩ = some (.bool false) := cell_of_row _ _ _ _ _ _ HA0.out
          have a2 : w75.cell? ⟨ga0, 2, none⟩ = some (.bool false) := cell_of_row _ _ _ _ _ _ HA0.out
          have a3 : w75.cell? ⟨ga0, 3, none⟩ = some (.bool false) := cell_of_row _ _ _ _ _ _ HA0.out
          have af := fun i => HA0.out.free i
          go_simp
          refine hK.out _ _ (below_sets4 hHeld hge0 _ _ _ _) (fun hHeld => ?_)
          clear hK K a0 a1 a2 a3 af
          have HA1 := Lib.hid (row_far4 HA1.out hne10 (.bool p0) (.bool p1) (.bool p2) (.bool p3))
          have HA0 := Lib.hid (row_set4 HA0.out (.bool p0) (.bool p1) (.bool p2) (.bool p3))
          generalize (((w75.setCell _ _).setCell _ _).setCell _ _).setCell _ _ = w76 at hHeld HA1 HA0 ⊢
          (try simp only [List.getElem_toArray, List.getElem_cons_succ, List.getElem_cons_zero, Act.put, List.setIfInBounds_toArray, List.set_cons_zero, List.set_cons_succ])
          refine wpAnyH_ready (rs := [21]) (by kernel_rfl) (by simp) ?_
          refine (AllReadyH.cons (o := _) rfl (fun K hK => ?_) AllReadyH.nil)
          have a0 : w76.cell? ⟨ga1, 0, none⟩ = some (.bool false) := cell_of_row _ _ _ _ _ _ HA1.out
          have a1 : w76.cell? ⟨ga1, 1, none⟩ = some (.bool false) := cell_of_row _ _ _ _ _ _ HA1.out
          have a2 : w76.cell? ⟨ga1, 2, none⟩ = some (.bool false) := cell_of_row _ _ _ _ _ _ HA1.out
          have a3 : w76.cell? ⟨ga1, 3, none⟩ = some (.bool false) := cell_of_row _ _ _ _ _ _ HA1.out
          have af := fun i => HA1.out.free i
          go_simp
          refine hK.out _ _ (below_sets4 hHeld hge1 _ _ _ _) (fun hHeld => ?_)
          clear hK K a0 a1 a2 a3 af
          have HA0 := Lib.hid (row_far4 HA0.out hne10.symm (.bool p0) (.bool p1) (.bool p2) (.bool p3))
          have HA1 := Lib.hid (row_set4 HA1.out (.bool p0) (.bool p1) (.bool p2) (.bool p3))
          generalize (((w76.setCell _ _).setCell _ _).setCell _ _).setCell _ _ = w77 at hHeld HA1 HA0 ⊢
          (try simp only [List.getElem_toArray, List.getElem_cons_succ, List.getElem_cons_zero, Act.put, List.setIfInBounds_toArray, List.set_cons_zero, List.set_cons_succ])
          refine wpAnyH_done (by kernel_rfl) ?_ _
          have HBB := Lib.hid (HB.out.trans (hHeld.mono HB.out.size))
          have HR2 := Lib.hid (HR.out.below hHeld HR.out.lt)
          have H12 := Lib.hid (H1.out.below hHeld H1.out.lt)
          have H22 := Lib.hid (H2.out.below hHeld H2.out.lt)
          clear hHeld
          go_wp2_with fail
          go_meet
          case rel => exact ⟨ga0, ga1, rfl, rfl, HA0.out, HA1.out, H12.out, H22.out, HR2.out, HBB.out⟩
    case rest =>
      obtain ⟨g3, g4, rfl, rfl, hr3, hr4, hr1, hr2, hr, hbel⟩ := hcut
      rw [chips_same k HFG.out] at hr2
      obtain ⟨c0, c1, c2, c3, hc⟩ : ∃ c0 c1 c2 c3 : Int, chipsOf k F = #[.int .i64 c0, .int .i64 c1, .int .i64 c2, .int .i64 c3] := ⟨_, _, _, _, rfl⟩
      rw [hc] at hr1 hr2
      have HR := Lib.hid hr
      have HB := Lib.hid hbel
      have H1 := Lib.hid hr1
      have H2 := Lib.hid hr2
      have H3 := Lib.hid hr3
      have H4 := Lib.hid hr4
      have HS := Lib.hid (HGG.out.below hbel HGG.out.lt)
      have hpn := HPN.out
      clear hr hr1 hr2 hr3 hr4 hbel hc HPF HPG HPN HE
      go_wp2_with fail
      refine wp_region_held_drew (S := fun w' => Below wc.heap.size wc w') (by kernel_rfl) ?_ (fun hHeld => ?_)
      · exact below_drew1 (Below.refl _ _)
      generalize wc.drew = w2 at hHeld ⊢
      refine wpAnyH_take (i := 0) (oi := _) rfl (by kernel_rfl) (by kernel_rfl) (by kernel_rfl) (fun _ _ _ h => h) (yields_row (by rfl) 23 (.tmp 5) rfl w.heap.size rfl 23 (byteCells k) HR.out Tryd.underlying23 HI.out) hHeld ?_
      (try simp only [List.getElem_toArray, List.getElem_cons_zero, Act.put, List.setIfInBounds_toArray, List.set_cons_zero, List.set_cons_succ])
      refine wpAnyH_take (i := 1) (oi := _) (v := ?_) rfl (by kernel_rfl) (by kernel_rfl) (by kernel_rfl) (fun _ _ _ h => h) (Or.inl ⟨by rfl, ?_⟩) hHeld ?_
      rotate_left
      · (intro w hSw; (try dsimp only at hSw); first | (go_simp; done) | (go_simp; with_reducible rfl))
      (try simp only [List.getElem_toArray, List.getElem_cons_succ, List.getElem_cons_zero, Act.put, List.setIfInBounds_toArray, List.set_cons_zero, List.set_cons_succ])
      refine wpAnyH_take (i := 3) (oi := _) rfl (by kernel_rfl) (by kernel_rfl) (by kernel_rfl) (fun _ _ _ h => h) (yields_row (by rfl) 23 (.tmp 5) rfl w.heap.size rfl 23 (byteCells k) HR.out Tryd.underlying23 HI.out) hHeld ?_
      (try simp only [List.getElem_toArray, List.getElem_cons_succ, List.getElem_cons_zero, Act.put, List.setIfInBounds_toArray, List.set_cons_zero, List.set_cons_succ])
      refine wpAnyH_take (i := 4) (oi := _) (v := ?_) rfl (by kernel_rfl) (by kernel_rfl) (by kernel_rfl) (fun _ _ _ h => h) (Or.inl ⟨by rfl, ?_⟩) hHeld ?_
      rotate_left
      · (intro w hSw; (try dsimp only at hSw); first | (go_simp; done) | (go_simp; with_reducible rfl))
      (try simp only [List.getElem_toArray, List.getElem_cons_succ, List.getElem_cons_zero, Act.put, List.setIfInBounds_toArray, List.set_cons_zero, List.set_cons_succ])
      refine wpAnyH_ready (rs := [2]) (by kernel_rfl) (by simp) ?_
      refine (AllReadyH.cons (o := _) rfl (fun K hK => ?_) AllReadyH.nil)
      go_simp
      refine (band_any k F _ hk (HS.out.below hHeld HS.out.lt)).mono ?_
      rintro e w20 ⟨rfl, hb⟩
      go_wp2_with fail
      have hN := hHeld.trans (hb.mono hHeld.size)
      clear hHeld hb
      refine hK.out _ _ hN (fun hHeld => ?_)
      clear hN hK K
      (try simp only [List.getElem_toArray, List.getElem_cons_succ, List.getElem_cons_zero, Act.put, List.setIfInBounds_toArray, List.set_cons_zero, List.set_cons_succ])
      refine wpAnyH_ready (rs := [5]) (by kernel_rfl) (by simp) ?_
      refine (AllReadyH.cons (o := _) rfl (fun K hK => ?_) AllReadyH.nil)
      go_simp
      refine (band_any k G _ hk (HS.out.below hHeld HS.out.lt)).mono ?_
      rintro e w21 ⟨rfl, hb⟩
      rw [band_same k HFG.out]
      go_wp2_with fail
      have hN := hHeld.trans (hb.mono hHeld.size)
      clear hHeld hb
      refine hK.out _ _ hN (fun hHeld => ?_)
      clear hN hK K
      (try simp only [List.getElem_toArray, List.getElem_cons_succ, List.getElem_cons_zero, Act.put, List.setIfInBounds_toArray, List.set_cons_zero, List.set_cons_succ])
      refine wpAnyH_take (i := 6) (oi := _) (v := ?_) rfl (by kernel_rfl) (by kernel_rfl) (by kernel_rfl) (fun _ _ _ h => h) (Or.inl ⟨by rfl, ?_⟩) hHeld ?_
      rotate_left
      · (intro w hSw; (try dsimp only at hSw); first | (go_simp; done) | (go_simp; with_reducible rfl))
      (try simp only [List.getElem_toArray, List.getElem_cons_succ, List.getElem_cons_zero, Act.put, List.setIfInBounds_toArray, List.set_cons_zero, List.set_cons_succ])
      refine wpAnyH_take (i := 7) (oi := _) (v := ?_) rfl (by kernel_rfl) (by kernel_rfl) (by kernel_rfl) (fun _ _ _ h => h) (Or.inl ⟨by rfl, ?_⟩) hHeld ?_
      rotate_left
      · (intro w hSw; (try dsimp only at hSw); first | (go_simp; done) | (go_simp; with_reducible rfl))
      (try simp only [List.getElem_toArray, List.getElem_cons_succ, List.getElem_cons_zero, Act.put, List.setIfInBounds_toArray, List.set_cons_zero, List.set_cons_succ])
      refine wpAnyH_take (i := 8) (oi := _) rfl (by kernel_rfl) (by kernel_rfl) (by kernel_rfl) (fun _ _ _ h => h) (yields_row (by rfl) 25 (.tmp 13) rfl g1 rfl 25 _ H1.out Tryd.underlying25 int4_info) hHeld ?_
      (try simp only [List.getElem_toArray, List.getElem_cons_succ, List.getElem_cons_zero, Act.put, List.setIfInBounds_toArray, List.set_cons_zero, List.set_cons_succ])
      refine wpAnyH_take (i := 9) (oi := _) rfl (by kernel_rfl) (by kernel_rfl) (by kernel_rfl) (fun _ _ _ h => h) (yields_row (by rfl) 25 (.tmp 14) rfl g2 rfl 25 _ H2.out Tryd.underlying25 int4_info) hHeld ?_
      (try simp only [List.getElem_toArray, List.getElem_cons_succ, List.getElem_cons_zero, Act.put, List.setIfInBounds_toArray, List.set_cons_zero, List.set_cons_succ])
      refine wpAnyH_take (i := 10) (oi := _) (v := ?_) rfl (by kernel_rfl) (by kernel_rfl) (by kernel_rfl) (fun _ _ _ h => h) (Or.inl ⟨by rfl, ?_⟩) hHeld ?_
      rotate_left
      · (intro w hSw; (try dsimp only at hSw); first | (go_simp; done) | (go_simp; with_reducible rfl))
      (try simp only [List.getElem_toArray, List.getElem_cons_succ, List.getElem_cons_zero, Act.put, List.setIfInBounds_toArray, List.set_cons_zero, List.set_cons_succ])
      refine wpAnyH_take (i := 11) (oi := _) (v := ?_) rfl (by kernel_rfl) (by kernel_rfl) (by kernel_rfl) (fun _ _ _ h => h) (Or.inl ⟨by rfl, ?_⟩) hHeld ?_
      rotate_left
      · (intro w hSw; (try dsimp only at hSw); first | (go_simp; done) | (go_simp; with_reducible rfl))
      (try simp only [List.getElem_toArray, List.getElem_cons_succ, List.getElem_cons_zero, Act.put, List.setIfInBounds_toArray, List.set_cons_zero, List.set_cons_succ])
      refine wpAnyH_take (i := 12) (oi := _) (v := ?_) rfl (by kernel_rfl) (by kernel_rfl) (by kernel_rfl) (fun _ _ _ h => h) (Or.inl ⟨by rfl, ?_⟩) hHeld ?_
      rotate_left
      · (intro w hSw; (try dsimp only at hSw); first | (go_simp; done) | (go_simp; with_reducible rfl))
      (try simp only [List.getElem_toArray, List.getElem_cons_succ, List.getElem_cons_zero, Act.put, List.setIfInBounds_toArray, List.set_cons_zero, List.set_cons_succ])
      refine wpAnyH_take (i := 13) (oi := _) rfl (by kernel_rfl) (by kernel_rfl) (by kernel_rfl) (fun _ _ _ h => h) (yields_row (by rfl) 23 (.tmp 5) rfl w.heap.size rfl 23 (byteCells k) HR.out Tryd.underlying23 HI.out) hHeld ?_
      (try simp only [List.getElem_toArray, List.getElem_cons_succ, List.getElem_cons_zero, Act.put, List.setIfInBounds_toArray, List.set_cons_zero, List.set_cons_succ])
      refine wpAnyH_take (i := 14) (oi := _) (v := ?_) rfl (by kernel_rfl) (by kernel_rfl) (by kernel_rfl) (fun _ _ _ h => h) (Or.inl ⟨by rfl, ?_⟩) hHeld ?_
      rotate_left
      · (intro w hSw; (try dsimp only at hSw); first | (go_simp; done) | (go_simp; with_reducible rfl))
      (try simp only [List.getElem_toArray, List.getElem_cons_succ, List.getElem_cons_zero, Act.put, List.setIfInBounds_toArray, List.set_cons_zero, List.set_cons_succ])
      refine wpAnyH_take (i := 16) (oi := _) rfl (by kernel_rfl) (by kernel_rfl) (by kernel_rfl) (fun _ _ _ h => h) (yields_row (by rfl) 23 (.tmp 5) rfl w.heap.size rfl 23 (byteCells k) HR.out Tryd.underlying23 HI.out) hHeld ?_
      (try simp only [List.getElem_toArray, List.getElem_cons_succ, List.getElem_cons_zero, Act.put, List.setIfInBounds_toArray, List.set_cons_zero, List.set_cons_succ])
      refine wpAnyH_take (i := 17) (oi := _) (v := ?_) rfl (by kernel_rfl) (by kernel_rfl) (by kernel_rfl) (fun _ _ _ h => h) (Or.inl ⟨by rfl, ?_⟩) hHeld ?_
      rotate_left
      · (intro w hSw; (try dsimp only at hSw); first | (go_simp; done) | (go_simp; with_reducible rfl))
      (try simp only [List.getElem_toArray, List.getElem_cons_succ, List.getElem_cons_zero, Act.put, List.setIfInBounds_toArray, List.set_cons_zero, List.set_cons_succ])
      refine wpAnyH_ready (rs := [15]) (by kernel_rfl) (by simp) ?_
      refine (AllReadyH.cons (o := _) rfl (fun K hK => ?_) AllReadyH.nil)
      go_simp
      refine (place_any k F _ hk (HS.out.below hHeld HS.out.lt)).mono ?_
      rintro e w22 ⟨rfl, hb⟩
      go_wp2_with fail
      have hN := hHeld.trans (hb.mono hHeld.size)
      clear hHeld hb
      refine hK.out _ _ hN (fun hHeld => ?_)
      clear hN hK K
      (try simp only [List.getElem_toArray, List.getElem_cons_succ, List.getElem_cons_zero, Act.put, List.setIfInBounds_toArray, List.set_cons_zero, List.set_cons_succ])
      refine wpAnyH_ready (rs := [18]) (by kernel_rfl) (by simp) ?_
      refine (AllReadyH.cons (o := _) rfl (fun K hK => ?_) AllReadyH.nil)
      go_simp
      refine (place_any k G _ hk (HS.out.below hHeld HS.out.lt)).mono ?_
      rintro e w23 ⟨rfl, hb⟩
      rw [place_same k HFG.out]
      go_wp2_with fail
      have hN := hHeld.trans (hb.mono hHeld.size)
      clear hHeld hb
      refine hK.out _ _ hN (fun hHeld => ?_)
      clear hN hK K
      (try simp only [List.getElem_toArray, List.getElem_cons_succ, List.getElem_cons_zero, Act.put, List.setIfInBounds_toArray, List.set_cons_zero, List.set_cons_succ])
      refine wpAnyH_take (i := 19) (oi := _) (v := ?_) rfl (by kernel_rfl) (by kernel_rfl) (by kernel_rfl) (fun _ _ _ h => h) (Or.inl ⟨by rfl, ?_⟩) hHeld ?_
      rotate_left
      · (intro w hSw; (try dsimp only at hSw); first | (go_simp; done) | (go_simp; with_reducible rfl))
      (try simp only [List.getElem_toArray, List.getElem_cons_succ, List.getElem_cons_zero, Act.put, List.setIfInBounds_toArray, List.set_cons_zero, List.set_cons_succ])
      refine wpAnyH_take (i := 20) (oi := _) (v := ?_) rfl (by kernel_rfl) (by kernel_rfl) (by kernel_rfl) (fun _ _ _ h => h) (Or.inl ⟨by rfl, ?_⟩) hHeld ?_
      rotate_left
      · (intro w hSw; (try dsimp only at hSw); first | (go_simp; done) | (go_simp; with_reducible rfl))
      (try simp only [List.getElem_toArray, List.getElem_cons_succ, List.getElem_cons_zero, Act.put, List.setIfInBounds_toArray, List.set_cons_zero, List.set_cons_succ])
      refine wpAnyH_take (i := 21) (oi := _) (v := ?_) rfl (by kernel_rfl) (by kernel_rfl) (by kernel_rfl) (fun _ _ _ h => h) (Or.inl ⟨by rfl, ?_⟩) hHeld ?_
      rotate_left
      · (intro w hSw; (try dsimp only at hSw); first | (go_simp; done) | (go_simp; with_reducible rfl))
      (try simp only [List.getElem_toArray, List.getElem_cons_succ, List.getElem_cons_zero, Act.put, List.setIfInBounds_toArray, List.set_cons_zero, List.set_cons_succ])
      refine wpAnyH_take (i := 22) (oi := _) rfl (by kernel_rfl) (by kernel_rfl) (by kernel_rfl) (fun _ _ _ h => h) (yields_row (by rfl) 27 (.tmp 15) rfl g3 rfl 27 _ H3.out Tryd.underlying27 bool4_info) hHeld ?_
      (try simp only [List.getElem_toArray, List.getElem_cons_succ, List.getElem_cons_zero, Act.put, List.setIfInBounds_toArray, List.set_cons_zero, List.set_cons_succ])
      refine wpAnyH_take (i := 23) (oi := _) rfl (by kernel_rfl) (by kernel_rfl) (by kernel_rfl) (fun _ _ _ h => h) (yields_row (by rfl) 27 (.tmp 16) rfl g4 rfl 27 _ H4.out Tryd.underlying27 bool4_info) hHeld ?_
      (try simp only [List.getElem_toArray, List.getElem_cons_succ, List.getElem_cons_zero, Act.put, List.setIfInBounds_toArray, List.set_cons_zero, List.set_cons_succ])
      refine wpAnyH_take (i := 24) (oi := _) (v := ?_) rfl (by kernel_rfl) (by kernel_rfl) (by kernel_rfl) (fun _ _ _ h => h) (Or.inl ⟨by rfl, ?_⟩) hHeld ?_
      rotate_left
      · (intro w hSw; (try dsimp only at hSw); first | (go_simp; done) | (go_simp; with_reducible rfl))
      (try simp only [List.getElem_toArray, List.getElem_cons_succ, List.getElem_cons_zero, Act.put, List.setIfInBounds_toArray, List.set_cons_zero, List.set_cons_succ])
      refine wpAnyH_take (i := 25) (oi := _) (v := ?_) rfl (by kernel_rfl) (by kernel_rfl) (by kernel_rfl) (fun _ _ _ h => h) (Or.inl ⟨by rfl, ?_⟩) hHeld ?_
      rotate_left
      · (intro w hSw; (try dsimp only at hSw); first | (go_simp; done) | (go_simp; with_reducible rfl))
      (try simp only [List.getElem_toArray, List.getElem_cons_succ, List.getElem_cons_zero, Act.put, List.setIfInBounds_toArray, List.set_cons_zero, List.set_cons_succ])
      refine wpAnyH_take (i := 26) (oi := _) (v := ?_) rfl (by kernel_rfl) (by kernel_rfl) (by kernel_rfl) (fun _ _ _ h => h) (Or.inl ⟨by rfl, ?_⟩) hHeld ?_
      rotate_left
      · (intro w hSw; (try dsimp only at hSw); first | (go_simp; done) | (go_simp; with_reducible rfl))
      (try simp only [List.getElem_toArray, List.getElem_cons_succ, List.getElem_cons_zero, Act.put, List.setIfInBounds_toArray, List.set_cons_zero, List.set_cons_succ])
      refine wpAnyH_take (i := 27) (oi := _) rfl (by kernel_rfl) (by kernel_rfl) (by kernel_rfl) (fun _ _ _ h => h) (yields_row (by rfl) 27 (.tmp 15) rfl g3 rfl 27 _ H3.out Tryd.underlying27 bool4_info) hHeld ?_
      (try simp only [List.getElem_toArray, List.getElem_cons_succ, List.getElem_cons_zero, Act.put, List.setIfInBounds_toArray, List.set_cons_zero, List.set_cons_succ])
      refine wpAnyH_take (i := 28) (oi := _) (v := ?_) rfl (by kernel_rfl) (by kernel_rfl) (by kernel_rfl) (fun _ _ _ h => h) (Or.inl ⟨by rfl, ?_⟩) hHeld ?_
      rotate_left
      · (intro w hSw; (try dsimp only at hSw); first | (go_simp; done) | (go_simp; with_reducible rfl))
      (try simp only [List.getElem_toArray, List.getElem_cons_succ, List.getElem_cons_zero, Act.put, List.setIfInBounds_toArray, List.set_cons_zero, List.set_cons_succ])
      refine wpAnyH_take (i := 29) (oi := _) (v := ?_) rfl (by kernel_rfl) (by kernel_rfl) (by kernel_rfl) (fun _ _ _ h => h) (Or.inl ⟨by rfl, ?_⟩) hHeld ?_
      rotate_left
      · (intro w hSw; (try dsimp only at hSw); first | (go_simp; done) | (go_simp; with_reducible rfl))
      (try simp only [List.getElem_toArray, List.getElem_cons_succ, List.getElem_cons_zero, Act.put, List.setIfInBounds_toArray, List.set_cons_zero, List.set_cons_succ])
      refine wpAnyH_take (i := 30) (oi := _) (v := ?_) rfl (by kernel_rfl) (by kernel_rfl) (by kernel_rfl) (fun _ _ _ h => h) (Or.inl ⟨by rfl, ?_⟩) hHeld ?_
      rotate_left
      · (intro w hSw; (try dsimp only at hSw); first | (go_simp; done) | (go_simp; with_reducible rfl))
      (try simp only [List.getElem_toArray, List.getElem_cons_succ, List.getElem_cons_zero, Act.put, List.setIfInBounds_toArray, List.set_cons_zero, List.set_cons_succ])
      refine wpAnyH_take (i := 31) (oi := _) (v := ?_) rfl (by kernel_rfl) (by kernel_rfl) (by kernel_rfl) (fun _ _ _ h => h) (Or.inl ⟨by rfl, ?_⟩) hHeld ?_
      rotate_left
      · (intro w hSw; (try dsimp only at hSw); first | (go_simp; done) | (go_simp; with_reducible rfl))
      (try simp only [List.getElem_toArray, List.getElem_cons_succ, List.getElem_cons_zero, Act.put, List.setIfInBounds_toArray, List.set_cons_zero, List.set_cons_succ])
      refine wpAnyH_take (i := 32) (oi := _) (v := ?_) rfl (by kernel_rfl) (by kernel_rfl) (by kernel_rfl) (fun _ _ _ h => h) (Or.inl ⟨by rfl, ?_⟩) hHeld ?_
      rotate_left
      · (intro w hSw; (try dsimp only at hSw); first | (go_simp; done) | (go_simp; with_reducible rfl))
      (try simp only [List.getElem_toArray, List.getElem_cons_succ, List.getElem_cons_zero, Act.put, List.setIfInBounds_toArray, List.set_cons_zero, List.set_cons_succ])
      refine wpAnyH_take (i := 34) (oi := _) (v := ?_) rfl (by kernel_rfl) (by kernel_rfl) (by kernel_rfl) (fun _ _ _ h => h) (Or.inl ⟨by rfl, ?_⟩) hHeld ?_
      rotate_left
      · (intro w hSw; (try dsimp only at hSw); first | (go_simp; done) | (go_simp; with_reducible rfl))
      (try simp only [List.getElem_toArray, List.getElem_cons_succ, List.getElem_cons_zero, Act.put, List.setIfInBounds_toArray, List.set_cons_zero, List.set_cons_succ])
      refine wpAnyH_ready (rs := [33]) (by kernel_rfl) (by simp) ?_
      refine (AllReadyH.cons (o := _) rfl (fun K hK => ?_) AllReadyH.nil)
      go_simp
      refine (frame_any F _).mono ?_
      rintro e w' ⟨rfl, rfl⟩
      go_wp2_with fail
      refine hK.out _ _ hHeld (fun hHeld => ?_)
      clear hK K
      (try simp only [List.getElem_toArray, List.getElem_cons_succ, List.getElem_cons_zero, Act.put, List.setIfInBounds_toArray, List.set_cons_zero, List.set_cons_succ])
      refine wpAnyH_ready (rs := [35]) (by kernel_rfl) (by simp) ?_
      refine (AllReadyH.cons (o := _) rfl (fun K hK => ?_) AllReadyH.nil)
      go_simp
      refine (frame_any G _).mono ?_
      rintro e w' ⟨rfl, rfl⟩
      rw [HFG.out]
      go_wp2_with fail
      refine hK.out _ _ hHeld (fun hHeld => ?_)
      clear hK K
      (try simp only [List.getElem_toArray, List.getElem_cons_succ, List.getElem_cons_zero, Act.put, List.setIfInBounds_toArray, List.set_cons_zero, List.set_cons_succ])
      refine wpAnyH_take (i := 36) (oi := _) (v := ?_) rfl (by kernel_rfl) (by kernel_rfl) (by kernel_rfl) (fun _ _ _ h => h) (Or.inl ⟨by rfl, ?_⟩) hHeld ?_
      rotate_left
      · (intro w hSw; (try dsimp only at hSw); first | (go_simp; done) | (go_simp; with_reducible rfl))
      (try simp only [List.getElem_toArray, List.getElem_cons_succ, List.getElem_cons_zero, Act.put, List.setIfInBounds_toArray, List.set_cons_zero, List.set_cons_succ])
      refine wpAnyH_take (i := 37) (oi := _) (v := ?_) rfl (by kernel_rfl) (by kernel_rfl) (by kernel_rfl) (fun _ _ _ h => h) (Or.inl ⟨by rfl, ?_⟩) hHeld ?_
      rotate_left
      · (intro w hSw; (try dsimp only at hSw); first | (go_simp; done) | (go_simp; with_reducible rfl))
      (try simp only [List.getElem_toArray, List.getElem_cons_succ, List.getElem_cons_zero, Act.put, List.setIfInBounds_toArray, List.set_cons_zero, List.set_cons_succ])
      refine wpAnyH_take (i := 38) (oi := _) (v := ?_) rfl (by kernel_rfl) (by kernel_rfl) (by kernel_rfl) (fun _ _ _ h => h) (Or.inl ⟨by rfl, ?_⟩) hHeld ?_
      rotate_left
      · (intro w hSw; (try dsimp only at hSw); first | (go_simp; done) | (go_simp; with_reducible rfl))
      (try simp only [List.getElem_toArray, List.getElem_cons_succ, List.getElem_cons_zero, Act.put, List.setIfInBounds_toArray, List.set_cons_zero, List.set_cons_succ])
      refine wpAnyH_done (by kernel_rfl) ?_ _
      go_wp2
      go_ret
      exact ⟨rfl, HB.out.trans (hHeld.mono HB.out.size)⟩
end Go.Proofs.YtppkiponpjnkkaaDoor
