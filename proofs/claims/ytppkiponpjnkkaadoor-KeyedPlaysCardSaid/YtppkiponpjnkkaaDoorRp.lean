/-
  The contracts of the reference's Band, Place, Chips and Subset of layer 2. No conditions.
-/
import Derived.Test.YtppkiponpjnkkaaDoorRo
import Derived.Test.YtppkiponpjnkkaaDoorKe
namespace Go.Proofs.YtppkiponpjnkkaaDoor
open Go.RowKit
open M
attribute [local go_sem] un_add un_sub un_xor un_or un_nonneg un_beq un_bne

theorem refBand_any (k : List UInt8) (f : Int) (w : World) (hk : k.length = 16) :
    Calls Tryd.prog 16 #[.agg (byteCells k), .int .i64 f] w fun e w' => e = .returned (.int .i64 (bandOf k f : Nat)) ∧ Below w.heap.size w w' := by
  have HI := Lib.hid (key_info k hk)
  have hm := fr_lt f
  have HB : Hid (bandOf k f = (kord k (UInt8.ofNat (128 + fr f / 8)) 8).getD (fr f % 8) 0) := rfl
  go_enter Tryd.func16, Tryd.ntmps16
  go_wp2_with fail
  refine (refFrame_any f _).mono ?_
  rintro e w' ⟨rfl, rfl⟩
  generalize fr f = m at *
  go_wp2_with (refine wpList_load_row rfl 23 (.tmp 2) rfl w.heap.size rfl 23 (byteCells k) (0, 0) _ (heap_alloc_new _ _) Tryd.underlying23 rfl HI.out ?_)
  rw [band_sign m hm]
  refine (refOrder_any k (UInt8.ofNat (128 + m / 8)) 8 _ hk (by omega) (by omega)).mono ?_
  rintro e w1 ⟨g, cap, rfl, hg, hl, hb⟩
  have HBB : Hid (Below w.heap.size w w1) := ((Below.refl _ _).alloc (Nat.le_refl _) _).trans (hb.mono (by simp))
  have c0 := hl.cell (i := m % 8) (by unfold kord; rw [ord_length]; omega)
  rw [← HB.out] at c0
  clear hl hb hg
  go_wp2
  go_ret
  exact ⟨rfl, HBB.out⟩

theorem refPlace_any (k : List UInt8) (f : Int) (w : World) (hk : k.length = 16) :
    Calls Tryd.prog 18 #[.agg (byteCells k), .int .i64 f] w fun e w' => e = .returned (.int .i64 (placeOf k f : Nat)) ∧ Below w.heap.size w w' := by
  have HI := Lib.hid (key_info k hk)
  have hm := fr_lt f
  have HB : Hid (placeOf k f = (kord k 112 127).getD (fr f % 127) 0) := rfl
  go_enter Tryd.func18, Tryd.ntmps18
  go_wp2_with (refine wpList_load_row rfl 23 (.tmp 2) rfl w.heap.size rfl 23 (byteCells k) (0, 0) _ (heap_alloc_new _ _) Tryd.underlying23 rfl HI.out ?_)
  refine (refOrder_any k 112 127 _ hk (by omega) (by omega)).mono ?_
  rintro e w1 ⟨g, cap, rfl, hg, hl, hb⟩
  have HBB : Hid (Below w.heap.size w w1) := ((Below.refl _ _).alloc (Nat.le_refl _) _).trans (hb.mono (by simp))
  have c0 := hl.cell (i := fr f % 127) (by unfold kord; rw [ord_length]; omega)
  rw [← HB.out] at c0
  clear hl hb hg
  go_wp2_with fail
  refine (refFrame_any f _).mono ?_
  rintro e w' ⟨rfl, rfl⟩
  generalize fr f = m at *
  go_wp2
  go_ret
  exact ⟨rfl, HBB.out⟩

theorem refBit_lit (x : BitVec 64) (n : Int) (i : Nat) (w : World) (hn : n = i) (hi : i ≤ 60) :
    Calls Tryd.prog 23 #[.int .u64 (un x), .int .i64 n] w fun e w' => e = .returned (.int .i64 (bitI x i)) ∧ w = w' := by
  subst hn; exact refBit_any x i w hi
theorem chip_bit (x : BitVec 64) (i : Nat) : 1 - 2 * bitI x i = chip x i := by unfold bitI chip; cases bitB x i <;> rfl
def zeroI : Array Value := #[.int .i64 0, .int .i64 0, .int .i64 0, .int .i64 0]

set_option maxHeartbeats 2000000 in
theorem refChips_any (k : List UInt8) (f : Int) (w : World) (hk : k.length = 16) :
    Calls Tryd.prog 17 #[.agg (byteCells k), .int .i64 f] w fun e w' => e = .returned (.agg (chipsOf k f)) ∧ Below w.heap.size w w' := by
  have HI := Lib.hid (key_info k hk)
  have H0 : Hid (Row ((w.alloc (.cells (byteCells k) 23)).alloc (.cells #[.int .i64 0, .int .i64 0, .int .i64 0, .int .i64 0] 25)) w.heap.size 23 (byteCells k) ∧
      Row ((w.alloc (.cells (byteCells k) 23)).alloc (.cells #[.int .i64 0, .int .i64 0, .int .i64 0, .int .i64 0] 25)) (w.heap.size + 1) 25 #[.int .i64 0, .int .i64 0, .int .i64 0, .int .i64 0] ∧
      Below w.heap.size w ((w.alloc (.cells (byteCells k) 23)).alloc (.cells #[.int .i64 0, .int .i64 0, .int .i64 0, .int .i64 0] 25))) :=
    ⟨heap_alloc2_old _ _ _, heap_alloc2_new _ _ _, ((Below.refl _ _).alloc (Nat.le_refl _) _).alloc (by simp) _⟩
  go_enter Tryd.func17, Tryd.ntmps17
  go_wp2_with fail
  generalize hW : (w.alloc _).alloc _ = W0
  have h1 : Row W0 w.heap.size 23 (byteCells k) ∧ Row W0 (w.heap.size + 1) 25 #[.int .i64 0, .int .i64 0, .int .i64 0, .int .i64 0] ∧ Below w.heap.size w W0 := by rw [← hW]; exact H0.out
  clear hW H0
  have HR := Lib.hid h1.1
  have HV := Lib.hid h1.2.1
  have HB := Lib.hid h1.2.2
  clear h1
  refine wp_region_held_drew (S := fun w' => Below W0.heap.size W0 w') (by kernel_rfl) ?_ (fun hHeld => ?_)
  · exact below_drew1 (Below.refl _ _)
  generalize W0.drew = w2 at hHeld ⊢
  refine wpAnyH_take (i := 0) (oi := _) rfl (by kernel_rfl) (by kernel_rfl) (by kernel_rfl) (fun _ _ _ h => h) (yields_row (by rfl) 23 (.tmp 2) rfl w.heap.size rfl 23 (byteCells k) HR.out Tryd.underlying23 HI.out) hHeld ?_
  (try simp only [List.getElem_toArray, List.getElem_cons_zero, Act.put, List.setIfInBounds_toArray, List.set_cons_zero, List.set_cons_succ])
  refine wpAnyH_take (i := 1) (oi := _) (v := ?_) rfl (by kernel_rfl) (by kernel_rfl) (by kernel_rfl) (fun _ _ _ h => h) (Or.inl ⟨by rfl, ?_⟩) hHeld ?_
  rotate_left
  · (intro w hSw; (try dsimp only at hSw); first | (go_simp; done) | (go_simp; with_reducible rfl))
  (try simp only [List.getElem_toArray, List.getElem_cons_succ, List.getElem_cons_zero, Act.put, List.setIfInBounds_toArray, List.set_cons_zero, List.set_cons_succ])
  refine wpAnyH_ready (rs := [2]) (by kernel_rfl) (by simp) ?_
  refine (AllReadyH.cons (o := _) rfl (fun K hK => ?_) AllReadyH.nil)
  go_simp
  refine (refFrame_any f _).mono ?_
  rintro e w' ⟨rfl, rfl⟩
  go_wp2_with fail
  refine hK.out _ _ hHeld (fun hHeld => ?_)
  clear hK K
  (try simp only [List.getElem_toArray, List.getElem_cons_succ, List.getElem_cons_zero, Act.put, List.setIfInBounds_toArray, List.set_cons_zero, List.set_cons_succ])
  refine wpAnyH_ready (rs := [3]) (by kernel_rfl) (by simp) ?_
  refine (AllReadyH.cons (o := _) rfl (fun K hK => ?_) AllReadyH.nil)
  go_simp
  refine (refNum_any k 99 (fr f : Nat) _ hk).mono ?_
  rintro e w21 ⟨rfl, hb⟩
  go_wp2_with fail
  have hN := hHeld.trans (hb.mono hHeld.size)
  clear hHeld hb
  refine hK.out _ _ hN (fun hHeld => ?_)
  clear hN hK K
  (try simp only [List.getElem_toArray, List.getElem_cons_succ, List.getElem_cons_zero, Act.put, List.setIfInBounds_toArray, List.set_cons_zero, List.set_cons_succ])
  refine wpAnyH_take (i := 4) (oi := _) (v := ?_) rfl (by kernel_rfl) (by kernel_rfl) (by kernel_rfl) (fun _ _ _ h => h) (Or.inl ⟨by rfl, ?_⟩) hHeld ?_
  rotate_left
  · (intro w hSw; (try dsimp only at hSw); first | (go_simp; done) | (go_simp; with_reducible rfl))
  (try simp only [List.getElem_toArray, List.getElem_cons_succ, List.getElem_cons_zero, Act.put, List.setIfInBounds_toArray, List.set_cons_zero, List.set_cons_succ])
  refine wpAnyH_done (by kernel_rfl) ?_ _
  have HX := Lib.hid (And.intro (HB.out.trans (hHeld.mono HB.out.size)) (HV.out.below hHeld HV.out.lt))
  obtain ⟨x, hx⟩ : ∃ x, num k 99 ((fr f : Nat) : Int) = x := ⟨_, rfl⟩
  have HXX := Lib.hid hx
  rw [hx]
  have d0 := bitI_bd x 0
  have d1 := bitI_bd x 1
  have d2 := bitI_bd x 2
  have d3 := bitI_bd x 3
  have HC := Lib.hid (And.intro (chip_bit x 0) (And.intro (chip_bit x 1) (And.intro (chip_bit x 2) (chip_bit x 3))))
  clear hx hHeld HR HB HV HI
  obtain ⟨gr, hgr⟩ : ∃ gr, w.heap.size + 1 = gr := ⟨_, rfl⟩
  rw [hgr] at HX ⊢
  have hwr : w.heap.size ≤ gr := by omega
  have hv := HX.out.2
  have e0 : w21.cell? ⟨gr, 0, none⟩ = some (.int .i64 0) := cell_of_row _ _ _ _ _ _ hv
  have e1 : w21.cell? ⟨gr, 1, none⟩ = some (.int .i64 0) := cell_of_row _ _ _ _ _ _ hv
  have e2 : w21.cell? ⟨gr, 2, none⟩ = some (.int .i64 0) := cell_of_row _ _ _ _ _ _ hv
  have e3 : w21.cell? ⟨gr, 3, none⟩ = some (.int .i64 0) := cell_of_row _ _ _ _ _ _ hv
  have ef := fun i => hv.free i
  clear hgr hv
  go_wp2_with fail
  refine (refBit_lit x 0 0 _ rfl (by omega)).mono ?_
  rintro e w' ⟨rfl, rfl⟩
  go_wp2_with fail
  refine (refBit_lit x 1 1 _ rfl (by omega)).mono ?_
  rintro e w' ⟨rfl, rfl⟩
  go_wp2_with fail
  refine (refBit_lit x 2 2 _ rfl (by omega)).mono ?_
  rintro e w' ⟨rfl, rfl⟩
  go_wp2_with fail
  refine (refBit_lit x 3 3 _ rfl (by omega)).mono ?_
  rintro e w' ⟨rfl, rfl⟩
  go_wp2
  have HF := Lib.hid (And.intro (row_set4 HX.out.2 (.int .i64 (1 - 2 * bitI x 0)) (.int .i64 (1 - 2 * bitI x 1)) (.int .i64 (1 - 2 * bitI x 2)) (.int .i64 (1 - 2 * bitI x 3))) (below_sets4 HX.out.1 hwr (.int .i64 (1 - 2 * bitI x 0)) (.int .i64 (1 - 2 * bitI x 1)) (.int .i64 (1 - 2 * bitI x 2)) (.int .i64 (1 - 2 * bitI x 3))))
  generalize (((w21.setCell ⟨gr, 0, none⟩ _).setCell ⟨gr, 1, none⟩ _).setCell ⟨gr, 2, none⟩ _).setCell ⟨gr, 3, none⟩ _ = W4 at *
  have k0 : W4.cell? ⟨gr, 0, none⟩ = some (.int .i64 (1 - 2 * bitI x 0)) := cell_of_row _ _ _ _ _ _ HF.out.1
  have k1 : W4.cell? ⟨gr, 1, none⟩ = some (.int .i64 (1 - 2 * bitI x 1)) := cell_of_row _ _ _ _ _ _ HF.out.1
  have k2 : W4.cell? ⟨gr, 2, none⟩ = some (.int .i64 (1 - 2 * bitI x 2)) := cell_of_row _ _ _ _ _ _ HF.out.1
  have k3 : W4.cell? ⟨gr, 3, none⟩ = some (.int .i64 (1 - 2 * bitI x 3)) := cell_of_row _ _ _ _ _ _ HF.out.1
  refine bodyPost_ret (v := .agg (chipsOf k f)) (by unfold chipsOf; rw [HXX.out, ← HC.out.1, ← HC.out.2.1, ← HC.out.2.2.1, ← HC.out.2.2.2]; simp [results, Tryd.results17, go_sem, k0, k1, k2, k3]) rfl ⟨rfl, HF.out.2⟩
end Go.Proofs.YtppkiponpjnkkaaDoor
