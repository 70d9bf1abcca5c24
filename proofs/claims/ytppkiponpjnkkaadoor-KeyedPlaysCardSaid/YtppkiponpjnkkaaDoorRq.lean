/-
  The contract of the reference's Subset of layer 2. No conditions.
-/
import Derived.Test.YtppkiponpjnkkaaDoorRp
namespace Go.Proofs.YtppkiponpjnkkaaDoor
open Go.RowKit
open M
attribute [local go_sem] un_add un_sub un_xor un_or un_nonneg un_beq un_bne

set_option maxHeartbeats 1000000 in
theorem refSubset_none (k : List UInt8) (f bn bt : Int) (w : World) (hn : bn < 0 ∨ 7 < bn ∨ bt < 0 ∨ 7 < bt) :
    Calls Tryd.prog 19 #[.agg (byteCells k), .int .i64 f, .int .i64 bn, .int .i64 bt] w fun e w' => e = .returned (.agg allF) ∧ Below w.heap.size w w' := by
  have HR : Hid (Below w.heap.size w ((w.alloc (.cells (byteCells k) 23)).alloc (.cells #[.bool false, .bool false, .bool false, .bool false] 27))) := ((Below.refl _ _).alloc (Nat.le_refl _) _).alloc (by simp) _
  have fin : ∀ (h : (bn < 0 ∨ ¬ bn < 0 ∧ 7 < bn ∨ ¬ bn < 0 ∧ ¬ 7 < bn ∧ bt < 0 ∨ ¬ bn < 0 ∧ ¬ 7 < bn ∧ ¬ bt < 0 ∧ 7 < bt)), Calls Tryd.prog 19 #[.agg (byteCells k), .int .i64 f, .int .i64 bn, .int .i64 bt] w fun e w' => e = .returned (.agg allF) ∧ Below w.heap.size w w' := by
    intro h
    rcases h with h1 | ⟨h1, h2⟩ | ⟨h1, h2, h3⟩ | ⟨h1, h2, h3, h4⟩
    · go_enter Tryd.func19, Tryd.ntmps19
      go_wp2
      exact bodyPost_ret (v := .agg allF) (by unfold allF; simp [results, Tryd.results19, go_sem]) rfl ⟨rfl, HR.out⟩
    · go_enter Tryd.func19, Tryd.ntmps19
      go_wp2
      exact bodyPost_ret (v := .agg allF) (by unfold allF; simp [results, Tryd.results19, go_sem]) rfl ⟨rfl, HR.out⟩
    · go_enter Tryd.func19, Tryd.ntmps19
      go_wp2
      exact bodyPost_ret (v := .agg allF) (by unfold allF; simp [results, Tryd.results19, go_sem]) rfl ⟨rfl, HR.out⟩
    · go_enter Tryd.func19, Tryd.ntmps19
      go_wp2
      exact bodyPost_ret (v := .agg allF) (by unfold allF; simp [results, Tryd.results19, go_sem]) rfl ⟨rfl, HR.out⟩

  exact fin (by omega)

/-- How many of a subset's bits are set, as far as a loop has come. -/
def cntB (x : BitVec 64) (b : Nat) : Nat → Int
  | 0 => 0
  | j + 1 => cntB x b j + bitI x (4 * b + j)
theorem cntB_bd (x : BitVec 64) (b j : Nat) : 0 ≤ cntB x b j ∧ cntB x b j ≤ j := by
  induction j with
  | zero => simp [cntB]
  | succ j ih => have := bitI_bd x (4 * b + j); simp only [cntB]; omega
theorem cntB_none (x : BitVec 64) (b : Nat) : (cntB x b 4 == 0) = none4 x b := by
  unfold none4 subB
  simp only [cntB, bitI, Nat.add_zero]
  cases bitB x (4 * b) <;> cases bitB x (4 * b + 1) <;> cases bitB x (4 * b + 2) <;> cases bitB x (4 * b + 3) <;> rfl
theorem bit_one (x : BitVec 64) (b j : Nat) : (bitI x (4 * b + j) == 1) = subB x b j := by unfold bitI subB; cases bitB x (4 * b + j) <;> rfl

set_option maxRecDepth 100000 in
set_option maxHeartbeats 3000000 in
theorem refSubset_in (k : List UInt8) (f : Int) (bn bt : Nat) (w : World) (hk : k.length = 16) (hbn : bn < 8) (hbt : bt < 8) :
    Calls Tryd.prog 19 #[.agg (byteCells k), .int .i64 f, .int .i64 bn, .int .i64 bt] w fun e w' => e = .returned (.agg (subOf (num k 115 ((fr f * 8 + bn : Nat) : Int)) bt)) ∧ Below w.heap.size w w' := by
  have HI := Lib.hid (key_info k hk)
  have H0 : Hid (Row ((w.alloc (.cells (byteCells k) 23)).alloc (.cells allF 27)) w.heap.size 23 (byteCells k) ∧
      Row ((w.alloc (.cells (byteCells k) 23)).alloc (.cells allF 27)) (w.heap.size + 1) 27 allF ∧
      Below w.heap.size w ((w.alloc (.cells (byteCells k) 23)).alloc (.cells allF 27))) :=
    ⟨heap_alloc2_old _ _ _, heap_alloc2_new _ _ _, ((Below.refl _ _).alloc (Nat.le_refl _) _).alloc (by simp) _⟩
  have hm := fr_lt f
  have hw1 : IntKind.i64.wrap (((fr f : Nat) : Int) * 8) = ((fr f * 8 : Nat) : Int) := (IntWalk.i64_in _ (by omega)).trans (by omega)
  have hw2 : IntKind.i64.wrap (((fr f * 8 : Nat) : Int) + (bn : Int)) = ((fr f * 8 + bn : Nat) : Int) := (IntWalk.i64_in _ (by omega)).trans (by omega)
  obtain ⟨q8, hq8⟩ : ∃ q8, fr f * 8 = q8 := ⟨_, rfl⟩
  rw [hq8] at hw1 hw2 ⊢
  obtain ⟨q9, hq9⟩ : ∃ q9, q8 + bn = q9 := ⟨_, rfl⟩
  rw [hq9] at hw2 ⊢
  clear hq8 hq9
  go_enter Tryd.func19, Tryd.ntmps19
  go_wp2_with fail
  generalize hW : (w.alloc _).alloc _ = W0
  have h1 : Row W0 w.heap.size 23 (byteCells k) ∧ Row W0 (w.heap.size + 1) 27 allF ∧ Below w.heap.size w W0 := by rw [← hW]; exact H0.out
  clear hW H0
  have HR := Lib.hid h1.1
  have HV := Lib.hid h1.2.1
  have HB := Lib.hid h1.2.2
  clear h1
  refine wp_region_held_drew (S := fun w' => Below W0.heap.size W0 w') (by kernel_rfl) ?_ (fun hHeld => ?_)
  · exact below_drew1 (Below.refl _ _)
  generalize W0.drew = w2 at hHeld ⊢
  refine wpAnyH_take (i := 0) (oi := _) rfl (by kernel_rfl) (by kernel_rfl) (by kernel_rfl) (fun _ _ _ h => h) (yields_row (by rfl) 23 (.tmp 4) rfl w.heap.size rfl 23 (byteCells k) HR.out Tryd.underlying23 HI.out) hHeld ?_
  (try simp only [List.getElem_toArray, List.getElem_cons_zero, Act.put, List.setIfInBounds_toArray, List.set_cons_zero, List.set_cons_succ])
  refine wpAnyH_take (i := 1) (oi := _) (v := ?_) rfl (by kernel_rfl) (by kernel_rfl) (by kernel_rfl) (fun _ _ _ h => h) (Or.inl ⟨by rfl, ?_⟩) hHeld ?_
  rotate_left
  · (intro w hSw; (try dsimp only at hSw); first | (go_simp; done) | (go_simp; with_reducible rfl))
  (try simp only [List.getElem_toArray, List.getElem_cons_succ, List.getElem_cons_zero, Act.put, List.setIfInBounds_toArray, List.set_cons_zero, List.set_cons_succ])
  refine wpAnyH_take (i := 4) (oi := _) (v := ?_) rfl (by kernel_rfl) (by kernel_rfl) (by kernel_rfl) (fun _ _ _ h => h) (Or.inl ⟨by rfl, ?_⟩) hHeld ?_
  rotate_left
  · (intro w hSw; (try dsimp only at hSw); first | (go_simp; done) | (go_simp; with_reducible rfl))
  (try simp only [List.getElem_toArray, List.getElem_cons_succ, List.getElem_cons_zero, Act.put, List.setIfInBounds_toArray, List.set_cons_zero, List.set_cons_succ])
  refine wpAnyH_ready (rs := [2]) (by kernel_rfl) (by simp) ?_
  refine (AllReadyH.cons (o := _) rfl (fun K hK => ?_) AllReadyH.nil)
  go_simp
  refine (refFrame_any f _).mono ?_
  rintro e w' ⟨rfl, rfl⟩
  go_wp2_with fail
  refine hK.out _ _ hHeld (fun hHeld => ?_)
  clear hK K
  (try simp only [List.getElem_toArray, List.getElem_cons_succ, List.getElem_cons_zero, Act.put, List.setIfInBounds_toArray, List.set_cons_zero, List.set_cons_succ])
  refine wpAnyH_take (i := 3) (oi := _) (v := ?_) rfl (by kernel_rfl) (by kernel_rfl) (by kernel_rfl) (fun _ _ _ h => h) (Or.inl ⟨by rfl, ?_⟩) hHeld ?_
  rotate_left
  · (intro w hSw; (try dsimp only at hSw); first | (go_simp; done) | (go_simp; with_reducible rfl))
  (try simp only [List.getElem_toArray, List.getElem_cons_succ, List.getElem_cons_zero, Act.put, List.setIfInBounds_toArray, List.set_cons_zero, List.set_cons_succ])
  refine wpAnyH_take (i := 5) (oi := _) (v := ?_) rfl (by kernel_rfl) (by kernel_rfl) (by kernel_rfl) (fun _ _ _ h => h) (Or.inl ⟨by rfl, ?_⟩) hHeld ?_
  rotate_left
  · (intro w hSw; (try dsimp only at hSw); first | (go_simp; done) | (go_simp; with_reducible rfl))
  (try simp only [List.getElem_toArray, List.getElem_cons_succ, List.getElem_cons_zero, Act.put, List.setIfInBounds_toArray, List.set_cons_zero, List.set_cons_succ])
  refine wpAnyH_ready (rs := [6]) (by kernel_rfl) (by simp) ?_
  refine (AllReadyH.cons (o := _) rfl (fun K hK => ?_) AllReadyH.nil)
  go_simp
  refine (refNum_any k 115 (q9 : Nat) _ hk).mono ?_
  rintro e w21 ⟨rfl, hb⟩
  go_wp2_with fail
  have hN := hHeld.trans (hb.mono hHeld.size)
  clear hHeld hb
  refine hK.out _ _ hN (fun hHeld => ?_)
  clear hN hK K
  (try simp only [List.getElem_toArray, List.getElem_cons_succ, List.getElem_cons_zero, Act.put, List.setIfInBounds_toArray, List.set_cons_zero, List.set_cons_succ])
  refine wpAnyH_take (i := 7) (oi := _) (v := ?_) rfl (by kernel_rfl) (by kernel_rfl) (by kernel_rfl) (fun _ _ _ h => h) (Or.inl ⟨by rfl, ?_⟩) hHeld ?_
  rotate_left
  · (intro w hSw; (try dsimp only at hSw); first | (go_simp; done) | (go_simp; with_reducible rfl))
  (try simp only [List.getElem_toArray, List.getElem_cons_succ, List.getElem_cons_zero, Act.put, List.setIfInBounds_toArray, List.set_cons_zero, List.set_cons_succ])
  refine wpAnyH_done (by kernel_rfl) ?_ _
  have HX := Lib.hid (And.intro (HB.out.trans (hHeld.mono HB.out.size)) (HV.out.below hHeld HV.out.lt))
  obtain ⟨x, hx⟩ : ∃ x, num k 115 (q9 : Int) = x := ⟨_, rfl⟩
  have HXX := Lib.hid hx
  rw [hx]
  clear hx hHeld HR HB HV HI hw1 hw2
  obtain ⟨gr, hgr⟩ : ∃ gr, w.heap.size + 1 = gr := ⟨_, rfl⟩
  rw [hgr] at HX ⊢
  obtain ⟨gc, hgc⟩ : ∃ gc, w21.heap.size = gc := ⟨_, rfl⟩
  have hb4 : gr ≠ gc := by have := HX.out.2.lt; omega
  have hwr : w.heap.size ≤ gr := by omega
  have hwg : w.heap.size ≤ gc := by have := HX.out.1.size; omega
  have HA : Hid (Row (w21.alloc (.cells allF 27)) gc 27 allF ∧ Row (w21.alloc (.cells allF 27)) gr 27 allF ∧ Below w.heap.size w (w21.alloc (.cells allF 27))) :=
    ⟨row_new _ _ hgc _ _, HX.out.2.alloc _, HX.out.1.alloc HX.out.1.size _⟩
  clear hgr
  go_wp2_with fail
  clear hgc
  go_loopw [11, 12] (fun n i wr => ∃ j : Nat, j ≤ 4 ∧ i = .int .i64 j ∧ n = .int .i64 (cntB x bt j) ∧ Row wr gc 27 (upTo4 (fun t => .bool (subB x bt t)) (.bool false) j) ∧ Row wr gr 27 allF ∧ Below w.heap.size w wr) (fun _ i _ => 4 - (intOf i).toNat)
  case atStart => exact ⟨0, Nat.zero_le _, rfl, rfl, HA.out.1, HA.out.2.1, HA.out.2.2⟩
  case round =>
    clear HA HX
    obtain ⟨j, hj, rfl, rfl, hr, hv, hbel⟩ := hrel
    have HR := Lib.hid hr
    have HV := Lib.hid hv
    have HB := Lib.hid hbel
    by_cases hlt : j < 4
    · obtain ⟨u0, hu0⟩ := upTo4_get (fun t => .bool (subB x bt t)) (.bool false) j j hlt
      have c0 : wr.cell? ⟨gc, j, none⟩ = some u0 := (cell_of_row _ _ _ _ _ _ hr).trans hu0
      have f0 := hr.free j
      have hji : (j : Int) < 4 := by omega
      have HS1 := Lib.hid (upTo4_set (fun t => .bool (subB x bt t)) (.bool false) j hlt)
      have hc := cntB_bd x bt j
      have HC1 : Hid (cntB x bt j + bitI x (4 * bt + j) = cntB x bt (j + 1)) := rfl
      have hbd := bitI_bd x (4 * bt + j)
      have HB1 := Lib.hid (bit_one x bt j)
      clear hr hv hbel hu0
      obtain ⟨c, hcc⟩ : ∃ c, cntB x bt j = c := ⟨_, rfl⟩
      rw [hcc] at hc HC1 ⊢
      clear hcc
      go_wp2_with fail
      refine (refBit_lit x _ (4 * bt + j) _ (by omega) (by omega)).mono ?_
      rintro e w4 ⟨rfl, rfl⟩
      obtain ⟨b, hb⟩ : ∃ b, bitI x (4 * bt + j) = b := ⟨_, rfl⟩
      rw [hb] at hbd HC1 HB1 ⊢
      go_wp2_with fail
      refine (refBit_lit x _ (4 * bt + j) _ (by omega) (by omega)).mono ?_
      rintro e w4 ⟨rfl, rfl⟩
      rw [hb]
      clear hb
      go_wp2
      go_roundw
      case rel =>
        refine ⟨j + 1, by omega, by go_num, by rw [← HC1.out], ?_, HV.out.far (p := ⟨gc, j, none⟩) hb4 _, HB.out.setCell (p := ⟨gc, j, none⟩) hwg _⟩
        rw [← HS1.out, ← HB1.out]
        exact HR.out.set j _
      case measure => simp [intOf]; omega
    · obtain rfl : j = 4 := by omega
      rw [upTo4_done] at hr
      have HN := Lib.hid (cntB_none x bt)
      obtain ⟨c, hcc⟩ : ∃ c, cntB x bt 4 = c := ⟨_, rfl⟩
      rw [hcc] at HN ⊢
      clear hcc
      obtain ⟨s0, hs0⟩ : ∃ s0, subB x bt 0 = s0 := ⟨_, rfl⟩
      obtain ⟨s1, hs1⟩ : ∃ s1, subB x bt 1 = s1 := ⟨_, rfl⟩
      obtain ⟨s2, hs2⟩ : ∃ s2, subB x bt 2 = s2 := ⟨_, rfl⟩
      obtain ⟨s3, hs3⟩ : ∃ s3, subB x bt 3 = s3 := ⟨_, rfl⟩
      have HSS := Lib.hid (And.intro hs0 (And.intro hs1 (And.intro hs2 hs3)))
      rw [hs0, hs1, hs2, hs3] at hr
      clear hs0 hs1 hs2 hs3
      have c0 : wr.cell? ⟨gc, 0, none⟩ = some (.bool s0) := cell_of_row _ _ _ _ _ _ hr
      have c1 : wr.cell? ⟨gc, 1, none⟩ = some (.bool s1) := cell_of_row _ _ _ _ _ _ hr
      have c2 : wr.cell? ⟨gc, 2, none⟩ = some (.bool s2) := cell_of_row _ _ _ _ _ _ hr
      have c3 : wr.cell? ⟨gc, 3, none⟩ = some (.bool s3) := cell_of_row _ _ _ _ _ _ hr
      have cf := fun i => hr.free i
      have d0 : wr.cell? ⟨gr, 0, none⟩ = some (.bool false) := cell_of_row _ _ _ _ _ _ hv
      have d1 : wr.cell? ⟨gr, 1, none⟩ = some (.bool false) := cell_of_row _ _ _ _ _ _ hv
      have d2 : wr.cell? ⟨gr, 2, none⟩ = some (.bool false) := cell_of_row _ _ _ _ _ _ hv
      have d3 : wr.cell? ⟨gr, 3, none⟩ = some (.bool false) := cell_of_row _ _ _ _ _ _ hv
      have df := fun i => hv.free i
      by_cases hnn : c = 0
      · have HN0 : Hid (none4 x bt = true) := by unfold Hid; rw [← HN.out, hnn]; rfl
        have hv2 := hv.far (p := ⟨gc, 0, none⟩) hb4 (.bool true)
        have hbel2 := hbel.setCell (p := ⟨gc, 0, none⟩) hwg (.bool true)
        have hr2 := hr.set 0 (.bool true)
        have k0 : (wr.setCell ⟨gc, 0, none⟩ (.bool true)).cell? ⟨gc, 0, none⟩ = some (.bool true) := cell_of_row _ _ _ _ _ _ hr2
        have k1 : (wr.setCell ⟨gc, 0, none⟩ (.bool true)).cell? ⟨gc, 1, none⟩ = some (.bool s1) := cell_of_row _ _ _ _ _ _ hr2
        have k2 : (wr.setCell ⟨gc, 0, none⟩ (.bool true)).cell? ⟨gc, 2, none⟩ = some (.bool s2) := cell_of_row _ _ _ _ _ _ hr2
        have k3 : (wr.setCell ⟨gc, 0, none⟩ (.bool true)).cell? ⟨gc, 3, none⟩ = some (.bool s3) := cell_of_row _ _ _ _ _ _ hr2
        have HF := Lib.hid (And.intro (row_set4 hv2 (.bool true) (.bool s1) (.bool s2) (.bool s3)) (below_sets4 hbel2 hwr (.bool true) (.bool s1) (.bool s2) (.bool s3)))
        clear hr hv hbel hj hlt HV HB HR hv2 hbel2 hr2 HN
        subst hnn
        go_wp2
        generalize ((((wr.setCell ⟨gc, 0, none⟩ (.bool true)).setCell ⟨gr, 0, none⟩ (.bool true)).setCell ⟨gr, 1, none⟩ (.bool s1)).setCell ⟨gr, 2, none⟩ (.bool s2)).setCell ⟨gr, 3, none⟩ (.bool s3) = W4 at *
        have e0 : W4.cell? ⟨gr, 0, none⟩ = some (.bool true) := cell_of_row _ _ _ _ _ _ HF.out.1
        have e1 : W4.cell? ⟨gr, 1, none⟩ = some (.bool s1) := cell_of_row _ _ _ _ _ _ HF.out.1
        have e2 : W4.cell? ⟨gr, 2, none⟩ = some (.bool s2) := cell_of_row _ _ _ _ _ _ HF.out.1
        have e3 : W4.cell? ⟨gr, 3, none⟩ = some (.bool s3) := cell_of_row _ _ _ _ _ _ HF.out.1
        refine bodyPost_ret (v := .agg (subOf (num k 115 (q9 : Int)) bt)) (by unfold subOf; rw [HXX.out, HSS.out.1, HSS.out.2.1, HSS.out.2.2.1, HSS.out.2.2.2, HN0.out, Bool.or_true]; simp [results, Tryd.results19, go_sem, e0, e1, e2, e3]) rfl ⟨rfl, HF.out.2⟩
      · have HN0 : Hid (none4 x bt = false) := by unfold Hid; rw [← HN.out]; exact beq_eq_false_iff_ne.2 hnn
        have hnb : (c == 0) = false := beq_eq_false_iff_ne.2 hnn
        have HF := Lib.hid (And.intro (row_set4 hv (.bool s0) (.bool s1) (.bool s2) (.bool s3)) (below_sets4 hbel hwr (.bool s0) (.bool s1) (.bool s2) (.bool s3)))
        clear hr hv hbel hj hlt HV HB HR HN
        go_wp2
        generalize (((wr.setCell ⟨gr, 0, none⟩ (.bool s0)).setCell ⟨gr, 1, none⟩ (.bool s1)).setCell ⟨gr, 2, none⟩ (.bool s2)).setCell ⟨gr, 3, none⟩ (.bool s3) = W4 at *
        have e0 : W4.cell? ⟨gr, 0, none⟩ = some (.bool s0) := cell_of_row _ _ _ _ _ _ HF.out.1
        have e1 : W4.cell? ⟨gr, 1, none⟩ = some (.bool s1) := cell_of_row _ _ _ _ _ _ HF.out.1
        have e2 : W4.cell? ⟨gr, 2, none⟩ = some (.bool s2) := cell_of_row _ _ _ _ _ _ HF.out.1
        have e3 : W4.cell? ⟨gr, 3, none⟩ = some (.bool s3) := cell_of_row _ _ _ _ _ _ HF.out.1
        refine bodyPost_ret (v := .agg (subOf (num k 115 (q9 : Int)) bt)) (by unfold subOf; rw [HXX.out, HSS.out.1, HSS.out.2.1, HSS.out.2.2.1, HSS.out.2.2.2, HN0.out, Bool.or_false]; simp [results, Tryd.results19, go_sem, e0, e1, e2, e3]) rfl ⟨rfl, HF.out.2⟩
end Go.Proofs.YtppkiponpjnkkaaDoor
