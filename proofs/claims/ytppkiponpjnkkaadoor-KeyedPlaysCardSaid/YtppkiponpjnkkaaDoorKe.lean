/-
  The contract of layer 2's Subset. Condition: the signs lie as the program's text lays them.
-/
import Derived.Test.YtppkiponpjnkkaaDoorKd
namespace Go.Proofs.YtppkiponpjnkkaaDoor
open Go.RowKit
open M
attribute [local go_sem] un_add un_sub un_xor un_or un_nonneg un_beq un_bne

def eqB4 (a b c d e f g h : Bool) : Bool := a == e && b == f && c == g && d == h
theorem eq31 (a b c d e f g h : Bool) (w : World) :
    (Op.equalIn 10000 27 (.agg #[.bool a, .bool b, .bool c, .bool d]) (.agg #[.bool e, .bool f, .bool g, .bool h])).run Tryd.prog w = .ok (eqB4 a b c d e f g h) w := by
  have u3 := Tryd.underlying4
  have a3 := Tryd.isAgg4
  have z3 := Tryd.sizeOf4
  rw [show (10000 : Nat) = 9999 + 1 from rfl, Op.equalIn]
  simp only [Sem.run_bind, run_underlying Tryd.underlying27, Result.andThen_ok]
  simp only [Std.Legacy.Range.forIn_eq_forIn_range', Std.Legacy.Range.size, Nat.sub_zero, Nat.add_sub_cancel, Nat.div_one, List.range'_succ, List.range'_zero, List.forIn_cons, List.forIn_nil]
  go_simp
  revert a b c d e f g h
  unfold eqB4
  intro a b c d e f g h
  cases a <;> cases e <;> cases b <;> cases f <;> cases c <;> cases g <;> cases d <;> cases h <;> rfl
attribute [local go_sem] eq31

def allF : Array Value := #[.bool false, .bool false, .bool false, .bool false]
def subOf (x : BitVec 64) (b : Nat) : Array Value := #[.bool (subB x b 0 || none4 x b), .bool (subB x b 1), .bool (subB x b 2), .bool (subB x b 3)]
theorem eqB4_none (x : BitVec 64) (b : Nat) : eqB4 (subB x b 0) (subB x b 1) (subB x b 2) (subB x b 3) false false false false = none4 x b := by
  unfold eqB4 none4
  cases subB x b 0 <;> cases subB x b 1 <;> cases subB x b 2 <;> cases subB x b 3 <;> rfl

set_option maxHeartbeats 1000000 in
theorem subset_none (k : List UInt8) (f bn bt : Int) (w : World) (hn : bn < 0 ∨ 7 < bn ∨ bt < 0 ∨ 7 < bt) :
    Calls Tryd.prog 7 #[.agg (byteCells k), .int .i64 f, .int .i64 bn, .int .i64 bt] w fun e w' => e = .returned (.agg allF) ∧ Below w.heap.size w w' := by
  have HB : Hid (Below w.heap.size w (((w.alloc (.cells (byteCells k) 23)).alloc (.cells allF 27)).alloc (.cells allF 27))) := (((Below.refl _ _).alloc (Nat.le_refl _) _).alloc (by simp) _).alloc (by simp; omega) _
  have HR : Hid (Row (((w.alloc (.cells (byteCells k) 23)).alloc (.cells allF 27)).alloc (.cells allF 27)) (w.heap.size + 1) 27 allF ∧ Row (((w.alloc (.cells (byteCells k) 23)).alloc (.cells allF 27)).alloc (.cells allF 27)) (w.heap.size + 2) 27 allF) :=
    ⟨Row.alloc (heap_alloc2_new _ _ _) _, row_new _ _ (by simp) _ _⟩
  have fin : ∀ (h : (bn < 0 ∨ ¬ bn < 0 ∧ 8 ≤ bn ∨ ¬ bn < 0 ∧ ¬ 8 ≤ bn ∧ bt < 0 ∨ ¬ bn < 0 ∧ ¬ 8 ≤ bn ∧ ¬ bt < 0 ∧ 8 ≤ bt)), Calls Tryd.prog 7 #[.agg (byteCells k), .int .i64 f, .int .i64 bn, .int .i64 bt] w fun e w' => e = .returned (.agg allF) ∧ Below w.heap.size w w' := by
    intro h
    rcases h with h1 | ⟨h1, h2⟩ | ⟨h1, h2, h3⟩ | ⟨h1, h2, h3, h4⟩
    · go_enter Tryd.func7, Tryd.ntmps7
      go_wp2_with fail
      generalize hW : ((w.alloc _).alloc _).alloc _ = W0
      have hh : Row W0 (w.heap.size + 1) 27 allF ∧ Row W0 (w.heap.size + 2) 27 allF ∧ Below w.heap.size w W0 := by rw [← hW]; exact ⟨HR.out.1, HR.out.2, HB.out⟩
      clear hW HR HB
      have e0 : W0.cell? ⟨w.heap.size + 1, 0, none⟩ = some (.bool false) := cell_of_row _ _ _ _ _ _ hh.1
      have e1 : W0.cell? ⟨w.heap.size + 1, 1, none⟩ = some (.bool false) := cell_of_row _ _ _ _ _ _ hh.1
      have e2 : W0.cell? ⟨w.heap.size + 1, 2, none⟩ = some (.bool false) := cell_of_row _ _ _ _ _ _ hh.1
      have e3 : W0.cell? ⟨w.heap.size + 1, 3, none⟩ = some (.bool false) := cell_of_row _ _ _ _ _ _ hh.1
      refine bodyPost_ret (v := .agg allF) (by unfold allF; simp [results, Tryd.results7, go_sem, e0, e1, e2, e3]) rfl ⟨rfl, hh.2.2⟩
    · go_enter Tryd.func7, Tryd.ntmps7
      go_wp2_with fail
      generalize hW : ((w.alloc _).alloc _).alloc _ = W0
      have hh : Row W0 (w.heap.size + 1) 27 allF ∧ Row W0 (w.heap.size + 2) 27 allF ∧ Below w.heap.size w W0 := by rw [← hW]; exact ⟨HR.out.1, HR.out.2, HB.out⟩
      clear hW HR HB
      have e0 : W0.cell? ⟨w.heap.size + 1, 0, none⟩ = some (.bool false) := cell_of_row _ _ _ _ _ _ hh.1
      have e1 : W0.cell? ⟨w.heap.size + 1, 1, none⟩ = some (.bool false) := cell_of_row _ _ _ _ _ _ hh.1
      have e2 : W0.cell? ⟨w.heap.size + 1, 2, none⟩ = some (.bool false) := cell_of_row _ _ _ _ _ _ hh.1
      have e3 : W0.cell? ⟨w.heap.size + 1, 3, none⟩ = some (.bool false) := cell_of_row _ _ _ _ _ _ hh.1
      refine bodyPost_ret (v := .agg allF) (by unfold allF; simp [results, Tryd.results7, go_sem, e0, e1, e2, e3]) rfl ⟨rfl, hh.2.2⟩
    · go_enter Tryd.func7, Tryd.ntmps7
      go_wp2_with fail
      generalize hW : ((w.alloc _).alloc _).alloc _ = W0
      have hh : Row W0 (w.heap.size + 1) 27 allF ∧ Row W0 (w.heap.size + 2) 27 allF ∧ Below w.heap.size w W0 := by rw [← hW]; exact ⟨HR.out.1, HR.out.2, HB.out⟩
      clear hW HR HB
      have e0 : W0.cell? ⟨w.heap.size + 1, 0, none⟩ = some (.bool false) := cell_of_row _ _ _ _ _ _ hh.1
      have e1 : W0.cell? ⟨w.heap.size + 1, 1, none⟩ = some (.bool false) := cell_of_row _ _ _ _ _ _ hh.1
      have e2 : W0.cell? ⟨w.heap.size + 1, 2, none⟩ = some (.bool false) := cell_of_row _ _ _ _ _ _ hh.1
      have e3 : W0.cell? ⟨w.heap.size + 1, 3, none⟩ = some (.bool false) := cell_of_row _ _ _ _ _ _ hh.1
      refine bodyPost_ret (v := .agg allF) (by unfold allF; simp [results, Tryd.results7, go_sem, e0, e1, e2, e3]) rfl ⟨rfl, hh.2.2⟩
    · go_enter Tryd.func7, Tryd.ntmps7
      go_wp2_with fail
      generalize hW : ((w.alloc _).alloc _).alloc _ = W0
      have hh : Row W0 (w.heap.size + 1) 27 allF ∧ Row W0 (w.heap.size + 2) 27 allF ∧ Below w.heap.size w W0 := by rw [← hW]; exact ⟨HR.out.1, HR.out.2, HB.out⟩
      clear hW HR HB
      have e0 : W0.cell? ⟨w.heap.size + 1, 0, none⟩ = some (.bool false) := cell_of_row _ _ _ _ _ _ hh.1
      have e1 : W0.cell? ⟨w.heap.size + 1, 1, none⟩ = some (.bool false) := cell_of_row _ _ _ _ _ _ hh.1
      have e2 : W0.cell? ⟨w.heap.size + 1, 2, none⟩ = some (.bool false) := cell_of_row _ _ _ _ _ _ hh.1
      have e3 : W0.cell? ⟨w.heap.size + 1, 3, none⟩ = some (.bool false) := cell_of_row _ _ _ _ _ _ hh.1
      refine bodyPost_ret (v := .agg allF) (by unfold allF; simp [results, Tryd.results7, go_sem, e0, e1, e2, e3]) rfl ⟨rfl, hh.2.2⟩

  exact fin (by omega)

set_option maxRecDepth 100000 in
set_option maxHeartbeats 3000000 in
theorem subset_in (k : List UInt8) (f : Int) (bn bt : Nat) (w : World) (hk : k.length = 16) (hbn : bn < 8) (hbt : bt < 8) (h : Signs w) :
    Calls Tryd.prog 7 #[.agg (byteCells k), .int .i64 f, .int .i64 bn, .int .i64 bt] w fun e w' => e = .returned (.agg (subOf (num k 115 ((fr f * 8 + bn : Nat) : Int)) bt)) ∧ Below w.heap.size w w' := by
  have HI := Lib.hid (key_info k hk)
  have H0 : Hid (Row (((w.alloc (.cells (byteCells k) 23)).alloc (.cells allF 27)).alloc (.cells allF 27)) w.heap.size 23 (byteCells k) ∧
      Row (((w.alloc (.cells (byteCells k) 23)).alloc (.cells allF 27)).alloc (.cells allF 27)) (w.heap.size + 1) 27 allF ∧
      Row (((w.alloc (.cells (byteCells k) 23)).alloc (.cells allF 27)).alloc (.cells allF 27)) (w.heap.size + 1 + 1) 27 allF ∧
      Below w.heap.size w (((w.alloc (.cells (byteCells k) 23)).alloc (.cells allF 27)).alloc (.cells allF 27))) :=
    ⟨Row.alloc (heap_alloc2_old _ _ _) _, Row.alloc (heap_alloc2_new _ _ _) _, row_new _ _ (by simp) _ _, (((Below.refl _ _).alloc (Nat.le_refl _) _).alloc (by simp) _).alloc (by simp; omega) _⟩
  have HG := Lib.hid h
  have HK := Lib.hid hk
  have hm := fr_lt f
  have hw1 : IntKind.i64.wrap (((fr f : Nat) : Int) * 8) = ((fr f * 8 : Nat) : Int) := (IntWalk.i64_in _ (by omega)).trans (by omega)
  have hw2 : IntKind.i64.wrap (((fr f * 8 : Nat) : Int) + (bn : Int)) = ((fr f * 8 + bn : Nat) : Int) := (IntWalk.i64_in _ (by omega)).trans (by omega)
  obtain ⟨q8, hq8⟩ : ∃ q8, fr f * 8 = q8 := ⟨_, rfl⟩
  rw [hq8] at hw1 hw2 ⊢
  obtain ⟨q9, hq9⟩ : ∃ q9, q8 + bn = q9 := ⟨_, rfl⟩
  rw [hq9] at hw2 ⊢
  clear h hq8 hq9
  go_enter Tryd.func7, Tryd.ntmps7
  go_wp2_with fail
  generalize hW : ((w.alloc _).alloc _).alloc _ = W0
  have h1 : Row W0 w.heap.size 23 (byteCells k) ∧ Row W0 (w.heap.size + 1) 27 allF ∧ Row W0 (w.heap.size + 1 + 1) 27 allF ∧ Below w.heap.size w W0 := by rw [← hW]; exact H0.out
  clear hW H0
  have HR := Lib.hid h1.1
  have HV := Lib.hid h1.2.1
  have HU := Lib.hid h1.2.2.1
  have HB := Lib.hid h1.2.2.2
  have HS := Lib.hid (HG.out.below h1.2.2.2 HG.out.lt)
  clear h1 HG
  refine wp_region_held_drew (S := fun w' => Below W0.heap.size W0 w') (by kernel_rfl) ?_ (fun hHeld => ?_)
  · exact below_drew1 (Below.refl _ _)
  refine wpAnyH_take (i := 0) (oi := _) rfl (by kernel_rfl) (by kernel_rfl) (by kernel_rfl) (fun _ _ _ h => h) (yields_row (by rfl) 23 (.tmp 4) rfl w.heap.size rfl 23 (byteCells k) HR.out Tryd.underlying23 HI.out) hHeld ?_
  (try simp only [List.getElem_toArray, List.getElem_cons_zero, Act.put, List.setIfInBounds_toArray, List.set_cons_zero, List.set_cons_succ])
  refine wpAnyH_take (i := 1) (oi := _) (v := ?_) rfl (by kernel_rfl) (by kernel_rfl) (by kernel_rfl) (fun _ _ _ h => h) (Or.inl ⟨by rfl, ?_⟩) hHeld ?_
  rotate_left
  · (intro w hSw; (try dsimp only at hSw); first | (go_simp; done) | (go_simp; with_reducible rfl))
  (try simp only [List.getElem_toArray, List.getElem_cons_succ, List.getElem_cons_zero, Act.put, List.setIfInBounds_toArray, List.set_cons_zero, List.set_cons_succ])
  refine wpAnyH_take (i := 4) (oi := _) (v := ?_) rfl (by kernel_rfl) (by kernel_rfl) (by kernel_rfl) (fun _ _ _ h => h) (Or.inl ⟨by rfl, ?_⟩) hHeld ?_
  rotate_left
  · (intro w hSw; (try dsimp only at hSw); first | (go_simp; done) | (go_simp; with_reducible rfl))
  (try simp only [List.getElem_toArray, List.getElem_cons_succ, List.getElem_cons_zero, Act.put, List.setIfInBounds_toArray, List.set_cons_zero, List.set_cons_succ])
  refine wpAnyH_ready (rs := [2]) (by kernel_rfl) (by simp) ?_
  refine AllReadyH.cons (o := _) rfl (fun K hK => ?_) AllReadyH.nil
  go_simp
  refine (frame_any f _).mono ?_
  rintro e w' ⟨rfl, rfl⟩
  go_wp2_with fail
  refine hK.out _ _ hHeld (fun hHeld => ?_)
  clear hK K
  (try simp only [List.getElem_toArray, List.getElem_cons_succ, List.getElem_cons_zero, Act.put, List.setIfInBounds_toArray, List.set_cons_zero, List.set_cons_succ])
  refine wpAnyH_take (i := 3) (oi := _) (v := ?_) rfl (by kernel_rfl) (by kernel_rfl) (by kernel_rfl) (fun _ _ _ h => h) (Or.inl ⟨by rfl, ?_⟩) hHeld ?_
  rotate_left
  · (intro w hSw; (try dsimp only at hSw); first | (go_simp; done) | (go_simp; with_reducible rfl))
  (try simp only [List.getElem_toArray, List.getElem_cons_succ, List.getElem_cons_zero, Act.put, List.setIfInBounds_toArray, List.set_cons_zero, List.set_cons_succ])
  refine wpAnyH_take (i := 5) (oi := _) (v := ?_) rfl (by kernel_rfl) (by kernel_rfl) (by kernel_rfl) (fun _ _ _ h => h) (Or.inl ⟨by rfl, ?_⟩) hHeld ?_
  rotate_left
  · (intro w hSw; (try dsimp only at hSw); first | (go_simp; done) | (go_simp; with_reducible rfl))
  (try simp only [List.getElem_toArray, List.getElem_cons_succ, List.getElem_cons_zero, Act.put, List.setIfInBounds_toArray, List.set_cons_zero, List.set_cons_succ])
  refine wpAnyH_ready (rs := [6]) (by kernel_rfl) (by simp) ?_
  refine AllReadyH.cons (o := _) rfl (fun K hK => ?_) AllReadyH.nil
  go_simp
  refine (num_any k 115 (q9 : Nat) _ HK.out (HS.out.below hHeld HS.out.lt)).mono ?_
  rintro e w2 ⟨rfl, hb⟩
  go_wp2_with fail
  have hN := hHeld.trans (hb.mono hHeld.size)
  have hN2 := hN.size
  clear hHeld hb
  refine hK.out _ _ hN (fun hHeld => ?_)
  clear hN
  clear hK K
  (try simp only [List.getElem_toArray, List.getElem_cons_succ, List.getElem_cons_zero, Act.put, List.setIfInBounds_toArray, List.set_cons_zero, List.set_cons_succ])
  refine wpAnyH_ready (rs := [7]) (by kernel_rfl) (by simp) ?_
  refine AllReadyH.cons (o := _) rfl (fun K hK => ?_) AllReadyH.nil
  go_simp
  refine (bitsOf_any (num k 115 (q9 : Int)) _).mono ?_
  rintro e w3 ⟨rfl, hbit, hb⟩
  go_wp2_with fail
  have hN := hHeld.trans (hb.mono hHeld.size)
  clear hHeld hb
  refine hK.out _ _ hN (fun hHeld => ?_)
  clear hN
  clear hK K
  (try simp only [List.getElem_toArray, List.getElem_cons_succ, List.getElem_cons_zero, Act.put, List.setIfInBounds_toArray, List.set_cons_zero, List.set_cons_succ])
  refine wpAnyH_take (i := 8) (oi := _) (v := ?_) rfl (by kernel_rfl) (by kernel_rfl) (by kernel_rfl) (fun _ _ _ h => h) (Or.inl ⟨by rfl, ?_⟩) hHeld ?_
  rotate_left
  · (intro w hSw; (try dsimp only at hSw); first | (go_simp; done) | (go_simp; with_reducible rfl))
  (try simp only [List.getElem_toArray, List.getElem_cons_succ, List.getElem_cons_zero, Act.put, List.setIfInBounds_toArray, List.set_cons_zero, List.set_cons_succ])
  refine wpAnyH_done (by kernel_rfl) ?_ _
  have HX := Lib.hid (And.intro hbit (And.intro (HB.out.trans (hHeld.mono HB.out.size)) (And.intro (HV.out.below hHeld HV.out.lt) (HU.out.below hHeld HU.out.lt))))
  have hsz : W0.heap.size ≤ w2.heap.size := hN2
  have hu0 := HU.out.lt
  obtain ⟨x, hx⟩ : ∃ x, num k 115 (q9 : Int) = x := ⟨_, rfl⟩
  have HXX := Lib.hid hx
  rw [hx] at HX
  clear hx hbit hHeld HR HB HV HU HS HI hN2
  obtain ⟨gc, hgc⟩ : ∃ gc, w.heap.size + 1 + 1 = gc := ⟨_, rfl⟩
  obtain ⟨gb, hgb⟩ : ∃ gb, w2.heap.size = gb := ⟨_, rfl⟩
  obtain ⟨gr, hgr⟩ : ∃ gr, w.heap.size + 1 = gr := ⟨_, rfl⟩
  rw [hgr] at HX
  rw [show gr + 1 = gc by omega, hgb] at HX
  have hb5 : gb ≠ gc := by omega
  have hb4 : gr ≠ gc := by omega
  have hwg : w.heap.size ≤ gc := by omega
  have hwr : w.heap.size ≤ gr := by omega
  rw [hgr]
  rw [show gr + 1 = gc by omega, hgb]
  clear hsz hu0
  go_wp2_with fail
  go_loopw [35] (fun i wr => ∃ j : Nat, j ≤ 4 ∧ i = .int .i64 j ∧ Row wr gc 27 (upTo4 (fun t => .bool (subB x bt t)) (.bool false) j) ∧ Row wr gb 32 #[.int .u64 (un x)] ∧ Row wr gr 27 allF ∧ Below w.heap.size w wr) (fun i _ => 4 - (intOf i).toNat)
  case atStart => exact ⟨0, Nat.zero_le _, rfl, HX.out.2.2.2, HX.out.1, HX.out.2.2.1, HX.out.2.1⟩
  case round =>
    clear HX
    obtain ⟨j, hj, rfl, hr, hb, hv, hbel⟩ := hrel
    have HR := Lib.hid hr
    have HBT := Lib.hid hb
    have HV := Lib.hid hv
    have HB := Lib.hid hbel
    by_cases hlt : j < 4
    · obtain ⟨u0, hu0⟩ := upTo4_get (fun t => .bool (subB x bt t)) (.bool false) j j hlt
      have c0 : wr.cell? ⟨gc, j, none⟩ = some u0 := (cell_of_row _ _ _ _ _ _ hr).trans hu0
      have f0 := hr.free j
      have hji : (j : Int) < 4 := by omega
      have HS1 := Lib.hid (upTo4_set (fun t => .bool (subB x bt t)) (.bool false) j hlt)
      clear hr hb hv hbel hu0
      go_wp2_with fail
      rw [show 4 * (bt : Int) + (j : Int) = ((4 * bt + j : Nat) : Int) by omega]
      refine (bit_any x (4 * bt + j) gb _ (by omega) HBT.out).mono ?_
      rintro e w4 ⟨rfl, rfl⟩
      go_wp2
      go_roundw
      case rel =>
        refine ⟨j + 1, by omega, by go_num, ?_, HBT.out.far (p := ⟨gc, j, none⟩) hb5 _, HV.out.far (p := ⟨gc, j, none⟩) hb4 _, HB.out.setCell (p := ⟨gc, j, none⟩) hwg _⟩
        rw [← HS1.out]
        exact HR.out.set j _
      case measure => simp [intOf]; omega
    · obtain rfl : j = 4 := by omega
      rw [upTo4_done] at hr
      have HN := Lib.hid (eqB4_none x bt)
      obtain ⟨s0, hs0⟩ : ∃ s0, subB x bt 0 = s0 := ⟨_, rfl⟩
      obtain ⟨s1, hs1⟩ : ∃ s1, subB x bt 1 = s1 := ⟨_, rfl⟩
      obtain ⟨s2, hs2⟩ : ∃ s2, subB x bt 2 = s2 := ⟨_, rfl⟩
      obtain ⟨s3, hs3⟩ : ∃ s3, subB x bt 3 = s3 := ⟨_, rfl⟩
      have HSS := Lib.hid (And.intro hs0 (And.intro hs1 (And.intro hs2 hs3)))
      rw [hs0, hs1, hs2, hs3] at HN hr
      clear hs0 hs1 hs2 hs3
      have c0 : wr.cell? ⟨gc, 0, none⟩ = some (.bool s0) := cell_of_row _ _ _ _ _ _ hr
      have c1 : wr.cell? ⟨gc, 1, none⟩ = some (.bool s1) := cell_of_row _ _ _ _ _ _ hr
      have c2 : wr.cell? ⟨gc, 2, none⟩ = some (.bool s2) := cell_of_row _ _ _ _ _ _ hr
      have c3 : wr.cell? ⟨gc, 3, none⟩ = some (.bool s3) := cell_of_row _ _ _ _ _ _ hr
      have cf := fun i => hr.free i
      have d0 : wr.cell? ⟨gr, 0, none⟩ = some (.bool false) := cell_of_row _ _ _ _ _ _ hv
      have d1 : wr.cell? ⟨gr, 1, none⟩ = some (.bool false) := cell_of_row _ _ _ _ _ _ hv
      have d2 : wr.cell? ⟨gr, 2, none⟩ = some (.bool false) := cell_of_row _ _ _ _ _ _ hv
      have d3 : wr.cell? ⟨gr, 3, none⟩ = some (.bool false) := cell_of_row _ _ _ _ _ _ hv
      have df := fun i => hv.free i
      rcases hnn : eqB4 s0 s1 s2 s3 false false false false
      · rw [hnn] at HN
        have HF := Lib.hid (And.intro (row_set4 hv (.bool s0) (.bool s1) (.bool s2) (.bool s3)) (below_sets4 hbel hwr (.bool s0) (.bool s1) (.bool s2) (.bool s3)))
        clear hr hb hv hbel hj hlt HBT HV HB HR
        go_wp2
        generalize (((wr.setCell ⟨gr, 0, none⟩ (.bool s0)).setCell ⟨gr, 1, none⟩ (.bool s1)).setCell ⟨gr, 2, none⟩ (.bool s2)).setCell ⟨gr, 3, none⟩ (.bool s3) = W4 at *
        have e0 : W4.cell? ⟨gr, 0, none⟩ = some (.bool s0) := cell_of_row _ _ _ _ _ _ HF.out.1
        have e1 : W4.cell? ⟨gr, 1, none⟩ = some (.bool s1) := cell_of_row _ _ _ _ _ _ HF.out.1
        have e2 : W4.cell? ⟨gr, 2, none⟩ = some (.bool s2) := cell_of_row _ _ _ _ _ _ HF.out.1
        have e3 : W4.cell? ⟨gr, 3, none⟩ = some (.bool s3) := cell_of_row _ _ _ _ _ _ HF.out.1
        refine bodyPost_ret (v := .agg (subOf (num k 115 (q9 : Int)) bt)) (by unfold subOf; rw [HXX.out, HSS.out.1, HSS.out.2.1, HSS.out.2.2.1, HSS.out.2.2.2, ← HN.out, Bool.or_false]; simp [results, Tryd.results7, go_sem, e0, e1, e2, e3]) rfl ⟨rfl, HF.out.2⟩
      · rw [hnn] at HN
        have hv2 := hv.far (p := ⟨gc, 0, none⟩) hb4 (.bool true)
        have hbel2 := hbel.setCell (p := ⟨gc, 0, none⟩) hwg (.bool true)
        have hr2 := hr.set 0 (.bool true)
        have k0 : (wr.setCell ⟨gc, 0, none⟩ (.bool true)).cell? ⟨gc, 0, none⟩ = some (.bool true) := cell_of_row _ _ _ _ _ _ hr2
        have k1 : (wr.setCell ⟨gc, 0, none⟩ (.bool true)).cell? ⟨gc, 1, none⟩ = some (.bool s1) := cell_of_row _ _ _ _ _ _ hr2
        have k2 : (wr.setCell ⟨gc, 0, none⟩ (.bool true)).cell? ⟨gc, 2, none⟩ = some (.bool s2) := cell_of_row _ _ _ _ _ _ hr2
        have k3 : (wr.setCell ⟨gc, 0, none⟩ (.bool true)).cell? ⟨gc, 3, none⟩ = some (.bool s3) := cell_of_row _ _ _ _ _ _ hr2
        have HF := Lib.hid (And.intro (row_set4 hv2 (.bool true) (.bool s1) (.bool s2) (.bool s3)) (below_sets4 hbel2 hwr (.bool true) (.bool s1) (.bool s2) (.bool s3)))
        clear hr hb hv hbel hj hlt HBT HV HB HR hv2 hbel2 hr2
        go_wp2
        generalize ((((wr.setCell ⟨gc, 0, none⟩ (.bool true)).setCell ⟨gr, 0, none⟩ (.bool true)).setCell ⟨gr, 1, none⟩ (.bool s1)).setCell ⟨gr, 2, none⟩ (.bool s2)).setCell ⟨gr, 3, none⟩ (.bool s3) = W4 at *
        have e0 : W4.cell? ⟨gr, 0, none⟩ = some (.bool true) := cell_of_row _ _ _ _ _ _ HF.out.1
        have e1 : W4.cell? ⟨gr, 1, none⟩ = some (.bool s1) := cell_of_row _ _ _ _ _ _ HF.out.1
        have e2 : W4.cell? ⟨gr, 2, none⟩ = some (.bool s2) := cell_of_row _ _ _ _ _ _ HF.out.1
        have e3 : W4.cell? ⟨gr, 3, none⟩ = some (.bool s3) := cell_of_row _ _ _ _ _ _ HF.out.1
        refine bodyPost_ret (v := .agg (subOf (num k 115 (q9 : Int)) bt)) (by unfold subOf; rw [HXX.out, HSS.out.1, HSS.out.2.1, HSS.out.2.2.1, HSS.out.2.2.2, ← HN.out, Bool.or_true]; simp [results, Tryd.results7, go_sem, e0, e1, e2, e3]) rfl ⟨rfl, HF.out.2⟩
end Go.Proofs.YtppkiponpjnkkaaDoor
