/-
  The contracts of layer 2's bitsOf, Chips, Subset. Condition: the signs lie as the program's text lays them.
-/
import Derived.Test.YtppkiponpjnkkaaDoorKc
namespace Go.Proofs.YtppkiponpjnkkaaDoor
open Go.RowKit
open M
attribute [local go_sem] un_add un_sub un_xor un_or un_nonneg un_beq un_bne

theorem bitsOf_any (x : BitVec 64) (w : World) :
    Calls Tryd.prog 20 #[.int .u64 (un x)] w fun e w' => e = .returned (.func (.func 24) #[] #[.pointer (some ⟨w.heap.size, 0, none⟩)]) ∧ Row w' w.heap.size 32 #[.int .u64 (un x)] ∧ Below w.heap.size w w' := by
  go_enter Tryd.func20, Tryd.ntmps20
  go_wp2
  go_ret
  exact ⟨rfl, heap_alloc_new _ _, (Below.refl _ _).alloc (Nat.le_refl _) _⟩

theorem bit_any (x : BitVec 64) (i g : Nat) (w : World) (hi : i ≤ 60) (h : Row w g 32 #[.int .u64 (un x)]) :
    Calls Tryd.prog 24 #[.int .i64 i, .pointer (some ⟨g, 0, none⟩)] w fun e w' => e = .returned (.bool (bitB x i)) ∧ w' = w := by
  have c0 : w.cell? ⟨g, 0, none⟩ = some (.int .u64 (un x)) := cell_of_row _ _ _ _ _ _ h
  have HB := Lib.hid (bitB_and x i)
  clear h
  go_enter Tryd.func24, Tryd.ntmps24
  go_wp2
  go_ret
  exact ⟨by rw [← HB.out]; rfl, rfl⟩

/-- Four things, as far as a loop has come. -/
def upTo4 (f : Nat → Value) (z : Value) (j : Nat) : Array Value := #[if 0 < j then f 0 else z, if 1 < j then f 1 else z, if 2 < j then f 2 else z, if 3 < j then f 3 else z]
theorem upTo4_zero (f : Nat → Value) (z : Value) : upTo4 f z 0 = #[z, z, z, z] := rfl
theorem upTo4_done (f : Nat → Value) (z : Value) : upTo4 f z 4 = #[f 0, f 1, f 2, f 3] := rfl
theorem upTo4_set (f : Nat → Value) (z : Value) (j : Nat) (h : j < 4) : (upTo4 f z j).setIfInBounds j (f j) = upTo4 f z (j + 1) := by
  match j, h with
  | 0, _ => rfl
  | 1, _ => rfl
  | 2, _ => rfl
  | 3, _ => rfl
  | n + 4, h => omega
theorem upTo4_set2 (f : Nat → Value) (z y : Value) (j : Nat) (h : j < 4) : ((upTo4 f z j).setIfInBounds j y).setIfInBounds j (f j) = upTo4 f z (j + 1) := by
  match j, h with
  | 0, _ => rfl
  | 1, _ => rfl
  | 2, _ => rfl
  | 3, _ => rfl
  | n + 4, h => omega
theorem upTo4_get (f : Nat → Value) (z : Value) (j i : Nat) (h : i < 4) : ∃ u, (upTo4 f z j)[i]? = some u := by
  match i, h with
  | 0, _ => exact ⟨_, rfl⟩
  | 1, _ => exact ⟨_, rfl⟩
  | 2, _ => exact ⟨_, rfl⟩
  | 3, _ => exact ⟨_, rfl⟩
  | n + 4, h => omega
theorem row_set4 {w : World} {g : Nat} {t : TypeId} {a b c d : Value} (h : Row w g t #[a, b, c, d]) (a' b' c' d' : Value) :
    Row ((((w.setCell ⟨g, 0, none⟩ a').setCell ⟨g, 1, none⟩ b').setCell ⟨g, 2, none⟩ c').setCell ⟨g, 3, none⟩ d') g t #[a', b', c', d'] := (((h.set 0 a').set 1 b').set 2 c').set 3 d'
theorem below_sets4 {B g : Nat} {w0 w : World} (h : Below B w0 w) (hg : B ≤ g) (a b c d : Value) : Below B w0 ((((w.setCell ⟨g, 0, none⟩ a).setCell ⟨g, 1, none⟩ b).setCell ⟨g, 2, none⟩ c).setCell ⟨g, 3, none⟩ d) :=
  (((h.setCell (p := ⟨g, 0, none⟩) hg a).setCell (p := ⟨g, 1, none⟩) hg b).setCell (p := ⟨g, 2, none⟩) hg c).setCell (p := ⟨g, 3, none⟩) hg d
def chipsOf (k : List UInt8) (f : Int) : Array Value := #[.int .i64 (chip (num k 99 (fr f)) 0), .int .i64 (chip (num k 99 (fr f)) 1), .int .i64 (chip (num k 99 (fr f)) 2), .int .i64 (chip (num k 99 (fr f)) 3)]
theorem Row.below0 {w w' : World} {g : Nat} {t : TypeId} {cs : Array Value} (h : Row w g t cs) (hb : Below w.heap.size w w') : Row w' g t cs := h.below hb h.lt

set_option maxHeartbeats 2000000 in
theorem chips_any (k : List UInt8) (f : Int) (w : World) (hk : k.length = 16) (h : Signs w) :
    Calls Tryd.prog 6 #[.agg (byteCells k), .int .i64 f] w fun e w' => e = .returned (.agg (chipsOf k f)) ∧ Below w.heap.size w w' := by
  have HI := Lib.hid (key_info k hk)
  have H0 : Hid (Row ((w.alloc (.cells (byteCells k) 23)).alloc (.cells #[.int .i64 0, .int .i64 0, .int .i64 0, .int .i64 0] 25)) w.heap.size 23 (byteCells k) ∧
      Row ((w.alloc (.cells (byteCells k) 23)).alloc (.cells #[.int .i64 0, .int .i64 0, .int .i64 0, .int .i64 0] 25)) (w.heap.size + 1) 25 #[.int .i64 0, .int .i64 0, .int .i64 0, .int .i64 0] ∧
      Below w.heap.size w ((w.alloc (.cells (byteCells k) 23)).alloc (.cells #[.int .i64 0, .int .i64 0, .int .i64 0, .int .i64 0] 25))) :=
    ⟨heap_alloc2_old _ _ _, heap_alloc2_new _ _ _, ((Below.refl _ _).alloc (Nat.le_refl _) _).alloc (by simp) _⟩
  have HG := Lib.hid h
  have HK := Lib.hid hk
  clear h
  go_enter Tryd.func6, Tryd.ntmps6
  go_wp2_with fail
  generalize hW : (w.alloc _).alloc _ = W0
  have h1 : Row W0 w.heap.size 23 (byteCells k) ∧ Row W0 (w.heap.size + 1) 25 #[.int .i64 0, .int .i64 0, .int .i64 0, .int .i64 0] ∧ Below w.heap.size w W0 := by rw [← hW]; exact H0.out
  clear hW H0
  have HR := Lib.hid h1.1
  have HV := Lib.hid h1.2.1
  have HB := Lib.hid h1.2.2
  have HS := Lib.hid (HG.out.below h1.2.2 HG.out.lt)
  clear h1 HG
  refine wp_region_held_drew (S := fun w' => Below W0.heap.size W0 w') (by kernel_rfl) ?_ (fun hHeld => ?_)
  · exact below_drew1 (Below.refl _ _)
  refine wpAnyH_take (i := 0) (oi := _) rfl (by kernel_rfl) (by kernel_rfl) (by kernel_rfl) (fun _ _ _ h => h) (yields_row (by rfl) 23 (.tmp 2) rfl w.heap.size rfl 23 (byteCells k) HR.out Tryd.underlying23 HI.out) hHeld ?_
  (try simp only [List.getElem_toArray, List.getElem_cons_zero, Act.put, List.setIfInBounds_toArray, List.set_cons_zero, List.set_cons_succ])
  refine wpAnyH_take (i := 1) (oi := _) (v := ?_) rfl (by kernel_rfl) (by kernel_rfl) (by kernel_rfl) (fun _ _ _ h => h) (Or.inl ⟨by rfl, ?_⟩) hHeld ?_
  rotate_left
  · (intro w hSw; (try dsimp only at hSw); first | (go_simp; done) | (go_simp; with_reducible rfl))
  (try simp only [List.getElem_toArray, List.getElem_cons_succ, List.getElem_cons_zero, Act.put, List.setIfInBounds_toArray, List.set_cons_zero, List.set_cons_succ])
  refine wpAnyH_ready (rs := [2]) (by kernel_rfl) (by simp) ?_
  refine AllReadyH.cons (o := _) rfl (fun K hK => ?_) AllReadyH.nil
  go_simp
  refine (frame_any f _).mono ?_
  rintro e w' ⟨rfl, rfl⟩
  go_wp2_with fail
  refine hK.out _ _ hHeld (fun hHeld => ?_)
  clear hK K
  (try simp only [List.getElem_toArray, List.getElem_cons_succ, List.getElem_cons_zero, Act.put, List.setIfInBounds_toArray, List.set_cons_zero, List.set_cons_succ])
  refine wpAnyH_ready (rs := [3]) (by kernel_rfl) (by simp) ?_
  refine AllReadyH.cons (o := _) rfl (fun K hK => ?_) AllReadyH.nil
  go_simp
  refine (num_any k 99 (fr f : Nat) _ HK.out (HS.out.below hHeld HS.out.lt)).mono ?_
  rintro e w2 ⟨rfl, hb⟩
  go_wp2_with fail
  have hN := hHeld.trans (hb.mono hHeld.size)
  have hw2 : w.heap.size ≤ w2.heap.size := Nat.le_trans HB.out.size hN.size
  clear hHeld hb
  refine hK.out _ _ hN (fun hHeld => ?_)
  clear hN
  clear hK K
  (try simp only [List.getElem_toArray, List.getElem_cons_succ, List.getElem_cons_zero, Act.put, List.setIfInBounds_toArray, List.set_cons_zero, List.set_cons_succ])
  refine wpAnyH_ready (rs := [4]) (by kernel_rfl) (by simp) ?_
  refine AllReadyH.cons (o := _) rfl (fun K hK => ?_) AllReadyH.nil
  go_simp
  refine (bitsOf_any (num k 99 ((fr f : Nat) : Int)) _).mono ?_
  rintro e w3 ⟨rfl, hbit, hb⟩
  go_wp2_with fail
  have hN := hHeld.trans (hb.mono hHeld.size)
  clear hHeld hb
  refine hK.out _ _ hN (fun hHeld => ?_)
  clear hN
  clear hK K
  (try simp only [List.getElem_toArray, List.getElem_cons_succ, List.getElem_cons_zero, Act.put, List.setIfInBounds_toArray, List.set_cons_zero, List.set_cons_succ])
  refine wpAnyH_take (i := 5) (oi := _) (v := ?_) rfl (by kernel_rfl) (by kernel_rfl) (by kernel_rfl) (fun _ _ _ h => h) (Or.inl ⟨by rfl, ?_⟩) hHeld ?_
  rotate_left
  · (intro w hSw; (try dsimp only at hSw); first | (go_simp; done) | (go_simp; with_reducible rfl))
  (try simp only [List.getElem_toArray, List.getElem_cons_succ, List.getElem_cons_zero, Act.put, List.setIfInBounds_toArray, List.set_cons_zero, List.set_cons_succ])
  refine wpAnyH_done (by kernel_rfl) ?_ _
  have HX := Lib.hid (And.intro hbit (And.intro (HB.out.trans (hHeld.mono HB.out.size)) (HV.out.below hHeld HV.out.lt)))
  obtain ⟨x, hx⟩ : ∃ x, num k 99 ((fr f : Nat) : Int) = x := ⟨_, rfl⟩
  have HXX := Lib.hid hx
  rw [hx] at HX
  clear hx hbit hHeld HR HB HV HS HI
  go_wp2_with fail
  have hb1 : w.heap.size + 1 < w3.heap.size := HX.out.2.2.lt
  have hb2 : w2.heap.size < w3.heap.size := HX.out.1.lt
  have hb3 : w.heap.size ≤ w2.heap.size := hw2
  have hb4 : w.heap.size + 1 ≠ w3.heap.size := by omega
  have hb5 : w2.heap.size ≠ w3.heap.size := by omega
  obtain ⟨gc, hgc⟩ : ∃ gc, w3.heap.size = gc := ⟨_, rfl⟩
  obtain ⟨gb, hgb⟩ : ∃ gb, w2.heap.size = gb := ⟨_, rfl⟩
  obtain ⟨gr, hgr⟩ : ∃ gr, w.heap.size + 1 = gr := ⟨_, rfl⟩
  have hrow : ∀ o : Obj, Row (w3.alloc o) gb 32 #[.int .u64 (un x)] ∧ Row (w3.alloc o) gr 25 #[.int .i64 0, .int .i64 0, .int .i64 0, .int .i64 0] ∧ Below w.heap.size w (w3.alloc o) := fun o => by
    rw [← hgb, ← hgr]
    exact ⟨HX.out.1.alloc o, HX.out.2.2.alloc o, HX.out.2.1.alloc HX.out.2.1.size o⟩
  have HROW := Lib.hid hrow
  rw [hgc, hgb] at hb5
  rw [hgr, hgc] at hb4
  rw [hgc, hgb, hgr]
  have hwg : w.heap.size ≤ gc := by omega
  have hwr : w.heap.size ≤ gr := by omega
  clear hb1 hb2 hb3 hw2 hrow HX
  go_loopw [13] (fun i wr => ∃ j : Nat, j ≤ 4 ∧ i = .int .i64 j ∧ Row wr gc 25 (upTo4 (fun t => .int .i64 (chip x t)) (.int .i64 0) j) ∧ Row wr gb 32 #[.int .u64 (un x)] ∧ Row wr gr 25 #[.int .i64 0, .int .i64 0, .int .i64 0, .int .i64 0] ∧ Below w.heap.size w wr) (fun i _ => 4 - (intOf i).toNat)
  case atStart => exact ⟨0, Nat.zero_le _, rfl, row_new w3 gc hgc _ _, (HROW.out _).1, (HROW.out _).2.1, (HROW.out _).2.2⟩
  case round =>
    clear HROW
    obtain ⟨j, hj, rfl, hr, hb, hv, hbel⟩ := hrel
    have HR := Lib.hid hr
    have HBT := Lib.hid hb
    have HV := Lib.hid hv
    have HB := Lib.hid hbel
    by_cases hlt : j < 4
    · obtain ⟨u0, hu0⟩ := upTo4_get (fun t => .int .i64 (chip x t)) (.int .i64 0) j j hlt
      have c0 : wr.cell? ⟨gc, j, none⟩ = some u0 := (cell_of_row _ _ _ _ _ _ hr).trans hu0
      have f0 := hr.free j
      have hji : (j : Int) < 4 := by omega
      have HS1 := Lib.hid (upTo4_set (fun t => .int .i64 (chip x t)) (.int .i64 0) j hlt)
      have HS2 := Lib.hid (upTo4_set2 (fun t => .int .i64 (chip x t)) (.int .i64 0) (.int .i64 1) j hlt)
      clear hr hb hv hbel hu0
      go_wp2_with fail
      refine (bit_any x j gb _ (by omega) (HBT.out.far (p := ⟨gc, j, none⟩) hb5 _)).mono ?_
      rintro e w4 ⟨rfl, rfl⟩
      rcases hbb : bitB x j
      · have HC : Hid (chip x j = 1) := by unfold Hid chip; rw [hbb]; rfl
        clear hbb
        go_wp2
        go_roundw
        case rel =>
          refine ⟨j + 1, by omega, by go_num, ?_, HBT.out.far (p := ⟨gc, j, none⟩) hb5 _, HV.out.far (p := ⟨gc, j, none⟩) hb4 _, HB.out.setCell (p := ⟨gc, j, none⟩) hwg _⟩
          rw [← HS1.out, HC.out]
          exact HR.out.set j _
        case measure => simp [intOf]; omega
      · have HC : Hid (chip x j = -1) := by unfold Hid chip; rw [hbb]; rfl
        clear hbb
        go_wp2
        go_roundw
        case rel =>
          refine ⟨j + 1, by omega, by go_num, ?_, (HBT.out.far (p := ⟨gc, j, none⟩) hb5 _).far (p := ⟨gc, j, none⟩) hb5 _, (HV.out.far (p := ⟨gc, j, none⟩) hb4 _).far (p := ⟨gc, j, none⟩) hb4 _, (HB.out.setCell (p := ⟨gc, j, none⟩) hwg _).setCell (p := ⟨gc, j, none⟩) hwg _⟩
          rw [← HS2.out, HC.out]
          exact (HR.out.set j _).set j _
        case measure => simp [intOf]; omega
    · obtain rfl : j = 4 := by omega
      rw [upTo4_done] at hr
      have c0 : wr.cell? ⟨gc, 0, none⟩ = some (.int .i64 (chip x 0)) := cell_of_row _ _ _ _ _ _ hr
      have c1 : wr.cell? ⟨gc, 1, none⟩ = some (.int .i64 (chip x 1)) := cell_of_row _ _ _ _ _ _ hr
      have c2 : wr.cell? ⟨gc, 2, none⟩ = some (.int .i64 (chip x 2)) := cell_of_row _ _ _ _ _ _ hr
      have c3 : wr.cell? ⟨gc, 3, none⟩ = some (.int .i64 (chip x 3)) := cell_of_row _ _ _ _ _ _ hr
      have d0 : wr.cell? ⟨gr, 0, none⟩ = some (.int .i64 0) := cell_of_row _ _ _ _ _ _ hv
      have d1 : wr.cell? ⟨gr, 1, none⟩ = some (.int .i64 0) := cell_of_row _ _ _ _ _ _ hv
      have d2 : wr.cell? ⟨gr, 2, none⟩ = some (.int .i64 0) := cell_of_row _ _ _ _ _ _ hv
      have d3 : wr.cell? ⟨gr, 3, none⟩ = some (.int .i64 0) := cell_of_row _ _ _ _ _ _ hv
      have df := fun i => hv.free i
      have HF := Lib.hid (And.intro (row_set4 hv (.int .i64 (chip x 0)) (.int .i64 (chip x 1)) (.int .i64 (chip x 2)) (.int .i64 (chip x 3))) (below_sets4 hbel hwr (.int .i64 (chip x 0)) (.int .i64 (chip x 1)) (.int .i64 (chip x 2)) (.int .i64 (chip x 3))))
      clear hr hb hv hbel hj hlt HBT HV HB HR
      go_wp2
      generalize (((wr.setCell ⟨gr, 0, none⟩ (.int .i64 (chip x 0))).setCell ⟨gr, 1, none⟩ (.int .i64 (chip x 1))).setCell ⟨gr, 2, none⟩ (.int .i64 (chip x 2))).setCell ⟨gr, 3, none⟩ (.int .i64 (chip x 3)) = W4 at *
      have e0 : W4.cell? ⟨gr, 0, none⟩ = some (.int .i64 (chip x 0)) := cell_of_row _ _ _ _ _ _ HF.out.1
      have e1 : W4.cell? ⟨gr, 1, none⟩ = some (.int .i64 (chip x 1)) := cell_of_row _ _ _ _ _ _ HF.out.1
      have e2 : W4.cell? ⟨gr, 2, none⟩ = some (.int .i64 (chip x 2)) := cell_of_row _ _ _ _ _ _ HF.out.1
      have e3 : W4.cell? ⟨gr, 3, none⟩ = some (.int .i64 (chip x 3)) := cell_of_row _ _ _ _ _ _ HF.out.1
      refine bodyPost_ret (v := .agg (chipsOf k f)) (by unfold chipsOf; rw [HXX.out]; simp [results, Tryd.results6, go_sem, e0, e1, e2, e3]) rfl ⟨rfl, HF.out.2⟩
end Go.Proofs.YtppkiponpjnkkaaDoor
