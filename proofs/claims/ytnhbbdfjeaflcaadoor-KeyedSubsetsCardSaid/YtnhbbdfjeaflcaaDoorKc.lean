/-
  The contracts of layer 2's Band, Place and of awake, and of the law's own once. Condition: the signs lie as the program's text lays them.
-/
import Derived.Test.YtnhbbdfjeaflcaaDoorKb
import Derived.Deep.RegionHeld3
namespace Go.Proofs.YtnhbbdfjeaflcaaDoor
open Go.RowKit
open M
attribute [local go_sem] un_add un_sub un_xor un_or un_nonneg un_beq un_bne

theorem band_sign (m : Nat) (hm : m < 1016) : (128 + (m : Int) / 8) = ub (UInt8.ofNat (128 + m / 8)) := by
  unfold ub
  rw [UInt8.toNat_ofNat_of_lt' (by show 128 + m / 8 < 256; omega)]
  omega
theorem ret_same {k : IntKind} {a b : Int} (h : a = b) : Ending.returned (.int k a) = .returned (.int k b) := by rw [h]

set_option maxHeartbeats 1000000 in
theorem band_any (k : List UInt8) (f : Int) (w : World) (hk : k.length = 16) (h : Signs w) :
    Calls Tryd.prog 9 #[.agg (byteCells k), .int .i64 f] w fun e w' => e = .returned (.int .i64 (bandOf k f : Nat)) ∧ Below w.heap.size w w' := by
  have HG := Lib.hid (h.below ((Below.refl w.heap.size w).alloc (Nat.le_refl _) (.cells (byteCells k) 23)) h.lt)
  have HI := Lib.hid (key_info k hk)
  have hm := fr_lt f
  have HB : Hid (bandOf k f = (kord k (UInt8.ofNat (128 + fr f / 8)) 8).getD (fr f % 8) 0) := rfl
  clear h
  go_enter Tryd.func9, Tryd.ntmps9
  go_wp2_with fail
  refine (frame_any f _).mono ?_
  rintro e w' ⟨rfl, rfl⟩
  generalize fr f = m at *
  go_wp2_with (refine wpList_load_row rfl 23 (.tmp 2) rfl w.heap.size rfl 23 (byteCells k) (0, 0) _ (heap_alloc_new _ _) Tryd.underlying23 rfl HI.out ?_)
  rw [band_sign m hm]
  refine (order_any k (UInt8.ofNat (128 + m / 8)) 8 _ hk (by omega) (by omega) HG.out).mono ?_
  rintro e w1 ⟨rfl, hr, hb⟩
  have HBB : Hid (Below w.heap.size w w1) := ((Below.refl _ _).alloc (Nat.le_refl _) _).trans (hb.mono (by simp))
  have c0 : w1.cell? ⟨(w.alloc (.cells (byteCells k) 23)).heap.size + 1, m % 8, none⟩ = some (.int .i64 ((kord k (UInt8.ofNat (128 + m / 8)) 8).getD (m % 8) 0 : Nat)) :=
    (cell_of_row _ _ _ _ _ _ hr).trans (natCells_get _ _ (by unfold kord; rw [ord_length]; omega))
  rw [← HB.out] at c0
  generalize (w.alloc (.cells (byteCells k) 23)).heap.size + 1 = g at *
  clear hr hb
  go_wp2
  go_ret
  exact ⟨rfl, HBB.out⟩

set_option maxHeartbeats 1000000 in
theorem place_any (k : List UInt8) (f : Int) (w : World) (hk : k.length = 16) (h : Signs w) :
    Calls Tryd.prog 10 #[.agg (byteCells k), .int .i64 f] w fun e w' => e = .returned (.int .i64 (placeOf k f : Nat)) ∧ Below w.heap.size w w' := by
  have HG := Lib.hid (h.below ((Below.refl w.heap.size w).alloc (Nat.le_refl _) (.cells (byteCells k) 23)) h.lt)
  have HI := Lib.hid (key_info k hk)
  have hm := fr_lt f
  have HB : Hid (placeOf k f = (kord k 112 127).getD (fr f % 127) 0) := rfl
  clear h
  go_enter Tryd.func10, Tryd.ntmps10
  go_wp2_with (refine wpList_load_row rfl 23 (.tmp 2) rfl w.heap.size rfl 23 (byteCells k) (0, 0) _ (heap_alloc_new _ _) Tryd.underlying23 rfl HI.out ?_)
  refine (order_any k 112 127 _ hk (by omega) (by omega) HG.out).mono ?_
  rintro e w1 ⟨rfl, hr, hb⟩
  have HBB : Hid (Below w.heap.size w w1) := ((Below.refl _ _).alloc (Nat.le_refl _) _).trans (hb.mono (by simp))
  have c0 : w1.cell? ⟨(w.alloc (.cells (byteCells k) 23)).heap.size + 1, fr f % 127, none⟩ = some (.int .i64 ((kord k 112 127).getD (fr f % 127) 0 : Nat)) :=
    (cell_of_row _ _ _ _ _ _ hr).trans (natCells_get _ _ (by unfold kord; rw [ord_length]; omega))
  rw [← HB.out] at c0
  generalize (w.alloc (.cells (byteCells k) 23)).heap.size + 1 = g at *
  clear hr hb
  go_wp2_with fail
  refine (frame_any f _).mono ?_
  rintro e w' ⟨rfl, rfl⟩
  generalize fr f = m at *
  go_wp2
  go_ret
  exact ⟨rfl, HBB.out⟩

/-- Which things have been met. -/
def metC (l : List Nat) (n j : Nat) : Array Value := ((List.range n).map fun x => Value.bool (decide (x ∈ l.take j))).toArray
theorem metC_get (l : List Nat) (n j x : Nat) (h : x < n) : (metC l n j)[x]? = some (.bool (decide (x ∈ l.take j))) := by
  simp [metC, h]
theorem metC_size (l : List Nat) (n j : Nat) : (metC l n j).size = n := by simp [metC]
theorem metC_zero (l : List Nat) (n : Nat) : madeCells #[.bool false] n = metC l n 0 := by
  apply Array.ext_getElem?
  intro i
  rcases Nat.lt_or_ge i n with hi | hi
  · rw [metC_get l n 0 i hi]
    have hm : i < (madeCells #[Value.bool false] n).size := by rw [size_madeCells]; exact hi
    rw [Array.getElem?_eq_getElem hm]
    simp [madeCells, Nat.mod_one]
  · rw [Array.getElem?_eq_none (by rw [size_madeCells]; exact hi), Array.getElem?_eq_none (by rw [metC_size]; exact hi)]
theorem metC_set (l : List Nat) (n j : Nat) (hj : j < l.length) : (metC l n j).setIfInBounds (l.getD j 0) (.bool true) = metC l n (j + 1) := by
  have e : l.getD j 0 = l[j] := by rw [List.getD, List.getElem?_eq_getElem hj]; rfl
  rw [e]
  apply Array.ext_getElem?
  intro i
  rcases Nat.lt_or_ge i n with hi | hi
  · rw [metC_get l n (j + 1) i hi, List.take_succ_eq_append_getElem hj]
    by_cases h : l[j] = i
    · rw [h, Array.getElem?_setIfInBounds_self_of_lt (by rw [metC_size]; exact hi)]
      simp
    · rw [Array.getElem?_setIfInBounds_ne h, metC_get l n j i hi]
      have h2 : ¬ i = l[j] := fun h3 => h h3.symm
      simp only [List.mem_append, List.mem_singleton, h2, or_false]
  · rw [Array.getElem?_eq_none (by simp [metC_size]; omega), Array.getElem?_eq_none (by rw [metC_size]; exact hi)]
theorem not_met (l : List Nat) (j : Nat) (hj : j < l.length) (hd : l.Nodup) : decide (l.getD j 0 ∈ l.take j) = false := by
  have e : l.getD j 0 = l[j] := by rw [List.getD, List.getElem?_eq_getElem hj]; rfl
  rw [e, decide_eq_false_iff_not]
  intro h
  obtain ⟨i, hi, he⟩ := List.getElem_of_mem h
  rw [List.length_take] at hi
  rw [List.getElem_take] at he
  have := (List.nodup_iff_pairwise_ne.1 hd)
  have h3 := List.pairwise_iff_getElem.1 this i j (by omega) hj (by omega)
  exact h3 he
theorem bool_info : (Tryd.prog.info? 4).map (fun i => (i.zero, i.size, i.bytes)) = some (some (.bool false), 1, 1) := by kernel_rfl

set_option maxHeartbeats 1000000 in
theorem once_any (l : List Nat) (n g cap : Nat) (w : World) (hl : l.length = n) (hn : 1 ≤ n) (hn2 : n ≤ 256) (hd : l.Nodup) (hx : ∀ i, i < n → l.getD i 0 < n) (hg : g < w.heap.size)
    (hc : ∀ i, i < n → w.cell? ⟨g, i, none⟩ = some (.int .i64 (l.getD i 0 : Nat))) :
    Calls Tryd.prog 11 #[.slice (some ⟨g, 0, none⟩) n cap, .int .i64 n] w fun e w' => e = .returned (.bool true) ∧ Below w.heap.size w w' := by
  have hmk := run_make_row' (P := Tryd.prog) 40 4 (.bool false) 1 Tryd.underlying40 bool_info rfl .i64 .i64 n (by omega) (by omega)
  have HZ := Lib.hid (metC_zero l n)
  have HC := Lib.hid hc
  have HX := Lib.hid hx
  have HL := Lib.hid hl
  have HD := Lib.hid hd
  have HGl := Lib.hid hg
  clear hc hx hl hd hg
  go_enter Tryd.func11, Tryd.ntmps11
  go_wp2
  go_loopw [6] (fun i wr => ∃ j : Nat, j ≤ n ∧ i = .int .i64 j ∧ Row wr w.heap.size 4 (metC l n j) ∧ Below w.heap.size w wr) (fun i _ => n - (intOf i).toNat)
  case atStart => exact ⟨0, Nat.zero_le _, rfl, by rw [← HZ.out]; exact heap_alloc_new _ _, (Below.refl _ _).alloc (Nat.le_refl _) _⟩
  case round =>
    clear hmk
    obtain ⟨j, hj, rfl, hr, hb⟩ := hrel
    have HR := Lib.hid hr
    have HB := Lib.hid hb
    by_cases hlt : j < n
    · have c0 : wr.cell? ⟨g, j, none⟩ = some (.int .i64 (l.getD j 0 : Nat)) := (hb.cell (p := ⟨g, j, none⟩) HGl.out).trans (HC.out j hlt)
      have hx := HX.out j hlt
      have hm : wr.cell? ⟨w.heap.size, l.getD j 0, none⟩ = some (.bool false) := by
        rw [cell_of_row _ _ _ _ _ _ hr, metC_get l n j _ hx, not_met l j (by rw [HL.out]; exact hlt) HD.out]
      have HS := Lib.hid (metC_set l n j (by rw [HL.out]; exact hlt))
      have f0 := hr.free (l.getD j 0)
      obtain ⟨x, hxe⟩ : ∃ x, l.getD j 0 = x := ⟨_, rfl⟩
      rw [hxe] at c0 hx hm f0
      have HXE := Lib.hid hxe
      clear hr hb hxe
      go_wp2
      go_roundw
      case rel =>
        refine ⟨j + 1, by omega, by go_num, ?_, HB.out.setCell (p := ⟨w.heap.size, x, none⟩) (by simp) _⟩
        rw [← HS.out, HXE.out]
        exact HR.out.set x _
      case measure => simp [intOf]; omega
    · obtain rfl : n = j := by omega
      clear hr hb
      go_wp2
      go_ret
      exact ⟨rfl, HB.out⟩

/-- A whole row is read, in every world that has what was there. -/
theorem yields_row {ops : Array Oper} {op : Oper} {a : Act} {W0 : World} (hw : Region.wanted op (yielded ops a.tmps) = true) (ty : TypeId) (x : Operand) (ho : op.op = .load ty x)
    (g : Nat) (hx : a.eval x = .pointer (some ⟨g, 0, none⟩)) (t : TypeId) (cs : Array Value) (hr : Row W0 g t cs) {n : Nat} {e : TypeId} (hu : Tryd.prog.underlying ty = some (.array n e))
    (hi : (Tryd.prog.info? ty).map (·.size) = some cs.size) : YieldsIf Tryd.prog ops (fun w' => Below W0.heap.size W0 w') op (.agg cs) a :=
  .inl ⟨hw, fun w hw' => by
    unfold execOp
    simp only [ho, hx, Instr.loadAt, Instr.sureAddr, Sem.run_bind, Sem.run_pure, Result.andThen_ok, run_loadVar_row w g t ty cs (0, 0) _ (hr.below hw' hr.lt) hu rfl hi]⟩
theorem band_again (k : List UInt8) : bandOf k (-1) = bandOf k 1015 := rfl
theorem fr_neg : fr (-1) = 1015 := rfl
theorem zero_row (w : World) : Row (w.alloc (.cells (Array.replicate 16 (.int .u8 0)) 23)) w.heap.size 23 (byteCells (List.replicate 16 0)) := heap_alloc_new _ _

set_option maxHeartbeats 1000000 in
theorem awake_any (w : World) (h : Signs w) :
    Calls Tryd.prog 8 #[] w fun e w' => e = .returned (.bool true) ∧ Below w.heap.size w w' := by
  obtain ⟨k, hk⟩ : ∃ k, List.replicate 16 (0 : UInt8) = k := ⟨_, rfl⟩
  have hl : k.length = 16 := by rw [← hk]; rfl
  have HI := Lib.hid (key_info k hl)
  have hr0 := zero_row w
  rw [hk] at hr0
  have hb0 : Below w.heap.size w (w.alloc (.cells (Array.replicate 16 (.int .u8 0)) 23)) := (Below.refl _ _).alloc (Nat.le_refl _) _
  have HG := Lib.hid h
  have H0 := Lib.hid (And.intro hr0 hb0)
  have HK := Lib.hid hl
  clear h hr0 hb0 hk hl
  go_enter Tryd.func8, Tryd.ntmps8
  go_wp2_with fail
  generalize hW : w.alloc _ = W0
  have h1 : Row W0 w.heap.size 23 (byteCells k) ∧ Below w.heap.size w W0 := by rw [← hW]; exact H0.out
  clear hW H0
  have HR := Lib.hid h1.1
  have HB := Lib.hid h1.2
  have HS := Lib.hid (HG.out.below h1.2 HG.out.lt)
  clear h1 HG
  refine wp_region_held_drew (S := fun w' => Below W0.heap.size W0 w') (by kernel_rfl) ?_ (fun hHeld => ?_)
  · exact below_drew1 (Below.refl _ _)
  refine wpAnyH_ready (rs := [0]) (by kernel_rfl) (by simp) ?_
  refine AllReadyH.cons (o := _) rfl (fun K hK => ?_) AllReadyH.nil
  go_simp
  refine (frame_any (-1) _).mono ?_
  rintro e w' ⟨rfl, rfl⟩
  rw [fr_neg]
  go_wp2_with fail
  refine hK.out _ _ hHeld (fun hHeld => ?_)
  clear hK K
  (try simp only [List.getElem_toArray, List.getElem_cons_succ, List.getElem_cons_zero, Act.put, List.setIfInBounds_toArray, List.set_cons_zero, List.set_cons_succ])
  refine wpAnyH_take (i := 1) (oi := _) (v := ?_) rfl (by kernel_rfl) (by kernel_rfl) (by kernel_rfl) (fun _ _ _ h => h) (Or.inl ⟨by rfl, ?_⟩) hHeld ?_
  rotate_left
  · (intro w hSw; (try dsimp only at hSw); first | (go_simp; done) | (go_simp; with_reducible rfl))
  (try simp only [List.getElem_toArray, List.getElem_cons_succ, List.getElem_cons_zero, Act.put, List.setIfInBounds_toArray, List.set_cons_zero, List.set_cons_succ])
  refine wpAnyH_take (i := 2) (oi := _) (v := ?_) rfl (by kernel_rfl) (by kernel_rfl) (by kernel_rfl) (fun _ _ _ h => h) (Or.inl ⟨by rfl, ?_⟩) hHeld ?_
  rotate_left
  · (intro w hSw; (try dsimp only at hSw); first | (go_simp; done) | (go_simp; with_reducible rfl))
  (try simp only [List.getElem_toArray, List.getElem_cons_succ, List.getElem_cons_zero, Act.put, List.setIfInBounds_toArray, List.set_cons_zero, List.set_cons_succ])
  refine wpAnyH_take (i := 3) (oi := _) rfl (by kernel_rfl) (by kernel_rfl) (by kernel_rfl) (fun _ _ _ h => h) (yields_row (by rfl) 23 (.tmp 1) rfl w.heap.size rfl 23 (byteCells k) HR.out Tryd.underlying23 HI.out) hHeld ?_
  (try simp only [List.getElem_toArray, List.getElem_cons_succ, List.getElem_cons_zero, Act.put, List.setIfInBounds_toArray, List.set_cons_zero, List.set_cons_succ])
  refine wpAnyH_take (i := 5) (oi := _) rfl (by kernel_rfl) (by kernel_rfl) (by kernel_rfl) (fun _ _ _ h => h) (yields_row (by rfl) 23 (.tmp 1) rfl w.heap.size rfl 23 (byteCells k) HR.out Tryd.underlying23 HI.out) hHeld ?_
  (try simp only [List.getElem_toArray, List.getElem_cons_succ, List.getElem_cons_zero, Act.put, List.setIfInBounds_toArray, List.set_cons_zero, List.set_cons_succ])
  refine wpAnyH_ready (rs := [4]) (by kernel_rfl) (by simp) ?_
  refine AllReadyH.cons (o := _) rfl (fun K hK => ?_) AllReadyH.nil
  go_simp
  refine (band_any k (-1) _ HK.out (HS.out.below hHeld HS.out.lt)).mono ?_
  rintro e w1 ⟨rfl, hb⟩
  rw [band_again]
  go_wp2_with fail
  have hN := hHeld.trans (hb.mono hHeld.size)
  clear hHeld hb
  refine hK.out _ _ hN (fun hHeld => ?_)
  clear hN
  clear hK K
  (try simp only [List.getElem_toArray, List.getElem_cons_succ, List.getElem_cons_zero, Act.put, List.setIfInBounds_toArray, List.set_cons_zero, List.set_cons_succ])
  refine wpAnyH_ready (rs := [6]) (by kernel_rfl) (by simp) ?_
  refine AllReadyH.cons (o := _) rfl (fun K hK => ?_) AllReadyH.nil
  go_simp
  refine (band_any k 1015 _ HK.out (HS.out.below hHeld HS.out.lt)).mono ?_
  rintro e w2 ⟨rfl, hb⟩
  go_wp2_with fail
  have hN := hHeld.trans (hb.mono hHeld.size)
  clear hHeld hb
  refine hK.out _ _ hN (fun hHeld => ?_)
  clear hN
  clear hK K
  (try simp only [List.getElem_toArray, List.getElem_cons_succ, List.getElem_cons_zero, Act.put, List.setIfInBounds_toArray, List.set_cons_zero, List.set_cons_succ])
  refine wpAnyH_take (i := 7) (oi := _) (v := ?_) rfl (by kernel_rfl) (by kernel_rfl) (by kernel_rfl) (fun _ _ _ h => h) (Or.inl ⟨by rfl, ?_⟩) hHeld ?_
  rotate_left
  · (intro w hSw; (try dsimp only at hSw); first | (go_simp; done) | (go_simp; with_reducible rfl))
  (try simp only [List.getElem_toArray, List.getElem_cons_succ, List.getElem_cons_zero, Act.put, List.setIfInBounds_toArray, List.set_cons_zero, List.set_cons_succ])
  refine wpAnyH_take (i := 8) (oi := _) (v := ?_) rfl (by kernel_rfl) (by kernel_rfl) (by kernel_rfl) (fun _ _ _ h => h) (Or.inl ⟨by rfl, ?_⟩) hHeld ?_
  rotate_left
  · (intro w hSw; (try dsimp only at hSw); first | (go_simp; done) | (go_simp; with_reducible rfl))
  (try simp only [List.getElem_toArray, List.getElem_cons_succ, List.getElem_cons_zero, Act.put, List.setIfInBounds_toArray, List.set_cons_zero, List.set_cons_succ])
  refine wpAnyH_take (i := 9) (oi := _) (v := ?_) rfl (by kernel_rfl) (by kernel_rfl) (by kernel_rfl) (fun _ _ _ h => h) (Or.inl ⟨by rfl, ?_⟩) hHeld ?_
  rotate_left
  · (intro w hSw; (try dsimp only at hSw); first | (go_simp; done) | (go_simp; with_reducible rfl))
  (try simp only [List.getElem_toArray, List.getElem_cons_succ, List.getElem_cons_zero, Act.put, List.setIfInBounds_toArray, List.set_cons_zero, List.set_cons_succ])
  refine wpAnyH_take (i := 10) (oi := _) rfl (by kernel_rfl) (by kernel_rfl) (by kernel_rfl) (fun _ _ _ h => h) (yields_row (by rfl) 23 (.tmp 1) rfl w.heap.size rfl 23 (byteCells k) HR.out Tryd.underlying23 HI.out) hHeld ?_
  (try simp only [List.getElem_toArray, List.getElem_cons_succ, List.getElem_cons_zero, Act.put, List.setIfInBounds_toArray, List.set_cons_zero, List.set_cons_succ])
  refine wpAnyH_ready (rs := [11]) (by kernel_rfl) (by simp) ?_
  refine AllReadyH.cons (o := _) rfl (fun K hK => ?_) AllReadyH.nil
  go_simp
  refine (order_any k 120 3 _ HK.out (by omega) (by omega) (HS.out.below hHeld HS.out.lt)).mono ?_
  rintro e w3 ⟨rfl, _, hb⟩
  go_wp2_with fail
  have hN := hHeld.trans (hb.mono hHeld.size)
  clear hHeld hb
  refine hK.out _ _ hN (fun hHeld => ?_)
  clear hN
  clear hK K
  (try simp only [List.getElem_toArray, List.getElem_cons_succ, List.getElem_cons_zero, Act.put, List.setIfInBounds_toArray, List.set_cons_zero, List.set_cons_succ])
  refine wpAnyH_take (i := 12) (oi := _) (v := ?_) rfl (by kernel_rfl) (by kernel_rfl) (by kernel_rfl) (fun _ _ _ h => h) (Or.inl ⟨by rfl, ?_⟩) hHeld ?_
  rotate_left
  · (intro w hSw; (try dsimp only at hSw); first | (go_simp; done) | (go_simp; with_reducible rfl))
  (try simp only [List.getElem_toArray, List.getElem_cons_succ, List.getElem_cons_zero, Act.put, List.setIfInBounds_toArray, List.set_cons_zero, List.set_cons_succ])
  refine wpAnyH_take (i := 13) (oi := _) (v := ?_) rfl (by kernel_rfl) (by kernel_rfl) (by kernel_rfl) (fun _ _ _ h => h) (Or.inl ⟨by rfl, ?_⟩) hHeld ?_
  rotate_left
  · (intro w hSw; (try dsimp only at hSw); first | (go_simp; done) | (go_simp; with_reducible rfl))
  (try simp only [List.getElem_toArray, List.getElem_cons_succ, List.getElem_cons_zero, Act.put, List.setIfInBounds_toArray, List.set_cons_zero, List.set_cons_succ])
  refine wpAnyH_take (i := 14) (oi := _) (v := ?_) rfl (by kernel_rfl) (by kernel_rfl) (by kernel_rfl) (fun _ _ _ h => h) (Or.inl ⟨by rfl, ?_⟩) hHeld ?_
  rotate_left
  · (intro w hSw; (try dsimp only at hSw); first | (go_simp; done) | (go_simp; with_reducible rfl))
  (try simp only [List.getElem_toArray, List.getElem_cons_succ, List.getElem_cons_zero, Act.put, List.setIfInBounds_toArray, List.set_cons_zero, List.set_cons_succ])
  refine wpAnyH_take (i := 15) (oi := _) (v := ?_) rfl (by kernel_rfl) (by kernel_rfl) (by kernel_rfl) (fun _ _ _ h => h) (Or.inl ⟨by rfl, ?_⟩) hHeld ?_
  rotate_left
  · (intro w hSw; (try dsimp only at hSw); first | (go_simp; done) | (go_simp; with_reducible rfl))
  (try simp only [List.getElem_toArray, List.getElem_cons_succ, List.getElem_cons_zero, Act.put, List.setIfInBounds_toArray, List.set_cons_zero])
  refine wpAnyH_done (by kernel_rfl) ?_ _
  go_wp2
  go_ret
  exact ⟨rfl, HB.out.trans (hHeld.mono HB.out.size)⟩
end Go.Proofs.YtnhbbdfjeaflcaaDoor
