/-
  The contracts of layer 2's Band, Place and of awake, and of the law's own once. Condition: the signs lie as the program's text lays them.
-/
import Derived.Test.YtppkiponpjnkkaaDoorKb
import Derived.Deep.RegionHeld3
namespace Go.Proofs.YtppkiponpjnkkaaDoor
open Go.RowKit
open M
attribute [local go_sem] un_add un_sub un_xor un_or un_nonneg un_beq un_bne

theorem band_sign (m : Nat) (hm : m < 1016) : (128 + (m : Int) / 8) = ub (UInt8.ofNat (128 + m / 8)) := by
  unfold ub
  rw [UInt8.toNat_ofNat_of_lt' (by show 128 + m / 8 < 256; omega)]
  omega
theorem ret_same {k : IntKind} {a b : Int} (h : a = b) : Ending.returned (.int k a) = .returned (.int k b) := by rw [h]

set_option maxHeartbeats 1000000 in
theorem band_any (k : List UInt8) (f : Int) (w : World) (hk : k.length = 16) (h : Signs w) :
    Calls Tryd.prog 8 #[.agg (byteCells k), .int .i64 f] w fun e w' => e = .returned (.int .i64 (bandOf k f : Nat)) ∧ Below w.heap.size w w' := by
  have HG := Lib.hid (h.below ((Below.refl w.heap.size w).alloc (Nat.le_refl _) (.cells (byteCells k) 23)) h.lt)
  have HI := Lib.hid (key_info k hk)
  have hm := fr_lt f
  have HB : Hid (bandOf k f = (kord k (UInt8.ofNat (128 + fr f / 8)) 8).getD (fr f % 8) 0) := rfl
  clear h
  go_enter Tryd.func8, Tryd.ntmps8
  go_wp2_with fail
  refine (frame_any f _).mono ?_
  rintro e w' ⟨rfl, rfl⟩
  generalize fr f = m at *
  go_wp2_with (refine wpList_load_row rfl 23 (.tmp 2) rfl w.heap.size rfl 23 (byteCells k) (0, 0) _ (heap_alloc_new _ _) Tryd.underlying23 rfl HI.out ?_)
  rw [band_sign m hm]
  refine (order_any k (UInt8.ofNat (128 + m / 8)) 8 _ hk (by omega) (by omega) HG.out).mono ?_
  rintro e w1 ⟨rfl, hr, hb⟩
  have HBB : Hid (Below w.heap.size w w1) := ((Below.refl _ _).alloc (Nat.le_refl _) _).trans (hb.mono (by simp))
  have c0 : w1.cell? ⟨(w.alloc (.cells (byteCells k) 23)).heap.size + 1, m % 8, none⟩ = some (.int .i64 ((kord k (UInt8.ofNat (128 + m / 8)) 8).getD (m % 8) 0 : Nat)) :=
    (cell_of_row _ _ _ _ _ _ hr).trans (natCells_get _ _ (by unfold kord; rw [ord_length]; omega))
  rw [← HB.out] at c0
  generalize (w.alloc (.cells (byteCells k) 23)).heap.size + 1 = g at *
  clear hr hb
  go_wp2
  go_ret
  exact ⟨rfl, HBB.out⟩

set_option maxHeartbeats 1000000 in
theorem place_any (k : List UInt8) (f : Int) (w : World) (hk : k.length = 16) (h : Signs w) :
    Calls Tryd.prog 9 #[.agg (byteCells k), .int .i64 f] w fun e w' => e = .returned (.int .i64 (placeOf k f : Nat)) ∧ Below w.heap.size w w' := by
  have HG := Lib.hid (h.below ((Below.refl w.heap.size w).alloc (Nat.le_refl _) (.cells (byteCells k) 23)) h.lt)
  have HI := Lib.hid (key_info k hk)
  have hm := fr_lt f
  have HB : Hid (placeOf k f = (kord k 112 127).getD (fr f % 127) 0) := rfl
  clear h
  go_enter Tryd.func9, Tryd.ntmps9
  go_wp2_with (refine wpList_load_row rfl 23 (.tmp 2) rfl w.heap.size rfl 23 (byteCells k) (0, 0) _ (heap_alloc_new _ _) Tryd.underlying23 rfl HI.out ?_)
  refine (order_any k 112 127 _ hk (by omega) (by omega) HG.out).mono ?_
  rintro e w1 ⟨rfl, hr, hb⟩
  have HBB : Hid (Below w.heap.size w w1) := ((Below.refl _ _).alloc (Nat.le_refl _) _).trans (hb.mono (by simp))
  have c0 : w1.cell? ⟨(w.alloc (.cells (byteCells k) 23)).heap.size + 1, fr f % 127, none⟩ = some (.int .i64 ((kord k 112 127).getD (fr f % 127) 0 : Nat)) :=
    (cell_of_row _ _ _ _ _ _ hr).trans (natCells_get _ _ (by unfold kord; rw [ord_length]; omega))
  rw [← HB.out] at c0
  generalize (w.alloc (.cells (byteCells k) 23)).heap.size + 1 = g at *
  clear hr hb
  go_wp2_with fail
  refine (frame_any f _).mono ?_
  rintro e w' ⟨rfl, rfl⟩
  generalize fr f = m at *
  go_wp2
  go_ret
  exact ⟨rfl, HBB.out⟩

theorem bool_info : (Tryd.prog.info? 4).map (fun i => (i.zero, i.size, i.bytes)) = some (some (.bool false), 1, 1) := by kernel_rfl

/-- A whole row is read, in every world that has what was there. -/
theorem yields_row {ops : Array Oper} {op : Oper} {a : Act} {W0 : World} (hw : Region.wanted op (yielded ops a.tmps) = true) (ty : TypeId) (x : Operand) (ho : op.op = .load ty x)
    (g : Nat) (hx : a.eval x = .pointer (some ⟨g, 0, none⟩)) (t : TypeId) (cs : Array Value) (hr : Row W0 g t cs) {n : Nat} {e : TypeId} (hu : Tryd.prog.underlying ty = some (.array n e))
    (hi : (Tryd.prog.info? ty).map (·.size) = some cs.size) : YieldsIf Tryd.prog ops (fun w' => Below W0.heap.size W0 w') op (.agg cs) a :=
  .inl ⟨hw, fun w hw' => by
    unfold execOp
    simp only [ho, hx, Instr.loadAt, Instr.sureAddr, Sem.run_bind, Sem.run_pure, Result.andThen_ok, run_loadVar_row w g t ty cs (0, 0) _ (hr.below hw' hr.lt) hu rfl hi]⟩
theorem band_again (k : List UInt8) : bandOf k (-1) = bandOf k 1015 := rfl
theorem fr_neg : fr (-1) = 1015 := rfl
theorem zero_row (w : World) : Row (w.alloc (.cells (Array.replicate 16 (.int .u8 0)) 23)) w.heap.size 23 (byteCells (List.replicate 16 0)) := heap_alloc_new _ _

set_option maxHeartbeats 1000000 in
theorem awake_any (w : World) (h : Signs w) :
    Calls Tryd.prog 5 #[] w fun e w' => e = .returned (.bool true) ∧ Below w.heap.size w w' := by
  obtain ⟨k, hk⟩ : ∃ k, List.replicate 16 (0 : UInt8) = k := ⟨_, rfl⟩
  have hl : k.length = 16 := by rw [← hk]; rfl
  have HI := Lib.hid (key_info k hl)
  have hr0 := zero_row w
  rw [hk] at hr0
  have hb0 : Below w.heap.size w (w.alloc (.cells (Array.replicate 16 (.int .u8 0)) 23)) := (Below.refl _ _).alloc (Nat.le_refl _) _
  have HG := Lib.hid h
  have H0 := Lib.hid (And.intro hr0 hb0)
  have HK := Lib.hid hl
  clear h hr0 hb0 hk hl
  go_enter Tryd.func5, Tryd.ntmps5
  go_wp2_with fail
  generalize hW : w.alloc _ = W0
  have h1 : Row W0 w.heap.size 23 (byteCells k) ∧ Below w.heap.size w W0 := by rw [← hW]; exact H0.out
  clear hW H0
  have HR := Lib.hid h1.1
  have HB := Lib.hid h1.2
  have HS := Lib.hid (HG.out.below h1.2 HG.out.lt)
  clear h1 HG
  refine wp_region_held_drew (S := fun w' => Below W0.heap.size W0 w') (by kernel_rfl) ?_ (fun hHeld => ?_)
  · exact below_drew1 (Below.refl _ _)
  refine wpAnyH_ready (rs := [0]) (by kernel_rfl) (by simp) ?_
  refine AllReadyH.cons (o := _) rfl (fun K hK => ?_) AllReadyH.nil
  go_simp
  refine (frame_any (-1) _).mono ?_
  rintro e w' ⟨rfl, rfl⟩
  rw [fr_neg]
  go_wp2_with fail
  refine hK.out _ _ hHeld (fun hHeld => ?_)
  clear hK K
  (try simp only [List.getElem_toArray, List.getElem_cons_succ, List.getElem_cons_zero, Act.put, List.setIfInBounds_toArray, List.set_cons_zero, List.set_cons_succ])
  refine wpAnyH_take (i := 1) (oi := _) (v := ?_) rfl (by kernel_rfl) (by kernel_rfl) (by kernel_rfl) (fun _ _ _ h => h) (Or.inl ⟨by rfl, ?_⟩) hHeld ?_
  rotate_left
  · (intro w hSw; (try dsimp only at hSw); first | (go_simp; done) | (go_simp; with_reducible rfl))
  (try simp only [List.getElem_toArray, List.getElem_cons_succ, List.getElem_cons_zero, Act.put, List.setIfInBounds_toArray, List.set_cons_zero, List.set_cons_succ])
  refine wpAnyH_take (i := 2) (oi := _) (v := ?_) rfl (by kernel_rfl) (by kernel_rfl) (by kernel_rfl) (fun _ _ _ h => h) (Or.inl ⟨by rfl, ?_⟩) hHeld ?_
  rotate_left
  · (intro w hSw; (try dsimp only at hSw); first | (go_simp; done) | (go_simp; with_reducible rfl))
  (try simp only [List.getElem_toArray, List.getElem_cons_succ, List.getElem_cons_zero, Act.put, List.setIfInBounds_toArray, List.set_cons_zero, List.set_cons_succ])
  refine wpAnyH_take (i := 3) (oi := _) rfl (by kernel_rfl) (by kernel_rfl) (by kernel_rfl) (fun _ _ _ h => h) (yields_row (by rfl) 23 (.tmp 1) rfl w.heap.size rfl 23 (byteCells k) HR.out Tryd.underlying23 HI.out) hHeld ?_
  (try simp only [List.getElem_toArray, List.getElem_cons_succ, List.getElem_cons_zero, Act.put, List.setIfInBounds_toArray, List.set_cons_zero, List.set_cons_succ])
  refine wpAnyH_take (i := 5) (oi := _) rfl (by kernel_rfl) (by kernel_rfl) (by kernel_rfl) (fun _ _ _ h => h) (yields_row (by rfl) 23 (.tmp 1) rfl w.heap.size rfl 23 (byteCells k) HR.out Tryd.underlying23 HI.out) hHeld ?_
  (try simp only [List.getElem_toArray, List.getElem_cons_succ, List.getElem_cons_zero, Act.put, List.setIfInBounds_toArray, List.set_cons_zero, List.set_cons_succ])
  refine wpAnyH_ready (rs := [4]) (by kernel_rfl) (by simp) ?_
  refine AllReadyH.cons (o := _) rfl (fun K hK => ?_) AllReadyH.nil
  go_simp
  refine (band_any k (-1) _ HK.out (HS.out.below hHeld HS.out.lt)).mono ?_
  rintro e w1 ⟨rfl, hb⟩
  rw [band_again]
  go_wp2_with fail
  have hN := hHeld.trans (hb.mono hHeld.size)
  clear hHeld hb
  refine hK.out _ _ hN (fun hHeld => ?_)
  clear hN
  clear hK K
  (try simp only [List.getElem_toArray, List.getElem_cons_succ, List.getElem_cons_zero, Act.put, List.setIfInBounds_toArray, List.set_cons_zero, List.set_cons_succ])
  refine wpAnyH_ready (rs := [6]) (by kernel_rfl) (by simp) ?_
  refine AllReadyH.cons (o := _) rfl (fun K hK => ?_) AllReadyH.nil
  go_simp
  refine (band_any k 1015 _ HK.out (HS.out.below hHeld HS.out.lt)).mono ?_
  rintro e w2 ⟨rfl, hb⟩
  go_wp2_with fail
  have hN := hHeld.trans (hb.mono hHeld.size)
  clear hHeld hb
  refine hK.out _ _ hN (fun hHeld => ?_)
  clear hN
  clear hK K
  (try simp only [List.getElem_toArray, List.getElem_cons_succ, List.getElem_cons_zero, Act.put, List.setIfInBounds_toArray, List.set_cons_zero, List.set_cons_succ])
  refine wpAnyH_take (i := 7) (oi := _) (v := ?_) rfl (by kernel_rfl) (by kernel_rfl) (by kernel_rfl) (fun _ _ _ h => h) (Or.inl ⟨by rfl, ?_⟩) hHeld ?_
  rotate_left
  · (intro w hSw; (try dsimp only at hSw); first | (go_simp; done) | (go_simp; with_reducible rfl))
  (try simp only [List.getElem_toArray, List.getElem_cons_succ, List.getElem_cons_zero, Act.put, List.setIfInBounds_toArray, List.set_cons_zero, List.set_cons_succ])
  refine wpAnyH_take (i := 8) (oi := _) (v := ?_) rfl (by kernel_rfl) (by kernel_rfl) (by kernel_rfl) (fun _ _ _ h => h) (Or.inl ⟨by rfl, ?_⟩) hHeld ?_
  rotate_left
  · (intro w hSw; (try dsimp only at hSw); first | (go_simp; done) | (go_simp; with_reducible rfl))
  (try simp only [List.getElem_toArray, List.getElem_cons_succ, List.getElem_cons_zero, Act.put, List.setIfInBounds_toArray, List.set_cons_zero, List.set_cons_succ])
  refine wpAnyH_take (i := 9) (oi := _) (v := ?_) rfl (by kernel_rfl) (by kernel_rfl) (by kernel_rfl) (fun _ _ _ h => h) (Or.inl ⟨by rfl, ?_⟩) hHeld ?_
  rotate_left
  · (intro w hSw; (try dsimp only at hSw); first | (go_simp; done) | (go_simp; with_reducible rfl))
  (try simp only [List.getElem_toArray, List.getElem_cons_succ, List.getElem_cons_zero, Act.put, List.setIfInBounds_toArray, List.set_cons_zero, List.set_cons_succ])
  refine wpAnyH_take (i := 10) (oi := _) rfl (by kernel_rfl) (by kernel_rfl) (by kernel_rfl) (fun _ _ _ h => h) (yields_row (by rfl) 23 (.tmp 1) rfl w.heap.size rfl 23 (byteCells k) HR.out Tryd.underlying23 HI.out) hHeld ?_
  (try simp only [List.getElem_toArray, List.getElem_cons_succ, List.getElem_cons_zero, Act.put, List.setIfInBounds_toArray, List.set_cons_zero, List.set_cons_succ])
  refine wpAnyH_ready (rs := [11]) (by kernel_rfl) (by simp) ?_
  refine AllReadyH.cons (o := _) rfl (fun K hK => ?_) AllReadyH.nil
  go_simp
  refine (order_any k 120 3 _ HK.out (by omega) (by omega) (HS.out.below hHeld HS.out.lt)).mono ?_
  rintro e w3 ⟨rfl, _, hb⟩
  go_wp2_with fail
  have hN := hHeld.trans (hb.mono hHeld.size)
  clear hHeld hb
  refine hK.out _ _ hN (fun hHeld => ?_)
  clear hN
  clear hK K
  (try simp only [List.getElem_toArray, List.getElem_cons_succ, List.getElem_cons_zero, Act.put, List.setIfInBounds_toArray, List.set_cons_zero, List.set_cons_succ])
  refine wpAnyH_take (i := 12) (oi := _) (v := ?_) rfl (by kernel_rfl) (by kernel_rfl) (by kernel_rfl) (fun _ _ _ h => h) (Or.inl ⟨by rfl, ?_⟩) hHeld ?_
  rotate_left
  · (intro w hSw; (try dsimp only at hSw); first | (go_simp; done) | (go_simp; with_reducible rfl))
  (try simp only [List.getElem_toArray, List.getElem_cons_succ, List.getElem_cons_zero, Act.put, List.setIfInBounds_toArray, List.set_cons_zero, List.set_cons_succ])
  refine wpAnyH_take (i := 13) (oi := _) (v := ?_) rfl (by kernel_rfl) (by kernel_rfl) (by kernel_rfl) (fun _ _ _ h => h) (Or.inl ⟨by rfl, ?_⟩) hHeld ?_
  rotate_left
  · (intro w hSw; (try dsimp only at hSw); first | (go_simp; done) | (go_simp; with_reducible rfl))
  (try simp only [List.getElem_toArray, List.getElem_cons_succ, List.getElem_cons_zero, Act.put, List.setIfInBounds_toArray, List.set_cons_zero, List.set_cons_succ])
  refine wpAnyH_take (i := 14) (oi := _) (v := ?_) rfl (by kernel_rfl) (by kernel_rfl) (by kernel_rfl) (fun _ _ _ h => h) (Or.inl ⟨by rfl, ?_⟩) hHeld ?_
  rotate_left
  · (intro w hSw; (try dsimp only at hSw); first | (go_simp; done) | (go_simp; with_reducible rfl))
  (try simp only [List.getElem_toArray, List.getElem_cons_succ, List.getElem_cons_zero, Act.put, List.setIfInBounds_toArray, List.set_cons_zero, List.set_cons_succ])
  refine wpAnyH_take (i := 15) (oi := _) (v := ?_) rfl (by kernel_rfl) (by kernel_rfl) (by kernel_rfl) (fun _ _ _ h => h) (Or.inl ⟨by rfl, ?_⟩) hHeld ?_
  rotate_left
  · (intro w hSw; (try dsimp only at hSw); first | (go_simp; done) | (go_simp; with_reducible rfl))
  (try simp only [List.getElem_toArray, List.getElem_cons_succ, List.getElem_cons_zero, Act.put, List.setIfInBounds_toArray, List.set_cons_zero])
  refine wpAnyH_done (by kernel_rfl) ?_ _
  go_wp2
  go_ret
  exact ⟨rfl, HB.out.trans (hHeld.mono HB.out.size)⟩
end Go.Proofs.YtppkiponpjnkkaaDoor
