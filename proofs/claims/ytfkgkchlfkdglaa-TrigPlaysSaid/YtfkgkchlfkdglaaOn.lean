/-
  trig's Table: the cosines and sines of 0 to 127. No conditions.
-/
import Derived.Test.YtfkgkchlfkdglaaOf
import Derived.OrdersHeld
import Derived.Deep.RegionHeld
import Derived.Deep.Cut
namespace Go.Proofs.Ytfkgkchlfkdglaa
open Go.RowKit
open M
/-- A list of ints, as it lies. -/
def iCells (l : List Int) : Array Value := (l.map fun x => Value.int .i64 x).toArray
theorem iCells_size (l : List Int) : (iCells l).size = l.length := by simp [iCells]
theorem iCells_get (l : List Int) (i : Nat) (h : i < l.length) : (iCells l)[i]? = some (.int .i64 (l.getD i 0)) := by
  simp [iCells, List.getD_eq_getElem?_getD, h]
theorem iCells_set (l : List Int) (i : Nat) (x : Int) : (iCells l).setIfInBounds i (.int .i64 x) = iCells (l.set i x) := by
  simp [iCells, List.map_set]
theorem iCells_one (l : List Int) : (iCells l).all (·.oneCell') = true := by
  simp [iCells, Value.oneCell']
theorem i_at {w : World} {g : Nat} {l : List Int} {t : TypeId} (h : Row w g t (iCells l)) (i : Nat) (hi : i < l.length) : w.cell? ⟨g, i, none⟩ = some (.int .i64 (l.getD i 0)) :=
  (cell_of_row w g i (iCells l) t (0, 0) h).trans (iCells_get l i hi)
/-- The table, as far as the angle k. -/
def tbl (k : Nat) : List Int := (List.range 256).map fun e => if e < 2 * k then (if e % 2 = 0 then (tab8.getD (e / 2) (0, 0)).1 else (tab8.getD (e / 2) (0, 0)).2) else 0
theorem tbl_length (k : Nat) : (tbl k).length = 256 := by simp [tbl]
theorem tbl_step (k : Nat) : ((tbl k).set (2 * k) (tab8.getD k (0, 0)).1).set (2 * k + 1) (tab8.getD k (0, 0)).2 = tbl (k + 1) := by
  apply List.ext_getElem
  · simp [tbl]
  · intro i h1 h2
    simp only [tbl, List.getElem_set, List.getElem_map, List.getElem_range]
    by_cases e1 : 2 * k + 1 = i
    · rw [if_pos e1, if_pos (by omega), if_neg (by omega), show i / 2 = k by omega]
    · rw [if_neg e1]
      by_cases e2 : 2 * k = i
      · rw [if_pos e2, if_pos (by omega), if_pos (by omega), show i / 2 = k by omega]
      · rw [if_neg e2]
        by_cases e3 : i < 2 * k
        · rw [if_pos e3, if_pos (show i < 2 * (k + 1) by omega)]
        · rw [if_neg e3, if_neg (show ¬ i < 2 * (k + 1) by omega)]
def t0 : List Int := List.replicate 256 0
theorem tbl_zero : tbl 0 = t0 := by decide +kernel
theorem tbl_at (i : Nat) (h : i < 128) : (tbl 128).getD (2 * i) 0 = (tab8.getD i (0, 0)).1 ∧ (tbl 128).getD (2 * i + 1) 0 = (tab8.getD i (0, 0)).2 := by
  have h1 : 2 * i < 256 := by omega
  have h2 : 2 * i + 1 < 256 := by omega
  constructor
  · simp only [tbl, List.getD_eq_getElem?_getD, List.getElem?_map, List.getElem?_range h1, Option.map_some, Option.getD_some]
    rw [if_pos (by omega), if_pos (by omega), show 2 * i / 2 = i by omega]
  · simp only [tbl, List.getD_eq_getElem?_getD, List.getElem?_map, List.getElem?_range h2, Option.map_some, Option.getD_some]
    rw [if_pos (by omega), if_neg (by omega), show (2 * i + 1) / 2 = i by omega]
theorem table_info : (Try.prog.info? 31).map (fun i => (i.zero, i.size)) = some (some (.agg (iCells t0)), 256) := by kernel_rfl
theorem table_zero (w : World) : (zeroValue 31).run Try.prog w = .ok (.agg (iCells t0)) w := (zero_of_info table_info).1 w
theorem table_size (l : List Int) (h : l.length = 256) : (Try.prog.info? 31).map (·.size) = some (iCells l).size := by
  rw [iCells_size, h]; kernel_rfl
theorem store_halves (w : World) : (storeCells ⟨w.heap.size, 0, none⟩ (natCells (hl 0)).toList 0).run Try.prog (w.alloc (.cells (natCells h0) 38)) = .ok () (w.alloc (.cells (natCells (hl 0)) 38)) :=
  run_storeCells_new w _ _ _ (halves_size (hl 0) (hl_length 0)) (by rw [natCells_size, natCells_size, hl_length]; rfl) (natCells_one (hl 0))
/-- What stays through a round's statement. -/
def TS (w : World) (g : Nat) (w' : World) : Prop := Below w.heap.size w w' ∧ Row w' g 38 (natCells (hl 0)) ∧ Row w' w.heap.size 31 (iCells t0)
theorem yields_rowS {ops : Array Oper} {op : Oper} {a : Act} {w : World} (hw : Region.wanted op (yielded ops a.tmps) = true) (ty : TypeId) (x : Operand) (ho : op.op = .load ty x)
    (g : Nat) (hx : a.eval x = .pointer (some ⟨g, 0, none⟩)) {n : Nat} {e : TypeId} (hu : Try.prog.underlying ty = some (.array n e))
    (hi : (Try.prog.info? ty).map (·.size) = some (natCells (hl 0)).size) : YieldsIf Try.prog ops (TS w g) op (.agg (natCells (hl 0))) a :=
  .inl ⟨hw, fun w1 hw' => by
    unfold execOp
    simp only [ho, hx, Instr.loadAt, Instr.sureAddr, Sem.run_bind, Sem.run_pure, Result.andThen_ok, run_loadVar_row w1 g 38 ty (natCells (hl 0)) (0, 0) _ hw'.2.1 hu rfl hi]⟩
theorem TS.drew {w : World} {g : Nat} {w1 : World} (h : TS w g w1) : TS w g w1.drew := ⟨below_drew1 h.1, h.2.1, h.2.2⟩
theorem TS.call {w : World} {g : Nat} {w1 w2 : World} (h : TS w g w1) (hb : Below w1.heap.size w1 w2) : TS w g w2 := ⟨h.1.trans (hb.mono h.1.size), Row.box h.2.1 hb, Row.box h.2.2 hb⟩
theorem TS.set {w : World} {g : Nat} {w1 : World} (h : TS w g w1) (hg : w.heap.size + 1 < g) (i : Nat) (u : Value) : TS w g (w1.setCell ⟨w.heap.size + 1, i, none⟩ u) :=
  ⟨h.1.setCell (by simp) _, h.2.1.far (p := ⟨w.heap.size + 1, i, none⟩) (by show g ≠ w.heap.size + 1; omega) _, h.2.2.far (p := ⟨w.heap.size + 1, i, none⟩) (by show w.heap.size ≠ w.heap.size + 1; omega) _⟩
set_option maxRecDepth 100000 in
theorem table_any (w : World) :
    Calls Try.prog 16 #[] w fun e w' => e = .returned (.agg (iCells (tbl 128))) ∧ Below w.heap.size w w' := by
  have hz := table_zero w
  have hz1 := table_zero (w.alloc (.cells (iCells t0) 31))
  have HR0 : Hid (Row ((w.alloc (.cells (iCells t0) 31)).alloc (.cells (iCells t0) 31)) w.heap.size 31 (iCells t0)) := heap_alloc2_old _ _ _
  have HR1 : Hid (Row ((w.alloc (.cells (iCells t0) 31)).alloc (.cells (iCells t0) 31)) (w.heap.size + 1) 31 (iCells (tbl 0))) := by
    unfold Hid; rw [tbl_zero]; exact heap_alloc2_new _ _ _
  have HB0 : Hid (Below w.heap.size w ((w.alloc (.cells (iCells t0) 31)).alloc (.cells (iCells t0) 31))) := ((Below.refl _ _).alloc (Nat.le_refl _) _).alloc (by simp) _
  go_enter Try.func16, Try.ntmps16
  go_wp2_with fail
  clear hz hz1
  generalize (w.alloc (.cells (iCells t0) 31)).alloc (.cells (iCells t0) 31) = w1 at *
  refine (halves_any _).mono ?_
  rintro e w2 ⟨rfl, hb⟩
  have HB1 := Lib.hid (HB0.out.trans (hb.mono HB0.out.size))
  have HQ0 := Lib.hid (Row.box HR0.out hb)
  have HQ1 := Lib.hid (Row.box HR1.out hb)
  clear hb HR0 HR1 HB0
  have hz := halves_zero w2
  have hst := store_halves w2
  have hsz : (natCells (hl 0)).size = 14 := by rw [natCells_size, hl_length]
  go_wp2_with fail
  clear hz hst hsz
  have HL0 : Hid (Row (w2.alloc (.cells (natCells (hl 0)) 38)) w2.heap.size 38 (natCells (hl 0))) := heap_alloc_new _ _
  have HT0 : Hid (Row (w2.alloc (.cells (natCells (hl 0)) 38)) w.heap.size 31 (iCells t0)) := Row.alloc HQ0.out _
  have HT1 : Hid (Row (w2.alloc (.cells (natCells (hl 0)) 38)) (w.heap.size + 1) 31 (iCells (tbl 0))) := Row.alloc HQ1.out _
  have HB2 : Hid (Below w.heap.size w (w2.alloc (.cells (natCells (hl 0)) 38))) := HB1.out.alloc HB1.out.size _
  have hg : w.heap.size + 1 < w2.heap.size := Row.lt HQ1.out
  clear HQ0 HQ1 HB1
  generalize w2.heap.size = g at *
  generalize w2.alloc (.cells (natCells (hl 0)) 38) = w3 at *
  go_loopw [5] (fun i wr => ∃ k : Nat, k ≤ 128 ∧ i = .int .i64 k ∧ TS w g wr ∧ Row wr (w.heap.size + 1) 31 (iCells (tbl k))) (fun i _ => 128 - (intOf i).toNat)
  case atStart => exact ⟨0, by omega, rfl, ⟨HB2.out, HL0.out, HT0.out⟩, HT1.out⟩
  case round =>
    clear HB2 HL0 HT0 HT1
    obtain ⟨k, hk, rfl, hS, hT⟩ := hrel
    have HS := Lib.hid hS
    have HT := Lib.hid hT
    have HSZ := Lib.hid (halves_size (hl 0) (hl_length 0))
    clear hS hT
    rcases Nat.lt_or_ge k 128 with hlt | hge
    · have HLT := Lib.hid hlt
      have HC := Lib.hid (tab8_cs k hlt)
      have HST := Lib.hid (tbl_step k)
      obtain ⟨P, hP⟩ : ∃ P, tab8.getD k (0, 0) = P := ⟨_, rfl⟩
      rw [hP] at HC HST
      clear hP
      obtain ⟨x, y⟩ := P
      go_wp2_with fail
      -- REGION6
      refine wp_region_held_drew (S := TS w g) (by kernel_rfl) ?_ (fun hHeld => ?_)
      · exact TS.drew HS.out
      have HT := Lib.hid (show Row wr.drew (w.heap.size + 1) 31 (iCells (tbl k)) from HT.out)
      clear HS
      generalize wr.drew = w4 at hHeld HT ⊢
      refine wpAnyH_take (i := 0) (oi := _) (v := ?_) rfl (by kernel_rfl) (by kernel_rfl) (by kernel_rfl) (fun _ _ _ h => h) (Or.inl ⟨by rfl, ?_⟩) hHeld ?_
      rotate_left
      · (intro w hSw; (try dsimp only at hSw); first | (go_simp; done) | (go_simp; with_reducible rfl))
      (try simp only [List.getElem_toArray, List.getElem_cons_zero, Act.put, List.setIfInBounds_toArray, List.set_cons_zero, List.set_cons_succ])
      refine wpAnyH_take (i := 1) (oi := _) (v := ?_) rfl (by kernel_rfl) (by kernel_rfl) (by kernel_rfl) (fun _ _ _ h => h) (Or.inl ⟨by rfl, ?_⟩) hHeld ?_
      rotate_left
      · (intro w hSw; (try dsimp only at hSw); first | (go_simp; done) | (go_simp; with_reducible rfl))
      (try simp only [List.getElem_toArray, List.getElem_cons_succ, List.getElem_cons_zero, Act.put, List.setIfInBounds_toArray, List.set_cons_zero, List.set_cons_succ])
      refine wpAnyH_take (i := 2) (oi := _) rfl (by kernel_rfl) (by kernel_rfl) (by kernel_rfl) (fun _ _ _ h => h) (yields_rowS (by rfl) 38 (.tmp 2) rfl g rfl Try.underlying38 HSZ.out) hHeld ?_
      (try simp only [List.getElem_toArray, List.getElem_cons_succ, List.getElem_cons_zero, Act.put, List.setIfInBounds_toArray, List.set_cons_zero, List.set_cons_succ])
      refine wpAnyH_take (i := 3) (oi := _) (v := ?_) rfl (by kernel_rfl) (by kernel_rfl) (by kernel_rfl) (fun _ _ _ h => h) (Or.inl ⟨by rfl, ?_⟩) hHeld ?_
      rotate_left
      · (intro w hSw; (try dsimp only at hSw); first | (go_simp; done) | (go_simp; with_reducible rfl))
      (try simp only [List.getElem_toArray, List.getElem_cons_succ, List.getElem_cons_zero, Act.put, List.setIfInBounds_toArray, List.set_cons_zero, List.set_cons_succ])
      refine wpAnyH_take (i := 8) (oi := _) (v := ?_) rfl (by kernel_rfl) (by kernel_rfl) (by kernel_rfl) (fun _ _ _ h => h) (Or.inl ⟨by rfl, ?_⟩) hHeld ?_
      rotate_left
      · (intro w hSw; (try dsimp only at hSw); first | (go_simp; done) | (go_simp; with_reducible rfl))
      (try simp only [List.getElem_toArray, List.getElem_cons_succ, List.getElem_cons_zero, Act.put, List.setIfInBounds_toArray, List.set_cons_zero, List.set_cons_succ])
      refine wpAnyH_take (i := 11) (oi := _) (v := ?_) rfl (by kernel_rfl) (by kernel_rfl) (by kernel_rfl) (fun _ _ _ h => h) (Or.inl ⟨by rfl, ?_⟩) hHeld ?_
      rotate_left
      · (intro w hSw; (try dsimp only at hSw); first | (go_simp; done) | (go_simp; with_reducible rfl))
      (try simp only [List.getElem_toArray, List.getElem_cons_succ, List.getElem_cons_zero, Act.put, List.setIfInBounds_toArray, List.set_cons_zero, List.set_cons_succ])
      refine wpAnyH_ready (rs := [4]) (by kernel_rfl) (by simp) ?_
      refine (AllReadyH.cons (o := _) rfl (fun K hK => ?_) AllReadyH.nil)
      go_simp
      refine (within_any k _ hlt).mono ?_
      rintro e w20 ⟨rfl, hb⟩
      rw [← HC.out]
      go_wp2_with fail
      have hN := TS.call hHeld hb
      have HT := Lib.hid (Row.box HT.out hb)
      clear hHeld hb
      refine hK.out _ _ hN (fun hHeld => ?_)
      clear hN hK K
      (try simp only [List.getElem_toArray, List.getElem_cons_succ, List.getElem_cons_zero, Act.put, List.setIfInBounds_toArray, List.set_cons_zero, List.set_cons_succ])
      refine wpAnyH_take (i := 5) (oi := _) (v := ?_) rfl (by kernel_rfl) (by kernel_rfl) (by kernel_rfl) (fun _ _ _ h => h) (Or.inl ⟨by rfl, ?_⟩) hHeld ?_
      rotate_left
      · (intro w hSw; (try dsimp only at hSw); first | (go_simp; done) | (go_simp; with_reducible rfl))
      (try simp only [List.getElem_toArray, List.getElem_cons_succ, List.getElem_cons_zero, Act.put, List.setIfInBounds_toArray, List.set_cons_zero, List.set_cons_succ])
      refine wpAnyH_take (i := 6) (oi := _) (v := ?_) rfl (by kernel_rfl) (by kernel_rfl) (by kernel_rfl) (fun _ _ _ h => h) (Or.inl ⟨by rfl, ?_⟩) hHeld ?_
      rotate_left
      · (intro w hSw; (try dsimp only at hSw); first | (go_simp; done) | (go_simp; with_reducible rfl))
      (try simp only [List.getElem_toArray, List.getElem_cons_succ, List.getElem_cons_zero, Act.put, List.setIfInBounds_toArray, List.set_cons_zero, List.set_cons_succ])
      refine wpAnyH_take (i := 7) (oi := _) (v := ?_) rfl (by kernel_rfl) (by kernel_rfl) (by kernel_rfl) (fun _ _ _ h => h) (Or.inl ⟨by rfl, ?_⟩) hHeld ?_
      rotate_left
      · (intro w hSw; (try dsimp only at hSw); first | (go_simp; done) | (go_simp; with_reducible rfl))
      (try simp only [List.getElem_toArray, List.getElem_cons_succ, List.getElem_cons_zero, Act.put, List.setIfInBounds_toArray, List.set_cons_zero, List.set_cons_succ])
      refine wpAnyH_take (i := 9) (oi := _) (v := ?_) rfl (by kernel_rfl) (by kernel_rfl) (by kernel_rfl) (fun _ _ _ h => h) (Or.inl ⟨by rfl, ?_⟩) hHeld ?_
      rotate_left
      · (intro w hSw; (try dsimp only at hSw); first | (go_simp; done) | (go_simp; with_reducible rfl))
      (try simp only [List.getElem_toArray, List.getElem_cons_succ, List.getElem_cons_zero, Act.put, List.setIfInBounds_toArray, List.set_cons_zero, List.set_cons_succ])
      refine wpAnyH_ready (rs := [10]) (by kernel_rfl) (by simp) ?_
      refine (AllReadyH.cons (o := _) rfl (fun K hK => ?_) AllReadyH.nil)
      have a0 := i_at HT.out (k * 2) (by rw [tbl_length]; omega)
      have af := HT.out.free (k * 2)
      go_simp
      refine hK.out _ _ (TS.set hHeld hg _ _) (fun hHeld => ?_)
      clear hK K a0 af
      have HT := Lib.hid (Row.set HT.out (k * 2) (.int .i64 x))
      generalize w20.setCell _ _ = w21 at hHeld HT ⊢
      (try simp only [List.getElem_toArray, List.getElem_cons_succ, List.getElem_cons_zero, Act.put, List.setIfInBounds_toArray, List.set_cons_zero, List.set_cons_succ])
      rw [iCells_set] at HT
      refine wpAnyH_take (i := 12) (oi := _) (v := ?_) rfl (by kernel_rfl) (by kernel_rfl) (by kernel_rfl) (fun _ _ _ h => h) (Or.inl ⟨by rfl, ?_⟩) hHeld ?_
      rotate_left
      · (intro w hSw; (try dsimp only at hSw); first | (go_simp; done) | (go_simp; with_reducible rfl))
      (try simp only [List.getElem_toArray, List.getElem_cons_succ, List.getElem_cons_zero, Act.put, List.setIfInBounds_toArray, List.set_cons_zero, List.set_cons_succ])
      refine wpAnyH_ready (rs := [13]) (by kernel_rfl) (by simp) ?_
      refine (AllReadyH.cons (o := _) rfl (fun K hK => ?_) AllReadyH.nil)
      have a0 := i_at HT.out (k * 2 + 1) (by rw [List.length_set, tbl_length]; omega)
      have af := HT.out.free (k * 2 + 1)
      go_simp
      refine hK.out _ _ (TS.set hHeld hg _ _) (fun hHeld => ?_)
      clear hK K a0 af
      have HT := Lib.hid (Row.set HT.out (k * 2 + 1) (.int .i64 y))
      generalize w21.setCell _ _ = w22 at hHeld HT ⊢
      (try simp only [List.getElem_toArray, List.getElem_cons_succ, List.getElem_cons_zero, Act.put, List.setIfInBounds_toArray, List.set_cons_zero, List.set_cons_succ])
      rw [iCells_set] at HT
      refine wpAnyH_done (by kernel_rfl) ?_ _
      clear hlt hk
      go_wp2
      go_roundw
      case rel =>
        refine ⟨k + 1, HLT.out, by go_num, hHeld, ?_⟩
        rw [← HST.out, Nat.mul_comm 2 k]
        exact HT.out
      case measure =>
        have := HLT.out
        simp [intOf]
        omega
      -- END6
    · obtain rfl : k = 128 := by omega
      have HTZ := Lib.hid (table_size (tbl 128) (tbl_length 128))
      have H1 := Lib.hid (show (iCells t0).size = (iCells (tbl 128)).size by rw [iCells_size, iCells_size, tbl_length]; rfl)
      go_wp2_with (first
        | (refine wpList_load_row rfl 31 (.tmp 1) rfl (w.heap.size + 1) rfl 31 (iCells (tbl 128)) (0, 0) _ HT.out Try.underlying31 rfl HTZ.out ?_)
        | (refine wpList_store_row rfl 31 (.tmp 0) (.tmp 21) rfl w.heap.size (iCells (tbl 128)) rfl rfl 31 (iCells t0) HS.out.2.2 HTZ.out H1.out (iCells_one (tbl 128)) ?_))
      refine bodyPost_ret (v := .agg (iCells (tbl 128))) (results_cell_row Try.results16 _ _ w.heap.size 31 (iCells (tbl 128)) (0, 0) _ rfl (Row.setRow HS.out.2.2 _) Try.underlying31 rfl HTZ.out) rfl ⟨rfl, below_setRow HS.out.1 (Nat.le_refl _) _⟩
end Go.Proofs.Ytfkgkchlfkdglaa
