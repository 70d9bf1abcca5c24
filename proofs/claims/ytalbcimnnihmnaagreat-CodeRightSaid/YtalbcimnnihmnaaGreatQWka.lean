/-
  Layer 19: pack's isSize, isFrame and has. Conditions: eight bands' pulses, eight counts.
-/
import Derived.Test.YtalbcimnnihmnaaGreatQS13
import Derived.Test.YtalbcimnnihmnaaGreatQS10
import Derived.Test.YtalbcimnnihmnaaGreatQS6
import Derived.BigQuiet
import Derived.Deep.WholeRow
import Derived.Deep.Cut
namespace Go.Proofs.YtalbcimnnihmnaaGreat
open Go.RowKit
open M
theorem isize_any (n : Int) (w : World) : Calls Tryz.prog 18 #[.int .i64 n] w fun e w' => e = .returned (.bool (decide (12 ≤ n ∧ n ≤ 24))) ∧ w' = w := by
  by_cases h1 : n < 12
  · have e : decide (12 ≤ n ∧ n ≤ 24) = false := decide_eq_false (by omega)
    have h2 : ¬ n ≥ 12 := by omega
    rw [e]
    clear e
    go_enter Tryz.func18, Tryz.ntmps18
    go_wp2
    go_ret
    exact ⟨rfl, rfl⟩
  · have h3 : n ≥ 12 := by omega
    by_cases h2 : n ≤ 24
    · have e : decide (12 ≤ n ∧ n ≤ 24) = true := decide_eq_true (by omega)
      rw [e]
      clear e
      go_enter Tryz.func18, Tryz.ntmps18
      go_wp2
      go_ret
      exact ⟨rfl, rfl⟩
    · have e : decide (12 ≤ n ∧ n ≤ 24) = false := decide_eq_false (by omega)
      rw [e]
      clear e
      go_enter Tryz.func18, Tryz.ntmps18
      go_wp2
      go_ret
      exact ⟨rfl, rfl⟩
theorem iframe_any (n : Int) (w : World) : Calls Tryz.prog 20 #[.int .i64 n] w fun e w' => e = .returned (.bool (decide (0 ≤ n ∧ n ≤ 65535))) ∧ w' = w := by
  by_cases h1 : n < 0
  · have e : decide (0 ≤ n ∧ n ≤ 65535) = false := decide_eq_false (by omega)
    have h2 : ¬ n ≥ 0 := by omega
    rw [e]
    clear e
    go_enter Tryz.func20, Tryz.ntmps20
    go_wp2
    go_ret
    exact ⟨rfl, rfl⟩
  · have h3 : n ≥ 0 := by omega
    by_cases h2 : n < 65536
    · have e : decide (0 ≤ n ∧ n ≤ 65535) = true := decide_eq_true (by omega)
      rw [e]
      clear e
      go_enter Tryz.func20, Tryz.ntmps20
      go_wp2
      go_ret
      exact ⟨rfl, rfl⟩
    · have e : decide (0 ≤ n ∧ n ≤ 65535) = false := decide_eq_false (by omega)
      rw [e]
      clear e
      go_enter Tryz.func20, Tryz.ntmps20
      go_wp2
      go_ret
      exact ⟨rfl, rfl⟩
/-- Pulses by value: four numbers. -/
theorem pls_info : (Tryz.prog.info? 27).map (fun i => (i.zero, i.size)) = some (some (.agg (iCells [0, 0, 0, 0])), 4) := by kernel_rfl
theorem pls_zero (w : World) : (zeroValue 27).run Tryz.prog w = .ok (.agg (iCells [0, 0, 0, 0])) w := (zero_of_info pls_info).1 w
theorem pls_size (l : List Int) (h : l.length = 4) : (Tryz.prog.info? 27).map (·.size) = some (iCells l).size := by
  rw [iCells_size, h]; kernel_rfl
theorem bds_size (l : List Int) (h : l.length = 32) : (Tryz.prog.info? 28).map (·.size) = some (iCells l).size := by
  rw [iCells_size, h]; kernel_rfl
theorem ext_pto (y : List Int) (o n : Nat) (h : o + n ≤ y.length) : (iCells y).extract o (o + n) = iCells (pto y o n) := by
  apply Array.ext
  · rw [Array.size_extract, iCells_size, iCells_size, pto_len]; omega
  · intro i h1 h2
    rw [iCells_size, pto_len] at h2
    have hoi : o + i < y.length := by omega
    have a := iCells_get y (o + i) hoi
    have b := iCells_get (pto y o n) i (by rw [pto_len]; exact h2)
    rw [pto_getD _ _ _ _ h2] at b
    rw [Array.getElem_extract]
    rw [Array.getElem?_eq_getElem (by rw [iCells_size]; exact hoi)] at a
    rw [Array.getElem?_eq_getElem (by rw [iCells_size, pto_len]; exact h2)] at b
    exact Option.some.inj (a.trans b.symm)
theorem index_bds (y : List Int) (hy : y.length = 32) (k : Nat) (hk : k < 8) (w : World) :
    (Instr.index 28 (.agg (iCells y)) (.int .i64 k)).run Tryz.prog w = .ok (.agg (iCells (pto y (k * 4) 4))) w := by
  have c := ext_pto y (k * 4) 4 (by omega)
  have h1 := Tryz.isAgg27
  have h2 := Tryz.sizeOf27
  simp [Instr.index, run_underlying Tryz.underlying28, asIntOf, hk, part, h1, h2, c, go_sem]
/-- Has each band so many pulses? -/
def hs19 (y k : List Int) : Bool := (List.range 8).all fun b => decide ((pu13 (pto y (b * 4) 4) : Int) = k.getD b 0)
theorem pls_ints {w : World} {g : Nat} {t : TypeId} {p : List Int} (hr : Row w g t (iCells p)) (hp : p.length = 4) : IntsAt w (.slice (some ⟨g, 0, none⟩) 4 4) p :=
  ⟨_, 4, by rw [hp], fun _ => ⟨g, 0, rfl, Row.lt hr, fun i hi => by rw [i_at hr (0 + i) (by omega), Nat.zero_add]⟩⟩
set_option maxRecDepth 100000 in
set_option maxHeartbeats 1000000 in
theorem has_any (y k : List Int) (w : World) (hy : y.length = 32) (hk : k.length = 8) :
    Calls Tryz.prog 19 #[.agg (iCells y), .agg (iCells k)] w fun e w' => e = .returned (.bool (hs19 y k)) ∧ Below w.heap.size w w' := by
  have hz := pls_zero
  have HY := Lib.hid hy
  have HSZ := Lib.hid (bds_size y hy)
  have HR : Hid (Row ((w.alloc (.cells (iCells y) 28)).alloc (.cells (iCells k) 24)) w.heap.size 28 (iCells y)) := Lib.hid (Row.alloc (heap_alloc_new _ _) _)
  have HK : Hid (Row ((w.alloc (.cells (iCells y) 28)).alloc (.cells (iCells k) 24)) (w.heap.size + 1) 24 (iCells k)) := Lib.hid (row_new _ _ (by simp) _ _)
  have HB : Hid (Below w.heap.size w ((w.alloc (.cells (iCells y) 28)).alloc (.cells (iCells k) 24))) := Lib.hid (((Below.refl _ _).alloc (Nat.le_refl _) _).alloc (by simp) _)
  have HNO : Hid (∀ b, b < 8 → ¬ (pu13 (pto y (b * 4) 4) : Int) = k.getD b 0 → hs19 y k = false) := Lib.hid fun b hb h => by
    unfold hs19
    rw [List.all_eq_false]
    exact ⟨b, List.mem_range.2 hb, by simpa using h⟩
  have HYES : Hid ((∀ b, b < 8 → (pu13 (pto y (b * 4) 4) : Int) = k.getD b 0) → hs19 y k = true) := Lib.hid fun h => by
    unfold hs19
    rw [List.all_eq_true]
    exact fun b hb => by simpa using h b (List.mem_range.1 hb)
  have HKL := Lib.hid hk
  generalize hs19 y k = R at *
  clear hy hk
  go_enter Tryz.func19, Tryz.ntmps19
  go_upto_region 1 with fail
  generalize (w.alloc (.cells (iCells y) 28)).alloc (.cells (iCells k) 24) = w1 at *
  obtain ⟨n0, hn0⟩ : ∃ n0, w.heap.size = n0 := ⟨_, rfl⟩
  have HN0 := Lib.hid fun _ : Unit => hn0
  rw [hn0] at HR HK HB ⊢
  clear hn0
  go_wp2_with (refine wpList_load_row rfl 28 (.tmp 2) rfl n0 rfl 28 (iCells y) (0, 0) _ HR.out Tryz.underlying28 rfl HSZ.out ?_)
  clear HR
  go_loopw [8] (fun ii wr => ∃ n : Nat, n ≤ 8 ∧ ii = .int .i64 n ∧ (∀ j, j < n → (pu13 (pto y (j * 4) 4) : Int) = k.getD j 0) ∧ Below n0 w wr ∧ Row wr (n0 + 1) 24 (iCells k)) (fun ii _ => 8 - (intOf ii).toNat)
  case atStart => exact ⟨0, by omega, rfl, fun j hj => by omega, HB.out, HK.out⟩
  case round =>
    clear HB HK
    obtain ⟨n, hn, rfl, hall, hb, hk⟩ := hrel
    have HA := Lib.hid hall
    have HB := Lib.hid hb
    have HK := Lib.hid hk
    clear hall hb hk
    rcases Nat.lt_or_ge n 8 with hlt | hge
    · have hix := index_bds y HY.out n hlt
      have HN := Lib.hid (HNO.out n hlt)
      have c1 := i_at HK.out n (by rw [HKL.out]; exact hlt)
      have HST : Hid ((pu13 (pto y (n * 4) 4) : Int) = k.getD n 0 → ∀ j, j < n + 1 → (pu13 (pto y (j * 4) 4) : Int) = k.getD j 0) := Lib.hid fun h j hj => by
        rcases Nat.lt_or_ge j n with hl | hg
        · exact HA.out j hl
        · obtain rfl : j = n := by omega
          exact h
      have HP4 := Lib.hid (pto_len y (n * 4) 4)
      obtain ⟨p, hp⟩ : ∃ p, pto y (n * 4) 4 = p := ⟨_, rfl⟩
      rw [hp] at hix HN HST HP4
      obtain ⟨x, hx⟩ : ∃ x, k.getD n 0 = x := ⟨_, rfl⟩
      rw [hx] at c1 HN HST
      have HXX := Lib.hid hx
      clear hp hx hn
      obtain ⟨g, hg⟩ : ∃ g, wr.heap.size = g := ⟨_, rfl⟩
      have HPZ := Lib.hid (pls_size p HP4.out)
      have HR : Hid (Row (wr.alloc (.cells (iCells [0, 0, 0, 0]) 27)) g 27 (iCells [0, 0, 0, 0])) := Lib.hid (row_new _ _ hg _ _)
      have HSX : Hid ((iCells [0, 0, 0, 0]).size = (iCells p).size) := Lib.hid (by rw [iCells_size, iCells_size, HP4.out]; rfl)
      have hnI : (n : Int) < 8 := by omega
      go_upto_region 4 with (refine wpList_store_row rfl 27 (.tmp 6) (.tmp 11) rfl g (iCells p) rfl rfl 27 (iCells [0, 0, 0, 0]) HR.out HPZ.out HSX.out (iCells_one _) ?_)
      have HKR := Lib.hid (row_laid HK.out (.cells (iCells [0, 0, 0, 0]) 27) (iCells p))
      have hgs : n0 ≤ wr.heap.size := by have := HB.out.size; rw [HN0.out ()] at this; exact this
      have HBR := Lib.hid (below_setRow (HB.out.alloc hgs (.cells (iCells [0, 0, 0, 0]) 27)) hgs (iCells p))
      have HPR := Lib.hid (Row.setRow HR.out (iCells p))
      rw [hg] at HKR HBR
      clear HK HB HR hg c1 hix hgs
      generalize (wr.alloc (.cells (iCells [0, 0, 0, 0]) 27)).setRow g (iCells p) = w2 at *
      have c1 := i_at HKR.out n (by rw [HKL.out]; exact hlt)
      rw [HXX.out] at c1
      clear HXX
      have hq : ∃ q : Nat, pu13 p = q := ⟨_, rfl⟩
      obtain ⟨q, hq⟩ := hq
      have HPU : Hid (∀ m, Calls Tryz.prog 10 #[.slice (some ⟨g, 0, none⟩) 4 4] (w2.drewN m) fun e w' => e = .returned (.int .i64 (q : Int)) ∧ w' = w2.drewN m) := Lib.hid fun m => by
        rw [← hq]
        exact pulses_any p _ _ (pls_ints (Row.drewN HPR.out m) HP4.out) (by rw [HP4.out]; unfold maxLen; omega)
      rw [hq] at HN HST
      clear hq HPR
      simp only [Act.put]
      go_big_quiet ((go_at_call 10; exact Calls.quiet_of_same (HPU.out _)))
      by_cases hqx : (q : Int) = x
      · have HST2 := Lib.hid (HST.out hqx)
        subst hqx
        clear HN HST HA
        go_wp2_with fail
        go_roundw
        case rel => exact ⟨n + 1, hlt, by go_num, HST2.out, Below.drewN HBR.out _, Row.drewN HKR.out _⟩
        case measure => simp [intOf] <;> omega
      · have hqb : ((q : Int) != x) = true := by rw [bne_iff_ne]; exact hqx
        have HR2 := Lib.hid (HN.out hqx)
        clear HN HST HA
        go_wp2_with fail
        go_ret
        exact ⟨by rw [HR2.out]; rfl, by rw [HN0.out ()]; exact Below.drewN HBR.out _⟩
    · obtain rfl : n = 8 := by omega
      have HT := Lib.hid (HYES.out HA.out)
      clear hn hge HA
      go_wp2_with fail
      go_ret
      exact ⟨by rw [HT.out]; rfl, by rw [HN0.out ()]; exact HB.out⟩
end Go.Proofs.YtalbcimnnihmnaaGreat
