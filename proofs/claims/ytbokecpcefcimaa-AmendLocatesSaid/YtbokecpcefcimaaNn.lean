/-
  The contracts of the reference's Spoil, Holes, Far. Conditions: words have 127 bits; no more than 1000 bytes, which lie where they can be read.
-/
import Derived.Test.YtbokecpcefcimaaNh
namespace Go.Proofs.Ytbokecpcefcimaa
open Go.RowKit
open M

/-- The places that bytes stand for. -/
def plc6 (xs : List Int) : List Nat := xs.map fun n => (n % 127).toNat
theorem plc6_length (xs : List Int) : (plc6 xs).length = xs.length := by simp [plc6]
theorem plc6_getD (xs : List Int) (j : Nat) (h : j < xs.length) : (plc6 xs).getD j 0 = (xs.getD j 0 % 127).toNat := by
  unfold plc6
  rw [List.getD_eq_getElem?_getD, List.getD_eq_getElem?_getD, List.getElem?_map, List.getElem?_eq_getElem h]; rfl
/-- A word with marks at places. -/
def mk6 (x : List Bool) : List Nat → List Bool
  | [] => x
  | i :: is => mk6 (x.set i true) is
theorem mk6_length (x : List Bool) (is : List Nat) : (mk6 x is).length = x.length := by
  induction is generalizing x with
  | nil => rfl
  | cons i is ih => show (mk6 (x.set i true) is).length = _; rw [ih, List.length_set]
theorem mk6_snoc (x : List Bool) (is : List Nat) (i : Nat) : mk6 x (is ++ [i]) = (mk6 x is).set i true := by
  induction is generalizing x with
  | nil => rfl
  | cons k is ih => exact ih (x.set k true)
theorem mk6_take (x : List Bool) (is : List Nat) (j : Nat) (h : j < is.length) : mk6 x (is.take (j + 1)) = (mk6 x (is.take j)).set (is.getD j 0) true := by
  rw [List.take_succ_eq_append_getElem h, mk6_snoc, List.getD_eq_getElem?_getD, List.getElem?_eq_getElem h]; rfl
theorem store_atA (w : World) (g : Nat) (old l : List Bool) (ho : old.length = 127) (h : l.length = 127) (hg : Row w g 25 (boolCells old)) :
    (storeCells ⟨g, 0, none⟩ (boolCells l).toList 0).run Try.prog w = .ok () (w.setRow g (boolCells l)) := by
  have hi := arr_size l h
  have := run_storeVar_row (P := Try.prog) w g 25 25 (boolCells old) (boolCells l) hg hi (by rw [boolCells_size, boolCells_size, ho, h]) (boolCells_one l)
  cases hq : Try.prog.info? 25 with
  | none => simp [hq] at hi
  | some i =>
    have hs : (boolCells l).size = i.size := by simp [hq] at hi; omega
    simpa [storeVar, sizeOf, typeInfo, hq, Value.cells, hs] using this

set_option maxRecDepth 100000 in
set_option maxHeartbeats 1000000 in
theorem spoil_any (l : List Bool) (xs : List Int) (v : Value) (w : World) (hl : l.length = 127) (hx : xs.length ≤ 1000) (hp : ∀ p ∈ xs, 0 ≤ p ∧ p ≤ 255) (h : BytesAt w v xs) :
    Calls Try.prog 11 #[.agg (boolCells l), v] w fun e w' => e = .returned (.agg (boolCells (flips l (plc6 xs)))) ∧ Below w.heap.size w w' := by
  have hz := arr_zero
  have r0 : Row ((w.alloc (.cells (boolCells l) 25)).alloc (.cells (boolCells w0) 25)) w.heap.size 25 (boolCells l) := (row_new w _ rfl _ _).alloc _
  have r2 : Row ((w.alloc (.cells (boolCells l) 25)).alloc (.cells (boolCells w0) 25)) (w.heap.size + 1) 25 (boolCells w0) := row_new _ _ (by simp) _ _
  have HB0 : Hid (Below w.heap.size w ((w.alloc (.cells (boolCells l) 25)).alloc (.cells (boolCells w0) 25))) := ((Below.refl _ _).alloc (Nat.le_refl _) _).alloc (by simp) _
  have HR0 := Lib.hid r0
  have HR2 := Lib.hid r2
  obtain ⟨a, cap, rfl, hcells⟩ := h
  have HC := Lib.hid hcells
  have HP := Lib.hid hp
  have HPG := Lib.hid (plc6_getD xs)
  have HFT := Lib.hid (fun j (hj : j < xs.length) => flips_take6 l (plc6 xs) j (by rw [plc6_length]; exact hj))
  have HLL : Hid (∀ j, (flips l ((plc6 xs).take j)).length = 127) := fun j => by rw [flips_length, hl]
  have hfl := flips_length l (plc6 xs)
  rw [hl] at hfl
  have HDN : Hid (flips l ((plc6 xs).take xs.length) = flips l (plc6 xs)) := by unfold Hid; rw [← plc6_length xs, List.take_length]
  obtain ⟨c, hc⟩ : ∃ c, flips l (plc6 xs) = c := ⟨_, rfl⟩
  rw [hc] at HDN hfl ⊢
  have HSC := Lib.hid (arr_size c hfl)
  have HCL := Lib.hid hfl
  clear r0 r2 hl hc hfl hcells hp
  go_enter Try.func11, Try.ntmps11
  go_wp2
  clear hz
  generalize (w.alloc (.cells (boolCells l) 25)).alloc (.cells (boolCells w0) 25) = w1 at *
  go_loopw [5] (fun i wr => ∃ k : Nat, k ≤ xs.length ∧ i = .int .i64 (k : Nat) ∧ Row wr w.heap.size 25 (boolCells (flips l ((plc6 xs).take k))) ∧ Row wr (w.heap.size + 1) 25 (boolCells w0) ∧ Below w.heap.size w wr) (fun i _ => xs.length - (intOf i).toNat)
  case atStart => exact ⟨0, by omega, rfl, HR0.out, HR2.out, HB0.out⟩
  case round =>
    clear HR0 HR2 HB0
    obtain ⟨j, hj, rfl, h1, h2, h3⟩ := hrel
    have HR := Lib.hid h1
    have HZ := Lib.hid h2
    have HB := Lib.hid h3
    clear h1 h2 h3
    by_cases hlt : j < xs.length
    · obtain ⟨b, off, rfl, hbw, hcc⟩ := HC.out (by omega)
      have hcj := hcc j hlt
      have HK := Lib.hid (HPG.out j hlt)
      have HF := Lib.hid (HFT.out j hlt)
      obtain ⟨n, hn⟩ : ∃ n, xs.getD j 0 = n := ⟨_, rfl⟩
      have hnok : 0 ≤ n ∧ n ≤ 255 := by
        have e : xs.getD j 0 = xs[j] := by rw [List.getD_eq_getElem?_getD, List.getElem?_eq_getElem hlt]; rfl
        rw [← hn, e]; exact HP.out _ (List.getElem_mem _)
      rw [hn] at hcj HK
      obtain ⟨k, hk⟩ : ∃ k : Nat, (n % 127).toNat = k := ⟨_, rfl⟩
      rw [hk] at HK
      have hk2 : n % 127 = (k : Int) := by omega
      have hk3 : n.tmod 127 = (k : Int) := by rw [Int.tmod_eq_emod_of_nonneg hnok.1]; exact hk2
      have hk4 : k < 127 := by omega
      have hk5 : (k : Int) < 127 := by omega
      have hk6 : ¬ (k : Int) < 0 := by omega
      have c0 : wr.cell? ⟨b, off + j, none⟩ = some (.int .u8 n) := (HB.out.cell (p := ⟨b, off + j, none⟩) hbw).trans hcj
      have c1 := word_at HR.out k (by rw [HLL.out]; exact hk4)
      have f1 := HR.out.free k
      obtain ⟨y, hy⟩ : ∃ y, (flips l ((plc6 xs).take j)).getD k false = y := ⟨_, rfl⟩
      rw [hy] at c1
      have HY := Lib.hid hy
      obtain ⟨n0, n255⟩ := hnok
      have hji : (j : Int) < (xs.length : Int) := by omega
      clear hcc hcj hn hy HC hk
      go_wp2
      go_region
      go_wp2
      go_roundw
      case rel =>
        refine ⟨j + 1, by omega, by go_num, ?_, Row.drewN (HZ.out.far (p := ⟨w.heap.size, k, none⟩) (by show w.heap.size + 1 ≠ w.heap.size; omega) _) 1, below_drew1 (HB.out.setCell (p := ⟨w.heap.size, k, none⟩) (by show w.heap.size ≤ w.heap.size; omega) _)⟩
        rw [HF.out, HK.out]
        unfold M.flip
        rw [HY.out, ← boolCells_set]
        exact Row.drewN (HR.out.set k _) 1
      case measure => simp [intOf] <;> omega
    · obtain rfl : j = xs.length := by omega
      have HRC : Hid (Row wr w.heap.size 25 (boolCells c)) := by rw [← HDN.out]; exact HR.out
      have hsz := boolCells_size c
      rw [HCL.out] at hsz
      have hst := store_atA wr (w.heap.size + 1) w0 c w0_length HCL.out HZ.out
      go_wp2_with (refine wpList_load_row rfl 25 (.tmp 2) rfl w.heap.size rfl 25 (boolCells c) (0, 0) _ HRC.out Try.underlying25 rfl HSC.out ?_)
      refine bodyPost_ret (v := .agg (boolCells c)) (results_cell_row Try.results11 _ _ (w.heap.size + 1) 25 (boolCells c) (0, 0) _ rfl (Row.setRow HZ.out _) Try.underlying25 rfl HSC.out) rfl ⟨rfl, below_setRow HB.out (by omega) _⟩

set_option maxRecDepth 100000 in
set_option maxHeartbeats 1000000 in
theorem holes_any (xs : List Int) (v : Value) (w : World) (hx : xs.length ≤ 1000) (hp : ∀ p ∈ xs, 0 ≤ p ∧ p ≤ 255) (h : BytesAt w v xs) :
    Calls Try.prog 12 #[v] w fun e w' => e = .returned (.agg (boolCells (mk6 w0 (plc6 xs)))) ∧ Below w.heap.size w w' := by
  have hz := arr_zero
  have r0 : Row ((w.alloc (.cells (boolCells w0) 25)).alloc (.cells (boolCells w0) 25)) w.heap.size 25 (boolCells w0) := (row_new w _ rfl _ _).alloc _
  have r2 : Row ((w.alloc (.cells (boolCells w0) 25)).alloc (.cells (boolCells w0) 25)) (w.heap.size + 1) 25 (boolCells w0) := row_new _ _ (by simp) _ _
  have HB0 : Hid (Below w.heap.size w ((w.alloc (.cells (boolCells w0) 25)).alloc (.cells (boolCells w0) 25))) := ((Below.refl _ _).alloc (Nat.le_refl _) _).alloc (by simp) _
  have HR0 := Lib.hid r0
  have HR2 := Lib.hid r2
  obtain ⟨a, cap, rfl, hcells⟩ := h
  have HC := Lib.hid hcells
  have HP := Lib.hid hp
  have HPG := Lib.hid (plc6_getD xs)
  have HFT := Lib.hid (fun j (hj : j < xs.length) => mk6_take w0 (plc6 xs) j (by rw [plc6_length]; exact hj))
  have HLL : Hid (∀ j, (mk6 w0 ((plc6 xs).take j)).length = 127) := fun j => by rw [mk6_length, w0_length]
  have hfl := mk6_length w0 (plc6 xs)
  rw [w0_length] at hfl
  have HDN : Hid (mk6 w0 ((plc6 xs).take xs.length) = mk6 w0 (plc6 xs)) := by unfold Hid; rw [← plc6_length xs, List.take_length]
  obtain ⟨c, hc⟩ : ∃ c, mk6 w0 (plc6 xs) = c := ⟨_, rfl⟩
  rw [hc] at HDN hfl ⊢
  have HSC := Lib.hid (arr_size c hfl)
  have HCL := Lib.hid hfl
  clear r0 r2 hc hfl hcells hp
  go_enter Try.func12, Try.ntmps12
  go_wp2
  clear hz
  generalize (w.alloc (.cells (boolCells w0) 25)).alloc (.cells (boolCells w0) 25) = w1 at *
  go_loopw [4] (fun i wr => ∃ k : Nat, k ≤ xs.length ∧ i = .int .i64 (k : Nat) ∧ Row wr w.heap.size 25 (boolCells w0) ∧ Row wr (w.heap.size + 1) 25 (boolCells (mk6 w0 ((plc6 xs).take k))) ∧ Below w.heap.size w wr) (fun i _ => xs.length - (intOf i).toNat)
  case atStart => exact ⟨0, by omega, rfl, HR0.out, HR2.out, HB0.out⟩
  case round =>
    clear HR0 HR2 HB0
    obtain ⟨j, hj, rfl, h1, h2, h3⟩ := hrel
    have HZ := Lib.hid h1
    have HR := Lib.hid h2
    have HB := Lib.hid h3
    clear h1 h2 h3
    by_cases hlt : j < xs.length
    · obtain ⟨b, off, rfl, hbw, hcc⟩ := HC.out (by omega)
      have hcj := hcc j hlt
      have HK := Lib.hid (HPG.out j hlt)
      have HF := Lib.hid (HFT.out j hlt)
      obtain ⟨n, hn⟩ : ∃ n, xs.getD j 0 = n := ⟨_, rfl⟩
      have hnok : 0 ≤ n ∧ n ≤ 255 := by
        have e : xs.getD j 0 = xs[j] := by rw [List.getD_eq_getElem?_getD, List.getElem?_eq_getElem hlt]; rfl
        rw [← hn, e]; exact HP.out _ (List.getElem_mem _)
      rw [hn] at hcj HK
      obtain ⟨k, hk⟩ : ∃ k : Nat, (n % 127).toNat = k := ⟨_, rfl⟩
      rw [hk] at HK
      have hk2 : n % 127 = (k : Int) := by omega
      have hk3 : n.tmod 127 = (k : Int) := by rw [Int.tmod_eq_emod_of_nonneg hnok.1]; exact hk2
      have hk4 : k < 127 := by omega
      have hk5 : (k : Int) < 127 := by omega
      have hk6 : ¬ (k : Int) < 0 := by omega
      have c0 : wr.cell? ⟨b, off + j, none⟩ = some (.int .u8 n) := (HB.out.cell (p := ⟨b, off + j, none⟩) hbw).trans hcj
      have c1 := word_at HR.out k (by rw [HLL.out]; exact hk4)
      have f1 := HR.out.free k
      generalize (mk6 w0 ((plc6 xs).take j)).getD k false = y at *
      obtain ⟨n0, n255⟩ := hnok
      have hji : (j : Int) < (xs.length : Int) := by omega
      clear hcc hcj hn HC hk
      go_wp2
      go_roundw
      case rel =>
        refine ⟨j + 1, by omega, by go_num, HZ.out.far (p := ⟨w.heap.size + 1, k, none⟩) (by show w.heap.size ≠ w.heap.size + 1; omega) _, ?_, HB.out.setCell (p := ⟨w.heap.size + 1, k, none⟩) (by show w.heap.size ≤ w.heap.size + 1; omega) _⟩
        rw [HF.out, HK.out, ← boolCells_set]
        exact HR.out.set k _
      case measure => simp [intOf] <;> omega
    · obtain rfl : j = xs.length := by omega
      have HRC : Hid (Row wr (w.heap.size + 1) 25 (boolCells c)) := by rw [← HDN.out]; exact HR.out
      have hsz := boolCells_size c
      rw [HCL.out] at hsz
      have hst := store_atA wr w.heap.size w0 c w0_length HCL.out HZ.out
      go_wp2_with (refine wpList_load_row rfl 25 (.tmp 3) rfl (w.heap.size + 1) rfl 25 (boolCells c) (0, 0) _ HRC.out Try.underlying25 rfl HSC.out ?_)
      refine bodyPost_ret (v := .agg (boolCells c)) (results_cell_row Try.results12 _ _ w.heap.size 25 (boolCells c) (0, 0) _ rfl (Row.setRow HZ.out _) Try.underlying25 rfl HSC.out) rfl ⟨rfl, below_setRow HB.out (Nat.le_refl _) _⟩

set_option maxRecDepth 100000 in
set_option maxHeartbeats 1000000 in
theorem far_any (l h c : List Bool) (w : World) (hl : l.length = 127) (hh : h.length = 127) (hc : c.length = 127) :
    Calls Try.prog 14 #[.agg (boolCells l), .agg (boolCells h), .agg (boolCells c)] w fun e w' => e = .returned (.int .i64 (farN l h c 127 : Nat)) ∧ Below w.heap.size w w' := by
  have r0 : Row (((w.alloc (.cells (boolCells l) 25)).alloc (.cells (boolCells h) 25)).alloc (.cells (boolCells c) 25)) w.heap.size 25 (boolCells l) := ((row_new w _ rfl _ _).alloc _).alloc _
  have r1 : Row (((w.alloc (.cells (boolCells l) 25)).alloc (.cells (boolCells h) 25)).alloc (.cells (boolCells c) 25)) (w.heap.size + 1) 25 (boolCells h) := (row_new _ _ (by simp) _ _).alloc _
  have r2 : Row (((w.alloc (.cells (boolCells l) 25)).alloc (.cells (boolCells h) 25)).alloc (.cells (boolCells c) 25)) (w.heap.size + 1 + 1) 25 (boolCells c) := row_new _ _ (by simp) _ _
  have HB0 : Hid (Below w.heap.size w (((w.alloc (.cells (boolCells l) 25)).alloc (.cells (boolCells h) 25)).alloc (.cells (boolCells c) 25))) := (((Below.refl _ _).alloc (Nat.le_refl _) _).alloc (by simp) _).alloc (by simp; omega) _
  have HR0 := Lib.hid r0
  have HR1 := Lib.hid r1
  have HR2 := Lib.hid r2
  have HL := Lib.hid hl
  have HH := Lib.hid hh
  have HC := Lib.hid hc
  clear r0 r1 r2 hl hh hc
  go_enter Try.func14, Try.ntmps14
  go_wp2
  generalize ((w.alloc (.cells (boolCells l) 25)).alloc (.cells (boolCells h) 25)).alloc (.cells (boolCells c) 25) = w1 at *
  go_loopw [7, 8] (fun x i wr => ∃ k : Nat, k ≤ 127 ∧ i = .int .i64 (k : Nat) ∧ x = .int .i64 (farN l h c k : Nat) ∧ Row wr w.heap.size 25 (boolCells l) ∧ Row wr (w.heap.size + 1) 25 (boolCells h) ∧ Row wr (w.heap.size + 1 + 1) 25 (boolCells c) ∧ Below w.heap.size w wr) (fun _ i _ => 127 - (intOf i).toNat)
  case atStart => exact ⟨0, by omega, rfl, rfl, HR0.out, HR1.out, HR2.out, HB0.out⟩
  case round =>
    clear HR0 HR1 HR2 HB0
    obtain ⟨k, hk, rfl, rfl, h1, h2, h3, h4⟩ := hrel
    have HA := Lib.hid h1
    have HB := Lib.hid h2
    have HD := Lib.hid h3
    have HBB := Lib.hid h4
    clear h1 h2 h3 h4
    by_cases hlt : k < 127
    · have c0 := word_at HA.out k (by have := HL.out; omega)
      have c1 := word_at HB.out k (by have := HH.out; omega)
      have c2 := word_at HD.out k (by have := HC.out; omega)
      have HS : Hid (farN l h c (k + 1) = farN l h c k + far1 (l.getD k false) (h.getD k false) (c.getD k false)) := rfl
      have hle := farN_le l h c k
      obtain ⟨d, hd⟩ : ∃ d, farN l h c k = d := ⟨_, rfl⟩
      rw [hd] at HS hle ⊢
      generalize l.getD k false = x at *
      generalize h.getD k false = y at *
      generalize c.getD k false = z at *
      clear hd
      cases y
      · cases x <;> cases z
        all_goals
          go_wp2
          go_quiet (fail)
          go_wp2
          go_roundw
          case rel => exact ⟨k + 1, by omega, by go_num, by rw [HS.out]; simp [far1], HA.out.drewN _, HB.out.drewN _, HD.out.drewN _, Below.drewN HBB.out _⟩
          case measure => simp [intOf] <;> omega
      · go_wp2
        go_roundw
        case rel => exact ⟨k + 1, by omega, by go_num, by rw [HS.out]; simp [far1], HA.out, HB.out, HD.out, HBB.out⟩
        case measure => simp [intOf] <;> omega
    · obtain rfl : k = 127 := by omega
      go_wp2
      go_ret
      exact ⟨rfl, HBB.out⟩
end Go.Proofs.Ytbokecpcefcimaa
