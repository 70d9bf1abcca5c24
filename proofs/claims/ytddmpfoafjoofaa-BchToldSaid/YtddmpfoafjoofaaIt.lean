/-
  The walk of the law BchTold. Conditions: bytes; the list lies as it was opened.
-/
import Derived.Test.YtddmpfoafjoofaaIa
namespace Go.Proofs.Ytddmpfoafjoofaa
open Go.RowKit
open M
attribute [local go_sem] un_beq un_bne un_xor

theorem flips_take (x : List Bool) (is : List Nat) (j : Nat) (h : j < is.length) : flips x (is.take (j + 1)) = M.flip (flips x (is.take j)) (is.getD j 0) := by
  rw [List.take_succ_eq_append_getElem h, flips_snoc, List.getD_eq_getElem?_getD, List.getElem?_eq_getElem h]; rfl
/-- The places at which bytes change bits. -/
def plc (xs : List Int) : List Nat := xs.map fun n => (n % 127).toNat
theorem plc_getD (xs : List Int) (j : Nat) (h : j < xs.length) : (plc xs).getD j 0 = (xs.getD j 0 % 127).toNat := by
  unfold plc
  rw [List.getD_eq_getElem?_getD, List.getD_eq_getElem?_getD, List.getElem?_map, List.getElem?_eq_getElem h]; rfl
set_option maxRecDepth 100000 in
set_option maxHeartbeats 400000 in
theorem told_big (x : BitVec 64) (l : Value) (xs : List Int) (w : World) (hl : 20 < xs.length) (hm : xs.length ≤ maxLen) (h : BytesAt w l xs) :
    Calls Try.prog 5 #[.int .u64 (un x), l] w fun e w' => e = .returned (.bool true) ∧ Below w.heap.size w w' := by
  unfold maxLen at hm
  obtain ⟨a, lcap, rfl, hcells⟩ := h
  clear hcells
  have hl' : (20 : Int) < (xs.length : Int) := by omega
  go_enter Try.func5, Try.ntmps5
  go_wp2_with fail
  refine (awake_any _).mono ?_
  rintro e w1 ⟨rfl, hb⟩
  have HB := Lib.hid hb
  clear hb
  go_wp2_with fail
  refine (awake_any _).mono ?_
  rintro e w2 ⟨rfl, hb⟩
  have HB2 := Lib.hid (HB.out.trans (hb.mono HB.out.size))
  clear hb
  go_wp2
  go_ret
  exact ⟨rfl, HB2.out⟩

set_option maxRecDepth 100000 in
set_option maxHeartbeats 1000000 in
theorem told_walk (x : BitVec 64) (l : Value) (xs : List Int) (w : World) (hl : xs.length ≤ 20) (hp : ∀ p ∈ xs, 0 ≤ p ∧ p ≤ 255) (h : BytesAt w l xs) :
    Calls Try.prog 5 #[.int .u64 (un x), l] w fun e w' => e = .returned (.bool true) ∧ Below w.heap.size w w' := by
  obtain ⟨ab, lcap, rfl, hcells⟩ := h
  have HC := Lib.hid hcells
  have HP := Lib.hid hp
  have hl' : (xs.length : Int) ≤ 20 := by omega
  have hpl : (plc xs).length = xs.length := by simp [plc]
  have HLAW := Lib.hid fun _ : Unit => (told_law x (plc xs) (by rw [hpl]; exact hl))
  have HPL := Lib.hid hpl
  have HPG := Lib.hid (plc_getD xs)
  clear hcells hp hpl
  have hla := cwd_length x
  have HEA := Lib.hid (encode_any x)
  obtain ⟨a, ha⟩ : ∃ l, cwd x = l := ⟨_, rfl⟩
  rw [ha] at hla HEA
  have HXA := Lib.hid fun _ : Unit => ha
  have HLA := Lib.hid hla
  have HSA := Lib.hid fun _ : Unit => word_size a hla
  have HS0 : Hid (Unit → (boolCells w0).size = (boolCells a).size) := by intro _; rw [boolCells_size, boolCells_size, w0_length, hla]
  clear ha hla
  rw [HXA.out ()] at HLAW
  go_enter Try.func5, Try.ntmps5
  go_wp2_with fail
  refine (awake_any _).mono ?_
  rintro e w1 ⟨rfl, hb⟩
  have HB1 := Lib.hid hb
  clear hb
  go_wp2_with fail
  refine (HEA.out _).mono ?_
  rintro e w2 ⟨rfl, hb⟩
  have HB2 := Lib.hid (HB1.out.trans (hb.mono HB1.out.size))
  clear hb HB1
  have hz := word_zero
  have hg := HB2.out.size
  have H0 : Hid (Row (w2.alloc (.cells (boolCells w0) 25)) w2.heap.size 25 (boolCells w0)) := heap_alloc_new _ _
  have HA1 : Hid (Row ((w2.alloc (.cells (boolCells w0) 25)).setRow w2.heap.size (boolCells a)) w2.heap.size 25 (boolCells a)) := Row.setRow H0.out _
  have HBA : Hid (Below w.heap.size w ((w2.alloc (.cells (boolCells w0) 25)).setRow w2.heap.size (boolCells a))) := below_setRow (HB2.out.alloc HB2.out.size _) HB2.out.size _
  have HSZ : Hid (Unit → ((w2.alloc (.cells (boolCells w0) 25)).setRow w2.heap.size (boolCells a)).heap.size = w2.heap.size + 1) := by intro _; simp [World.setRow]
  go_wp2_with (first
    | (refine wpList_store_row rfl 25 (.tmp 5) (.tmp 17) rfl w2.heap.size (boolCells a) rfl rfl 25 (boolCells w0) H0.out (HSA.out ()) (HS0.out ()) (boolCells_one a) ?_)
    | ((refine wpList_load_row rfl 25 (.tmp 5) rfl w2.heap.size rfl 25 (boolCells a) (0, 0) _ HA1.out Try.underlying25 rfl (HSA.out ()) ?_)
       generalize ((w2.alloc (.cells (boolCells w0) 25)).setRow w2.heap.size (boolCells a)) = w3 at *
       have H3 : Hid (Row (w3.alloc (.cells (boolCells w0) 25)) w3.heap.size 25 (boolCells w0)) := heap_alloc_new _ _)
    | (refine wpList_store_row rfl 25 (.tmp 6) (.tmp 18) rfl w3.heap.size (boolCells a) rfl rfl 25 (boolCells w0) H3.out (HSA.out ()) (HS0.out ()) (boolCells_one a) ?_))
  rw [show decide ((20 : Int) < (xs.length : Int)) = false by rw [decide_eq_false_iff_not]; omega]
  have hs3 := HSZ.out ()
  have hgv : w2.heap.size < w3.heap.size := by omega
  have hsz4 : ((w3.alloc (.cells (boolCells w0) 25)).setRow w3.heap.size (boolCells a)).heap.size = w3.heap.size + 1 := by simp [World.setRow]
  have HV0 : Hid (Row ((w3.alloc (.cells (boolCells w0) 25)).setRow w3.heap.size (boolCells a)) w3.heap.size 25 (boolCells a)) := Row.setRow H3.out _
  have HW0 : Hid (Row ((w3.alloc (.cells (boolCells w0) 25)).setRow w3.heap.size (boolCells a)) w2.heap.size 25 (boolCells a)) := (setRow_other _ _ _ _ (by omega)).trans (HA1.out.alloc _)
  have HB4 : Hid (Below w.heap.size w ((w3.alloc (.cells (boolCells w0) 25)).setRow w3.heap.size (boolCells a))) := below_setRow (HBA.out.alloc HBA.out.size _) HBA.out.size _
  have HN4 : Hid (Unit → ((w3.alloc (.cells (boolCells w0) 25)).setRow w3.heap.size (boolCells a)).heap.size = w3.heap.size + 1) := fun _ => hsz4
  clear hs3 HSZ hsz4 H3 HBA HA1 H0 hz HB2 HS0
  generalize ((w3.alloc (.cells (boolCells w0) 25)).setRow w3.heap.size (boolCells a)) = w4 at *
  generalize w3.heap.size = gv at *
  generalize w2.heap.size = gw at *
  go_loopw [7] (fun i wr => ∃ j : Nat, j ≤ xs.length ∧ i = .int .i64 j ∧ Row wr gv 25 (boolCells (flips a ((plc xs).take j))) ∧ Row wr gw 25 (boolCells a) ∧ Below w.heap.size w wr) (fun i _ => xs.length - (intOf i).toNat)
  case atStart => exact ⟨0, Nat.zero_le _, rfl, HV0.out, HW0.out, HB4.out⟩
  case round =>
    clear HV0 HW0 HB4
    obtain ⟨j, hj, rfl, h1, h2, h3⟩ := hrel
    have HV := Lib.hid h1
    have HW := Lib.hid h2
    have HB := Lib.hid h3
    clear h1 h2 h3
    by_cases hlt : j < xs.length
    · obtain ⟨b, off, rfl, hbw, hcc⟩ := HC.out (by omega)
      have hcj := hcc j hlt
      have HK := Lib.hid (HPG.out j hlt)
      have HF := Lib.hid fun _ : Unit => (flips_take a (plc xs) j (by rw [HPL.out]; exact hlt))
      obtain ⟨n, hn⟩ : ∃ n, xs.getD j 0 = n := ⟨_, rfl⟩
      have hnok : 0 ≤ n ∧ n ≤ 255 := by
        have e : xs.getD j 0 = xs[j] := by rw [List.getD_eq_getElem?_getD, List.getElem?_eq_getElem hlt]; rfl
        rw [← hn, e]; exact HP.out _ (List.getElem_mem _)
      rw [hn] at hcj HK
      obtain ⟨k, hk⟩ : ∃ k : Nat, (n % 127).toNat = k := ⟨_, rfl⟩
      rw [hk] at HK
      have hk2 : n % 127 = (k : Int) := by omega
      have hk3 : n.tmod 127 = (k : Int) := by rw [Int.tmod_eq_emod_of_nonneg hnok.1]; exact hk2
      have hk4 : k < 127 := by omega
      have hk5 : (k : Int) < 127 := by omega
      have hk6 : ¬ (k : Int) < 0 := by omega
      have c0 : wr.cell? ⟨b, off + j, none⟩ = some (.int .u8 n) := (HB.out.cell (p := ⟨b, off + j, none⟩) hbw).trans hcj
      have c1 := word_at HV.out k (by rw [flips_length, HLA.out]; exact hk4)
      have f1 := HV.out.free k
      obtain ⟨y, hy⟩ : ∃ y, (flips a ((plc xs).take j)).getD k false = y := ⟨_, rfl⟩
      rw [hy] at c1
      have HY := Lib.hid hy
      obtain ⟨n0, n255⟩ := hnok
      have hji : (j : Int) < (xs.length : Int) := by omega
      clear hcc hcj hn hy HC hk
      go_wp2
      go_region
      go_wp2
      go_roundw
      case rel =>
        refine ⟨j + 1, by omega, by go_num, ?_, Row.drewN (HW.out.far (p := ⟨gv, k, none⟩) (by show gw ≠ gv; omega) _) 1, below_drew1 (HB.out.setCell (p := ⟨gv, k, none⟩) (by show w.heap.size ≤ gv; omega) _)⟩
        rw [HF.out (), HK.out]
        unfold M.flip
        rw [HY.out, ← boolCells_set]
        exact Row.drewN (HV.out.set k _) 1
      case measure => simp [intOf] <;> omega
    · obtain rfl : j = xs.length := by omega
      have htk : (plc xs).take xs.length = plc xs := by rw [← HPL.out]; exact List.take_length
      rw [htk] at HV
      have hvl : (flips a (plc xs)).length = 127 := by rw [flips_length, HLA.out]
      have heq := word_eq (flips a (plc xs)) a hvl HLA.out
      have hCI : ∀ d os, Calls Try.prog 11 #[.agg (boolCells (flips a (plc xs)))] (Sort.grow (redrawn wr d) os) fun e w'' => e = .returned (.bool (isCw (flips a (plc xs)))) ∧ ∃ p : Regrown, w'' = Sort.grow (redrawn wr p.d) p.os :=
        fun d os => Calls.regrown_of (is_any _ _ hvl)
      have hSV := word_size _ hvl
      rw [HLAW.out ()] at hCI
      clear HLAW htk HPL HPG HXA HP HC HEA
      generalize (flips a (plc xs) == a) = q at *
      generalize flips a (plc xs) = v at *
      have hCV : ∀ W : World, (∃ p : Regrown, W = Sort.grow (redrawn wr p.d) p.os) → W.heap[gv]? = some (.cells (boolCells v) 25 (0, 0)) := by
        rintro W ⟨p, rfl⟩
        exact HV.out.below (below_regrown wr p.d p.os) HV.out.lt
      have hCW : ∀ W : World, (∃ p : Regrown, W = Sort.grow (redrawn wr p.d) p.os) → W.heap[gw]? = some (.cells (boolCells a) 25 (0, 0)) := by
        rintro W ⟨p, rfl⟩
        exact HW.out.below (below_regrown wr p.d p.os) HW.out.lt
      have HCI := Lib.hid hCI
      have HCV := Lib.hid hCV
      have HCW := Lib.hid hCW
      have HSV := Lib.hid fun _ : Unit => hSV
      clear hCI hCV hCW hSV hvl hlt hj hl
      go_wp2_with fail
      refine wp_region_quiet_below (by kernel_rfl) (by kernel_rfl) ?_
      refine BigFrame.wpQuiet_want (by rfl) (fun K hK => ?_)
      refine quiet_load_row 25 (.tmp 6) rfl gv rfl 25 (boolCells v) (0, 0) _ HCV.out Try.underlying25 rfl (HSV.out ()) ?_
      refine hK _ ?_
      clear hK K
      simp only [Act.put, List.setIfInBounds_toArray, List.set_cons_zero, List.set_cons_succ]
      quiet_step (first | (go_at_call 11; exact HCI.out _ _))
      refine BigFrame.wpQuiet_want (by rfl) (fun K hK => ?_)
      refine quiet_load_row 25 (.tmp 6) rfl gv rfl 25 (boolCells v) (0, 0) _ HCV.out Try.underlying25 rfl (HSV.out ()) ?_
      refine hK _ ?_
      clear hK K
      simp only [Act.put, List.setIfInBounds_toArray, List.set_cons_zero, List.set_cons_succ]
      refine BigFrame.wpQuiet_want (by rfl) (fun K hK => ?_)
      refine quiet_load_row 25 (.tmp 5) rfl gw rfl 25 (boolCells a) (0, 0) _ HCW.out Try.underlying25 rfl (HSA.out ()) ?_
      refine hK _ ?_
      clear hK K
      simp only [Act.put, List.setIfInBounds_toArray, List.set_cons_zero, List.set_cons_succ]
      repeat (quiet_step (fail))
      refine wpQuiet_nil ?_
      intro _ hw'
      obtain ⟨⟨dq, osq⟩, hw''⟩ := hw'
      subst hw''
      have HBQ := Lib.hid (HB.out.trans ((below_regrown wr dq osq).mono HB.out.size))
      generalize Sort.grow (redrawn wr dq) osq = wq at *
      cases q
      all_goals
        go_wp2
        go_ret
        exact ⟨rfl, HBQ.out⟩
theorem told_any (x : BitVec 64) (l : Value) (xs : List Int) (w : World) (hm : xs.length ≤ maxLen) (hp : ∀ p ∈ xs, 0 ≤ p ∧ p ≤ 255) (h : BytesAt w l xs) :
    Calls Try.prog 5 #[.int .u64 (un x), l] w fun e w' => e = .returned (.bool true) ∧ Below w.heap.size w w' := by
  by_cases hl : xs.length ≤ 20
  · exact told_walk x l xs w hl hp h
  · exact told_big x l xs w (by omega) hm h
end Go.Proofs.Ytddmpfoafjoofaa
