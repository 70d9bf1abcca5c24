/-
  The walk of the law BchIs. No conditions.
-/
import Derived.Test.YtddmpfoafjoofaaIa
namespace Go.Proofs.Ytddmpfoafjoofaa
open Go.RowKit
open M
attribute [local go_sem] un_beq un_bne un_xor

/-- A sum of words, as far as the loop has come. -/
def sxj (a b : List Bool) (j : Nat) : List Bool := (List.range 127).map fun i => if i < j then a.getD i false != b.getD i false else false
theorem sxj_length (a b : List Bool) (j : Nat) : (sxj a b j).length = 127 := by unfold sxj; rw [List.length_map, List.length_range]
theorem sxj_zero (a b : List Bool) : sxj a b 0 = w0 := by
  unfold sxj w0
  rw [tab_congr 127 _ (fun _ => false) (fun i _ => if_neg (by omega)), List.map_const', List.length_range]
theorem sxj_set (a b : List Bool) (j : Nat) : (sxj a b j).set j (a.getD j false != b.getD j false) = sxj a b (j + 1) := by
  unfold sxj
  apply tab_set
  · rw [if_pos (by omega)]
  · intro i e
    rcases Nat.lt_or_ge i j with h1 | h1
    · rw [if_pos h1, if_pos (by omega)]
    · rw [if_neg (by omega), if_neg (by omega)]
theorem sxj_done (a b : List Bool) (ha : a.length = 127) (hb : b.length = 127) : sxj a b 127 = wx a b := by
  apply bext _ _ (by rw [sxj_length, wx_length a b (by omega), ha])
  intro i hi
  rw [sxj_length] at hi
  rw [wx_getD a b i (by omega)]
  unfold sxj
  rw [tab_getD _ _ _ _ hi, if_pos hi]

set_option maxRecDepth 100000 in
set_option maxHeartbeats 1000000 in
theorem is_law (x y : BitVec 64) (w : World) :
    Calls Try.prog 3 #[.int .u64 (un x), .int .u64 (un y)] w fun e w' => e = .returned (.bool true) ∧ Below w.heap.size w w' := by
  have hla := cwd_length x
  have hlb := cwd_length y
  have HEA := Lib.hid (encode_any x)
  have HEB := Lib.hid (encode_any y)
  obtain ⟨a, ha⟩ : ∃ l, cwd x = l := ⟨_, rfl⟩
  obtain ⟨b, hb⟩ : ∃ l, cwd y = l := ⟨_, rfl⟩
  rw [ha] at hla HEA
  rw [hb] at hlb HEB
  have HXA := Lib.hid fun _ : Unit => ha
  have HXB := Lib.hid fun _ : Unit => hb
  have HLA := Lib.hid hla
  have HLB := Lib.hid hlb
  have HSA := Lib.hid fun _ : Unit => word_size a hla
  have HSB := Lib.hid fun _ : Unit => word_size b hlb
  have HS0 : Hid (Unit → (boolCells w0).size = (boolCells a).size) := by intro _; rw [boolCells_size, boolCells_size, w0_length, hla]
  have HS1 : Hid (Unit → (boolCells w0).size = (boolCells b).size) := by intro _; rw [boolCells_size, boolCells_size, w0_length, hlb]
  clear ha hb hla hlb
  have HSX := Lib.hid fun _ : Unit => cwd_wx x y
  have HIA := Lib.hid fun _ : Unit => isCw_cwd x
  have HIB := Lib.hid fun _ : Unit => isCw_cwd y
  have HIS := Lib.hid fun _ : Unit => isCw_cwd (x ^^^ y)
  have HTA := Lib.hid fun _ : Unit => told_cwd x
  have HTB := Lib.hid fun _ : Unit => told_cwd y
  have HEX := Lib.hid fun _ : Unit => encode_any (x ^^^ y)
  rw [← HSX.out ()] at HIS HEX
  rw [HXA.out (), HXB.out ()] at HIS HEX
  rw [HXA.out ()] at HIA HTA
  rw [HXB.out ()] at HIB HTB
  have HSD := Lib.hid fun _ : Unit => sxj_done a b HLA.out HLB.out
  have HSL : Hid ((wx a b).length = 127) := by unfold Hid; rw [wx_length a b (by rw [HLA.out, HLB.out]), HLA.out]
  clear HXA HXB HSX
  generalize wx a b = s at *
  go_enter Try.func3, Try.ntmps3
  go_wp2_with fail
  refine (awake_any _).mono ?_
  rintro e w1 ⟨rfl, hb⟩
  have HB1 := Lib.hid hb
  clear hb
  go_wp2_with fail
  refine (HEA.out _).mono ?_
  rintro e w2 ⟨rfl, hb⟩
  have HB2 := Lib.hid (HB1.out.trans (hb.mono HB1.out.size))
  clear hb HB1
  go_wp2_with fail
  refine (HEB.out _).mono ?_
  rintro e w3 ⟨rfl, hb⟩
  have HB3 := Lib.hid (HB2.out.trans (hb.mono HB2.out.size))
  clear hb HB2
  have hz := word_zero
  have H0 : Hid (Row ((w3.alloc (.cells (boolCells w0) 25)).alloc (.cells (boolCells w0) 25)) w3.heap.size 25 (boolCells w0)) := heap_alloc2_old _ _ _
  have H1 : Hid (Row ((w3.alloc (.cells (boolCells w0) 25)).alloc (.cells (boolCells w0) 25)) (w3.heap.size + 1) 25 (boolCells w0)) := heap_alloc2_new _ _ _
  have H2 : Hid (Row (((w3.alloc (.cells (boolCells w0) 25)).alloc (.cells (boolCells w0) 25)).setRow w3.heap.size (boolCells a)) (w3.heap.size + 1) 25 (boolCells w0)) := (setRow_other _ _ _ _ (by omega)).trans H1.out
  have HRA : Hid (Row ((((w3.alloc (.cells (boolCells w0) 25)).alloc (.cells (boolCells w0) 25)).setRow w3.heap.size (boolCells a)).setRow (w3.heap.size + 1) (boolCells b)) w3.heap.size 25 (boolCells a)) := (setRow_other _ _ _ _ (by omega)).trans (Row.setRow H0.out _)
  have HRB : Hid (Row ((((w3.alloc (.cells (boolCells w0) 25)).alloc (.cells (boolCells w0) 25)).setRow w3.heap.size (boolCells a)).setRow (w3.heap.size + 1) (boolCells b)) (w3.heap.size + 1) 25 (boolCells b)) := Row.setRow H2.out _
  have HB4 : Hid (Below w.heap.size w ((((w3.alloc (.cells (boolCells w0) 25)).alloc (.cells (boolCells w0) 25)).setRow w3.heap.size (boolCells a)).setRow (w3.heap.size + 1) (boolCells b))) :=
    below_setRow (below_setRow ((HB3.out.alloc HB3.out.size _).alloc (by have := HB3.out.size; simp; omega) _) HB3.out.size _) (by have := HB3.out.size; omega) _
  have HSZ : Hid (Unit → ((((w3.alloc (.cells (boolCells w0) 25)).alloc (.cells (boolCells w0) 25)).setRow w3.heap.size (boolCells a)).setRow (w3.heap.size + 1) (boolCells b)).heap.size = w3.heap.size + 2) := by intro _; simp [World.setRow]
  have hg : w.heap.size ≤ w3.heap.size := HB3.out.size
  clear HB3
  go_wp2_with (first
    | (refine wpList_store_row rfl 25 (.tmp 5) (.tmp 12) rfl w3.heap.size (boolCells a) rfl rfl 25 (boolCells w0) H0.out (HSA.out ()) (HS0.out ()) (boolCells_one a) ?_)
    | ((refine wpList_store_row rfl 25 (.tmp 6) (.tmp 14) rfl (w3.heap.size + 1) (boolCells b) rfl rfl 25 (boolCells w0) H2.out (HSB.out ()) (HS1.out ()) (boolCells_one b) ?_)
       generalize ((((w3.alloc (.cells (boolCells w0) 25)).alloc (.cells (boolCells w0) 25)).setRow w3.heap.size (boolCells a)).setRow (w3.heap.size + 1) (boolCells b)) = w4 at *))
  have HV0 : Hid (Row (w4.alloc (.cells (boolCells w0) 25)) w4.heap.size 25 (boolCells (sxj a b 0))) := by unfold Hid; rw [sxj_zero]; exact heap_alloc_new _ _
  have HA0 : Hid (Row (w4.alloc (.cells (boolCells w0) 25)) w3.heap.size 25 (boolCells a)) := HRA.out.alloc _
  have HBB0 : Hid (Row (w4.alloc (.cells (boolCells w0) 25)) (w3.heap.size + 1) 25 (boolCells b)) := HRB.out.alloc _
  have HB5 : Hid (Below w.heap.size w (w4.alloc (.cells (boolCells w0) 25))) := HB4.out.alloc HB4.out.size _
  have hgv : w3.heap.size + 1 < w4.heap.size := by have := HSZ.out (); omega
  clear HSZ HRA HRB HB4 H0 H1 H2 hz HS0 HS1 HEA HEB
  generalize (w4.alloc (.cells (boolCells w0) 25)) = w5 at *
  generalize w4.heap.size = gv at *
  generalize w3.heap.size = ga at *
  obtain ⟨gb, hgb⟩ : ∃ g, ga + 1 = g := ⟨_, rfl⟩
  have hab : ga < gb := by omega
  have hbv : gb < gv := by omega
  rw [hgb] at HBB0 ⊢
  clear hgb hgv
  go_loopw [8] (fun i wr => ∃ j : Nat, j ≤ 127 ∧ i = .int .i64 j ∧ Row wr gv 25 (boolCells (sxj a b j)) ∧ Row wr ga 25 (boolCells a) ∧ Row wr gb 25 (boolCells b) ∧ Below w.heap.size w wr) (fun i _ => 127 - (intOf i).toNat)
  case atStart => exact ⟨0, Nat.zero_le _, rfl, HV0.out, HA0.out, HBB0.out, HB5.out⟩
  case round =>
    clear HV0 HA0 HBB0 HB5
    obtain ⟨j, hj, rfl, h1, h2, h3, h4⟩ := hrel
    have HV := Lib.hid h1
    have HA := Lib.hid h2
    have HBR := Lib.hid h3
    have HB := Lib.hid h4
    clear h1 h2 h3 h4
    by_cases hlt : j < 127
    · have HS := Lib.hid (sxj_set a b j)
      have c0 := word_at HA.out j (by rw [HLA.out]; exact hlt)
      have c1 := word_at HBR.out j (by rw [HLB.out]; exact hlt)
      have c2 := word_at HV.out j (by rw [sxj_length]; exact hlt)
      have f2 := HV.out.free j
      generalize a.getD j false = p at *
      generalize b.getD j false = q at *
      go_wp2
      go_region
      go_wp2
      go_roundw
      case rel =>
        refine ⟨j + 1, by omega, by go_num, ?_, Row.drewN (HA.out.far (p := ⟨gv, j, none⟩) (by show ga ≠ gv; omega) _) 1, Row.drewN (HBR.out.far (p := ⟨gv, j, none⟩) (by show gb ≠ gv; omega) _) 1, below_drew1 (HB.out.setCell (p := ⟨gv, j, none⟩) (by show w.heap.size ≤ gv; omega) _)⟩
        rw [← HS.out, ← boolCells_set]
        exact Row.drewN (HV.out.set j _) 1
      case measure => simp [intOf] <;> omega
    · obtain rfl : j = 127 := by omega
      rw [HSD.out ()] at HV
      have hIA := is_any a
      rw [HIA.out ()] at hIA
      have hIB := is_any b
      rw [HIB.out ()] at hIB
      have hIS := is_any s
      rw [HIS.out ()] at hIS
      have hNA := info_any a
      rw [HTA.out ()] at hNA
      have hNB := info_any b
      rw [HTB.out ()] at hNB
      have hEX := HEX.out ()
      have heq := word_eq s s HSL.out HSL.out
      rw [beq_self_eq_true] at heq
      have HSV := Lib.hid fun _ : Unit => word_size s HSL.out
      clear HSD HIA HIB HIS HTA HTB HEX
      have HCV : Hid (∀ W : World, (∃ p : Regrown, W = Sort.grow (redrawn wr p.d) p.os) → W.heap[gv]? = some (.cells (boolCells s) 25 (0, 0))) := by
        rintro W ⟨p, rfl⟩
        exact HV.out.below (below_regrown wr p.d p.os) HV.out.lt
      have HCA : Hid (∀ W : World, (∃ p : Regrown, W = Sort.grow (redrawn wr p.d) p.os) → W.heap[ga]? = some (.cells (boolCells a) 25 (0, 0))) := by
        rintro W ⟨p, rfl⟩
        exact HA.out.below (below_regrown wr p.d p.os) HA.out.lt
      have HCB : Hid (∀ W : World, (∃ p : Regrown, W = Sort.grow (redrawn wr p.d) p.os) → W.heap[gb]? = some (.cells (boolCells b) 25 (0, 0))) := by
        rintro W ⟨p, rfl⟩
        exact HBR.out.below (below_regrown wr p.d p.os) HBR.out.lt
      have KIA : Hid (∀ d os, Calls Try.prog 11 #[.agg (boolCells a)] (Sort.grow (redrawn wr d) os) fun e w'' => e = .returned (.bool true) ∧ ∃ p : Regrown, w'' = Sort.grow (redrawn wr p.d) p.os) :=
        fun d os => Calls.regrown_of (hIA _ HLA.out)
      have KIB : Hid (∀ d os, Calls Try.prog 11 #[.agg (boolCells b)] (Sort.grow (redrawn wr d) os) fun e w'' => e = .returned (.bool true) ∧ ∃ p : Regrown, w'' = Sort.grow (redrawn wr p.d) p.os) :=
        fun d os => Calls.regrown_of (hIB _ HLB.out)
      have KIS : Hid (∀ d os, Calls Try.prog 11 #[.agg (boolCells s)] (Sort.grow (redrawn wr d) os) fun e w'' => e = .returned (.bool true) ∧ ∃ p : Regrown, w'' = Sort.grow (redrawn wr p.d) p.os) :=
        fun d os => Calls.regrown_of (hIS _ HSL.out)
      have KNA : Hid (∀ d os, Calls Try.prog 12 #[.agg (boolCells a)] (Sort.grow (redrawn wr d) os) fun e w'' => e = .returned (.int .u64 (un x)) ∧ ∃ p : Regrown, w'' = Sort.grow (redrawn wr p.d) p.os) :=
        fun d os => Calls.regrown_of (hNA _ HLA.out)
      have KNB : Hid (∀ d os, Calls Try.prog 12 #[.agg (boolCells b)] (Sort.grow (redrawn wr d) os) fun e w'' => e = .returned (.int .u64 (un y)) ∧ ∃ p : Regrown, w'' = Sort.grow (redrawn wr p.d) p.os) :=
        fun d os => Calls.regrown_of (hNB _ HLB.out)
      have KEX : Hid (∀ d os, Calls Try.prog 10 #[.int .u64 (un (x ^^^ y))] (Sort.grow (redrawn wr d) os) fun e w'' => e = .returned (.agg (boolCells s)) ∧ ∃ p : Regrown, w'' = Sort.grow (redrawn wr p.d) p.os) :=
        fun d os => Calls.regrown_of (hEX _)
      clear hIA hIB hIS hNA hNB hEX hlt hj
      go_wp2_with fail
      refine wp_region_quiet_below (by kernel_rfl) (by kernel_rfl) ?_
      refine BigFrame.wpQuiet_want (by rfl) (fun K hK => ?_)
      refine quiet_load_row 25 (.tmp 5) rfl ga rfl 25 (boolCells a) (0, 0) _ HCA.out Try.underlying25 rfl (HSA.out ()) ?_
      refine hK _ ?_
      clear hK K
      simp only [Act.put, List.setIfInBounds_toArray, List.set_cons_zero, List.set_cons_succ]
      quiet_step (first | (go_at_call 11; exact KIA.out _ _))
      quiet_step (fail)
      refine BigFrame.wpQuiet_want (by rfl) (fun K hK => ?_)
      refine quiet_load_row 25 (.tmp 6) rfl gb rfl 25 (boolCells b) (0, 0) _ HCB.out Try.underlying25 rfl (HSB.out ()) ?_
      refine hK _ ?_
      clear hK K
      simp only [Act.put, List.setIfInBounds_toArray, List.set_cons_zero, List.set_cons_succ]
      quiet_step (first | (go_at_call 11; exact KIB.out _ _))
      quiet_step (fail)
      quiet_step (fail)
      refine BigFrame.wpQuiet_want (by rfl) (fun K hK => ?_)
      refine quiet_load_row 25 (.tmp 7) rfl gv rfl 25 (boolCells s) (0, 0) _ HCV.out Try.underlying25 rfl (HSV.out ()) ?_
      refine hK _ ?_
      clear hK K
      simp only [Act.put, List.setIfInBounds_toArray, List.set_cons_zero, List.set_cons_succ]
      quiet_step (first | (go_at_call 11; exact KIS.out _ _))
      quiet_step (fail)
      quiet_step (fail)
      refine BigFrame.wpQuiet_want (by rfl) (fun K hK => ?_)
      refine quiet_load_row 25 (.tmp 7) rfl gv rfl 25 (boolCells s) (0, 0) _ HCV.out Try.underlying25 rfl (HSV.out ()) ?_
      refine hK _ ?_
      clear hK K
      simp only [Act.put, List.setIfInBounds_toArray, List.set_cons_zero, List.set_cons_succ]
      quiet_step (fail)
      quiet_step (fail)
      quiet_step (fail)
      quiet_step (first | (go_at_call 10; exact KEX.out _ _))
      quiet_step (fail)
      quiet_step (fail)
      quiet_step (fail)
      refine BigFrame.wpQuiet_want (by rfl) (fun K hK => ?_)
      refine quiet_load_row 25 (.tmp 5) rfl ga rfl 25 (boolCells a) (0, 0) _ HCA.out Try.underlying25 rfl (HSA.out ()) ?_
      refine hK _ ?_
      clear hK K
      simp only [Act.put, List.setIfInBounds_toArray, List.set_cons_zero, List.set_cons_succ]
      quiet_step (first | (go_at_call 12; exact KNA.out _ _))
      quiet_step (fail)
      quiet_step (fail)
      quiet_step (fail)
      quiet_step (fail)
      refine BigFrame.wpQuiet_want (by rfl) (fun K hK => ?_)
      refine quiet_load_row 25 (.tmp 6) rfl gb rfl 25 (boolCells b) (0, 0) _ HCB.out Try.underlying25 rfl (HSB.out ()) ?_
      refine hK _ ?_
      clear hK K
      simp only [Act.put, List.setIfInBounds_toArray, List.set_cons_zero, List.set_cons_succ]
      quiet_step (first | (go_at_call 12; exact KNB.out _ _))
      repeat (quiet_step (fail))
      refine wpQuiet_nil ?_
      intro _ hw'
      obtain ⟨⟨dq, osq⟩, hw''⟩ := hw'
      subst hw''
      have HBQ := Lib.hid (HB.out.trans ((below_regrown wr dq osq).mono HB.out.size))
      generalize Sort.grow (redrawn wr dq) osq = wq at *
      go_wp2
      go_ret
      exact ⟨rfl, HBQ.out⟩
end Go.Proofs.Ytddmpfoafjoofaa
