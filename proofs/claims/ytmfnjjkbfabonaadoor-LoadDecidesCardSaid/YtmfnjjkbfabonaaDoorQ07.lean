/-
  Contracts and plain facts that the laws share, part 7; each piece is headed by what it holds and its conditions.
-/
import Derived.Test.YtmfnjjkbfabonaaDoorQ02
import Derived.Test.YtmfnjjkbfabonaaDoorQ06
import Derived.Test.YtmfnjjkbfabonaaDoorQ05
import Derived.Test.YtmfnjjkbfabonaaDoorQ04
import Derived.RegionTactic
import Derived.Laws.ResultCell
import Derived.Laws.Rows
import Derived.Shelf.Slices.Equal
import Derived.Shelf.Slices.Clone
import Derived.Shelf.Slices.Empties2
import Derived.Shelf.Spec.SlicesInsertGrow
import Derived.Shelf.Spec.SlicesInsert

/- The contracts of layer 7's proper, text, Check, number, Read. Conditions: numbers are int's; a key has 16 bytes; the signs lie as the program's text lays them. -/
namespace Go.Proofs.YtmfnjjkbfabonaaDoor
open Go.RowKit
open M
attribute [local go_sem] un_beq un_bne

/-- Results that are whole arrays in boxes. -/
theorem results_row_tmp {P : Program} {fn : Func} {p u : Tmp} {ty : TypeId} (h : fn.results = #[.cell p ty, .tmp u]) (tmps : Array Value) (w : World) (g : Nat) (t : TypeId) (cs : Array Value) (fr : Nat × Nat) (d : TypeDesc)
    (hp : tmps.getD p undef = .pointer (some ⟨g, 0, none⟩)) (hg : w.heap[g]? = some (.cells cs t fr))
    (hu : P.underlying ty = some d) (hd : (match d with | .struct _ | .array _ _ => true | _ => false) = true) (hi : (P.info? ty).map (·.size) = some cs.size) :
    (results fn tmps).run P w = .ok (.tuple #[.agg cs, tmps.getD u undef]) w := by
  rw [results_cell_tmp h, hp]
  simp [asAddr, run_loadVar_row w g t ty cs fr d hg hu hd hi]
theorem results_row_row {P : Program} {fn : Func} {p q : Tmp} {ty : TypeId} (h : fn.results = #[.cell p ty, .cell q ty]) (tmps : Array Value) (w : World) (g g2 : Nat) (t t2 : TypeId) (cs cs2 : Array Value) (fr fr2 : Nat × Nat) (d : TypeDesc)
    (hp : tmps.getD p undef = .pointer (some ⟨g, 0, none⟩)) (hg : w.heap[g]? = some (.cells cs t fr)) (hq : tmps.getD q undef = .pointer (some ⟨g2, 0, none⟩)) (hg2 : w.heap[g2]? = some (.cells cs2 t2 fr2))
    (hu : P.underlying ty = some d) (hd : (match d with | .struct _ | .array _ _ => true | _ => false) = true) (hi : (P.info? ty).map (·.size) = some cs.size) (hi2 : (P.info? ty).map (·.size) = some cs2.size) :
    (results fn tmps).run P w = .ok (.tuple #[.agg cs, .agg cs2]) w := by
  have hp' : tmps[p]?.getD undef = .pointer (some ⟨g, 0, none⟩) := by simpa using hp
  have hq' : tmps[q]?.getD undef = .pointer (some ⟨g2, 0, none⟩) := by simpa using hq
  simp [results, h, hp', hq', asAddr, Sem.run_bind, run_loadVar_row w g t ty cs fr d hg hu hd hi, run_loadVar_row w g2 t2 ty cs2 fr2 d hg2 hu hd hi2]

theorem proper_int (p : Int) (w : World) :
    Calls Tryd.prog 25 #[.int .i64 p] w fun e w' => e = .returned (.bool (decide (0 ≤ p ∧ p < 281474976710656))) ∧ w = w' := by
  by_cases h : 0 ≤ p ∧ p < 281474976710656
  · have hs : (p / 281474976710656 == 0) = true := beq_iff_eq.2 (by omega)
    rw [decide_eq_true h]
    go_enter Tryd.func25, Tryd.ntmps25
    go_wp2
    go_ret
    exact ⟨by first | rfl | simp [hs], rfl⟩
  · have hs : (p / 281474976710656 == 0) = false := beq_eq_false_iff_ne.2 (by omega)
    rw [decide_eq_false h]
    go_enter Tryd.func25, Tryd.ntmps25
    go_wp2
    go_ret
    exact ⟨by first | rfl | simp [hs], rfl⟩

set_option maxRecDepth 100000 in
theorem text_any (p : Nat) (w : World) :
    Calls Tryd.prog 28 #[.int .i64 p] w fun e w' => e = .returned (.string (ofB (payB p))) ∧ Below w.heap.size w w' := by
  have hmk : ∀ w, (Instr.makeSlice 24 (.int .i64 6) (.int .i64 6)).run Tryd.prog w = .ok (.slice (some ⟨w.heap.size, 0, none⟩) 6 6) (w.alloc (.cells (madeCells #[.int .u8 0] 6) 5)) := fun w => run_make_row' (P := Tryd.prog) 24 5 (.int .u8 0) 1 Tryd.underlying24 byte_info rfl .i64 .i64 6 (by omega) (by omega) w
  have HZ := Lib.hid (payU_zero p)
  go_enter Tryd.func28, Tryd.ntmps28
  go_wp2
  clear hmk
  go_loopw [6] (fun i wr => ∃ k : Nat, k ≤ 6 ∧ i = .int .i64 k ∧ Row wr w.heap.size 5 (byteCells (payU p k)) ∧ Below w.heap.size w wr) (fun i _ => 6 - (intOf i).toNat)
  case atStart => exact ⟨0, by omega, rfl, by rw [← HZ.out]; exact row_new w _ rfl _ _, (Below.refl _ _).alloc (Nat.le_refl _) _⟩
  case round =>
    obtain ⟨k, hk, rfl, h1, h2⟩ := hrel
    have HR := Lib.hid h1
    have HB := Lib.hid h2
    by_cases hlt : k < 6
    · have f0 := h1.free k
      obtain ⟨u0, c0⟩ : ∃ u, wr.cell? ⟨w.heap.size, k, none⟩ = some u := ⟨_, (cell_of_row _ _ _ _ _ _ h1).trans (byteCells_get _ k (by rw [payU_length p k hk]; exact hlt))⟩
      have hs := pb_shr p k
      have HT := Lib.hid (payU_set p k hlt)
      clear h1 h2
      go_wp2
      go_roundw
      case rel =>
        refine ⟨k + 1, by omega, by go_num, ?_, HB.out.setCell (p := ⟨w.heap.size, k, none⟩) (Nat.le_refl _) _⟩
        rw [← HT.out]
        exact HR.out.set k _
      case measure => simp [intOf] <;> omega
    · obtain rfl : k = 6 := by omega
      have hc : ∀ i (hi : i < (payB p).length), wr.cell? ⟨w.heap.size, 0 + i, none⟩ = some (.int .u8 ((payB p)[i].toNat : Int)) := by
        intro i hi
        rw [Nat.zero_add, cell_of_row _ _ _ _ _ _ h1]
        exact byteCells_get (payB p) i hi
      have hv := run_conv wr w.heap.size 0 6 6 (payB p) rfl hc
      clear h1 h2 hc
      go_wp2
      go_ret
      exact ⟨rfl, HB.out⟩

theorem check_ok (k : List UInt8) (p : Nat) (w : World) (hk : k.length = 16) (hp : p < 281474976710656) (h : Signs w) :
    Calls Tryd.prog 18 #[.agg (byteCells k), .int .i64 p] w fun e w' => e = .returned (.int .i64 (chk k p : Nat)) ∧ Below w.heap.size w w' := by
  have HG := Lib.hid (h.below ((Below.refl w.heap.size w).alloc (Nat.le_refl _) (.cells (byteCells k) 23)) h.lt)
  have HI := Lib.hid (key_info k hk)
  have hr : Row (w.alloc (.cells (byteCells k) 23)) w.heap.size 23 (byteCells k) := heap_alloc_new _ _
  have HR := Lib.hid hr
  have HB := Lib.hid ((Below.refl w.heap.size w).alloc (Nat.le_refl _) (.cells (byteCells k) 23))
  have hpr : decide (0 ≤ (p : Int) ∧ (p : Int) < 281474976710656) = true := decide_eq_true (by omega)
  have hc : ((sum k (payB p)).toNat % 65536 : Nat) = chk k p := rfl
  have hm := and_mask (sum k (payB p))
  rw [hc] at hm
  have hlt := chk_lt k p
  have hwc : IntKind.i64.wrap (chk k p : Int) = (chk k p : Int) := by rw [IntKind.wrap_i64]; omega
  have HSM : Hid (∀ W, Signs W → Calls Tryd.prog 27 #[.agg (byteCells k), .string (ofB (payB p))] W fun e w'' => e = .returned (.int .u64 (un (sum k (payB p)))) ∧ Below W.heap.size W w'') :=
    fun W hs => sum_any k (ofB (payB p)) W hk (by rw [ofB_size, payB_length]; unfold maxLen; omega) hs
  generalize sum k (payB p) = s at *
  generalize chk k p = c at *
  clear h hr hc
  go_enter Tryd.func18, Tryd.ntmps18
  go_wp2_with fail
  refine (proper_int p _).mono ?_
  rintro e w' ⟨rfl, rfl⟩
  rw [hpr]
  clear hpr
  generalize w.alloc (.cells (byteCells k) 23) = wr at *
  have HCC : Hid (∀ W : World, (∃ p : Regrown, W = Sort.grow (redrawn wr p.d) p.os) → W.heap[w.heap.size]? = some (.cells (byteCells k) 23 (0, 0))) := by
    rintro W ⟨p, rfl⟩
    exact HR.out.below (below_regrown wr p.d p.os) HR.out.lt
  have HT : Hid (∀ d os, Calls Tryd.prog 28 #[.int .i64 p] (Sort.grow (redrawn wr d) os) fun e w'' => e = .returned (.string (ofB (payB p))) ∧ ∃ p : Regrown, w'' = Sort.grow (redrawn wr p.d) p.os) :=
    fun d os => Calls.regrown_of (text_any p _)
  have HCS : Hid (∀ d os, Calls Tryd.prog 27 #[.agg (byteCells k), .string (ofB (payB p))] (Sort.grow (redrawn wr d) os) fun e w'' => e = .returned (.int .u64 (un s)) ∧ ∃ p : Regrown, w'' = Sort.grow (redrawn wr p.d) p.os) :=
    fun d os => Calls.regrown_of (HSM.out _ (HG.out.below (below_regrown wr d os) HG.out.lt))
  go_wp2_with fail
  refine wp_region_quiet_below (by kernel_rfl) (by kernel_rfl) ?_
  refine BigFrame.wpQuiet_want (by rfl) (fun K hK => ?_)
  refine quiet_load_row 23 (.tmp 2) rfl w.heap.size rfl 23 (byteCells k) (0, 0) _ HCC.out Tryd.underlying23 rfl HI.out ?_
  refine hK _ ?_
  clear hK K
  simp only [Act.put, List.setIfInBounds_toArray, List.set_cons_zero, List.set_cons_succ]
  repeat (quiet_step (first | (go_at_call 28; exact HT.out _ _) | (go_at_call 27; exact HCS.out _ _)))
  refine wpQuiet_nil ?_
  intro _ hw'
  obtain ⟨⟨dq, osq⟩, hw''⟩ := hw'
  subst hw''
  have HBQ := Lib.hid (HB.out.trans ((below_regrown wr dq osq).mono HB.out.size))
  generalize Sort.grow (redrawn wr dq) osq = wq at *
  go_wp2
  go_ret
  exact ⟨rfl, HBQ.out⟩
theorem check_no (k : List UInt8) (p : Int) (w : World) (hp : ¬ (0 ≤ p ∧ p < 281474976710656)) :
    Calls Tryd.prog 18 #[.agg (byteCells k), .int .i64 p] w fun e w' => e = .returned (.int .i64 (-1)) ∧ Below w.heap.size w w' := by
  have HB := Lib.hid ((Below.refl w.heap.size w).alloc (Nat.le_refl _) (.cells (byteCells k) 23))
  have hpr := decide_eq_false hp
  clear hp
  go_enter Tryd.func18, Tryd.ntmps18
  go_wp2_with fail
  refine (proper_int p _).mono ?_
  rintro e w' ⟨rfl, rfl⟩
  rw [hpr]
  clear hpr
  go_wp2
  go_ret
  exact ⟨rfl, HB.out⟩
set_option maxRecDepth 100000 in
theorem number_any (k : List UInt8) (p : Nat) (w : World) (hk : k.length = 16) (hp : p < 281474976710656) (h : Signs w) :
    Calls Tryd.prog 23 #[.agg (byteCells k), .int .i64 p] w fun e w' => e = .returned (.int .u64 (un (num7 k p))) ∧ Below w.heap.size w w' := by
  have HG := Lib.hid (h.below ((Below.refl w.heap.size w).alloc (Nat.le_refl _) (.cells (byteCells k) 23)) h.lt)
  have HI := Lib.hid (key_info k hk)
  have hr : Row (w.alloc (.cells (byteCells k) 23)) w.heap.size 23 (byteCells k) := heap_alloc_new _ _
  have HR := Lib.hid hr
  have HB := Lib.hid ((Below.refl w.heap.size w).alloc (Nat.le_refl _) (.cells (byteCells k) 23))
  have HC := Lib.hid (fun W (hs : Signs W) => check_ok k p W hk hp hs)
  have ho := or_num7 k p hp
  rw [show ((281474976710656 * chk k p : Nat) : Int) = 281474976710656 * (chk k p : Int) by omega] at ho
  have hlt := chk_lt k p
  have h1 : IntKind.u64.wrap (p : Int) = p := by rw [IntKind.wrap_u64]; omega
  have h2 : IntKind.u64.wrap (chk k p : Int) = (chk k p : Int) := by rw [IntKind.wrap_u64]; omega
  have h3 : IntKind.u64.wrap ((chk k p : Int) * 281474976710656) = ((281474976710656 * chk k p : Nat) : Int) := by rw [IntKind.wrap_u64]; omega
  clear h hr
  go_enter Tryd.func23, Tryd.ntmps23
  go_wp2_with (refine wpList_load_row rfl 23 (.tmp 2) rfl w.heap.size rfl 23 (byteCells k) (0, 0) _ HR.out Tryd.underlying23 rfl HI.out ?_)
  refine (HC.out _ HG.out).mono ?_
  rintro e w1 ⟨rfl, hb⟩
  have HB1 := Lib.hid (HB.out.trans (hb.mono HB.out.size))
  clear hb HC HG HR HB
  generalize chk k p = c at *
  go_wp2
  go_ret
  exact ⟨by first | rfl | exact ret_eq ho, HB1.out⟩
set_option maxRecDepth 100000 in
/-- Read: the payload, and 0; or 0, and 6. -/
theorem read_any (k : List UInt8) (x : BitVec 64) (w : World) (hk : k.length = 16) (h : Signs w) :
    Calls Tryd.prog 14 #[.agg (byteCells k), .int .u64 (un x)] w fun e w' => e = .returned (.tuple #[.int .i64 (rdv k x), .int .i64 (rde k x)]) ∧ Below w.heap.size w w' := by
  have HG := Lib.hid (h.below ((Below.refl w.heap.size w).alloc (Nat.le_refl _) (.cells (byteCells k) 23)) h.lt)
  have HI := Lib.hid (key_info k hk)
  have hr : Row (w.alloc (.cells (byteCells k) 23)) w.heap.size 23 (byteCells k) := heap_alloc_new _ _
  have HR := Lib.hid hr
  have HB := Lib.hid ((Below.refl w.heap.size w).alloc (Nat.le_refl _) (.cells (byteCells k) 23))
  have hv : rdv k x = if num7 k (x.toNat % 281474976710656) = x then ((x.toNat % 281474976710656 : Nat) : Int) else 0 := rfl
  have hw : rde k x = if num7 k (x.toNat % 281474976710656) = x then 0 else 6 := rfl
  have hx : un x % 281474976710656 = ((x.toNat % 281474976710656 : Nat) : Int) := by unfold un; omega
  have hx2 : (un x).tmod 281474976710656 = ((x.toNat % 281474976710656 : Nat) : Int) := by rw [Int.tmod_eq_emod_of_nonneg (un_nonneg x)]; exact hx
  have hlt : x.toNat % 281474976710656 < 281474976710656 := Nat.mod_lt _ (by decide)
  have HBD := un_bd x
  generalize x.toNat % 281474976710656 = p at *
  have hcc := fun W (hs : Signs W) => number_any k p W hk hlt hs
  have h1 : IntKind.i64.wrap (p : Int) = p := by rw [IntKind.wrap_i64]; omega
  have h2 : IntKind.u64.wrap (p : Int) = p := by rw [IntKind.wrap_u64]; omega
  rw [hv, hw]
  generalize num7 k p = y at *
  have HC := Lib.hid hcc
  clear hcc
  by_cases hy : y = x
  · rw [if_pos hy, if_pos hy]
    have hy2 : (y != x) = false := by rw [hy]; simp
    clear hy
    clear h hr hv hw
    go_enter Tryd.func14, Tryd.ntmps14
    go_wp2_with (refine wpList_load_row rfl 23 (.tmp 2) rfl w.heap.size rfl 23 (byteCells k) (0, 0) _ HR.out Tryd.underlying23 rfl HI.out ?_)
    refine (HC.out _ HG.out).mono ?_
    rintro e w1 ⟨rfl, hb⟩
    have HB1 := Lib.hid (HB.out.trans (hb.mono HB.out.size))
    clear hb HC HG HR HB
    go_wp2
    go_ret2
    exact ⟨rfl, HB1.out⟩
  · rw [if_neg hy, if_neg hy]
    have hy2 : (y != x) = true := by rw [bne_iff_ne]; exact hy
    clear hy
    clear h hr hv hw
    go_enter Tryd.func14, Tryd.ntmps14
    go_wp2_with (refine wpList_load_row rfl 23 (.tmp 2) rfl w.heap.size rfl 23 (byteCells k) (0, 0) _ HR.out Tryd.underlying23 rfl HI.out ?_)
    refine (HC.out _ HG.out).mono ?_
    rintro e w1 ⟨rfl, hb⟩
    have HB1 := Lib.hid (HB.out.trans (hb.mono HB.out.size))
    clear hb HC HG HR HB
    go_wp2
    go_ret2
    exact ⟨rfl, HB1.out⟩
set_option maxRecDepth 100000 in
/-- Lay: no payload. -/
theorem lay_no (k : List UInt8) (p : Int) (w : World) (hp : ¬ (0 ≤ p ∧ p < 281474976710656)) :
    Calls Tryd.prog 16 #[.agg (byteCells k), .int .i64 p] w fun e w' => e = .returned (.tuple #[.agg (boolCells w0), .int .i64 7]) ∧ Below w.heap.size w w' := by
  have hpr := decide_eq_false hp
  have hz := word_zero
  have HB : Hid (Below w.heap.size w ((w.alloc (.cells (byteCells k) 23)).alloc (.cells (boolCells w0) 40))) := ((Below.refl _ _).alloc (Nat.le_refl _) _).alloc (by simp) _
  have H0 : Hid (Row ((w.alloc (.cells (byteCells k) 23)).alloc (.cells (boolCells w0) 40)) (w.heap.size + 1) 40 (boolCells w0)) := heap_alloc2_new _ _ _
  have HS := Lib.hid fun _ : Unit => word_size w0 w0_length
  clear hp
  go_enter Tryd.func16, Tryd.ntmps16
  go_wp2_with fail
  refine (proper_int p _).mono ?_
  rintro e w' ⟨rfl, rfl⟩
  rw [hpr]
  clear hpr
  go_wp2_with (first
    | (refine wpList_store_row rfl 40 (.tmp 4) (.tmp 9) rfl (w.heap.size + 1) (boolCells w0) rfl rfl 40 (boolCells w0) H0.out (HS.out ()) rfl (boolCells_one w0) ?_)
    | (refine bodyPost_ret (v := .tuple #[.agg (boolCells w0), .int .i64 7]) (results_row_tmp Tryd.results16 _ _ (w.heap.size + 1) 40 (boolCells w0) (0, 0) _ rfl (Row.setRow H0.out _) Tryd.underlying40 rfl (HS.out ())) rfl ⟨rfl, below_setRow HB.out (by omega) _⟩))
set_option maxRecDepth 100000 in
theorem lay_ok (k : List UInt8) (p : Nat) (w : World) (hk : k.length = 16) (hp : p < 281474976710656) (h : Signs w) :
    Calls Tryd.prog 16 #[.agg (byteCells k), .int .i64 p] w fun e w' => e = .returned (.tuple #[.agg (boolCells (cwd (num7 k p))), .int .i64 0]) ∧ Below w.heap.size w w' := by
  have hb0 : Below w.heap.size w ((w.alloc (.cells (byteCells k) 23)).alloc (.cells (boolCells w0) 40)) := ((Below.refl _ _).alloc (Nat.le_refl _) _).alloc (by simp) _
  have HB := Lib.hid hb0
  have HG := Lib.hid (h.below hb0 h.lt)
  have HK : Hid (Row ((w.alloc (.cells (byteCells k) 23)).alloc (.cells (boolCells w0) 40)) w.heap.size 23 (byteCells k)) := heap_alloc2_old _ _ _
  have H0 : Hid (Row ((w.alloc (.cells (byteCells k) 23)).alloc (.cells (boolCells w0) 40)) (w.heap.size + 1) 40 (boolCells w0)) := heap_alloc2_new _ _ _
  have hpr : decide (0 ≤ (p : Int) ∧ (p : Int) < 281474976710656) = true := decide_eq_true (by omega)
  have HI := Lib.hid (key_info k hk)
  have HN := Lib.hid (fun W (hs : Signs W) => number_any k p W hk hp hs)
  have HL := Lib.hid (cwd_length (num7 k p))
  generalize num7 k p = x at *
  have HE := Lib.hid (encode_any x)
  generalize cwd x = c at *
  have HS := Lib.hid fun _ : Unit => word_size c HL.out
  have HSS : Hid (Unit → (boolCells w0).size = (boolCells c).size) := by intro _; rw [boolCells_size, boolCells_size, w0_length, HL.out]
  have hz := word_zero
  clear h hb0
  go_enter Tryd.func16, Tryd.ntmps16
  go_wp2_with fail
  refine (proper_int p _).mono ?_
  rintro e w' ⟨rfl, rfl⟩
  rw [hpr]
  clear hpr
  go_wp2_with (refine wpList_load_row rfl 23 (.tmp 2) rfl w.heap.size rfl 23 (byteCells k) (0, 0) _ HK.out Tryd.underlying23 rfl HI.out ?_)
  refine (HN.out _ HG.out).mono ?_
  rintro e w1 ⟨rfl, hb⟩
  have HB1 := Lib.hid (HB.out.trans (hb.mono HB.out.size))
  have H1 := Lib.hid (H0.out.box hb)
  clear hb HG HK HB H0 HN
  go_wp2_with fail
  refine (HE.out _).mono ?_
  rintro e w2 ⟨rfl, hb⟩
  have HB2 := Lib.hid (HB1.out.trans (hb.mono HB1.out.size))
  have H2 := Lib.hid (H1.out.box hb)
  clear hb HB1 H1 HE
  go_wp2_with (first
    | (refine wpList_store_row rfl 40 (.tmp 4) (.tmp 13) rfl (w.heap.size + 1) (boolCells c) rfl rfl 40 (boolCells w0) H2.out (HS.out ()) (HSS.out ()) (boolCells_one c) ?_)
    | (refine bodyPost_ret (v := .tuple #[.agg (boolCells c), .int .i64 0]) (results_row_tmp Tryd.results16 _ _ (w.heap.size + 1) 40 (boolCells c) (0, 0) _ rfl (Row.setRow H2.out _) Tryd.underlying40 rfl (HS.out ())) rfl ⟨rfl, below_setRow HB2.out (by omega) _⟩))
end Go.Proofs.YtmfnjjkbfabonaaDoor

/- What layer 6 shares: slices.Equal, Clone, Insert (this program's texts are those that the library's contracts speak of); a slice of numbers in a block of its own. No conditions but those that each fact names. -/
namespace Go.Proofs.YtmfnjjkbfabonaaDoor
open Go.RowKit
open M

def laysEq_ren : Go.Shelf.Ren := ⟨fun | 111 => 59 | n => n, fun | 28 => 57 | 3 => 3 | 4 => 4 | 0 => 0 | n => n, fun | n => n⟩
theorem laysEq : Go.Proofs.Lays.n111 Tryd.prog laysEq_ren := {
  mixed := by kernel_rfl
  f111 := Tryd.func59.trans (congrArg some (by kernel_rfl))
  t0 := Tryd.underlying0
  a0 := Tryd.isAgg0
  z0 := Tryd.sizeOf0
  v0 := Tryd.zeroValue0
  t3 := Tryd.underlying3
  a3 := Tryd.isAgg3
  z3 := Tryd.sizeOf3
  v3 := Tryd.zeroValue3
  t4 := Tryd.underlying4
  a4 := Tryd.isAgg4
  z4 := Tryd.sizeOf4
  v4 := Tryd.zeroValue4
  t28 := Tryd.underlying57
  a28 := Tryd.isAgg57
  z28 := Tryd.sizeOf57
  v28 := Tryd.zeroValue57 }
def laysCl_ren : Go.Shelf.Ren := ⟨fun | 15 => 73 | n => n, fun | 22 => 57 | 3 => 3 | 4 => 4 | n => n, fun | n => n⟩
theorem laysCl : Go.Proofs.Lays2.n15 Tryd.prog laysCl_ren := {
  mixed := by kernel_rfl
  f15 := Tryd.func73.trans (congrArg some (by kernel_rfl))
  t3 := Tryd.underlying3
  a3 := Tryd.isAgg3
  z3 := Tryd.sizeOf3
  v3 := Tryd.zeroValue3
  t4 := Tryd.underlying4
  a4 := Tryd.isAgg4
  z4 := Tryd.sizeOf4
  v4 := Tryd.zeroValue4
  t22 := Tryd.underlying57
  a22 := Tryd.isAgg57
  z22 := Tryd.sizeOf57
  v22 := Tryd.zeroValue57
  i3 := by kernel_rfl }
def laysIns_ren : Go.Shelf.Ren := ⟨fun | 21 => 72 | 27 => 77 | 28 => 78 | 35 => 79 | 39 => 80 | n => n, fun | 22 => 57 | 3 => 3 | 4 => 4 | 0 => 0 | n => n, fun | n => n⟩
theorem laysIns : Go.Proofs.Lays2.n21 Tryd.prog laysIns_ren := {
  mixed := by kernel_rfl
  f21 := Tryd.func72.trans (congrArg some (by kernel_rfl))
  f27 := Tryd.func77.trans (congrArg some (by kernel_rfl))
  f28 := Tryd.func78.trans (congrArg some (by kernel_rfl))
  f35 := Tryd.func79.trans (congrArg some (by kernel_rfl))
  f39 := Tryd.func80.trans (congrArg some (by kernel_rfl))
  t0 := Tryd.underlying0
  a0 := Tryd.isAgg0
  z0 := Tryd.sizeOf0
  v0 := Tryd.zeroValue0
  t3 := Tryd.underlying3
  a3 := Tryd.isAgg3
  z3 := Tryd.sizeOf3
  v3 := Tryd.zeroValue3
  t4 := Tryd.underlying4
  a4 := Tryd.isAgg4
  z4 := Tryd.sizeOf4
  v4 := Tryd.zeroValue4
  t22 := Tryd.underlying57
  a22 := Tryd.isAgg57
  z22 := Tryd.sizeOf57
  v22 := Tryd.zeroValue57
  i3 := by kernel_rfl }

/-- A slice of numbers that are not below 0, from the head of a block on. -/
def NAt (w : World) (v : Value) (l : List Nat) (g : Nat) : Prop :=
  ∃ cap cur, v = .slice (some ⟨g, 0, none⟩) l.length cap ∧ Row w g 3 cur ∧ ∀ i, i < l.length → cur[i]? = some (.int .i64 (l.getD i 0 : Nat))
theorem NAt.mono {w w' : World} {v : Value} {l : List Nat} {g : Nat} (h : NAt w v l g) (hr : ∀ cur, Row w g 3 cur → Row w' g 3 cur) : NAt w' v l g := by
  obtain ⟨cap, cur, h1, h2, h3⟩ := h
  exact ⟨cap, cur, h1, hr _ h2, h3⟩
theorem NAt.lt {w : World} {v : Value} {l : List Nat} {g : Nat} (h : NAt w v l g) : g < w.heap.size := by
  obtain ⟨cap, cur, h1, h2, h3⟩ := h
  exact Row.lt h2
theorem NAt.cell {w : World} {v : Value} {l : List Nat} {g : Nat} (h : NAt w v l g) (i : Nat) (hi : i < l.length) : w.cell? ⟨g, i, none⟩ = some (.int .i64 (l.getD i 0 : Nat)) := by
  obtain ⟨cap, cur, h1, h2, h3⟩ := h
  rw [cell_of_row _ _ _ _ _ _ h2, h3 i hi]
theorem castL_getD (l : List Nat) (i : Nat) : (castL l).getD i 0 = ((l.getD i 0 : Nat) : Int) := by
  unfold castL
  rcases Nat.lt_or_ge i l.length with h | h
  · simp [List.getD_eq_getElem?_getD, List.getElem?_eq_getElem h]
  · simp [List.getD_eq_getElem?_getD, List.getElem?_eq_none h]
theorem NAt.ints {w : World} {v : Value} {l : List Nat} {g : Nat} (h : NAt w v l g) : IntsAt w v (castL l) := by
  have hc := h.cell
  have hl := h.lt
  obtain ⟨cap, cur, rfl, h2, h3⟩ := h
  refine ⟨_, cap, by rw [castL_length], fun _ => ⟨g, 0, rfl, hl, fun i hi => ?_⟩⟩
  rw [castL_length] at hi
  rw [Nat.zero_add, hc i hi, castL_getD]
theorem vs_length (l : List Nat) : (vs l).length = l.length := by simp [vs]
theorem vs_one (l : List Nat) : ∀ u ∈ vs l, u.oneCell' = true := by
  intro u hu
  simp only [vs, List.mem_map] at hu
  obtain ⟨x, _, rfl⟩ := hu
  rfl
/-- What a call has made itself is such a slice. -/
theorem NAt.own {w : World} {base : Nat} {v : Value} {l : List Nat} (h : w.ownsRow base 3 1 v l.length (vs l)) (hl : 0 < l.length) : ∃ g, v.ownBlock = some g ∧ base ≤ g ∧ NAt w v l g := by
  rcases h.2 with ⟨_, h0⟩ | ⟨g, cap, cur, hv, hb, hg, hc1, hc2, hsz, htk⟩
  · omega
  · refine ⟨g, by rw [hv]; rfl, hb, cap, cur, hv, hg, fun i hi => ?_⟩
    have e : cur[i]? = (vs l)[i]? := by rw [← htk, List.getElem?_take, if_pos (by omega), Array.getElem?_toList]
    rw [e, vs_get l i hi]
/-- A block behind a row of stores. -/
def setA (cs : Array Value) : Nat → List Value → Array Value
  | _, [] => cs
  | o, v :: r => setA (cs.setIfInBounds o v) (o + 1) r
theorem Row.setCells {b : Nat} {t : TypeId} : ∀ (us : List Value) (o : Nat) (w : World) (cs : Array Value), Row w b t cs → Row (w.setCells b o us) b t (setA cs o us)
  | [], _, _, _, h => h
  | v :: r, o, w, cs, h => by
    rw [World.setCells]
    exact Row.setCells r (o + 1) _ _ (h.set o v)
theorem Only.setCells {b : Nat} : ∀ (us : List Value) (o : Nat) (w : World), Only b w (w.setCells b o us)
  | [], _, _ => Only.refl _ _
  | v :: r, o, w => by
    rw [World.setCells]
    exact ((Only.refl b w).setCell o none v).trans (Only.setCells r (o + 1) _)
theorem gb_refl (w : World) (r : Option Nat) : w.grownBy w r := ⟨rfl, rfl, rfl, Nat.le_refl _, fun _ _ _ => rfl⟩
theorem gb_drew {w w' : World} {r : Option Nat} (h : w.grownBy w' r) : w.grownBy w'.drew r := ⟨h.os, h.tape, h.output, h.size, h.block⟩
theorem gb_alloc {w w' : World} {r : Option Nat} (h : w.grownBy w' r) (o : Obj) : w.grownBy (w'.alloc o) r :=
  ⟨h.os, h.tape, h.output, by have := h.size; simp; omega, fun k hk hn => (Below.heap_alloc w' o k (by have := h.size; omega)).trans (h.block k hk hn)⟩
theorem gb_new {w w' w'' : World} {r : Option Nat} {g : Nat} (h : w.grownBy w' r) (hg : w.heap.size ≤ g) (k : Only g w' w'') : w.grownBy w'' r :=
  ⟨k.os.trans h.os, k.tape.trans h.tape, k.output.trans h.output, by have := h.size; have := k.size; omega, fun i hi hn => (k.block i (by omega)).trans (h.block i hi hn)⟩

/-- slices.Clone of such a slice. -/
theorem clone_any (v : Value) (l : List Nat) (g : Nat) (w : World) (h : NAt w v l g) (hl : l.length ≤ 1000) :
    Calls Tryd.prog 73 #[v] w fun e w' => ∃ v', e = .returned v' ∧ w'.ownsRow w.heap.size 3 1 v' l.length (vs l) ∧ Below w.heap.size w w' := by
  have hc := h.cell
  obtain ⟨cap, cur, rfl, h2, h3⟩ := h
  have k := Any.slices_Clone_int laysCl g 0 l.length cap (castL l) w (by rw [castL_length]; omega) (by omega) (fun j hj => by rw [castL_length] at hj; rw [Nat.zero_add, hc j hj, castL_getD])
  refine Calls.mono k ?_
  rintro e w' ⟨v', rfl, h4, _, h5⟩
  refine ⟨v', rfl, ?_, h5⟩
  have e1 : ((castL l).take l.length).map (Value.int .i64) = vs l := by
    rw [show l.length = (castL l).length by rw [castL_length], List.take_length]
    simp [castL, vs]
  rw [e1] at h4
  exact h4
/-- slices.Insert of a 0 at the head of a slice that the caller has made. -/
theorem ins0_any (v : Value) (l : List Nat) (base vb : Nat) (w : World) (h : w.ownsRow base 3 1 v l.length (vs l)) (hv : Row w vb 3 #[.int .i64 0]) (hne : some vb ≠ v.ownBlock) (hl : 0 < l.length) (hl2 : l.length ≤ 1000) (hbw : base ≤ w.heap.size) :
    Calls Tryd.prog 72 #[v, .int .i64 0, .slice (some ⟨vb, 0, none⟩) 1 1] w fun e w' => ∃ v' g, e = .returned v' ∧ NAt w' v' (0 :: l) g ∧ base ≤ g ∧ w.grownBy w' v.ownBlock := by
  rcases h.2 with ⟨_, h0⟩ | ⟨g, cap, cur, rfl, hb, hg, hc1, hc2, hsz, htk⟩
  · omega
  have hnb : vb ≠ g := by intro e; apply hne; rw [e]; rfl
  have hg' : Row w g 3 cur := hg
  have hcell : ∀ j u, (vs l)[j]? = some u → w.cell? ⟨g, 0 + j, none⟩ = some u := by
    intro j u hj
    have hjl := (List.getElem?_eq_some_iff.1 hj).1
    rw [vs_length] at hjl
    rw [Nat.zero_add, cell_of_row _ _ _ _ _ _ hg', ← hj, ← htk, List.getElem?_take, if_pos (by omega), Array.getElem?_toList]
  have hvc : ∀ j u, [Value.int .i64 0][j]? = some u → w.cell? ⟨vb, 0 + j, none⟩ = some u := by
    intro j u hj
    have hjl := (List.getElem?_eq_some_iff.1 hj).1
    have e0 : j = 0 := by simp at hjl; omega
    subst e0
    rw [cell_of_row _ _ _ _ _ _ hv, ← hj]; rfl
  have h1v : ∀ u ∈ [Value.int .i64 0], u.oneCell' = true := by
    intro u hu; simp at hu; subst hu; rfl
  have hmx : maxLen = 9223372036854775807 := rfl
  rcases Nat.lt_or_ge cap (l.length + 1) with hroom | hroom
  · have k := Any2.slices_Insert_int_grow laysIns g 0 l.length cap 0 vb 0 1 1 (vs l) [Value.int .i64 0] w hl (by omega) hc1 hroom (by omega) (vs_length l) rfl hcell hvc (vs_one l) h1v
    refine Calls.mono k ?_
    rintro e w' ⟨rfl, rfl⟩
    generalize hX : ((vs l).take 0).toArray ++ Builtin.zeroCells (Value.int .i64 0).cells (l.length + 1 - 0) ++ Builtin.zeroCells (Value.int .i64 0).cells (grownCap w (l.length + 1) cap (laysIns_ren.t 3) - (l.length + 1)) = X
    have hXs : l.length + 1 ≤ X.size := by
      rw [← hX]
      simp only [Array.size_append, size_zeroCells]
      show l.length + 1 ≤ _ + (l.length + 1 - 0) * 1 + _
      omega
    have r0 : Row (w.alloc (.cells X (laysIns_ren.t 3))) w.heap.size 3 X := heap_alloc_new _ _
    have r1 : Row (w.alloc (.cells X (laysIns_ren.t 3))).drew w.heap.size 3 X := r0
    have r2 := Row.setCells [Value.int .i64 0] 0 _ _ r1
    have r3 : Row (((w.alloc (.cells X (laysIns_ren.t 3))).drew.setCells w.heap.size 0 [Value.int .i64 0]).drew) w.heap.size 3 (setA X 0 [Value.int .i64 0]) := r2
    have r4 := Row.setCells (vs l) 1 _ _ r3
    have g1 : w.grownBy (w.alloc (.cells X (laysIns_ren.t 3))).drew (Value.slice (some ⟨g, 0, none⟩) l.length cap).ownBlock := gb_drew (gb_alloc (gb_refl w _) _)
    have g2 := gb_drew (gb_new g1 (Nat.le_refl _) (Only.setCells [Value.int .i64 0] 0 _))
    have g3 := gb_new g2 (Nat.le_refl _) (Only.setCells (vs l) 1 _)
    refine ⟨_, w.heap.size, rfl, ⟨_, _, by rw [List.length_cons], r4, fun i hi => ?_⟩, hbw, g3⟩
    rw [List.length_cons] at hi
    have e := cell_of_row _ _ i _ _ _ r4
    rw [← e]
    have hsome : ∀ j, j < l.length + 1 → (((w.alloc (.cells X (laysIns_ren.t 3))).drew.setCells w.heap.size 0 [Value.int .i64 0]).drew.cell? ⟨w.heap.size, j, none⟩).isSome = true := by
      intro j hj
      rw [cell_of_row _ _ _ _ _ _ r3]
      have : (setA X 0 [Value.int .i64 0]).size = X.size := by simp [setA]
      rw [Array.getElem?_eq_getElem (by omega)]; rfl
    cases i with
    | zero =>
      rw [World.cell?_setCells_out _ _ _ _ _ (fun _ _ => Or.inl (by show 0 < 1; omega)), cell_of_row _ _ _ _ _ _ r3]
      show (X.setIfInBounds 0 (Value.int .i64 0))[0]? = _
      rw [Array.getElem?_setIfInBounds, if_pos rfl, if_pos (by omega)]; rfl
    | succ i =>
      have := World.cell?_setCells_in w.heap.size (vs l) 1 (((w.alloc (.cells X (laysIns_ren.t 3))).drew.setCells w.heap.size 0 [Value.int .i64 0]).drew) (fun j hj => hsome (1 + j) (by rw [vs_length] at hj; omega)) i (by rw [vs_length]; omega)
      rw [show 1 + i = i + 1 by omega] at this
      have e2 := vs_get l i (by omega)
      rw [List.getElem?_eq_getElem (by rw [vs_length]; omega)] at e2
      rw [List.getD_cons_succ, ← e2]
      exact this
  · have k := Any2.slices_Insert_int_shift laysIns g 0 l.length cap 0 vb 0 1 1 (vs l) [Value.int .i64 0] w hl (by omega) hroom (by omega) hnb (vs_length l) rfl hcell
      (fun j hj => by rw [Nat.zero_add, cell_of_row _ _ _ _ _ _ hg', Array.getElem?_eq_getElem (by omega)]; rfl)
      (fun j hj => by rw [Nat.zero_add]; exact hg'.free j) hvc (vs_one l) h1v 3 3 1 cur.size
      (by unfold World.shape?; rw [show w.heap[vb]? = _ from hv]; rfl) (by unfold World.shape?; rw [hg]) (by omega) (hv.free 0) (hv.free 1)
    refine Calls.mono k ?_
    rintro e w' ⟨rfl, rfl⟩
    have r1 : Row w.drew g 3 cur := hg'
    have r2 := Row.setCells ((vs l).drop 0) (0 + (0 + 1)) _ _ r1
    have r3 := Row.setCells [Value.int .i64 0] (0 + 0) _ _ r2
    have o1 : Only g w w.drew := (Only.refl g w).drew
    have o3 := (o1.trans (Only.setCells ((vs l).drop 0) (0 + (0 + 1)) w.drew)).trans (Only.setCells [Value.int .i64 0] (0 + 0) _)
    refine ⟨_, g, rfl, ⟨_, _, by rw [List.length_cons], r3, fun i hi => ?_⟩, hb, gb_only (gb_refl w _) o3⟩
    rw [List.length_cons] at hi
    have e := cell_of_row _ _ i _ _ _ r3
    rw [← e]
    have hsome : ∀ j, j < l.length + 1 → ((w.drew.setCells g (0 + (0 + 1)) ((vs l).drop 0)).cell? ⟨g, j, none⟩).isSome = true := by
      intro j hj
      refine isSome_setCells g _ _ _ (fun i hi => ?_) j ?_
      · rw [List.drop_zero, vs_length] at hi
        rw [cell_of_row _ _ _ _ _ _ r1, Array.getElem?_eq_getElem (by omega)]; rfl
      · rw [cell_of_row _ _ _ _ _ _ r1, Array.getElem?_eq_getElem (by omega)]; rfl
    cases i with
    | zero =>
      have := World.cell?_setCells_in g [Value.int .i64 0] 0 (w.drew.setCells g (0 + (0 + 1)) ((vs l).drop 0)) (fun j hj => by
        have : j = 0 := by simp at hj; omega
        subst this
        exact hsome 0 (by omega)) 0 (by simp)
      exact this
    | succ i =>
      rw [World.cell?_setCells_out _ _ _ _ _ (fun _ _ => Or.inr (by show 0 + 0 + 1 ≤ i + 1; omega))]
      have := World.cell?_setCells_in g ((vs l).drop 0) (0 + (0 + 1)) w.drew (fun j hj => by
        rw [List.drop_zero, vs_length] at hj
        rw [cell_of_row _ _ _ _ _ _ r1, Array.getElem?_eq_getElem (by omega)]; rfl) i (by rw [List.drop_zero, vs_length]; omega)
      rw [show 0 + (0 + 1) + i = i + 1 by omega] at this
      rw [this]
      have e2 := vs_get l i (by omega)
      rw [List.getElem?_eq_getElem (by rw [vs_length]; omega)] at e2
      rw [List.getD_cons_succ, ← e2]
      simp
end Go.Proofs.YtmfnjjkbfabonaaDoor

/- Plain facts for layer 6: how far a word with holes is from a word; that two near codewords are the same; that of two fillings one has few errors; the shortest recurrence of a sequence (Massey's lemma, and the step that keeps it). No program is named here. No conditions. -/
namespace Go.Proofs.YtmfnjjkbfabonaaDoor.M

/-- What a place adds: 1 at a hole, 2 where a known bit is unlike. -/
def far1 (w h c : Bool) : Nat := if h then 1 else if w != c then 2 else 0
/-- Twice the known bits that are unlike, and the holes, among the first j. -/
def farN (w h c : List Bool) : Nat → Nat
  | 0 => 0
  | j + 1 => farN w h c j + far1 (w.getD j false) (h.getD j false) (c.getD j false)
theorem farN_le (w h c : List Bool) (j : Nat) : farN w h c j ≤ 2 * j := by
  induction j with
  | zero => exact Nat.le_refl _
  | succ j ih =>
    have : far1 (w.getD j false) (h.getD j false) (c.getD j false) ≤ 2 := by
      unfold far1; split; omega; split <;> omega
    simp only [farN]; omega
theorem farN_two (w h c d : List Bool) (hc : c.length = 127) (hd : d.length = 127) (j : Nat) (hj : j ≤ 127) : 2 * dstN c d j ≤ farN w h c j + farN w h d j := by
  induction j with
  | zero => simp [dstN, farN]
  | succ j ih =>
    have ih := ih (by omega)
    rw [dstN_succ c d j (by omega) (by omega)]
    simp only [farN]
    generalize dstN c d j = n at *
    generalize farN w h c j = p at *
    generalize farN w h d j = q at *
    generalize c.getD j false = x
    generalize d.getD j false = y
    generalize w.getD j false = z
    generalize h.getD j false = t
    unfold far1
    cases x <;> cases y <;> cases z <;> cases t <;> simp <;> omega
/-- Two near codewords are the same. -/
theorem near_one (w h c d : List Bool) (hc : c.length = 127) (hd : d.length = 127) (kc : Cw c) (kd : Cw d) (h1 : farN w h c 127 ≤ 20) (h2 : farN w h d 127 ≤ 20) : c = d := by
  by_cases e : c = d
  · exact e
  · have h3 := cw_apart c d hc hd kc kd e
    have h4 := farN_two w h c d hc hd 127 (by omega)
    have h5 : dstN c d 127 = dst c d := by rw [← hc]; exact dstN_all c d (by omega)
    unfold dst at h5
    omega
/-- A word whose holes are filled. -/
def fill (w h : List Bool) (b : Bool) : List Bool := (List.range 127).map fun i => if h.getD i false then b else w.getD i false
theorem fill_length (w h : List Bool) (b : Bool) : (fill w h b).length = 127 := by unfold fill; rw [List.length_map, List.length_range]
theorem fill_getD (w h : List Bool) (b : Bool) (i : Nat) (hi : i < 127) : (fill w h b).getD i false = if h.getD i false then b else w.getD i false := by
  unfold fill; rw [tab_getD _ _ _ _ hi]
theorem fill_two (w h c : List Bool) (hc : c.length = 127) (j : Nat) (hj : j ≤ 127) : dstN (fill w h false) c j + dstN (fill w h true) c j = farN w h c j := by
  induction j with
  | zero => simp [dstN, farN]
  | succ j ih =>
    have ih := ih (by omega)
    rw [dstN_succ _ _ j (by rw [fill_length, hc]) (by rw [fill_length]; omega), dstN_succ _ _ j (by rw [fill_length, hc]) (by rw [fill_length]; omega), fill_getD _ _ _ _ (by omega), fill_getD _ _ _ _ (by omega)]
    simp only [farN]
    generalize dstN (fill w h false) c j = n at *
    generalize dstN (fill w h true) c j = m at *
    generalize farN w h c j = p at *
    generalize c.getD j false = x
    generalize w.getD j false = z
    generalize h.getD j false = t
    unfold far1
    cases x <;> cases z <;> cases t <;> simp <;> omega
/-- Of two fillings one has no more errors than half of the distance. -/
theorem fill_few (w h c : List Bool) (hc : c.length = 127) (k : farN w h c 127 ≤ 20) : dst (fill w h false) c ≤ 10 ∨ dst (fill w h true) c ≤ 10 := by
  have h1 := fill_two w h c hc 127 (by omega)
  have e1 : dstN (fill w h false) c 127 = dst (fill w h false) c := by
    have := dstN_all (fill w h false) c (by rw [fill_length, hc]); rwa [fill_length] at this
  have e2 : dstN (fill w h true) c 127 = dst (fill w h true) c := by
    have := dstN_all (fill w h true) c (by rw [fill_length, hc]); rwa [fill_length] at this
  omega

/-- A sum over the first numbers. -/
def sg (n : Nat) (f : Nat → Nat) : Nat := xsum ((List.range n).map f)
theorem xsum_append (l m : List Nat) : xsum (l ++ m) = xsum l ^^^ xsum m := by
  induction l with
  | nil => rw [List.nil_append]; exact (Nat.zero_xor _).symm
  | cons a l ih => rw [List.cons_append, xsum_cons, xsum_cons, ih, Nat.xor_assoc]
theorem sg_succ (n : Nat) (f : Nat → Nat) : sg (n + 1) f = sg n f ^^^ f n := by
  unfold sg
  rw [List.range_succ, List.map_append, xsum_append]
  congr 1
  show f n ^^^ 0 = f n
  exact Nat.xor_zero _
theorem sg_none (f : Nat → Nat) : sg 0 f = 0 := rfl
theorem sg_zero (n : Nat) (f : Nat → Nat) (h : ∀ i, i < n → f i = 0) : sg n f = 0 := by
  induction n with
  | zero => rfl
  | succ n ih => rw [sg_succ, ih fun i hi => h i (by omega), h n (by omega)]; rfl
theorem sg_congr (n : Nat) (f g : Nat → Nat) (h : ∀ i, i < n → f i = g i) : sg n f = sg n g := by
  induction n with
  | zero => rfl
  | succ n ih => rw [sg_succ, sg_succ, ih fun i hi => h i (by omega), h n (by omega)]
theorem sg_lt (n : Nat) (f : Nat → Nat) (h : ∀ i, f i < 128) : sg n f < 128 := by
  induction n with
  | zero => show 0 < 128; omega
  | succ n ih => rw [sg_succ]; exact xor_lt _ _ ih (h n)
theorem sg_xor (n : Nat) (f g : Nat → Nat) : sg n (fun i => f i ^^^ g i) = sg n f ^^^ sg n g := xsum_xor _ f g
theorem sg_mul (c : Nat) (hc : c < 128) (n : Nat) (f : Nat → Nat) : sg n (fun i => mul c (f i)) = mul c (sg n f) := xsum_mul c hc _ f
theorem sg_swap (n m : Nat) (f : Nat → Nat → Nat) : sg n (fun i => sg m (fun j => f i j)) = sg m (fun j => sg n (fun i => f i j)) := by
  induction n with
  | zero => rw [sg_none]; exact (sg_zero m _ fun j _ => rfl).symm
  | succ n ih =>
    rw [sg_succ, ih, ← sg_xor]
    exact sg_congr m _ _ fun j _ => (sg_succ n (fun i => f i j)).symm
theorem sg_first (n : Nat) (f : Nat → Nat) (h : ∀ i, 1 ≤ i → i < n + 1 → f i = 0) : sg (n + 1) f = f 0 := by
  induction n with
  | zero => rw [sg_succ, sg_none, Nat.zero_xor]
  | succ n ih => rw [sg_succ, ih fun i h1 h2 => h i h1 (by omega), h (n + 1) (by omega) (by omega), Nat.xor_zero]
theorem sg_more (n k : Nat) (f : Nat → Nat) (h : ∀ i, n ≤ i → f i = 0) : sg (n + k) f = sg n f := by
  induction k with
  | zero => rfl
  | succ k ih => rw [← Nat.add_assoc, sg_succ, ih, h (n + k) (by omega), Nat.xor_zero]
theorem sg_shift (n m : Nat) (f : Nat → Nat) (h : ∀ i, i < m → f i = 0) : sg (m + n) f = sg n (fun i => f (m + i)) := by
  induction n with
  | zero => exact sg_zero m f h
  | succ n ih => rw [← Nat.add_assoc, sg_succ, ih, sg_succ]

/-- What a recurrence asks of a sequence at n. -/
def dc (C : Nat → Nat) (L : Nat) (S : Nat → Nat) (n : Nat) : Nat := sg (L + 1) fun i => mul (C i) (S (n - i))
/-- A recurrence of length L for the first N. -/
structure Gen (C : Nat → Nat) (L : Nat) (S : Nat → Nat) (N : Nat) : Prop where
  one : C 0 = 1
  lt : ∀ i, C i < 128
  deg : ∀ i, L < i → C i = 0
  zero : ∀ n, L ≤ n → n < N → dc C L S n = 0
theorem Gen.less {C : Nat → Nat} {L : Nat} {S : Nat → Nat} {N M : Nat} (h : Gen C L S N) (hM : M ≤ N) : Gen C L S M :=
  ⟨h.one, h.lt, h.deg, fun n h1 h2 => h.zero n h1 (by omega)⟩
theorem one_mul (a : Nat) (ha : a < 128) : mul 1 a = a := by rw [mul_comm 1 a (by omega) ha, mul_one a ha]
theorem massey {C C' : Nat → Nat} {L L' : Nat} {S : Nat → Nat} {N : Nat} (hS : ∀ n, S n < 128) (h : Gen C L S N) (h' : Gen C' L' S (N + 1)) (hd : dc C L S N ≠ 0) : N + 1 ≤ L + L' := by
  rcases Nat.lt_or_ge N (L + L') with h0 | h0
  · exact h0
  · exfalso
    apply hd
    have e1 : sg (L + 1) (fun i => sg (L' + 1) fun j => mul (mul (C i) (C' j)) (S (N - i - j))) = 0 := by
      apply sg_zero
      intro i hi
      have e : sg (L' + 1) (fun j => mul (mul (C i) (C' j)) (S (N - i - j))) = mul (C i) (dc C' L' S (N - i)) := by
        unfold dc
        rw [← sg_mul _ (h.lt i)]
        exact sg_congr _ _ _ fun j _ => (mul_assoc _ _ _ (h.lt i) (h'.lt j) (hS _)).symm
      rw [e, h'.zero (N - i) (by omega) (by omega), mul_zr _ (h.lt i)]
    rw [sg_swap] at e1
    have e2 : sg (L' + 1) (fun j => sg (L + 1) fun i => mul (mul (C i) (C' j)) (S (N - i - j))) = sg (L' + 1) fun j => mul (C' j) (dc C L S (N - j)) := by
      apply sg_congr
      intro j _
      unfold dc
      rw [← sg_mul _ (h'.lt j)]
      apply sg_congr
      intro i _
      rw [mul_comm (C i) (C' j) (h.lt i) (h'.lt j), ← mul_assoc _ _ _ (h'.lt j) (h.lt i) (hS _), show N - i - j = N - j - i by omega]
    rw [e2, sg_first] at e1
    · rw [h'.one] at e1
      have hl : dc C L S (N - 0) < 128 := sg_lt _ _ fun i => mul_lt _ _ (h.lt i) (hS _)
      rw [one_mul _ hl] at e1
      exact e1
    · intro j h1 h2
      rw [h.zero (N - j) (by omega) (by omega), mul_zr _ (h'.lt j)]
theorem dc_more {C : Nat → Nat} {L : Nat} (S : Nat → Nat) (n : Nat) (hS : ∀ n, S n < 128) (hC : ∀ i, L < i → C i = 0) (L2 : Nat) (h : L ≤ L2) : dc C L2 S n = dc C L S n := by
  unfold dc
  rw [show L2 + 1 = L + 1 + (L2 - L) by omega]
  apply sg_more
  intro i hi
  rw [hC i (by omega), mul_zl _ (hS _)]
/-- A polynomial from which another one's multiple, moved up, is taken. -/
def upd (C B : Nat → Nat) (k m : Nat) : Nat → Nat := fun i => if m ≤ i then C i ^^^ mul k (B (i - m)) else C i
theorem upd_lt {C B : Nat → Nat} {k m : Nat} (hC : ∀ i, C i < 128) (hB : ∀ i, B i < 128) (hk : k < 128) (i : Nat) : upd C B k m i < 128 := by
  unfold upd; split
  · exact xor_lt _ _ (hC i) (mul_lt _ _ hk (hB _))
  · exact hC i
/-- The step at a recurrence that fails: by an earlier one that failed. -/
theorem gen_step {C B : Nat → Nat} {L Lb : Nat} {S : Nat → Nat} {N M k : Nat} (hS : ∀ n, S n < 128) (h : Gen C L S N) (hb : Gen B Lb S M) (hMN : M < N) (hk : k < 128)
    (hL : L + Lb = M + 1) (hk2 : mul k (dc B Lb S M) = dc C L S N) : Gen (upd C B k (N - M)) (max L (N + 1 - L)) S (N + 1) := by
  have hm : 1 ≤ N - M := by omega
  have hl1 : L ≤ max L (N + 1 - L) := Nat.le_max_left _ _
  have hl2 : N + 1 - L ≤ max L (N + 1 - L) := Nat.le_max_right _ _
  refine ⟨?_, upd_lt h.lt hb.lt hk, ?_, ?_⟩
  · unfold upd; rw [if_neg (by omega)]; exact h.one
  · intro i hi
    unfold upd
    split
    · rw [h.deg i (by omega), hb.deg (i - (N - M)) (by omega), mul_zr k hk]; rfl
    · exact h.deg i (by omega)
  · intro n h1 h2
    generalize hX : max L (N + 1 - L) = X at *
    have e : dc (upd C B k (N - M)) X S n = dc C X S n ^^^ mul k (sg (X + 1) fun i => if N - M ≤ i then mul (B (i - (N - M))) (S (n - i)) else 0) := by
      unfold dc
      rw [← sg_mul k hk, ← sg_xor]
      apply sg_congr
      intro i _
      unfold upd
      split
      · rw [xor_mul _ _ _ (h.lt i) (mul_lt _ _ hk (hb.lt _)) (hS _), ← mul_assoc _ _ _ hk (hb.lt _) (hS _)]
      · rw [mul_zr k hk, Nat.xor_zero]
    have e2 : (sg (X + 1) fun i => if N - M ≤ i then mul (B (i - (N - M))) (S (n - i)) else 0) = dc B Lb S (n - (N - M)) := by
      rw [show X + 1 = (N - M) + (X + 1 - (N - M)) by omega, sg_shift _ _ _ fun i hi => if_neg (by omega)]
      rw [← dc_more S (n - (N - M)) hS hb.deg (X - (N - M)) (by omega)]
      unfold dc
      rw [show X - (N - M) + 1 = X + 1 - (N - M) by omega]
      apply sg_congr
      intro i _
      rw [if_pos (by omega), show N - M + i - (N - M) = i by omega, show n - (N - M + i) = n - (N - M) - i by omega]
    rw [e, e2, dc_more S n hS h.deg X hl1]
    rcases Nat.lt_or_ge n N with h3 | h3
    · rw [h.zero n (by omega) h3, hb.zero (n - (N - M)) (by omega) (by omega), mul_zr k hk]; rfl
    · obtain rfl : n = N := by omega
      rw [show n - (n - M) = M by omega, hk2, Nat.xor_self]
/-- .. and at the first number that isn't 0. -/
theorem gen_first {S : Nat → Nat} {N : Nat} (C : Nat → Nat) (h1 : C 0 = 1) (h2 : ∀ i, C i < 128) (h3 : ∀ i, N + 1 < i → C i = 0) : Gen C (N + 1) S (N + 1) :=
  ⟨h1, h2, h3, fun n h4 h5 => by omega⟩
/-- A shortest recurrence stays so. -/
theorem least_step {C : Nat → Nat} {L : Nat} {S : Nat → Nat} {N : Nat} (hS : ∀ n, S n < 128) (h : Gen C L S N) (hm : ∀ C' L', Gen C' L' S N → L ≤ L') (hd : dc C L S N ≠ 0) :
    ∀ C' L', Gen C' L' S (N + 1) → max L (N + 1 - L) ≤ L' := by
  intro C' L' h'
  have h1 := hm C' L' (h'.less (by omega))
  have h2 := massey hS h h' hd
  omega

/-- Sums with weights that are 0 at powers enough. -/
theorem sum_zeroW (c : Nat → Nat) (xs : List Nat) (hxs : Els xs) (hc : ∀ a, c a < 128) : ∀ p d, Els p → (∀ i, d ≤ i → i < d + p.length → xsum (xs.map fun a => mul (c a) (pw a i)) = 0) → xsum (xs.map fun a => mul (c a) (mul (ev a p) (pw a d))) = 0
  | [], d, _, _ => xsum_zero _ _ fun a ha => by
    show mul (c a) (mul 0 (pw a d)) = 0
    rw [mul_zl _ (pw_lt a d (hxs a ha)), mul_zr _ (hc a)]
  | q :: p, d, h, hs => by
    rw [List.length_cons] at hs
    have ih := sum_zeroW c xs hxs hc p (d + 1) h.tail fun i h1 h2 => hs i (by omega) (by omega)
    have e : xsum (xs.map fun a => mul (c a) (mul (ev a (q :: p)) (pw a d))) = xsum (xs.map fun a => mul (c a) (mul (ev a p) (pw a (d + 1))) ^^^ mul q (mul (c a) (pw a d))) := by
      apply xsum_congr
      intro a ha
      have h0 := hxs a ha
      have h1 := ev_lt a h0 p h.tail
      have h2 := pw_lt a d h0
      have e1 : mul (ev a (q :: p)) (pw a d) = mul (ev a p) (pw a (d + 1)) ^^^ mul q (pw a d) := by
        show mul (mul (ev a p) a ^^^ q) (pw a d) = mul (ev a p) (mul (pw a d) a) ^^^ mul q (pw a d)
        rw [xor_mul _ _ _ (mul_lt _ _ h1 h0) h.head h2, ← mul_assoc _ _ _ h1 h0 h2, mul_comm a _ h0 h2]
      rw [e1, mul_xor, mul_assoc (c a) q _ (hc a) h.head h2, mul_comm (c a) q (hc a) h.head, ← mul_assoc q (c a) _ h.head (hc a) h2]
    rw [e, xsum_xor, ih, xsum_mul q h.head, hs d (by omega) (by omega), mul_zr q h.head]; rfl
/-- Weights of unlike elements, none of them 0, are 0 where their sums with as many powers are. -/
theorem weights (c : Nat → Nat) (hc : ∀ a, c a < 128) (xs : List Nat) (h : Els xs) (h0 : ∀ a ∈ xs, a ≠ 0) (hn : xs.Nodup) (d : Nat) (hs : ∀ i, d ≤ i → i < d + xs.length → xsum (xs.map fun a => mul (c a) (pw a i)) = 0) (a : Nat) (ha : a ∈ xs) : c a = 0 := by
  obtain ⟨l, m, rfl⟩ := List.append_of_mem ha
  have hperm : ∀ f : Nat → Nat, xsum ((l ++ a :: m).map f) = f a ^^^ xsum ((l ++ m).map f) := by
    intro f
    rw [List.map_append, List.map_cons, xsum_append, xsum_cons, List.map_append, xsum_append]
    rw [← Nat.xor_assoc, Nat.xor_comm (xsum (l.map f)) (f a), Nat.xor_assoc]
  have hels : Els (l ++ m) := fun b hb => h b (by
    rcases List.mem_append.1 hb with hb | hb
    · exact List.mem_append_left _ hb
    · exact List.mem_append_right _ (List.mem_cons_of_mem _ hb))
  have hnot : a ∉ l ++ m := by
    rw [List.nodup_append] at hn
    obtain ⟨_, h2, h3⟩ := hn
    rw [List.nodup_cons] at h2
    intro hc
    rcases List.mem_append.1 hc with hc | hc
    · exact h3 a hc a (List.mem_cons_self ..) rfl
    · exact h2.1 hc
  have hp := rp_els _ hels
  have hlen := rp_length (l ++ m)
  have haa := h a ha
  have e := sum_zeroW c (l ++ a :: m) h hc (rp (l ++ m)) d hp fun i h1 h2 => hs i h1 (by
    rw [hlen] at h2
    simp only [List.length_append, List.length_cons] at h2 ⊢
    omega)
  rw [hperm, xsum_zero (l ++ m) _ (fun b hb => by rw [rp_in b (hels b hb) _ hels hb, mul_zl _ (pw_lt b d (hels b hb)), mul_zr _ (hc b)]), Nat.xor_zero] at e
  have h1 := ev_lt a haa _ hp
  have hout := rp_out a haa _ hels hnot
  have hpw : pw a d ≠ 0 := by
    rw [pw_pos a d haa (h0 a ha)]
    have := E_bd ((Lg a * d) % 127) (Nat.mod_lt _ (by omega))
    omega
  by_cases hz : c a = 0
  · exact hz
  · exact absurd e (mul_ne _ _ (hc a) (mul_lt _ _ h1 (pw_lt a d haa)) hz (mul_ne _ _ h1 (pw_lt a d haa) hout hpw))
end Go.Proofs.YtmfnjjkbfabonaaDoor.M
