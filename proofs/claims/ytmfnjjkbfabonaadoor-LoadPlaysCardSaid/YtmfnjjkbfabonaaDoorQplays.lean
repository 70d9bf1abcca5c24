/-
  The law LoadPlays holds: the check and the word of any payload are the document's; what is none is refused. Conditions: none but those of the row.
-/
import Derived.Test.YtmfnjjkbfabonaaDoorQ14
import Derived.Test.YtmfnjjkbfabonaaDoorTie
import Derived.Test.YtmfnjjkbfabonaaDoorCards
import Derived.SevenTiedAt

/- The walk of the law LoadPlays. Conditions: a key has 16 bytes; the signs lie as the program's text lays them. -/
namespace Go.Proofs.YtmfnjjkbfabonaaDoor
open Go.RowKit
open M
attribute [local go_sem] un_beq un_bne

set_option maxRecDepth 100000 in
set_option maxHeartbeats 2000000 in
theorem plays_no (k : List UInt8) (p : Int) (w : World) (hk : k.length = 16) (hp : ¬ (0 ≤ p ∧ p < 281474976710656)) (h : Signs w) :
    Calls Tryd.prog 5 #[.agg (byteCells k), .int .i64 p] w fun e w' => e = .returned (.bool true) ∧ Below w.heap.size w w' := by
  have hb0 : Below w.heap.size w (w.alloc (.cells (byteCells k) 23)) := (Below.refl _ _).alloc (Nat.le_refl _) _
  have HB_0 := Lib.hid hb0
  have HG_0 := Lib.hid (h.below hb0 h.lt)
  have HK_0 : Hid (Row (w.alloc (.cells (byteCells k) 23)) w.heap.size 23 (byteCells k)) := heap_alloc_new _ _
  have HI := Lib.hid (key_info k hk)
  have HA := Lib.hid fun W (hs : Signs W) => awake_any W hs
  have hz := word_zero
  clear h hb0
  have HY := Lib.hid fun W => lay_no k p W hp
  have HC := Lib.hid fun W => check_no k p W hp
  have HM := Lib.hid (may_int p)
  rw [decide_eq_false hp] at HM
  have HS := Lib.hid fun _ : Unit => word_size w0 w0_length
  have heq := word_eq w0 w0 w0_length w0_length
  rw [beq_self_eq_true] at heq
  clear hp
  go_enter Tryd.func5, Tryd.ntmps5
  go_wp2_with (first
      | (refine wpList_load_row rfl 23 (.tmp 2) rfl w.heap.size rfl 23 (byteCells k) (0, 0) _ HK_0.out Tryd.underlying23 rfl HI.out ?_))
  refine (HA.out _ HG_0.out).mono ?_
  rintro e w1 ⟨rfl, hb⟩
  have R2_1 := Lib.hid (HK_0.out.box hb)
  have HG_1 := Lib.hid (HG_0.out.below hb HG_0.out.lt)
  have HB_1 := Lib.hid (HB_0.out.trans (hb.mono HB_0.out.size))
  clear hb HK_0 HG_0 HB_0
  go_wp2_with (first
      | (refine wpList_load_row rfl 23 (.tmp 2) rfl w.heap.size rfl 23 (byteCells k) (0, 0) _ R2_1.out Tryd.underlying23 rfl HI.out ?_))
  refine (HY.out _).mono ?_
  rintro e w2 ⟨rfl, hb⟩
  have R2_2 := Lib.hid (R2_1.out.box hb)
  have HG_2 := Lib.hid (HG_1.out.below hb HG_1.out.lt)
  have HB_2 := Lib.hid (HB_1.out.trans (hb.mono HB_1.out.size))
  clear hb R2_1 HG_1 HB_1
  have H0 : Hid (Row (w2.alloc (.cells (boolCells w0) 40)) w2.heap.size 40 (boolCells w0)) := heap_alloc_new _ _
  go_upto_region 4 with (first
      | (refine wpList_store_row rfl 40 (.tmp 5) (.tmp 13) rfl w2.heap.size (boolCells w0) rfl rfl 40 (boolCells w0) H0.out (HS.out ()) rfl (boolCells_one w0) ?_)
      | (refine wpList_load_row rfl 23 (.tmp 2) rfl w.heap.size rfl 23 (byteCells k) (0, 0) _ R2_2.out Tryd.underlying23 rfl HI.out ?_))
  have hgs := HB_2.out.size
  have hbs : Below w2.heap.size w2 ((w2.alloc (.cells (boolCells w0) 40)).setRow w2.heap.size (boolCells w0)) := below_setRow ((Below.refl _ _).alloc (Nat.le_refl _) _) (Nat.le_refl _) _
  have hne2_5 : w.heap.size < w2.heap.size := R2_2.out.lt
  have R2_3 := Lib.hid (R2_2.out.box hbs)
  have HG_3 := Lib.hid (HG_2.out.below hbs HG_2.out.lt)
  have R5_3 : Hid (Row ((w2.alloc (.cells (boolCells w0) 40)).setRow w2.heap.size (boolCells w0)) w2.heap.size 40 (boolCells w0)) := Row.setRow H0.out _
  have HB_3 : Hid (Below w.heap.size w ((w2.alloc (.cells (boolCells w0) 40)).setRow w2.heap.size (boolCells w0))) := Lib.hid (HB_2.out.trans (hbs.mono hgs))
  have hgb5 : w.heap.size ≤ w2.heap.size := hgs
  clear H0 R2_2 HG_2 HB_2 hbs hgs
  generalize ((w2.alloc (.cells (boolCells w0) 40)).setRow w2.heap.size (boolCells w0)) = w3 at *
  generalize w2.heap.size = g5 at *
  go_wp2_with (first
      | (refine wpList_load_row rfl 23 (.tmp 2) rfl w.heap.size rfl 23 (byteCells k) (0, 0) _ R2_3.out Tryd.underlying23 rfl HI.out ?_)
      | (refine wpList_load_row rfl 40 (.tmp 5) rfl g5 rfl 40 (boolCells w0) (0, 0) _ R5_3.out Tryd.underlying40 rfl (HS.out ()) ?_))
  refine (HM.out _).mono ?_
  rintro e w' ⟨rfl, rfl⟩
  go_wp2_with (first
      | (refine wpList_load_row rfl 23 (.tmp 2) rfl w.heap.size rfl 23 (byteCells k) (0, 0) _ R2_3.out Tryd.underlying23 rfl HI.out ?_)
      | (refine wpList_load_row rfl 40 (.tmp 5) rfl g5 rfl 40 (boolCells w0) (0, 0) _ R5_3.out Tryd.underlying40 rfl (HS.out ()) ?_)
      | (refine wpList_load_guard (by rfl) 40 (.tmp 5) rfl g5 rfl 40 (boolCells w0) (0, 0) _ R5_3.out Tryd.underlying40 rfl (HS.out ()) ?_)
      | (refine wpList_load_guard (by rfl) 23 (.tmp 2) rfl w.heap.size rfl 23 (byteCells k) (0, 0) _ R2_3.out Tryd.underlying23 rfl HI.out ?_))
  refine (HC.out _).mono ?_
  rintro e w4 ⟨rfl, hb⟩
  have R2_4 := Lib.hid (R2_3.out.box hb)
  have R5_4 := Lib.hid (R5_3.out.box hb)
  have HG_4 := Lib.hid (HG_3.out.below hb HG_3.out.lt)
  have HB_4 := Lib.hid (HB_3.out.trans (hb.mono HB_3.out.size))
  clear hb R2_3 R5_3 HG_3 HB_3
  go_wp2
  go_ret
  exact ⟨rfl, HB_4.out⟩
set_option maxRecDepth 100000 in
set_option maxHeartbeats 2000000 in
theorem plays_ok (k : List UInt8) (p : Nat) (w : World) (hk : k.length = 16) (hp : p < 281474976710656) (h : Signs w) :
    Calls Tryd.prog 5 #[.agg (byteCells k), .int .i64 p] w fun e w' => e = .returned (.bool true) ∧ Below w.heap.size w w' := by
  have hb0 : Below w.heap.size w (w.alloc (.cells (byteCells k) 23)) := (Below.refl _ _).alloc (Nat.le_refl _) _
  have HB_0 := Lib.hid hb0
  have HG_0 := Lib.hid (h.below hb0 h.lt)
  have HK_0 : Hid (Row (w.alloc (.cells (byteCells k) 23)) w.heap.size 23 (byteCells k)) := heap_alloc_new _ _
  have HI := Lib.hid (key_info k hk)
  have HA := Lib.hid fun W (hs : Signs W) => awake_any W hs
  have hz := word_zero
  clear h hb0
  have HY := Lib.hid fun W (hs : Signs W) => lay_ok k p W hk hp hs
  have HC := Lib.hid fun W (hs : Signs W) => check_ok k p W hk hp hs
  have HCR := Lib.hid fun W => check_ref k p W hk hp
  have HWR := Lib.hid fun W => word_ref k p W hk hp
  have HM := Lib.hid (may_int p)
  rw [decide_eq_true (by omega)] at HM
  have HL := Lib.hid (cwd_length (num7 k p))
  generalize cwd (num7 k p) = c at *
  generalize chk k p = q at *
  have HS := Lib.hid fun _ : Unit => word_size c HL.out
  have HSS : Hid (Unit → (boolCells w0).size = (boolCells c).size) := by intro _; rw [boolCells_size, boolCells_size, w0_length, HL.out]
  have heq := word_eq c c HL.out HL.out
  rw [beq_self_eq_true] at heq
  clear hp
  go_enter Tryd.func5, Tryd.ntmps5
  go_wp2_with (first
      | (refine wpList_load_row rfl 23 (.tmp 2) rfl w.heap.size rfl 23 (byteCells k) (0, 0) _ HK_0.out Tryd.underlying23 rfl HI.out ?_))
  refine (HA.out _ HG_0.out).mono ?_
  rintro e w1 ⟨rfl, hb⟩
  have R2_1 := Lib.hid (HK_0.out.box hb)
  have HG_1 := Lib.hid (HG_0.out.below hb HG_0.out.lt)
  have HB_1 := Lib.hid (HB_0.out.trans (hb.mono HB_0.out.size))
  clear hb HK_0 HG_0 HB_0
  go_wp2_with (first
      | (refine wpList_load_row rfl 23 (.tmp 2) rfl w.heap.size rfl 23 (byteCells k) (0, 0) _ R2_1.out Tryd.underlying23 rfl HI.out ?_))
  refine (HY.out _ HG_1.out).mono ?_
  rintro e w2 ⟨rfl, hb⟩
  have R2_2 := Lib.hid (R2_1.out.box hb)
  have HG_2 := Lib.hid (HG_1.out.below hb HG_1.out.lt)
  have HB_2 := Lib.hid (HB_1.out.trans (hb.mono HB_1.out.size))
  clear hb R2_1 HG_1 HB_1
  have H0 : Hid (Row (w2.alloc (.cells (boolCells w0) 40)) w2.heap.size 40 (boolCells w0)) := heap_alloc_new _ _
  go_upto_region 4 with (first
      | (refine wpList_store_row rfl 40 (.tmp 5) (.tmp 13) rfl w2.heap.size (boolCells c) rfl rfl 40 (boolCells w0) H0.out (HS.out ()) (HSS.out ()) (boolCells_one c) ?_)
      | (refine wpList_load_row rfl 23 (.tmp 2) rfl w.heap.size rfl 23 (byteCells k) (0, 0) _ R2_2.out Tryd.underlying23 rfl HI.out ?_))
  have hgs := HB_2.out.size
  have hbs : Below w2.heap.size w2 ((w2.alloc (.cells (boolCells w0) 40)).setRow w2.heap.size (boolCells c)) := below_setRow ((Below.refl _ _).alloc (Nat.le_refl _) _) (Nat.le_refl _) _
  have hne2_5 : w.heap.size < w2.heap.size := R2_2.out.lt
  have R2_3 := Lib.hid (R2_2.out.box hbs)
  have HG_3 := Lib.hid (HG_2.out.below hbs HG_2.out.lt)
  have R5_3 : Hid (Row ((w2.alloc (.cells (boolCells w0) 40)).setRow w2.heap.size (boolCells c)) w2.heap.size 40 (boolCells c)) := Row.setRow H0.out _
  have HB_3 : Hid (Below w.heap.size w ((w2.alloc (.cells (boolCells w0) 40)).setRow w2.heap.size (boolCells c))) := Lib.hid (HB_2.out.trans (hbs.mono hgs))
  have hgb5 : w.heap.size ≤ w2.heap.size := hgs
  clear H0 R2_2 HG_2 HB_2 hbs hgs
  generalize ((w2.alloc (.cells (boolCells w0) 40)).setRow w2.heap.size (boolCells c)) = w3 at *
  generalize w2.heap.size = g5 at *
  go_wp2_with (first
      | (refine wpList_load_row rfl 23 (.tmp 2) rfl w.heap.size rfl 23 (byteCells k) (0, 0) _ R2_3.out Tryd.underlying23 rfl HI.out ?_)
      | (refine wpList_load_row rfl 40 (.tmp 5) rfl g5 rfl 40 (boolCells c) (0, 0) _ R5_3.out Tryd.underlying40 rfl (HS.out ()) ?_))
  refine (HM.out _).mono ?_
  rintro e w' ⟨rfl, rfl⟩
  have HC5 : Hid (∀ W : World, (∃ p : Regrown, W = Sort.grow (redrawn w3 p.d) p.os) → W.heap[g5]? = some (.cells (boolCells c) 40 (0, 0))) := by
    rintro W ⟨p, rfl⟩
    exact R5_3.out.below (below_regrown w3 p.d p.os) R5_3.out.lt
  have HC2 : Hid (∀ W : World, (∃ p : Regrown, W = Sort.grow (redrawn w3 p.d) p.os) → W.heap[w.heap.size]? = some (.cells (byteCells k) 23 (0, 0))) := by
    rintro W ⟨p, rfl⟩
    exact R2_3.out.below (below_regrown w3 p.d p.os) R2_3.out.lt
  have KC0 : Hid (∀ d os, Calls Tryd.prog 9 #[.agg (byteCells k), .int .i64 p] (Sort.grow (redrawn w3 d) os) fun e w'' => e = .returned (.agg (boolCells c)) ∧ ∃ p : Regrown, w'' = Sort.grow (redrawn w3 p.d) p.os) :=
    fun d os => Calls.regrown_of (HWR.out _)
  have KC1 : Hid (∀ d os, Calls Tryd.prog 18 #[.agg (byteCells k), .int .i64 p] (Sort.grow (redrawn w3 d) os) fun e w'' => e = .returned (.int .i64 (q : Nat)) ∧ ∃ p : Regrown, w'' = Sort.grow (redrawn w3 p.d) p.os) :=
    fun d os => Calls.regrown_of (HC.out _ (HG_3.out.below (below_regrown w3 d os) HG_3.out.lt))
  have KC2 : Hid (∀ d os, Calls Tryd.prog 15 #[.agg (byteCells k), .int .i64 p] (Sort.grow (redrawn w3 d) os) fun e w'' => e = .returned (.int .i64 (q : Nat)) ∧ ∃ p : Regrown, w'' = Sort.grow (redrawn w3 p.d) p.os) :=
    fun d os => Calls.regrown_of (HCR.out _)
  go_wp2_with fail
  refine wp_region_quiet_below (by kernel_rfl) (by kernel_rfl) ?_
  repeat (first
    | (refine BigFrame.wpQuiet_want (by rfl) (fun K hK => ?_); refine quiet_load_row 40 (.tmp 5) rfl g5 rfl 40 (boolCells c) (0, 0) _ HC5.out Tryd.underlying40 rfl (HS.out ()) ?_; refine hK _ ?_; clear hK K; simp only [Act.put, List.setIfInBounds_toArray, List.set_cons_zero, List.set_cons_succ])
    | (refine BigFrame.wpQuiet_want (by rfl) (fun K hK => ?_); refine quiet_load_row 23 (.tmp 2) rfl w.heap.size rfl 23 (byteCells k) (0, 0) _ HC2.out Tryd.underlying23 rfl HI.out ?_; refine hK _ ?_; clear hK K; simp only [Act.put, List.setIfInBounds_toArray, List.set_cons_zero, List.set_cons_succ])
    | quiet_step (first | (go_at_call 9; exact KC0.out _ _) | (go_at_call 18; exact KC1.out _ _) | (go_at_call 15; exact KC2.out _ _)))
  refine wpQuiet_nil ?_
  intro _ hw'
  obtain ⟨⟨dq, osq⟩, hw''⟩ := hw'
  subst hw''
  have hb := below_regrown w3 dq osq
  have R2_4 := Lib.hid (R2_3.out.box hb)
  have R5_4 := Lib.hid (R5_3.out.box hb)
  have HG_4 := Lib.hid (HG_3.out.below hb HG_3.out.lt)
  have HB_4 := Lib.hid (HB_3.out.trans (hb.mono HB_3.out.size))
  clear hb R2_3 R5_3 HG_3 HB_3
  clear HC5 HC2 KC0 KC1 KC2
  generalize Sort.grow (redrawn w3 dq) osq = w4 at *
  go_wp2
  go_ret
  exact ⟨rfl, HB_4.out⟩
theorem plays_any (k : List UInt8) (p : Int) (w : World) (hk : k.length = 16) (h : Signs w) :
    Calls Tryd.prog 5 #[.agg (byteCells k), .int .i64 p] w fun e w' => e = .returned (.bool true) ∧ Below w.heap.size w w' := by
  by_cases hp : 0 ≤ p ∧ p < 281474976710656
  · obtain ⟨n, rfl⟩ : ∃ n : Nat, p = n := ⟨p.toNat, by omega⟩
    exact plays_ok k n w hk (by omega) h
  · exact plays_no k p w hk hp h
end Go.Proofs.YtmfnjjkbfabonaaDoor

/- The law LoadPlays holds: the check and the word of any payload are the document's; what is none is refused. Conditions: none but those of the row. -/
namespace Go.Proofs.YtmfnjjkbfabonaaDoor.loadPlays
open Go.ChangeShapes Go.WideShapes Go.ChangeAt Go.RowKit
open Go.ChangeMaps (open_string shut_string)
open M

set_option maxRecDepth 100000 in
theorem lifted (os : Os) (started : os.Started) (H : Type) (enc : TypeId × Value → H) :
    ReturnsInHanded {} Tryd.checked os 5 .any (fun w args => (Rows.loadPlaysSpec.pre enc Tryd.prog Tryd.f5 [] false w args ∧ laidMetH Tryd.prog laidL w) ∧ sizedMet enc Tryd.prog Tryd.f5 (OpenSpec.ofChange Rows.loadPlaysSpec) false w args)
      (Rows.loadPlaysSpec.post enc Tryd.prog Tryd.f5 false true false false) := by
  refine returnsInHanded_of_change_and (C := Tryd.checked) (X := fun w _ => laidMetH Tryd.prog laidL w) (fun _ _ _ hh h => h.of_heap hh) own started (by kernel_rfl) Tryd.func5
    (ChangeSpec.witness_shaped (enc := enc) (C := Tryd.checked) (os := os) (X := fun w _ => laidMetH Tryd.prog laidL w) false (World.doorLaid Tryd.prog 400 os) #[.agg (Array.replicate 16 (.int .u8 0)), .int .i64 0] 8 rfl (World.shaped_of_RefB (by kernel_rfl) (by kernel_rfl)) (by kernel_rfl) (by kernel_rfl) (by kernel_rfl) (door_met os _)) ?_
  intro W base args ds gs before hval0 hW _ _ hL _
  have hval : ∀ (j : Nat) t v, Tryd.f5.params[j]? = some t → args[j]? = some v → Value.okWide Tryd.prog W .any base t v := hval0
  have hW' := hW
  obtain ⟨p, q, hA0, hV, rfl, hfz, hnd⟩ := hW
  have hA : DataW.TrodAll enc Tryd.prog W 0 (fun _ => true) true Tryd.f5.params.toList args.toList ds p := hA0
  rw [Tryd.params5] at hA hval
  obtain ⟨v0, vs0, d0, ds0, p0, q0, hargs, rfl, rfl, h0, r0⟩ := trodAll_cons hA
  obtain ⟨v1, vs1, d1, ds1, p1, q1, rfl, rfl, rfl, h1, r1⟩ := trodAll_cons r0
  obtain ⟨rfl, rfl, rfl⟩ := trodAll_nil r1
  obtain rfl : args = #[v0, v1] := by cases args; simp_all
  obtain ⟨rfl, rfl⟩ := trodVars_none hV
  obtain ⟨a0, k0, rfl, rfl, rfl, w0⟩ := open_key (hval 0 23 v0 rfl rfl) h0
  obtain ⟨n1, rfl, rfl, rfl, w1⟩ := open_int Tryd.underlying3 (hval 1 3 v1 rfl rfl) h1
  have hS := signs_of hL
  clear hA0 hval0
  refine (plays_any a0 n1 W k0 hS).mono fun e W' ⟨he, bel⟩ => ?_
  subst he
  exact ⟨_, rfl, _, _, _, [], _, [], hW', trodAll_mk1 (shut_bool Tryd.underlying4 _), (trodAll_cons_mk (w0 _ _ _ _) (trodAll_cons_mk (shut_int Tryd.underlying3 w1) trodAll_mk0)), rfl, bel.frame _, fun h => by cases h⟩

theorem row_holds : Rows.LoadPlaysSaid :=
  OpenClaim.holds_of_wide 5 Tryd.f5 rfl rfl rfl rfl rfl rfl rfl ⟨rfl, rfl, rfl, rfl, rfl⟩ rfl rfl rfl rfl rfl (by kernel_rfl) Tryd.func5 (by kernel_rfl)
    (of_decide_eq_true (by kernel_rfl)) (by unfold Func.isWrapper; first | (rw [if_pos (by decide +kernel)]; kernel_rfl) | (rw [if_neg (by decide +kernel)]; exact ⟨rfl, rfl⟩))
    (fun os started H enc _ => lifted os started H enc)

theorem proved : Rows.LoadPlaysCardSaid :=
  Claim7.holds_tied_plain_at .later [] [.data] true Rows.loadPlaysCard.stood.harness false
    row_holds (fun _ h => by cases h) (by kernel_rfl) (fun _ h => by cases h) loadPlays_row_tie rfl ⟨rfl, rfl⟩ (by kernel_rfl) rfl
    (fun f fn hf hfn => by
      obtain rfl : f = 5 := Option.some.inj ((show Tryd.prog.funcNamed Rows.loadPlaysRow.func = some 5 by kernel_rfl).symm.trans hf) |>.symm
      obtain rfl : fn = Tryd.f5 := (Option.some.inj (Tryd.func5.symm.trans hfn)).symm
      exact ⟨by kernel_rfl, fun j t ht => by
        rw [Tryd.params5] at ht
        have hm : t ∈ [23, 3] := by simpa using Array.mem_of_getElem? ht
        have hall : ([23, 3].all fun u => !Tryd.prog.wantsStandIn u) = true := by kernel_rfl
        exact (show Tryd.prog.wantsStandIn t = false by simpa using List.all_eq_true.1 hall t hm)⟩)
    (by kernel_rfl)
#print axioms proved
end Go.Proofs.YtmfnjjkbfabonaaDoor.loadPlays
