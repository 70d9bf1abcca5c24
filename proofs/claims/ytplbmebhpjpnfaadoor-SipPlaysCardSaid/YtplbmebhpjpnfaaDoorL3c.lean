/-
  The walk of the law SipPlays.
-/
import Derived.Test.YtplbmebhpjpnfaaDoorL3b
import Derived.Deep.QuietTactic
import Derived.BigQuiet
import Derived.Lib.QuietBelow
namespace Go.Proofs.YtplbmebhpjpnfaaDoor
open Go.RowKit
open M
attribute [local go_sem] un_add un_sub un_xor un_or un_nonneg un_beq un_bne

/-- A whole array is read in a statement that draws its order and changes nothing that was there. -/
theorem quiet_load_row {P : Program} {C : World → Prop} {a : Act} {o : Oper} {K : Act → Prop} (ty : TypeId) (x : Operand) (ho : o.op = .load ty x) (g : Nat) (hx : a.eval x = .pointer (some ⟨g, 0, none⟩)) (t : TypeId) (cs : Array Value) (fr : Nat × Nat) (d : TypeDesc)
    (hC : ∀ w, C w → w.heap[g]? = some (.cells cs t fr)) (hu : P.underlying ty = some d) (hd : (match d with | .struct _ | .array _ _ => true | _ => false) = true) (hi : (P.info? ty).map (·.size) = some cs.size)
    (hk : K (a.put o.dst (.agg cs))) : o.quiet P a C K :=
  ⟨_, fun w hw => by
    unfold Oper.quietAt execOp
    simp only [ho, hx, Instr.loadAt, Instr.sureAddr, Sem.run_bind, Sem.run_pure, Result.andThen_ok, run_loadVar_row w g t ty cs fr d (hC w hw) hu hd hi]
    exact ⟨rfl, rfl⟩, hk⟩

set_option maxHeartbeats 1000000 in
theorem plays_walk (k : List UInt8) (s : ByteArray) (w : World) (hk : k.length = 16) (hs : s.size ≤ 3000) (h : Signs w) :
    Calls Tryd.prog 3 #[.agg (byteCells k), .string s] w fun e w' => e = .returned (.bool true) ∧ Below w.heap.size w w' := by
  have d1 : decide ((3000 : Int) < (s.size : Int)) = false := by simp; omega
  have hb0 : Below w.heap.size w (w.alloc (.cells (byteCells k) 23)) := (Below.refl _ _).alloc (Nat.le_refl _) _
  have HG := Lib.hid (h.below hb0 h.lt)
  have HR0 : Hid (Row (w.alloc (.cells (byteCells k) 23)) w.heap.size 23 (byteCells k)) := heap_alloc_new _ _
  have HB0 := Lib.hid hb0
  clear h hb0
  go_enter Tryd.func3, Tryd.ntmps3
  go_wp2_with fail
  refine (awake_any _ HG.out).mono ?_
  rintro e w1 ⟨rfl, hb⟩
  have HR1 := Lib.hid (HR0.out.below hb HR0.out.lt)
  have HB1 := Lib.hid (HB0.out.trans (hb.mono HB0.out.size))
  have HG1 := Lib.hid (HG.out.below hb HG.out.lt)
  clear hb HR0 HB0 HG
  go_wp2_with fail
  refine (words_any s _ (by omega)).mono ?_
  rintro e w2 ⟨rfl, hr, hb⟩
  have HA2 : Hid (Row w2 w1.heap.size 27 (wordsV s)) := hr
  have HR2 := Lib.hid (HR1.out.below hb HR1.out.lt)
  have HB2 := Lib.hid (HB1.out.trans (hb.mono HB1.out.size))
  have HG2 := Lib.hid (HG1.out.below hb HG1.out.lt)
  clear hr hb HR1 HG1
  go_wp2_with fail
  refine (refWords_any s _ (by omega)).mono ?_
  rintro e w3 ⟨g, cap, rfl, hgl, hgt, hc, hb⟩
  have HA3 := Lib.hid (HA2.out.below hb HA2.out.lt)
  have HR3 := Lib.hid (HR2.out.below hb HR2.out.lt)
  have HB3 := Lib.hid (HB2.out.trans (hb.mono HB2.out.size))
  have HG3 := Lib.hid (HG2.out.below hb HG2.out.lt)
  have HC3 := Lib.hid (And.intro hgt hc)
  clear hgl hgt hc hb HR2 HG2 HA2
  go_wp2_with fail
  go_loopw [7] (fun i wr => ∃ j : Nat, j ≤ s.size / 8 + 1 ∧ i = .int .i64 j ∧ Below w3.heap.size w3 wr) (fun i _ => s.size / 8 + 1 - (intOf i).toNat)
  case atStart => exact ⟨0, Nat.zero_le _, rfl, Below.refl _ _⟩
  case round =>
    obtain ⟨j, hj, rfl, hb⟩ := hrel
    have HB := Lib.hid hb
    have ha := HA3.out.below hb HA3.out.lt
    by_cases hlt : j < s.size / 8 + 1
    · have c1 : wr.cell? ⟨w1.heap.size, j, none⟩ = some (.int .u64 (un (wordAt (bl s) j))) := (cell_of_row _ _ _ _ _ _ ha).trans (wordsV_get s j hlt)
      have c2 : wr.cell? ⟨g, j, none⟩ = some (.int .u64 (un (wordAt (bl s) j))) := (hb.cell (p := ⟨g, j, none⟩) HC3.out.1).trans (HC3.out.2 j hlt)
      clear hb ha
      go_wp2
      go_quiet (fail)
      go_wp2
      go_roundw
      case rel => exact ⟨j + 1, by omega, by go_num, Below.drewN HB.out _⟩
      case measure => simp [intOf]; omega
    · have HRR := Lib.hid (HR3.out.below hb HR3.out.lt)
      have HGG := Lib.hid (HG3.out.below hb HG3.out.lt)
      have HBB := Lib.hid (HB3.out.trans (hb.mono HB3.out.size))
      have HI := Lib.hid (key_info k hk)
      have hm : s.size ≤ maxLen := by unfold maxLen; omega
      clear hb ha HA3 HR3 HB3 HG3 HC3 HB1 HB2
      have hC : ∀ W : World, (∃ p : Regrown, W = Sort.grow (redrawn wr p.d) p.os) → W.heap[w.heap.size]? = some (.cells (byteCells k) 23 (0, 0)) := by
        rintro W ⟨p, rfl⟩
        exact HRR.out.below (below_regrown wr p.d p.os) HRR.out.lt
      have cS : ∀ d os, Calls Tryd.prog 12 #[.agg (byteCells k), .string s] (Sort.grow (redrawn wr d) os) fun e w'' => e = .returned (.int .u64 (un (sum k (bl s)))) ∧ ∃ p : Regrown, w'' = Sort.grow (redrawn wr p.d) p.os :=
        fun d os => Calls.regrown_of (sum_any k s _ hk hm (HGG.out.below (below_regrown wr d os) HGG.out.lt))
      have cR : ∀ d os, Calls Tryd.prog 13 #[.agg (byteCells k), .string s] (Sort.grow (redrawn wr d) os) fun e w'' => e = .returned (.int .u64 (un (sum k (bl s)))) ∧ ∃ p : Regrown, w'' = Sort.grow (redrawn wr p.d) p.os :=
        fun d os => Calls.regrown_of (refSum_any k s _ hk (by omega))
      have HCC := Lib.hid hC
      have HCS := Lib.hid cS
      have HCR := Lib.hid cR
      clear hC cS cR
      go_wp2_with fail
      refine wp_region_quiet_below (by kernel_rfl) (by kernel_rfl) ?_
      repeat (quiet_step (first | (go_at_call 12; exact HCS.out _ _) | (go_at_call 13; exact HCR.out _ _)))
      refine BigFrame.wpQuiet_want (by rfl) (fun K hK => ?_)
      refine quiet_load_row 23 (.tmp 2) rfl w.heap.size rfl 23 (byteCells k) (0, 0) _ HCC.out Tryd.underlying23 rfl HI.out ?_
      refine hK _ ?_
      clear hK K
      simp only [Act.put, List.setIfInBounds_toArray, List.set_cons_zero, List.set_cons_succ]
      repeat (quiet_step (first | (go_at_call 12; exact HCS.out _ _) | (go_at_call 13; exact HCR.out _ _)))
      refine BigFrame.wpQuiet_want (by rfl) (fun K hK => ?_)
      refine quiet_load_row 23 (.tmp 2) rfl w.heap.size rfl 23 (byteCells k) (0, 0) _ HCC.out Tryd.underlying23 rfl HI.out ?_
      refine hK _ ?_
      clear hK K
      simp only [Act.put, List.setIfInBounds_toArray, List.set_cons_zero, List.set_cons_succ]
      repeat (quiet_step (first | (go_at_call 12; exact HCS.out _ _) | (go_at_call 13; exact HCR.out _ _)))
      refine wpQuiet_nil ?_
      intro _ hw'
      obtain ⟨⟨dq, osq⟩, hw''⟩ := hw'
      subst hw''
      have HBQ := Lib.hid (HBB.out.trans ((below_regrown wr dq osq).mono HBB.out.size))
      generalize Sort.grow (redrawn wr dq) osq = wq at *
      go_wp2
      go_ret
      exact ⟨rfl, HBQ.out⟩

set_option maxHeartbeats 1000000 in
theorem plays_long (k : List UInt8) (s : ByteArray) (w : World) (hl : 3000 < s.size) (h : Signs w) :
    Calls Tryd.prog 3 #[.agg (byteCells k), .string s] w fun e w' => e = .returned (.bool true) ∧ Below w.heap.size w w' := by
  have d1 : decide ((3000 : Int) < (s.size : Int)) = true := by simp; omega
  have hb0 : Below w.heap.size w (w.alloc (.cells (byteCells k) 23)) := (Below.refl _ _).alloc (Nat.le_refl _) _
  have HG := Lib.hid (h.below hb0 h.lt)
  have HB0 := Lib.hid hb0
  clear h hb0
  go_enter Tryd.func3, Tryd.ntmps3
  go_wp2_with fail
  refine (awake_any _ HG.out).mono ?_
  rintro e w1 ⟨rfl, hb⟩
  have HB1 := Lib.hid (HB0.out.trans (hb.mono HB0.out.size))
  have HG1 := Lib.hid (HG.out.below hb HG.out.lt)
  clear hb HB0 HG
  go_wp2_with fail
  refine (awake_any _ HG1.out).mono ?_
  rintro e w2 ⟨rfl, hb⟩
  have HB2 := Lib.hid (HB1.out.trans (hb.mono HB1.out.size))
  clear hb
  go_wp2
  go_ret
  exact ⟨rfl, HB2.out⟩

theorem plays_law (k : List UInt8) (s : ByteArray) (w : World) (hk : k.length = 16) (h : Signs w) :
    Calls Tryd.prog 3 #[.agg (byteCells k), .string s] w fun e w' => e = .returned (.bool true) ∧ Below w.heap.size w w' := by
  by_cases h1 : s.size ≤ 3000
  · exact plays_walk k s w hk h1 h
  · exact plays_long k s w (by omega) h
end Go.Proofs.YtplbmebhpjpnfaaDoor
