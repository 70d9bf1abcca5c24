/-
  The walk of the law BchPlays. No conditions.
-/
import Derived.Test.YtddmpfoafjoofaaIa
import Derived.Test.YtddmpfoafjoofaaJc
namespace Go.Proofs.Ytddmpfoafjoofaa
open Go.RowKit
open M
attribute [local go_sem] un_beq un_bne un_xor

set_option maxRecDepth 100000 in
set_option maxHeartbeats 1000000 in
theorem plays_law (x : BitVec 64) (w : World) :
    Calls Try.prog 6 #[.int .u64 (un x)] w fun e w' => e = .returned (.bool true) ∧ Below w.heap.size w w' := by
  have HER := Lib.hid fun _ : Unit => encode_ref x
  have hla := cwd_length x
  have HEA := Lib.hid (encode_any x)
  obtain ⟨a, ha⟩ : ∃ l, cwd x = l := ⟨_, rfl⟩
  rw [ha] at hla HEA
  have HXA := Lib.hid fun _ : Unit => ha
  have HLA := Lib.hid hla
  have HSA := Lib.hid fun _ : Unit => word_size a hla
  have HS0 : Hid (Unit → (boolCells w0).size = (boolCells a).size) := by intro _; rw [boolCells_size, boolCells_size, w0_length, hla]
  clear ha hla
  rw [HXA.out ()] at HER
  have HSR := Lib.hid fun _ : Unit => arr_size a HLA.out
  go_enter Try.func6, Try.ntmps6
  go_wp2_with fail
  refine (awake_any _).mono ?_
  rintro e w1 ⟨rfl, hb⟩
  have HB1 := Lib.hid hb
  clear hb
  go_wp2_with fail
  refine (gen_any _).mono ?_
  rintro e w2 ⟨g, hg, rfl, hr, hb⟩
  have HB2 := Lib.hid (HB1.out.trans (hb.mono HB1.out.size))
  have HG2 := Lib.hid hr
  clear hr hb HB1 hg
  go_wp2_with fail
  refine (gen_ref _).mono ?_
  rintro e w3 ⟨h, hh, rfl, hr, hb⟩
  have HB3 := Lib.hid (HB2.out.trans (hb.mono HB2.out.size))
  have HG3 := Lib.hid (HG2.out.box hb)
  have HH3 := Lib.hid hr
  clear hr hb HB2 HG2 hh
  go_wp2
  go_loopw [5] (fun i wr => ∃ k : Nat, k ≤ 64 ∧ i = .int .i64 k ∧ Row wr g 3 (natCells genT) ∧ Row wr h 3 (natCells genT) ∧ Below w.heap.size w wr) (fun i _ => 64 - (intOf i).toNat)
  case atStart => exact ⟨0, by omega, rfl, HG3.out, HH3.out, HB3.out⟩
  case round =>
    clear HG3 HH3 HB3
    obtain ⟨k, hk, rfl, h1, h2, h3⟩ := hrel
    have HG3 := Lib.hid h1
    have HH3 := Lib.hid h2
    have HB3 := Lib.hid h3
    clear h1 h2 h3
    by_cases hlt : k < 64
    · have c0 := nat_at HG3.out k (by rw [gen_length]; exact hlt)
      have c1 := nat_at HH3.out k (by rw [gen_length]; exact hlt)
      have hb := gen_bits k
      generalize genT.getD k 0 = n at *
      rcases Nat.le_one_iff_eq_zero_or_eq_one.1 hb with rfl | rfl
      all_goals
        clear hb
        go_wp2
        go_quiet (fail)
        go_wp2
        go_roundw
        case rel => exact ⟨k + 1, by omega, by go_num, HG3.out.drewN _, HH3.out.drewN _, Below.drewN HB3.out _⟩
        case measure => simp [intOf] <;> omega
    · obtain rfl : k = 64 := by omega
      clear hlt hk
      go_wp2_with fail
      refine (HER.out () _).mono ?_
      rintro e w4 ⟨rfl, hb⟩
      have HB4 := Lib.hid (HB3.out.trans (hb.mono HB3.out.size))
      clear hb HB3 HG3 HH3
      have hz := arr_zero
      have H0 : Hid (Row (w4.alloc (.cells (boolCells w0) 24)) w4.heap.size 24 (boolCells w0)) := heap_alloc_new _ _
      have HA0 : Hid (Row ((w4.alloc (.cells (boolCells w0) 24)).setRow w4.heap.size (boolCells a)) w4.heap.size 24 (boolCells a)) := Row.setRow H0.out _
      have HB5 : Hid (Below w.heap.size w ((w4.alloc (.cells (boolCells w0) 24)).setRow w4.heap.size (boolCells a))) := below_setRow (HB4.out.alloc HB4.out.size _) HB4.out.size _
      go_wp2_with (first
        | (refine wpList_store_row rfl 24 (.tmp 6) (.tmp 48) rfl w4.heap.size (boolCells a) rfl rfl 24 (boolCells w0) H0.out (HSR.out ()) (HS0.out ()) (boolCells_one a) ?_))
      clear H0 hz HB4 HER
      generalize (w4.alloc (.cells (boolCells w0) 24)).setRow w4.heap.size (boolCells a) = w5 at *
      generalize w4.heap.size = ga at *
      have hEN := HEA.out
      have heq := word_eq a a HLA.out HLA.out
      rw [beq_self_eq_true] at heq
      have HCA : Hid (∀ W : World, (∃ p : Regrown, W = Sort.grow (redrawn w5 p.d) p.os) → W.heap[ga]? = some (.cells (boolCells a) 24 (0, 0))) := by
        rintro W ⟨p, rfl⟩
        exact HA0.out.below (below_regrown w5 p.d p.os) HA0.out.lt
      have KEN : Hid (∀ d os, Calls Try.prog 10 #[.int .u64 (un x)] (Sort.grow (redrawn w5 d) os) fun e w'' => e = .returned (.agg (boolCells a)) ∧ ∃ p : Regrown, w'' = Sort.grow (redrawn w5 p.d) p.os) :=
        fun d os => Calls.regrown_of (hEN _)
      refine wp_region_quiet_below (by kernel_rfl) (by kernel_rfl) ?_
      quiet_step (fail)
      quiet_step (fail)
      quiet_step (fail)
      quiet_step (fail)
      quiet_step (fail)
      quiet_step (fail)
      quiet_step (fail)
      quiet_step (fail)
      quiet_step (fail)
      quiet_step (fail)
      quiet_step (first | (go_at_call 10; exact KEN.out _ _))
      refine BigFrame.wpQuiet_want (by rfl) (fun K hK => ?_)
      refine quiet_load_row 24 (.tmp 6) rfl ga rfl 24 (boolCells a) (0, 0) _ HCA.out Try.underlying24 rfl (HSR.out ()) ?_
      refine hK _ ?_
      clear hK K
      simp only [Act.put, List.setIfInBounds_toArray, List.set_cons_zero, List.set_cons_succ]
      repeat (quiet_step (fail))
      refine wpQuiet_nil ?_
      intro _ hw'
      obtain ⟨⟨dq, osq⟩, hw''⟩ := hw'
      subst hw''
      have HBQ := Lib.hid (HB5.out.trans ((below_regrown w5 dq osq).mono HB5.out.size))
      generalize Sort.grow (redrawn w5 dq) osq = wq at *
      go_wp2
      go_ret
      exact ⟨rfl, HBQ.out⟩
end Go.Proofs.Ytddmpfoafjoofaa
