/-
  The walk of the law BchSyndromes. Condition: a word has 127 bits.
-/
import Derived.Test.YtddmpfoafjoofaaIa
import Derived.Test.YtddmpfoafjoofaaHt
import Derived.Test.YtddmpfoafjoofaaIw
namespace Go.Proofs.Ytddmpfoafjoofaa
open Go.RowKit
open M
attribute [local go_sem] un_beq un_bne un_xor

theorem pow_E (k : Nat) (w : World) (hk : k < 20) :
    Calls Try.prog 19 #[.int .i64 2, .int .i64 ((k : Int) + 1)] w fun e w' => e = .returned (.int .i64 (E (k + 1) : Nat)) ∧ w = w' := by
  have := pow_ref 2 (k + 1) w ⟨by omega, by omega⟩ (by omega)
  rw [show el 2 = 2 by decide, pw_two (k + 1) (by omega)] at this
  rwa [show ((k + 1 : Nat) : Int) = (k : Int) + 1 by omega] at this
set_option maxRecDepth 100000 in
set_option maxHeartbeats 1000000 in
theorem syn_law (l : List Bool) (w : World) (hl : l.length = 127) :
    Calls Try.prog 7 #[.agg (boolCells l)] w fun e w' => e = .returned (.bool true) ∧ Below w.heap.size w w' := by
  have HL := Lib.hid hl
  have HSA := Lib.hid fun _ : Unit => arr_size l hl
  have HX0 : Hid (Row (w.alloc (.cells (boolCells l) 24)) w.heap.size 24 (boolCells l)) := heap_alloc_new _ _
  have HB0 : Hid (Below w.heap.size w (w.alloc (.cells (boolCells l) 24))) := (Below.refl _ _).alloc (Nat.le_refl _) _
  clear hl
  go_enter Try.func7, Try.ntmps7
  go_wp2_with fail
  refine (awake_any _).mono ?_
  rintro e w1 ⟨rfl, hb⟩
  have HX1 := Lib.hid (HX0.out.box hb)
  have HB1 := Lib.hid (HB0.out.trans (hb.mono HB0.out.size))
  clear hb HX0 HB0
  go_wp2_with (first
    | (refine wpList_load_row rfl 24 (.tmp 1) rfl w.heap.size rfl 24 (boolCells l) (0, 0) _ HX1.out Try.underlying24 rfl (HSA.out ()) ?_))
  refine (syn_any l _ HL.out).mono ?_
  rintro e w2 ⟨g, hg, rfl, hr, hb⟩
  have HX2 := Lib.hid (HX1.out.box hb)
  have HB2 := Lib.hid (HB1.out.trans (hb.mono HB1.out.size))
  have HR2 := Lib.hid hr
  have hxg : w.heap.size < g := Nat.lt_of_lt_of_le HX1.out.lt hg
  clear hb hr HX1 HB1 hg
  go_wp2
  go_loopw [4, 5] (fun z i wr => ∃ k : Nat, k ≤ 20 ∧ i = .int .i64 k ∧ z = .bool (cwN l k) ∧ Row wr g 3 (natCells (syn l)) ∧ Row wr w.heap.size 24 (boolCells l) ∧ Below w.heap.size w wr) (fun _ i _ => 20 - (intOf i).toNat)
  case atStart => exact ⟨0, by omega, rfl, rfl, HR2.out, HX2.out, HB2.out⟩
  case round =>
    clear HR2 HX2 HB2
    obtain ⟨k, hk, rfl, rfl, h1, h2, h3⟩ := hrel
    have HR := Lib.hid h1
    have HX := Lib.hid h2
    have HB := Lib.hid h3
    clear h1 h2 h3
    by_cases hlt : k < 20
    · have c0 := nat_at HR.out k (by rw [syn_length]; exact hlt)
      rw [syn_getD l k hlt] at c0
      have HE := E_bd (k + 1) (by omega)
      have HS := Lib.hid fun _ : Unit => (cwN_succ l k)
      have hAT := fun W => at_ref l (E (k + 1)) W HL.out HE.2
      have hPW := fun W => pow_E k W hlt
      obtain ⟨x, hx⟩ : ∃ x, ev (E (k + 1)) (wp l) = x := ⟨_, rfl⟩
      rw [hx] at c0 HS hAT
      clear hx
      generalize E (k + 1) = p at *
      generalize cwN l k = z at *
      have hcc : ∀ d os, (Sort.grow (redrawn wr d) os).cell? ⟨g, k, none⟩ = some (.int .i64 (x : Nat)) := fun d os => ((below_regrown wr d os).cell (p := ⟨g, k, none⟩) HR.out.lt).trans c0
      have HCX : Hid (∀ W : World, (∃ p : Regrown, W = Sort.grow (redrawn wr p.d) p.os) → W.heap[w.heap.size]? = some (.cells (boolCells l) 24 (0, 0))) := by
        rintro W ⟨p, rfl⟩
        exact HX.out.below (below_regrown wr p.d p.os) HX.out.lt
      have KPW : Hid (∀ d os, Calls Try.prog 19 #[.int .i64 2, .int .i64 ((k : Int) + 1)] (Sort.grow (redrawn wr d) os) fun e w'' => e = .returned (.int .i64 (p : Nat)) ∧ ∃ p : Regrown, w'' = Sort.grow (redrawn wr p.d) p.os) :=
        fun d os => Calls.regrown_of ((hPW _).mono fun _ _ h => ⟨h.1, by rw [← h.2]; exact Below.refl _ _⟩)
      have KAT : Hid (∀ d os, Calls Try.prog 18 #[.agg (boolCells l), .int .i64 (p : Nat)] (Sort.grow (redrawn wr d) os) fun e w'' => e = .returned (.int .i64 (x : Nat)) ∧ ∃ p : Regrown, w'' = Sort.grow (redrawn wr p.d) p.os) :=
        fun d os => Calls.regrown_of (hAT _)
      clear hAT hPW c0
      go_wp2_with fail
      refine wp_region_quiet_below (by kernel_rfl) (by kernel_rfl) ?_
      quiet_step (fail)
      quiet_step (fail)
      quiet_step (fail)
      quiet_step (fail)
      refine BigFrame.wpQuiet_want (by rfl) (fun K hK => ?_)
      refine quiet_load_row 24 (.tmp 1) rfl w.heap.size rfl 24 (boolCells l) (0, 0) _ HCX.out Try.underlying24 rfl (HSA.out ()) ?_
      refine hK _ ?_
      clear hK K
      simp only [Act.put, List.setIfInBounds_toArray, List.set_cons_zero, List.set_cons_succ]
      quiet_step (fail)
      quiet_step (fail)
      rw [show IntKind.i64.wrap ((k : Int) + 1) = (k : Int) + 1 by rw [IntKind.wrap_i64]; omega]
      quiet_step (first | (go_at_call 19; exact KPW.out _ _))
      quiet_step (first | (go_at_call 18; exact KAT.out _ _))
      repeat (quiet_step (fail))
      refine wpQuiet_nil ?_
      intro _ hw'
      obtain ⟨⟨dq, osq⟩, hw''⟩ := hw'
      subst hw''
      have HBQ := Lib.hid (HB.out.trans ((below_regrown wr dq osq).mono HB.out.size))
      have HRQ : Hid (Row (Sort.grow (redrawn wr dq) osq) g 3 (natCells (syn l))) := HR.out.below (below_regrown wr dq osq) HR.out.lt
      have HXQ : Hid (Row (Sort.grow (redrawn wr dq) osq) w.heap.size 24 (boolCells l)) := HX.out.below (below_regrown wr dq osq) HX.out.lt
      have c0 := hcc dq osq
      clear hcc HCX KPW KAT
      generalize Sort.grow (redrawn wr dq) osq = wq at *
      by_cases h0 : x = 0
      · subst h0
        cases z
        all_goals
          go_wp2
          go_roundw
          case rel => exact ⟨k + 1, by omega, by go_num, by rw [HS.out ()]; rfl, HRQ.out, HXQ.out, HBQ.out⟩
          case measure => simp [intOf] <;> omega
      · have e0 : (((x : Nat) : Int) == 0) = false := by rw [beq_eq_false_iff_ne]; omega
        have e0b : (x == 0) = false := by rw [beq_eq_false_iff_ne]; omega
        have HEB := Lib.hid e0b
        clear h0
        cases z
        all_goals
          go_wp2
          go_roundw
          case rel => exact ⟨k + 1, by omega, by go_num, by rw [HS.out (), HEB.out]; rfl, HRQ.out, HXQ.out, HBQ.out⟩
          case measure => simp [intOf] <;> omega
    · obtain rfl : k = 20 := by omega
      have hIS := fun W => is_any l W HL.out
      have HIC : Hid (Unit → cwN l 20 = isCw l) := fun _ => rfl
      rw [HIC.out ()]
      clear HIC
      generalize isCw l = z at *
      have HIS := Lib.hid hIS
      clear hIS
      go_wp2_with fail
      refine wp_load_row 24 (.tmp 1) rfl w.heap.size rfl 24 (boolCells l) (0, 0) _ HX.out Try.underlying24 rfl (HSA.out ()) ?_
      go_wp2_with fail
      refine (HIS.out _).mono ?_
      rintro e w5 ⟨rfl, hb⟩
      have HB5 := Lib.hid (HB.out.trans (hb.mono HB.out.size))
      clear hb
      cases z
      all_goals
        go_wp2
        go_ret
        exact ⟨rfl, HB5.out⟩
end Go.Proofs.Ytddmpfoafjoofaa
