/-
  The walk of the law FieldPowers. Condition: numbers are int's.
-/
import Derived.Test.YtkilhlpgkbpghaaFz
namespace Go.Proofs.Ytkilhlpgkbpghaa
open Go.RowKit
open M

/-- Which elements have been met, as far as the law's loop has come. -/
def mt : Nat → List Bool
  | 0 => List.replicate 128 false
  | n + 1 => (mt n).set (E n) true
theorem mt_length (n : Nat) : (mt n).length = 128 := by
  induction n with
  | zero => unfold mt; rw [List.length_replicate]
  | succ n ih => simp only [mt, List.length_set, ih]
theorem mt_new (n : Nat) (h : n < 127) : (mt n).getD (E n) false = false := by
  have := of_all (n := 127) (p := fun n => (mt n).getD (E n) false == false) (by decide +kernel) n h
  simpa using this
def boolCells (l : List Bool) : Array Value := (l.map fun x => Value.bool x).toArray
theorem boolCells_get (l : List Bool) (i : Nat) (h : i < l.length) : (boolCells l)[i]? = some (.bool (l.getD i false)) := by
  simp [boolCells, h]
theorem boolCells_set (l : List Bool) (i : Nat) (x : Bool) : (boolCells l).setIfInBounds i (.bool x) = boolCells (l.set i x) := by
  simp [boolCells, List.map_set]
theorem met_info : (Try.prog.info? 28).map (fun i => i.zero) = some (some (.agg (boolCells (mt 0)))) := by kernel_rfl
theorem met_zero (w : World) : (zeroValue 28).run Try.prog w = .ok (.agg (boolCells (mt 0))) w := by
  obtain ⟨i, hi, hz⟩ : ∃ i, Try.prog.info? 28 = some i ∧ i.zero = some (.agg (boolCells (mt 0))) := by
    have := met_info
    cases h : Try.prog.info? 28 with
    | none => rw [h] at this; cases this
    | some i => rw [h] at this; exact ⟨i, rfl, by simpa using this⟩
  unfold zeroValue
  rw [Sem.run_bind, run_typeInfo w hi, Result.andThen_ok]
  simp only [hz]
  rfl
theorem met_at {w : World} {g : Nat} {l : List Bool} {t : TypeId} (h : Row w g t (boolCells l)) (i : Nat) (hi : i < l.length) : w.cell? ⟨g, i, none⟩ = some (.bool (l.getD i false)) :=
  (cell_of_row _ _ _ _ _ _ h).trans (boolCells_get l i hi)

set_option maxRecDepth 100000 in
set_option maxHeartbeats 4000000 in
theorem powers_law (a n m : Int) (w : World) (ha : inI a) :
    Calls Try.prog 4 #[.int .i64 a, .int .i64 n, .int .i64 m] w fun e w' => e = .returned (.bool true) ∧ Below w.heap.size w w' := by
  obtain ⟨_, bn1, bn2⟩ := tmod_rest n 1000000 (by decide)
  obtain ⟨_, bm1, bm2⟩ := tmod_rest m 1000000 (by decide)
  obtain ⟨N, hN⟩ : ∃ t, n.tmod 1000000 = t := ⟨_, rfl⟩
  obtain ⟨M, hM⟩ : ∃ t, m.tmod 1000000 = t := ⟨_, rfl⟩
  rw [hN] at bn1 bn2
  rw [hM] at bm1 bm2
  have HAA := Lib.hid ha
  clear ha
  go_enter Try.func4, Try.ntmps4
  go_wp2_with fail
  refine (awake_any _).mono ?_
  rintro e w1 ⟨rfl, hb⟩
  have HA := Lib.hid hb
  clear hb
  go_wp2_with fail
  refine (new_any _).mono ?_
  rintro e w2 ⟨rfl, hb, hf⟩
  have HB0 := Lib.hid (HA.out.trans (hb.mono HA.out.size))
  have hg := HA.out.size
  generalize w1.heap.size = g at *
  have HF0 := Lib.hid hf
  clear hb hf HA
  have hz := met_zero w2
  go_wp2
  clear hz hN hM
  have hgc : g < w2.heap.size := Row.lt HF0.out
  obtain ⟨c, hc⟩ : ∃ c, w2.heap.size = c := ⟨_, rfl⟩
  have HM0 : Hid (Row (w2.alloc (Obj.cells (boolCells (mt 0)) 28)) c 28 (boolCells (mt 0))) := row_new w2 c hc _ _
  have HF1 : Hid (Fd (w2.alloc (Obj.cells (boolCells (mt 0)) 28)) g) := Row.alloc HF0.out _
  have HB1 : Hid (Below w.heap.size w (w2.alloc (Obj.cells (boolCells (mt 0)) 28))) := HB0.out.alloc HB0.out.size _
  rw [hc] at hgc ⊢
  clear hc HF0 HB0
  go_loopw [9] (fun i wr => ∃ k : Nat, k ≤ 127 ∧ i = .int .i64 k ∧ Fd wr g ∧ Row wr c 28 (boolCells (mt k)) ∧ Below w.heap.size w wr) (fun i _ => 127 - (intOf i).toNat)
  case atStart => exact ⟨0, by omega, rfl, HF1.out, HM0.out, HB1.out⟩
  case round =>
    clear HF1 HM0 HB1
    obtain ⟨k, hk, rfl, hf, hr, hb⟩ := hrel
    have HF0 := Lib.hid hf
    have HM0 := Lib.hid hr
    have HB0 := Lib.hid hb
    clear hf hr hb
    by_cases hlt : k < 127
    · have hX := E_bd k hlt
      have HNEW := Lib.hid (mt_new k hlt)
      obtain ⟨X, hXE⟩ : ∃ t, E k = t := ⟨_, rfl⟩
      have HXE := Lib.hid hXE
      rw [hXE] at hX
      have HE : Hid (E (re (k : Int)) = X) := by unfold Hid; rw [re_nat k hlt, hXE]
      have hX1 : 1 ≤ (X : Int) := by omega
      have hX2 : (X : Int) < 128 := by omega
      clear hXE
      go_wp2_with fail
      refine (exp_any (k : Int) g _ ⟨by omega, by omega⟩ HF0.out).mono ?_
      rintro e w3 ⟨rfl, hq⟩
      rw [HE.out]
      have HF1 := Lib.hid (hq.row HF0.out)
      have HM1 := Lib.hid (hq.row HM0.out)
      have HB1 := Lib.hid (hq.below HB0.out)
      clear hq HF0 HM0 HB0
      have c0 : w3.cell? ⟨c, X, none⟩ = some (.bool false) := by
        rw [met_at HM1.out X (by rw [mt_length]; omega), ← HXE.out, HNEW.out]
      go_wp2_with fail
      refine (log_exp k X g _ hlt HXE.out HF1.out).mono ?_
      rintro e w4 ⟨rfl, hq⟩
      have HF2 := Lib.hid (hq.row HF1.out)
      have HM2 := Lib.hid (hq.row HM1.out)
      have HB2 := Lib.hid (hq.below HB1.out)
      clear hq HF1 HM1 HB1 c0
      have c0 : w4.cell? ⟨c, X, none⟩ = some (.bool false) := by
        rw [met_at HM2.out X (by rw [mt_length]; omega), ← HXE.out, HNEW.out]
      have f0 := HM2.out.free X
      go_wp2
      go_roundw
      case rel =>
        refine ⟨k + 1, by omega, by go_num, Row.far HF2.out (p := ⟨c, X, none⟩) (by show g ≠ c; omega) _, ?_, HB2.out.setCell (p := ⟨c, X, none⟩) (by show w.heap.size ≤ c; omega) _⟩
        have := HM2.out.set X (.bool true)
        rw [boolCells_set, ← HXE.out] at this
        rw [← HXE.out]
        exact this
      case measure => simp [intOf] <;> omega
    · obtain rfl : k = 127 := by omega
      clear HM0 hlt hk hgc
      have hpl := el_lt a
      by_cases hp0 : el a = 0
      · have HLG : Hid (lg (el a) = -1) := by unfold Hid lg; rw [if_pos hp0]
        have HP0 : Hid (powI (el a) 0 = 1) := rfl
        have HPZ := Lib.hid hp0
        clear hp0
        go_wp2_with fail
        refine (log_any a g _ HAA.out HF0.out).mono ?_
        rintro e w10 ⟨rfl, hq⟩
        have HF1 := Lib.hid (hq.row HF0.out)
        have HB1 := Lib.hid (hq.below HB0.out)
        clear hq HF0 HB0
        rw [HLG.out]
        go_wp2_with fail
        refine (pow_field a 0 g _ HAA.out ⟨by omega, by omega⟩ HF1.out).mono ?_
        rintro e w11 ⟨rfl, hq⟩
        have HF2 := Lib.hid (hq.row HF1.out)
        have HB2 := Lib.hid (hq.below HB1.out)
        clear hq HF1 HB1
        rw [HP0.out]
        by_cases hN0 : N = 0
        · subst hN0
          go_wp2
          go_ret
          exact ⟨rfl, HB2.out⟩
        · have HPN : Hid (powI (el a) N = 0) := by unfold Hid; rw [HPZ.out]; exact powI_nil N hN0
          have e0 : (N == 0) = false := by rw [beq_eq_false_iff_ne]; exact hN0
          clear hN0
          go_wp2_with fail
          refine (pow_field a N g _ HAA.out ⟨by omega, by omega⟩ HF2.out).mono ?_
          rintro e w12 ⟨rfl, hq⟩
          have HF3 := Lib.hid (hq.row HF2.out)
          have HB3 := Lib.hid (hq.below HB2.out)
          clear hq HF2 HB2
          rw [HPN.out]
          go_wp2
          go_ret
          exact ⟨rfl, HB3.out⟩
      · obtain ⟨P1, hP1⟩ : ∃ t, powI (el a) N = t := ⟨_, rfl⟩
        obtain ⟨P2, hP2⟩ : ∃ t, powI (el a) M = t := ⟨_, rfl⟩
        obtain ⟨P3, hP3⟩ : ∃ t, mul P1 P2 = t := ⟨_, rfl⟩
        obtain ⟨P4, hP4⟩ : ∃ t, powI (el a) (-N) = t := ⟨_, rfl⟩
        obtain ⟨Q, hQ⟩ : ∃ t, E (re N) = t := ⟨_, rfl⟩
        obtain ⟨L, hL⟩ : ∃ t, Lg (el a) = t := ⟨_, rfl⟩
        have l1 : P1 < 128 := by rw [← hP1]; exact powI_lt _ _
        have l2 : P2 < 128 := by rw [← hP2]; exact powI_lt _ _
        have l4 : P4 < 128 := by rw [← hP4]; exact powI_lt _ _
        have HP1 := Lib.hid hP1
        have HP2 := Lib.hid hP2
        have HP3 := Lib.hid hP3
        have HP4 := Lib.hid hP4
        have HQ := Lib.hid hQ
        have HL := Lib.hid hL
        have HS : Hid (powI (el a) (N + M) = P3) := by unfold Hid; rw [← hP3, ← hP1, ← hP2, powI_add _ _ _ hp0]
        have HI : Hid (mul P1 P4 = 1) := by unfold Hid; rw [← hP1, ← hP4, powI_neg _ _ hp0]
        have HQ2 : Hid (powI (el 2) N = Q) := by unfold Hid; rw [← hQ, ← powI_two]; rfl
        have HP0 := Lib.hid hp0
        clear hP1 hP2 hP3 hP4 hQ hL hp0 hpl
        go_wp2_with fail
        refine (log_pos a g _ HAA.out HF0.out HP0.out).mono ?_
        rintro e w10 ⟨rfl, hq⟩
        have HF1 := Lib.hid (hq.row HF0.out)
        have HB1 := Lib.hid (hq.below HB0.out)
        clear hq HF0 HB0
        rw [HL.out]
        go_wp2_with fail
        refine (pow_field a N g _ HAA.out ⟨by omega, by omega⟩ HF1.out).mono ?_
        rintro e w11 ⟨rfl, hq⟩
        have HF2 := Lib.hid (hq.row HF1.out)
        have HB2 := Lib.hid (hq.below HB1.out)
        clear hq HF1 HB1
        rw [HP1.out]
        go_wp2_with fail
        refine (pow_field a M g _ HAA.out ⟨by omega, by omega⟩ HF2.out).mono ?_
        rintro e w12 ⟨rfl, hq⟩
        have HF3 := Lib.hid (hq.row HF2.out)
        have HB3 := Lib.hid (hq.below HB2.out)
        clear hq HF2 HB2
        rw [HP2.out]
        go_wp2_with fail
        refine (mul_nat P1 P2 P3 g _ (by omega) (by omega) HP3.out HF3.out).mono ?_
        rintro e w13 ⟨rfl, hq⟩
        have HF4 := Lib.hid (hq.row HF3.out)
        have HB4 := Lib.hid (hq.below HB3.out)
        clear hq HF3 HB3
        go_wp2_with fail
        refine (pow_field a (N + M) g _ HAA.out ⟨by omega, by omega⟩ HF4.out).mono ?_
        rintro e w14 ⟨rfl, hq⟩
        have HF5 := Lib.hid (hq.row HF4.out)
        have HB5 := Lib.hid (hq.below HB4.out)
        clear hq HF4 HB4
        rw [HS.out]
        go_wp2_with fail
        refine (pow_field a N g _ HAA.out ⟨by omega, by omega⟩ HF5.out).mono ?_
        rintro e w15 ⟨rfl, hq⟩
        have HF6 := Lib.hid (hq.row HF5.out)
        have HB6 := Lib.hid (hq.below HB5.out)
        clear hq HF5 HB5
        rw [HP1.out]
        go_wp2_with fail
        refine (pow_field a (-N) g _ HAA.out ⟨by omega, by omega⟩ HF6.out).mono ?_
        rintro e w16 ⟨rfl, hq⟩
        have HF7 := Lib.hid (hq.row HF6.out)
        have HB7 := Lib.hid (hq.below HB6.out)
        clear hq HF6 HB6
        rw [HP4.out]
        go_wp2_with fail
        refine (mul_nat P1 P4 1 g _ (by omega) (by omega) HI.out HF7.out).mono ?_
        rintro e w17 ⟨rfl, hq⟩
        have HF8 := Lib.hid (hq.row HF7.out)
        have HB8 := Lib.hid (hq.below HB7.out)
        clear hq HF7 HB7
        go_wp2_with fail
        refine (exp_any N g _ ⟨by omega, by omega⟩ HF8.out).mono ?_
        rintro e w18 ⟨rfl, hq⟩
        have HF9 := Lib.hid (hq.row HF8.out)
        have HB9 := Lib.hid (hq.below HB8.out)
        clear hq HF8 HB8
        rw [HQ.out]
        go_wp2_with fail
        refine (pow_field 2 N g _ ⟨by omega, by omega⟩ ⟨by omega, by omega⟩ HF9.out).mono ?_
        rintro e w19 ⟨rfl, hq⟩
        have HF10 := Lib.hid (hq.row HF9.out)
        have HB10 := Lib.hid (hq.below HB9.out)
        clear hq HF9 HB9
        rw [HQ2.out]
        go_wp2
        go_ret
        exact ⟨rfl, HB10.out⟩
end Go.Proofs.Ytkilhlpgkbpghaa
