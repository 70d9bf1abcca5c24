/-
  PackPlays, walked. Conditions: a shape's 40 numbers; what pack's Lay and Right answer, and the reference's Count.
-/
import Derived.Test.YtoohahjmiljpgaaQS17
import Derived.Test.YtoohahjmiljpgaaQRph
namespace Go.Proofs.Ytoohahjmiljpgaa
open Go.RowKit
open M
set_option maxRecDepth 100000 in
set_option maxHeartbeats 4000000 in
theorem plays19_law (HL : LayOk) (HG : RigOk) (HCt : CtOk) (HCn : CnOk) (fr : Int) (l : List Int) (z : Int) (w : World) (hl : l.length = 40) :
    Calls Try.prog 5 #[.int .i64 fr, .agg (iCells l), .int .i64 z] w fun e w' => e = .returned (.bool true) ∧ Below w.heap.size w w' := by
  have HRR := Lib.hid fun w => rsright_any HCt l z w hl
  have HRP := Lib.hid fun w => HG l z w hl
  have HLA := Lib.hid fun w => HL fr l z w hl
  have HAW := Lib.hid fun w => awake19_any HL HCt w
  have HSZ := Lib.hid (s40_size l hl)
  have HBU := Lib.hid (pk_built fr l hl)
  have HE1 : Hid (¬ (12 ≤ z ∧ z ≤ 24) → laE fr l z = 1) := Lib.hid fun h => if_neg h
  have HE7 : Hid ((12 ≤ z ∧ z ≤ 24) → ¬ (0 ≤ fr ∧ fr ≤ 65535) → laE fr l z = 7) := Lib.hid fun h k => by rw [laE, if_pos h, if_neg k]
  have HE3 : Hid ((12 ≤ z ∧ z ≤ 24) → (0 ≤ fr ∧ fr ≤ 65535) → rg19 l z = false → laE fr l z = 3) := Lib.hid fun h k m => by rw [laE, if_pos h, if_pos k, if_neg (by rw [m]; exact Bool.false_ne_true)]
  have HE0 : Hid ((12 ≤ z ∧ z ≤ 24) → (0 ≤ fr ∧ fr ≤ 65535) → rg19 l z = true → laE fr l z = 0 ∧ ∀ w, Calls Try.prog 16 #[.int .i64 fr, .agg (iCells l), .int .i64 z] w fun e w' => e = .returned (.string (laT fr l z)) ∧ Below w.heap.size w w') := Lib.hid fun h k m => by
    obtain ⟨f, rfl⟩ : ∃ f : Nat, fr = (f : Int) := ⟨fr.toNat, by omega⟩
    obtain ⟨y, rfl⟩ : ∃ y : Nat, z = (y : Int) := ⟨z.toNat, by omega⟩
    obtain ⟨h1, h2⟩ := laE_in f y l (by omega) (by omega) m
    refine ⟨h1, fun w => ?_⟩
    rw [h2]
    obtain ⟨p1, p2, p3⟩ := rg_parts l y m
    refine rlay_any HCn f y l w (by omega) hl (fun j hj => ?_) (fun b hb => ?_) p1.1 p1.2
    · have := (rt_iff _).1 p2 j hj
      unfold sds at this
      rw [pto_getD _ _ _ _ hj, Nat.zero_add] at this
      exact this
    · rw [p3 b hb]; exact gk_le l _ b hb
  have HT0 : Hid (laE fr l z ≠ 0 → laT fr l z = ByteArray.empty) := Lib.hid fun h => if_neg h
  obtain ⟨T, hT⟩ : ∃ T, laT fr l z = T := ⟨_, rfl⟩
  obtain ⟨E, hE⟩ : ∃ E, laE fr l z = E := ⟨_, rfl⟩
  obtain ⟨R, hR⟩ : ∃ R, rg19 l z = R := ⟨_, rfl⟩
  rw [hT, hE] at HLA
  rw [hE] at HE1 HE7
  rw [hE, hR] at HE3
  rw [hE, hR, hT] at HE0
  rw [hE, hT] at HT0
  rw [hR] at HRR HRP
  have HEM : Hid ((ByteArray.empty.toList == ([] : List UInt8)) = true) := Lib.hid (by rw [toList_bl]; rfl)
  have HR : Hid (Row (w.alloc (.cells (iCells l) 32)) w.heap.size 32 (iCells l)) := Lib.hid (heap_alloc_new _ _)
  have HB : Hid (Below w.heap.size w (w.alloc (.cells (iCells l) 32))) := Lib.hid ((Below.refl _ _).alloc (Nat.le_refl _) _)
  clear hl hT hE hR HL HCt HCn HG
  go_enter Try.func5, Try.ntmps5
  go_wp2_with fail
  generalize w.alloc (.cells (iCells l) 32) = w1 at *
  refine (HAW.out _).mono ?_
  rintro e w2 ⟨rfl, hb⟩
  have HR := Lib.hid (HR.out.box hb)
  have HB := Lib.hid (HB.out.trans (hb.mono HB.out.size))
  clear hb
  go_wp2_with (refine wpList_load_row rfl 32 (.tmp 4) rfl w.heap.size rfl 32 (iCells l) (0, 0) _ HR.out Try.underlying32 rfl HSZ.out ?_)
  refine (HRR.out _).mono ?_
  rintro e w3 ⟨rfl, hb⟩
  have HR := Lib.hid (HR.out.box hb)
  have HB := Lib.hid (HB.out.trans (hb.mono HB.out.size))
  clear hb
  go_wp2_with (first
    | (refine wpList_load_row rfl 32 (.tmp 4) rfl w.heap.size rfl 32 (iCells l) (0, 0) _ HR.out Try.underlying32 rfl HSZ.out ?_)
    | (refine wpList_build_two rfl 35 (.tmp 16) (.tmp 17) rfl (.int .i64 fr) (.agg (iCells l)) rfl rfl (iCells (fr :: l)) HBU.out ?_))
  refine (HLA.out _).mono ?_
  rintro e w4 ⟨rfl, hb⟩
  have HR := Lib.hid (HR.out.box hb)
  have HB := Lib.hid (HB.out.trans (hb.mono HB.out.size))
  clear hb
  go_wp2_with (refine wpList_load_row rfl 32 (.tmp 4) rfl w.heap.size rfl 32 (iCells l) (0, 0) _ HR.out Try.underlying32 rfl HSZ.out ?_)
  refine (HRP.out _).mono ?_
  rintro e w5 ⟨rfl, hb⟩
  have HR := Lib.hid (HR.out.box hb)
  have HB := Lib.hid (HB.out.trans (hb.mono HB.out.size))
  clear hb
  have hRR : (R == R) = true := beq_self_eq_true _
  have hRN : (R != R) = false := bne_self_eq_false R
  by_cases hz1 : z < 12
  · have d1 : decide (z < 12) = true := decide_eq_true hz1
    obtain rfl := HE1.out (by omega)
    obtain rfl := HT0.out (by decide)
    have hem := HEM.out
    go_wp2_with fail
    go_ret
    exact ⟨rfl, HB.out⟩
  · have d1 : decide (z < 12) = false := decide_eq_false hz1
    by_cases hz2 : z > 24
    · have d2 : decide (z > 24) = true := decide_eq_true hz2
      have d3 : decide (24 < z) = true := decide_eq_true hz2
      obtain rfl := HE1.out (by omega)
      obtain rfl := HT0.out (by decide)
      have hem := HEM.out
      go_wp2_with fail
      go_ret
      exact ⟨rfl, HB.out⟩
    · have d2 : decide (z > 24) = false := decide_eq_false hz2
      have d3 : decide (24 < z) = false := decide_eq_false hz2
      by_cases hf1 : fr < 0
      · have d4 : decide (fr < 0) = true := decide_eq_true hf1
        obtain rfl := HE7.out (by omega) (by omega)
        obtain rfl := HT0.out (by decide)
        have hem := HEM.out
        go_wp2_with fail
        go_ret
        exact ⟨rfl, HB.out⟩
      · have d4 : decide (fr < 0) = false := decide_eq_false hf1
        by_cases hf2 : fr > 65535
        · have d5 : decide (fr > 65535) = true := decide_eq_true hf2
          have d6 : decide (65535 < fr) = true := decide_eq_true hf2
          obtain rfl := HE7.out (by omega) (by omega)
          obtain rfl := HT0.out (by decide)
          have hem := HEM.out
          go_wp2_with fail
          go_ret
          exact ⟨rfl, HB.out⟩
        · have d5 : decide (fr > 65535) = false := decide_eq_false hf2
          have d6 : decide (65535 < fr) = false := decide_eq_false hf2
          cases hR : R
          · subst hR
            obtain rfl := HE3.out (by omega) (by omega) rfl
            obtain rfl := HT0.out (by decide)
            have hem := HEM.out
            go_wp2_with fail
            go_ret
            exact ⟨rfl, HB.out⟩
          · subst hR
            obtain ⟨hE, hlay⟩ := HE0.out (by omega) (by omega) rfl
            have HLAY := Lib.hid hlay
            obtain rfl := hE
            clear hlay
            go_wp2_with (refine g_load_row (by rfl) 32 (.tmp 4) rfl w.heap.size rfl 32 (iCells l) (0, 0) _ HR.out Try.underlying32 rfl HSZ.out ?_)
            refine (HLAY.out _).mono ?_
            rintro e w6 ⟨rfl, hb⟩
            have HR := Lib.hid (HR.out.box hb)
            have HB := Lib.hid (HB.out.trans (hb.mono HB.out.size))
            clear hb
            go_wp2_with fail
            go_ret
            exact ⟨rfl, HB.out⟩
end Go.Proofs.Ytoohahjmiljpgaa
