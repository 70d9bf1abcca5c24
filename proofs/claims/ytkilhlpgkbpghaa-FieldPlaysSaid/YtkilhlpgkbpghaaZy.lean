/-
  The walk of the law FieldPlays. Condition: numbers are int's.
-/
import Derived.Test.YtkilhlpgkbpghaaFz
import Derived.Test.YtkilhlpgkbpghaaRf
namespace Go.Proofs.Ytkilhlpgkbpghaa
open Go.RowKit
open M

set_option maxRecDepth 100000 in
set_option maxHeartbeats 4000000 in
theorem plays_law (a b : Int) (N : Nat) (w : World) (ha : inI a) (hb : inI b) (hN : N < 256) :
    Calls Try.prog 5 #[.int .i64 a, .int .i64 b, .int .u8 N] w fun e w' => e = .returned (.bool true) ∧ Below w.heap.size w w' := by
  obtain ⟨K, hK⟩ : ∃ t : Nat, N % 200 = t := ⟨_, rfl⟩
  have lK : K < 200 := by omega
  have iK : (N : Int) % 200 = (K : Int) := by omega
  clear hK
  obtain ⟨P, hP⟩ : ∃ t, powI (el a) K = t := ⟨_, rfl⟩
  obtain ⟨Q, hQ⟩ : ∃ t, E (re K) = t := ⟨_, rfl⟩
  have HP := Lib.hid hP
  have HQ := Lib.hid hQ
  have HP2 : Hid (pw (el a) K = P) := by unfold Hid; rw [← hP, powI_nat _ K (el_lt a)]
  have HQ2 : Hid (pw (el 2) K = Q) := by unfold Hid; rw [← hQ, ← powI_two, powI_nat _ K (by decide)]; rfl
  have HAA := Lib.hid ha
  have HBB := Lib.hid hb
  have HEL := Lib.hid (el_lt a)
  have HLG : Hid (lgr (el a) = lg (el a)) := rfl
  clear hP hQ ha hb
  go_enter Try.func5, Try.ntmps5
  go_wp2_with fail
  refine (awake_any _).mono ?_
  rintro e w1 ⟨rfl, hb⟩
  have HA := Lib.hid hb
  clear hb
  go_wp2_with fail
  refine (new_any _).mono ?_
  rintro e w2 ⟨rfl, hb, hf⟩
  have HB0 := Lib.hid (HA.out.trans (hb.mono HA.out.size))
  have hg := HA.out.size
  generalize w1.heap.size = g at *
  have HF0 := Lib.hid hf
  clear hb hf HA
  go_wp2_with fail
  refine (mul_field a b g _ HAA.out HBB.out HF0.out).mono ?_
  rintro e w10 ⟨rfl, hq⟩
  have HF1 := Lib.hid (hq.row HF0.out)
  have HB1 := Lib.hid (hq.below HB0.out)
  clear hq HF0 HB0
  go_wp2_with fail
  refine (mul_ref a b _ HAA.out HBB.out).mono ?_
  rintro e w11 ⟨rfl, rfl⟩
  go_wp2_with fail
  refine (inv_field a g _ HAA.out HF1.out).mono ?_
  rintro e w11 ⟨rfl, hq⟩
  have HF2 := Lib.hid (hq.row HF1.out)
  have HB2 := Lib.hid (hq.below HB1.out)
  clear hq HF1 HB1
  go_wp2_with fail
  refine (rest_ref a _ HAA.out).mono ?_
  rintro e w12 ⟨rfl, rfl⟩
  go_wp2_with fail
  refine (inv_ref (el a) _ HEL.out).mono ?_
  rintro e w12 ⟨rfl, rfl⟩
  go_wp2_with fail
  refine (pow_field a K g _ HAA.out ⟨by omega, by omega⟩ HF2.out).mono ?_
  rintro e w12 ⟨rfl, hq⟩
  have HF3 := Lib.hid (hq.row HF2.out)
  have HB3 := Lib.hid (hq.below HB2.out)
  clear hq HF2 HB2
  rw [HP.out]
  go_wp2_with fail
  refine (pow_ref a K _ HAA.out (by omega)).mono ?_
  rintro e w13 ⟨rfl, rfl⟩
  rw [HP2.out]
  go_wp2_with fail
  refine (log_any a g _ HAA.out HF3.out).mono ?_
  rintro e w13 ⟨rfl, hq⟩
  have HF4 := Lib.hid (hq.row HF3.out)
  have HB4 := Lib.hid (hq.below HB3.out)
  clear hq HF3 HB3
  go_wp2_with fail
  refine (log_ref a _ HAA.out).mono ?_
  rintro e w14 ⟨rfl, rfl⟩
  rw [HLG.out]
  go_wp2_with fail
  refine (exp_any K g _ ⟨by omega, by omega⟩ HF4.out).mono ?_
  rintro e w14 ⟨rfl, hq⟩
  have HF5 := Lib.hid (hq.row HF4.out)
  have HB5 := Lib.hid (hq.below HB4.out)
  clear hq HF4 HB4
  rw [HQ.out]
  go_wp2_with fail
  refine (pow_ref 2 K _ ⟨by omega, by omega⟩ (by omega)).mono ?_
  rintro e w15 ⟨rfl, rfl⟩
  rw [HQ2.out]
  go_wp2
  go_ret
  exact ⟨rfl, HB5.out⟩
end Go.Proofs.Ytkilhlpgkbpghaa
