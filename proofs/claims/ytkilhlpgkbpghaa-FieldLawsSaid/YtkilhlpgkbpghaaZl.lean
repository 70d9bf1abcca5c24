/-
  The walk of the law FieldLaws. No conditions.
-/
import Derived.Test.YtkilhlpgkbpghaaFz
namespace Go.Proofs.Ytkilhlpgkbpghaa
open Go.RowKit
open M

set_option maxRecDepth 100000 in
set_option maxHeartbeats 4000000 in
theorem laws_law (N1 N2 N3 : Nat) (w : World) :
    Calls Try.prog 3 #[.int .u8 N1, .int .u8 N2, .int .u8 N3] w fun e w' => e = .returned (.bool true) ∧ Below w.heap.size w w' := by
  obtain ⟨x, hx⟩ : ∃ t : Nat, N1 % 128 = t := ⟨_, rfl⟩
  have lx : x < 128 := by omega
  have ix : (N1 : Int) % 128 = (x : Int) := by omega
  clear hx
  obtain ⟨y, hy⟩ : ∃ t : Nat, N2 % 128 = t := ⟨_, rfl⟩
  have ly : y < 128 := by omega
  have iy : (N2 : Int) % 128 = (y : Int) := by omega
  clear hy
  obtain ⟨z, hz⟩ : ∃ t : Nat, N3 % 128 = t := ⟨_, rfl⟩
  have lz : z < 128 := by omega
  have iz : (N3 : Int) % 128 = (z : Int) := by omega
  clear hz
  obtain ⟨A1, hA1⟩ : ∃ t, mul y z = t := ⟨_, rfl⟩
  obtain ⟨R, hR⟩ : ∃ t, mul x A1 = t := ⟨_, rfl⟩
  obtain ⟨A2, hA2⟩ : ∃ t, mul x y = t := ⟨_, rfl⟩
  obtain ⟨A3, hA3⟩ : ∃ t, mul x z = t := ⟨_, rfl⟩
  obtain ⟨Y, hY⟩ : ∃ t, y ^^^ z = t := ⟨_, rfl⟩
  obtain ⟨S, hS⟩ : ∃ t, mul x Y = t := ⟨_, rfl⟩
  have lA1 : A1 < 128 := by rw [← hA1]; exact mul_lt y z ly lz
  have lA2 : A2 < 128 := by rw [← hA2]; exact mul_lt x y lx ly
  have lA3 : A3 < 128 := by rw [← hA3]; exact mul_lt x z lx lz
  have lY : Y < 128 := by rw [← hY]; exact xor_lt y z ly lz
  have HA1 := Lib.hid hA1
  have HR := Lib.hid hR
  have HA2 := Lib.hid hA2
  have HA3 := Lib.hid hA3
  have HS := Lib.hid hS
  have HR2 : Hid (mul A2 z = R) := by unfold Hid; rw [← hR, ← hA1, ← hA2, mul_assoc x y z lx ly lz]
  have HA2b : Hid (mul y x = A2) := by unfold Hid; rw [← hA2, mul_comm y x ly lx]
  have HX1 : Hid (A2 ^^^ A3 = S) := by unfold Hid; rw [← hS, ← hY, ← hA2, ← hA3, mul_xor]
  have hx1 : bits .xor .i64 (y : Int) (z : Int) = (Y : Int) := by rw [i64_xor_nat y z (by omega) (by omega), hY]
  have hx2 : bits .xor .i64 (A2 : Int) (A3 : Int) = (S : Int) := by rw [i64_xor_nat A2 A3 (by omega) (by omega), HX1.out]
  have HM1 := Lib.hid (mul_one x lx)
  have HI := Lib.hid (And.intro (mul_inv x lx) (inv_lt x))
  have HZ := Lib.hid (fun (h : x ≠ 0) (k : y ≠ 0) => mul_ne x y lx ly h k)
  have HZ0 := Lib.hid (mul_zr x lx)
  have HI0 : Hid (inv 0 = 0) := rfl
  clear hA1 hR hA2 hA3 hY hS HX1
  go_enter Try.func3, Try.ntmps3
  go_wp2_with fail
  refine (awake_any _).mono ?_
  rintro e w1 ⟨rfl, hb⟩
  have HA := Lib.hid hb
  clear hb
  go_wp2_with fail
  refine (new_any _).mono ?_
  rintro e w2 ⟨rfl, hb, hf⟩
  have HB0 := Lib.hid (HA.out.trans (hb.mono HA.out.size))
  have hg := HA.out.size
  generalize w1.heap.size = g at *
  have HF0 := Lib.hid hf
  clear hb hf HA
  go_wp2_with fail
  refine (mul_nat y z A1 g _ (by omega) (by omega) HA1.out HF0.out).mono ?_
  rintro e w10 ⟨rfl, hq⟩
  have HF1 := Lib.hid (hq.row HF0.out)
  have HB1 := Lib.hid (hq.below HB0.out)
  clear hq HF0 HB0
  go_wp2_with fail
  refine (mul_nat x A1 R g _ (by omega) (by omega) HR.out HF1.out).mono ?_
  rintro e w11 ⟨rfl, hq⟩
  have HF2 := Lib.hid (hq.row HF1.out)
  have HB2 := Lib.hid (hq.below HB1.out)
  clear hq HF1 HB1
  go_wp2_with fail
  refine (mul_nat x y A2 g _ (by omega) (by omega) HA2.out HF2.out).mono ?_
  rintro e w12 ⟨rfl, hq⟩
  have HF3 := Lib.hid (hq.row HF2.out)
  have HB3 := Lib.hid (hq.below HB2.out)
  clear hq HF2 HB2
  go_wp2_with fail
  refine (mul_nat A2 z R g _ (by omega) (by omega) HR2.out HF3.out).mono ?_
  rintro e w13 ⟨rfl, hq⟩
  have HF4 := Lib.hid (hq.row HF3.out)
  have HB4 := Lib.hid (hq.below HB3.out)
  clear hq HF3 HB3
  go_wp2_with fail
  refine (mul_nat x y A2 g _ (by omega) (by omega) HA2.out HF4.out).mono ?_
  rintro e w14 ⟨rfl, hq⟩
  have HF5 := Lib.hid (hq.row HF4.out)
  have HB5 := Lib.hid (hq.below HB4.out)
  clear hq HF4 HB4
  go_wp2_with fail
  refine (mul_nat y x A2 g _ (by omega) (by omega) HA2b.out HF5.out).mono ?_
  rintro e w15 ⟨rfl, hq⟩
  have HF6 := Lib.hid (hq.row HF5.out)
  have HB6 := Lib.hid (hq.below HB5.out)
  clear hq HF5 HB5
  go_wp2_with fail
  refine (mul_nat x Y S g _ (by omega) (by omega) HS.out HF6.out).mono ?_
  rintro e w16 ⟨rfl, hq⟩
  have HF7 := Lib.hid (hq.row HF6.out)
  have HB7 := Lib.hid (hq.below HB6.out)
  clear hq HF6 HB6
  go_wp2_with fail
  refine (mul_nat x y A2 g _ (by omega) (by omega) HA2.out HF7.out).mono ?_
  rintro e w17 ⟨rfl, hq⟩
  have HF8 := Lib.hid (hq.row HF7.out)
  have HB8 := Lib.hid (hq.below HB7.out)
  clear hq HF7 HB7
  go_wp2_with fail
  refine (mul_nat x z A3 g _ (by omega) (by omega) HA3.out HF8.out).mono ?_
  rintro e w18 ⟨rfl, hq⟩
  have HF9 := Lib.hid (hq.row HF8.out)
  have HB9 := Lib.hid (hq.below HB8.out)
  clear hq HF8 HB8
  go_wp2_with fail
  refine (mul_nat x 1 x g _ (by omega) (by omega) HM1.out HF9.out).mono ?_
  rintro e w19 ⟨rfl, hq⟩
  have HF10 := Lib.hid (hq.row HF9.out)
  have HB10 := Lib.hid (hq.below HB9.out)
  clear hq HF9 HB9
  by_cases hx0 : x = 0
  · subst hx0
    go_wp2_with fail
    refine (inv_nat 0 0 g _ (by omega) HI0.out HF10.out).mono ?_
    rintro e w20 ⟨rfl, hq⟩
    have HF11 := Lib.hid (hq.row HF10.out)
    have HB11 := Lib.hid (hq.below HB10.out)
    clear hq HF10 HB10
    go_wp2
    go_ret
    exact ⟨rfl, HB11.out⟩
  · have HX0 := Lib.hid hx0
    have e0 : (((x : Nat) : Int) == 0) = false := by rw [beq_eq_false_iff_ne]; omega
    have e1 : (((x : Nat) : Int) != 0) = true := by simp [hx0]
    clear hx0
    obtain ⟨I, hI⟩ : ∃ t, inv x = t := ⟨_, rfl⟩
    have lI : I < 128 := by rw [← hI]; exact HI.out.2
    have HII := Lib.hid hI
    have HMI : Hid (mul x I = 1) := by unfold Hid; rw [← hI]; exact HI.out.1 HX0.out
    clear hI
    go_wp2_with fail
    refine (inv_nat x I g _ (by omega) HII.out HF10.out).mono ?_
    rintro e w20 ⟨rfl, hq⟩
    have HF11 := Lib.hid (hq.row HF10.out)
    have HB11 := Lib.hid (hq.below HB10.out)
    clear hq HF10 HB10
    go_wp2_with fail
    refine (mul_nat x I 1 g _ (by omega) (by omega) HMI.out HF11.out).mono ?_
    rintro e w21 ⟨rfl, hq⟩
    have HF12 := Lib.hid (hq.row HF11.out)
    have HB12 := Lib.hid (hq.below HB11.out)
    clear hq HF11 HB11
    go_wp2_with fail
    refine (mul_nat x y A2 g _ (by omega) (by omega) HA2.out HF12.out).mono ?_
    rintro e w22 ⟨rfl, hq⟩
    have HF13 := Lib.hid (hq.row HF12.out)
    have HB13 := Lib.hid (hq.below HB12.out)
    clear hq HF12 HB12
    by_cases hy0 : y = 0
    · subst hy0
      obtain rfl : A2 = 0 := by rw [← HA2.out]; exact HZ0.out
      go_wp2
      go_ret
      exact ⟨rfl, HB13.out⟩
    · have hA0 : A2 ≠ 0 := by rw [← HA2.out]; exact HZ.out HX0.out hy0
      have e2 : (((A2 : Nat) : Int) == 0) = false := by rw [beq_eq_false_iff_ne]; omega
      have e3 : (((y : Nat) : Int) == 0) = false := by rw [beq_eq_false_iff_ne]; omega
      clear hA0 hy0 e0 e1
      go_wp2
      go_ret
      exact ⟨rfl, HB13.out⟩
end Go.Proofs.Ytkilhlpgkbpghaa
