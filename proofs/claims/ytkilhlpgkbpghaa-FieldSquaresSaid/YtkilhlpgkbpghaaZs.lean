/-
  The walk of the law FieldSquares. No conditions.
-/
import Derived.Test.YtkilhlpgkbpghaaFz
namespace Go.Proofs.Ytkilhlpgkbpghaa
open Go.RowKit
open M

set_option maxRecDepth 100000 in
set_option maxHeartbeats 4000000 in
theorem squares_law (N1 N2 : Nat) (w : World) :
    Calls Try.prog 8 #[.int .u8 N1, .int .u8 N2] w fun e w' => e = .returned (.bool true) ∧ Below w.heap.size w w' := by
  obtain ⟨x, hx⟩ : ∃ t : Nat, N1 % 128 = t := ⟨_, rfl⟩
  have lx : x < 128 := by omega
  have ix : (N1 : Int) % 128 = (x : Int) := by omega
  clear hx
  obtain ⟨y, hy⟩ : ∃ t : Nat, N2 % 128 = t := ⟨_, rfl⟩
  have ly : y < 128 := by omega
  have iy : (N2 : Int) % 128 = (y : Int) := by omega
  clear hy
  obtain ⟨R, hR⟩ : ∃ t, pw x 64 = t := ⟨_, rfl⟩
  obtain ⟨X2, hX2⟩ : ∃ t, pw x 2 = t := ⟨_, rfl⟩
  obtain ⟨Y2, hY2⟩ : ∃ t, pw y 2 = t := ⟨_, rfl⟩
  obtain ⟨Y, hY⟩ : ∃ t, x ^^^ y = t := ⟨_, rfl⟩
  obtain ⟨S, hS⟩ : ∃ t, pw Y 2 = t := ⟨_, rfl⟩
  have lR : R < 128 := by rw [← hR]; exact pw_lt x 64 lx
  have lX2 : X2 < 128 := by rw [← hX2]; exact pw_lt x 2 lx
  have lY2 : Y2 < 128 := by rw [← hY2]; exact pw_lt y 2 ly
  have lY : Y < 128 := by rw [← hY]; exact xor_lt x y lx ly
  have hall := sq_all x y lx ly
  rw [hY, hX2, hY2, hS] at hall
  have HALL := Lib.hid hall
  have HR := Lib.hid hR
  have HX2 := Lib.hid hX2
  have HY2 := Lib.hid hY2
  have HS := Lib.hid hS
  have HRR : Hid (mul R R = x) := by unfold Hid; rw [← hR]; exact root_all x lx
  have hx1 : bits .xor .i64 (x : Int) (y : Int) = (Y : Int) := by rw [i64_xor_nat x y (by omega) (by omega), hY]
  have hx2 : bits .xor .i64 (X2 : Int) (Y2 : Int) = (S : Int) := by rw [i64_xor_nat X2 Y2 (by omega) (by omega), ← HALL.out.1]
  clear hR hX2 hY2 hY hS hall
  go_enter Try.func8, Try.ntmps8
  go_wp2_with fail
  refine (awake_any _).mono ?_
  rintro e w1 ⟨rfl, hb⟩
  have HA := Lib.hid hb
  clear hb
  go_wp2_with fail
  refine (new_any _).mono ?_
  rintro e w2 ⟨rfl, hb, hf⟩
  have HB0 := Lib.hid (HA.out.trans (hb.mono HA.out.size))
  have hg := HA.out.size
  generalize w1.heap.size = g at *
  have HF0 := Lib.hid hf
  clear hb hf HA
  go_wp2_with fail
  refine (pow_nat x 64 R g _ (by omega) (by omega) HR.out HF0.out).mono ?_
  rintro e w10 ⟨rfl, hq⟩
  have HF1 := Lib.hid (hq.row HF0.out)
  have HB1 := Lib.hid (hq.below HB0.out)
  clear hq HF0 HB0
  go_wp2_with fail
  refine (pow_nat Y 2 S g _ (by omega) (by omega) HS.out HF1.out).mono ?_
  rintro e w11 ⟨rfl, hq⟩
  have HF2 := Lib.hid (hq.row HF1.out)
  have HB2 := Lib.hid (hq.below HB1.out)
  clear hq HF1 HB1
  go_wp2_with fail
  refine (pow_nat x 2 X2 g _ (by omega) (by omega) HX2.out HF2.out).mono ?_
  rintro e w12 ⟨rfl, hq⟩
  have HF3 := Lib.hid (hq.row HF2.out)
  have HB3 := Lib.hid (hq.below HB2.out)
  clear hq HF2 HB2
  go_wp2_with fail
  refine (pow_nat y 2 Y2 g _ (by omega) (by omega) HY2.out HF3.out).mono ?_
  rintro e w13 ⟨rfl, hq⟩
  have HF4 := Lib.hid (hq.row HF3.out)
  have HB4 := Lib.hid (hq.below HB3.out)
  clear hq HF3 HB3
  go_wp2_with fail
  refine (mul_nat R R x g _ (by omega) (by omega) HRR.out HF4.out).mono ?_
  rintro e w14 ⟨rfl, hq⟩
  have HF5 := Lib.hid (hq.row HF4.out)
  have HB5 := Lib.hid (hq.below HB4.out)
  clear hq HF4 HB4
  go_wp2_with fail
  refine (pow_nat x 2 X2 g _ (by omega) (by omega) HX2.out HF5.out).mono ?_
  rintro e w15 ⟨rfl, hq⟩
  have HF6 := Lib.hid (hq.row HF5.out)
  have HB6 := Lib.hid (hq.below HB5.out)
  clear hq HF5 HB5
  go_wp2_with fail
  refine (pow_nat y 2 Y2 g _ (by omega) (by omega) HY2.out HF6.out).mono ?_
  rintro e w16 ⟨rfl, hq⟩
  have HF7 := Lib.hid (hq.row HF6.out)
  have HB7 := Lib.hid (hq.below HB6.out)
  clear hq HF6 HB6
  by_cases hxy : x = y
  · subst hxy
    obtain rfl : X2 = Y2 := by rw [← HX2.out, ← HY2.out]
    go_wp2
    go_ret
    exact ⟨rfl, HB7.out⟩
  · have hne : X2 ≠ Y2 := by
      have := HALL.out.2
      rw [show (x == y) = false by simpa using hxy] at this
      simpa using this
    have e2 : (((X2 : Nat) : Int) == ((Y2 : Nat) : Int)) = false := by rw [beq_eq_false_iff_ne]; omega
    have e3 : (((x : Nat) : Int) == ((y : Nat) : Int)) = false := by rw [beq_eq_false_iff_ne]; omega
    have e2b : (X2 == Y2) = false := by simpa using hne
    have e3b : (x == y) = false := by simpa using hxy
    clear hne hxy
    go_wp2
    go_ret
    exact ⟨rfl, HB7.out⟩
end Go.Proofs.Ytkilhlpgkbpghaa
