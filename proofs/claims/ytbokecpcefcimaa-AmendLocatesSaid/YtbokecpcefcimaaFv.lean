/-
  The contract of layer 4's Mul. Conditions: numbers are int's; the Field lies in a block of its own, or is nil.
-/
import Derived.Test.YtbokecpcefcimaaFx
namespace Go.Proofs.Ytbokecpcefcimaa
open Go.RowKit
open M

theorem nil_mul (a b : Int) (w : World) :
    Calls Try.prog 41 #[.pointer none, .int .i64 a, .int .i64 b] w fun e w' => e = .returned (.int .i64 0) ∧ w = w' := by
  go_enter Try.func41, Try.ntmps41
  go_wp2
  go_ret
  exact ⟨rfl, rfl⟩
theorem log_pos (a : Int) (g : Nat) (w : World) (ha : inI a) (h : Fd w g) (h0 : el a ≠ 0) :
    Calls Try.prog 52 #[.pointer (some ⟨g, 0, none⟩), .int .i64 a] w fun e w' => e = .returned (.int .i64 (Lg (el a) : Nat)) ∧ Qt w w' := by
  refine (log_any a g w ha h).mono ?_
  rintro e w1 ⟨rfl, hq⟩
  refine ⟨?_, hq⟩
  unfold lg; rw [if_neg h0]
theorem mul_field (a b : Int) (g : Nat) (w : World) (ha : inI a) (hb : inI b) (h : Fd w g) :
    Calls Try.prog 41 #[.pointer (some ⟨g, 0, none⟩), .int .i64 a, .int .i64 b] w fun e w' => e = .returned (.int .i64 (mul (el a) (el b) : Nat)) ∧ Qt w w' := by
  obtain ⟨p, hp⟩ : ∃ p, el a = p := ⟨_, rfl⟩
  obtain ⟨q, hq⟩ : ∃ q, el b = q := ⟨_, rfl⟩
  have hp1 : p < 128 := by rw [← hp]; exact el_lt a
  have hq1 : q < 128 := by rw [← hq]; exact el_lt b
  have HP := Lib.hid hp
  have HQ := Lib.hid hq
  have HA := Lib.hid ha
  have HB := Lib.hid hb
  have HF := Lib.hid h
  clear ha hb h
  by_cases h0 : p = 0
  · have HR : Hid (mul p q = 0) := by unfold Hid; rw [h0]; exact mul_zl q hq1
    subst h0
    clear hp hq
    go_enter Try.func41, Try.ntmps41
    go_wp2_with fail
    refine (element_any a _ HA.out).mono ?_
    rintro e w1 ⟨rfl, rfl⟩
    rw [HP.out]
    go_wp2
    go_ret
    exact ⟨ret_eq (by rw [HP.out, HQ.out, HR.out]; rfl), Qt.refl _⟩
  · have e0 : (((p : Nat) : Int) == 0) = false := by rw [beq_eq_false_iff_ne]; omega
    have e0' : ((p : Nat) == 0) = false := by rw [beq_eq_false_iff_ne]; omega
    by_cases h1 : q = 0
    · have HR : Hid (mul p q = 0) := by unfold Hid; rw [h1]; exact mul_zr p hp1
      subst h1
      clear hp hq
      go_enter Try.func41, Try.ntmps41
      go_wp2_with fail
      refine (element_any a _ HA.out).mono ?_
      rintro e w1 ⟨rfl, rfl⟩
      rw [HP.out]
      go_wp2_with fail
      refine (element_any b _ HB.out).mono ?_
      rintro e w1 ⟨rfl, rfl⟩
      rw [HQ.out]
      go_wp2
      go_ret
      exact ⟨ret_eq (by rw [HP.out, HQ.out, HR.out]; rfl), Qt.refl _⟩
    · have e1 : (((q : Nat) : Int) == 0) = false := by rw [beq_eq_false_iff_ne]; omega
      have e1' : ((q : Nat) == 0) = false := by rw [beq_eq_false_iff_ne]; omega
      have H0 := Lib.hid h0
      have H1 := Lib.hid h1
      have hLp := Lg_le p hp1
      have hLq := Lg_le q hq1
      have HR := Lib.hid (mul_pos p q hp1 hq1 h0 h1)
      clear hp hq h0 h1
      go_enter Try.func41, Try.ntmps41
      go_wp2_with fail
      refine (element_any a _ HA.out).mono ?_
      rintro e w1 ⟨rfl, rfl⟩
      rw [HP.out]
      go_wp2_with fail
      refine (element_any b _ HB.out).mono ?_
      rintro e w1 ⟨rfl, rfl⟩
      rw [HQ.out]
      go_wp2_with fail
      clear e0 e0' e1 e1'
      refine (log_pos a g _ HA.out HF.out (by rw [HP.out]; exact H0.out)).mono ?_
      rintro e w1 ⟨rfl, hq⟩
      rw [HP.out]
      have HQ1 := Lib.hid hq
      have HF1 := Lib.hid (hq.row HF.out)
      clear hq
      go_wp2_with fail
      refine (log_pos b g _ HB.out HF1.out (by rw [HQ.out]; exact H1.out)).mono ?_
      rintro e w2 ⟨rfl, hq⟩
      rw [HQ.out]
      have HQ2 := Lib.hid (HQ1.out.trans hq)
      have HF2 := Lib.hid (hq.row HF1.out)
      clear hq
      go_wp2_with fail
      refine (exp_any ((Lg p : Nat) + (Lg q : Nat) : Int) g _ ⟨by omega, by omega⟩ HF2.out).mono ?_
      rintro e w3 ⟨rfl, hq⟩
      have HQ3 := Lib.hid (HQ2.out.trans hq)
      clear hq
      go_wp2
      go_ret
      refine ⟨ret_eq ?_, HQ3.out⟩
      rw [HP.out, HQ.out, HR.out]
      congr 2
end Go.Proofs.Ytbokecpcefcimaa
