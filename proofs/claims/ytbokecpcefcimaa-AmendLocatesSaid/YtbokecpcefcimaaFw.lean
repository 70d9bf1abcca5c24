/-
  The contracts of layer 4's rest, element, double, New, Exp, Log. Conditions: numbers are int's; the Field lies in a block of its own.
-/
import Derived.Test.YtbokecpcefcimaaBg
import Derived.Test.YtbokecpcefcimaaBi
import Derived.Test.YtbokecpcefcimaaFa
namespace Go.Proofs.Ytbokecpcefcimaa
open Go.RowKit
open M

def inI (x : Int) : Prop := -9223372036854775808 ≤ x ∧ x ≤ 9223372036854775807
/-- Nothing but draws. -/
def Qt (w w' : World) : Prop := ∃ n, w' = w.drewN n
theorem Qt.refl (w : World) : Qt w w := ⟨0, rfl⟩
theorem Qt.of (w : World) (n : Nat) : Qt w (w.drewN n) := ⟨n, rfl⟩
theorem Qt.row {w w' : World} {g : Nat} {t : TypeId} {cs : Array Value} (q : Qt w w') (h : Row w g t cs) : Row w' g t cs := by
  obtain ⟨n, rfl⟩ := q; exact h.drewN n
theorem Qt.below {B : Nat} {a w w' : World} (q : Qt w w') (h : Below B a w) : Below B a w' := by
  obtain ⟨n, rfl⟩ := q; exact Below.drewN h n
theorem Qt.trans {a b c : World} (h : Qt a b) (k : Qt b c) : Qt a c := by
  obtain ⟨n, rfl⟩ := h; obtain ⟨m, rfl⟩ := k; exact ⟨n + m, World.drewN_drewN ..⟩

theorem tmod_rest (x m : Int) (hm : 0 < m) : (x.tmod m = x % m ∨ x.tmod m < 0 ∧ x.tmod m + m = x % m) ∧ -m < x.tmod m ∧ x.tmod m < m := by
  have b2 := Int.tmod_lt_of_pos x hm
  rcases Int.le_total 0 x with h | h
  · have h1 := Int.tmod_nonneg m h
    exact ⟨Or.inl (Int.tmod_eq_emod_of_nonneg h), by omega, b2⟩
  · have h3 := Int.tmod_lt_of_pos (-x) hm
    rw [Int.neg_tmod] at h3
    have h1 := Int.tmod_nonneg m (show 0 ≤ -x by omega)
    rw [Int.neg_tmod] at h1
    have e : x.tmod m = -((-x) % m) := by rw [← Int.tmod_eq_emod_of_nonneg (show 0 ≤ -x by omega), Int.neg_tmod, Int.neg_neg]
    refine ⟨?_, by omega, b2⟩
    by_cases h0 : (-x) % m = 0
    · left
      have d : m ∣ x := (Int.dvd_neg).1 (Int.dvd_of_emod_eq_zero h0)
      rw [e, h0, Int.emod_eq_zero_of_dvd d]; rfl
    · right
      have p := Int.emod_nonneg (-x) (show m ≠ 0 by omega)
      have q := Int.emod_lt_of_pos (-x) hm
      refine ⟨by omega, ?_⟩
      have e2 : x % m = (m - (-x) % m) % m := by
        rw [Int.sub_emod, Int.emod_emod_of_dvd _ (Int.dvd_refl m), ← Int.sub_emod, show m - -x = x + m by omega, Int.add_emod_right]
      rw [e2, Int.emod_eq_of_lt (by omega) (by omega)]
      omega

theorem rest127 (x : Int) (w : World) (hx : inI x) :
    Calls Try.prog 50 #[.int .i64 x, .int .i64 127] w fun e w' => e = .returned (.int .i64 (re x : Nat)) ∧ w = w' := by
  obtain ⟨h1, h2⟩ := hx
  obtain ⟨he, b1, b2⟩ := tmod_rest x 127 (by decide)
  have HE := Lib.hid he
  clear he
  have HF := Lib.hid (re_int x)
  by_cases h0 : x.tmod 127 < 0
  · go_enter Try.func50, Try.ntmps50
    go_wp2
    go_ret
    exact ⟨ret_eq (by rw [HF.out]; have := HE.out; omega), rfl⟩
  · go_enter Try.func50, Try.ntmps50
    go_wp2
    go_ret
    exact ⟨ret_eq (by rw [HF.out]; have := HE.out; omega), rfl⟩
theorem rest128 (x : Int) (w : World) (hx : inI x) :
    Calls Try.prog 50 #[.int .i64 x, .int .i64 128] w fun e w' => e = .returned (.int .i64 (el x : Nat)) ∧ w = w' := by
  obtain ⟨h1, h2⟩ := hx
  obtain ⟨he, b1, b2⟩ := tmod_rest x 128 (by decide)
  have HE := Lib.hid he
  clear he
  have HF := Lib.hid (el_int x)
  by_cases h0 : x.tmod 128 < 0
  · go_enter Try.func50, Try.ntmps50
    go_wp2
    go_ret
    exact ⟨ret_eq (by rw [HF.out]; have := HE.out; omega), rfl⟩
  · go_enter Try.func50, Try.ntmps50
    go_wp2
    go_ret
    exact ⟨ret_eq (by rw [HF.out]; have := HE.out; omega), rfl⟩
theorem element_any (x : Int) (w : World) (hx : inI x) :
    Calls Try.prog 49 #[.int .i64 x] w fun e w' => e = .returned (.int .i64 (el x : Nat)) ∧ w = w' := by
  go_enter Try.func49, Try.ntmps49
  go_wp2_with fail
  refine (rest128 x _ hx).mono ?_
  rintro e w1 ⟨rfl, rfl⟩
  go_wp2
  go_ret
  exact ⟨rfl, rfl⟩
theorem double_any (a : Nat) (w : World) (ha : a < 128) :
    Calls Try.prog 48 #[.int .i64 a] w fun e w' => e = .returned (.int .i64 (dblE a : Nat)) ∧ w = w' := by
  by_cases h : 128 ≤ 2 * a
  · have hx : bits .xor .i64 ((a : Int) * 2) 137 = (((2 * a) ^^^ 137 : Nat) : Int) := by
      have := i64_xor_nat (2 * a) 137 (by omega) (by omega)
      rw [show ((2 * a : Nat) : Int) = (a : Int) * 2 by omega] at this
      exact this
    have HD : Hid (dblE a = (2 * a) ^^^ 137) := by unfold Hid dblE; rw [if_pos h]
    have h' : 128 ≤ (a : Int) * 2 := by omega
    clear h
    go_enter Try.func48, Try.ntmps48
    go_wp2
    go_ret
    exact ⟨ret_eq (by rw [HD.out]), rfl⟩
  · have HD : Hid (dblE a = 2 * a) := by unfold Hid dblE; rw [if_neg h]
    have h' : ¬ (128 ≤ (a : Int) * 2) := by omega
    clear h
    go_enter Try.func48, Try.ntmps48
    go_wp2
    go_ret
    exact ⟨ret_eq (by rw [HD.out]; omega), rfl⟩
end Go.Proofs.Ytbokecpcefcimaa
