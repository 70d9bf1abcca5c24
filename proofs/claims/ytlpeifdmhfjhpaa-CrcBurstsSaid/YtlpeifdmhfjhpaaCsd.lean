/-
  Layer 15: the document's example (awake), and the law CrcMore. No conditions beyond the law's own.
-/
import Derived.Test.YtlpeifdmhfjhpaaCsc
namespace Go.Proofs.Ytlpeifdmhfjhpaa
open Go.RowKit
open M
theorem sm15_example : sm15 65535 (bl ⟨#[49, 50, 51, 52, 53, 54, 55, 56, 57]⟩) = 10673 := by decide +kernel
theorem awake15_any (w : World) : Calls Try.prog 7 #[] w fun e w' => e = .returned (.bool true) ∧ Below w.heap.size w w' := by
  have H := Lib.hid (sum_any15 ⟨#[49, 50, 51, 52, 53, 54, 55, 56, 57]⟩ w (by decide))
  rw [sm15_example] at H
  go_enter Try.func7, Try.ntmps7
  go_wp2_with fail
  refine Calls.mono H.out ?_
  rintro e w' ⟨rfl, hb⟩
  go_wp2
  go_ret
  exact ⟨rfl, hb⟩
theorem sm15_more (r : Int) (l m : List UInt8) : sm15 ((sm15 r l : Nat) : Int) m = sm15 r (l ++ m) := by
  unfold sm15
  rw [show tb15 (l ++ m) (8 * (l ++ m).length) = tb15 l (8 * l.length) ++ tb15 m (8 * m.length) from tbt_app l m, crun_append]
  generalize crun (BitVec.ofNat 16 (r % 65536).toNat) (tb15 l (8 * l.length)) = X
  have hX := X.isLt
  have e : BitVec.ofNat 16 ((X.toNat : Int) % 65536).toNat = X := by
    apply BitVec.eq_of_toNat_eq
    rw [BitVec.toNat_ofNat]
    omega
  rw [e]
set_option maxRecDepth 100000 in
theorem more_law (r : Int) (s t : ByteArray) (w : World) :
    Calls Try.prog 4 #[.int .i64 r, .string s, .string t] w fun e w' => e = .returned (.bool true) ∧ Below w.heap.size w w' := by
  have HA := Lib.hid fun w => awake15_any w
  by_cases hl : s.size ≤ 600 ∧ t.size ≤ 600
  · obtain ⟨h1, h2⟩ := hl
    have k1 : ¬ ((s.size : Int) > 600) := by omega
    have k2 : ¬ ((t.size : Int) > 600) := by omega
    have hst : (s ++ t).size ≤ 1200 := by rw [ByteArray.size_append]; omega
    have E1 := sm15_more 65535 (bl s) (bl t)
    have E2 := sm15_more r (bl s) (bl t)
    rw [← bl_append] at E1 E2
    have C1 := Lib.hid fun w => sum_any15 s w (by omega)
    have C2 := Lib.hid fun w => more_any ((sm15 65535 (bl s) : Nat) : Int) t w (by omega)
    have C3 := Lib.hid fun w => sum_any15 (s ++ t) w (by omega)
    have C4 := Lib.hid fun w => more_any r s w (by omega)
    have C5 := Lib.hid fun w => more_any ((sm15 r (bl s) : Nat) : Int) t w (by omega)
    have C6 := Lib.hid fun w => more_any r (s ++ t) w (by omega)
    rw [E1] at C2
    rw [E2] at C5
    have hsz : ¬ 9223372036854775807 < s.size + t.size := by omega
    clear E1 E2
    generalize sm15 65535 (bl s) = a at *
    generalize sm15 65535 (bl (s ++ t)) = b at *
    generalize sm15 r (bl s) = c at *
    generalize sm15 r (bl (s ++ t)) = d at *
    go_enter Try.func4, Try.ntmps4
    go_wp2_with fail
    refine (HA.out _).mono ?_
    rintro e w1 ⟨rfl, hb⟩
    go_wp2_with fail
    refine (C1.out _).mono ?_
    rintro e w2 ⟨rfl, hb2⟩
    have hb := hb.trans (hb2.mono hb.size)
    clear hb2
    go_wp2_with fail
    refine (C2.out _).mono ?_
    rintro e w3 ⟨rfl, hb2⟩
    have hb := hb.trans (hb2.mono hb.size)
    clear hb2
    go_wp2_with fail
    refine (C3.out _).mono ?_
    rintro e w4 ⟨rfl, hb2⟩
    have hb := hb.trans (hb2.mono hb.size)
    clear hb2
    go_wp2_with fail
    refine (C4.out _).mono ?_
    rintro e w5 ⟨rfl, hb2⟩
    have hb := hb.trans (hb2.mono hb.size)
    clear hb2
    go_wp2_with fail
    refine (C5.out _).mono ?_
    rintro e w6 ⟨rfl, hb2⟩
    have hb := hb.trans (hb2.mono hb.size)
    clear hb2
    go_wp2_with fail
    refine (C6.out _).mono ?_
    rintro e w7 ⟨rfl, hb2⟩
    have hb := hb.trans (hb2.mono hb.size)
    clear hb2
    go_wp2
    go_ret
    exact ⟨by first | rfl | simp, hb⟩
  · by_cases h1 : 600 < s.size
    · have k1 : (600 : Int) < (s.size : Int) := by omega
      clear hl h1
      go_enter Try.func4, Try.ntmps4
      go_wp2_with fail
      refine (HA.out _).mono ?_
      rintro e w1 ⟨rfl, hb⟩
      go_wp2_with fail
      refine (HA.out _).mono ?_
      rintro e w2 ⟨rfl, hb2⟩
      have hb := hb.trans (hb2.mono hb.size)
      clear hb2
      go_wp2
      go_ret
      exact ⟨by first | rfl | simp, hb⟩
    · have k1 : ¬ (600 : Int) < (s.size : Int) := by omega
      have k2 : (600 : Int) < (t.size : Int) := by omega
      clear hl h1
      go_enter Try.func4, Try.ntmps4
      go_wp2_with fail
      refine (HA.out _).mono ?_
      rintro e w1 ⟨rfl, hb⟩
      go_wp2_with fail
      refine (HA.out _).mono ?_
      rintro e w2 ⟨rfl, hb2⟩
      have hb := hb.trans (hb2.mono hb.size)
      clear hb2
      go_wp2
      go_ret
      exact ⟨by first | rfl | simp, hb⟩
end Go.Proofs.Ytlpeifdmhfjhpaa
