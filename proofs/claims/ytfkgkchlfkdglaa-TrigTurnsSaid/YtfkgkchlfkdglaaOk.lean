/-
  Promise 8.1, TrigClose: the cosine of k is nearly the sine of 128 - k; the sum of the squares is nearly 2^60. No conditions but an int.
-/
import Derived.Test.YtfkgkchlfkdglaaOh
namespace Go.Proofs.Ytfkgkchlfkdglaa
open Go.RowKit
open M
theorem tmod_million (k : Int) : -1000000 < k.tmod 1000000 ∧ k.tmod 1000000 < 1000000 := by
  rcases (show k < 0 ∨ 0 ≤ k by omega) with e | e
  · obtain ⟨m, rfl⟩ : ∃ m : Int, k = -m := ⟨-k, by omega⟩
    rw [Int.neg_tmod, Int.tmod_eq_emod_of_nonneg (by omega)]
    omega
  · rw [Int.tmod_eq_emod_of_nonneg e]
    omega
theorem sq_bd (x : Int) (h1 : -1073741824 ≤ x) (h2 : x ≤ 1073741824) : 0 ≤ x * x ∧ x * x ≤ 1152921504606846976 := by
  rcases (show x < 0 ∨ 0 ≤ x by omega) with e | e
  · have a : 0 ≤ (-x) * (-x) := Int.mul_nonneg (by omega) (by omega)
    have b : (-x) * (-x) ≤ 1073741824 * 1073741824 := Int.mul_le_mul (by omega) (by omega) (by omega) (by omega)
    rw [Int.neg_mul_neg] at a b
    omega
  · have a : 0 ≤ x * x := Int.mul_nonneg e e
    have b : x * x ≤ 1073741824 * 1073741824 := Int.mul_le_mul h2 h2 e (by omega)
    omega
set_option maxRecDepth 100000 in
theorem close_law (k : Int) (w : World) (hk : -9223372036854775808 ≤ k ∧ k ≤ 9223372036854775807) :
    Calls Try.prog 5 #[.int .i64 k] w fun e w' => e = .returned (.bool true) ∧ Below w.heap.size w w' := by
  obtain ⟨z, hz⟩ : ∃ z, k.tmod 1000000 = z := ⟨_, rfl⟩
  have hzb := tmod_million k
  rw [hz] at hzb
  have HZ := Lib.hid hz
  have HB0 := Lib.hid (trg_bd z)
  have HC0 := Lib.hid (trg_close z)
  obtain ⟨x, hx⟩ : ∃ x, (trg z).1 = x := ⟨_, rfl⟩
  obtain ⟨y, hy⟩ : ∃ x, (trg z).2 = x := ⟨_, rfl⟩
  obtain ⟨s, hs⟩ : ∃ x, (trg (128 - z)).2 = x := ⟨_, rfl⟩
  have HSB := Lib.hid (trg_bd (128 - z))
  rw [hx, hy] at HB0
  rw [hx, hs] at HC0
  rw [hs] at HSB
  have HX := Lib.hid hx
  have HY := Lib.hid hy
  have HS := Lib.hid hs
  obtain ⟨p, hp⟩ : ∃ p, x * x = p := ⟨_, rfl⟩
  obtain ⟨q, hq⟩ : ∃ p, y * y = p := ⟨_, rfl⟩
  have HP := Lib.hid (sq_bd x HB0.out.1 HB0.out.2.1)
  have HQ := Lib.hid (sq_bd y HB0.out.2.2.1 HB0.out.2.2.2.1)
  rw [hp, hq] at HB0
  rw [hp] at HP
  rw [hq] at HQ
  have hk1 := hk.1
  have hk2 := hk.2
  clear hx hy hs
  go_enter Try.func5, Try.ntmps5
  go_wp2_with fail
  refine (awake_any _).mono ?_
  rintro e w1 ⟨rfl, hb⟩
  have HB1 := Lib.hid hb
  clear hb
  have hz2 := HZ.out
  clear hz
  go_wp2_with fail
  refine (turn_any z _ (by omega) (by omega)).mono ?_
  rintro e w2 ⟨rfl, hb⟩
  have HB2 := Lib.hid (HB1.out.trans (hb.mono HB1.out.size))
  clear hb HB1
  rw [HX.out, HY.out]
  go_wp2_with fail
  refine (sin_any (128 - z) _ (by omega) (by omega)).mono ?_
  rintro e w3 ⟨rfl, hb⟩
  have HB3 := Lib.hid (HB2.out.trans (hb.mono HB2.out.size))
  clear hb HB2
  rw [HS.out]
  have hc := HC0.out
  have hb := HB0.out
  have hsb := HSB.out
  have hpb := HP.out
  have hqb := HQ.out
  go_wp2_with fail
  refine (size_any (x - s) _ (by omega) (by omega)).mono ?_
  rintro e w' ⟨rfl, rfl⟩
  go_wp2_with fail
  refine (size_any (p + q - 1152921504606846976) _ (by omega) (by omega)).mono ?_
  rintro e w' ⟨rfl, rfl⟩
  go_wp2_with fail
  refine (cos_any z _ (by omega) (by omega)).mono ?_
  rintro e w4 ⟨rfl, hb⟩
  have HB4 := Lib.hid (HB3.out.trans (hb.mono HB3.out.size))
  clear hb HB3
  rw [HX.out]
  go_wp2_with fail
  refine (sin_any z _ (by omega) (by omega)).mono ?_
  rintro e w5 ⟨rfl, hb⟩
  have HB5 := Lib.hid (HB4.out.trans (hb.mono HB4.out.size))
  clear hb HB4
  rw [HY.out]
  go_wp2
  go_ret
  exact ⟨rfl, HB5.out⟩
end Go.Proofs.Ytfkgkchlfkdglaa
