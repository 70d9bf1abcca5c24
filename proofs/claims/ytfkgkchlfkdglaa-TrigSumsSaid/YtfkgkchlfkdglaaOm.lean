/-
  Promise 8.1, TrigSums: the cosine and the sine of two angles' sum are nearly made of theirs. No conditions but two ints.
-/
import Derived.Test.YtfkgkchlfkdglaaOk
namespace Go.Proofs.Ytfkgkchlfkdglaa
open Go.RowKit
open M
theorem tmod_hundred (k : Int) : -100000 < k.tmod 100000 ∧ k.tmod 100000 < 100000 := by
  rcases (show k < 0 ∨ 0 ≤ k by omega) with e | e
  · obtain ⟨m, rfl⟩ : ∃ m : Int, k = -m := ⟨-k, by omega⟩
    rw [Int.neg_tmod, Int.tmod_eq_emod_of_nonneg (by omega)]
    omega
  · rw [Int.tmod_eq_emod_of_nonneg e]
    omega
theorem mul_bd (x y : Int) (h1 : -1073741824 ≤ x) (h2 : x ≤ 1073741824) (h3 : -1073741824 ≤ y) (h4 : y ≤ 1073741824) : -1152921504606846976 ≤ x * y ∧ x * y ≤ 1152921504606846976 := by
  rcases (show y < 0 ∨ 0 ≤ y by omega) with e | e
  · obtain ⟨n, hn⟩ : ∃ n : Nat, -y = n := ⟨(-y).toNat, by omega⟩
    have := mul30 x n h1 h2 (by omega)
    rw [← hn, Int.mul_neg] at this
    omega
  · obtain ⟨n, rfl⟩ : ∃ n : Nat, y = n := ⟨y.toNat, by omega⟩
    exact mul30 x n h1 h2 (by omega)
set_option maxRecDepth 100000 in
theorem sums_law (j k : Int) (w : World) (hj : -9223372036854775808 ≤ j ∧ j ≤ 9223372036854775807) (hk : -9223372036854775808 ≤ k ∧ k ≤ 9223372036854775807) :
    Calls Try.prog 8 #[.int .i64 j, .int .i64 k] w fun e w' => e = .returned (.bool true) ∧ Below w.heap.size w w' := by
  obtain ⟨a, ha⟩ : ∃ z, j.tmod 100000 = z := ⟨_, rfl⟩
  have hab := tmod_hundred j
  rw [ha] at hab
  have Ha := Lib.hid ha
  obtain ⟨b, hb⟩ : ∃ z, k.tmod 100000 = z := ⟨_, rfl⟩
  have hbb := tmod_hundred k
  rw [hb] at hbb
  have Hb := Lib.hid hb
  have HSU := Lib.hid (trg_sums a b)
  have HBx := Lib.hid (trg_bd a)
  obtain ⟨Px, hPx⟩ : ∃ P, trg a = P := ⟨_, rfl⟩
  rw [hPx] at HSU HBx
  have HPx := Lib.hid hPx
  clear hPx
  obtain ⟨x1, x2⟩ := Px
  have HBy := Lib.hid (trg_bd b)
  obtain ⟨Py, hPy⟩ : ∃ P, trg b = P := ⟨_, rfl⟩
  rw [hPy] at HSU HBy
  have HPy := Lib.hid hPy
  clear hPy
  obtain ⟨y1, y2⟩ := Py
  have HBz := Lib.hid (trg_bd (a + b))
  obtain ⟨Pz, hPz⟩ : ∃ P, trg (a + b) = P := ⟨_, rfl⟩
  rw [hPz] at HSU HBz
  have HPz := Lib.hid hPz
  clear hPz
  obtain ⟨z1, z2⟩ := Pz
  have HMA := Lib.hid (mul_bd x1 y1 HBx.out.1 HBx.out.2.1 HBy.out.1 HBy.out.2.1)
  obtain ⟨mA, hmA⟩ : ∃ m, x1 * y1 = m := ⟨_, rfl⟩
  have HMB := Lib.hid (mul_bd x2 y2 HBx.out.2.2.1 HBx.out.2.2.2.1 HBy.out.2.2.1 HBy.out.2.2.2.1)
  obtain ⟨mB, hmB⟩ : ∃ m, x2 * y2 = m := ⟨_, rfl⟩
  have HMC := Lib.hid (mul_bd x1 y2 HBx.out.1 HBx.out.2.1 HBy.out.2.2.1 HBy.out.2.2.2.1)
  obtain ⟨mC, hmC⟩ : ∃ m, x1 * y2 = m := ⟨_, rfl⟩
  have HMD := Lib.hid (mul_bd x2 y1 HBx.out.2.2.1 HBx.out.2.2.2.1 HBy.out.1 HBy.out.2.1)
  obtain ⟨mD, hmD⟩ : ∃ m, x2 * y1 = m := ⟨_, rfl⟩
  have hsum := HSU.out
  dsimp only at hsum
  rw [hmA, hmB, hmC, hmD] at hsum
  rw [hmA] at HMA
  rw [hmB] at HMB
  rw [hmC] at HMC
  rw [hmD] at HMD
  have HSUM := Lib.hid hsum
  have hj1 := hj.1
  have hj2 := hj.2
  have hk1 := hk.1
  have hk2 := hk.2
  have HZB := HBz.out
  dsimp only at HZB
  have HZB2 := Lib.hid (show -1073741824 ≤ z1 ∧ z1 ≤ 1073741824 ∧ -1073741824 ≤ z2 ∧ z2 ≤ 1073741824 from ⟨HZB.1, HZB.2.1, HZB.2.2.1, HZB.2.2.2.1⟩)
  clear hsum HSU HZB HBz
  go_enter Try.func8, Try.ntmps8
  go_wp2_with fail
  refine (awake_any _).mono ?_
  rintro e w1 ⟨rfl, hb⟩
  have HB1 := Lib.hid hb
  clear hb
  have ha2 := Ha.out
  have hb2 := Hb.out
  clear ha hb
  go_wp2_with fail
  refine (turn_any a _ (by omega) (by omega)).mono ?_
  rintro e w2 ⟨rfl, hb⟩
  have HB2 := Lib.hid (HB1.out.trans (hb.mono HB1.out.size))
  clear hb HB1
  rw [HPx.out]
  go_wp2_with fail
  refine (turn_any b _ (by omega) (by omega)).mono ?_
  rintro e w3 ⟨rfl, hb⟩
  have HB3 := Lib.hid (HB2.out.trans (hb.mono HB2.out.size))
  clear hb HB2
  rw [HPy.out]
  go_wp2_with fail
  refine (turn_any (a + b) _ (by omega) (by omega)).mono ?_
  rintro e w4 ⟨rfl, hb⟩
  have HB4 := Lib.hid (HB3.out.trans (hb.mono HB3.out.size))
  clear hb HB3
  rw [HPz.out]
  have qA := HMA.out
  have qB := HMB.out
  have qC := HMC.out
  have qD := HMD.out
  have hs := HSUM.out
  have hz := HZB2.out
  go_wp2_with fail
  refine (size_any ((mA - mB) / 1073741824 - z1) _ (by omega) (by omega)).mono ?_
  rintro e w' ⟨rfl, rfl⟩
  go_wp2_with fail
  refine (size_any ((mC + mD) / 1073741824 - z2) _ (by omega) (by omega)).mono ?_
  rintro e w' ⟨rfl, rfl⟩
  have hfin : ((((mC + mD) / 1073741824 - z2).natAbs : Nat) : Int) ≤ 8192 := by omega
  go_wp2
  go_ret
  exact ⟨rfl, HB4.out⟩
end Go.Proofs.Ytfkgkchlfkdglaa
