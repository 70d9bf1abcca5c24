/-
  Promise 8.1, TrigRises: from 0 to 128 cosines fall, and sines rise. No conditions.
-/
import Derived.Test.YtfkgkchlfkdglaaOh
namespace Go.Proofs.Ytfkgkchlfkdglaa
open Go.RowKit
open M
theorem rises_law (b : UInt8) (w : World) :
    Calls Try.prog 4 #[.int .u8 (ub b)] w fun e w' => e = .returned (.bool true) ∧ Below w.heap.size w w' := by
  obtain ⟨i, hi⟩ : ∃ i, b.toNat % 128 = i := ⟨_, rfl⟩
  have hi1 : i < 128 := by omega
  have hbd := ub_bd b
  have HI : Hid (ub b % 128 = (i : Int)) := by unfold Hid ub; omega
  have HR := Lib.hid (trg_rises i hi1)
  clear hi
  go_enter Try.func4, Try.ntmps4
  go_wp2_with fail
  refine (awake_any _).mono ?_
  rintro e w1 ⟨rfl, hb1⟩
  have HB1 := Lib.hid hb1
  clear hb1
  go_wp2_with fail
  rw [HI.out]
  refine (cos_any ((i : Int) + 1) _ (by omega) (by omega)).mono ?_
  rintro e w2 ⟨rfl, hb2⟩
  have HB2 := Lib.hid (HB1.out.trans (hb2.mono HB1.out.size))
  clear hb2 HB1
  go_wp2_with fail
  refine (cos_any (i : Int) _ (by omega) (by omega)).mono ?_
  rintro e w3 ⟨rfl, hb2⟩
  have HB3 := Lib.hid (HB2.out.trans (hb2.mono HB2.out.size))
  clear hb2 HB2
  have h1 := HR.out.1
  obtain ⟨c0, hc0⟩ : ∃ c, (trg (i : Int)).1 = c := ⟨_, rfl⟩
  obtain ⟨c1, hc1⟩ : ∃ c, (trg ((i : Int) + 1)).1 = c := ⟨_, rfl⟩
  rw [hc0, hc1] at h1
  rw [hc0]
  try rw [hc1]
  clear hc0 hc1
  go_wp2_with fail
  refine (sin_any ((i : Int) + 1) _ (by omega) (by omega)).mono ?_
  rintro e w4 ⟨rfl, hb2⟩
  have HB4 := Lib.hid (HB3.out.trans (hb2.mono HB3.out.size))
  clear hb2 HB3
  go_wp2_with fail
  refine (sin_any (i : Int) _ (by omega) (by omega)).mono ?_
  rintro e w5 ⟨rfl, hb2⟩
  have HB5 := Lib.hid (HB4.out.trans (hb2.mono HB4.out.size))
  clear hb2 HB4
  have h2 := HR.out.2
  obtain ⟨s0, hs0⟩ : ∃ c, (trg (i : Int)).2 = c := ⟨_, rfl⟩
  obtain ⟨s1, hs1⟩ : ∃ c, (trg ((i : Int) + 1)).2 = c := ⟨_, rfl⟩
  rw [hs0, hs1] at h2
  rw [hs0]
  try rw [hs1]
  clear hs0 hs1
  go_wp2
  go_ret
  exact ⟨rfl, HB5.out⟩
end Go.Proofs.Ytfkgkchlfkdglaa
