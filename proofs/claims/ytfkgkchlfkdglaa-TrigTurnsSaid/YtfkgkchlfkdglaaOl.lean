/-
  Promise 8.1, TrigTurns: a turn by 256 makes both negatives, one by 512 nothing, one by 128 changes places. No conditions but an int.
-/
import Derived.Test.YtfkgkchlfkdglaaOk
namespace Go.Proofs.Ytfkgkchlfkdglaa
open Go.RowKit
open M
set_option maxRecDepth 100000 in
theorem turns_law (k : Int) (w : World) (hk : -9223372036854775808 ≤ k ∧ k ≤ 9223372036854775807) :
    Calls Try.prog 6 #[.int .i64 k] w fun e w' => e = .returned (.bool true) ∧ Below w.heap.size w w' := by
  obtain ⟨z, hz⟩ : ∃ z, k.tmod 1000000 = z := ⟨_, rfl⟩
  have hzb := tmod_million k
  rw [hz] at hzb
  have HZ := Lib.hid hz
  have HB0 := Lib.hid (trg_bd z)
  have H1 := Lib.hid (trg_256 z)
  have H2 := Lib.hid (trg_m512 z)
  have H3 := Lib.hid (trg_128 z)
  obtain ⟨P, hP⟩ : ∃ P, trg z = P := ⟨_, rfl⟩
  rw [hP] at HB0 H1 H2 H3
  have HP := Lib.hid hP
  obtain ⟨x, y⟩ := P
  have hk1 := hk.1
  have hk2 := hk.2
  clear hP
  go_enter Try.func6, Try.ntmps6
  go_wp2_with fail
  refine (awake_any _).mono ?_
  rintro e w1 ⟨rfl, hb⟩
  have HB1 := Lib.hid hb
  clear hb
  have hz2 := HZ.out
  clear hz
  go_wp2_with fail
  refine (turn_any z _ (by omega) (by omega)).mono ?_
  rintro e w2 ⟨rfl, hb⟩
  have HB2 := Lib.hid (HB1.out.trans (hb.mono HB1.out.size))
  clear hb HB1
  rw [HP.out]
  go_wp2_with fail
  refine (turn_any (z + 256) _ (by omega) (by omega)).mono ?_
  rintro e w3 ⟨rfl, hb⟩
  have HB3 := Lib.hid (HB2.out.trans (hb.mono HB2.out.size))
  clear hb HB2
  rw [H1.out]
  go_wp2_with fail
  refine (turn_any (z - 512) _ (by omega) (by omega)).mono ?_
  rintro e w4 ⟨rfl, hb⟩
  have HB4 := Lib.hid (HB3.out.trans (hb.mono HB3.out.size))
  clear hb HB3
  rw [H2.out]
  go_wp2_with fail
  refine (turn_any (z + 128) _ (by omega) (by omega)).mono ?_
  rintro e w5 ⟨rfl, hb⟩
  have HB5 := Lib.hid (HB4.out.trans (hb.mono HB4.out.size))
  clear hb HB4
  rw [H3.out]
  show _
  have hb := HB0.out
  dsimp only [qt]
  go_wp2
  go_ret
  exact ⟨rfl, HB5.out⟩
end Go.Proofs.Ytfkgkchlfkdglaa
