/-
  Promises 9.1 and 9.2, LiftQuarters: a turn by 0 changes nothing, one by 256 makes both negatives, a right angle more is a quarter more. No conditions but three ints.
-/
import Derived.Test.YtdimbgkjonimmaaEi
namespace Go.Proofs.Ytdimbgkjonimmaa
open Go.RowKit
open M
set_option maxRecDepth 100000 in
theorem quarters_law (a b k : Int) (w : World) (hk : -9223372036854775808 ≤ k ∧ k ≤ 9223372036854775807) :
    Calls Try.prog 5 #[.int .i64 a, .int .i64 b, .int .i64 k] w fun e w' => e = .returned (.bool true) ∧ Below w.heap.size w w' := by
  have hzb := tmod_bd k 100000 (by omega)
  obtain ⟨z, hz⟩ : ∃ z, k.tmod 100000 = z := ⟨_, rfl⟩
  rw [hz] at hzb
  have HZ := Lib.hid hz
  clear hz
  have hk1 := hk.1
  have hk2 := hk.2
  clear hk
  have HPV := Lib.hid (hld_pair a b)
  obtain ⟨x, hx⟩ : ∃ x, hld a = x := ⟨_, rfl⟩
  obtain ⟨y, hy⟩ : ∃ x, hld b = x := ⟨_, rfl⟩
  rw [hx, hy] at HPV
  have Hx := Lib.hid hx
  have Hy := Lib.hid hy
  clear hx hy
  have H0 := Lib.hid (lft_zero (x, y))
  have H2 := Lib.hid (lft_256 (x, y))
  have H1 := Lib.hid (lft_128 (x, y) z)
  have H5 := Lib.hid (lft_512 (x, y) z)
  have HBA := Lib.hid (lft_bd HPV.out (by omega) z)
  obtain ⟨g, hg⟩ : ∃ P, lft (x, y) z = P := ⟨_, rfl⟩
  rw [hg] at H1 H5 HBA
  have HNg := Lib.hid hg
  clear hg
  obtain ⟨g1, g2⟩ := g
  go_enter Try.func5, Try.ntmps5
  go_wp2_with fail
  refine (awake_any _).mono ?_
  rintro e w1 ⟨rfl, hb⟩
  have HB1 := Lib.hid hb
  clear hb
  go_wp2_with fail
  refine (hld_any a _).mono ?_
  rintro e w' ⟨rfl, rfl⟩
  rw [Hx.out]
  go_wp2_with fail
  refine (hld_any b _).mono ?_
  rintro e w' ⟨rfl, rfl⟩
  rw [Hy.out]
  have hzz := HZ.out
  go_wp2_with fail
  refine (turn_in (x, y) 0 _ (HPV.out.more (by omega)) (by omega) (by omega)).mono ?_
  rintro e w2 ⟨rfl, hb⟩
  have HB2 := Lib.hid (HB1.out.trans (hb.mono HB1.out.size))
  clear hb HB1
  rw [H0.out]
  go_wp2_with fail
  refine (turn_in (x, y) 256 _ (HPV.out.more (by omega)) (by omega) (by omega)).mono ?_
  rintro e w3 ⟨rfl, hb⟩
  have HB3 := Lib.hid (HB2.out.trans (hb.mono HB2.out.size))
  clear hb HB2
  rw [H2.out]
  go_wp2_with fail
  refine (turn_in (x, y) z _ (HPV.out.more (by omega)) (by omega) (by omega)).mono ?_
  rintro e w4 ⟨rfl, hb⟩
  have HB4 := Lib.hid (HB3.out.trans (hb.mono HB3.out.size))
  clear hb HB3
  rw [HNg.out]
  go_wp2_with fail
  refine (turn_in (x, y) (z + 128) _ (HPV.out.more (by omega)) (by omega) (by omega)).mono ?_
  rintro e w5 ⟨rfl, hb⟩
  have HB5 := Lib.hid (HB4.out.trans (hb.mono HB4.out.size))
  clear hb HB4
  rw [H1.out]
  go_wp2_with fail
  refine (turn_in (x, y) (z + 512) _ (HPV.out.more (by omega)) (by omega) (by omega)).mono ?_
  rintro e w6 ⟨rfl, hb⟩
  have HB6 := Lib.hid (HB5.out.trans (hb.mono HB5.out.size))
  clear hb HB5
  rw [H5.out]
  have q1 := HPV.out.a1
  have q2 := HPV.out.a2
  have q3 := HPV.out.b1
  have q4 := HPV.out.b2
  have q5 := HBA.out.a1
  have q6 := HBA.out.a2
  have q7 := HBA.out.b1
  have q8 := HBA.out.b2
  dsimp only at q1 q2 q3 q4 q5 q6 q7 q8
  dsimp only [qt]
  go_wp2
  go_ret
  exact ⟨rfl, HB6.out⟩
end Go.Proofs.Ytdimbgkjonimmaa
