/-
  Promises 9.1 and 9.2, LiftBack: Back undoes Turn, and Turn Back. No conditions but three ints.
-/
import Derived.Test.YtdimbgkjonimmaaEi
namespace Go.Proofs.Ytdimbgkjonimmaa
open Go.RowKit
open M
set_option maxRecDepth 100000 in
theorem back_law (a b k : Int) (w : World) (hk : -9223372036854775808 ≤ k ∧ k ≤ 9223372036854775807) :
    Calls Try.prog 3 #[.int .i64 a, .int .i64 b, .int .i64 k] w fun e w' => e = .returned (.bool true) ∧ Below w.heap.size w w' := by
  have hk1 := hk.1
  have hk2 := hk.2
  clear hk
  have HPV := Lib.hid (hld_pair a b)
  obtain ⟨x, hx⟩ : ∃ x, hld a = x := ⟨_, rfl⟩
  obtain ⟨y, hy⟩ : ∃ x, hld b = x := ⟨_, rfl⟩
  rw [hx, hy] at HPV
  have Hx := Lib.hid hx
  have Hy := Lib.hid hy
  clear hx hy
  have HBA := Lib.hid (lft_bd HPV.out (by omega) k)
  have HBB := Lib.hid (lfb_bd HPV.out (by omega) k)
  have HU := Lib.hid (lfb_lft (x, y) k)
  have HV := Lib.hid (lft_lfb (x, y) k)
  obtain ⟨c, hc⟩ : ∃ P, lft (x, y) k = P := ⟨_, rfl⟩
  rw [hc] at HBA HU
  have HNc := Lib.hid hc
  clear hc
  obtain ⟨c1, c2⟩ := c
  obtain ⟨g, hg⟩ : ∃ P, lfb (x, y) k = P := ⟨_, rfl⟩
  rw [hg] at HBB HV
  have HNg := Lib.hid hg
  clear hg
  obtain ⟨g1, g2⟩ := g
  go_enter Try.func3, Try.ntmps3
  go_wp2_with fail
  refine (awake_any _).mono ?_
  rintro e w1 ⟨rfl, hb⟩
  have HB1 := Lib.hid hb
  clear hb
  go_wp2_with fail
  refine (hld_any a _).mono ?_
  rintro e w' ⟨rfl, rfl⟩
  rw [Hx.out]
  go_wp2_with fail
  refine (hld_any b _).mono ?_
  rintro e w' ⟨rfl, rfl⟩
  rw [Hy.out]
  go_wp2_with fail
  refine (turn_in (x, y) k _ (HPV.out.more (by omega)) hk1 hk2).mono ?_
  rintro e w2 ⟨rfl, hb⟩
  have HB2 := Lib.hid (HB1.out.trans (hb.mono HB1.out.size))
  clear hb HB1
  rw [HNc.out]
  go_wp2_with fail
  refine (back_in (c1, c2) k _ (HBA.out.more (by omega)) hk1 hk2).mono ?_
  rintro e w3 ⟨rfl, hb⟩
  have HB3 := Lib.hid (HB2.out.trans (hb.mono HB2.out.size))
  clear hb HB2
  rw [HU.out]
  go_wp2_with fail
  refine (back_in (x, y) k _ (HPV.out.more (by omega)) hk1 hk2).mono ?_
  rintro e w4 ⟨rfl, hb⟩
  have HB4 := Lib.hid (HB3.out.trans (hb.mono HB3.out.size))
  clear hb HB3
  rw [HNg.out]
  go_wp2_with fail
  refine (turn_in (g1, g2) k _ (HBB.out.more (by omega)) hk1 hk2).mono ?_
  rintro e w5 ⟨rfl, hb⟩
  have HB5 := Lib.hid (HB4.out.trans (hb.mono HB4.out.size))
  clear hb HB4
  rw [HV.out]
  go_wp2
  go_ret
  exact ⟨rfl, HB5.out⟩
end Go.Proofs.Ytdimbgkjonimmaa
