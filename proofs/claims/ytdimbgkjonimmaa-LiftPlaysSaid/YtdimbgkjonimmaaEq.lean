/-
  Promise 9.1, LiftPlays: any turn, part and factors are the document's; numbers beyond 2^40 stay. No conditions but four ints.
-/
import Derived.Test.YtdimbgkjonimmaaEi
import Derived.Test.YtdimbgkjonimmaaEh
import Derived.Deep.Cut
namespace Go.Proofs.Ytdimbgkjonimmaa
open Go.RowKit
open M
/-- What Turn and Back answer, of any numbers. -/
def tG (a b k : Int) : Int × Int := if (-1099511627776 ≤ a ∧ a ≤ 1099511627776) ∧ (-1099511627776 ≤ b ∧ b ≤ 1099511627776) then lft (a, b) k else (a, b)
def bG (a b k : Int) : Int × Int := if (-1099511627776 ≤ a ∧ a ≤ 1099511627776) ∧ (-1099511627776 ≤ b ∧ b ≤ 1099511627776) then lfb (a, b) k else (a, b)
theorem turnG_any (a b k : Int) (w : World) (ha : -9223372036854775808 ≤ a ∧ a ≤ 9223372036854775807) (hb : -9223372036854775808 ≤ b ∧ b ≤ 9223372036854775807) (hk : -9223372036854775808 ≤ k ∧ k ≤ 9223372036854775807) :
    Calls Try.prog 12 #[.int .i64 a, .int .i64 b, .int .i64 k] w fun e w' => e = .returned (.tuple #[.int .i64 (tG a b k).1, .int .i64 (tG a b k).2]) ∧ Below w.heap.size w w' := by
  by_cases h : (-1099511627776 ≤ a ∧ a ≤ 1099511627776) ∧ (-1099511627776 ≤ b ∧ b ≤ 1099511627776)
  · rw [show tG a b k = lft (a, b) k from if_pos h]
    exact turn_in (a, b) k w ⟨h.1.1, h.1.2, h.2.1, h.2.2⟩ hk.1 hk.2
  · rw [show tG a b k = (a, b) from if_neg h]
    refine (turn_out a b k w ha.1 ha.2 hb.1 hb.2 (by omega)).mono ?_
    rintro e w' ⟨rfl, rfl⟩
    exact ⟨rfl, Below.refl _ _⟩
theorem backG_any (a b k : Int) (w : World) (ha : -9223372036854775808 ≤ a ∧ a ≤ 9223372036854775807) (hb : -9223372036854775808 ≤ b ∧ b ≤ 9223372036854775807) (hk : -9223372036854775808 ≤ k ∧ k ≤ 9223372036854775807) :
    Calls Try.prog 13 #[.int .i64 a, .int .i64 b, .int .i64 k] w fun e w' => e = .returned (.tuple #[.int .i64 (bG a b k).1, .int .i64 (bG a b k).2]) ∧ Below w.heap.size w w' := by
  by_cases h : (-1099511627776 ≤ a ∧ a ≤ 1099511627776) ∧ (-1099511627776 ≤ b ∧ b ≤ 1099511627776)
  · rw [show bG a b k = lfb (a, b) k from if_pos h]
    exact back_in (a, b) k w ⟨h.1.1, h.1.2, h.2.1, h.2.2⟩ hk.1 hk.2
  · rw [show bG a b k = (a, b) from if_neg h]
    refine (back_out a b k w ha.1 ha.2 hb.1 hb.2 (by omega)).mono ?_
    rintro e w' ⟨rfl, rfl⟩
    exact ⟨rfl, Below.refl _ _⟩
theorem far_of (a b k : Int) (h : a < -1099511627776 ∨ 1099511627776 < a ∨ b < -1099511627776 ∨ 1099511627776 < b) : tG a b k = (a, b) ∧ bG a b k = (a, b) :=
  ⟨if_neg (by omega), if_neg (by omega)⟩
set_option maxHeartbeats 4000000 in
set_option maxRecDepth 100000 in
theorem plays_law (a b k m : Int) (w : World) (ha : -9223372036854775808 ≤ a ∧ a ≤ 9223372036854775807) (hb : -9223372036854775808 ≤ b ∧ b ≤ 9223372036854775807) (hk : -9223372036854775808 ≤ k ∧ k ≤ 9223372036854775807) (hm : -9223372036854775808 ≤ m ∧ m ≤ 9223372036854775807) :
    Calls Try.prog 7 #[.int .i64 a, .int .i64 b, .int .i64 k, .int .i64 m] w fun e w' => e = .returned (.bool true) ∧ Below w.heap.size w w' := by
  have HA := Lib.hid ha
  have HB := Lib.hid hb
  have HK := Lib.hid hk
  have HM := Lib.hid hm
  clear ha hb hk hm
  have HPV := Lib.hid (hld_pair a b)
  obtain ⟨x, hx⟩ : ∃ x, hld a = x := ⟨_, rfl⟩
  obtain ⟨y, hy⟩ : ∃ x, hld b = x := ⟨_, rfl⟩
  rw [hx, hy] at HPV
  have Hx := Lib.hid hx
  have Hy := Lib.hid hy
  clear hx hy
  obtain ⟨c, hc⟩ : ∃ P, lft (x, y) k = P := ⟨_, rfl⟩
  have HNc := Lib.hid hc
  clear hc
  obtain ⟨c1, c2⟩ := c
  obtain ⟨fm, hf⟩ : ∃ f, facG m = f := ⟨_, rfl⟩
  have HF := Lib.hid hf
  clear hf
  obtain ⟨f1, f2⟩ := fm
  go_enter Try.func7, Try.ntmps7
  go_wp2_with fail
  refine (awake_any _).mono ?_
  rintro e w1 ⟨rfl, hb⟩
  have HB1 := Lib.hid hb
  clear hb
  go_wp2_with fail
  refine (hld_any a _).mono ?_
  rintro e w' ⟨rfl, rfl⟩
  rw [Hx.out]
  go_wp2_with fail
  refine (hld_any b _).mono ?_
  rintro e w' ⟨rfl, rfl⟩
  rw [Hy.out]
  go_wp2_with fail
  refine (turn_in (x, y) k _ (HPV.out.more (by omega)) HK.out.1 HK.out.2).mono ?_
  rintro e w2 ⟨rfl, hb⟩
  have HB2 := Lib.hid (HB1.out.trans (hb.mono HB1.out.size))
  clear hb HB1
  rw [HNc.out]
  go_wp2_with fail
  refine (turn9_ref (x, y) k _ (HPV.out.more (by omega)) HK.out.1 HK.out.2).mono ?_
  rintro e w' ⟨rfl, rfl⟩
  rw [HNc.out]
  go_upto_region 8 with fail
  go_cut [80] from 52 (fun s80 W => s80 = .bool false ∧ W = w2)
  case first =>
    have hxb := HPV.out.a1
    have hxc := HPV.out.a2
    dsimp only at hxb hxc
    rcases (show m < 0 ∨ 32768 < m ∨ (0 ≤ m ∧ m ≤ 32768) by omega) with e | e | e
    · have HR : Hid (prtG x m = 0) := if_neg (by omega)
      go_wp2_with fail
      refine (part_any x m _ (by omega) (by omega) HM.out.1 HM.out.2).mono ?_
      rintro e w' ⟨rfl, rfl⟩
      rw [HR.out]
      go_wp2_with fail
      go_meet
      case rel => exact ⟨rfl, rfl⟩
    · have HR : Hid (prtG x m = 0) := if_neg (by omega)
      go_wp2_with fail
      refine (part_any x m _ (by omega) (by omega) HM.out.1 HM.out.2).mono ?_
      rintro e w' ⟨rfl, rfl⟩
      rw [HR.out]
      go_wp2_with fail
      go_meet
      case rel => exact ⟨rfl, rfl⟩
    · have HR : Hid (prtG x m = prt x m) := if_pos (by omega)
      obtain ⟨r, hr⟩ : ∃ r, prt x m = r := ⟨_, rfl⟩
      rw [hr] at HR
      have HRR := Lib.hid hr
      clear hr
      by_cases hr0 : r = 0
      all_goals
        go_wp2_with fail
        refine (part_any x m _ (by omega) (by omega) HM.out.1 HM.out.2).mono ?_
        rintro e w' ⟨rfl, rfl⟩
        rw [HR.out]
        go_wp2_with fail
        refine (part_any x m _ (by omega) (by omega) HM.out.1 HM.out.2).mono ?_
        rintro e w' ⟨rfl, rfl⟩
        rw [HR.out]
        go_wp2_with fail
        refine (part_ref x m _ (by omega) (by omega) (by omega) (by omega)).mono ?_
        rintro e w' ⟨rfl, rfl⟩
        rw [HRR.out]
        go_wp2_with fail
        go_meet
        case rel => first | exact ⟨rfl, rfl⟩ | exact ⟨by rw [decide_eq_false (show ¬ m < 0 by omega), decide_eq_false (show ¬ 32768 < m by omega)]; simp, rfl⟩
  case rest =>
    obtain ⟨rfl, rfl⟩ := hcut
    go_wp2_with fail
    refine (factors_any m _ HM.out.1 HM.out.2).mono ?_
    rintro e w3 ⟨rfl, hb⟩
    have HB3 := Lib.hid (HB2.out.trans (hb.mono HB2.out.size))
    clear hb HB2
    rw [HF.out]
    go_upto_region 11 with fail
    go_cut [91] from 86 (fun s91 W => s91 = .bool (decide (m < 0 ∨ 64 < m)) ∧ W = w3)
    case first =>
      rcases (show m < 0 ∨ 64 < m ∨ (0 ≤ m ∧ m ≤ 64) by omega) with e | e | e
      · have HD := Lib.hid (decide_eq_true (show (m < 0 ∨ 64 < m) by omega))
        go_wp2_with fail
        go_meet
        case rel => exact ⟨by rw [HD.out], rfl⟩
      · have HD := Lib.hid (decide_eq_true (show (m < 0 ∨ 64 < m) by omega))
        go_wp2_with fail
        go_meet
        case rel => exact ⟨by rw [HD.out], rfl⟩
      · have HD := Lib.hid (decide_eq_false (show ¬ (m < 0 ∨ 64 < m) by omega))
        go_wp2_with fail
        go_meet
        case rel => exact ⟨by rw [HD.out, decide_eq_false (show ¬ m < 0 by omega), decide_eq_false (show ¬ 64 < m by omega)]; rfl, rfl⟩
    case rest =>
      obtain ⟨rfl, rfl⟩ := hcut
      go_upto_if 91 with fail
      go_cut [] from 86 (fun W => W = wc)
      case first =>
        by_cases e : m < 0 ∨ 64 < m
        · have hf : facG m = (0, 0) := if_neg (by omega)
          rw [HF.out] at hf
          obtain ⟨rfl, rfl⟩ := Prod.mk.inj hf
          clear hf
          rw [decide_eq_true e]
          go_wp2_with fail
          go_meet
          case rel => exact rfl
        · rw [decide_eq_false e]
          obtain ⟨mn, rfl⟩ : ∃ n : Nat, m = n := ⟨m.toNat, by omega⟩
          go_wp2_with fail
          refine (factors_ref mn _ (by omega)).mono ?_
          rintro e w' ⟨rfl, rfl⟩
          rw [HF.out]
          go_wp2_with fail
          go_meet
          case rel => exact rfl
      case rest =>
        obtain rfl := hcut
        by_cases hfar : a < -1099511627776 ∨ 1099511627776 < a ∨ b < -1099511627776 ∨ 1099511627776 < b
        · have HG := Lib.hid (far_of a b k hfar).1
          have HH := Lib.hid (far_of a b k hfar).2
          rcases (show a < -1099511627776 ∨ (-1099511627776 ≤ a ∧ 1099511627776 < a) ∨ ((-1099511627776 ≤ a ∧ a ≤ 1099511627776) ∧ b < -1099511627776) ∨ ((-1099511627776 ≤ a ∧ a ≤ 1099511627776) ∧ -1099511627776 ≤ b ∧ 1099511627776 < b) by omega) with e | e | e | e
          all_goals
            clear hfar
            go_wp2_with fail
            refine (turnG_any a b k _ HA.out HB.out HK.out).mono ?_
            rintro e w4 ⟨rfl, hb⟩
            have HB4 := Lib.hid (HB3.out.trans (hb.mono HB3.out.size))
            clear hb HB3
            rw [HG.out]
            go_wp2_with fail
            refine (backG_any a b k _ HA.out HB.out HK.out).mono ?_
            rintro e w5 ⟨rfl, hb⟩
            have HB5 := Lib.hid (HB4.out.trans (hb.mono HB4.out.size))
            clear hb HB4
            rw [HH.out]
            go_wp2
            go_ret
            exact ⟨rfl, HB5.out⟩
        · obtain ⟨G, hG⟩ : ∃ G, tG a b k = G := ⟨_, rfl⟩
          have HG := Lib.hid hG
          obtain ⟨g1, g2⟩ := G
          obtain ⟨G, hH⟩ : ∃ G, bG a b k = G := ⟨_, rfl⟩
          have HH := Lib.hid hH
          obtain ⟨i1, i2⟩ := G
          clear hG hH
          have e : (-1099511627776 ≤ a ∧ a ≤ 1099511627776) ∧ -1099511627776 ≤ b ∧ b ≤ 1099511627776 := by omega
          clear hfar
          go_wp2_with fail
          refine (turnG_any a b k _ HA.out HB.out HK.out).mono ?_
          rintro e w4 ⟨rfl, hb⟩
          have HB4 := Lib.hid (HB3.out.trans (hb.mono HB3.out.size))
          clear hb HB3
          rw [HG.out]
          go_wp2_with fail
          refine (backG_any a b k _ HA.out HB.out HK.out).mono ?_
          rintro e w5 ⟨rfl, hb⟩
          have HB5 := Lib.hid (HB4.out.trans (hb.mono HB4.out.size))
          clear hb HB4
          rw [HH.out]
          go_wp2
          go_ret
          exact ⟨rfl, HB5.out⟩
end Go.Proofs.Ytdimbgkjonimmaa
