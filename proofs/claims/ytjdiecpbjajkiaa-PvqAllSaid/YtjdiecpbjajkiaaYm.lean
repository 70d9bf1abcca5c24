/-
  PvqOrder, walked. No conditions.
-/
import Derived.Test.YtjdiecpbjajkiaaYl
namespace Go.Proofs.Ytjdiecpbjajkiaa
open Go.RowKit
open M
set_option maxRecDepth 100000 in
set_option maxHeartbeats 1000000 in
theorem order_law (a b : UInt8) (z t : Int) (w : World) (hz : 0 ≤ z ∧ z ≤ 4294967295) (ht : 0 ≤ t ∧ t ≤ 4294967295) :
    Calls Try.prog 4 #[.int .u8 (ub a), .int .u8 (ub b), .int .u32 z, .int .u32 t] w fun e w' => e = .returned (.bool true) ∧ Below w.heap.size w w' := by
  obtain ⟨ha1, ha2⟩ := ub_bd a
  obtain ⟨hb1, hb2⟩ := ub_bd b
  obtain ⟨hz1, hz2⟩ := hz
  obtain ⟨ht1, ht2⟩ := ht
  generalize ub a = x at *
  generalize ub b = y at *
  obtain ⟨m, hm⟩ : ∃ m : Nat, x % 9 = m := ⟨(x % 9).toNat, by omega⟩
  obtain ⟨q, hq⟩ : ∃ q : Nat, y % 13 = q := ⟨(y % 13).toNat, by omega⟩
  have hmI : (m : Int) ≤ 8 := by omega
  have hqI : (q : Int) < 13 := by omega
  have HAW := Lib.hid awake_any
  have C1 := Lib.hid fun w => count_at (m : Int) (q : Int) m q w rfl rfl (by omega) (by omega)
  have hcb := cn_big m q (by omega) (by omega)
  by_cases hc0 : cn13 m q = 0
  · rw [hc0] at C1
    go_enter Try.func4, Try.ntmps4
    go_wp2_with fail
    refine (HAW.out w).mono ?_
    rintro e w1 ⟨rfl, hb⟩
    have HB1 := Lib.hid hb
    clear hb
    go_wp2_with fail
    refine (C1.out w1).mono ?_
    rintro e w2 ⟨rfl, hb⟩
    have HB2 := Lib.hid (HB1.out.trans (hb.mono HB1.out.size))
    clear hb HB1
    go_wp2
    go_ret
    exact ⟨rfl, HB2.out⟩
  · obtain ⟨A, hA1, hA2, hA3⟩ := u32_mod z (cn13 m q) hz1 (by omega)
    obtain ⟨D, hD1, hD2, hD3⟩ := u32_mod t (cn13 m q) ht1 (by omega)
    have V1 := Lib.hid fun w => vector_at (m : Int) (q : Int) (A : Int) m q A w rfl rfl rfl (by omega) (by omega) hA3
    have V2 := Lib.hid fun w => vector_at (m : Int) (q : Int) (D : Int) m q D w rfl rfl rfl (by omega) (by omega) hD3
    obtain ⟨lA, pA, iA⟩ := vc_all m q A hA3
    obtain ⟨lD, pD, iD⟩ := vc_all m q D hD3
    have oA := Lib.hid (vc_one m q A (by omega) hA3)
    have oD := Lib.hid (vc_one m q D (by omega) hD3)
    have HFU := Lib.hid fun j => first_unlike (vc13 m q A) (vc13 m q D) j (by rw [lA, lD]) (by rw [pA, pD])
    have HTM := Lib.hid fun j => take_more (vc13 m q A) (vc13 m q D) j
    have HEQ : Hid ((vc13 m q A).take m = (vc13 m q D).take m → A = D) := Lib.hid fun h => by
      rw [List.take_of_length_le (by omega), List.take_of_length_le (by omega)] at h
      rw [← iA, h, iD]
    obtain ⟨c, hc⟩ : ∃ c, cn13 m q = c := ⟨_, rfl⟩
    rw [hc] at C1 hcb hA1 hA2 hD1 hD2 hc0 hA3 hD3
    have hcI : (c : Int) ≠ 0 := by omega
    have hcp : (0 : Int) < (c : Int) := by omega
    have hcz : ((c : Int) == 0) = false := by rw [beq_eq_false_iff_ne]; omega
    rw [iA, iD, lA] at HFU
    rw [lA, lD] at HTM
    obtain ⟨VA, hVA⟩ : ∃ VA, vc13 m q A = VA := ⟨_, rfl⟩
    obtain ⟨VB, hVB⟩ : ∃ VB, vc13 m q D = VB := ⟨_, rfl⟩
    rw [hVA] at V1 HFU HTM HEQ oA lA
    rw [hVB] at V2 HFU HTM HEQ oD lD
    have HL1 := Lib.hid lA
    have HL2 := Lib.hid lD
    clear hVA hVB hc lA lD pA pD iA iD hA3 hD3
    go_enter Try.func4, Try.ntmps4
    go_wp2_with fail
    refine (HAW.out w).mono ?_
    rintro e w1 ⟨rfl, hb⟩
    have HB1 := Lib.hid hb
    clear hb
    go_wp2_with fail
    refine (C1.out w1).mono ?_
    rintro e w2 ⟨rfl, hb⟩
    have HB2 := Lib.hid (HB1.out.trans (hb.mono HB1.out.size))
    clear hb HB1
    go_wp2_with fail
    go_region
    have HB2 := Lib.hid (below_drew1 HB2.out)
    generalize w2.drew = w20 at *
    go_wp2_with fail
    refine (V1.out w20).mono ?_
    rintro e w3 ⟨⟨a1, cap1, rfl, hi1⟩, hb⟩
    have HB3 := Lib.hid (HB2.out.trans (hb.mono HB2.out.size))
    clear hb HB2
    go_wp2_with fail
    refine (V2.out w3).mono ?_
    rintro e w4 ⟨⟨a2, cap2, rfl, hi2⟩, hb⟩
    have HC1 := Lib.hid fun h => ints_cells (hi1.below hb) HL1.out h
    have HC2 := Lib.hid fun h => ints_cells hi2 HL2.out h
    have HB4 := Lib.hid (HB3.out.trans (hb.mono HB3.out.size))
    clear hb HB3 hi2 hi1
    go_wp2_with fail
    clear hA1 hA2 hD1 hD2 hcz hcI hcp hcb C1 V1 V2 HAW
    go_loopw [18] (fun jj wr => ∃ j : Nat, j ≤ m ∧ jj = .int .i64 j ∧ VA.take j = VB.take j ∧ Below w4.heap.size w4 wr) (fun jj _ => m - (intOf jj).toNat)
    case atStart => exact ⟨0, by omega, rfl, rfl, Below.refl _ _⟩
    case round =>
      obtain ⟨j, hj, rfl, htk, hbw⟩ := hrel
      rcases Nat.lt_or_ge j m with hlt | hge
      · obtain ⟨b1, o1, rfl, hl1, hc1⟩ := HC1.out (by omega)
        obtain ⟨b2, o2, rfl, hl2, hc2⟩ := HC2.out (by omega)
        have g1 := (hbw.cell (p := ⟨b1, o1 + j, none⟩) hl1).trans (hc1 j hlt)
        have g2 := (hbw.cell (p := ⟨b2, o2 + j, none⟩) hl2).trans (hc2 j hlt)
        have hfu := HFU.out j hlt htk
        have htm := HTM.out j hlt hlt htk
        have h1 := oA.out j hlt
        have h2 := oD.out j hlt
        generalize VA.getD j 0 = xa at *
        generalize VB.getD j 0 = xb at *
        have HB := Lib.hid (below_drew1 hbw)
        have HJ := Lib.hid hlt
        have hjm : (j : Int) < (m : Int) := by omega
        by_cases hne : xa = xb
        · have HT := Lib.hid (htm hne)
          subst hne
          clear hc1 hc2 hj hbw hl1 hl2 HC1 HC2 hfu htm htk h1 h2
          go_wp2_with fail
          refine wp_region_still_lit (by kernel_rfl) (by kernel_rfl) ?_
          repeat still_step
          refine wpStill_nil ?_
          rw [show ({ wr with drawn := wr.drawn + 1 } : World) = wr.drew from rfl]
          clear g1 g2
          generalize wr.drew = w6 at *
          go_wp2_with fail
          go_roundw
          case rel => exact ⟨j + 1, HJ.out, by go_num, HT.out, HB.out⟩
          case measure => exact ms13 m j HJ.out
        · have HFD := Lib.hid (hfu hne)
          have hne2 : (xa != xb) = true := by rw [bne_iff_ne]; exact hne
          obtain ⟨p1, p2⟩ := h1
          obtain ⟨p3, p4⟩ := h2
          have HBF := Lib.hid (below_drew1 HB.out)
          have g3 : wr.drew.cell? ⟨b1, o1 + j, none⟩ = some (.int .i64 xa) := g1
          have g4 : wr.drew.cell? ⟨b2, o2 + j, none⟩ = some (.int .i64 xb) := g2
          clear hc1 hc2 hj hbw hl1 hl2 HC1 HC2 hfu htm htk
          go_wp2_with fail
          refine wp_region_still_lit (by kernel_rfl) (by kernel_rfl) ?_
          repeat still_step
          refine wpStill_nil ?_
          rw [show ({ wr with drawn := wr.drawn + 1 } : World) = wr.drew from rfl]
          clear g1 g2
          generalize wr.drew = w6 at *
          go_wp2_with fail
          go_region_with (go_at_call 14; refine (rank_any _ _ (by first | exact p1 | exact p3) (by first | exact p2 | exact p4)).mono ?_; rintro e w' ⟨rfl, rfl⟩)
          all_goals
            clear g3 g4
            generalize w6.drew = w7 at *
            have HBE := Lib.hid (HB4.out.trans (HBF.out.mono HB4.out.size))
            generalize rk xa = ra at *
            generalize rk xb = rb at *
            have HEE : Hid ((decide ((A : Int) < (D : Int)) == decide ((ra : Int) < (rb : Int))) = true) := Lib.hid (by rw [HFD.out]; exact beq_self_eq_true _)
            generalize (A : Int) = ai at *
            generalize (D : Int) = di at *
            generalize (ra : Int) = rai at *
            generalize (rb : Int) = rbi at *
            go_wp2
            go_ret
            exact ⟨by show Ending.returned (.bool (decide (ai < di) == decide (rai < rbi))) = _; rw [HEE.out], HBE.out⟩
      · obtain rfl : j = m := by omega
        have HB := Lib.hid (HB4.out.trans (hbw.mono HB4.out.size))
        have HE := Lib.hid (HEQ.out htk)
        clear hbw HC2 HC1
        obtain rfl := HE.out
        go_wp2
        go_ret
        exact ⟨rfl, HB.out⟩
end Go.Proofs.Ytjdiecpbjajkiaa
