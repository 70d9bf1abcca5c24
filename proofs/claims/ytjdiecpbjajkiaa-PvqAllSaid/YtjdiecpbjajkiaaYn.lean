/-
  PvqBack, walked. Conditions: a list of numbers as it lies.
-/
import Derived.Test.YtjdiecpbjajkiaaYm
namespace Go.Proofs.Ytjdiecpbjajkiaa
open Go.RowKit
open M
theorem ix_in (l : List Int) (h : pu13 l ≤ 12) : ixI l = (ix13 l : Int) ∧ ixE l = 0 ∧ pu13 l = pl13 l ∧ l.length ≤ 8 ∧ pl13 l ≤ 12 := by
  have h8 : l.length ≤ 8 := by
    rcases Nat.lt_or_ge 8 l.length with h1 | h1
    · rw [pu_long l h1] at h; omega
    · exact h1
  have hp := pu_in l h8
  have h12 : ¬ 12 < pu13 l := by omega
  exact ⟨if_neg h12, if_neg h12, by omega, h8, by omega⟩
theorem ix_out (l : List Int) (h : 12 < pu13 l) : ixI l = 0 ∧ ixE l = 7 ∧ pu13 l = 13 := by
  refine ⟨if_pos h, if_pos h, ?_⟩
  unfold pu13 at *
  split at h <;> split <;> omega
theorem pu_vc (n k i : Nat) (hn : n ≤ 8) (hk : k ≤ 12) (h : i < cn13 n k) : pu13 (vc13 n k i) = k ∧ ixI (vc13 n k i) = (i : Int) ∧ ixE (vc13 n k i) = 0 := by
  obtain ⟨g1, g2, g3⟩ := vc_all n k i h
  have hp : pu13 (vc13 n k i) = k := by rw [pu_in _ (by omega), g2]; omega
  obtain ⟨e1, e2, _⟩ := ix_in (vc13 n k i) (by omega)
  exact ⟨hp, by rw [e1, g3], e2⟩
set_option maxRecDepth 100000 in
set_option maxHeartbeats 2000000 in
theorem back_law (l : List Int) (v : Value) (a b : UInt8) (z : Int) (w : World) (hv : IntsAt w v l) (hl : l.length ≤ maxLen) (hz : 0 ≤ z ∧ z ≤ 4294967295) :
    Calls Try.prog 3 #[v, .int .u8 (ub a), .int .u8 (ub b), .int .u32 z] w fun e w' => e = .returned (.bool true) ∧ Below w.heap.size w w' := by
  obtain ⟨ha1, ha2⟩ := ub_bd a
  obtain ⟨hb1, hb2⟩ := ub_bd b
  obtain ⟨hz1, hz2⟩ := hz
  generalize ub a = x at *
  generalize ub b = y at *
  have HAW := Lib.hid awake_any
  have HV := Lib.hid hv
  obtain ⟨a0, cap0, rfl, hcell0⟩ := hv
  have HCELL := Lib.hid hcell0
  clear hcell0
  by_cases h40 : 40 < l.length
  · have h40I : (40 : Int) < (l.length : Int) := by omega
    generalize l.length = L at *
    clear hl
    go_enter Try.func3, Try.ntmps3
    go_wp2_with fail
    refine (HAW.out w).mono ?_
    rintro e w1 ⟨rfl, hb⟩
    have HB1 := Lib.hid hb
    clear hb
    go_wp2_with fail
    refine (HAW.out w1).mono ?_
    rintro e w2 ⟨rfl, hb⟩
    have HB2 := Lib.hid (HB1.out.trans (hb.mono HB1.out.size))
    clear hb HB1
    go_wp2
    go_ret
    exact ⟨rfl, HB2.out⟩
  obtain ⟨m, hm⟩ : ∃ m : Nat, x % 9 = m := ⟨(x % 9).toNat, by omega⟩
  obtain ⟨q, hq⟩ : ∃ q : Nat, y % 13 = q := ⟨(y % 13).toNat, by omega⟩
  have hmI : (m : Int) ≤ 8 := by omega
  have hqI : (q : Int) < 13 := by omega
  have C1 := Lib.hid fun w => count_at (m : Int) (q : Int) m q w rfl rfl (by omega) (by omega)
  have hcb := cn_big m q (by omega) (by omega)
  have HIX := Lib.hid fun (w1 : World) h => index_any l (.slice a0 l.length cap0) w1 h hl
  have HPU := Lib.hid fun (w1 : World) h => pulses_any l (.slice a0 l.length cap0) w1 h hl
  have HNUL := Lib.hid (cn_null m q)
  have HMD := Lib.hid (u32_mod z (cn13 m q) hz1)
  have HVE := Lib.hid fun (A : Nat) (h : A < cn13 m q) => And.intro (vc_all m q A h) (And.intro (pu_vc m q A (by omega) (by omega) h) fun w => vector_at (m : Int) (q : Int) (A : Int) m q A w rfl rfl rfl (by omega) (by omega) h)
  have h40I : ¬ (40 : Int) < (l.length : Int) := by omega
  obtain ⟨c, hc⟩ : ∃ c, cn13 m q = c := ⟨_, rfl⟩
  rw [hc] at C1 hcb HNUL HMD HVE
  clear hc

  by_cases hp12 : pu13 l ≤ 12
  · obtain ⟨e1, e2, e3, e4, e5⟩ := ix_in l hp12
    have HLT := Lib.hid (ix_lt l)
    have HVX := Lib.hid fun w => vector_at (l.length : Int) (pl13 l : Int) (ix13 l : Int) l.length (pl13 l) (ix13 l) w rfl rfl rfl e4 e5 (ix_lt l)
    rw [vc_ix] at HVX
    have HCX := Lib.hid fun w => count_at (l.length : Int) (pl13 l : Int) l.length (pl13 l) w rfl rfl e4 e5
    rw [e1, e2] at HIX
    rw [e3] at HPU
    obtain ⟨P, hP⟩ : ∃ P, pl13 l = P := ⟨_, rfl⟩
    obtain ⟨X, hX⟩ : ∃ X, ix13 l = X := ⟨_, rfl⟩
    have hXC : (X : Int) < (cn13 l.length P : Int) := by rw [← hX, ← hP]; exact Int.ofNat_lt.2 HLT.out
    rw [hP, hX] at HVX
    rw [hP] at HCX HPU
    rw [hX] at HIX
    have hXn : ¬ (cn13 l.length P : Int) ≤ (X : Int) := by omega
    obtain ⟨CX, hCX⟩ : ∃ CX, (cn13 l.length P : Int) = CX := ⟨_, rfl⟩
    rw [hCX] at HCX hXC hXn
    obtain ⟨L, hL⟩ : ∃ L, l.length = L := ⟨_, rfl⟩
    have HLEN := Lib.hid fun _ : Unit => hL
    rw [hL] at HIX HPU HVX HCX HV HCELL h40I e4 ⊢
    have hLI : (L : Int) ≤ 8 := by omega
    clear hP hX hCX e1 e2 e3 e4 e5 hp12 HLT hL hl h40
    go_enter Try.func3, Try.ntmps3
    go_wp2_with fail
    refine (HAW.out w).mono ?_
    rintro e w1 ⟨rfl, hb⟩
    have HB1 := Lib.hid hb
    have HV1 := Lib.hid (HV.out.below hb)
    clear hb
    go_wp2_with fail
    refine (HIX.out w1 HV1.out).mono ?_
    rintro e w2 ⟨rfl, hb⟩
    have HB2 := Lib.hid (HB1.out.trans (hb.mono HB1.out.size))
    have HV2 := Lib.hid (HV1.out.below hb)
    clear hb HB1 HV1
    go_wp2_with fail
    refine (HPU.out w2 HV2.out).mono ?_
    rintro e w3 ⟨rfl, rfl⟩
    go_wp2_with fail
    refine (HVX.out w3).mono ?_
    rintro e w4 ⟨⟨a9, cap9, rfl, hi9⟩, hb⟩
    have HB4 := Lib.hid (HB2.out.trans (hb.mono HB2.out.size))
    have HV4 := Lib.hid (HV2.out.below hb)
    have HI4 := Lib.hid hi9
    clear hb HB2 HV2 hi9
    go_wp2_with fail
    refine (HCX.out w4).mono ?_
    rintro e w5 ⟨rfl, hb⟩
    have HB5 := Lib.hid (HB4.out.trans (hb.mono HB4.out.size))
    have HV5 := Lib.hid (HV4.out.below hb)
    have HI5 := Lib.hid (HI4.out.below hb)
    clear hb HB4 HV4 HI4 HIX HPU HVX HCX HV HCELL
    go_wp2_with fail
    generalize Value.bool (decide ((40 : Int) < (L : Int))) = z40
    generalize Value.bool (decide (CX ≤ (X : Int))) = zcx
    go_loopw [14] (fun jj wr => ∃ j : Nat, j ≤ L ∧ jj = .int .i64 j ∧ Below w5.heap.size w5 wr) (fun jj _ => L - (intOf jj).toNat)
    case atStart => exact ⟨0, by omega, rfl, Below.refl _ _⟩
    case round =>
      obtain ⟨j, hj, rfl, hbw⟩ := hrel
      rcases Nat.lt_or_ge j L with hlt | hge
      · obtain ⟨b1, o1, rfl, hl1, hc1⟩ := ints_cells HV5.out (HLEN.out ()) (by omega)
        obtain ⟨b2, o2, rfl, hl2, hc2⟩ := ints_cells HI5.out (HLEN.out ()) (by omega)
        have g1 := (hbw.cell (p := ⟨b1, o1 + j, none⟩) hl1).trans (hc1 j hlt)
        have g2 := (hbw.cell (p := ⟨b2, o2 + j, none⟩) hl2).trans (hc2 j hlt)
        generalize l.getD j 0 = xa at g1 g2
        have HB := Lib.hid (below_drew1 hbw)
        have HJ := Lib.hid hlt
        have hjm : (j : Int) < (L : Int) := by omega
        clear hc1 hc2 hj hbw hl1 hl2 HI5 HV5
        go_wp2_with fail
        refine wp_region_still_lit (by kernel_rfl) (by kernel_rfl) ?_
        repeat still_step
        refine wpStill_nil ?_
        rw [show ({ wr with drawn := wr.drawn + 1 } : World) = wr.drew from rfl]
        clear g1 g2
        generalize wr.drew = w6 at *
        go_wp2_with fail
        go_roundw
        case rel => exact ⟨j + 1, HJ.out, by go_num, HB.out⟩
        case measure => exact ms13 L j HJ.out
      · obtain rfl : j = L := by omega
        have HB6 := Lib.hid (HB5.out.trans (hbw.mono HB5.out.size))
        clear hbw HB5 HI5 HV5
        generalize wr = w6 at *

        go_wp2_with fail
        refine (C1.out w6).mono ?_
        rintro e w50 ⟨rfl, hb⟩
        have HB50 := Lib.hid (HB6.out.trans (hb.mono HB6.out.size))
        clear hb HB6 C1
        by_cases hc0 : c = 0
        · obtain ⟨h1, h2⟩ := HNUL.out hc0
          have hm0 : (m : Int) = 0 := by omega
          have hq0 : (0 : Int) < (q : Int) := by omega
          have hcz : ((c : Int) == 0) = true := by rw [hc0]; rfl
          clear HNUL HMD HVE h1 hc0
          go_wp2
          go_ret
          exact ⟨rfl, HB50.out⟩
        · obtain ⟨A, hA1, hA2, hA3⟩ := HMD.out (by omega)
          obtain ⟨⟨g1, g2, g3⟩, ⟨k1, k2, k3⟩, VV⟩ := HVE.out A hA3
          clear HNUL HMD HVE g2 g3
          have hcI : (c : Int) ≠ 0 := by omega
          have hcp : (0 : Int) < (c : Int) := by omega
          have hcz : ((c : Int) == 0) = false := by rw [beq_eq_false_iff_ne]; omega
          obtain ⟨V, hV⟩ : ∃ V, vc13 m q A = V := ⟨_, rfl⟩
          rw [hV] at g1 k1 k2 k3
          simp only [hV] at VV
          have HL1 := Lib.hid g1
          have K1 := Lib.hid k1
          have K2 := Lib.hid k2
          have K3 := Lib.hid k3
          have HVV := Lib.hid VV
          clear hV hA3 g1 k1 k2 k3 VV
          go_wp2_with fail
          refine (HVV.out w50).mono ?_
          rintro e w51 ⟨⟨a1, cap1, rfl, hi1⟩, hb⟩
          have HB51 := Lib.hid (HB50.out.trans (hb.mono HB50.out.size))
          have HI1 := Lib.hid hi1
          clear hb HB50 hi1
          have HX := index_any V _ w51 HI1.out (by rw [HL1.out]; unfold maxLen; omega)
          rw [K2.out, K3.out] at HX
          go_wp2_with fail
          refine HX.mono ?_
          rintro e w52 ⟨rfl, hb⟩
          have HB52 := Lib.hid (HB51.out.trans (hb.mono HB51.out.size))
          have HP := pulses_any V _ w52 (HI1.out.below hb) (by rw [HL1.out]; unfold maxLen; omega)
          rw [K1.out] at HP
          clear hb HB51 HX
          go_wp2_with fail
          refine HP.mono ?_
          rintro e w53 ⟨rfl, rfl⟩
          clear HP
          go_wp2
          go_ret
          exact ⟨rfl, HB52.out⟩

  · obtain ⟨e1, e2, e3⟩ := ix_out l (by omega)
    rw [e1, e2] at HIX
    rw [e3] at HPU
    obtain ⟨L, hL⟩ : ∃ L, l.length = L := ⟨_, rfl⟩
    rw [hL] at HIX HPU HV HCELL h40I ⊢
    clear hL hl h40 e1 e2 e3 hp12
    go_enter Try.func3, Try.ntmps3
    go_wp2_with fail
    refine (HAW.out w).mono ?_
    rintro e w1 ⟨rfl, hb⟩
    have HB1 := Lib.hid hb
    have HV1 := Lib.hid (HV.out.below hb)
    clear hb
    go_wp2_with fail
    refine (HIX.out w1 HV1.out).mono ?_
    rintro e w2 ⟨rfl, hb⟩
    have HB2 := Lib.hid (HB1.out.trans (hb.mono HB1.out.size))
    have HV2 := Lib.hid (HV1.out.below hb)
    clear hb HB1 HV1
    go_wp2_with fail
    refine (HPU.out w2 HV2.out).mono ?_
    rintro e w3 ⟨rfl, rfl⟩
    clear HIX HPU HV HCELL HV2

    go_wp2_with fail
    refine (C1.out w3).mono ?_
    rintro e w50 ⟨rfl, hb⟩
    have HB50 := Lib.hid (HB2.out.trans (hb.mono HB2.out.size))
    clear hb HB2 C1
    by_cases hc0 : c = 0
    · obtain ⟨h1, h2⟩ := HNUL.out hc0
      have hm0 : (m : Int) = 0 := by omega
      have hq0 : (0 : Int) < (q : Int) := by omega
      have hcz : ((c : Int) == 0) = true := by rw [hc0]; rfl
      clear HNUL HMD HVE h1 hc0
      go_wp2
      go_ret
      exact ⟨rfl, HB50.out⟩
    · obtain ⟨A, hA1, hA2, hA3⟩ := HMD.out (by omega)
      obtain ⟨⟨g1, g2, g3⟩, ⟨k1, k2, k3⟩, VV⟩ := HVE.out A hA3
      clear HNUL HMD HVE g2 g3
      have hcI : (c : Int) ≠ 0 := by omega
      have hcp : (0 : Int) < (c : Int) := by omega
      have hcz : ((c : Int) == 0) = false := by rw [beq_eq_false_iff_ne]; omega
      obtain ⟨V, hV⟩ : ∃ V, vc13 m q A = V := ⟨_, rfl⟩
      rw [hV] at g1 k1 k2 k3
      simp only [hV] at VV
      have HL1 := Lib.hid g1
      have K1 := Lib.hid k1
      have K2 := Lib.hid k2
      have K3 := Lib.hid k3
      have HVV := Lib.hid VV
      clear hV hA3 g1 k1 k2 k3 VV
      go_wp2_with fail
      refine (HVV.out w50).mono ?_
      rintro e w51 ⟨⟨a1, cap1, rfl, hi1⟩, hb⟩
      have HB51 := Lib.hid (HB50.out.trans (hb.mono HB50.out.size))
      have HI1 := Lib.hid hi1
      clear hb HB50 hi1
      have HX := index_any V _ w51 HI1.out (by rw [HL1.out]; unfold maxLen; omega)
      rw [K2.out, K3.out] at HX
      go_wp2_with fail
      refine HX.mono ?_
      rintro e w52 ⟨rfl, hb⟩
      have HB52 := Lib.hid (HB51.out.trans (hb.mono HB51.out.size))
      have HP := pulses_any V _ w52 (HI1.out.below hb) (by rw [HL1.out]; unfold maxLen; omega)
      rw [K1.out] at HP
      clear hb HB51 HX
      go_wp2_with fail
      refine HP.mono ?_
      rintro e w53 ⟨rfl, rfl⟩
      clear HP
      go_wp2
      go_ret
      exact ⟨rfl, HB52.out⟩

end Go.Proofs.Ytjdiecpbjajkiaa
