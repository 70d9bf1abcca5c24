/-
  LapBack walked: the samples come back, with the zero ones behind them. Conditions: a list of numbers, as it lies.
-/
import Derived.Test.YtdnchnhflfcdkaaQLo
import Derived.Deep.Cut
namespace Go.Proofs.Ytdnchnhflfcdkaa
open Go.RowKit
open M
theorem IntsAt.box {w w' : World} {v : Value} {x : List Int} (h : IntsAt w v x) (hb : Below w.heap.size w w') : IntsAt w' v x := h.below hb
theorem padd_lo (l : List Int) (i : Nat) (h : i < l.length) : (padd l).getD i 0 = l.getD i 0 := padd_getD _ _ (by unfold cnt; omega)
theorem padd_hi (l : List Int) (i : Nat) (h : l.length ≤ i) : (padd l).getD i 0 = 0 := by
  rcases Nat.lt_or_ge i (32 * cnt l.length) with h1 | h1
  · rw [padd_getD _ _ h1, List.getD_eq_getElem?_getD, List.getElem?_eq_none (by omega)]
    rfl
  · rw [List.getD_eq_getElem?_getD, List.getElem?_eq_none (by rw [padd_len]; exact h1)]
    rfl
set_option maxRecDepth 100000 in
set_option maxHeartbeats 2000000 in
theorem back_law (l : List Int) (v : Value) (w : World) (hv : IntsAt w v l) (hl : l.length ≤ maxLen) : Calls Try.prog 3 #[v] w fun e w' => e = .returned (.bool true) ∧ Below w.heap.size w w' := by
  have HV := Lib.hid hv
  have HL := Lib.hid hl
  have HX1 : Hid ((h20 l).length ≤ 384) := Lib.hid (by rw [h20_len]; omega)
  have HX2 := Lib.hid (h20_bd l)
  have HH := Lib.hid fun w h => held20_any l v w h hl
  have hv2 := hv
  obtain ⟨a0, cap0, rfl, _⟩ := hv2
  clear hv hl
  generalize h20 l = X at *
  go_enter Try.func3, Try.ntmps3
  go_wp2_with fail
  refine (pawake_any w).mono ?_
  rintro e w1 ⟨rfl, hb1⟩
  have HV1 := Lib.hid (HV.out.box hb1)
  have HB1 := Lib.hid hb1
  clear HV hb1
  go_wp2_with fail
  refine (HH.out w1 HV1.out).mono ?_
  rintro e w2 ⟨⟨v', rfl, hown⟩, hb2⟩
  have HXI := Lib.hid (own_ints hown)
  have HB2 := Lib.hid (HB1.out.trans (hb2.mono HB1.out.size))
  clear hown hb2 HH HB1 HV1
  have hxi := HXI.out
  obtain ⟨a, cap, rfl, _⟩ := hxi
  go_wp2_with fail
  refine (frames_in X _ w2 HXI.out (by have := HX1.out; omega) HX2.out).mono ?_
  rintro e w3 ⟨⟨g, hg, rfl, hr⟩, hb3⟩
  have HX3 := Lib.hid (HXI.out.box hb3)
  have HB3 := Lib.hid (HB2.out.trans (hb3.mono HB2.out.size))
  have HF := Lib.hid hr
  clear hg hr hb3 HB2 HXI
  go_wp2_with fail
  refine (sback_any X _ g w3 HF.out (by have := HX1.out; omega) HX2.out).mono ?_
  rintro e w4 ⟨⟨gy, hgy, rfl, hy⟩, hb4⟩
  have HX4 := Lib.hid (HX3.out.box hb4)
  have HB4 := Lib.hid (HB3.out.trans (hb4.mono HB3.out.size))
  have HY := Lib.hid hy
  clear hgy hy hb4 HB3 HX3 HF
  have HCT := Lib.hid fun w => count_any X.length w (by have := HX1.out; omega)
  have hlb := HX1.out
  have hc : cnt X.length ≤ 13 := by unfold cnt; omega
  have hle : X.length ≤ 32 * cnt X.length := by unfold cnt; omega
  have HLO := Lib.hid (padd_lo X)
  have HHI := Lib.hid (padd_hi X)
  have HPL := Lib.hid (padd_len X)
  obtain ⟨L, hL⟩ : ∃ L, X.length = L := ⟨_, rfl⟩
  have hx4 := HX4.out
  obtain ⟨_, _, heq, hcell⟩ := hx4
  rw [hL] at HCT hc hlb HLO HHI HPL heq hcell hle ⊢
  injection heq with heq1 heq2 heq3
  subst heq1 heq3
  clear heq2
  obtain ⟨n, hn⟩ : ∃ n, cnt L = n := ⟨_, rfl⟩
  rw [hn] at HCT hc HPL hle ⊢
  obtain ⟨m, hm⟩ : ∃ m, 32 * n = m := ⟨_, rfl⟩
  have hmI : (32 : Int) * (n : Int) = (m : Int) := by omega
  have hmb : (m : Int) ≤ 416 := by omega
  rw [hm] at HPL hle ⊢
  have HMM := Lib.hid fun _ : Unit => hm
  generalize padd X = Y at *
  clear hn hm HX4 hL HX1 HX2 HL
  go_wp2_with fail
  refine (HCT.out w4).mono ?_
  rintro e w5 ⟨rfl, rfl⟩
  clear HCT HMM
  go_wp2_with fail
  have HLT := Lib.hid (Row.lt HY.out)
  go_loopw [7] (fun ii wr => ∃ k : Nat, k ≤ m ∧ ii = .int .i64 k ∧ Below w5.heap.size w5 wr) (fun ii _ => m - (intOf ii).toNat)
  case atStart => exact ⟨0, by omega, rfl, Below.refl _ _⟩
  case round =>
    obtain ⟨k, hk, rfl, hb⟩ := hrel
    have HB := Lib.hid hb
    rcases Nat.lt_or_ge k m with hlt | hge
    · have c1 := (hb.cell (p := ⟨gy, k, none⟩) HLT.out).trans (i_at HY.out k (by rw [HPL.out]; exact hlt))
      have hkI : (k : Int) < (m : Int) := by omega
      have HK := Lib.hid hlt
      rcases Nat.lt_or_ge k L with h1 | h1
      · obtain ⟨b, off, rfl, hbs, hcs⟩ := hcell (by omega)
        have c0 := (hb.cell (p := ⟨b, off + k, none⟩) hbs).trans (hcs k h1)
        have h2 : (k : Int) < (L : Int) := by omega
        rw [HLO.out k h1] at c1
        obtain ⟨z, hz⟩ : ∃ z, X.getD k 0 = z := ⟨_, rfl⟩
        rw [hz] at c0 c1
        have h3 : ¬ ((L : Int) ≤ (k : Int)) := by omega
        have h4 : ¬ (L ≤ k) := by omega
        clear hz hcs hcell hb hk hlt
        go_wp2_with fail
        go_big_quiet (fail)
        go_wp2_with fail
        go_roundw
        case rel => exact ⟨k + 1, HK.out, by go_num, Below.drewN HB.out nq⟩
        case measure =>
          have := HK.out
          simp only [intOf]
          omega
      · have h2 : ¬ ((k : Int) < (L : Int)) := by omega
        rw [HHI.out k h1] at c1
        have h3 : (L : Int) ≤ (k : Int) := by omega
        have h4 : ¬ (k < L) := by omega
        clear hcell hb hk hlt
        go_wp2_with fail
        go_big_quiet (fail)
        go_wp2_with fail
        go_roundw
        case rel => exact ⟨k + 1, HK.out, by go_num, Below.drewN HB.out nq⟩
        case measure =>
          have := HK.out
          simp only [intOf]
          omega
    · have hge2 : ¬ ((k : Int) < (m : Int)) := by omega
      have HBE := Lib.hid (HB4.out.trans (hb.mono HB4.out.size))
      clear hb hcell
      go_wp2_with fail
      go_ret
      exact ⟨rfl, HBE.out⟩
end Go.Proofs.Ytdnchnhflfcdkaa
