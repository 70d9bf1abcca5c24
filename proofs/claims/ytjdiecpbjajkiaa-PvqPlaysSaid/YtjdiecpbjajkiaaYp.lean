/-
  PvqPlays, walked. Conditions: a list of numbers as it lies.
-/
import Derived.Test.YtjdiecpbjajkiaaYn
import Derived.Test.YtjdiecpbjajkiaaYo
namespace Go.Proofs.Ytjdiecpbjajkiaa
open Go.RowKit
open M
theorem sum_step (l : List Int) (j q : Nat) (hj : j < l.length) (hq : q = min (pl13 (l.take j)) 13) :
    (¬ (l.getD j 0 < -12 ∨ l.getD j 0 > 12) → (l.getD j 0).tmod 13 = l.getD j 0 ∧ min (q + (l.getD j 0).natAbs) 13 = min (pl13 (l.take (j + 1))) 13) ∧
    ((l.getD j 0 < -12 ∨ l.getD j 0 > 12) → min (pl13 (l.take (j + 1))) 13 = 13) := by
  rw [pl_take l j hj]
  generalize l.getD j 0 = x
  constructor
  · intro h
    refine ⟨?_, by omega⟩
    by_cases h0 : 0 ≤ x
    · rw [Int.tmod_eq_emod_of_nonneg h0]; omega
    · have := Int.neg_tmod (-x) 13
      rw [Int.neg_neg] at this
      rw [this, Int.tmod_eq_emod_of_nonneg (by omega)]; omega
  · intro h; omega
theorem tmod_small (x : Int) : -13 < x.tmod 13 ∧ x.tmod 13 < 13 := by
  constructor
  · have := Int.lt_tmod_of_pos x (show (0 : Int) < 13 by decide); omega
  · exact Int.tmod_lt_of_pos x (by decide)
theorem min_nat (q t : Nat) : Value.int .i64 (min ((q : Int) + (t : Int)) 13) = Value.int .i64 ((min (q + t) 13 : Nat) : Int) := by
  have : min ((q : Int) + (t : Int)) 13 = ((min (q + t) 13 : Nat) : Int) := by omega
  rw [this]
theorem min_13 (t : Nat) : Value.int .i64 (min (13 + (t : Int)) 13) = Value.int .i64 ((13 : Nat) : Int) := by
  have : min (13 + (t : Int)) 13 = ((13 : Nat) : Int) := by omega
  rw [this]
theorem bl_zero : Go.Lib.bitLen 0 = 0 := by decide +kernel
theorem vcE_in (a b : Nat) (i : Int) (ha : a ≤ 8) (hb : b ≤ 12) : vcE a b i = if 0 ≤ i ∧ i < (cn13 a b : Int) then 0 else 7 := by
  have ht : th13 a b = true := decide_eq_true (by omega)
  unfold vcE
  rw [if_pos ht, cnI_in a b ha hb]
theorem th_not (n k : Int) (h : ¬ (0 ≤ n ∧ n ≤ 8 ∧ 0 ≤ k ∧ k ≤ 12)) : th13 n k = false := decide_eq_false h

set_option maxRecDepth 100000 in
set_option maxHeartbeats 4000000 in
theorem plays_law (n k i : Int) (l : List Int) (v : Value) (w : World) (hv : IntsAt w v l) (hl : l.length ≤ maxLen) :
    Calls Try.prog 6 #[.int .i64 n, .int .i64 k, .int .i64 i, v] w fun e w' => e = .returned (.bool true) ∧ Below w.heap.size w w' := by
  have HAW := Lib.hid awake_any
  have HV := Lib.hid hv
  obtain ⟨a0, cap0, rfl, hcell0⟩ := hv
  have HCELL := Lib.hid hcell0
  clear hcell0
  by_cases h40 : 40 < l.length
  · have h40I : (40 : Int) < (l.length : Int) := by omega
    generalize l.length = L at *
    clear hl
    go_enter Try.func6, Try.ntmps6
    go_wp2_with fail
    refine (HAW.out w).mono ?_
    rintro e w1 ⟨rfl, hb⟩
    have HB1 := Lib.hid hb
    clear hb
    go_wp2_with fail
    refine (HAW.out w1).mono ?_
    rintro e w2 ⟨rfl, hb⟩
    have HB2 := Lib.hid (HB1.out.trans (hb.mono HB1.out.size))
    clear hb HB1
    go_wp2
    go_ret
    exact ⟨rfl, HB2.out⟩
  have HIX := Lib.hid fun (w1 : World) h => index_any l (.slice a0 l.length cap0) w1 h hl
  have HPU := Lib.hid fun (w1 : World) h => pulses_any l (.slice a0 l.length cap0) w1 h hl
  have HST := Lib.hid (sum_step l)
  have HVC := Lib.hid (vector_any n k i)
  have HLO := Lib.hid (pu_long l)
  have HSH := Lib.hid (pu_in l)
  have HOUT := Lib.hid (ix_out l)
  have HIN := Lib.hid (ix_in l)
  have HFU : Hid (pl13 (l.take l.length) = pl13 l) := Lib.hid (by rw [List.take_length])
  have h40I : ¬ (40 : Int) < (l.length : Int) := by omega
  have hL40 : (l.length : Int) ≤ 40 := by omega
  obtain ⟨L, hL⟩ : ∃ L, l.length = L := ⟨_, rfl⟩
  rw [hL] at HIX HPU HST HLO HSH HIN HFU HV HCELL h40I hL40 ⊢
  clear hL hl h40
  go_enter Try.func6, Try.ntmps6
  go_wp2_with fail
  refine (HAW.out w).mono ?_
  rintro e w1 ⟨rfl, hb⟩
  have HB1 := Lib.hid hb
  have HC1 : Hid (0 < L → ∃ b off, a0 = some ⟨b, off, none⟩ ∧ b < w1.heap.size ∧ ∀ i, i < L → w1.cell? ⟨b, off + i, none⟩ = some (.int .i64 (l.getD i 0))) := Lib.hid fun h => by
    obtain ⟨b, off, e1, e2, e3⟩ := HCELL.out h
    exact ⟨b, off, e1, Nat.lt_of_lt_of_le e2 hb.size, fun i hi => (hb.cell (p := ⟨b, off + i, none⟩) e2).trans (e3 i hi)⟩
  have HV1 := Lib.hid (HV.out.below hb)
  clear hb HCELL HV
  go_wp2_with fail
  generalize Value.bool (decide ((40 : Int) < (L : Int))) = z40
  go_loop [9, 10] (fun s jj => ∃ j q : Nat, j ≤ L ∧ jj = .int .i64 j ∧ s = .int .i64 q ∧ q = min (pl13 (l.take j)) 13) (fun _ jj => L - (intOf jj).toNat)
  case atStart => exact ⟨0, 0, by omega, rfl, rfl, rfl⟩
  case round =>
    obtain ⟨j, q, hj, rfl, rfl, hq⟩ := hrel
    rcases Nat.lt_or_ge j L with hlt | hge
    · obtain ⟨b, off, rfl, hbs, hcs⟩ := HC1.out (by omega)
      have c0 := hcs j hlt
      obtain ⟨s1, s2⟩ := HST.out j q hlt hq
      have hq13 : q ≤ 13 := by omega
      have HJ := Lib.hid hlt
      have hjI : (j : Int) < (L : Int) := by omega
      have tm := tmod_small (l.getD j 0)
      have RS := fun w => rsize_any ((l.getD j 0).tmod 13) w (by omega) (by omega)
      obtain ⟨x, hx⟩ : ∃ x, l.getD j 0 = x := ⟨_, rfl⟩
      rw [hx] at c0 s1 s2 RS tm
      have HS1 := Lib.hid s1
      have HS2 := Lib.hid s2
      clear hcs hbs hx s1 s2 hq hj
      by_cases h12 : x < -12 ∨ x > 12
      · have HT := Lib.hid (HS2.out h12)
        obtain ⟨t, ht⟩ : ∃ t, (x.tmod 13).natAbs = t := ⟨_, rfl⟩
        have ht13 : t ≤ 13 := by omega
        rw [ht] at RS
        have e13 : (13 : Int) + (t : Int) ≥ 13 := by omega
        obtain ⟨y, hy⟩ : ∃ y, x.tmod 13 = y := ⟨_, rfl⟩
        rw [hy] at RS
        clear ht HS1 HS2 tm
        by_cases hxx : x < -12
        · clear h12
          go_wp2_with fail
          refine (RS _).mono ?_
          rintro e w5 ⟨rfl, rfl⟩
          go_wp2_with fail
          go_round
          case rel => exact ⟨j + 1, 13, HJ.out, by go_num, min_13 t, HT.out.symm⟩
          case measure => exact ms13 L j HJ.out
        · have hxx2 : x > 12 := by omega
          clear h12
          go_wp2_with fail
          refine (RS _).mono ?_
          rintro e w5 ⟨rfl, rfl⟩
          go_wp2_with fail
          go_round
          case rel => exact ⟨j + 1, 13, HJ.out, by go_num, min_13 t, HT.out.symm⟩
          case measure => exact ms13 L j HJ.out
      · obtain ⟨t1, t2⟩ := HS1.out h12
        have hx1 : ¬ x < -12 := by omega
        have hx2 : ¬ x > 12 := by omega
        rw [t1] at RS
        have HT := Lib.hid t2
        clear HS1 HS2 h12 t2 tm
        obtain ⟨t, ht⟩ : ∃ t, x.natAbs = t := ⟨_, rfl⟩
        rw [ht] at RS HT
        have ht13 : t ≤ 13 := by omega
        clear ht
        go_wp2_with fail
        refine (RS _).mono ?_
        rintro e w5 ⟨rfl, rfl⟩
        go_wp2_with fail
        go_round
        case rel => exact ⟨j + 1, min (q + t) 13, HJ.out, by go_num, min_nat q t, HT.out⟩
        case measure => exact ms13 L j HJ.out
    · obtain rfl : j = L := by omega
      rw [HFU.out] at hq
      have HQ := Lib.hid hq
      clear hj hge hq HFU HST HC1 hL40

      by_cases h8 : 8 < j
      · have h8I : (8 : Int) < (j : Int) := by omega
        have hP := HLO.out h8
        obtain ⟨x1, x2, x3⟩ := HOUT.out (by omega)
        rw [x1, x2] at HIX
        rw [hP] at HPU
        clear HLO HSH HOUT HIN HQ h8 hP x1 x2 x3
        go_wp2_with fail
        refine (HIX.out w1 HV1.out).mono ?_
        rintro e w2 ⟨rfl, hb⟩
        have HB2 := Lib.hid (HB1.out.trans (hb.mono HB1.out.size))
        have HV2 := Lib.hid (HV1.out.below hb)
        clear hb HB1 HV1 HIX
        go_wp2_with fail
        refine (HPU.out w2 HV2.out).mono ?_
        rintro e w3 ⟨rfl, rfl⟩
        clear HPU HV2
        go_wp2_with fail
        refine (HVC.out _).mono ?_
        rintro e w4 ⟨⟨vv, rfl, hvv⟩, hb⟩
        have HB4 := Lib.hid (HB2.out.trans (hb.mono HB2.out.size))
        clear hb HB2 hvv HVC
        by_cases hkin : 0 ≤ k ∧ k ≤ 12
        · by_cases hnin : 0 ≤ n ∧ n ≤ 8
          · obtain ⟨aa, rfl⟩ : ∃ aa : Nat, n = aa := ⟨n.toNat, by omega⟩
            obtain ⟨bb, rfl⟩ : ∃ bb : Nat, k = bb := ⟨k.toNat, by omega⟩
            obtain ⟨hk1, hk2⟩ := hkin
            obtain ⟨hn1, hn2⟩ := hnin
            have ha8 : aa ≤ 8 := by omega
            have hb12 : bb ≤ 12 := by omega
            have hE := vcE_in aa bb i ha8 hb12
            have R1 := Lib.hid fun w => rcount_any aa bb w ha8 hb12
            have R2 := Lib.hid fun w => rcount_any 4 bb w (by decide) hb12
            have C1 := Lib.hid fun w => count_nat aa bb w ha8 hb12
            have B1 := Lib.hid fun w => bits_nat bb w hb12
            have hcb := cn_big aa bb ha8 hb12
            have hmb := cn_big 4 bb (by decide) hb12
            have hm0 : 1 ≤ cn13 4 bb := cn_pos 3 bb
            obtain ⟨M, hM⟩ : ∃ M, cn13 4 bb = M + 1 := ⟨cn13 4 bb - 1, by omega⟩
            rw [hM, show M + 1 - 1 = M from rfl] at B1
            simp only [hM] at R2
            rw [hM] at hmb
            obtain ⟨c, hc⟩ : ∃ c, cn13 aa bb = c := ⟨_, rfl⟩
            rw [hc] at hE hcb R1 C1
            have hmI : (M : Int) ≤ 152587890625 := by omega
            have eM : ((M + 1 : Nat) : Int) - 1 = (M : Int) := by omega
            have HBH := Lib.hid fun x h1 h2 => Go.Lib.bitLen_half x h1 h2
            have HB0 := Lib.hid fun _ : Unit => bl_zero
            have HMM : Hid (M < 18446744073709551616) := Lib.hid (by omega)
            clear hM hc hm0 hmb ha8 hb12
            have hfin : ∃ E : Int, vcE aa bb i = E ∧ ((E = 0 ∧ 0 ≤ i ∧ i < (c : Int)) ∨ (E = 7 ∧ i < 0) ∨ (E = 7 ∧ 0 ≤ i ∧ (c : Int) ≤ i)) := by
              rw [hE]
              by_cases hi : 0 ≤ i ∧ i < (c : Int)
              · exact ⟨0, if_pos hi, Or.inl ⟨rfl, hi.1, hi.2⟩⟩
              · refine ⟨7, if_neg hi, Or.inr ?_⟩
                rcases Int.lt_or_le i 0 with h | h
                · exact Or.inl ⟨rfl, h⟩
                · exact Or.inr ⟨rfl, h, by omega⟩
            obtain ⟨E, hEE, hfin⟩ := hfin
            rw [hEE]
            have HFN := Lib.hid hfin
            clear hE hEE hfin
            go_wp2_with fail
            refine (R1.out _).mono ?_
            rintro e w5 ⟨rfl, hb⟩
            have HB5 := Lib.hid (HB4.out.trans (hb.mono HB4.out.size))
            clear hb HB4 R1
            go_wp2_with fail
            refine (R2.out _).mono ?_
            rintro e w6 ⟨rfl, hb⟩
            have HB6 := Lib.hid (HB5.out.trans (hb.mono HB5.out.size))
            clear hb HB5 R2
            go_wp2_with fail
            go_loop [16, 17] (fun bs mm => ∃ x y : Nat, bs = .int .i64 x ∧ mm = .int .i64 y ∧ x + Go.Lib.bitLen y = Go.Lib.bitLen M ∧ y ≤ M ∧ x ≤ 64) (fun _ mm => (intOf mm).toNat)
            case atStart => exact ⟨0, M, rfl, rfl, by omega, Nat.le_refl _, by omega⟩
            case round =>
              obtain ⟨x, y, rfl, rfl, hxy, hyM, hx64⟩ := hrel
              by_cases hy : y = 0
              · subst hy
                have HX : Hid (x = Go.Lib.bitLen M) := Lib.hid (by rw [HB0.out ()] at hxy; omega)
                have HBB : Hid (((Go.Lib.bitLen M : Nat) : Int) = (x : Int)) := Lib.hid (by rw [HX.out])
                clear hxy hyM HX HBH HB0 HMM
                go_wp2_with fail
                refine (C1.out _).mono ?_
                rintro e w7 ⟨rfl, hb⟩
                have HB7 := Lib.hid (HB6.out.trans (hb.mono HB6.out.size))
                clear hb HB6 C1
                go_wp2_with fail
                have B2 := B1.out w7
                rw [HBB.out] at B2
                clear B1 HBB
                refine B2.mono ?_
                rintro e w8 ⟨rfl, hb⟩
                have HB8 := Lib.hid (HB7.out.trans (hb.mono HB7.out.size))
                clear hb HB7 B2
                rcases HFN.out with ⟨rfl, g1, g2⟩ | ⟨rfl, g1⟩ | ⟨rfl, g1, g2⟩
                · clear HFN
                  go_wp2
                  go_ret
                  exact ⟨rfl, HB8.out⟩
                · clear HFN
                  go_wp2
                  go_ret
                  exact ⟨rfl, HB8.out⟩
                · clear HFN
                  have HD : Hid (∀ _ : Unit, decide (i < (c : Int)) = false) := Lib.hid fun _ => decide_eq_false (by omega)
                  go_wp2
                  go_ret
                  exact ⟨by show Ending.returned (.bool (!decide (i < (c : Int)))) = _; rw [HD.out ()]; rfl, HB8.out⟩
              · have h1 := HBH.out y hy (Nat.lt_of_le_of_lt hyM HMM.out)
                have HX : Hid (x + 1 + Go.Lib.bitLen (y / 2) = Go.Lib.bitLen M) := Lib.hid (by omega)
                have HY : Hid (y / 2 ≤ M) := Lib.hid (by omega)
                have HYY : Hid (y / 2 < y) := Lib.hid (by omega)
                have hyI : (0 : Int) < (y : Int) := by omega
                have hyB : (y : Int) ≤ 152587890625 := by omega
                have hxI : (x : Int) < 64 := by have := Go.Lib.bitLen_le M 64 (Nat.le_refl _) HMM.out; omega
                have HX64 : Hid (x + 1 ≤ 64) := Lib.hid (by omega)
                have ed : (y : Int).tdiv 2 = ((y / 2 : Nat) : Int) := by rw [Int.tdiv_eq_ediv_of_nonneg (by omega)]; omega
                have ed2 : (y : Int) / 2 = ((y / 2 : Nat) : Int) := by omega
                obtain ⟨y2, hy2⟩ : ∃ y2, y / 2 = y2 := ⟨_, rfl⟩
                rw [hy2] at HX HY HYY ed ed2
                clear h1 hxy hyM hx64 hy hy2 HBH HB0
                go_wp2_with fail
                go_round
                case rel => exact ⟨x + 1, y2, by go_num, rfl, HX.out, HY.out, HX64.out⟩
                case measure => exact HYY.out
          · have ht := th_not n k (by omega)
            obtain ⟨hE1, hE2⟩ := vc_out n k i ht
            have C1 := Lib.hid fun w => count_any n k w
            rw [cnI_out n k ht] at C1
            rw [hE2]
            obtain ⟨hk1, hk2⟩ := hkin
            clear hE1 hE2 ht
            rcases (show n < 0 ∨ n > 8 by omega) with hn | hn
            all_goals
              go_wp2_with fail
              refine (C1.out _).mono ?_
              rintro e w5 ⟨rfl, hb⟩
              have HB5 := Lib.hid (HB4.out.trans (hb.mono HB4.out.size))
              clear hb HB4 C1
              go_wp2
              go_ret
              exact ⟨rfl, HB5.out⟩
        · have ht := th_not n k (by omega)
          obtain ⟨hE1, hE2⟩ := vc_out n k i ht
          have C1 := Lib.hid fun w => count_any n k w
          rw [cnI_out n k ht] at C1
          have B1 := Lib.hid fun w => bits_any k w
          rw [biI_out k hkin] at B1
          rw [hE2]
          clear hE1 hE2 ht
          rcases (show k < 0 ∨ k > 12 by omega) with hk | hk
          all_goals clear hkin
          all_goals rcases (show n < 0 ∨ n > 8 ∨ (0 ≤ n ∧ n ≤ 8) by omega) with hn | hn | ⟨hn, hn2⟩
          all_goals
            go_wp2_with fail
            refine (C1.out _).mono ?_
            rintro e w5 ⟨rfl, hb⟩
            have HB5 := Lib.hid (HB4.out.trans (hb.mono HB4.out.size))
            clear hb HB4 C1
            go_wp2_with fail
            refine (B1.out _).mono ?_
            rintro e w6 ⟨rfl, hb⟩
            have HB6 := Lib.hid (HB5.out.trans (hb.mono HB5.out.size))
            clear hb HB5 B1
            go_wp2
            go_ret
            exact ⟨rfl, HB6.out⟩
      · by_cases hqq : q = 13
        · have h8I : ¬ (8 : Int) < (j : Int) := by omega
          have hP : pu13 l = 13 := by have := HSH.out (by omega); have := HQ.out; omega
          obtain ⟨x1, x2, x3⟩ := HOUT.out (by omega)
          obtain rfl : q = 13 := hqq
          rw [x1, x2] at HIX
          rw [hP] at HPU
          clear HLO HSH HOUT HIN HQ h8 hP x1 x2 x3
          go_wp2_with fail
          refine (HIX.out w1 HV1.out).mono ?_
          rintro e w2 ⟨rfl, hb⟩
          have HB2 := Lib.hid (HB1.out.trans (hb.mono HB1.out.size))
          have HV2 := Lib.hid (HV1.out.below hb)
          clear hb HB1 HV1 HIX
          go_wp2_with fail
          refine (HPU.out w2 HV2.out).mono ?_
          rintro e w3 ⟨rfl, rfl⟩
          clear HPU HV2
          go_wp2_with fail
          refine (HVC.out _).mono ?_
          rintro e w4 ⟨⟨vv, rfl, hvv⟩, hb⟩
          have HB4 := Lib.hid (HB2.out.trans (hb.mono HB2.out.size))
          clear hb HB2 hvv HVC
          by_cases hkin : 0 ≤ k ∧ k ≤ 12
          · by_cases hnin : 0 ≤ n ∧ n ≤ 8
            · obtain ⟨aa, rfl⟩ : ∃ aa : Nat, n = aa := ⟨n.toNat, by omega⟩
              obtain ⟨bb, rfl⟩ : ∃ bb : Nat, k = bb := ⟨k.toNat, by omega⟩
              obtain ⟨hk1, hk2⟩ := hkin
              obtain ⟨hn1, hn2⟩ := hnin
              have ha8 : aa ≤ 8 := by omega
              have hb12 : bb ≤ 12 := by omega
              have hE := vcE_in aa bb i ha8 hb12
              have R1 := Lib.hid fun w => rcount_any aa bb w ha8 hb12
              have R2 := Lib.hid fun w => rcount_any 4 bb w (by decide) hb12
              have C1 := Lib.hid fun w => count_nat aa bb w ha8 hb12
              have B1 := Lib.hid fun w => bits_nat bb w hb12
              have hcb := cn_big aa bb ha8 hb12
              have hmb := cn_big 4 bb (by decide) hb12
              have hm0 : 1 ≤ cn13 4 bb := cn_pos 3 bb
              obtain ⟨M, hM⟩ : ∃ M, cn13 4 bb = M + 1 := ⟨cn13 4 bb - 1, by omega⟩
              rw [hM, show M + 1 - 1 = M from rfl] at B1
              simp only [hM] at R2
              rw [hM] at hmb
              obtain ⟨c, hc⟩ : ∃ c, cn13 aa bb = c := ⟨_, rfl⟩
              rw [hc] at hE hcb R1 C1
              have hmI : (M : Int) ≤ 152587890625 := by omega
              have eM : ((M + 1 : Nat) : Int) - 1 = (M : Int) := by omega
              have HBH := Lib.hid fun x h1 h2 => Go.Lib.bitLen_half x h1 h2
              have HB0 := Lib.hid fun _ : Unit => bl_zero
              have HMM : Hid (M < 18446744073709551616) := Lib.hid (by omega)
              clear hM hc hm0 hmb ha8 hb12
              have hfin : ∃ E : Int, vcE aa bb i = E ∧ ((E = 0 ∧ 0 ≤ i ∧ i < (c : Int)) ∨ (E = 7 ∧ i < 0) ∨ (E = 7 ∧ 0 ≤ i ∧ (c : Int) ≤ i)) := by
                rw [hE]
                by_cases hi : 0 ≤ i ∧ i < (c : Int)
                · exact ⟨0, if_pos hi, Or.inl ⟨rfl, hi.1, hi.2⟩⟩
                · refine ⟨7, if_neg hi, Or.inr ?_⟩
                  rcases Int.lt_or_le i 0 with h | h
                  · exact Or.inl ⟨rfl, h⟩
                  · exact Or.inr ⟨rfl, h, by omega⟩
              obtain ⟨E, hEE, hfin⟩ := hfin
              rw [hEE]
              have HFN := Lib.hid hfin
              clear hE hEE hfin
              go_wp2_with fail
              refine (R1.out _).mono ?_
              rintro e w5 ⟨rfl, hb⟩
              have HB5 := Lib.hid (HB4.out.trans (hb.mono HB4.out.size))
              clear hb HB4 R1
              go_wp2_with fail
              refine (R2.out _).mono ?_
              rintro e w6 ⟨rfl, hb⟩
              have HB6 := Lib.hid (HB5.out.trans (hb.mono HB5.out.size))
              clear hb HB5 R2
              go_wp2_with fail
              go_loop [16, 17] (fun bs mm => ∃ x y : Nat, bs = .int .i64 x ∧ mm = .int .i64 y ∧ x + Go.Lib.bitLen y = Go.Lib.bitLen M ∧ y ≤ M ∧ x ≤ 64) (fun _ mm => (intOf mm).toNat)
              case atStart => exact ⟨0, M, rfl, rfl, by omega, Nat.le_refl _, by omega⟩
              case round =>
                obtain ⟨x, y, rfl, rfl, hxy, hyM, hx64⟩ := hrel
                by_cases hy : y = 0
                · subst hy
                  have HX : Hid (x = Go.Lib.bitLen M) := Lib.hid (by rw [HB0.out ()] at hxy; omega)
                  have HBB : Hid (((Go.Lib.bitLen M : Nat) : Int) = (x : Int)) := Lib.hid (by rw [HX.out])
                  clear hxy hyM HX HBH HB0 HMM
                  go_wp2_with fail
                  refine (C1.out _).mono ?_
                  rintro e w7 ⟨rfl, hb⟩
                  have HB7 := Lib.hid (HB6.out.trans (hb.mono HB6.out.size))
                  clear hb HB6 C1
                  go_wp2_with fail
                  have B2 := B1.out w7
                  rw [HBB.out] at B2
                  clear B1 HBB
                  refine B2.mono ?_
                  rintro e w8 ⟨rfl, hb⟩
                  have HB8 := Lib.hid (HB7.out.trans (hb.mono HB7.out.size))
                  clear hb HB7 B2
                  rcases HFN.out with ⟨rfl, g1, g2⟩ | ⟨rfl, g1⟩ | ⟨rfl, g1, g2⟩
                  · clear HFN
                    go_wp2
                    go_ret
                    exact ⟨rfl, HB8.out⟩
                  · clear HFN
                    go_wp2
                    go_ret
                    exact ⟨rfl, HB8.out⟩
                  · clear HFN
                    have HD : Hid (∀ _ : Unit, decide (i < (c : Int)) = false) := Lib.hid fun _ => decide_eq_false (by omega)
                    go_wp2
                    go_ret
                    exact ⟨by show Ending.returned (.bool (!decide (i < (c : Int)))) = _; rw [HD.out ()]; rfl, HB8.out⟩
                · have h1 := HBH.out y hy (Nat.lt_of_le_of_lt hyM HMM.out)
                  have HX : Hid (x + 1 + Go.Lib.bitLen (y / 2) = Go.Lib.bitLen M) := Lib.hid (by omega)
                  have HY : Hid (y / 2 ≤ M) := Lib.hid (by omega)
                  have HYY : Hid (y / 2 < y) := Lib.hid (by omega)
                  have hyI : (0 : Int) < (y : Int) := by omega
                  have hyB : (y : Int) ≤ 152587890625 := by omega
                  have hxI : (x : Int) < 64 := by have := Go.Lib.bitLen_le M 64 (Nat.le_refl _) HMM.out; omega
                  have HX64 : Hid (x + 1 ≤ 64) := Lib.hid (by omega)
                  have ed : (y : Int).tdiv 2 = ((y / 2 : Nat) : Int) := by rw [Int.tdiv_eq_ediv_of_nonneg (by omega)]; omega
                  have ed2 : (y : Int) / 2 = ((y / 2 : Nat) : Int) := by omega
                  obtain ⟨y2, hy2⟩ : ∃ y2, y / 2 = y2 := ⟨_, rfl⟩
                  rw [hy2] at HX HY HYY ed ed2
                  clear h1 hxy hyM hx64 hy hy2 HBH HB0
                  go_wp2_with fail
                  go_round
                  case rel => exact ⟨x + 1, y2, by go_num, rfl, HX.out, HY.out, HX64.out⟩
                  case measure => exact HYY.out
            · have ht := th_not n k (by omega)
              obtain ⟨hE1, hE2⟩ := vc_out n k i ht
              have C1 := Lib.hid fun w => count_any n k w
              rw [cnI_out n k ht] at C1
              rw [hE2]
              obtain ⟨hk1, hk2⟩ := hkin
              clear hE1 hE2 ht
              rcases (show n < 0 ∨ n > 8 by omega) with hn | hn
              all_goals
                go_wp2_with fail
                refine (C1.out _).mono ?_
                rintro e w5 ⟨rfl, hb⟩
                have HB5 := Lib.hid (HB4.out.trans (hb.mono HB4.out.size))
                clear hb HB4 C1
                go_wp2
                go_ret
                exact ⟨rfl, HB5.out⟩
          · have ht := th_not n k (by omega)
            obtain ⟨hE1, hE2⟩ := vc_out n k i ht
            have C1 := Lib.hid fun w => count_any n k w
            rw [cnI_out n k ht] at C1
            have B1 := Lib.hid fun w => bits_any k w
            rw [biI_out k hkin] at B1
            rw [hE2]
            clear hE1 hE2 ht
            rcases (show k < 0 ∨ k > 12 by omega) with hk | hk
            all_goals clear hkin
            all_goals rcases (show n < 0 ∨ n > 8 ∨ (0 ≤ n ∧ n ≤ 8) by omega) with hn | hn | ⟨hn, hn2⟩
            all_goals
              go_wp2_with fail
              refine (C1.out _).mono ?_
              rintro e w5 ⟨rfl, hb⟩
              have HB5 := Lib.hid (HB4.out.trans (hb.mono HB4.out.size))
              clear hb HB4 C1
              go_wp2_with fail
              refine (B1.out _).mono ?_
              rintro e w6 ⟨rfl, hb⟩
              have HB6 := Lib.hid (HB5.out.trans (hb.mono HB5.out.size))
              clear hb HB5 B1
              go_wp2
              go_ret
              exact ⟨rfl, HB6.out⟩
        · have h8I : ¬ (8 : Int) < (j : Int) := by omega
          have hP : pu13 l = q := by have := HSH.out (by omega); have := HQ.out; omega
          obtain ⟨x1, x2, x3, x4, x5⟩ := HIN.out (by have := HQ.out; omega)
          have hq12 : (q : Int) ≤ 12 := by have := HQ.out; omega
          have hq13 : ((q : Int) == 13) = false := by rw [beq_eq_false_iff_ne]; omega
          have hqq2 : ¬ (q : Int) = 13 := by omega
          clear x4 x5
          rw [x1, x2] at HIX
          rw [hP] at HPU
          clear HLO HSH HOUT HIN HQ h8 hP x1 x2 x3
          go_wp2_with fail
          refine (HIX.out w1 HV1.out).mono ?_
          rintro e w2 ⟨rfl, hb⟩
          have HB2 := Lib.hid (HB1.out.trans (hb.mono HB1.out.size))
          have HV2 := Lib.hid (HV1.out.below hb)
          clear hb HB1 HV1 HIX
          go_wp2_with fail
          refine (HPU.out w2 HV2.out).mono ?_
          rintro e w3 ⟨rfl, rfl⟩
          clear HPU HV2
          go_wp2_with fail
          refine (HVC.out _).mono ?_
          rintro e w4 ⟨⟨vv, rfl, hvv⟩, hb⟩
          have HB4 := Lib.hid (HB2.out.trans (hb.mono HB2.out.size))
          clear hb HB2 hvv HVC
          by_cases hkin : 0 ≤ k ∧ k ≤ 12
          · by_cases hnin : 0 ≤ n ∧ n ≤ 8
            · obtain ⟨aa, rfl⟩ : ∃ aa : Nat, n = aa := ⟨n.toNat, by omega⟩
              obtain ⟨bb, rfl⟩ : ∃ bb : Nat, k = bb := ⟨k.toNat, by omega⟩
              obtain ⟨hk1, hk2⟩ := hkin
              obtain ⟨hn1, hn2⟩ := hnin
              have ha8 : aa ≤ 8 := by omega
              have hb12 : bb ≤ 12 := by omega
              have hE := vcE_in aa bb i ha8 hb12
              have R1 := Lib.hid fun w => rcount_any aa bb w ha8 hb12
              have R2 := Lib.hid fun w => rcount_any 4 bb w (by decide) hb12
              have C1 := Lib.hid fun w => count_nat aa bb w ha8 hb12
              have B1 := Lib.hid fun w => bits_nat bb w hb12
              have hcb := cn_big aa bb ha8 hb12
              have hmb := cn_big 4 bb (by decide) hb12
              have hm0 : 1 ≤ cn13 4 bb := cn_pos 3 bb
              obtain ⟨M, hM⟩ : ∃ M, cn13 4 bb = M + 1 := ⟨cn13 4 bb - 1, by omega⟩
              rw [hM, show M + 1 - 1 = M from rfl] at B1
              simp only [hM] at R2
              rw [hM] at hmb
              obtain ⟨c, hc⟩ : ∃ c, cn13 aa bb = c := ⟨_, rfl⟩
              rw [hc] at hE hcb R1 C1
              have hmI : (M : Int) ≤ 152587890625 := by omega
              have eM : ((M + 1 : Nat) : Int) - 1 = (M : Int) := by omega
              have HBH := Lib.hid fun x h1 h2 => Go.Lib.bitLen_half x h1 h2
              have HB0 := Lib.hid fun _ : Unit => bl_zero
              have HMM : Hid (M < 18446744073709551616) := Lib.hid (by omega)
              clear hM hc hm0 hmb ha8 hb12
              have hfin : ∃ E : Int, vcE aa bb i = E ∧ ((E = 0 ∧ 0 ≤ i ∧ i < (c : Int)) ∨ (E = 7 ∧ i < 0) ∨ (E = 7 ∧ 0 ≤ i ∧ (c : Int) ≤ i)) := by
                rw [hE]
                by_cases hi : 0 ≤ i ∧ i < (c : Int)
                · exact ⟨0, if_pos hi, Or.inl ⟨rfl, hi.1, hi.2⟩⟩
                · refine ⟨7, if_neg hi, Or.inr ?_⟩
                  rcases Int.lt_or_le i 0 with h | h
                  · exact Or.inl ⟨rfl, h⟩
                  · exact Or.inr ⟨rfl, h, by omega⟩
              obtain ⟨E, hEE, hfin⟩ := hfin
              rw [hEE]
              have HFN := Lib.hid hfin
              clear hE hEE hfin
              go_wp2_with fail
              refine (R1.out _).mono ?_
              rintro e w5 ⟨rfl, hb⟩
              have HB5 := Lib.hid (HB4.out.trans (hb.mono HB4.out.size))
              clear hb HB4 R1
              go_wp2_with fail
              refine (R2.out _).mono ?_
              rintro e w6 ⟨rfl, hb⟩
              have HB6 := Lib.hid (HB5.out.trans (hb.mono HB5.out.size))
              clear hb HB5 R2
              go_wp2_with fail
              go_loop [16, 17] (fun bs mm => ∃ x y : Nat, bs = .int .i64 x ∧ mm = .int .i64 y ∧ x + Go.Lib.bitLen y = Go.Lib.bitLen M ∧ y ≤ M ∧ x ≤ 64) (fun _ mm => (intOf mm).toNat)
              case atStart => exact ⟨0, M, rfl, rfl, by omega, Nat.le_refl _, by omega⟩
              case round =>
                obtain ⟨x, y, rfl, rfl, hxy, hyM, hx64⟩ := hrel
                by_cases hy : y = 0
                · subst hy
                  have HX : Hid (x = Go.Lib.bitLen M) := Lib.hid (by rw [HB0.out ()] at hxy; omega)
                  have HBB : Hid (((Go.Lib.bitLen M : Nat) : Int) = (x : Int)) := Lib.hid (by rw [HX.out])
                  clear hxy hyM HX HBH HB0 HMM
                  go_wp2_with fail
                  refine (C1.out _).mono ?_
                  rintro e w7 ⟨rfl, hb⟩
                  have HB7 := Lib.hid (HB6.out.trans (hb.mono HB6.out.size))
                  clear hb HB6 C1
                  go_wp2_with fail
                  have B2 := B1.out w7
                  rw [HBB.out] at B2
                  clear B1 HBB
                  refine B2.mono ?_
                  rintro e w8 ⟨rfl, hb⟩
                  have HB8 := Lib.hid (HB7.out.trans (hb.mono HB7.out.size))
                  clear hb HB7 B2
                  rcases HFN.out with ⟨rfl, g1, g2⟩ | ⟨rfl, g1⟩ | ⟨rfl, g1, g2⟩
                  · clear HFN
                    go_wp2
                    go_ret
                    exact ⟨rfl, HB8.out⟩
                  · clear HFN
                    go_wp2
                    go_ret
                    exact ⟨rfl, HB8.out⟩
                  · clear HFN
                    have HD : Hid (∀ _ : Unit, decide (i < (c : Int)) = false) := Lib.hid fun _ => decide_eq_false (by omega)
                    go_wp2
                    go_ret
                    exact ⟨by show Ending.returned (.bool (!decide (i < (c : Int)))) = _; rw [HD.out ()]; rfl, HB8.out⟩
                · have h1 := HBH.out y hy (Nat.lt_of_le_of_lt hyM HMM.out)
                  have HX : Hid (x + 1 + Go.Lib.bitLen (y / 2) = Go.Lib.bitLen M) := Lib.hid (by omega)
                  have HY : Hid (y / 2 ≤ M) := Lib.hid (by omega)
                  have HYY : Hid (y / 2 < y) := Lib.hid (by omega)
                  have hyI : (0 : Int) < (y : Int) := by omega
                  have hyB : (y : Int) ≤ 152587890625 := by omega
                  have hxI : (x : Int) < 64 := by have := Go.Lib.bitLen_le M 64 (Nat.le_refl _) HMM.out; omega
                  have HX64 : Hid (x + 1 ≤ 64) := Lib.hid (by omega)
                  have ed : (y : Int).tdiv 2 = ((y / 2 : Nat) : Int) := by rw [Int.tdiv_eq_ediv_of_nonneg (by omega)]; omega
                  have ed2 : (y : Int) / 2 = ((y / 2 : Nat) : Int) := by omega
                  obtain ⟨y2, hy2⟩ : ∃ y2, y / 2 = y2 := ⟨_, rfl⟩
                  rw [hy2] at HX HY HYY ed ed2
                  clear h1 hxy hyM hx64 hy hy2 HBH HB0
                  go_wp2_with fail
                  go_round
                  case rel => exact ⟨x + 1, y2, by go_num, rfl, HX.out, HY.out, HX64.out⟩
                  case measure => exact HYY.out
            · have ht := th_not n k (by omega)
              obtain ⟨hE1, hE2⟩ := vc_out n k i ht
              have C1 := Lib.hid fun w => count_any n k w
              rw [cnI_out n k ht] at C1
              rw [hE2]
              obtain ⟨hk1, hk2⟩ := hkin
              clear hE1 hE2 ht
              rcases (show n < 0 ∨ n > 8 by omega) with hn | hn
              all_goals
                go_wp2_with fail
                refine (C1.out _).mono ?_
                rintro e w5 ⟨rfl, hb⟩
                have HB5 := Lib.hid (HB4.out.trans (hb.mono HB4.out.size))
                clear hb HB4 C1
                go_wp2
                go_ret
                exact ⟨rfl, HB5.out⟩
          · have ht := th_not n k (by omega)
            obtain ⟨hE1, hE2⟩ := vc_out n k i ht
            have C1 := Lib.hid fun w => count_any n k w
            rw [cnI_out n k ht] at C1
            have B1 := Lib.hid fun w => bits_any k w
            rw [biI_out k hkin] at B1
            rw [hE2]
            clear hE1 hE2 ht
            rcases (show k < 0 ∨ k > 12 by omega) with hk | hk
            all_goals clear hkin
            all_goals rcases (show n < 0 ∨ n > 8 ∨ (0 ≤ n ∧ n ≤ 8) by omega) with hn | hn | ⟨hn, hn2⟩
            all_goals
              go_wp2_with fail
              refine (C1.out _).mono ?_
              rintro e w5 ⟨rfl, hb⟩
              have HB5 := Lib.hid (HB4.out.trans (hb.mono HB4.out.size))
              clear hb HB4 C1
              go_wp2_with fail
              refine (B1.out _).mono ?_
              rintro e w6 ⟨rfl, hb⟩
              have HB6 := Lib.hid (HB5.out.trans (hb.mono HB5.out.size))
              clear hb HB5 B1
              go_wp2
              go_ret
              exact ⟨rfl, HB6.out⟩
end Go.Proofs.Ytjdiecpbjajkiaa
