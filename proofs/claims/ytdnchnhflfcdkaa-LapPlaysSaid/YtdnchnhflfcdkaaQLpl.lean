/-
  LapPlays walked: the frames of any samples are the document's; samples that are too great are refused; how many frames there are. Conditions: a list of numbers, as it lies; an int.
-/
import Derived.Test.YtdnchnhflfcdkaaQLz
import Derived.Deep.CutRange
namespace Go.Proofs.Ytdnchnhflfcdkaa
open Go.RowKit
open M
theorem byd_iff (x : Int) : byd 1048576 x = true ↔ (x < -1048576 ∨ 1048576 < x) := by
  unfold byd
  rw [decide_eq_true_eq]
set_option maxRecDepth 100000 in
set_option maxHeartbeats 4000000 in
theorem lplays_law (l : List Int) (v : Value) (n : Int) (w : World) (hv : IntsAt w v l) (hl : l.length ≤ maxLen) (hn : -9223372036854775808 ≤ n ∧ n ≤ 9223372036854775807) :
    Calls Try.prog 6 #[v, .int .i64 n] w fun e w' => e = .returned (.bool true) ∧ Below w.heap.size w w' := by
  have HV := Lib.hid hv
  have HL := Lib.hid hl
  have HN := Lib.hid hn
  obtain ⟨ad, capl, rfl, _⟩ := hv
  have hW : ∃ W0 : Nat, (0 ≤ n ∧ n < 3000 ∧ W0 = cnt n.toNat) ∨ ((n < 0 ∨ 3000 ≤ n) ∧ W0 = 0) := by
    by_cases h : 0 ≤ n ∧ n < 3000
    · exact ⟨_, Or.inl ⟨h.1, h.2, rfl⟩⟩
    · exact ⟨0, Or.inr ⟨by omega, rfl⟩⟩
  obtain ⟨W0, hW0⟩ := hW
  have hW1 : W0 ≤ 95 := by unfold cnt at hW0; omega
  have HW := Lib.hid hW0
  have HW1 := Lib.hid hW1
  clear hl hn hW0 hW1
  go_enter Try.func6, Try.ntmps6
  go_wp2_with fail
  refine (pawake_any w).mono ?_
  rintro e w1 ⟨rfl, hb1⟩
  have HV1 := Lib.hid (HV.out.below hb1)
  have HB1 := Lib.hid hb1
  clear HV hb1
  go_wp2_with fail
  go_loopw [5, 6] (fun vv ii wr => ∃ k : Nat, k ≤ W0 ∧ vv = .int .i64 k ∧ ii = .int .i64 k ∧ Below w1.heap.size w1 wr) (fun _ ii _ => W0 - (intOf ii).toNat)
  case atStart => exact ⟨0, Nat.zero_le _, rfl, rfl, Below.refl _ _⟩
  case round =>
    obtain ⟨k, hk, rfl, rfl, hb⟩ := hrel
    have HK := Lib.hid hk
    have HB := Lib.hid hb
    clear hk hb
    go_upto_region 5 with fail
    go_cut [30] from 14 to 34 (fun s30 W => s30 = .bool (decide (k < W0)) ∧ W = wr)
    case first =>
      have hw := HW.out
      have hw1 := HW1.out
      have hkk := HK.out
      rcases Nat.lt_or_ge k W0 with hlt | hge
      · have h1 : (k : Int) < 100 := by omega
        have h2 : 0 ≤ n := by omega
        have h3 : n < 3000 := by omega
        have h4 : 32 * ((k : Int) - 1) < n := by unfold cnt at hw; omega
        have HD := Lib.hid (decide_eq_true hlt)
        clear hw hw1 hkk hlt
        go_wp2_with fail
        go_meet
        case rel => exact ⟨by rw [HD.out], rfl⟩
      · have HD := Lib.hid (decide_eq_false (show ¬ k < W0 by omega))
        have h1 : (k : Int) < 100 := by omega
        rcases (show n < 0 ∨ 3000 ≤ n ∨ (0 ≤ n ∧ n < 3000) by omega) with e | e | e
        · have h2 : ¬ (0 ≤ n) := by omega
          clear hw hw1 hkk hge
          go_wp2_with fail
          go_meet
          case rel => exact ⟨by rw [HD.out], rfl⟩
        · have h2 : 0 ≤ n := by omega
          have h3 : ¬ (n < 3000) := by omega
          clear hw hw1 hkk hge
          go_wp2_with fail
          go_meet
          case rel => exact ⟨by rw [HD.out], rfl⟩
        · have h2 : 0 ≤ n := e.1
          have h3 : n < 3000 := e.2
          have h4 : ¬ (32 * ((k : Int) - 1) < n) := by unfold cnt at hw; omega
          clear hw hw1 hkk hge e
          go_wp2_with fail
          go_meet
          case rel => exact ⟨by rw [HD.out], rfl⟩
    case rest =>
      obtain ⟨rfl, rfl⟩ := hcut
      rcases Nat.lt_or_ge k W0 with hlt | hge
      · have HLT := Lib.hid hlt
        have hkb : (k : Int) ≤ 100 := by have := HW1.out; omega
        rw [decide_eq_true hlt]
        clear hlt
        go_wp2_with fail
        go_roundw
        case rel => exact ⟨k + 1, HLT.out, by go_num, by go_num, HB.out⟩
        case measure =>
          have := HLT.out
          simp only [intOf]
          omega
      · rw [decide_eq_false (show ¬ k < W0 by omega)]
        obtain rfl : k = W0 := by have := HK.out; omega
        clear hge HK
        go_upto_region 8 with fail
        go_cut [56] from 35 (fun s56 W => s56 = .bool false ∧ W = wc)
        case first =>
          have hw := HW.out
          have hn := HN.out
          rcases (show n < 0 ∨ 3000 ≤ n ∨ (0 ≤ n ∧ n < 3000) by omega) with e | e | e
          · have h2 : ¬ (0 ≤ n) := by omega
            have HC := Lib.hid fun w => count_neg n w e
            clear hw
            go_wp2_with fail
            refine (HC.out _).mono ?_
            rintro e w' ⟨rfl, rfl⟩
            go_wp2_with fail
            go_meet
            case rel => exact ⟨rfl, rfl⟩
          · have h1 : ¬ (n < 0) := by omega
            have h2 : 0 ≤ n := by omega
            have h3 : ¬ (n < 3000) := by omega
            clear hw
            go_wp2_with fail
            go_meet
            case rel => exact ⟨rfl, rfl⟩
          · obtain ⟨x, rfl⟩ : ∃ x : Nat, n = (x : Int) := ⟨n.toNat, by omega⟩
            have hk : k = cnt x := by
              rcases hw with h | h
              · rw [h.2.2]; rfl
              · omega
            have h1 : ¬ ((x : Int) < 0) := by omega
            have h2 : (0 : Int) ≤ (x : Int) := by omega
            have h3 : (x : Int) < 3000 := e.2
            have h4 : ¬ ((1 : Int) > (k : Int)) := by unfold cnt at hk; omega
            have h5 : ¬ ((k : Int) < 1) := by omega
            have HC := Lib.hid fun w => count_any x w (by omega)
            rw [← hk] at HC
            clear hw hk e hn
            go_wp2_with fail
            refine (HC.out _).mono ?_
            rintro e w' ⟨rfl, rfl⟩
            go_wp2_with fail
            go_meet
            case rel => exact ⟨by rw [show max (k : Int) 1 = (k : Int) by omega]; simp, rfl⟩
        case rest =>
          obtain ⟨rfl, rfl⟩ := hcut
          have HV2 := Lib.hid (HV1.out.below HB.out)
          have HB2 := Lib.hid (HB1.out.trans (HB.out.mono HB1.out.size))
          clear HV1 HB1 HB HW HW1
          obtain ⟨L, hL⟩ : ∃ L, l.length = L := ⟨_, rfl⟩
          have hlm := HL.out
          unfold maxLen at hlm
          by_cases h384 : L ≤ 384
          · have h1 : (L : Int) ≤ 384 := by omega
            have HL4 : Hid (l.length ≤ 384) := Lib.hid (by omega)
            clear hlm h384
            by_cases hany : l.any (byd 1048576) = true
            · have HFO := Lib.hid fun W h => frames_out l (.slice ad l.length capl) W h (by have := HL4.out; omega) hany
              have HANY := Lib.hid hany
              have HLL := Lib.hid fun _ : Unit => hL
              rw [hL] at HFO ⊢
              clear hany hL
              go_wp2_with fail
              refine (HFO.out wc (by have := HV2.out; rw [HLL.out ()] at this; exact this)).mono ?_
              rintro e w3 ⟨rfl, hb3⟩
              have HV3 := Lib.hid (HV2.out.below hb3)
              have HB3 := Lib.hid (HB2.out.trans (hb3.mono HB2.out.size))
              clear hb3 HFO HV2 HB2
              go_wp2_with fail
              go_loopw [9] (fun ii wr => ∃ i : Nat, i ≤ L ∧ ii = .int .i64 i ∧ (∀ j, j < i → byd 1048576 (l.getD j 0) = false) ∧ Below w3.heap.size w3 wr) (fun ii _ => L - (intOf ii).toNat)
              case atStart => exact ⟨0, Nat.zero_le _, rfl, fun j hj => absurd hj (Nat.not_lt_zero _), Below.refl _ _⟩
              case round =>
                obtain ⟨i, hi, rfl, hbf, hb⟩ := hrel
                have HBF := Lib.hid hbf
                have HB := Lib.hid hb
                clear hbf
                rcases Nat.lt_or_ge i L with hlt | hge
                · have hv3 := HV3.out
                  obtain ⟨a2, c2, heq, hc⟩ := hv3
                  injection heq with e1 e2 e3
                  subst e1 e3
                  obtain ⟨b, off, rfl, hbs, hcs⟩ := hc (by rw [HLL.out ()]; omega)
                  have c0 := (hb.cell (p := ⟨b, off + i, none⟩) hbs).trans (hcs i (by rw [HLL.out ()]; exact hlt))
                  have hiI : (i : Int) < (L : Int) := by omega
                  have HK := Lib.hid hlt
                  have HBW := Lib.hid (HB3.out.trans (hb.mono HB3.out.size))
                  obtain ⟨x, hx⟩ : ∃ x, l.getD i 0 = x := ⟨_, rfl⟩
                  have HX := Lib.hid fun _ : Unit => hx
                  rw [hx] at c0
                  clear hx hc hcs e2 hb hi hlt
                  rcases (show x < -1048576 ∨ 1048576 < x ∨ (-1048576 ≤ x ∧ x ≤ 1048576) by omega) with e | e | ⟨e1, e2⟩
                  · go_wp2_with fail
                    go_ret
                    exact ⟨rfl, HBW.out⟩
                  · have e1 : ¬ (x < -1048576) := by omega
                    go_wp2_with fail
                    go_ret
                    exact ⟨rfl, HBW.out⟩
                  · have q1 : ¬ (x < -1048576) := by omega
                    have q2 : ¬ (1048576 < x) := by omega
                    have HQ : Hid (byd 1048576 x = false) := Lib.hid (by rw [Bool.eq_false_iff, Ne, byd_iff]; omega)
                    clear e1 e2
                    go_wp2_with fail
                    go_roundw
                    case rel =>
                      refine ⟨i + 1, HK.out, by go_num, fun j hj => ?_, HB.out⟩
                      rcases Nat.lt_or_ge j i with h | h
                      · exact HBF.out j h
                      · obtain rfl : j = i := by omega
                        rw [HX.out ()]
                        exact HQ.out
                    case measure =>
                      have := HK.out
                      simp only [intOf]
                      omega
                · obtain rfl : i = L := by omega
                  have := any_no 1048576 l (by rw [HLL.out ()]; exact HBF.out)
                  rw [HANY.out] at this
                  cases this
            · have hany2 : l.any (byd 1048576) = false := by rw [Bool.eq_false_iff]; exact hany
              have hrg := any_range l hany2
              have HRG := Lib.hid hrg
              have HFI := Lib.hid fun W h => frames_in l (.slice ad l.length capl) W h (by have := HL4.out; omega) hrg
              have HFR := Lib.hid fun W h => rframes_in l (.slice ad l.length capl) W h (by have := HL4.out; omega) hrg
              have HLL := Lib.hid fun _ : Unit => hL
              have HJL := Lib.hid (jfrm_len l)
              have hcn : cnt l.length ≤ 13 := by have := HL4.out; unfold cnt; omega
              have HFA := Lib.hid (frm_at l)
              obtain ⟨n0, hn0⟩ : ∃ n0, cnt l.length = n0 := ⟨_, rfl⟩
              rw [hn0] at HFI HFR HJL hcn HFA
              obtain ⟨J, hJ⟩ : ∃ J, jnb (frm l) = J := ⟨_, rfl⟩
              rw [hJ] at HFI HFR HJL
              rw [hL] at HFI HFR ⊢
              have HCN := Lib.hid hcn
              clear hany hany2 hrg hL hn0 hJ hcn
              go_wp2_with fail
              refine (HFI.out wc (by have := HV2.out; rw [HLL.out ()] at this; exact this)).mono ?_
              rintro e w3 ⟨⟨g, _, rfl, hr⟩, hb3⟩
              have HV3 := Lib.hid (HV2.out.below hb3)
              have HB3 := Lib.hid (HB2.out.trans (hb3.mono HB2.out.size))
              have HR := Lib.hid hr
              clear hb3 HFI HV2 HB2 hr
              go_wp2_with fail
              go_loopw [9] (fun ii wr => ∃ i : Nat, i ≤ L ∧ ii = .int .i64 i ∧ Below w3.heap.size w3 wr) (fun ii _ => L - (intOf ii).toNat)
              case atStart => exact ⟨0, Nat.zero_le _, rfl, Below.refl _ _⟩
              case round =>
                obtain ⟨i, hi, rfl, hb⟩ := hrel
                have HB := Lib.hid hb
                rcases Nat.lt_or_ge i L with hlt | hge
                · have hv3 := HV3.out
                  obtain ⟨a2, c2, heq, hc⟩ := hv3
                  injection heq with e1 e2 e3
                  subst e1 e3
                  obtain ⟨b, off, rfl, hbs, hcs⟩ := hc (by rw [HLL.out ()]; omega)
                  have c0 := (hb.cell (p := ⟨b, off + i, none⟩) hbs).trans (hcs i (by rw [HLL.out ()]; exact hlt))
                  have hiI : (i : Int) < (L : Int) := by omega
                  have HK := Lib.hid hlt
                  have hxr := M.getD_bd l 1048576 (by omega) HRG.out i
                  obtain ⟨x, hx⟩ : ∃ x, l.getD i 0 = x := ⟨_, rfl⟩
                  rw [hx] at c0 hxr
                  have q1 : ¬ (x < -1048576) := by omega
                  have q2 : ¬ (1048576 < x) := by omega
                  clear hx hc hcs e2 hb hi hlt hxr
                  go_wp2_with fail
                  go_roundw
                  case rel => exact ⟨i + 1, HK.out, by go_num, HB.out⟩
                  case measure =>
                    have := HK.out
                    simp only [intOf]
                    omega
                · obtain rfl : i = L := by omega
                  have hge2 : ¬ ((i : Int) < (i : Int)) := by omega
                  have HV4 := Lib.hid (HV3.out.below HB.out)
                  have HR4 := Lib.hid (HR.out.box HB.out)
                  have HB4 := Lib.hid (HB3.out.trans (HB.out.mono HB3.out.size))
                  clear hb hi hge HB HV3 HR HB3
                  generalize wr = w4 at *
                  go_wp2_with fail
                  refine (HFR.out w4 (by have := HV4.out; rw [HLL.out ()] at this; exact this)).mono ?_
                  rintro e w5 ⟨⟨g2, cap2, rfl, hfr⟩, hb5⟩
                  have HR5 := Lib.hid (HR4.out.box hb5)
                  have HB5 := Lib.hid (HB4.out.trans (hb5.mono HB4.out.size))
                  have HM := Lib.hid hfr
                  clear hb5 hfr HFR HV4 HR4 HB4
                  go_wp2_with fail
                  go_loopw [11] (fun ii wr => ∃ q : Nat, q ≤ n0 ∧ ii = .int .i64 q ∧ Below w5.heap.size w5 wr) (fun ii _ => n0 - (intOf ii).toNat)
                  case atStart => exact ⟨0, Nat.zero_le _, rfl, Below.refl _ _⟩
                  case round =>
                    obtain ⟨q, hq0, rfl, hb⟩ := hrel
                    have HBB := Lib.hid hb
                    clear hb
                    rcases Nat.lt_or_ge q n0 with hlt | hge
                    · have hqI : (q : Int) < (n0 : Int) := by omega
                      have HK := Lib.hid hlt
                      have HLE : Hid (32 * q + 32 ≤ J.length) := Lib.hid (by rw [HJL.out]; omega)
                      have hfl : (blk J q).length = 32 := blk_len _ _
                      have hqe := frame_eq (blk J q) (blk J q) hfl hfl
                      rw [beq_self_eq_true] at hqe
                      obtain ⟨F, hF⟩ : ∃ F, blk J q = F := ⟨_, rfl⟩
                      have HF := Lib.hid fun _ : Unit => hF
                      rw [hF] at hqe
                      have HQ := Lib.hid hqe
                      clear hqe hfl hF hlt hq0
                      have HC1 : Hid (∀ W : World, (∃ p : Regrown, W = Sort.grow (redrawn wr p.d) p.os) → Row W g 34 (iCells J)) := by
                        rintro W ⟨p, rfl⟩
                        exact (Row.box HR5.out HBB.out).below (below_regrown wr p.d p.os) (Row.lt (Row.box HR5.out HBB.out))
                      have HC2 : Hid (∀ W : World, (∃ p : Regrown, W = Sort.grow (redrawn wr p.d) p.os) → FrAt W g2 J) := by
                        rintro W ⟨p, rfl⟩
                        have h1 := HM.out.below HBB.out HM.out.1
                        exact h1.below (below_regrown wr p.d p.os) h1.1
                      go_wp2_with fail
                      have hq := HQ.out
                      refine wp_region_quiet_below (by kernel_rfl) (by kernel_rfl) ?_
                      repeat (first
                        | (go_big_quiet_want; refine q_load_part 34 (.tmp 107) rfl g q (q * 32) (Nat.mul_comm _ _) rfl 34 J _ HC1.out HLE.out Try.underlying34 rfl frame_32 ?_; rw [HF.out ()]; go_big_quiet_on; simp only [Act.put, List.setIfInBounds_toArray, List.set_cons_zero, List.set_cons_succ])
                        | (go_big_quiet_want; refine q_load_fr 33 (.tmp 111) rfl g2 q (q * 32) (Nat.mul_comm _ _) rfl J _ HC2.out HLE.out Try.underlying33 rfl nums_32 ?_; rw [HF.out ()]; go_big_quiet_on; simp only [Act.put, List.setIfInBounds_toArray, List.set_cons_zero, List.set_cons_succ])
                        | go_big_quiet_step (fail))
                      refine wpQuiet_nil ?_
                      intro _ hw'
                      obtain ⟨⟨dq, osq⟩, hw''⟩ := hw'
                      subst hw''
                      have HBX := Lib.hid (HBB.out.trans ((below_regrown wr dq osq).mono HBB.out.size))
                      clear HC1 HC2 hq
                      generalize Sort.grow (redrawn wr dq) osq = w6 at *
                      have hcn := HCN.out
                      have hkk := HK.out
                      go_wp2_with fail
                      go_roundw
                      case rel => exact ⟨q + 1, HK.out, by go_num, HBX.out⟩
                      case measure =>
                        have := HK.out
                        simp only [intOf]
                        omega
                    · obtain rfl : q = n0 := by omega
                      have hge2 : ¬ ((q : Int) < (q : Int)) := by omega
                      have HBE := Lib.hid (HB5.out.trans (HBB.out.mono HB5.out.size))
                      clear hq0 hge
                      go_wp2_with fail
                      go_ret
                      exact ⟨rfl, HBE.out⟩
          · have h1 : ¬ ((L : Int) ≤ 384) := by omega
            have h2 : (384 : Int) < (L : Int) := by omega
            rw [hL]
            clear hL hlm h384
            go_wp2_with fail
            go_ret
            exact ⟨rfl, HB2.out⟩
end Go.Proofs.Ytdnchnhflfcdkaa
