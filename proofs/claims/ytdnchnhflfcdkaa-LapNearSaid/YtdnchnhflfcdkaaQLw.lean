/-
  LapNear walked: of samples that begin alike the frames are alike, as far as these go. Conditions: two lists of numbers, as they lie; a number below 2^16.
-/
import Derived.Test.YtdnchnhflfcdkaaQLv
import Derived.Deep.Cut
namespace Go.Proofs.Ytdnchnhflfcdkaa
open Go.RowKit
open M
set_option maxRecDepth 100000 in
set_option maxHeartbeats 2000000 in
theorem near_law (l m : List Int) (v u : Value) (c : Int) (w : World) (hv : IntsAt w v l) (hl : l.length ≤ maxLen) (hu : IntsAt w u m) (hm : m.length ≤ maxLen) (hc : 0 ≤ c ∧ c ≤ 65535) :
    Calls Try.prog 7 #[v, u, .int .u16 c] w fun e w' => e = .returned (.bool true) ∧ Below w.heap.size w w' := by
  have HX1 : Hid ((h20 l).length ≤ 384) := Lib.hid (by rw [h20_len]; omega)
  have HX2 := Lib.hid (h20_bd l)
  have HY1 : Hid ((h20 m).length ≤ 384) := Lib.hid (by rw [h20_len]; omega)
  have HY2 := Lib.hid (h20_bd m)
  have HH := Lib.hid fun w h => held20_any l v w h hl
  have HM := Lib.hid fun w h => held20_any m u w h hm
  have HV := Lib.hid hv
  have HU := Lib.hid hu
  have hv2 := hv
  have hu2 := hu
  obtain ⟨a0, cap0, rfl, _⟩ := hv2
  obtain ⟨a1, cap1, rfl, _⟩ := hu2
  clear hv hu hl hm
  generalize h20 l = X at *
  generalize h20 m = M at *
  go_enter Try.func7, Try.ntmps7
  go_wp2_with fail
  refine (pawake_any w).mono ?_
  rintro e w1 ⟨rfl, hb1⟩
  have HV1 := Lib.hid (HV.out.below hb1)
  have HU1 := Lib.hid (HU.out.below hb1)
  have HB1 := Lib.hid hb1
  clear HV HU hb1
  go_wp2_with fail
  refine (HH.out w1 HV1.out).mono ?_
  rintro e w2 ⟨⟨vx, rfl, hown⟩, hb2⟩
  have HS2 := Lib.hid (own_src hown)
  have HU2 := Lib.hid (HU1.out.below hb2)
  have HB2 := Lib.hid (HB1.out.trans (hb2.mono HB1.out.size))
  have HBS := Lib.hid HB2.out.size
  clear hown hb2 HH HB1 HV1 HU1
  obtain ⟨L, hL⟩ : ∃ L, X.length = L := ⟨_, rfl⟩
  have hLb : L ≤ 384 := by rw [← hL]; exact HX1.out
  obtain ⟨k, hk⟩ : ∃ k : Nat, c.tmod ((L : Int) + 1) = (k : Int) := ⟨(c.tmod ((L : Int) + 1)).toNat, by have := Int.tmod_nonneg ((L : Int) + 1) hc.1; omega⟩
  have hkL : k ≤ L := by have := Int.tmod_lt_of_pos c (show (0 : Int) < (L : Int) + 1 by omega); omega
  have hk2 : c % ((L : Int) + 1) = (k : Int) := by rw [← hk, Int.tmod_eq_emod_of_nonneg hc.1]
  have HKL := Lib.hid hkL
  have HLL := Lib.hid fun _ : Unit => hL
  have HC := Lib.hid hc
  obtain ⟨ax, capx, rfl⟩ := HS2.out.shape
  rw [hL] at HS2 ⊢
  clear hL
  go_upto_region 5 with fail
  clear hk hk2 hc
  go_cut [9] from 10 (fun s9 W => W.ownsRow w2.heap.size 3 1 s9 (X.take k ++ M).length (iV (X.take k ++ M)) ∧ SrcI W (.slice ax L capx) X ∧ Below w.heap.size w W)
  case first =>
    have HOW : Hid ((w2.alloc (.cells #[] 3)).ownsRow w2.heap.size 3 1 (.slice (some ⟨w2.heap.size, 0, none⟩) 0 0) ([] : List Int).length (iV [])) := Lib.hid (World.ownsRow_lit w2 #[] 0 (Nat.le_refl _) (by decide) rfl)
    have HBA : Hid (Below w2.heap.size w2 (w2.alloc (.cells #[] 3))) := Lib.hid ((Below.refl _ _).alloc (Nat.le_refl _) _)
    rcases HS2.out with ⟨he, hx0⟩ | ⟨gx, cx, he, hlc, hgx, hcx⟩
    · injection he with e1 e2 e3
      subst e1 e2 e3
      obtain rfl : k = 0 := by omega
      have HOWX : Hid ((w2.alloc (.cells #[] 3)).ownsRow w2.heap.size 3 1 (.slice (some ⟨w2.heap.size, 0, none⟩) 0 0) (X.take 0).length (iV (X.take 0))) := Lib.hid (by rw [List.take_zero]; exact HOW.out)
      have HB3 := HBA
      have HU3 := Lib.hid (HU2.out.below HBA.out)
      clear HOW HBA HU2
      go_wp2_with fail
      refine (HM.out _ HU3.out).mono ?_
      rintro e w3 ⟨⟨vm, rfl, hown⟩, hb3⟩
      have HSM := Lib.hid (own_src hown)
      have HOW3 := Lib.hid (own_stay HOWX.out hb3)
      have HB4 := Lib.hid (HB3.out.trans (hb3.mono HB3.out.size))
      clear hown hb3 HOWX HB3 HU3
      go_wp2_with (at_builtin; refine wpList_append_src rfl (.tmp 29) (.tmp 31) rfl w2.heap.size _ vm (X.take 0) M rfl HOW3.out rfl HSM.out (by rw [List.length_take]; have := HX1.out; have := HY1.out; omega) HB4.out.size ?_; intro v' w4 hown' hb4; have HOW4 := Lib.hid hown'; have HB5 := Lib.hid (HB4.out.trans hb4); clear hown' hb4)
      go_meet
      case rel => exact ⟨HOW4.out, HS2.out.box HB5.out, HB2.out.trans (HB5.out.mono HBS.out)⟩
    · injection he with e1 e2 e3
      subst e1 e3
      have HPT := Lib.hid (SrcI.part k (by rw [HLL.out ()]; exact HKL.out) hlc hgx hcx)
      have HPT2 := Lib.hid (HPT.out.box HBA.out)
      have hkc : (k : Int) ≤ (capx : Int) := by have := HKL.out; rw [HLL.out ()] at hlc; omega
      clear hlc hgx hcx HPT e2
      go_wp2_with (at_builtin; refine wpList_append_src rfl (.tmp 25) (.tmp 28) rfl w2.heap.size _ _ [] (X.take k) rfl HOW.out rfl HPT2.out (by rw [List.length_take]; have := HX1.out; show 0 + _ ≤ _; omega) HBA.out.size ?_; intro v3 w3 hown3 hb3; have HOWX := Lib.hid hown3; have HB3 := Lib.hid (HBA.out.trans hb3); have HU3 := Lib.hid (HU2.out.below HB3.out); clear hown3 hb3 HOW HBA HU2 HPT2)
      refine (HM.out _ HU3.out).mono ?_
      rintro e w3 ⟨⟨vm, rfl, hown⟩, hb3⟩
      have HSM := Lib.hid (own_src hown)
      have HOW3 := Lib.hid (own_stay HOWX.out hb3)
      have HB4 := Lib.hid (HB3.out.trans (hb3.mono HB3.out.size))
      clear hown hb3 HOWX HB3 HU3
      go_wp2_with (at_builtin; refine wpList_append_src rfl (.tmp 29) (.tmp 31) rfl w2.heap.size _ vm (X.take k) M rfl HOW3.out rfl HSM.out (by rw [List.length_take]; have := HX1.out; have := HY1.out; omega) HB4.out.size ?_; intro v' w4 hown' hb4; have HOW4 := Lib.hid hown'; have HB5 := Lib.hid (HB4.out.trans hb4); clear hown' hb4)
      go_meet
      case rel => exact ⟨HOW4.out, HS2.out.box HB5.out, HB2.out.trans (HB5.out.mono HBS.out)⟩
  case rest =>
    obtain ⟨hown, hsx, hbw⟩ := hcut
    have HYS := Lib.hid (own_src hown)
    have HXS := Lib.hid hsx
    have HB3 := Lib.hid hbw
    have hyl : (X.take k ++ M).length ≤ 768 := by rw [List.length_append, List.length_take]; have := HX1.out; have := HY1.out; omega
    have HYB : Hid (∀ x ∈ X.take k ++ M, -1048576 ≤ x ∧ x ≤ 1048576) := Lib.hid fun x hx => by
      rcases List.mem_append.1 hx with h | h
      · exact HX2.out x (List.mem_of_mem_take h)
      · exact HY2.out x h
    have HKY : Hid (k ≤ (X.take k ++ M).length) := Lib.hid (by rw [List.length_append, List.length_take, HLL.out ()]; have := HKL.out; omega)
    have HSAME : Hid (∀ q, q < k → X.getD q 0 = (X.take k ++ M).getD q 0) := Lib.hid fun q hq => by
      rw [List.getD_eq_getElem?_getD, List.getD_eq_getElem?_getD, List.getElem?_append_left (by rw [List.length_take, HLL.out ()]; have := HKL.out; omega), List.getElem?_take, if_pos hq]
    clear hown hsx hbw HM HU2 HS2 HY1 HY2 HB2 HBS
    generalize X.take k ++ M = Y at *
    have HNR : Hid (∀ b, 32 * b + 48 ≤ k → (frm X).getD b [] = (frm Y).getD b []) := Lib.hid (frm_near X Y k (by rw [HLL.out ()]; exact HKL.out) HKY.out HSAME.out)
    obtain ⟨ay, cy, rfl⟩ := HYS.out.shape
    go_wp2_with fail
    refine (frames_in X _ wc (by have := HXS.out.ints; exact this) (by have := HX1.out; omega) HX2.out).mono ?_
    rintro e w4 ⟨⟨g1, _, rfl, hr1⟩, hb4⟩
    have HYS4 := Lib.hid (HYS.out.box hb4)
    have HB4 := Lib.hid (HB3.out.trans (hb4.mono HB3.out.size))
    have HR1 := Lib.hid hr1
    clear hr1 hb4 HB3 HYS HXS
    go_wp2_with fail
    refine (frames_in Y _ w4 HYS4.out.ints (by omega) HYB.out).mono ?_
    rintro e w5 ⟨⟨g2, _, rfl, hr2⟩, hb5⟩
    have HR1a := Lib.hid (HR1.out.box hb5)
    have HB5 := Lib.hid (HB4.out.trans (hb5.mono HB4.out.size))
    have HR2 := Lib.hid hr2
    clear hr2 hb5 HB4 HYS4 HR1
    have HL1 := Lib.hid (jfrm_len X)
    have HL2 := Lib.hid (jfrm_len Y)
    have HF1 : Hid (∀ b, b < cnt X.length → blk (jnb (frm X)) b = (frm X).getD b []) := Lib.hid fun b hb => blk_jnb _ _ (by rw [frm_len]; exact hb) (frm_at X b hb)
    have HF2 : Hid (∀ b, b < cnt Y.length → blk (jnb (frm Y)) b = (frm Y).getD b []) := Lib.hid fun b hb => blk_jnb _ _ (by rw [frm_len]; exact hb) (frm_at Y b hb)
    have HFA := Lib.hid (frm_at X)
    have hc1 : cnt X.length ≤ 13 := by have := HX1.out; unfold cnt; omega
    have hc2 : cnt Y.length ≤ 25 := by unfold cnt; omega
    have hkb : k ≤ 384 := by have := HKL.out; omega
    rw [HLL.out ()] at HL1 HF1 HFA hc1 ⊢
    obtain ⟨n1, hn1⟩ : ∃ n, cnt L = n := ⟨_, rfl⟩
    obtain ⟨n2, hn2⟩ : ∃ n, cnt Y.length = n := ⟨_, rfl⟩
    rw [hn1] at HL1 HF1 HFA hc1 ⊢
    rw [hn2] at HL2 HF2 hc2 ⊢
    clear hn1 hn2 hyl HLL HX1 HX2 HYB HKY HSAME
    obtain ⟨FX, hFX⟩ : ∃ FX, frm X = FX := ⟨_, rfl⟩
    obtain ⟨FY, hFY⟩ : ∃ FY, frm Y = FY := ⟨_, rfl⟩
    rw [hFX] at HNR HL1 HF1 HFA HR1a
    rw [hFY] at HNR HL2 HF2 HR2
    generalize jnb FX = JX at *
    generalize jnb FY = JY at *
    clear hFX hFY
    go_wp2_with fail
    go_loopw [14] (fun ii wr => ∃ i : Nat, i ≤ 25 ∧ ii = .int .i64 i ∧ Below w5.heap.size w5 wr) (fun ii _ => 25 - (intOf ii).toNat)
    case atStart => exact ⟨0, by omega, rfl, Below.refl _ _⟩
    case round =>
      obtain ⟨i, hi, rfl, hb⟩ := hrel
      have HBB := Lib.hid hb
      have hm1 : (32 : Int) * (i : Int) = ((32 * i : Nat) : Int) := by omega
      obtain ⟨m32, hm32⟩ : ∃ m, 32 * i = m := ⟨_, rfl⟩
      rw [hm32] at hm1
      have hmb : m32 ≤ 800 := by omega
      by_cases h1 : i < n1 ∧ i < n2 ∧ m32 + 48 ≤ k
      · obtain ⟨ha, hbb, hcc⟩ := h1
        have ha2 : (i : Int) < (n1 : Int) := by omega
        have hb2 : (i : Int) < (n2 : Int) := by omega
        have hc2 : (m32 : Int) + 48 ≤ (k : Int) := by omega
        have he := HNR.out i (by omega)
        have h1x := HF1.out i ha
        have h2y := HF2.out i hbb
        rw [← he] at h2y
        have hfl := HFA.out i ha
        obtain ⟨F, hF⟩ : ∃ F, FX.getD i [] = F := ⟨_, rfl⟩
        rw [hF] at h1x h2y hfl
        have HX := Lib.hid fun _ : Unit => h1x
        have HY := Lib.hid fun _ : Unit => h2y
        have hq := frame_eq F F hfl hfl
        rw [beq_self_eq_true] at hq
        have HQ := Lib.hid hq
        have HLE1 : Hid (32 * i + 32 ≤ JX.length) := Lib.hid (by rw [HL1.out]; omega)
        have HLE2 : Hid (32 * i + 32 ≤ JY.length) := Lib.hid (by rw [HL2.out]; omega)
        have HI : Hid (i + 1 ≤ 25) := Lib.hid (by omega)
        clear he h1x h2y hF hfl hq hb hi hm32
        have HC1 : Hid (∀ W : World, (∃ p : Regrown, W = Sort.grow (redrawn wr p.d) p.os) → Row W g1 34 (iCells JX)) := by
          rintro W ⟨p, rfl⟩
          exact (Row.box HR1a.out HBB.out).below (below_regrown wr p.d p.os) (Row.lt (Row.box HR1a.out HBB.out))
        have HC2 : Hid (∀ W : World, (∃ p : Regrown, W = Sort.grow (redrawn wr p.d) p.os) → Row W g2 34 (iCells JY)) := by
          rintro W ⟨p, rfl⟩
          exact (Row.box HR2.out HBB.out).below (below_regrown wr p.d p.os) (Row.lt (Row.box HR2.out HBB.out))
        go_wp2_with fail
        have hq := HQ.out
        refine wp_region_quiet_below (by kernel_rfl) (by kernel_rfl) ?_
        repeat (first
          | (go_big_quiet_want; refine q_load_part 34 (.tmp 64) rfl g1 i (i * 32) (Nat.mul_comm _ _) rfl 34 JX _ HC1.out HLE1.out Try.underlying34 rfl frame_32 ?_; rw [HX.out ()]; go_big_quiet_on; simp only [Act.put, List.setIfInBounds_toArray, List.set_cons_zero, List.set_cons_succ])
          | (go_big_quiet_want; refine q_load_part 34 (.tmp 68) rfl g2 i (i * 32) (Nat.mul_comm _ _) rfl 34 JY _ HC2.out HLE2.out Try.underlying34 rfl frame_32 ?_; rw [HY.out ()]; go_big_quiet_on; simp only [Act.put, List.setIfInBounds_toArray, List.set_cons_zero, List.set_cons_succ])
          | go_big_quiet_step (fail))
        refine wpQuiet_nil ?_
        intro _ hw'
        obtain ⟨⟨dq, osq⟩, hw''⟩ := hw'
        subst hw''
        have HBX := Lib.hid (HBB.out.trans ((below_regrown wr dq osq).mono HBB.out.size))
        clear HC1 HC2 hq
        generalize Sort.grow (redrawn wr dq) osq = w6 at *
        go_wp2_with fail
        go_roundw
        case rel => exact ⟨i + 1, HI.out, by go_num, HBX.out⟩
        case measure =>
          have := HI.out
          simp only [intOf]
          omega
      · have HBE := Lib.hid (HB5.out.trans (hb.mono HB5.out.size))
        clear hb HFA HNR HF1 HL1 HF2 HL2 hm32 hi
        by_cases h2 : i < n1
        · have h2I : (i : Int) < (n1 : Int) := by omega
          by_cases h3 : i < n2
          · have h3I : (i : Int) < (n2 : Int) := by omega
            have h4 : ¬ (m32 + 48 ≤ k) := fun h => h1 ⟨h2, h3, h⟩
            have h4I : ¬ ((m32 : Int) + 48 ≤ (k : Int)) := by omega
            clear h1
            go_wp2_with fail
            go_ret
            exact ⟨rfl, HBE.out⟩
          · have h3I : ¬ ((i : Int) < (n2 : Int)) := by omega
            clear h1
            go_wp2_with fail
            go_ret
            exact ⟨rfl, HBE.out⟩
        · have h2I : ¬ ((i : Int) < (n1 : Int)) := by omega
          clear h1
          go_wp2_with fail
          go_ret
          exact ⟨rfl, HBE.out⟩
end Go.Proofs.Ytdnchnhflfcdkaa
