/-
  The reference's Sum of layer 15. Conditions: texts of up to 1000 bytes.
-/
import Derived.Test.YtoohahjmiljpgaaQS8
import Derived.StillTailTactics
import Derived.Deep.Cut
namespace Go.Proofs.Ytoohahjmiljpgaa
open Go.RowKit
open M
set_option maxRecDepth 100000 in
set_option maxHeartbeats 1000000 in
theorem rsum_any (r : Int) (s : ByteArray) (w : World) (hs : s.size ≤ 1000) :
    Calls Try.prog 14 #[.int .i64 r, .string s] w fun e w' => e = .returned (.int .i64 (sm15 r (bl s) : Nat)) ∧ Below w.heap.size w w' := by
  have hsI : (s.size : Int) ≤ 1000 := by omega
  obtain ⟨B, hB⟩ : ∃ B, w.heap.size = B := ⟨_, rfl⟩
  have HBB := Lib.hid fun _ : Unit => hB
  have HB0 := Lib.hid (show Below B w w by rw [← hB]; exact Below.refl _ _)
  have HTM := Lib.hid (tm15 r)
  obtain ⟨r0, hr0, hr0b⟩ : ∃ r0 : Nat, (r0 : Int) = r % 65536 ∧ r0 < 65536 := ⟨(r % 65536).toNat, by omega, by omega⟩
  rw [← hr0] at HTM
  have HR0 := Lib.hid hr0
  rw [hB]
  clear hr0
  go_enter Try.func14, Try.ntmps14
  go_upto_if 18 with fail
  go_cut [0] from 15 (fun x wx => x = .int .i64 (r0 : Int) ∧ wx = w)
  case first =>
    by_cases h0 : r.tmod 65536 < 0
    · have e1 : IntKind.i64.wrap (r.tmod 65536 + 65536) = (r0 : Int) := by
        rw [HTM.out.2 h0, IntKind.wrap_i64]; omega
      go_wp2_with fail
      go_meet
      case rel => exact ⟨rfl, rfl⟩
    · have e1 : r.tmod 65536 = (r0 : Int) := HTM.out.1 (by omega)
      go_wp2_with fail
      go_meet
      case rel => exact ⟨rfl, rfl⟩
  case rest =>
    obtain ⟨rfl, hw⟩ := hcut
    subst hw
    clear HTM
    obtain ⟨l, hl⟩ : ∃ l, bl s = l := ⟨_, rfl⟩
    have HL := Lib.hid hl
    have HLN := Lib.hid (show l.length = s.size by rw [← hl]; rfl)
    clear hl
    go_wp2_with fail
    go_loopw [5, 6] (fun vv ii wr => ∃ (k n : Nat) (v : Value), k ≤ s.size ∧ vv = v ∧ ii = .int .i64 k ∧ n = 8 * k ∧ wr.ownsRow B 3 1 v n (iV (bts15 l n)) ∧ Below B wc wr) (fun _ ii _ => s.size - (intOf ii).toNat)
    case atStart => exact ⟨0, 0, _, Nat.zero_le _, rfl, rfl, rfl, own13_none _ _ _ _, HB0.out⟩
    case round =>
      obtain ⟨k, n, v, hk, rfl, rfl, hn, hown, hbw⟩ := hrel
      rcases Nat.lt_or_ge k s.size with hlt | hge
      · have hkI : (k : Int) < (s.size : Int) := by omega
        have HN := Lib.hid hn
        have HO := Lib.hid hown
        have HB1 := Lib.hid hbw
        have HK := Lib.hid hlt
        clear hn hown hbw hk
        go_wp2_with fail
        go_loopw [5, 7] (fun vv qq wr => ∃ (j m : Nat) (q : Nat) (v : Value), j ≤ 8 ∧ vv = v ∧ qq = .int .i64 (q : Int) ∧ q = qj15 j ∧ m = 8 * k + j ∧ wr.ownsRow B 3 1 v m (iV (bts15 l m)) ∧ Below B wc wr) (fun _ qq _ => (intOf qq).toNat)
        case atStart => exact ⟨0, n, 128, _, by omega, rfl, rfl, by decide, HN.out, HO.out, HB1.out⟩
        case round =>
          clear HO HB1
          obtain ⟨j, m, q, v, hj, rfl, rfl, hq, hm, hown, hbw⟩ := hrel
          rcases Nat.lt_or_ge j 8 with hlj | hgj
          · have hqb := qj_pos j hlj
            rw [← hq] at hqb
            have hqI : 1 ≤ (q : Int) := by omega
            have hqI2 : (q : Int) ≤ 128 := by omega
            obtain ⟨x, y, z, u, hx, e1, e2, e3, e4, e5, e6, hbt, hu, huq⟩ := bit_run s l k j q m HL.out HK.out hlj hq hm
            rw [getElem!_pos s k HK.out] at hx
            have hm6 : m ≤ 1000000 := by omega
            have hBs : B ≤ wr.heap.size := by rw [← hB]; exact hbw.size
            obtain ⟨g, hg⟩ : ∃ g, wr.heap.size = g := ⟨_, rfl⟩
            have E6 := Lib.hid e6
            have HO := Lib.hid hown
            have HB1 := Lib.hid hbw
            have HM := Lib.hid hm
            have HJ := Lib.hid hlj
            have HU := Lib.hid hu
            have HUQ := Lib.hid huq
            have HSN := Lib.hid (show bts15 l m ++ [(z : Int)] = bts15 l (m + 1) by rw [bts_snoc, hbt])
            clear hown hbw hm hj hlj hbt hq hu huq hqb
            go_wp2_with (at_builtin; refine wpList_append_one rfl _ _ 54 3 Try.underlying54 one_parts rfl B _ m _ (z : Int) rfl (HO.out.alloc _) g rfl (one_new wr g hg (.int .i64 (z : Int)) 3 0 _ rfl) hm6 ?c1 ?_)
            case c1 => simp; omega
            intro v2 w2 hown2 hb2 hg2
            rw [HSN.out] at hown2
            have HO2 := Lib.hid hown2
            have HB2 := Lib.hid ((HB1.out.alloc hBs (.cells #[.int .i64 (z : Int)] 3)).trans hb2)
            clear hown2 hb2 hg2 HO HB1
            go_wp2_with fail
            go_roundw
            case rel => exact ⟨j + 1, m + 1, u, _, HJ.out, rfl, by rw [E6.out], HU.out, by rw [HM.out]; omega, HO2.out, HB2.out⟩
            case measure =>
              have := HUQ.out
              rw [E6.out]
              exact ms15 u q (HUQ.out)
          · obtain rfl : j = 8 := by omega
            rw [qj_end] at hq
            subst hq
            have HO := Lib.hid hown
            have HB1 := Lib.hid hbw
            have HM := Lib.hid hm
            clear hown hbw hm hj hgj
            go_wp2_with fail
            go_roundw
            case rel => exact ⟨k + 1, m, _, HK.out, rfl, by go_num, by rw [HM.out]; omega, HO.out, HB1.out⟩
            case measure =>
              have := HK.out
              simp [intOf] <;> omega
      · obtain rfl : k = s.size := by omega
        have HN := Lib.hid hn
        have HO := Lib.hid hown
        have HB1 := Lib.hid hbw
        clear hn hown hbw hk hge HB0
        go_wp2_with fail
        have HK := Lib.hid (show n ≤ 8000 by have := HN.out; omega)
        go_loopw [5, 8] (fun vv ii wr => ∃ (i m : Nat) (v : Value), i ≤ 16 ∧ vv = v ∧ ii = .int .i64 i ∧ m = n + i ∧ wr.ownsRow B 3 1 v m (iV (bts15 l n ++ List.replicate i 0)) ∧ Below B wc wr) (fun _ ii _ => 16 - (intOf ii).toNat)
        case atStart => exact ⟨0, n, _, by omega, rfl, rfl, rfl, by rw [List.replicate_zero, List.append_nil]; exact HO.out, HB1.out⟩
        case round =>
          clear HO HB1
          obtain ⟨i, m, v, hi, rfl, rfl, hm, hown, hbw⟩ := hrel
          rcases Nat.lt_or_ge i 16 with hli | hgi
          · have hiI : (i : Int) < 16 := by omega
            have hm6 : m ≤ 1000000 := by have := HK.out; omega
            have hBs : B ≤ wr.heap.size := by rw [← hB]; exact hbw.size
            obtain ⟨g, hg⟩ : ∃ g, wr.heap.size = g := ⟨_, rfl⟩
            have HO := Lib.hid hown
            have HB1 := Lib.hid hbw
            have HM := Lib.hid hm
            have HI := Lib.hid hli
            have HSN := Lib.hid (show bts15 l n ++ (List.replicate i 0 ++ [(0 : Int)]) = bts15 l n ++ List.replicate (i + 1) 0 by rw [← List.replicate_succ'])
            clear hown hbw hm hi hli
            go_wp2_with (at_builtin; refine wpList_append_one rfl _ _ 54 3 Try.underlying54 one_parts rfl B _ m _ (0 : Int) rfl (HO.out.alloc _) g rfl (one_new wr g hg (.int .i64 (0 : Int)) 3 0 _ rfl) hm6 ?c1 ?_)
            case c1 => simp; omega
            intro v2 w2 hown2 hb2 hg2
            rw [HSN.out] at hown2
            have HO2 := Lib.hid hown2
            have HB2 := Lib.hid ((HB1.out.alloc hBs (.cells #[.int .i64 (0 : Int)] 3)).trans hb2)
            clear hown2 hb2 hg2 HO HB1
            go_wp2_with fail
            go_roundw
            case rel => exact ⟨i + 1, m + 1, _, HI.out, rfl, by go_num, by rw [HM.out]; omega, HO2.out, HB2.out⟩
            case measure =>
              have := HI.out
              simp [intOf] <;> omega
          · obtain rfl : i = 16 := by omega
            have HO := Lib.hid hown
            have HB1 := Lib.hid hbw
            have HM := Lib.hid hm
            clear hown hbw hm hi hgi
            go_wp2_with fail
            obtain ⟨g, cap, rfl, hBg, hgl⟩ := own13_form HO.out (by have := HM.out; omega)
            have HOX := Lib.hid (show wr.ownsRow B 3 1 (.slice (some ⟨g, 0, none⟩) m cap) m (iV (bm15 (xa15 (BitVec.ofNat 16 r0) (tb15 l n ++ List.replicate 16 false) 0))) from by
              rw [xa_zero, ← bm_app, ← bts_bm]; exact HO.out)
            have HBG := Lib.hid hBg
            obtain ⟨R, hR⟩ : ∃ R, BitVec.ofNat 16 r0 = R := ⟨_, rfl⟩
            rw [hR] at HOX
            have HRR := Lib.hid fun _ : Unit => hR
            obtain ⟨L, hLL⟩ : ∃ L, tb15 l n = L := ⟨_, rfl⟩
            rw [hLL] at HOX
            have HLL := Lib.hid (show L.length = n by rw [← hLL, tb_len])
            have HLE := Lib.hid fun _ : Unit => hLL
            clear HO hR hLL hBg hgl
            rw [show ((16 : Nat) : Int) = 16 from rfl]
            go_loopw [9] (fun ii wr => ∃ (i : Nat), i ≤ 16 ∧ ii = .int .i64 i ∧ wr.ownsRow B 3 1 (.slice (some ⟨g, 0, none⟩) m cap) m (iV (bm15 (xa15 R (L ++ List.replicate 16 false) i))) ∧ Below B wc wr) (fun ii _ => 16 - (intOf ii).toNat)
            case atStart => exact ⟨0, by omega, rfl, HOX.out, HB1.out⟩
            case round =>
              clear HOX HB1
              obtain ⟨i, hi, rfl, hown, hbw⟩ := hrel
              have HO := Lib.hid hown
              have HB1 := Lib.hid hbw
              rcases Nat.lt_or_ge i 16 with hli | hgi
              · have hiI : (i : Int) < 16 := by omega
                have HI := Lib.hid hli
                clear hi hown hbw hli
                go_wp2_with fail
                go_loop [10, 11] (fun qq kk => ∃ (k q : Nat), k ≤ i ∧ kk = .int .i64 k ∧ qq = .int .i64 (q : Int) ∧ q = 2 ^ (15 - k)) (fun _ kk => i - (intOf kk).toNat)
                case atStart => exact ⟨0, 32768, Nat.zero_le _, rfl, rfl, rfl⟩
                case round =>
                  obtain ⟨k, q, hk, rfl, rfl, hq⟩ := hrel
                  rcases Nat.lt_or_ge k i with hlk | hgk
                  · have hkI : (k : Int) < (i : Int) := by omega
                    have hqb := pw15_bd k
                    rw [← hq] at hqb
                    have hp := pw15 k (by have := HI.out; omega)
                    rw [← hq] at hp
                    obtain ⟨u, hu⟩ : ∃ u, q / 2 = u := ⟨_, rfl⟩
                    rw [hu] at hp
                    have e1 : (q : Int).tdiv 2 = (u : Int) := by rw [Int.tdiv_eq_ediv_of_nonneg (by omega)]; omega
                    have e1' : (q : Int) / 2 = (u : Int) := by omega
                    have e2 : wrap64 (u : Int) = (u : Int) := by rw [wrap64]; omega
                    have HK := Lib.hid hlk
                    have HP := Lib.hid hp
                    have E2 := Lib.hid e2
                    clear hk hlk hqb hq hp hu e2
                    go_wp2_with fail
                    go_round
                    case rel => exact ⟨k + 1, u, HK.out, by go_num, by rw [E2.out], HP.out⟩
                    case measure =>
                      have := HK.out
                      simp [intOf] <;> omega
                  · obtain rfl : k = i := by omega
                    have hqb := pw15_bd k
                    rw [← hq] at hqb
                    have hkl := HI.out
                    have hxl : k < (xa15 R (L ++ List.replicate 16 false) k).length := by rw [xa_len, List.length_append, List.length_replicate]; omega
                    have c0 := own13_at HO.out k (by rw [bm_len]; exact hxl)
                    rw [bm_get, xa_at _ _ _ _ (by rw [xa_len] at hxl; exact hxl), if_neg (by omega)] at c0
                    have hst := xa_step R (L ++ List.replicate 16 false) k (by rw [xa_len] at hxl; exact hxl)
                    obtain ⟨b, hb⟩ : ∃ b, (L ++ List.replicate 16 false).getD k false = b := ⟨_, rfl⟩
                    rw [hb] at c0 hst
                    have hrb := reg_bit r0 k hkl b
                    rw [HRR.out (), ← hq] at hrb
                    have hbb := bI_bd b
                    obtain ⟨x, hx⟩ : ∃ x, bI15 b = x := ⟨_, rfl⟩
                    rw [hx] at c0 hrb hbb
                    obtain ⟨y, hy⟩ : ∃ y, r0 / q = y := ⟨_, rfl⟩
                    have hyb : y ≤ 65535 := by rw [← hy]; exact Nat.le_trans (Nat.div_le_self _ _) (by omega)
                    rw [hy] at hrb
                    obtain ⟨z, hz⟩ : ∃ z, bI15 (b != R.getLsbD (15 - k)) = z := ⟨_, rfl⟩
                    rw [hz] at hrb
                    have hzb := bI_bd (b != R.getLsbD (15 - k))
                    rw [hz] at hzb
                    have e1 : (r0 : Int).tdiv (q : Int) = (y : Int) := by rw [Int.tdiv_eq_ediv_of_nonneg (by omega), ← hy, Int.natCast_ediv]
                    have e2 : IntKind.i64.wrap (y : Int) = (y : Int) := by rw [IntKind.wrap_i64]; omega
                    have e3 : IntKind.i64.wrap (x + (y : Int)) = x + (y : Int) := by rw [IntKind.wrap_i64]; omega
                    have e4 : (x + (y : Int)).tmod 2 = z := by rw [Int.tmod_eq_emod_of_nonneg (by omega), hrb]
                    have e5 : IntKind.i64.wrap z = z := by rw [IntKind.wrap_i64]; omega
                    have hq0 : ((q : Int) == 0) = false := by rw [beq_eq_false_iff_ne]; omega
                    have hq1 : (q : Int) ≠ 0 := by omega
                    have hq2 : decide ((q : Int) = 0) = false := decide_eq_false hq1
                    have hq3 : ¬ q = 0 := by omega
                    have hq4 : (q == 0) = false := by rw [beq_eq_false_iff_ne]; exact hq3
                    have hqp : 0 < q := by omega
                    have hkm : (k : Int) < (m : Int) := by have := HM.out; omega
                    have hkm2 : k < m := by have := HM.out; omega
                    have f0 := HO.out.frozenAt k
                    have HST := Lib.hid (show (iV (bm15 (xa15 R (L ++ List.replicate 16 false) k))).set k (.int .i64 z) = iV (bm15 (xa15 R (L ++ List.replicate 16 false) (k + 1))) by rw [iV_set15, ← hz, bm_set, hst])
                    have c0 : wr.drew.cell? ⟨g, k, none⟩ = some (.int .i64 x) := c0
                    have f0 : wr.drew.frozen? ⟨g, k, none⟩ = false := f0
                    have HNM := Lib.hid hkl
                    clear hqb hq hxl hst hb hrb hbb hx hy hyb hz hzb hkl hgk hk
                    go_wp2_with fail
                    refine wp_region_still_tail 11 (by kernel_rfl) (by kernel_rfl) ?_
                    simp only [List.take_succ_cons, List.take_zero, List.drop_succ_cons, List.drop_zero]
                    repeat still_step
                    refine wpStill_nil ?_
                    change wpList _ _ _ _ _ wr.drew
                    go_wp2_with fail
                    go_roundw
                    case rel => exact ⟨k + 1, HNM.out, by go_num, by have h6 := (HO.out.stored k (.int .i64 z)).1; rw [HST.out] at h6; exact h6, below_drew1 (Below.setCell HB1.out (p := ⟨g, k, none⟩) HBG.out _)⟩
                    case measure =>
                      have := HNM.out
                      simp [intOf] <;> omega
              · obtain rfl : i = 16 := by omega
                have HOD := Lib.hid (show wr.ownsRow B 3 1 (.slice (some ⟨g, 0, none⟩) m cap) m (iV (bm15 (dv15 R L 0))) from by
                  rw [dv_zero, ← xa_full]; exact HO.out)
                clear hi hown hbw hgi HO
                have hmI : (m : Int) ≤ 8016 := by have h1 := HM.out; have h2 := HK.out; omega
                have hmn : (m : Int) = (n : Int) + 16 := by have h1 := HM.out; omega
                have HMN := Lib.hid hmn
                clear hmn
                go_wp2_with fail
                rw [show ((16 : Nat) : Int) = 16 from rfl]
                go_loopw [12] (fun ii wr => ∃ (i : Nat), i ≤ n ∧ ii = .int .i64 i ∧ wr.ownsRow B 3 1 (.slice (some ⟨g, 0, none⟩) m cap) m (iV (bm15 (dv15 R L i))) ∧ Below B wc wr) (fun ii _ => n - (intOf ii).toNat)
                case atStart => exact ⟨0, Nat.zero_le _, rfl, HOD.out, HB1.out⟩
                case round =>
                  clear HOD HB1
                  obtain ⟨i, hi, rfl, hown, hbw⟩ := hrel
                  have HO := Lib.hid hown
                  have HB1 := Lib.hid hbw
                  rcases Nat.lt_or_ge i n with hli | hgi
                  · have hdl := dv_len R L i (by rw [HLL.out]; exact hi)
                    have hml := HM.out
                    have hll := HLL.out
                    have c0 := own13_at HO.out i (by rw [bm_len]; omega)
                    rw [bm_get] at c0
                    have HI := Lib.hid hli
                    have h16 : (i : Int) + 16 < (m : Int) := by omega
                    have hiB : (i : Int) ≤ 8000 := by omega
                    have him : (i : Int) < (m : Int) := by omega
                    have himN : i < m := by omega
                    have HDL := Lib.hid hdl
                    obtain ⟨b, hb⟩ : ∃ b, (dv15 R L i).getD i false = b := ⟨_, rfl⟩
                    rw [hb] at c0
                    have HBV := Lib.hid fun _ : Unit => hb
                    clear hi hown hbw hli hdl hml hll hb
                    cases b
                    · have HNX := Lib.hid (dv_none R L i (by rw [HLL.out]; exact HI.out) (HBV.out ()))
                      have c0 : wr.cell? ⟨g, i, none⟩ = some (.int .i64 0) := c0
                      go_wp2_with fail
                      go_roundw
                      case rel => exact ⟨i + 1, HI.out, by go_num, by rw [← HNX.out]; exact HO.out, HB1.out⟩
                      case measure =>
                        have := HI.out
                        simp [intOf] <;> omega
                    · have HNX := Lib.hid (dv_one R L i (by rw [HLL.out]; exact HI.out) (HBV.out ()))
                      have c0 : wr.cell? ⟨g, i, none⟩ = some (.int .i64 1) := c0
                      have f0 := HO.out.frozenAt i
                      obtain ⟨p4, h4⟩ : ∃ p, i + 4 = p := ⟨_, rfl⟩
                      obtain ⟨p11, h11⟩ : ∃ p, i + 11 = p := ⟨_, rfl⟩
                      obtain ⟨p16, h16'⟩ : ∃ p, i + 16 = p := ⟨_, rfl⟩
                      obtain ⟨D, hD⟩ : ∃ D, dv15 R L i = D := ⟨_, rfl⟩
                      rw [h4, h11, h16', hD] at HNX
                      rw [hD] at HO HDL
                      have hdl := HDL.out
                      have hml := HM.out
                      have hll := HLL.out
                      have hin := HI.out
                      have g4 : (D.set i false).getD p4 false = D.getD p4 false := by rw [getD_setB _ _ _ _ (by omega), if_neg (by omega)]
                      have g11 : ((D.set i false).set p4 (!D.getD p4 false)).getD p11 false = D.getD p11 false := by
                        rw [getD_setB _ _ _ _ (by simp; omega), if_neg (by omega), getD_setB _ _ _ _ (by omega), if_neg (by omega)]
                      have g16 : (((D.set i false).set p4 (!D.getD p4 false)).set p11 (!D.getD p11 false)).getD p16 false = D.getD p16 false := by
                        rw [getD_setB _ _ _ _ (by simp; omega), if_neg (by omega), getD_setB _ _ _ _ (by simp; omega), if_neg (by omega), getD_setB _ _ _ _ (by omega), if_neg (by omega)]
                      obtain ⟨b4, hb4⟩ : ∃ b, D.getD p4 false = b := ⟨_, rfl⟩
                      obtain ⟨b11, hb11⟩ : ∃ b, D.getD p11 false = b := ⟨_, rfl⟩
                      obtain ⟨b16, hb16⟩ : ∃ b, D.getD p16 false = b := ⟨_, rfl⟩
                      rw [hb4] at g4 g11 g16 HNX
                      rw [hb11] at g11 g16 HNX
                      rw [hb16] at g16 HNX
                      have o1 := fun (W : World) (hW : W.ownsRow B 3 1 (.slice (some ⟨g, 0, none⟩) m cap) m (iV (bm15 D))) => (World.ownsRow.stored hW i (.int .i64 0)).1
                      have s1 : (iV (bm15 D)).set i (.int .i64 0) = iV (bm15 (D.set i false)) := by rw [iV_set15, ← bm_set]; rfl
                      have s2 : (iV (bm15 (D.set i false))).set p4 (.int .i64 (bI15 (!b4))) = iV (bm15 ((D.set i false).set p4 (!b4))) := by rw [iV_set15, bm_set]
                      have s3 : (iV (bm15 ((D.set i false).set p4 (!b4)))).set p11 (.int .i64 (bI15 (!b11))) = iV (bm15 (((D.set i false).set p4 (!b4)).set p11 (!b11))) := by rw [iV_set15, bm_set]
                      have s4' : (iV (bm15 (((D.set i false).set p4 (!b4)).set p11 (!b11)))).set p16 (.int .i64 (bI15 (!b16))) = iV (bm15 (dv15 R L (i + 1))) := by rw [iV_set15, bm_set, HNX.out]
                      have l1 : (D.set i false).length = m := by simp; omega
                      have l2 : ((D.set i false).set p4 (!b4)).length = m := by simp; omega
                      have l3 : (((D.set i false).set p4 (!b4)).set p11 (!b11)).length = m := by simp; omega
                      rw [s1] at o1
                      have O1 := Lib.hid (o1 wr HO.out)
                      obtain ⟨D1, hD1⟩ : ∃ D1, D.set i false = D1 := ⟨_, rfl⟩
                      rw [hD1] at O1 g4 g11 g16 s2 s3 s4' l1 l2 l3
                      obtain ⟨D2, hD2⟩ : ∃ D2, D1.set p4 (!b4) = D2 := ⟨_, rfl⟩
                      rw [hD2] at g11 g16 s2 s3 s4' l2 l3
                      obtain ⟨D3, hD3⟩ : ∃ D3, D2.set p11 (!b11) = D3 := ⟨_, rfl⟩
                      rw [hD3] at g16 s3 s4' l3
                      have n4 := bI_not b4
                      have n11 := bI_not b11
                      have n16 := bI_not b16
                      have bb4 := bI_bd b4
                      have bb11 := bI_bd b11
                      have bb16 := bI_bd b16
                      obtain ⟨x4, hx4⟩ : ∃ x, bI15 b4 = x := ⟨_, rfl⟩
                      obtain ⟨x11, hx11⟩ : ∃ x, bI15 b11 = x := ⟨_, rfl⟩
                      obtain ⟨x16, hx16⟩ : ∃ x, bI15 b16 = x := ⟨_, rfl⟩
                      obtain ⟨z4, hz4⟩ : ∃ x, bI15 (!b4) = x := ⟨_, rfl⟩
                      obtain ⟨z11, hz11⟩ : ∃ x, bI15 (!b11) = x := ⟨_, rfl⟩
                      obtain ⟨z16, hz16⟩ : ∃ x, bI15 (!b16) = x := ⟨_, rfl⟩
                      rw [hx4, hz4] at n4
                      rw [hx11, hz11] at n11
                      rw [hx16, hz16] at n16
                      rw [hx4] at bb4
                      rw [hx11] at bb11
                      rw [hx16] at bb16
                      rw [hz4] at s2
                      rw [hz11] at s3
                      rw [hz16] at s4'
                      have i4 : (i : Int) + 4 = (p4 : Int) := by omega
                      have i11 : (i : Int) + 11 = (p11 : Int) := by omega
                      have i16 : (i : Int) + 16 = (p16 : Int) := by omega
                      have m4 : (p4 : Int) < (m : Int) := by omega
                      have m11 : (p11 : Int) < (m : Int) := by omega
                      have m16 : (p16 : Int) < (m : Int) := by omega
                      have m4' : p4 < m := by omega
                      have m11' : p11 < m := by omega
                      have m16' : p16 < m := by omega
                      have hx4b : x4 ≤ 1 := bb4.2
                      have hx4c : 0 ≤ x4 := bb4.1
                      have hx11b : x11 ≤ 1 := bb11.2
                      have hx11c : 0 ≤ x11 := bb11.1
                      have hx16b : x16 ≤ 1 := bb16.2
                      have hx16c : 0 ≤ x16 := bb16.1
                      have G4 := Lib.hid g4
                      have G11 := Lib.hid g11
                      have G16 := Lib.hid g16
                      have S2 := Lib.hid s2
                      have S3 := Lib.hid s3
                      have S4 := Lib.hid s4'
                      have L1 := Lib.hid l1
                      have L2 := Lib.hid l2
                      have L3 := Lib.hid l3
                      have HB4 := Lib.hid fun _ : Unit => hx4
                      have HB11 := Lib.hid fun _ : Unit => hx11
                      have HB16 := Lib.hid fun _ : Unit => hx16
                      clear h4 h11 h16' hD hdl hml hll hin g4 g11 g16 hb4 hb11 hb16 o1 s1 s2 s3 s4' l1 l2 l3 hD1 hD2 hD3 bb4 bb11 bb16 hx4 hx11 hx16 hz4 hz11 hz16 h16
                      go_upto_region 30 with fail
                      clear c0 f0
                      have HB1 := Lib.hid (Below.setCell HB1.out (p := ⟨g, i, none⟩) HBG.out (.int .i64 0))
                      generalize wr.setCell ⟨g, i, none⟩ (.int .i64 0) = w1 at *
                      have c0 := own13_at O1.out p4 (by rw [bm_len, L1.out]; exact m4')
                      rw [bm_get, G4.out, HB4.out ()] at c0
                      have f0 := O1.out.frozenAt p4
                      go_upto_region 31 with fail
                      clear c0 f0
                      have O2 := Lib.hid (World.ownsRow.stored O1.out p4 (.int .i64 z4)).1
                      rw [S2.out] at O2
                      have HB1 := Lib.hid (Below.setCell HB1.out (p := ⟨g, p4, none⟩) HBG.out (.int .i64 z4))
                      generalize w1.setCell ⟨g, p4, none⟩ (.int .i64 z4) = w2 at *
                      have c0 := own13_at O2.out p11 (by rw [bm_len, L2.out]; exact m11')
                      rw [bm_get, G11.out, HB11.out ()] at c0
                      have f0 := O2.out.frozenAt p11
                      go_upto_region 32 with fail
                      clear c0 f0
                      have O3 := Lib.hid (World.ownsRow.stored O2.out p11 (.int .i64 z11)).1
                      rw [S3.out] at O3
                      have HB1 := Lib.hid (Below.setCell HB1.out (p := ⟨g, p11, none⟩) HBG.out (.int .i64 z11))
                      generalize w2.setCell ⟨g, p11, none⟩ (.int .i64 z11) = w3 at *
                      have c0 := own13_at O3.out p16 (by rw [bm_len, L3.out]; exact m16')
                      rw [bm_get, G16.out, HB16.out ()] at c0
                      have f0 := O3.out.frozenAt p16
                      go_wp2_with fail
                      go_roundw
                      case rel => exact ⟨i + 1, HI.out, by go_num, by have h6 := (World.ownsRow.stored O3.out p16 (.int .i64 z16)).1; rw [S4.out] at h6; exact h6, Below.setCell HB1.out (p := ⟨g, p16, none⟩) HBG.out _⟩
                      case measure =>
                        have := HI.out
                        simp [intOf] <;> omega
                  · obtain rfl : i = n := by omega
                    have hnm : ¬ ((i : Int) + 16 < (m : Int)) := by have := HMN.out; omega
                    have hnm2 : decide ((i : Int) + 16 < (m : Int)) = false := decide_eq_false hnm
                    have hiB : (i : Int) ≤ 8000 := by have := HMN.out; omega
                    have h16 : (m : Int) - 16 = (i : Int) := by have := HMN.out; omega
                    obtain ⟨X, hX⟩ : ∃ X, crun R L = X := ⟨_, rfl⟩
                    have HDV := Lib.hid fun k hk => dv_done R L k hk
                    rw [hX, HLL.out] at HDV
                    have HXX := Lib.hid fun _ : Unit => hX
                    clear hi hown hbw hgi hX
                    go_wp2_with fail
                    go_loop [13, 14] (fun oo ii => ∃ (k p : Nat), k ≤ 16 ∧ ii = .int .i64 (p : Int) ∧ p = i + k ∧ oo = .int .i64 ((X.toNat / 2 ^ (16 - k) : Nat) : Int)) (fun _ ii => m - (intOf ii).toNat)
                    case atStart => exact ⟨0, i, by omega, rfl, rfl, by rw [Nat.div_eq_of_lt X.isLt]; rfl⟩
                    case round =>
                      obtain ⟨k, p, hk, rfl, hp, rfl⟩ := hrel
                      rcases Nat.lt_or_ge k 16 with hlk | hgk
                      · have hml := HM.out
                        have hdl := dv_len R L i (by rw [HLL.out]; exact Nat.le_refl _)
                        have hll := HLL.out
                        have c0 := own13_at HO.out p (by rw [bm_len]; omega)
                        rw [bm_get, hp, HDV.out k hlk] at c0
                        have hts := top_step X k hlk
                        have hbb := bI_bd (X.getLsbD (15 - k))
                        obtain ⟨x, hx⟩ : ∃ x, bI15 (X.getLsbD (15 - k)) = x := ⟨_, rfl⟩
                        rw [hx] at c0 hts hbb
                        have hob : X.toNat / 2 ^ (16 - k) ≤ 65535 := Nat.le_trans (Nat.div_le_self _ _) (by have := X.isLt; omega)
                        obtain ⟨o, ho⟩ : ∃ o, X.toNat / 2 ^ (16 - k) = o := ⟨_, rfl⟩
                        obtain ⟨o2, ho2⟩ : ∃ o, X.toNat / 2 ^ (16 - (k + 1)) = o := ⟨_, rfl⟩
                        rw [ho, ho2] at hts
                        rw [ho] at hob
                        have e1 : 2 * (o : Int) + x = (o2 : Int) := by omega
                        have hpm : (p : Int) < (m : Int) := by omega
                        have hpm2 : p < m := by omega
                        have hob2 : (o : Int) ≤ 65535 := by omega
                        have ho2b : (o2 : Int) ≤ 131071 := by omega
                        have c0 : wr.cell? ⟨g, p, none⟩ = some (.int .i64 x) := by rw [hp]; exact c0
                        have HK := Lib.hid hlk
                        have HP := Lib.hid hp
                        have HO2 := Lib.hid fun _ : Unit => ho2
                        rw [ho]
                        clear hk hlk hp hml hdl hll hts hbb hx hob ho ho2
                        go_wp2_with fail
                        go_round
                        case rel => exact ⟨k + 1, p + 1, HK.out, by go_num, by rw [HP.out]; omega, by rw [HO2.out ()]⟩
                        case measure =>
                          simp only [intOf]
                          omega
                      · obtain rfl : k = 16 := by omega
                        have hpm : ¬ ((p : Int) < (m : Int)) := by have := HM.out; omega
                        have hpm2 : decide ((p : Int) < (m : Int)) = false := decide_eq_false hpm
                        have hd : X.toNat / 2 ^ (16 - 16) = X.toNat := by rw [Nat.sub_self, Nat.pow_zero, Nat.div_one]
                        rw [hd]
                        clear hd hk hp hgk
                        go_wp2_with fail
                        go_ret
                        refine ⟨?_, HB1.out⟩
                        have e : sm15 r (bl s) = X.toNat := by
                          unfold sm15
                          have h8 : 8 * (bl s).length = i := by have h1 := HN.out; have h2 := HLN.out; rw [HL.out]; omega
                          have hr : (r % 65536).toNat = r0 := by have := HR0.out; omega
                          rw [h8, hr, HRR.out (), HL.out, HLE.out (), HXX.out ()]
                        rw [e]
                        rfl
end Go.Proofs.Ytoohahjmiljpgaa
