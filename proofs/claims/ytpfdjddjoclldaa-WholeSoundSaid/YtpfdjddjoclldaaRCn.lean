/-
  WholeSound walked: two channels, as middles and sides, as waves, and back again, are as they were. Conditions: a list of numbers, as it lies.
-/
import Derived.Test.YtpfdjddjoclldaaRCh
import Derived.Test.YtpfdjddjoclldaaRCi
import Derived.Test.YtpfdjddjoclldaaRCl
import Derived.Test.YtpfdjddjoclldaaRCm
import Derived.Test.YtpfdjddjoclldaaRLoi
import Derived.Deep.Cut
import Derived.Deep.CutBlock
namespace Go.Proofs.Ytpfdjddjoclldaa
open Go.RowKit
open M
theorem IntsAt.box12 {w w' : World} {v : Value} {x : List Int} (h : IntsAt w v x) (hb : Below w.heap.size w w') : IntsAt w' v x := h.below hb
set_option maxRecDepth 100000 in
set_option maxHeartbeats 2000000 in
theorem sound_law (l : List Int) (v : Value) (w : World) (hv : IntsAt w v l) (hl : l.length ≤ maxLen) :
    Calls Try.prog 8 #[v] w fun e w' => e = .returned (.bool true) ∧ Below w.heap.size w w' := by
  obtain ⟨i0, hi1, hi2, hi3, hi4⟩ := int_parts
  have HT := Lib.hid (And.intro hi1 (And.intro hi2 (And.intro hi3 hi4)))
  obtain ⟨a, cap, rfl, hcell⟩ := hv
  clear hi1 hi2 hi3 hi4
  have hlen : (l.length : Int) ≤ 9223372036854775807 := by unfold maxLen at hl; omega
  obtain ⟨G, hG⟩ : ∃ G, (l.map fun x => x.tmod 65536) = G := ⟨_, rfl⟩
  have HGL : Hid (G.length = l.length) := Lib.hid (by rw [← hG, List.length_map])
  have HGA : Hid (∀ k, (l.getD k 0).tmod 65536 = G.getD k 0) := Lib.hid fun k => by rw [← hG, map16_getD]
  have HFIN : Hid (h16 l = G.take 400) := Lib.hid (by rw [← hG]; rfl)
  have HBD := Lib.hid fun _ : Unit => evn_bd l
  have hx16 := h16_len l
  obtain ⟨X0, hX0⟩ : ∃ X, h16 l = X := ⟨_, rfl⟩
  rw [hX0] at HFIN HBD hx16
  have HX0 : Hid (X0.length ≤ 400) := Lib.hid (by omega)
  obtain ⟨L, hL⟩ : ∃ L, l.length = L := ⟨_, rfl⟩
  rw [hL] at hcell hlen HGL hx16 ⊢
  obtain ⟨T, hT⟩ : ∃ T, min 400 L = T := ⟨_, rfl⟩
  rw [hT] at hx16
  have HXT := Lib.hid fun _ : Unit => hx16
  have HTT : Hid (T ≤ L ∧ T ≤ 400 ∧ (T = L ∨ T = 400)) := Lib.hid (by omega)
  clear hG hL hl hT hX0 hx16
  go_enter Try.func8, Try.ntmps8
  go_wp2_with fail
  refine (goes_any w).mono ?_
  rintro e w' ⟨rfl, rfl⟩
  go_upto_block 0 with fail
  go_cut [3, 4] from 17 (fun x _ wx => wx.ownsRow w.heap.size 3 1 x X0.length (iV X0) ∧ Below w.heap.size w wx)
  case first =>
    go_wp2_with fail
    go_loopw [3, 4] (fun oo ii wr => ∃ k : Nat, k ≤ T ∧ ii = .int .i64 k ∧ wr.ownsRow w.heap.size 3 1 oo k (iV (G.take k)) ∧ Below w.heap.size w wr) (fun _ ii _ => T - (intOf ii).toNat)
    case atStart => exact ⟨0, Nat.zero_le _, rfl, World.ownsRow_nil _ _ _ _, Below.refl _ _⟩
    case round =>
      obtain ⟨k, hk, rfl, hown, hb⟩ := hrel
      have HO := Lib.hid hown
      have HB := Lib.hid hb
      clear hown hb
      rcases Nat.lt_or_ge k T with hlt | hge
      · have h1 : k < L := by have := HTT.out; omega
        have h2 : (k : Int) < 400 := by have := HTT.out; omega
        have h3 : (k : Int) < (L : Int) := by omega
        obtain ⟨b, off, rfl, hbs, hcs⟩ := hcell (by omega)
        have c0 := (HB.out.cell (p := ⟨b, off + k, none⟩) hbs).trans (hcs k h1)
        have hst := iV_snoc G k (by rw [HGL.out]; exact h1)
        have hga := HGA.out k
        obtain ⟨x, hx⟩ : ∃ x, l.getD k 0 = x := ⟨_, rfl⟩
        rw [hx] at c0 hga
        have hbd := tmod16 x
        obtain ⟨y, hy⟩ : ∃ y, x.tmod 65536 = y := ⟨_, rfl⟩
        have hr : IntKind.i64.wrap y = y := by rw [IntKind.wrap_i64]; omega
        have hr2 : wrap64 y = y := by rw [wrap64]; omega
        rw [hy] at hga
        rw [← hga] at hst
        have HST := Lib.hid hst
        have HK := Lib.hid hlt
        clear hcell hcs hx hga hst hk hlt hbd
        go_wp2_with (at_builtin; refine wpList_append_own _ rfl _ _ 27 rfl w.heap.size 3 i0 (.int .i64 0) 1 8 Try.underlying27 HT.out.1 HT.out.2.1 HT.out.2.2.1 HT.out.2.2.2 rfl (by decide) _ _ _ rfl (HO.out.alloc _) ⟨wr.heap.size, 0, none⟩ 1 1 [.int .i64 y] rfl rfl (one_new _ _ rfl _ _) one_cell ?c3 ?c4 ?c5 ?_)
        case c3 => have := HTT.out; have := HK.out; unfold maxLen; omega
        case c4 => have := HTT.out; have := HK.out; omega
        case c5 => have := HB.out.size; simp; omega
        intro v' w3 hown' hgrow _
        have R : Hid (w3.ownsRow w.heap.size 3 1 v' (k + 1) (iV (G.take (k + 1))) ∧ Below w.heap.size w w3) :=
          ⟨by rw [HST.out]; exact hown', (HB.out.alloc HB.out.size _).grown hgrow (by have := HB.out.size; simp; omega) (fun k hk => own_ge HO.out k hk)⟩
        clear hown' hgrow HO HB
        go_wp2
        go_roundw
        case rel => exact ⟨k + 1, HK.out, by go_num, R.out⟩
        case measure =>
          have := HK.out
          simp only [intOf]
          omega
      · obtain rfl : k = T := by omega
        have hg : G.take k = X0 := by
          rw [HFIN.out]
          rcases HTT.out.2.2 with h | h
          · rw [List.take_of_length_le (by rw [HGL.out]; omega), List.take_of_length_le (by rw [HGL.out]; have := HTT.out; omega)]
          · rw [h]
        have HE : Hid (wr.ownsRow w.heap.size 3 1 u3 X0.length (iV X0)) := Lib.hid (by rw [HXT.out (), ← hg]; exact HO.out)
        clear hg HO HGA HGL HFIN
        rcases Nat.lt_or_ge k L with h1 | h1
        · have h2 : ¬ ((k : Int) < 400) := by have := HTT.out; omega
          have h3 : (k : Int) < (L : Int) := by omega
          clear hk hge hcell
          go_wp2_with fail
          go_meet
          exact ⟨HE.out, HB.out⟩
        · have h3 : ¬ ((k : Int) < (L : Int)) := by omega
          clear hk hge hcell
          go_wp2_with fail
          go_meet
          exact ⟨HE.out, HB.out⟩
  case rest =>
    obtain ⟨hown, hb⟩ := hcut
    have HI := Lib.hid (own_ints hown)
    have HO := Lib.hid hown
    have HB := Lib.hid hb
    clear hown hb HGL HGA HFIN HTT HXT hcell
    have HEV := Lib.hid fun _ : Unit => show evn X0 = if X0.length % 2 = 1 then X0 ++ [0] else X0 from rfl
    have HEL := Lib.hid fun _ : Unit => evn_len X0
    have hi := HI.out
    obtain ⟨xa, xcap, rfl, -⟩ := hi
    obtain ⟨k, hk⟩ : ∃ k, X0.length = k := ⟨_, rfl⟩
    have HX0L := Lib.hid fun _ : Unit => hk
    rw [hk] at HX0 HI HO HEV HEL ⊢
    have hk4 : k ≤ 400 := HX0.out
    clear hk
    go_upto_if 38 with fail
    go_cut [3] from 35 (fun x wx => IntsAt wx x (evn X0) ∧ Below w.heap.size w wx)
    case first =>
      rcases (show k % 2 = 1 ∨ k % 2 = 0 by omega) with h | h
      · have e1 : (k : Int) % 2 = 1 := by omega
        have HEV2 : Hid (evn X0 = X0 ++ [0]) := Lib.hid (by rw [HEV.out (), if_pos h])
        clear HEV h
        go_wp2_with (at_builtin; refine wpList_append_own _ rfl _ _ 27 rfl w.heap.size 3 i0 (.int .i64 0) 1 8 Try.underlying27 HT.out.1 HT.out.2.1 HT.out.2.2.1 HT.out.2.2.2 rfl (by decide) _ _ _ rfl (HO.out.alloc _) ⟨wc.heap.size, 0, none⟩ 1 1 [.int .i64 0] rfl rfl (one_new _ _ rfl _ _) one_cell ?c3 ?c4 ?c5 ?_)
        case c3 => unfold maxLen; omega
        case c4 => omega
        case c5 => have := HB.out.size; simp; omega
        intro v' w3 hown' hgrow _
        have R : Hid (IntsAt w3 v' (evn X0) ∧ Below w.heap.size w w3) :=
          ⟨own_ints (by rw [HEV2.out, iV_app]; exact hown'), (HB.out.alloc HB.out.size _).grown hgrow (by have := HB.out.size; simp; omega) (fun k hk => own_ge HO.out k hk)⟩
        clear hown' hgrow HO HB
        go_wp2
        go_meet
        exact R.out
      · have e1 : (k : Int) % 2 = 0 := by omega
        have HEV2 : Hid (evn X0 = X0) := Lib.hid (by rw [HEV.out (), if_neg (by omega)])
        clear HEV h
        go_wp2_with fail
        go_meet
        exact ⟨by rw [HEV2.out]; exact HI.out, HB.out⟩
    case rest =>
      obtain ⟨hx, hb⟩ := hcut
      have HX := Lib.hid hx
      have HBX := Lib.hid hb
      have hel := HEL.out ()
      have hbd := HBD.out ()
      clear HI HO HB HEV HEL HBD HX0L HX0 hx hb HT hlen
      generalize evn X0 = X at *
      obtain ⟨n, hn⟩ : ∃ n, (k + 1) / 2 = n := ⟨_, rfl⟩
      rw [hn] at hel
      have hn2 : n ≤ 200 := by omega
      clear hn hk4
      have HSP := Lib.hid fun v w h => split_in X n v w h (by omega) hel (fun x hx => by have := hbd x hx; omega)
      have hev : X.length % 2 = 0 := by omega
      have hml : (mids X).length = n := by rw [mids_len, hel, Nat.mul_div_cancel_left n (by decide)]
      have hsl : (sids X).length = n := by rw [sids_len, hel, Nat.mul_div_cancel_left n (by decide)]
      have hmb := mids_bd X 65536 (by decide) hbd
      have hsb := sids_bd X 65536 (by decide) hbd
      have HFM := Lib.hid fun v w h => frames_in (mids X) v w h (by omega) (fun x hx => by have := hmb x hx; omega)
      have HFS := Lib.hid fun v w h => frames_in (sids X) v w h (by omega) (fun x hx => by have := hsb x hx; omega)
      have HBM := Lib.hid fun cap g w h => sback_any (mids X) cap g w h (by omega) (fun x hx => by have := hmb x hx; omega)
      have HBS := Lib.hid fun cap g w h => sback_any (sids X) cap g w h (by omega) (fun x hx => by have := hsb x hx; omega)
      have hc : cnt n ≤ 8 := by unfold cnt; omega
      have hpm : (padd (mids X)).length = 32 * cnt n := by rw [padd_len, hml]
      have hps : (padd (sids X)).length = 32 * cnt n := by rw [padd_len, hsl]
      have hpb := pad_bd _ 65536 (by decide) hmb
      have hqb := pad_bd _ (2 * 65536) (by decide) hsb
      have HJN := Lib.hid fun u v w h1 h2 => join_in (padd (mids X)) (padd (sids X)) (32 * cnt n) u v w h1 h2 hpm hps (by omega) (fun x hx => by have := hpb x hx; omega) (fun x hx => by have := hqb x hx; omega)
      have HLO := Lib.hid (snd_lo X hev)
      have HHI := Lib.hid (snd_hi X hev)
      have hle := snd_len X hev
      have hyl : (joi (padd (mids X)) (padd (sids X))).length = 2 * (32 * cnt n) := by rw [joi_len, hpm]
      rw [hyl, hel] at hle
      have HYL := Lib.hid hyl
      rw [hel] at HLO HHI
      rw [hml] at HFM HBM
      rw [hsl] at HFS HBS
      have HML := Lib.hid hml
      have HSL := Lib.hid hsl
      have HPM := Lib.hid hpm
      have HPS := Lib.hid hps
      have HXL := Lib.hid hel
      clear hel hbd hev hml hsl hmb hsb hpm hps hpb hqb hyl
      generalize joi (padd (mids X)) (padd (sids X)) = Y at *
      generalize padd (mids X) = PM at *
      generalize padd (sids X) = PS at *
      obtain ⟨L2, hL2⟩ : ∃ L2, 2 * n = L2 := ⟨_, rfl⟩
      obtain ⟨c, hcn⟩ : ∃ c, cnt n = c := ⟨_, rfl⟩
      rw [hL2] at HLO HHI hle HXL
      rw [hcn] at HFM HFS HBM HBS HJN hc hle HYL HPM HPS
      obtain ⟨m, hm⟩ : ∃ m, 2 * (32 * c) = m := ⟨_, rfl⟩
      rw [hm] at HJN hle HYL
      have hLb : L2 ≤ 400 := by omega
      have hmbd : m ≤ 512 := by omega
      clear hL2 hcn hm
      have hxi := HX.out
      obtain ⟨xb, xc, rfl, -⟩ := hxi
      rw [HXL.out] at HX ⊢
      go_wp2_with fail
      refine (HSP.out _ wc HX.out).mono ?_
      rintro e w2 ⟨⟨gm, gs, -, -, -, rfl, rm, rs⟩, hb2⟩
      have HX2 := Lib.hid (HX.out.box12 hb2)
      have HB2 := Lib.hid (HBX.out.trans (hb2.mono HBX.out.size))
      have hm1 := ints_row rm n
      rw [HML.out] at hm1
      have HM1 := Lib.hid hm1
      have hs1 := ints_row rs n
      rw [HSL.out] at hs1
      have HS1 := Lib.hid hs1
      clear hb2 rm rs hm1 hs1 HSP HX HBX
      go_wp2_with fail
      refine (HFM.out _ w2 HM1.out).mono ?_
      rintro e w3 ⟨⟨ga, -, rfl, ra⟩, hb3⟩
      have HX3 := Lib.hid (HX2.out.box12 hb3)
      have HS3 := Lib.hid (HS1.out.box12 hb3)
      have HB3 := Lib.hid (HB2.out.trans (hb3.mono HB2.out.size))
      have HRA := Lib.hid ra
      clear hb3 ra HM1 HS1 HX2 HB2 HFM
      go_wp2_with fail
      refine (HFS.out _ w3 HS3.out).mono ?_
      rintro e w4 ⟨⟨gb, -, rfl, rb⟩, hb4⟩
      have HX4 := Lib.hid (HX3.out.box12 hb4)
      have HA4 := Lib.hid (Row.box HRA.out hb4)
      have HB4 := Lib.hid (HB3.out.trans (hb4.mono HB3.out.size))
      have HRB := Lib.hid rb
      clear hb4 rb HS3 HX3 HB3 HFS HRA
      go_wp2_with fail
      refine (HBM.out c ga w4 HA4.out).mono ?_
      rintro e w5 ⟨⟨gc, -, rfl, rc⟩, hb5⟩
      have HX5 := Lib.hid (HX4.out.box12 hb5)
      have HR5 := Lib.hid (Row.box HRB.out hb5)
      have HB5 := Lib.hid (HB4.out.trans (hb5.mono HB4.out.size))
      have hm5 := ints_row rc (32 * c)
      rw [HPM.out] at hm5
      have HM5 := Lib.hid hm5
      clear hb5 rc hm5 HX4 HB4 HA4 HRB HBM
      go_wp2_with fail
      refine (HBS.out c gb w5 HR5.out).mono ?_
      rintro e w6 ⟨⟨gd, -, rfl, rd⟩, hb6⟩
      have HX6 := Lib.hid (HX5.out.box12 hb6)
      have HM6 := Lib.hid (HM5.out.box12 hb6)
      have HB6 := Lib.hid (HB5.out.trans (hb6.mono HB5.out.size))
      have hs6 := ints_row rd (32 * c)
      rw [HPS.out] at hs6
      have HS6 := Lib.hid hs6
      clear hb6 rd hs6 HX5 HB5 HR5 HM5 HBS
      go_wp2_with fail
      refine (HJN.out _ _ w6 HM6.out HS6.out).mono ?_
      rintro e w7 ⟨⟨gy, -, rfl, ry⟩, hb7⟩
      have HX7 := Lib.hid (HX6.out.box12 hb7)
      have HB7 := Lib.hid (HB6.out.trans (hb7.mono HB6.out.size))
      have HY := Lib.hid ry
      have HLT := Lib.hid (Row.lt ry)
      clear hb7 ry HX6 HB6 HM6 HS6 HJN HML HSL HPM HPS
      have hx7 := HX7.out
      obtain ⟨_, _, heq, hcell⟩ := hx7
      rw [HXL.out] at heq hcell
      injection heq with heq1 heq2 heq3
      subst heq1 heq3
      clear heq2 HX7
      have HCELL := Lib.hid hcell
      clear hcell
      have hmL : ¬ ((m : Int) < (L2 : Int)) := by omega
      go_wp2_with fail
      have hmd : decide (m < L2) = false := decide_eq_false (by omega)
      rw [hmd]
      clear hmd
      go_loopw [14] (fun ii wr => ∃ k : Nat, k ≤ m ∧ ii = .int .i64 k ∧ Below w7.heap.size w7 wr) (fun ii _ => m - (intOf ii).toNat)
      case atStart => exact ⟨0, by omega, rfl, Below.refl _ _⟩
      case round =>
        obtain ⟨k, hk, rfl, hb⟩ := hrel
        have HB := Lib.hid hb
        rcases Nat.lt_or_ge k m with hlt | hge
        · have c1 := (hb.cell (p := ⟨gy, k, none⟩) HLT.out).trans (i_at HY.out k (by rw [HYL.out]; exact hlt))
          have hkI : (k : Int) < (m : Int) := by omega
          have HK := Lib.hid hlt
          rcases Nat.lt_or_ge k L2 with h1 | h1
          · obtain ⟨b, off, rfl, hbs, hcs⟩ := HCELL.out (by omega)
            have c0 := (hb.cell (p := ⟨b, off + k, none⟩) hbs).trans (hcs k h1)
            have h2 : (k : Int) < (L2 : Int) := by omega
            rw [HLO.out k h1] at c1
            obtain ⟨z, hz⟩ : ∃ z, X.getD k 0 = z := ⟨_, rfl⟩
            rw [hz] at c0 c1
            have h3 : ¬ ((L2 : Int) ≤ (k : Int)) := by omega
            have h4 : ¬ (L2 ≤ k) := by omega
            clear hz hcs hb hk hlt
            go_wp2_with fail
            go_big_quiet (fail)
            go_wp2_with fail
            go_roundw
            case rel => exact ⟨k + 1, HK.out, by go_num, Below.drewN HB.out nq⟩
            case measure =>
              have := HK.out
              simp only [intOf]
              omega
          · have h2 : ¬ ((k : Int) < (L2 : Int)) := by omega
            rw [HHI.out k h1] at c1
            have h3 : (L2 : Int) ≤ (k : Int) := by omega
            have h4 : ¬ (k < L2) := by omega
            clear hb hk hlt
            go_wp2_with fail
            go_big_quiet (fail)
            go_wp2_with fail
            go_roundw
            case rel => exact ⟨k + 1, HK.out, by go_num, Below.drewN HB.out nq⟩
            case measure =>
              have := HK.out
              simp only [intOf]
              omega
        · have hge2 : ¬ ((k : Int) < (m : Int)) := by omega
          have HBE := Lib.hid (HB7.out.trans (hb.mono HB7.out.size))
          clear hb
          go_wp2_with fail
          go_ret
          exact ⟨rfl, HBE.out⟩
end Go.Proofs.Ytpfdjddjoclldaa
