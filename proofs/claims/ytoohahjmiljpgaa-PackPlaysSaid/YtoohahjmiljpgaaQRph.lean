/-
  The reference of layer 19: Lay. Conditions: a frame's number of 16 bits, a shape's 40 numbers, right steps, up to 12 pulses in a band, a size from 12 to 24; what the reference's Count answers.
-/
import Derived.Test.YtoohahjmiljpgaaQS9
import Derived.Test.YtoohahjmiljpgaaQS29
import Derived.Test.YtoohahjmiljpgaaQRpc
import Derived.Test.YtoohahjmiljpgaaQBfs
import Derived.Test.YtoohahjmiljpgaaQS8
import Derived.Test.YtoohahjmiljpgaaQCra
import Derived.Test.YtoohahjmiljpgaaQS21
namespace Go.Proofs.Ytoohahjmiljpgaa
open Go.RowKit
open M
/-- A slice's length, to N. -/
def ms19 (N : Nat) : Value → Nat
  | .slice _ n _ => N - n
  | _ => 0
set_option maxRecDepth 100000 in
set_option maxHeartbeats 4000000 in
theorem rlay_any (HC : CnOk) (fr z : Nat) (l : List Int) (w : World) (hfr : fr < 65536) (hl : l.length = 40) (hs : ∀ j, j < 8 → 0 ≤ l.getD j 0 ∧ l.getD j 0 ≤ 15) (hp : ∀ b, b < 8 → pl13 (sys l b) ≤ 12) (hz1 : 12 ≤ z) (hz2 : z ≤ 24) :
    Calls Try.prog 16 #[.int .i64 (fr : Int), .agg (iCells l), .int .i64 (z : Int)] w fun e w' => e = .returned (.string (ly19 fr l z)) ∧ Below w.heap.size w w' := by
  have HL := Lib.hid hl
  have HCC := Lib.hid HC
  have HCT : Hid CtOk := Lib.hid fun k w hk => HC 4 k w (by omega) hk
  have HS := Lib.hid hs
  have HP := Lib.hid hp
  have HZ := Lib.hid (And.intro hz1 hz2)
  have HR4 : Hid (Row (w.alloc (.cells (iCells l) 32)) w.heap.size 32 (iCells l)) := Lib.hid (heap_alloc_new _ _)
  have HB0 : Hid (Below w.heap.size w (w.alloc (.cells (iCells l) 32))) := Lib.hid ((Below.refl _ _).alloc (Nat.le_refl _) _)
  have HB1 : Hid ((w.alloc (.cells (iCells l) 32)).heap.size = w.heap.size + 1) := Lib.hid (by simp)
  have HFR := Lib.hid fun w => refBits_any fr 16 w (by omega) (by omega)
  obtain ⟨i0, hi0, hz0, hz1', hz2'⟩ := one_parts
  have HI := Lib.hid (And.intro hi0 (And.intro hz0 (And.intro hz1' hz2')))
  clear hl hs hp hz1 hz2 HC hi0 hz0 hz1' hz2'
  go_enter Try.func16, Try.ntmps16
  go_wp2_with fail
  obtain ⟨g, hg⟩ : ∃ g, w.heap.size = g := ⟨_, rfl⟩
  have HG := Lib.hid fun _ : Unit => hg
  rw [hg] at HR4 HB1 ⊢
  generalize w.alloc (.cells (iCells l) 32) = w1 at *
  clear hg
  refine (HFR.out _).mono ?_
  rintro e w2 ⟨rfl, hr, hb⟩
  have HO := Lib.hid (show w2.ownsRow (g + 1) 3 1 (.slice (some ⟨w1.heap.size, 0, none⟩) 16 16) 16 (natCells (natB (lb19 fr l 0))).toList from
    ⟨by rw [Array.length_toList, natCells_size, natB_length]; exact bitsOf_length _ _, Or.inr ⟨w1.heap.size, 16, _, rfl, by rw [HB1.out]; exact Nat.le_refl _, hr, Nat.le_refl _, by unfold maxLen; omega, by rw [natCells_size, natB_length, bitsOf_length], by
      rw [List.take_of_length_le (by rw [Array.length_toList, natCells_size, natB_length, bitsOf_length]; omega)]
      rfl⟩⟩)
  have HB := Lib.hid (show Below (g + 1) w1 w2 by rw [← HB1.out]; exact hb)
  clear hr hb HFR
  go_wp2_with fail
  generalize Value.slice (some ⟨w1.heap.size, 0, none⟩) 16 16 = v0 at *
  go_loopw [7, 8] (fun vv ii wr => ∃ (b : Nat) (v : Value), b ≤ 8 ∧ ii = .int .i64 (b : Int) ∧ vv = v ∧ wr.ownsRow (g + 1) 3 1 v (16 + 4 * b) (natCells (natB (lb19 fr l b))).toList ∧ Below (g + 1) w1 wr) (fun _ ii _ => 8 - (intOf ii).toNat)
  case atStart => exact ⟨0, v0, by omega, rfl, rfl, HO.out, HB.out⟩
  case round =>
    clear HO HB
    obtain ⟨b, v, hb8, rfl, hv, hown, hb⟩ := hrel
    have hv2 := hv.symm
    subst hv2
    clear hv
    have HO := Lib.hid hown
    have HB := Lib.hid hb
    have HR := Lib.hid (HR4.out.below hb (by omega))
    rcases Nat.lt_or_ge b 8 with hlt | hge
    · have hbI : (b : Int) < 8 := by omega
      have HK := Lib.hid hlt
      obtain ⟨hs0, hs15⟩ := HS.out b hlt
      have c0 := i_at HR.out b (by rw [HL.out]; omega)
      have HLB := Lib.hid (show lb19 fr l (b + 1) = lb19 fr l b ++ bitsOf (l.getD b 0).toNat 4 from rfl)
      obtain ⟨s, hs⟩ : ∃ s : Nat, l.getD b 0 = (s : Int) := ⟨(l.getD b 0).toNat, by omega⟩
      rw [hs] at c0 hs0 hs15 HLB
      rw [Int.toNat_natCast] at HLB
      have HBT := Lib.hid fun w => refBits_any s 4 w (by omega) (by omega)
      clear hb8 hlt hown hb hs
      go_wp2_with fail
      refine (HBT.out _).mono ?_
      rintro e w3 ⟨rfl, hr, hb⟩
      have HRW := Lib.hid hr
      have HO2 := Lib.hid (own13_stay HO.out hb)
      have hsz : g + 1 ≤ wr.heap.size := by have := HB.out.size; rw [HB1.out] at this; exact this
      have HB2 := Lib.hid (HB.out.trans (hb.mono hsz))
      have HSZ := Lib.hid (show g + 1 ≤ w3.heap.size from Nat.le_trans hsz hb.size)
      clear hr hb HO HB hsz HBT
      go_wp2_with (at_builtin; refine wpList_append_own _ rfl _ _ 54 rfl (g + 1) 3 i0 (.int .i64 0) 1 8 Try.underlying54 HI.out.1 HI.out.2.1 HI.out.2.2.1 HI.out.2.2.2 rfl (by decide) _ _ _ rfl HO2.out ⟨wr.heap.size, 0, none⟩ 4 4 (natCells (natB (bitsOf s 4))).toList rfl ?c1 (World.news_of_block HRW.out) (natCells_one _) ?c3 ?c4 HSZ.out ?_)
      case c1 => rw [Array.length_toList, natCells_size, natB_length, bitsOf_length]
      case c3 => have := HK.out; unfold maxLen; omega
      case c4 => have := HK.out; omega
      intro v' w4 hown' hgrow _
      have R : Hid (w4.ownsRow (g + 1) 3 1 v' (16 + 4 * (b + 1)) (natCells (natB (lb19 fr l (b + 1)))).toList ∧ Below (g + 1) w1 w4) :=
        ⟨by rw [HLB.out, natB_app, natCells_app]; exact hown', HB2.out.grown hgrow HSZ.out (fun k hk => own_ge HO2.out k hk)⟩
      clear hown' hgrow HO2 HB2 HRW
      go_wp2_with fail
      go_roundw
      case rel => exact ⟨b + 1, v', HK.out, by go_num, rfl, R.out.1, R.out.2⟩
      case measure =>
        have := HK.out
        simp [intOf] <;> omega
    · obtain rfl : b = 8 := by omega
      rw [show ((8 : Nat) : Int) = 8 from rfl]
      clear hb8 hge hown hb HR
      go_wp2_with fail
      go_loopw [7, 9] (fun vv ii wr => ∃ (b n : Nat) (v : Value), b ≤ 8 ∧ ii = .int .i64 (b : Int) ∧ vv = v ∧ n = (yb19 fr l b).length ∧ wr.ownsRow (g + 1) 3 1 v n (natCells (natB (yb19 fr l b))).toList ∧ Below (g + 1) w1 wr) (fun _ ii _ => 8 - (intOf ii).toNat)
      case atStart => exact ⟨0, 48, _, by omega, rfl, rfl, (lb19_len fr l 8).symm, HO.out, HB.out⟩
      case round =>
        clear HO HB
        obtain ⟨b, n, v, hb8, rfl, hv, hn, hown, hb⟩ := hrel
        have hv2 := hv.symm
        subst hv2
        clear hv
        have HO := Lib.hid hown
        have HB := Lib.hid hb
        have HR := Lib.hid (HR4.out.below hb (by omega))
        have HN := Lib.hid fun _ : Unit => hn
        have hnb := yb19_len fr l b
        rcases Nat.lt_or_ge b 8 with hlt | hge
        · have hbI : (b : Int) < 8 := by omega
          have HK := Lib.hid hlt
          have HNB := Lib.hid (show n ≤ 152 by omega)
          have HC1 : Hid (∀ W : World, (∃ p : Regrown, W = Sort.grow (redrawn wr p.d) p.os) → Row W g 32 (iCells l)) := by
            rintro W ⟨p, rfl⟩
            exact HR.out.below (below_regrown wr p.d p.os) HR.out.lt
          have HLE := Lib.hid (show 8 + b * 4 + 4 ≤ l.length by rw [HL.out]; omega)
          have hp12 := HP.out b hlt
          have HYB := Lib.hid (show yb19 fr l (b + 1) = yb19 fr l b ++ bitsOf (ix13 (sys l b)) (btc (pl13 (sys l b))) from rfl)
          have hix : ix13 (sys l b) < 9223372036854775808 := by
            have h1 := ix_lt (sys l b)
            have h2 := cn_bd8 (sys l b).length (pl13 (sys l b)) (by rw [show (sys l b).length = 4 from pto_len _ _ _]; omega) hp12
            omega
          have K1 : Hid (∀ d os, Calls Try.prog 39 #[.agg (iCells (pto l (8 + b * 4) 4))] (Sort.grow (redrawn wr d) os) fun e w'' => e = .returned (.int .i64 (ix13 (sys l b) : Nat)) ∧ ∃ p : Regrown, w'' = Sort.grow (redrawn wr p.d) p.os) :=
            Lib.hid fun d os => Calls.regrown_of (rindex_any HCC.out (sys l b) _ (pto_len _ _ _) hp12)
          have hpu := pu_few (sys l b) (fun j hj => by have := sj_le (sys l b) (pto_len _ _ _) j hj; omega) hp12
          have K2 : Hid (∀ d os, Calls Try.prog 37 #[.agg (iCells (pto l (8 + b * 4) 4))] (Sort.grow (redrawn wr d) os) fun e w'' => e = .returned (.int .i64 (pl13 (sys l b) : Nat)) ∧ ∃ p : Regrown, w'' = Sort.grow (redrawn wr p.d) p.os) :=
            Lib.hid fun d os => Calls.regrown_of (by
              have h := rpulses_any (sys l b) (Sort.grow (redrawn wr d) os) (pto_len _ _ _)
              rw [hpu] at h
              exact h)
          obtain ⟨P, hP⟩ : ∃ P, pl13 (sys l b) = P := ⟨_, rfl⟩
          obtain ⟨X, hX⟩ : ∃ X, ix13 (sys l b) = X := ⟨_, rfl⟩
          rw [hP] at K2 HYB hp12
          rw [hX] at K1 HYB hix
          obtain ⟨t, ht⟩ : ∃ t, btc P = t := ⟨_, rfl⟩
          have htb := btc_bd P
          rw [ht] at htb HYB
          have K3 : Hid (∀ d os, Calls Try.prog 40 #[.int .i64 (P : Nat)] (Sort.grow (redrawn wr d) os) fun e w'' => e = .returned (.int .i64 (t : Nat)) ∧ ∃ p : Regrown, w'' = Sort.grow (redrawn wr p.d) p.os) :=
            Lib.hid fun d os => Calls.regrown_of (by rw [← ht]; exact rbits_any HCT.out P _ hp12)
          have HBT := Lib.hid fun w => refBits_any X t w (by omega) hix
          have HTB := Lib.hid htb
          clear hb8 hlt hown hb hp12 hix hpu hP hX ht htb hn hnb
          go_wp2_with fail
          refine region_below_tail1 (v := v) 12 (by kernel_rfl) (by kernel_rfl) (Or.inl ⟨by rfl, fun w => BigFrame.run_move (.tmp 7) rfl w⟩) ?_
          simp only [Nat.reduceSub, List.take_succ_cons, List.take_zero, List.drop_succ_cons, List.drop_zero, Act.put, List.setIfInBounds_toArray, List.set_cons_zero, List.set_cons_succ]
          repeat (first
            | (go_big_quiet_want; refine q_load_pto 29 (.tmp 32) rfl g (8 + b * 4) 4 rfl 32 l _ HC1.out HLE.out Try.underlying29 rfl puls_4 ?_; go_big_quiet_on; simp only [Act.put, List.setIfInBounds_toArray, List.set_cons_zero, List.set_cons_succ])
            | go_big_quiet_step (fail))
          go_big_quiet_step ((go_at_call 39; exact K1.out _ _))
          repeat (first
            | (go_big_quiet_want; refine q_load_pto 29 (.tmp 37) rfl g (8 + b * 4) 4 rfl 32 l _ HC1.out HLE.out Try.underlying29 rfl puls_4 ?_; go_big_quiet_on; simp only [Act.put, List.setIfInBounds_toArray, List.set_cons_zero, List.set_cons_succ])
            | go_big_quiet_step (fail))
          go_big_quiet_step ((go_at_call 37; exact K2.out _ _))
          repeat go_big_quiet_step (fail)
          go_big_quiet_step ((go_at_call 40; exact K3.out _ _))
          repeat go_big_quiet_step (fail)
          refine wpQuiet_nil ?_
          rintro w6 ⟨⟨dq, osq⟩, rfl⟩
          have hb := below_regrown wr dq osq
          have HO := Lib.hid (own13_stay HO.out hb)
          have hsz : g + 1 ≤ wr.heap.size := by have := HB.out.size; rw [HB1.out] at this; exact this
          have HB := Lib.hid (HB.out.trans (hb.mono hsz))
          have hsz2 : g + 1 ≤ (Sort.grow (redrawn wr dq) osq).heap.size := Nat.le_trans hsz hb.size
          clear hb K1 K2 K3 HC1 HR hsz
          generalize Sort.grow (redrawn wr dq) osq = w6 at *
          go_wp2_with fail
          refine (HBT.out _).mono ?_
          rintro e w7 ⟨rfl, hr, hb⟩
          have HRW := Lib.hid hr
          have HO2 := Lib.hid (own13_stay HO.out hb)
          have HB2 := Lib.hid (HB.out.trans (hb.mono hsz2))
          have HSZ := Lib.hid (show g + 1 ≤ w7.heap.size from Nat.le_trans hsz2 hb.size)
          clear hr hb HO HB hsz2 HBT
          go_wp2_with (at_builtin; refine wpList_append_own _ rfl _ _ 54 rfl (g + 1) 3 i0 (.int .i64 0) 1 8 Try.underlying54 HI.out.1 HI.out.2.1 HI.out.2.2.1 HI.out.2.2.2 rfl (by decide) _ _ _ rfl HO2.out ⟨w6.heap.size, 0, none⟩ t t (natCells (natB (bitsOf X t))).toList rfl ?c1 (World.news_of_block HRW.out) (natCells_one _) ?c3 ?c4 HSZ.out ?_)
          case c1 => rw [Array.length_toList, natCells_size, natB_length, bitsOf_length]; omega
          case c3 => have := HNB.out; have := HTB.out; unfold maxLen; omega
          case c4 => have := HNB.out; have := HTB.out; omega
          intro v' w8 hown' hgrow _
          have R : Hid (w8.ownsRow (g + 1) 3 1 v' (n + t) (natCells (natB (yb19 fr l (b + 1)))).toList ∧ Below (g + 1) w1 w8) :=
            ⟨by rw [HYB.out, natB_app, natCells_app]; exact hown', HB2.out.grown hgrow HSZ.out (fun k hk => own_ge HO2.out k hk)⟩
          clear hown' hgrow HO2 HB2 HRW
          go_wp2_with fail
          try refine NoPanic.normal ?_
          go_wp2_with fail
          go_roundw
          case rel => exact ⟨b + 1, n + t, v', HK.out, by go_num, rfl, by rw [HYB.out, List.length_append, bitsOf_length, HN.out ()], R.out.1, R.out.2⟩
          case measure =>
            have := HK.out
            simp [intOf] <;> omega
        · obtain rfl : b = 8 := by omega
          rw [show ((8 : Nat) : Int) = 8 from rfl]
          obtain ⟨N, hN⟩ : ∃ N, 8 * z - 16 = N := ⟨_, rfl⟩
          have HNN := Lib.hid fun _ : Unit => hN
          have hzz := HZ.out
          have e1 : IntKind.i64.wrap (8 * (z : Int)) = 8 * (z : Int) := by rw [IntKind.wrap_i64]; omega
          have e2 : IntKind.i64.wrap (8 * (z : Int) - 16) = (N : Int) := by rw [IntKind.wrap_i64]; omega
          have HN176 := Lib.hid (show N ≤ 176 by omega)
          have HNB := Lib.hid (show 16 ≤ n ∧ n ≤ 152 by
            refine ⟨?_, by omega⟩
            rw [hn]
            have h1 : ∀ b, 48 ≤ (yb19 fr l b).length := fun b => by
              induction b with
              | zero => exact Nat.le_of_eq (lb19_len fr l 8).symm
              | succ b ih =>
                show _ ≤ (yb19 fr l b ++ _).length
                rw [List.length_append]; omega
            have := h1 8
            omega)
          clear hb8 hge hown hb HR hN hzz hn hnb
          go_wp2_with fail
          go_loopw [7] (fun vv wr => ∃ (k : Nat) (v : Value), vv = v ∧ (k = 0 ∨ n + k ≤ N) ∧ wr.ownsRow (g + 1) 3 1 v (n + k) (natCells (natB (yb19 fr l 8 ++ List.replicate k false))).toList ∧ Below (g + 1) w1 wr) (fun vv _ => ms19 N vv)
          case atStart => exact ⟨0, _, rfl, Or.inl rfl, by rw [List.replicate_zero, List.append_nil]; exact HO.out, HB.out⟩
          case round =>
            clear HO HB
            obtain ⟨k, v, hv, hk, hown, hb⟩ := hrel
            have hv2 := hv.symm
            subst hv2
            clear hv
            have HO := Lib.hid hown
            have HB := Lib.hid hb
            obtain ⟨gv, cap, rfl, hgv1, hgv2⟩ := own13_form hown (by have := HNB.out; omega)
            obtain ⟨nk, hnk⟩ : ∃ nk, n + k = nk := ⟨_, rfl⟩
            have HNK := Lib.hid fun _ : Unit => hnk
            rw [hnk] at HO hk ⊢
            have HKN := Lib.hid hk
            rcases Nat.lt_or_ge nk N with hlt | hge
            · have hnI : (nk : Int) < (N : Int) := by omega
              have HLT := Lib.hid hlt
              have hsz : g + 1 ≤ wr.heap.size := by have := hb.size; rw [HB1.out] at this; exact this
              have HSZ := Lib.hid hsz
              obtain ⟨gn, hgn⟩ : ∃ gn, wr.heap.size = gn := ⟨_, rfl⟩
              have HGN := Lib.hid fun _ : Unit => hgn
              have HBA := Lib.hid (hb.alloc hsz (.cells #[.int .i64 (0 : Int)] 3))
              clear hown hb hgv1 hgv2 hnk hk hlt hsz HB hgn
              go_wp2_with (at_builtin; refine wpList_append_own _ rfl _ _ 54 rfl (g + 1) 3 i0 (.int .i64 0) 1 8 Try.underlying54 HI.out.1 HI.out.2.1 HI.out.2.2.1 HI.out.2.2.2 rfl (by decide) _ _ _ rfl (HO.out.alloc _) ⟨gn, 0, none⟩ 1 1 [.int .i64 (0 : Int)] ?c0 rfl (one_new wr gn (HGN.out ()) (.int .i64 (0 : Int)) 3) one_cell ?c3 ?c4 ?c5 ?_)
              case c0 => rw [← HGN.out ()]; rfl
              case c3 => have := HLT.out; have := HN176.out; unfold maxLen; omega
              case c4 => have := HLT.out; have := HN176.out; omega
              case c5 => have := HSZ.out; simp; omega
              intro v' w8 hown' hgrow _
              obtain ⟨g3, cap3, rfl, _, _⟩ := own13_form hown' (by omega)
              have R : Hid (w8.ownsRow (g + 1) 3 1 (.slice (some ⟨g3, 0, none⟩) (nk + 1) cap3) (n + (k + 1)) (natCells (natB (yb19 fr l 8 ++ List.replicate (k + 1) false))).toList ∧ Below (g + 1) w1 w8) :=
                ⟨by
                  rw [show n + (k + 1) = nk + 1 by have := HNK.out (); omega, List.replicate_succ', ← List.append_assoc, natB_app, natCells_app]
                  exact hown', HBA.out.grown hgrow (by have := HSZ.out; simp; omega) (fun k hk => own_ge HO.out k hk)⟩
              clear hown' hgrow HO HBA
              go_wp2_with fail
              go_roundw
              case rel => exact ⟨k + 1, _, rfl, Or.inr (by have := HNK.out (); have := HLT.out; omega), R.out.1, R.out.2⟩
              case measure =>
                have := HLT.out
                show N - (nk + 1) < N - nk
                omega
            · have hnI : ¬ (nk : Int) < (N : Int) := by omega
              have HPB := Lib.hid (show pb19 fr l z = yb19 fr l 8 ++ List.replicate k false by
                unfold pb19
                rw [HNN.out (), ← HN.out (), show N - n = k by have := HKN.out; have := HNK.out (); omega])
              have HLEN := Lib.hid (show (pb19 fr l z).length = nk by rw [HPB.out, List.length_append, List.length_replicate, ← HN.out ()]; exact HNK.out ())
              rw [← HPB.out] at HO
              have HNK2 := Lib.hid (show nk ≤ 176 + 152 by have h1 := HKN.out; have h2 := HNB.out; have h3 := HN176.out; have h4 := HNK.out (); omega)
              have HBY := Lib.hid (bytes_any _ (pb19 fr l z) wr (by rw [HLEN.out]; have := HNK2.out; omega) (own_bitsAt HLEN.out HO.out))
              have HBB := Lib.hid (show Below w.heap.size w wr from HB0.out.trans (hb.mono (by have := HG.out (); omega)))
              clear hown hb hgv1 hgv2 hnk hk hge HO HB
              go_wp2_with fail
              refine HBY.out.mono ?_
              rintro e w9 ⟨rfl, hb⟩
              have HBB := Lib.hid (HBB.out.trans (hb.mono HBB.out.size))
              obtain ⟨S, hS⟩ : ∃ S, ofB (pack (pb19 fr l z)) = S := ⟨_, rfl⟩
              have HSS := Lib.hid fun _ : Unit => hS
              rw [hS]
              obtain ⟨X, hX⟩ : ∃ X, sm15 65535 (bl S) = X := ⟨_, rfl⟩
              have HSM : Hid (∀ w, Calls Try.prog 14 #[.int .i64 65535, .string S] w fun e w' => e = .returned (.int .i64 (X : Nat)) ∧ Below w.heap.size w w') := Lib.hid fun w => by
                have h := rsum_any 65535 S w (by
                  rw [← hS]
                  have h1 : (ofB (pack (pb19 fr l z))).size = ((pb19 fr l z).length + 7) / 8 := by simp [ofB, ByteArray.size, pack, packN]
                  rw [h1, HLEN.out]
                  have := HNK2.out
                  omega)
                rw [hX] at h
                exact h
              have HLY := Lib.hid (show ly19 fr l z = S ++ ld15 X by unfold ly19; rw [hS, hX])
              have hX5 : X < 65536 := by rw [← hX]; exact sm15_lt _ _
              have HSZ2 := Lib.hid (show S.size ≤ 1000 by
                rw [← hS]
                have h1 : (ofB (pack (pb19 fr l z))).size = ((pb19 fr l z).length + 7) / 8 := by simp [ofB, ByteArray.size, pack, packN]
                rw [h1, HLEN.out]
                have := HNK2.out
                omega)
              clear hb hS hX HBY HPB HLEN HNK2 HNK HKN HN HNN e1 e2 HN176 HNB hnI HI HP HS HL HSS HCC HCT HB0 HB1 HR4 HZ HG
              go_wp2_with fail
              refine (HSM.out _).mono ?_
              rintro e w10 ⟨rfl, hb⟩
              have HBB := Lib.hid (HBB.out.trans (hb.mono HBB.out.size))
              clear hb HSM
              obtain ⟨a, b, hab, k1, k2, k3, k4⟩ := ld15_parts X
              have kc := conv_two w10 w10.heap.size a b 5 rfl
              have HBW := Lib.hid (HBB.out.alloc HBB.out.size (.cells #[.int .u8 (ub a), .int .u8 (ub b)] 5))
              rw [hab] at HLY
              obtain ⟨T, hT⟩ : ∃ T, ofB [a, b] = T := ⟨_, rfl⟩
              have s2 : T.size = 2 := by rw [← hT]; rfl
              have s1 := HSZ2.out
              rw [hT] at HLY kc
              obtain ⟨U, hU⟩ : ∃ U, S ++ T = U := ⟨_, rfl⟩
              rw [hU] at HLY
              clear hT hab hfr hX5
              go_wp2_with fail
              go_ret
              exact ⟨by rw [HLY.out]; rfl, HBW.out⟩
end Go.Proofs.Ytoohahjmiljpgaa
