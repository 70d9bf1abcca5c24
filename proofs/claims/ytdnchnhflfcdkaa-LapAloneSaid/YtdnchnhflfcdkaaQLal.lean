/-
  LapAlone walked: a frame that is changed changes its own 32 samples, and 16 of each neighbour's, and no others. Conditions: arrays of 32 numbers, as they lie; a number below 256; an array of 32 numbers.
-/
import Derived.Test.YtdnchnhflfcdkaaQLy
import Derived.Test.YtdnchnhflfcdkaaQB1
import Derived.Test.YtdnchnhflfcdkaaQDph
namespace Go.Proofs.Ytdnchnhflfcdkaa.M
theorem jnb_snc (l : List (List Int)) (f : List Int) (hf : f.length = 32) : jnb (l ++ [f]) = jnb l ++ f := by
  refine Eq.symm (tb_ext 0 _ _ _ (by rw [List.length_append, jnb_len, List.length_append, hf, List.length_singleton]; omega) fun p hp => ?_)
  rw [List.length_append, List.length_singleton] at hp
  rw [List.getD_eq_getElem?_getD, List.getElem?_append]
  by_cases h : p < 32 * l.length
  · rw [if_pos (by rw [jnb_len]; exact h), ← List.getD_eq_getElem?_getD, jnb_getD _ _ h, List.getD_eq_getElem?_getD (l := l ++ [f]), List.getElem?_append_left (by omega), ← List.getD_eq_getElem?_getD]
  · rw [if_neg (by rw [jnb_len]; exact h), jnb_len, ← List.getD_eq_getElem?_getD, List.getD_eq_getElem?_getD (l := l ++ [f]), List.getElem?_append_right (by omega), show p / 32 - l.length = 0 by omega]
    show f.getD (p - 32 * l.length) 0 = f.getD (p % 32) 0
    rw [show p - 32 * l.length = p % 32 by omega]
/-- The first frames, brought into their range. -/
def hfs (x : List Int) (b : Nat) : List (List Int) := (List.range b).map fun i => hd24 (blk x i) 32
theorem hfs_len (x : List Int) (b : Nat) : (hfs x b).length = b := tb_len _ _
theorem hfs_more (x : List Int) (b : Nat) : jnb (hfs x b) ++ hd24 (blk x b) 32 = jnb (hfs x (b + 1)) := by
  rw [← jnb_snc _ _ (hd24_len _ _)]
  unfold hfs
  rw [List.range_succ, List.map_append, List.map_singleton]
end Go.Proofs.Ytdnchnhflfcdkaa.M
namespace Go.Proofs.Ytdnchnhflfcdkaa
open Go.RowKit
open M
/-- Samples far from a changed frame are as they were. -/
theorem fsl_alone (x f : List Int) (n k p : Nat) (hx : x.length = 32 * n) (hp : p < 32 * n) (h : p + 16 < 32 * k ∨ 32 * k + 48 ≤ p) : (smp (fsl x n)).getD p 0 = (smp (fsl (putb x k f) n)).getD p 0 := by
  refine smp_alone (fsl x n) (fsl (putb x k f) n) (by rw [fsl_len, fsl_len]) k (fun b hb => ?_) p (by rw [fsl_len]; exact hp) h
  by_cases hbn : b < n
  · unfold fsl
    rw [tb_getD _ _ _ _ hbn, tb_getD _ _ _ _ hbn, blk_putb_far _ _ _ _ (by omega) hb]
  · rw [List.getD_eq_getElem?_getD, List.getD_eq_getElem?_getD, List.getElem?_eq_none (by rw [fsl_len]; omega), List.getElem?_eq_none (by rw [fsl_len]; omega)]
set_option maxRecDepth 100000 in
set_option maxHeartbeats 4000000 in
theorem alone_law (n : Nat) (x : List Int) (v : Value) (c : Int) (f : List Int) (w : World) (hv : FrsAt w v n x) (hn : n ≤ maxLen) (hc : 0 ≤ c ∧ c < 256) (hf : f.length = 32) :
    Calls Try.prog 4 #[v, .int .u8 c, .agg (iCells f)] w fun e w' => e = .returned (.bool true) ∧ Below w.heap.size w w' := by
  have HR0 : Hid (Row (w.alloc (.cells (iCells f) 33)) w.heap.size 33 (iCells f)) := heap_alloc_new _ _
  have HBA : Hid (Below w.heap.size w (w.alloc (.cells (iCells f) 33))) := Lib.hid ((Below.refl _ _).alloc (Nat.le_refl _) _)
  have HV := Lib.hid (hv.below HBA.out)
  have HXL := Lib.hid hv.1
  have HF := Lib.hid hf
  have HC := Lib.hid hc
  have HNM := Lib.hid hn
  have HSZ := Lib.hid fun _ : Unit => nums_size f hf
  obtain ⟨_, ad, capl, rfl, _⟩ := hv
  unfold maxLen at hn
  go_enter Try.func4, Try.ntmps4
  clear hf hc
  go_wp2_with fail
  generalize w.alloc (.cells (iCells f) 33) = w0 at *
  obtain ⟨go, hgo⟩ : ∃ go, w.heap.size = go := ⟨_, rfl⟩
  rw [hgo] at HR0 HBA ⊢
  have HGO := Lib.hid fun _ : Unit => hgo
  clear hgo
  refine (pawake_any w0).mono ?_
  rintro e w1 ⟨rfl, hb1⟩
  have HV1 := Lib.hid (HV.out.below hb1)
  have HR1 := Lib.hid (HR0.out.box hb1)
  have HB1 := Lib.hid (HBA.out.trans (hb1.mono (Nat.le_of_lt (Row.lt HR0.out))))
  clear HV HR0 HBA hb1
  by_cases hz : n = 0
  · subst hz
    go_wp2_with fail
    refine (pawake_any w1).mono ?_
    rintro e w2 ⟨rfl, hb2⟩
    have HB2 := Lib.hid (HB1.out.trans (hb2.mono (Nat.le_of_lt (Row.lt HR1.out))))
    go_wp2_with fail
    go_ret
    exact ⟨rfl, by rw [HGO.out ()]; exact HB2.out⟩
  · by_cases h12 : 12 < n
    · have h1 : ¬ ((n : Int) = 0) := by omega
      have h2 : (12 : Int) < (n : Int) := by omega
      go_wp2_with fail
      refine (pawake_any w1).mono ?_
      rintro e w2 ⟨rfl, hb2⟩
      have HB2 := Lib.hid (HB1.out.trans (hb2.mono (Nat.le_of_lt (Row.lt HR1.out))))
      go_wp2_with fail
      go_ret
      exact ⟨rfl, by rw [HGO.out ()]; exact HB2.out⟩
    · have h1 : ((n : Int) == 0) = false := by rw [beq_eq_false_iff_ne]; omega
      have h2 : ¬ ((12 : Int) < (n : Int)) := by omega
      have HNB : Hid (1 ≤ n ∧ n ≤ 12) := Lib.hid (by omega)
      obtain ⟨B, hB⟩ : ∃ B, w1.heap.size = B := ⟨_, rfl⟩
      have HBB := Lib.hid fun _ : Unit => hB
      clear hz h12 hn hB
      go_wp2_with fail
      go_loopw [7, 8] (fun vo ii wr => ∃ i : Nat, i ≤ n ∧ ii = .int .i64 i ∧ wr.ownsRow B 34 32 vo i (iV (jnb (hfs x i))) ∧ Below B w1 wr) (fun _ ii _ => n - (intOf ii).toNat)
      case atStart => exact ⟨0, Nat.zero_le _, rfl, World.ownsRow_nil _ _ _ _, Below.refl _ _⟩
      case round =>
        obtain ⟨i, hi, rfl, hown, hb⟩ := hrel
        have HO := Lib.hid hown
        have HB := Lib.hid hb
        clear hown hb
        generalize wr = W at *
        rcases Nat.lt_or_ge i n with hlt | hge
        · have hv1 := HV1.out
          obtain ⟨_, a2, c2, heq, hcell⟩ := hv1
          injection heq with e1 e2 e3
          subst e1 e3
          obtain ⟨b, off, rfl, hbs, hcs⟩ := hcell (by omega)
          have HCS : Hid (∀ p, p < x.length → W.cell? ⟨b, off + p, none⟩ = some (.int .i64 (x.getD p 0))) := Lib.hid fun p hp => (HB.out.cell (p := ⟨b, off + p, none⟩) (by rw [← HBB.out ()]; exact hbs)).trans (hcs p (by rw [← HXL.out]; exact hp))
          have HLE : Hid (32 * i + 32 ≤ x.length) := Lib.hid (by rw [HXL.out]; omega)
          have hiI : (i : Int) < (n : Int) := by omega
          have HK := Lib.hid hlt
          have hmore := hfs_more x i
          obtain ⟨F, hF⟩ : ∃ F, blk x i = F := ⟨_, rfl⟩
          have hfl : F.length = 32 := by rw [← hF]; exact blk_len _ _
          have HFL := Lib.hid hfl
          have HFF := Lib.hid fun _ : Unit => hF
          rw [hF] at hmore
          have HMO := Lib.hid hmore
          clear hF hfl hmore hcell hcs e2 hi hlt hbs
          go_wp2_with (first
            | (refine wpList_load_frs rfl 33 (.tmp 35) rfl b off i (off + i * 32) (by omega) rfl x _ HCS.out HLE.out Try.underlying33 rfl nums_32 ?_; rw [HFF.out ()]))
          refine (lheld_any F W HFL.out).mono ?_
          rintro e w6 ⟨rfl, hb6⟩
          have hg2 := hd24_len F 32
          obtain ⟨G, hG⟩ : ∃ G, hd24 F 32 = G := ⟨_, rfl⟩
          rw [hG] at hg2 HMO ⊢
          have HGL := Lib.hid hg2
          have HO6 := Lib.hid ((own_stay HO.out hb6).alloc (.cells (iCells G) 34))
          have HF6 : Hid (FrAt (w6.alloc (.cells (iCells G) 34)) w6.heap.size G) := Lib.hid (FrAt.row (heap_alloc_new _ _))
          have HB6 := Lib.hid ((HB.out.trans (hb6.mono (by have := HB.out.size; have := HBB.out (); omega))).alloc (by have := HB.out.size; have := hb6.size; have := HBB.out (); omega) (.cells (iCells G) 34))
          have HS6 : Hid (B ≤ (w6.alloc (.cells (iCells G) 34)).heap.size) := Lib.hid (by have := HB6.out.size; have := HBB.out (); omega)
          have HNB2 : Hid (i ≤ 4096) := Lib.hid (by have := HK.out; have := HNB.out; omega)
          clear hb6 hg2 hG HO HB HCS HLE
          go_wp2_with (first
            | (refine wpList_build_blk rfl 25 34 Try.underlying25 frame_parts (.tmp 37) rfl G HGL.out rfl _ rfl ?_)
            | (at_builtin; refine wpList_append_blk rfl (.tmp 32) (.tmp 38) 25 34 Try.underlying25 frame_parts rfl B _ i (jnb (hfs x i)) G rfl HO6.out _ rfl HF6.out HGL.out HNB2.out HS6.out ?_; intro v7 w7 hown7 hb7 _))
          have HO7 : Hid (w7.ownsRow B 34 32 v7 (i + 1) (iV (jnb (hfs x (i + 1))))) := Lib.hid (by rw [← HMO.out]; exact hown7)
          have HB7 := Lib.hid (HB6.out.trans hb7)
          clear hown7 hb7 HO6 HB6 HF6 HS6
          have hkk := HK.out
          have hnb := HNB.out
          go_wp2_with fail
          go_roundw
          case rel => exact ⟨i + 1, HK.out, by go_num, HO7.out, HB7.out⟩
          case measure =>
            have := HK.out
            simp only [intOf]
            omega
        · obtain rfl : i = n := by omega
          have hnb := HNB.out
          have hge2 : ¬ ((i : Int) < (i : Int)) := by omega
          obtain ⟨g, capg, rfl, hBg, hfr⟩ := own_fr HO.out (by omega)
          have HFR := Lib.hid hfr
          have HBG := Lib.hid hBg
          have hxl : (jnb (hfs x i)).length = 32 * i := by rw [jnb_len, hfs_len]
          obtain ⟨X, hX⟩ : ∃ X, jnb (hfs x i) = X := ⟨_, rfl⟩
          rw [hX] at hxl HO HFR
          have HXX := Lib.hid hxl
          clear hfr hBg hX hi hge hxl
          go_wp2_with fail
          refine (samples_any X i capg g W HFR.out HXX.out (by omega)).mono ?_
          rintro e w2 ⟨⟨ga, hga, rfl, hra⟩, hb2⟩
          have HRW : Hid (Row W go 33 (iCells f)) := Lib.hid (HR1.out.box (by rw [HBB.out ()]; exact HB.out))
          have hgoB : go < B := by rw [← HBB.out ()]; exact Row.lt HR1.out
          have HR2 := Lib.hid (HRW.out.box hb2)
          have HA2 := Lib.hid hra
          have HO2 := Lib.hid (own_stay HO.out hb2)
          have HBW : Hid (Below go w W) := Lib.hid (HB1.out.trans (HB.out.mono (Nat.le_of_lt hgoB)))
          have HGW : Hid (go ≤ W.heap.size) := Lib.hid (Nat.le_of_lt (Row.lt HRW.out))
          have HB2 : Hid (Below go w w2) := Lib.hid (HBW.out.trans (hb2.mono HGW.out))
          have hgW := HFR.out.1
          have HGA : Hid (ga ≠ g) := Lib.hid (by omega)
          have HGG : Hid (go < g) := Lib.hid (by have := HBG.out; omega)
          clear hga hra hb2 HRW HO HB HBW HR1 HB1 HFR HV1 hgW hgoB
          have hc := HC.out
          obtain ⟨k, hk⟩ : ∃ k : Nat, c.tmod (i : Int) = (k : Int) := ⟨(c.tmod (i : Int)).toNat, by have := Int.tmod_nonneg (i : Int) hc.1; omega⟩
          have hkL : k < i := by have := Int.tmod_lt_of_pos c (show (0 : Int) < (i : Int) by omega); omega
          have hk2 : c % (i : Int) = (k : Int) := by rw [← hk, Int.tmod_eq_emod_of_nonneg hc.1]
          have hkI : (k : Int) < (i : Int) := by omega
          have HKL := Lib.hid hkL
          have hi0 : ¬ ((i : Int) = 0) := by omega
          clear hge2
          go_wp2_with (first
            | (refine wpList_load_row rfl 33 (.tmp 5) rfl go rfl 33 (iCells f) (0, 0) _ HR2.out Try.underlying33 rfl (HSZ.out ()) ?_))
          refine (lheld_any f w2 HF.out).mono ?_
          rintro e w3 ⟨rfl, hb3⟩
          have hg2 := hd24_len f 32
          obtain ⟨G, hG⟩ : ∃ G, hd24 f 32 = G := ⟨_, rfl⟩
          rw [hG] at hg2 ⊢
          have HGL := Lib.hid hg2
          have HA3 := Lib.hid (HA2.out.box hb3)
          have HO3 := Lib.hid (own_stay HO2.out hb3)
          have HB3 : Hid (Below go w w3) := Lib.hid (HB2.out.trans (hb3.mono (Nat.le_of_lt (Row.lt HR2.out))))
          clear hg2 hG hb3 HA2 HO2 HB2 HR2 hk hkL
          go_wp2_with (first
            | (refine wpList_store_own rfl 34 (.tmp 51) (.tmp 50) rfl g k (k * 32) (Nat.mul_comm _ _) G rfl rfl B i capg 34 X HO3.out HKL.out HGL.out frame_32 ?_; intro w4 hown4 hb4 hgr4; have HO4 := Lib.hid hown4; have HA4 : Hid (Row w4 ga 3 (iCells (smp (fsl X i)))) := Lib.hid (Row.grown HA3.out hgr4 (Row.lt HA3.out) (fun h => HGA.out (by injection h))); have HB4 : Hid (Below go w w4) := Lib.hid (HB3.out.trans (hb4.mono (Nat.le_of_lt HGG.out))); clear hown4 hb4 hgr4))
          obtain ⟨g', cap', he, _, hfr⟩ := own_fr HO4.out (by omega)
          injection he with he1 _ he3
          injection he1 with he1
          injection he1 with he1 _ _
          subst he1 he3
          have hpl : (putb X k G).length = 32 * i := by rw [putb_len, HXX.out]
          have HAL : Hid (∀ p, p < 32 * i → (p + 16 < 32 * k ∨ 32 * k + 48 ≤ p) → (smp (fsl (putb X k G) i)).getD p 0 = (smp (fsl X i)).getD p 0) := Lib.hid fun p hp h => (fsl_alone X G i k p HXX.out hp h).symm
          have HL1 : Hid ((smp (fsl X i)).length = 32 * i) := Lib.hid (by rw [smp_len, fsl_len])
          have HL2 : Hid ((smp (fsl (putb X k G) i)).length = 32 * i) := Lib.hid (by rw [smp_len, fsl_len])
          refine (samples_any (putb X k G) i capg g w4 hfr hpl (by omega)).mono ?_
          rintro e w5 ⟨⟨gb, _, rfl, hrb⟩, hb5⟩
          have HA5 := Lib.hid (HA4.out.box hb5)
          have HQ5 := Lib.hid hrb
          have HB5 : Hid (Below go w w5) := Lib.hid (HB4.out.trans (hb5.mono (by have := hfr.1; have := HGG.out; omega)))
          generalize smp (fsl (putb X k G) i) = Q at *
          generalize smp (fsl X i) = P at *
          obtain ⟨N, hN⟩ : ∃ N, 32 * i = N := ⟨_, rfl⟩
          rw [hN] at HAL HL1 HL2 ⊢
          have hNI : (32 : Int) * (i : Int) = (N : Int) := by omega
          have hNb : (N : Int) ≤ 384 := by omega
          obtain ⟨m, hm⟩ : ∃ m, 32 * k = m := ⟨_, rfl⟩
          rw [hm] at HAL
          have hmI : (32 : Int) * (k : Int) = (m : Int) := by omega
          have hmb : (m : Int) ≤ 384 := by omega
          clear hfr hpl hrb hb5 HA4 HB4 HO4 HA3 HO3 HB3 hN hm hk2 hkI hi0 HXL
          go_wp2_with fail
          go_loopw [12] (fun ii wr => ∃ p : Nat, p ≤ N ∧ ii = .int .i64 p ∧ Below w5.heap.size w5 wr) (fun ii _ => N - (intOf ii).toNat)
          case atStart => exact ⟨0, Nat.zero_le _, rfl, Below.refl _ _⟩
          case round =>
            obtain ⟨p, hp, rfl, hb⟩ := hrel
            have HB := Lib.hid hb
            rcases Nat.lt_or_ge p N with hlt | hge
            · have hpI : (p : Int) < (N : Int) := by omega
              have HK := Lib.hid hlt
              have c0 := (hb.cell (p := ⟨ga, p, none⟩) (Row.lt HA5.out)).trans (i_at HA5.out p (by rw [HL1.out]; exact hlt))
              have c1 := (hb.cell (p := ⟨gb, p, none⟩) (Row.lt HQ5.out)).trans (i_at HQ5.out p (by rw [HL2.out]; exact hlt))
              by_cases hf1 : (p : Int) < (m : Int) - 16
              · rw [HAL.out p hlt (by omega)] at c1
                obtain ⟨z, hz⟩ : ∃ z, P.getD p 0 = z := ⟨_, rfl⟩
                rw [hz] at c0 c1
                clear hz hb hp hlt
                go_wp2_with fail
                go_big_quiet (fail)
                go_wp2_with fail
                go_roundw
                case rel => exact ⟨p + 1, HK.out, by go_num, Below.drewN HB.out nq⟩
                case measure =>
                  have := HK.out
                  simp only [intOf]
                  omega
              · by_cases hf2 : (m : Int) + 48 ≤ (p : Int)
                · rw [HAL.out p hlt (by omega)] at c1
                  obtain ⟨z, hz⟩ : ∃ z, P.getD p 0 = z := ⟨_, rfl⟩
                  rw [hz] at c0 c1
                  clear hz hb hp hlt
                  go_wp2_with fail
                  have hq1 : ¬ ((p : Int) < (m : Int) - 16) := by omega
                  have hq2 : (m : Int) + 48 ≤ (p : Int) := by omega
                  go_big_quiet (fail)
                  go_wp2_with fail
                  go_roundw
                  case rel => exact ⟨p + 1, HK.out, by go_num, Below.drewN HB.out nq⟩
                  case measure =>
                    have := HK.out
                    simp only [intOf]
                    omega
                · obtain ⟨z, hz⟩ : ∃ z, P.getD p 0 = z := ⟨_, rfl⟩
                  rw [hz] at c0
                  obtain ⟨y, hy⟩ : ∃ y, Q.getD p 0 = y := ⟨_, rfl⟩
                  rw [hy] at c1
                  clear hz hy hb hp hlt
                  go_wp2_with fail
                  have hq1 : ¬ ((p : Int) < (m : Int) - 16) := by omega
                  have hq2 : ¬ ((m : Int) + 48 ≤ (p : Int)) := by omega
                  go_big_quiet (fail)
                  go_wp2_with fail
                  go_roundw
                  case rel => exact ⟨p + 1, HK.out, by go_num, Below.drewN HB.out nq⟩
                  case measure =>
                    have := HK.out
                    simp only [intOf]
                    omega
            · have hge2 : ¬ ((p : Int) < (N : Int)) := by omega
              have HBE : Hid (Below go w wr) := Lib.hid (HB5.out.trans (hb.mono (by have := HB5.out.size; have := Row.lt HA5.out; have := HGO.out (); omega)))
              clear hb
              go_wp2_with fail
              go_ret
              exact ⟨rfl, by rw [HGO.out ()]; exact HBE.out⟩
end Go.Proofs.Ytdnchnhflfcdkaa
