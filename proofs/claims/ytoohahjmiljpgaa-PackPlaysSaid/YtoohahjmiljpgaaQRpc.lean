/-
  The reference's Right of layer 19: is a shape right for a size? Conditions: a shape's 40 numbers, any size; what the reference's Count answers.
-/
import Derived.Test.YtoohahjmiljpgaaQS9
import Derived.Test.YtoohahjmiljpgaaQS29
import Derived.Test.YtoohahjmiljpgaaQS7
import Derived.Test.YtoohahjmiljpgaaQS16
import Derived.Test.YtoohahjmiljpgaaQRfe
import Derived.Test.YtoohahjmiljpgaaQRpi
import Derived.Lib.QuietBelow
namespace Go.Proofs.Ytoohahjmiljpgaa
open Go.RowKit
open M
set_option maxRecDepth 100000 in
set_option maxHeartbeats 2000000 in
theorem rsright_any (HC : CtOk) (l : List Int) (z : Int) (w : World) (hl : l.length = 40) :
    Calls Try.prog 15 #[.agg (iCells l), .int .i64 z] w fun e w' => e = .returned (.bool (rg19 l z)) ∧ Below w.heap.size w w' := by
  have HL := Lib.hid hl
  have HCC := Lib.hid HC
  have HR : Hid (Row (w.alloc (.cells (iCells l) 32)) w.heap.size 32 (iCells l)) := Lib.hid (heap_alloc_new _ _)
  have HB : Hid (Below w.heap.size w (w.alloc (.cells (iCells l) 32))) := Lib.hid ((Below.refl _ _).alloc (Nat.le_refl _) _)
  have HSD := Lib.hid fun w => rright_any (sds l) w (pto_len _ _ _)
  clear hl HC
  by_cases h1 : z < 12
  · have HF := Lib.hid (rg_size l z (by omega))
    go_enter Try.func15, Try.ntmps15
    go_wp2_with fail
    go_ret
    exact ⟨by rw [HF.out]; rfl, HB.out⟩
  · by_cases h2 : z > 24
    · have HF := Lib.hid (rg_size l z (by omega))
      go_enter Try.func15, Try.ntmps15
      go_wp2_with fail
      go_ret
      exact ⟨by rw [HF.out]; rfl, HB.out⟩
    · have HZ := Lib.hid (show 12 ≤ z ∧ z ≤ 24 by omega)
      go_enter Try.func15, Try.ntmps15
      go_wp2_with (refine g_load_pto rfl 27 (.tmp 14) rfl w.heap.size 0 8 rfl 32 l _ HR.out (by rw [HL.out]; decide) Try.underlying27 rfl side_8 ?_)
      refine (HSD.out _).mono ?_
      rintro e w2 ⟨rfl, hb⟩
      cases hrt : rt17 (sds l) with
      | false =>
        have HF := Lib.hid (rg_steps l z hrt)
        have HB := Lib.hid (HB.out.trans (hb.mono HB.out.size))
        clear hrt hb
        go_wp2_with fail
        go_ret
        exact ⟨by rw [HF.out]; rfl, HB.out⟩
      | true =>
        have HRT := Lib.hid hrt
        have HR := Lib.hid (HR.out.box hb)
        have HB := Lib.hid (HB.out.trans (hb.mono HB.out.size))
        have hz := HZ.out
        obtain ⟨n, hn⟩ : ∃ n : Nat, (8 * z - 64).toNat = n := ⟨_, rfl⟩
        have HN := Lib.hid fun _ : Unit => hn
        have e1 : IntKind.i64.wrap (8 * z) = 8 * z := by rw [IntKind.wrap_i64]; omega
        have e2 : IntKind.i64.wrap (8 * z - 64) = (n : Int) := by rw [IntKind.wrap_i64]; omega
        have HGV := Lib.hid fun w => rgive_any HCC.out (sds l) n w (pto_len _ _ _) ((rt_iff _).1 hrt) (by omega)
        have hz8 := e8_zero
        clear hrt hb hz hn HSD
        go_wp2_with (refine wpList_load_pto rfl 27 (.tmp 19) rfl w.heap.size 0 8 rfl 32 l _ HR.out (by rw [HL.out]; decide) Try.underlying27 rfl side_8 ?_)
        refine (HGV.out _).mono ?_
        rintro e w3 ⟨rfl, hb⟩
        have HR := Lib.hid (HR.out.below hb HR.out.lt)
        have HB := Lib.hid (HB.out.trans (hb.mono HB.out.size))
        obtain ⟨G, hG⟩ : ∃ G, giv (fun b => (sds l).getD b 0) n = G := ⟨_, rfl⟩
        have HGG := Lib.hid fun _ : Unit => hG
        rw [hG]
        clear hb hG HGV e1 e2
        have HK : Hid (Row (w3.alloc (.cells (iCells e8z) 23)) w3.heap.size 23 (iCells e8z)) := Lib.hid (heap_alloc_new _ _)
        have HSK := Lib.hid (e8_size (kl18 G) (kl18_len G))
        have HSE := Lib.hid (show (iCells e8z).size = (iCells (kl18 G)).size by rw [iCells_size, iCells_size, kl18_len]; rfl)
        go_wp2_with (refine wpList_store_row rfl 23 (.tmp 5) (.tmp 24) rfl w3.heap.size (iCells (kl18 G)) rfl rfl 23 (iCells e8z) HK.out HSK.out HSE.out (iCells_one _) ?_)
        have hne : w.heap.size ≠ w3.heap.size := by have := HR.out.lt; omega
        have HR := Lib.hid (show Row ((w3.alloc (.cells (iCells e8z) 23)).setRow w3.heap.size (iCells (kl18 G))) w.heap.size 32 (iCells l) from (setRow_other _ _ _ _ hne).trans (Row.alloc HR.out _))
        clear hne
        have HB := Lib.hid (below_setRow (HB.out.alloc HB.out.size (.cells (iCells e8z) 23)) HB.out.size (iCells (kl18 G)))
        have HK := Lib.hid (Row.setRow HK.out (iCells (kl18 G)))
        generalize (w3.alloc (.cells (iCells e8z) 23)).setRow w3.heap.size (iCells (kl18 G)) = w4 at *
        obtain ⟨g, hg⟩ : ∃ g, w.heap.size = g := ⟨_, rfl⟩
        have HG := Lib.hid fun _ : Unit => hg
        obtain ⟨g5, hg5⟩ : ∃ g, w3.heap.size = g := ⟨_, rfl⟩
        rw [hg] at HR
        rw [hg5] at HK
        rw [hg, hg5]
        clear hg hg5 hz8
        go_loopw [6] (fun ii wr => ∃ (k : Nat), k ≤ 8 ∧ ii = .int .i64 k ∧ (∀ b, b < k → pu19 (sys l b) = G b) ∧ Row wr g 32 (iCells l) ∧ Row wr g5 23 (iCells (kl18 G)) ∧ Below w.heap.size w wr) (fun ii _ => 8 - (intOf ii).toNat)
        case atStart => exact ⟨0, by omega, rfl, fun b hb => by omega, HR.out, HK.out, HB.out⟩
        case round =>
          clear HR HK HB
          obtain ⟨k, hk, rfl, hall, hr, hrk, hb⟩ := hrel
          have HR := Lib.hid hr
          have HK := Lib.hid hrk
          have HB := Lib.hid hb
          have HA := Lib.hid hall
          rcases Nat.lt_or_ge k 8 with hlt | hge
          · have hkI : (k : Int) < 8 := by omega
            have HKK := Lib.hid hlt
            have HC1 : Hid (∀ W : World, (∃ p : Regrown, W = Sort.grow (redrawn wr p.d) p.os) → Row W g 32 (iCells l)) := by
              rintro W ⟨p, rfl⟩
              exact HR.out.below (below_regrown wr p.d p.os) HR.out.lt
            have c5 := cell_regrown (i_at hrk k (by rw [kl18_len]; exact hlt))
            rw [kl18_at G k hlt] at c5
            have K1 : Hid (∀ d os, Calls Try.prog 37 #[.agg (iCells (pto l (8 + k * 4) 4))] (Sort.grow (redrawn wr d) os) fun e w'' => e = .returned (.int .i64 (pu19 (sys l k) : Nat)) ∧ ∃ p : Regrown, w'' = Sort.grow (redrawn wr p.d) p.os) :=
              Lib.hid fun d os => Calls.regrown_of (rpulses_any (sys l k) _ (pto_len _ _ _))
            have HLE := Lib.hid (show 8 + k * 4 + 4 ≤ l.length by rw [HL.out]; omega)
            obtain ⟨u, hu⟩ : ∃ u, pu19 (sys l k) = u := ⟨_, rfl⟩
            obtain ⟨v, hv⟩ : ∃ v, G k = v := ⟨_, rfl⟩
            have HU := Lib.hid fun _ : Unit => hu
            have HV := Lib.hid fun _ : Unit => hv
            rw [hu] at K1
            rw [hv] at c5
            clear hr hrk hb hall hlt hk hu hv
            go_wp2_with fail
            refine wp_region_quiet_below (by kernel_rfl) (by kernel_rfl) ?_
            repeat (first
              | (go_big_quiet_want; refine q_load_pto 29 (.tmp 31) rfl g (8 + k * 4) 4 rfl 32 l _ HC1.out HLE.out Try.underlying29 rfl puls_4 ?_; go_big_quiet_on; simp only [Act.put, List.setIfInBounds_toArray, List.set_cons_zero, List.set_cons_succ])
              | go_big_quiet_step (fail))
            go_big_quiet_step ((go_at_call 37; exact K1.out _ _))
            repeat go_big_quiet_step (fail)
            refine wpQuiet_nil ?_
            intro _ hw'
            obtain ⟨⟨dq, osq⟩, hw''⟩ := hw'
            subst hw''
            have hb := below_regrown wr dq osq
            have HR := Lib.hid (HR.out.box hb)
            have HK := Lib.hid (HK.out.box hb)
            have HB := Lib.hid (HB.out.trans (hb.mono HB.out.size))
            clear hb K1 HC1 c5
            generalize Sort.grow (redrawn wr dq) osq = w6 at *
            by_cases huv : u = v
            · have huv2 : (u : Int) = (v : Int) := by rw [huv]
              have HUV := Lib.hid huv
              clear huv
              go_wp2_with fail
              go_roundw
              case rel => exact ⟨k + 1, HKK.out, by go_num, fun b hb => by
                rcases Nat.lt_or_ge b k with h | h
                · exact HA.out b h
                · obtain rfl : b = k := by omega
                  rw [HU.out (), HV.out (), HUV.out], HR.out, HK.out, HB.out⟩
              case measure =>
                have := HKK.out
                simp [intOf] <;> omega
            · have huv2 : ¬ (u : Int) = (v : Int) := by omega
              have HF := Lib.hid (rg_band l z k HKK.out (by unfold gk19; rw [HN.out (), HGG.out (), HU.out (), HV.out ()]; exact huv))
              go_wp2_with fail
              go_ret
              exact ⟨by rw [HF.out]; rfl, HB.out⟩
          · obtain rfl : k = 8 := by omega
            have HF := Lib.hid (rg_yes l z HZ.out HRT.out fun b hb => by unfold gk19; rw [HN.out (), HGG.out ()]; exact hall b hb)
            clear hk hge hr hrk hb hall
            go_wp2_with fail
            go_ret
            exact ⟨by rw [HF.out]; rfl, HB.out⟩
end Go.Proofs.Ytoohahjmiljpgaa
