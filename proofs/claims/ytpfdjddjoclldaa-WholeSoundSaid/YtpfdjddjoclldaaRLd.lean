/-
  lap's across by lift's Back, and the seam of two blocks. Conditions: blocks of 32 numbers; those that the seam turns up to 2^40.
-/
import Derived.Test.YtpfdjddjoclldaaRLk
import Derived.Test.YtpfdjddjoclldaaREg
import Derived.Test.YtpfdjddjoclldaaRDc
import Derived.Test.YtpfdjddjoclldaaRB1
import Derived.Deep.RegionWith
namespace Go.Proofs.Ytpfdjddjoclldaa
open Go.RowKit
open M
set_option maxRecDepth 100000 in
set_option maxHeartbeats 2000000 in
theorem across_back (a b : List Int) (w : World) (ha : a.length = 32) (hb : b.length = 32) (hbd : ∀ i, i < 16 → Bd 1099511627776 (a.getD (31 - i) 0, b.getD i 0)) :
    Calls Try.prog 37 #[.agg (iCells a), .agg (iCells b), .func (.func 47) #[] #[]] w fun e w' => e = .returned (.tuple #[.agg (iCells (seaA lfb a b)), .agg (iCells (seaB lfb a b))]) ∧ Below w.heap.size w w' := by
  have r0 : Row (w.alloc (.cells (iCells a) 52)) w.heap.size 52 (iCells a) := row_new w _ rfl _ _
  have r1 := r0.alloc (.cells (iCells b) 52)
  have s1 : Row ((w.alloc (.cells (iCells a) 52)).alloc (.cells (iCells b) 52)) (w.heap.size + 1) 52 (iCells b) := row_new _ _ (by simp) _ _
  have r2 := r1.alloc (.cells (iCells f0) 52)
  have s2 := s1.alloc (.cells (iCells f0) 52)
  have t2 : Row (((w.alloc (.cells (iCells a) 52)).alloc (.cells (iCells b) 52)).alloc (.cells (iCells f0) 52)) (w.heap.size + 1 + 1) 52 (iCells f0) := row_new _ _ (by simp) _ _
  have r3 := r2.alloc (.cells (iCells f0) 52)
  have s3 := s2.alloc (.cells (iCells f0) 52)
  have t3 := t2.alloc (.cells (iCells f0) 52)
  have u3 : Row ((((w.alloc (.cells (iCells a) 52)).alloc (.cells (iCells b) 52)).alloc (.cells (iCells f0) 52)).alloc (.cells (iCells f0) 52)) (w.heap.size + 1 + 1 + 1) 52 (iCells f0) := row_new _ _ (by simp) _ _
  have b3 : Below w.heap.size w ((((w.alloc (.cells (iCells a) 52)).alloc (.cells (iCells b) 52)).alloc (.cells (iCells f0) 52)).alloc (.cells (iCells f0) 52)) := ((((Below.refl _ _).alloc (Nat.le_refl _) _).alloc (by simp) _).alloc (by simp; omega) _).alloc (by simp; omega) _
  have HR := Lib.hid r3
  have HS := Lib.hid s3
  have HT := Lib.hid t3
  have HU := Lib.hid u3
  have HB := Lib.hid b3
  clear r0 r1 s1 r2 s2 t2 r3 s3 t3 u3 b3
  have HBD := Lib.hid hbd
  have HA := Lib.hid ha
  have HBL := Lib.hid hb
  have HSA := Lib.hid fun _ : Unit => frame_size (seaA lfb a b) (seaA_len ..)
  have HSB := Lib.hid fun _ : Unit => frame_size (seaB lfb a b) (seaB_len ..)
  have HSSA := Lib.hid fun _ : Unit => frame_same f0 (seaA lfb a b) f0_length (seaA_len ..)
  have HSSB := Lib.hid fun _ : Unit => frame_same f0 (seaB lfb a b) f0_length (seaB_len ..)
  have hz := fun w => frame_zero w
  clear hbd ha hb
  go_enter Try.func37, Try.ntmps37
  go_wp2_with fail
  clear hz
  generalize (((w.alloc (.cells (iCells a) 52)).alloc (.cells (iCells b) 52)).alloc (.cells (iCells f0) 52)).alloc (.cells (iCells f0) 52) = w1 at *
  obtain ⟨g0, hg0⟩ : ∃ g, w.heap.size = g := ⟨_, rfl⟩
  rw [hg0] at HR HS HT HU HB ⊢
  obtain ⟨g1, hg1⟩ : ∃ g, g0 + 1 = g := ⟨_, rfl⟩
  rw [hg1] at HS HT HU ⊢
  obtain ⟨g2, hg2⟩ : ∃ g, g1 + 1 = g := ⟨_, rfl⟩
  rw [hg2] at HT HU ⊢
  obtain ⟨g3, hg3⟩ : ∃ g, g2 + 1 = g := ⟨_, rfl⟩
  rw [hg3] at HU ⊢
  have HG : Hid (g1 = g0 + 1 ∧ g2 = g0 + 2 ∧ g3 = g0 + 3) := Lib.hid (by omega)
  have HG0 := Lib.hid fun _ : Unit => hg0
  clear hg0 hg1 hg2 hg3
  go_loopw [9] (fun ii wr => ∃ k : Nat, k ≤ 16 ∧ ii = .int .i64 k ∧ Row wr g0 52 (iCells (sak lfb a b k)) ∧ Row wr g1 52 (iCells (sbk lfb a b k)) ∧ Row wr g2 52 (iCells f0) ∧ Row wr g3 52 (iCells f0) ∧ Below g0 w wr) (fun ii _ => 16 - (intOf ii).toNat)
  case atStart => exact ⟨0, by omega, rfl, by rw [sak_zero _ _ _ HA.out]; exact HR.out, by rw [sbk_zero _ _ _ HBL.out]; exact HS.out, HT.out, HU.out, HB.out⟩
  case round =>
    clear HR HS HT HU HB
    obtain ⟨k, hk, rfl, h1, h2, h3, h4, h5⟩ := hrel
    have HR := Lib.hid h1
    have HS := Lib.hid h2
    have HT := Lib.hid h3
    have HU := Lib.hid h4
    have HB := Lib.hid h5
    have HLT := Lib.hid (Row.lt h4)
    clear h1 h2 h3 h4 h5
    rcases Nat.lt_or_ge k 16 with hlt | hge
    · have c0 := i_at HR.out (31 - k) (by rw [sak_len]; omega)
      have c1 := i_at HS.out k (by rw [sbk_len]; omega)
      rw [sak_at _ _ _ _ hlt] at c0
      rw [sbk_at _ _ _ _ hlt] at c1
      have hbd := HBD.out k hlt
      have HA1 := Lib.hid (sak_step lfb a b k hlt)
      have HA2 := Lib.hid (sbk_step lfb a b k)
      obtain ⟨x, hx⟩ : ∃ x, a.getD (31 - k) 0 = x := ⟨_, rfl⟩
      obtain ⟨y, hy⟩ : ∃ y, b.getD k 0 = y := ⟨_, rfl⟩
      rw [hx] at c0 hbd HA1 HA2
      rw [hy] at c1 hbd HA1 HA2
      have hm4 : (4 : Int) * (k : Int) = ((4 * k : Nat) : Int) := by omega
      have hang : (62 : Int) - ((4 * k : Nat) : Int) = 62 - 4 * (k : Int) := by omega
      have hiI : (31 : Int) - (k : Int) = ((31 - k : Nat) : Int) := by omega
      have hdI : ((31 - k : Nat) : Int) < 32 := by omega
      have hkI : (k : Int) < 32 := by omega
      have hgb : 62 - 4 * (k : Int) ≤ 62 ∧ -62 ≤ 62 - 4 * (k : Int) := by omega
      have hm0 : 4 * k < 64 := by omega
      obtain ⟨ang, hag⟩ : ∃ ang, 62 - 4 * (k : Int) = ang := ⟨_, rfl⟩
      rw [hag] at hang hgb HA1 HA2
      clear hag
      have hT := fun w => back_in (x, y) ang w hbd (by omega) (by omega)
      obtain ⟨Q, hQ⟩ : ∃ Q, lfb (x, y) ang = Q := ⟨_, rfl⟩
      simp only [hQ] at hT HA1 HA2
      obtain ⟨p, q⟩ := Q
      dsimp only at hT HA1 HA2
      have HC := Lib.hid hT
      obtain ⟨m4, hm⟩ : ∃ m : Nat, 4 * k = m := ⟨_, rfl⟩
      rw [hm] at hm4 hang hm0
      obtain ⟨d, hd⟩ : ∃ d : Nat, 31 - k = d := ⟨_, rfl⟩
      rw [hd] at hiI hdI c0 HA1
      have HD := Lib.hid hdI
      have HK := Lib.hid hlt
      clear hx hy hT hQ hbd hm hd hk
      have hw1 : IntKind.i64.wrap (d : Int) = d := by rw [IntKind.wrap_i64]; omega
      have hw2 : IntKind.i64.wrap (m4 : Int) = m4 := by rw [IntKind.wrap_i64]; omega
      have hw3 : IntKind.i64.wrap ang = ang := by rw [IntKind.wrap_i64]; omega
      have hne01 : g0 ≠ g1 := by have := HG.out; omega
      have hne10 : g1 ≠ g0 := by have := HG.out; omega
      go_wp2_with fail
      go_region_with (go_at_call_of 47 (Value.int .i64 ang); refine (HC.out _).mono ?_; rintro e w2 ⟨rfl, hb1⟩; have HR1 := Lib.hid (Row.box (w := wr.drew) HR.out hb1); have HS1 := Lib.hid (Row.box (w := wr.drew) HS.out hb1); have d0 := i_at HR1.out d (by rw [sak_len]; have := HD.out; omega); have d1 := i_at HS1.out k (by rw [sbk_len]; have := HK.out; omega); have ff0 := fun i => Row.free HR1.out i; have ff1 := fun i => Row.free HS1.out i; have HB1 := Lib.hid hb1; clear hb1 c0 c1)
      all_goals
        clear d0 d1 ff0 ff1
        have ht := Row.box (w := wr.drew) HT.out HB1.out
        have hu := Row.box (w := wr.drew) HU.out HB1.out
        have hb := HB.out.trans ((below_drew1 (Below.refl g0 wr)).trans (HB1.out.mono (by have := HG.out; have := HLT.out; show g0 ≤ wr.heap.size; omega)))
        obtain ⟨q1, q2, q3, q4, q5⟩ := pair_put HR1.out HS1.out ht hu hb hne01 (by have := HG.out; omega) (by have := HG.out; omega) (by have := HG.out; omega) d k p q HA1.out HA2.out
        clear ht hu hb HR1 HS1 HB1
        have HQ1 := Lib.hid q1
        have HQ2 := Lib.hid q2
        have HQ3 := Lib.hid q3
        have HQ4 := Lib.hid q4
        have HQ5 := Lib.hid q5
        clear q1 q2 q3 q4 q5
        generalize (w2.setCell ⟨g0, d, none⟩ (.int .i64 p)).setCell ⟨g1, k, none⟩ (.int .i64 q) = w3 at *
        go_wp2
        go_roundw
        case rel => exact ⟨k + 1, hlt, by go_num, HQ1.out, HQ2.out, HQ3.out, HQ4.out, HQ5.out⟩
        case measure =>
          simp only [intOf]
          omega
    · obtain rfl : k = 16 := by omega
      have hr := HR.out
      have hs := HS.out
      rw [sak_full] at hr
      rw [sbk_full] at hs
      obtain ⟨A, hA⟩ : ∃ A, seaA lfb a b = A := ⟨_, rfl⟩
      obtain ⟨B, hB⟩ : ∃ B, seaB lfb a b = B := ⟨_, rfl⟩
      rw [hA] at hr HSA HSSA
      rw [hB] at hs HSB HSSB
      have HEA := Lib.hid fun _ : Unit => hA
      have HEB := Lib.hid fun _ : Unit => hB
      clear HR HS hk hge HBD hA hB
      have HR := Lib.hid hr
      have HS := Lib.hid hs
      clear hr hs
      go_wp2_with fail
      have hall := And.intro (Row.drewN HR.out 1) (And.intro (Row.drewN HS.out 1) (And.intro (Row.drewN HT.out 1) (And.intro (Row.drewN HU.out 1) (below_drew1 HB.out))))
      refine wp_region_any (by kernel_rfl) ?_
      change wpAny _ _ _ _ _ _ _ (World.drew _)
      change Row wr.drew _ _ _ ∧ Row wr.drew _ _ _ ∧ Row wr.drew _ _ _ ∧ Row wr.drew _ _ _ ∧ Below _ _ wr.drew at hall
      clear HR HS HT HU HB HLT
      have hG := HG.out
      generalize wr.drew = wd at *
      have HR := Lib.hid hall.1
      have HS := Lib.hid hall.2.1
      have HT := Lib.hid hall.2.2.1
      have HU := Lib.hid hall.2.2.2.1
      have HBd := Lib.hid hall.2.2.2.2
      clear hall
      refine wpAny_ready (rs := [0, 1]) (by kernel_rfl) (by simp) ?_
      refine (AllReady.cons rfl (fun K hK => ?_) (AllReady.cons rfl (fun K hK => ?_) AllReady.nil))
      · skip
        refine (if_pos (by rfl)).mpr ?_
        refine wp_load_row 52 (.tmp 3) rfl g0 rfl 52 (iCells A) (0, 0) _ HR.out Try.underlying52 rfl (HSA.out ()) ?_
        refine hK _ _ ?_
        clear hK K
        simp only [List.getElem_toArray, List.getElem_cons_zero, Act.put, List.setIfInBounds_toArray, List.set_cons_zero, List.set_cons_succ]
        refine wpAny_ready (rs := [1, 2]) (by kernel_rfl) (by simp) ?_
        refine (AllReady.cons rfl (fun K hK => ?_) (AllReady.cons rfl (fun K hK => ?_) AllReady.nil))
        · skip
          refine (if_pos (by rfl)).mpr ?_
          refine wp_load_row 52 (.tmp 4) rfl g1 rfl 52 (iCells B) (0, 0) _ HS.out Try.underlying52 rfl (HSB.out ()) ?_
          refine hK _ _ ?_
          clear hK K
          simp only [List.getElem_toArray, List.getElem_cons_succ, List.getElem_cons_zero, Act.put, List.setIfInBounds_toArray, List.set_cons_zero, List.set_cons_succ]
          refine wpAny_ready (rs := [2]) (by kernel_rfl) (by simp) ?_
          refine (AllReady.cons rfl (fun K hK => ?_) AllReady.nil)
          refine (if_pos (by rfl)).mpr ?_
          refine wp_store_row 52 (.tmp 6) (.tmp 33) rfl g2 (iCells A) rfl rfl 52 (iCells f0) HT.out (HSA.out ()) (HSSA.out ()) (iCells_one A) ?_
          refine hK _ _ ?_
          clear hK K
          simp only [List.getElem_toArray, List.getElem_cons_succ, List.getElem_cons_zero, Act.put]
          have HR_1 : Hid (Row (wd.setRow (g2) ((iCells A))) (g0) 52 ((iCells A))) := (setRow_other _ _ _ _ (by omega)).trans HR.out
          have HS_1 : Hid (Row (wd.setRow (g2) ((iCells A))) (g1) 52 ((iCells B))) := (setRow_other _ _ _ _ (by omega)).trans HS.out
          have HT_1 : Hid (Row (wd.setRow (g2) ((iCells A))) (g2) 52 ((iCells A))) := Row.setRow HT.out _
          have HU_1 : Hid (Row (wd.setRow (g2) ((iCells A))) (g3) 52 ((iCells f0))) := (setRow_other _ _ _ _ (by omega)).trans HU.out
          have HBel_1 : Hid (Below g0 w (wd.setRow (g2) ((iCells A)))) := below_setRow HBd.out (by omega) _
          generalize wd.setRow (g2) ((iCells A)) = wx1 at *
          refine wpAny_ready (rs := [3]) (by kernel_rfl) (by simp) ?_
          refine (AllReady.cons rfl (fun K hK => ?_) AllReady.nil)
          refine (if_pos (by rfl)).mpr ?_
          refine wp_store_row 52 (.tmp 7) (.tmp 34) rfl g3 (iCells B) rfl rfl 52 (iCells f0) HU_1.out (HSB.out ()) (HSSB.out ()) (iCells_one B) ?_
          refine hK _ _ ?_
          clear hK K
          simp only [List.getElem_toArray, List.getElem_cons_succ, List.getElem_cons_zero, Act.put]
          have HR_2 : Hid (Row (wx1.setRow (g3) ((iCells B))) (g0) 52 ((iCells A))) := (setRow_other _ _ _ _ (by omega)).trans HR_1.out
          have HS_2 : Hid (Row (wx1.setRow (g3) ((iCells B))) (g1) 52 ((iCells B))) := (setRow_other _ _ _ _ (by omega)).trans HS_1.out
          have HT_2 : Hid (Row (wx1.setRow (g3) ((iCells B))) (g2) 52 ((iCells A))) := (setRow_other _ _ _ _ (by omega)).trans HT_1.out
          have HU_2 : Hid (Row (wx1.setRow (g3) ((iCells B))) (g3) 52 ((iCells B))) := Row.setRow HU_1.out _
          have HBel_2 : Hid (Below g0 w (wx1.setRow (g3) ((iCells B)))) := below_setRow HBel_1.out (by omega) _
          generalize wx1.setRow (g3) ((iCells B)) = wx2 at *
          refine wpAny_done (by kernel_rfl) ?_ _
          repeat go_step
          (try simp only [Exit.inBlock, Exit.then])
          refine bodyPost_ret (v := .tuple #[.agg (iCells A), .agg (iCells B)]) (results_row_row Try.results37 _ _ g2 g3 52 52 (iCells A) (iCells B) (0, 0) (0, 0) _ rfl HT_2.out rfl HU_2.out Try.underlying52 rfl (HSA.out ()) (HSB.out ())) rfl ⟨by rw [HEA.out (), HEB.out ()], by rw [HG0.out ()]; exact HBel_2.out⟩
        · skip
          refine (if_pos (by rfl)).mpr ?_
          refine wp_store_row 52 (.tmp 6) (.tmp 33) rfl g2 (iCells A) rfl rfl 52 (iCells f0) HT.out (HSA.out ()) (HSSA.out ()) (iCells_one A) ?_
          refine hK _ _ ?_
          clear hK K
          simp only [List.getElem_toArray, List.getElem_cons_succ, List.getElem_cons_zero, Act.put]
          have HR_3 : Hid (Row (wd.setRow (g2) ((iCells A))) (g0) 52 ((iCells A))) := (setRow_other _ _ _ _ (by omega)).trans HR.out
          have HS_3 : Hid (Row (wd.setRow (g2) ((iCells A))) (g1) 52 ((iCells B))) := (setRow_other _ _ _ _ (by omega)).trans HS.out
          have HT_3 : Hid (Row (wd.setRow (g2) ((iCells A))) (g2) 52 ((iCells A))) := Row.setRow HT.out _
          have HU_3 : Hid (Row (wd.setRow (g2) ((iCells A))) (g3) 52 ((iCells f0))) := (setRow_other _ _ _ _ (by omega)).trans HU.out
          have HBel_3 : Hid (Below g0 w (wd.setRow (g2) ((iCells A)))) := below_setRow HBd.out (by omega) _
          generalize wd.setRow (g2) ((iCells A)) = wx3 at *
          refine wpAny_ready (rs := [1]) (by kernel_rfl) (by simp) ?_
          refine (AllReady.cons rfl (fun K hK => ?_) AllReady.nil)
          refine (if_pos (by rfl)).mpr ?_
          refine wp_load_row 52 (.tmp 4) rfl g1 rfl 52 (iCells B) (0, 0) _ HS_3.out Try.underlying52 rfl (HSB.out ()) ?_
          refine hK _ _ ?_
          clear hK K
          simp only [List.getElem_toArray, List.getElem_cons_succ, List.getElem_cons_zero, Act.put, List.setIfInBounds_toArray, List.set_cons_zero, List.set_cons_succ]
          refine wpAny_ready (rs := [3]) (by kernel_rfl) (by simp) ?_
          refine (AllReady.cons rfl (fun K hK => ?_) AllReady.nil)
          refine (if_pos (by rfl)).mpr ?_
          refine wp_store_row 52 (.tmp 7) (.tmp 34) rfl g3 (iCells B) rfl rfl 52 (iCells f0) HU_3.out (HSB.out ()) (HSSB.out ()) (iCells_one B) ?_
          refine hK _ _ ?_
          clear hK K
          simp only [List.getElem_toArray, List.getElem_cons_succ, List.getElem_cons_zero, Act.put]
          have HR_4 : Hid (Row (wx3.setRow (g3) ((iCells B))) (g0) 52 ((iCells A))) := (setRow_other _ _ _ _ (by omega)).trans HR_3.out
          have HS_4 : Hid (Row (wx3.setRow (g3) ((iCells B))) (g1) 52 ((iCells B))) := (setRow_other _ _ _ _ (by omega)).trans HS_3.out
          have HT_4 : Hid (Row (wx3.setRow (g3) ((iCells B))) (g2) 52 ((iCells A))) := (setRow_other _ _ _ _ (by omega)).trans HT_3.out
          have HU_4 : Hid (Row (wx3.setRow (g3) ((iCells B))) (g3) 52 ((iCells B))) := Row.setRow HU_3.out _
          have HBel_4 : Hid (Below g0 w (wx3.setRow (g3) ((iCells B)))) := below_setRow HBel_3.out (by omega) _
          generalize wx3.setRow (g3) ((iCells B)) = wx4 at *
          refine wpAny_done (by kernel_rfl) ?_ _
          repeat go_step
          (try simp only [Exit.inBlock, Exit.then])
          refine bodyPost_ret (v := .tuple #[.agg (iCells A), .agg (iCells B)]) (results_row_row Try.results37 _ _ g2 g3 52 52 (iCells A) (iCells B) (0, 0) (0, 0) _ rfl HT_4.out rfl HU_4.out Try.underlying52 rfl (HSA.out ()) (HSB.out ())) rfl ⟨by rw [HEA.out (), HEB.out ()], by rw [HG0.out ()]; exact HBel_4.out⟩
      · skip
        refine (if_pos (by rfl)).mpr ?_
        refine wp_load_row 52 (.tmp 4) rfl g1 rfl 52 (iCells B) (0, 0) _ HS.out Try.underlying52 rfl (HSB.out ()) ?_
        refine hK _ _ ?_
        clear hK K
        simp only [List.getElem_toArray, List.getElem_cons_succ, List.getElem_cons_zero, Act.put, List.setIfInBounds_toArray, List.set_cons_zero, List.set_cons_succ]
        refine wpAny_ready (rs := [0]) (by kernel_rfl) (by simp) ?_
        refine (AllReady.cons rfl (fun K hK => ?_) AllReady.nil)
        refine (if_pos (by rfl)).mpr ?_
        refine wp_load_row 52 (.tmp 3) rfl g0 rfl 52 (iCells A) (0, 0) _ HR.out Try.underlying52 rfl (HSA.out ()) ?_
        refine hK _ _ ?_
        clear hK K
        simp only [List.getElem_toArray, List.getElem_cons_zero, Act.put, List.setIfInBounds_toArray, List.set_cons_zero, List.set_cons_succ]
        refine wpAny_ready (rs := [2]) (by kernel_rfl) (by simp) ?_
        refine (AllReady.cons rfl (fun K hK => ?_) AllReady.nil)
        refine (if_pos (by rfl)).mpr ?_
        refine wp_store_row 52 (.tmp 6) (.tmp 33) rfl g2 (iCells A) rfl rfl 52 (iCells f0) HT.out (HSA.out ()) (HSSA.out ()) (iCells_one A) ?_
        refine hK _ _ ?_
        clear hK K
        simp only [List.getElem_toArray, List.getElem_cons_succ, List.getElem_cons_zero, Act.put]
        have HR_5 : Hid (Row (wd.setRow (g2) ((iCells A))) (g0) 52 ((iCells A))) := (setRow_other _ _ _ _ (by omega)).trans HR.out
        have HS_5 : Hid (Row (wd.setRow (g2) ((iCells A))) (g1) 52 ((iCells B))) := (setRow_other _ _ _ _ (by omega)).trans HS.out
        have HT_5 : Hid (Row (wd.setRow (g2) ((iCells A))) (g2) 52 ((iCells A))) := Row.setRow HT.out _
        have HU_5 : Hid (Row (wd.setRow (g2) ((iCells A))) (g3) 52 ((iCells f0))) := (setRow_other _ _ _ _ (by omega)).trans HU.out
        have HBel_5 : Hid (Below g0 w (wd.setRow (g2) ((iCells A)))) := below_setRow HBd.out (by omega) _
        generalize wd.setRow (g2) ((iCells A)) = wx5 at *
        refine wpAny_ready (rs := [3]) (by kernel_rfl) (by simp) ?_
        refine (AllReady.cons rfl (fun K hK => ?_) AllReady.nil)
        refine (if_pos (by rfl)).mpr ?_
        refine wp_store_row 52 (.tmp 7) (.tmp 34) rfl g3 (iCells B) rfl rfl 52 (iCells f0) HU_5.out (HSB.out ()) (HSSB.out ()) (iCells_one B) ?_
        refine hK _ _ ?_
        clear hK K
        simp only [List.getElem_toArray, List.getElem_cons_succ, List.getElem_cons_zero, Act.put]
        have HR_6 : Hid (Row (wx5.setRow (g3) ((iCells B))) (g0) 52 ((iCells A))) := (setRow_other _ _ _ _ (by omega)).trans HR_5.out
        have HS_6 : Hid (Row (wx5.setRow (g3) ((iCells B))) (g1) 52 ((iCells B))) := (setRow_other _ _ _ _ (by omega)).trans HS_5.out
        have HT_6 : Hid (Row (wx5.setRow (g3) ((iCells B))) (g2) 52 ((iCells A))) := (setRow_other _ _ _ _ (by omega)).trans HT_5.out
        have HU_6 : Hid (Row (wx5.setRow (g3) ((iCells B))) (g3) 52 ((iCells B))) := Row.setRow HU_5.out _
        have HBel_6 : Hid (Below g0 w (wx5.setRow (g3) ((iCells B)))) := below_setRow HBel_5.out (by omega) _
        generalize wx5.setRow (g3) ((iCells B)) = wx6 at *
        refine wpAny_done (by kernel_rfl) ?_ _
        repeat go_step
        (try simp only [Exit.inBlock, Exit.then])
        refine bodyPost_ret (v := .tuple #[.agg (iCells A), .agg (iCells B)]) (results_row_row Try.results37 _ _ g2 g3 52 52 (iCells A) (iCells B) (0, 0) (0, 0) _ rfl HT_6.out rfl HU_6.out Try.underlying52 rfl (HSA.out ()) (HSB.out ())) rfl ⟨by rw [HEA.out (), HEB.out ()], by rw [HG0.out ()]; exact HBel_6.out⟩
set_option maxRecDepth 100000 in
set_option maxHeartbeats 2000000 in
theorem unseam_any (a b : List Int) (w : World) (ha : a.length = 32) (hb : b.length = 32) (hbd : ∀ i, i < 16 → Bd 1099511627776 (a.getD (31 - i) 0, b.getD i 0)) :
    Calls Try.prog 32 #[.agg (iCells a), .agg (iCells b)] w fun e w' => e = .returned (.tuple #[.agg (iCells (seaA lfb a b)), .agg (iCells (seaB lfb a b))]) ∧ Below w.heap.size w w' := by
  have r0 : Row (w.alloc (.cells (iCells a) 52)) w.heap.size 52 (iCells a) := row_new w _ rfl _ _
  have r1 := r0.alloc (.cells (iCells b) 52)
  have s1 : Row ((w.alloc (.cells (iCells a) 52)).alloc (.cells (iCells b) 52)) (w.heap.size + 1) 52 (iCells b) := row_new _ _ (by simp) _ _
  have r2 := r1.alloc (.cells (iCells f0) 52)
  have s2 := s1.alloc (.cells (iCells f0) 52)
  have t2 : Row (((w.alloc (.cells (iCells a) 52)).alloc (.cells (iCells b) 52)).alloc (.cells (iCells f0) 52)) (w.heap.size + 1 + 1) 52 (iCells f0) := row_new _ _ (by simp) _ _
  have r3 := r2.alloc (.cells (iCells f0) 52)
  have s3 := s2.alloc (.cells (iCells f0) 52)
  have t3 := t2.alloc (.cells (iCells f0) 52)
  have u3 : Row ((((w.alloc (.cells (iCells a) 52)).alloc (.cells (iCells b) 52)).alloc (.cells (iCells f0) 52)).alloc (.cells (iCells f0) 52)) (w.heap.size + 1 + 1 + 1) 52 (iCells f0) := row_new _ _ (by simp) _ _
  have b3 : Below w.heap.size w ((((w.alloc (.cells (iCells a) 52)).alloc (.cells (iCells b) 52)).alloc (.cells (iCells f0) 52)).alloc (.cells (iCells f0) 52)) := ((((Below.refl _ _).alloc (Nat.le_refl _) _).alloc (by simp) _).alloc (by simp; omega) _).alloc (by simp; omega) _
  have HR := Lib.hid r3
  have HS := Lib.hid s3
  have HT := Lib.hid t3
  have HU := Lib.hid u3
  have HB := Lib.hid b3
  have HC := Lib.hid fun w => across_back a b w ha hb hbd
  have HS1 := Lib.hid fun _ : Unit => frame_size a ha
  have HS2 := Lib.hid fun _ : Unit => frame_size b hb
  have HSA := Lib.hid fun _ : Unit => frame_size (seaA lfb a b) (seaA_len ..)
  have HSB := Lib.hid fun _ : Unit => frame_size (seaB lfb a b) (seaB_len ..)
  have HSSA := Lib.hid fun _ : Unit => frame_same f0 (seaA lfb a b) f0_length (seaA_len ..)
  have HSSB := Lib.hid fun _ : Unit => frame_same f0 (seaB lfb a b) f0_length (seaB_len ..)
  have hz := fun w => frame_zero w
  clear r0 r1 s1 r2 s2 t2 r3 s3 t3 u3 b3 hbd ha hb
  generalize seaA lfb a b = A at *
  generalize seaB lfb a b = B at *
  go_enter Try.func32, Try.ntmps32
  go_wp2_with (first
    | (refine wpList_load_row rfl 52 (.tmp 2) rfl w.heap.size rfl 52 (iCells a) (0, 0) _ HR.out Try.underlying52 rfl (HS1.out ()) ?_; clear hz; generalize (((w.alloc (.cells (iCells a) 52)).alloc (.cells (iCells b) 52)).alloc (.cells (iCells f0) 52)).alloc (.cells (iCells f0) 52) = w1 at *)
    | (refine wpList_load_row rfl 52 (.tmp 3) rfl (w.heap.size + 1) rfl 52 (iCells b) (0, 0) _ HS.out Try.underlying52 rfl (HS2.out ()) ?_))
  refine (HC.out _).mono ?_
  rintro e w2 ⟨rfl, hb2⟩
  have HT2 := Lib.hid (Row.box HT.out hb2)
  have HU2 := Lib.hid (Row.box HU.out hb2)
  have HB2 := Lib.hid (HB.out.trans (hb2.mono HB.out.size))
  clear hb2 HR HS HT HU HB
  go_wp2_with (first
    | (refine wpList_store_row rfl 52 (.tmp 4) (.tmp 9) rfl (w.heap.size + 1 + 1) (iCells A) rfl rfl 52 (iCells f0) HT2.out (HSA.out ()) (HSSA.out ()) (iCells_one A) ?_; have HT3 := Lib.hid (Row.setRow HT2.out (iCells A)); have HU3 : Hid (Row (w2.setRow (w.heap.size + 1 + 1) (iCells A)) (w.heap.size + 1 + 1 + 1) 52 (iCells f0)) := Lib.hid ((setRow_other _ _ _ _ (by omega)).trans HU2.out); have HB3 := Lib.hid (below_setRow HB2.out (show w.heap.size ≤ w.heap.size + 1 + 1 by omega) (iCells A)); generalize w2.setRow (w.heap.size + 1 + 1) (iCells A) = w3 at *)
    | (refine wpList_store_row rfl 52 (.tmp 5) (.tmp 10) rfl (w.heap.size + 1 + 1 + 1) (iCells B) rfl rfl 52 (iCells f0) HU3.out (HSB.out ()) (HSSB.out ()) (iCells_one B) ?_; have HU4 := Lib.hid (Row.setRow HU3.out (iCells B)); have HT4 : Hid (Row (w3.setRow (w.heap.size + 1 + 1 + 1) (iCells B)) (w.heap.size + 1 + 1) 52 (iCells A)) := Lib.hid ((setRow_other _ _ _ _ (by omega)).trans HT3.out); have HB4 := Lib.hid (below_setRow HB3.out (show w.heap.size ≤ w.heap.size + 1 + 1 + 1 by omega) (iCells B)); generalize w3.setRow (w.heap.size + 1 + 1 + 1) (iCells B) = w4 at *)
    | (refine bodyPost_ret (v := .tuple #[.agg (iCells A), .agg (iCells B)]) (results_row_row Try.results32 _ _ (w.heap.size + 1 + 1) (w.heap.size + 1 + 1 + 1) 52 52 (iCells A) (iCells B) (0, 0) (0, 0) _ rfl HT4.out rfl HU4.out Try.underlying52 rfl (HSA.out ()) (HSB.out ())) rfl ⟨rfl, ?_⟩))
  exact HB4.out
end Go.Proofs.Ytpfdjddjoclldaa
