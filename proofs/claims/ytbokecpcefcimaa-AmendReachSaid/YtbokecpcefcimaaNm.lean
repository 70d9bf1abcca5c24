/-
  The contract of layer 6's Amend. Condition: words have 127 bits.
-/
import Derived.Test.YtbokecpcefcimaaNl
import Derived.Deep.Cut
namespace Go.Proofs.Ytbokecpcefcimaa
open Go.RowKit
open M

set_option maxRecDepth 100000 in
set_option maxHeartbeats 4000000 in
theorem amend_any (l h : List Bool) (w : World) (hl : l.length = 127) (hh : h.length = 127) :
    Calls Try.prog 13 #[.agg (boolCells l), .agg (boolCells h)] w fun e w' => ∃ x n, e = .returned (.tuple #[.int .u64 (un x), .int .i64 n]) ∧ Am l h x n ∧ Below w.heap.size w w' := by
  have r0 : Row ((w.alloc (.cells (boolCells l) 32)).alloc (.cells (boolCells h) 32)) w.heap.size 32 (boolCells l) := (row_new w _ rfl _ _).alloc _
  have r1 : Row ((w.alloc (.cells (boolCells l) 32)).alloc (.cells (boolCells h) 32)) (w.heap.size + 1) 32 (boolCells h) := row_new _ _ (by simp) _ _
  have HB0 : Hid (Below w.heap.size w ((w.alloc (.cells (boolCells l) 32)).alloc (.cells (boolCells h) 32))) := ((Below.refl _ _).alloc (Nat.le_refl _) _).alloc (by simp) _
  have HR0 := Lib.hid r0
  have HR1 := Lib.hid r1
  have HL := Lib.hid hl
  have HH := Lib.hid hh
  have HSL := Lib.hid fun _ : Unit => word_size l hl
  have HSH := Lib.hid fun _ : Unit => word_size h hh
  have HMANY : Hid (20 < h.count true → Am l h 0 5) := fun k => Or.inr ⟨rfl, rfl, fun y => Nat.lt_of_lt_of_le k (far_holes l h _ hh)⟩
  have hcl := count_le h
  have HFILL := Lib.hid fun (b : Bool) (W : World) => fill_any l h b W hl hh
  clear r0 r1 hl hh
  go_enter Try.func13, Try.ntmps13
  go_wp2_with (first
    | (refine wpList_load_row rfl 32 (.tmp 3) rfl (w.heap.size + 1) rfl 32 (boolCells h) (0, 0) _ HR1.out Try.underlying32 rfl (HSH.out ()) ?_))
  refine (count_any h _ HH.out).mono ?_
  rintro e w2 ⟨rfl, hb⟩
  have HB2 := Lib.hid (HB0.out.trans (hb.mono HB0.out.size))
  have HL2 := Lib.hid (HR0.out.box hb)
  have HH2 := Lib.hid (HR1.out.box hb)
  clear hb HR0 HR1 HB0
  rw [HH.out] at hcl
  obtain ⟨n, hn⟩ : ∃ n, h.count true = n := ⟨_, rfl⟩
  rw [hn] at HMANY hcl ⊢
  clear hn
  by_cases h20 : 20 < n
  · have h20' : (n : Int) > 20 := by omega
    go_wp2
    go_ret2
    exact ⟨0, 5, rfl, HMANY.out h20, HB2.out⟩
  · have h20' : ¬ ((n : Int) > 20) := by omega
    have h20'' : ¬ (20 < (n : Int)) := by omega
    go_wp2
    clear h20' h20''
    have hs2 := HB2.out.size
    have HV : Hid (Row (w2.alloc (.cells #[.bool false, .bool true] 4)) w2.heap.size 4 #[.bool false, .bool true]) := heap_alloc_new _ _
    have HL3 := Lib.hid (HL2.out.alloc (.cells #[.bool false, .bool true] 4))
    have HH3 := Lib.hid (HH2.out.alloc (.cells #[.bool false, .bool true] 4))
    have HB3 := Lib.hid (HB2.out.alloc hs2 (.cells #[.bool false, .bool true] 4))
    clear HL2 HH2 HB2 hs2
    generalize w2.heap.size = gv at *
    generalize w2.alloc (.cells #[.bool false, .bool true] 4) = w3 at *
    go_loopw [17] (fun i wr => ∃ k : Nat, k ≤ 2 ∧ i = .int .i64 (k : Nat) ∧ Row wr w.heap.size 32 (boolCells l) ∧ Row wr (w.heap.size + 1) 32 (boolCells h) ∧ Row wr gv 4 #[.bool false, .bool true] ∧ NF l h k ∧ Below w.heap.size w wr) (fun i _ => 2 - (intOf i).toNat)
    case atStart => exact ⟨0, by omega, rfl, HL3.out, HH3.out, HV.out, nf_zero l h, HB3.out⟩
    case round =>
      clear HL3 HH3 HV HB3
      obtain ⟨k, hk, rfl, h1, h2, h3, h4, h5⟩ := hrel
      have HLR := Lib.hid h1
      have HHR := Lib.hid h2
      have HV := Lib.hid h3
      have HNF := Lib.hid h4
      have HB := Lib.hid h5
      clear h1 h2 h3 h4 h5
      by_cases hlt : k < 2
      · have c0 : wr.cell? ⟨gv, k, none⟩ = some (.bool (decide (k = 1))) := by
          rw [cell_of_row _ _ _ _ _ _ HV.out]
          have hk3 : k = 0 ∨ k = 1 := by omega
          rcases hk3 with rfl | rfl <;> rfl
        obtain ⟨b, hb⟩ : ∃ b, decide (k = 1) = b := ⟨_, rfl⟩
        rw [hb] at c0
        have HNX := Lib.hid (nf_next l h k b hb.symm hlt HNF.out)
        clear hb
        go_wp2_with (first
            | (refine wpList_load_row rfl 32 (.tmp 2) rfl w.heap.size rfl 32 (boolCells l) (0, 0) _ HLR.out Try.underlying32 rfl (HSL.out ()) ?_)
            | (refine wpList_load_row rfl 32 (.tmp 3) rfl (w.heap.size + 1) rfl 32 (boolCells h) (0, 0) _ HHR.out Try.underlying32 rfl (HSH.out ()) ?_))
        clear c0
        have hFl := fill_length l h b
        refine (HFILL.out b _).mono ?_
        rintro e w4 ⟨rfl, hb⟩
        have HL4 := Lib.hid (HLR.out.box hb)
        have HH4 := Lib.hid (HHR.out.box hb)
        have HV4 := Lib.hid (HV.out.box hb)
        have HB4 := Lib.hid (HB.out.trans (hb.mono HB.out.size))
        clear hb HLR HHR HV HB
        obtain ⟨F, hF⟩ : ∃ F, M.fill l h b = F := ⟨_, rfl⟩
        rw [hF] at HNX hFl ⊢
        have HFE := Lib.hid fun _ : Unit => hF
        have HFL := Lib.hid hFl
        have HSF := Lib.hid fun _ : Unit => word_size F hFl
        have HS0 : Hid (Unit → (boolCells w0).size = (boolCells F).size) := by intro _; rw [boolCells_size, boolCells_size, w0_length, HFL.out]
        clear hF hFl
        have hz := word_zero
        have H0 : Hid (Row (w4.alloc (.cells (boolCells w0) 32)) w4.heap.size 32 (boolCells w0)) := heap_alloc_new _ _
        go_upto_region 7 with (first
            | (refine wpList_store_row rfl 32 (.tmp 8) (.tmp 24) rfl w4.heap.size (boolCells F) rfl rfl 32 (boolCells w0) H0.out (HSF.out ()) (HS0.out ()) (boolCells_one F) ?_))
        have hg4 := HB4.out.size
        have hl4 := HL4.out.lt
        have hh4 := HH4.out.lt
        have hv4 := HV4.out.lt
        have HF5 : Hid (Row ((w4.alloc (.cells (boolCells w0) 32)).setRow w4.heap.size (boolCells F)) w4.heap.size 32 (boolCells F)) := Row.setRow H0.out _
        have HL5 : Hid (Row ((w4.alloc (.cells (boolCells w0) 32)).setRow w4.heap.size (boolCells F)) w.heap.size 32 (boolCells l)) := (setRow_other _ _ _ _ (by omega)).trans (HL4.out.alloc _)
        have HH5 : Hid (Row ((w4.alloc (.cells (boolCells w0) 32)).setRow w4.heap.size (boolCells F)) (w.heap.size + 1) 32 (boolCells h)) := (setRow_other _ _ _ _ (by omega)).trans (HH4.out.alloc _)
        have HV5 : Hid (Row ((w4.alloc (.cells (boolCells w0) 32)).setRow w4.heap.size (boolCells F)) gv 4 #[.bool false, .bool true]) := (setRow_other _ _ _ _ (by omega)).trans (HV4.out.alloc _)
        have HB5 : Hid (Below w.heap.size w ((w4.alloc (.cells (boolCells w0) 32)).setRow w4.heap.size (boolCells F))) := below_setRow (HB4.out.alloc hg4 _) hg4 _
        clear hz H0 HS0 HL4 HH4 HV4 HB4 hg4 hl4 hh4 hv4
        generalize (w4.alloc (.cells (boolCells w0) 32)).setRow w4.heap.size (boolCells F) = w5 at *
        generalize w4.heap.size = g8 at *
        go_wp2_with (first
            | (refine wpList_load_row rfl 32 (.tmp 8) rfl g8 rfl 32 (boolCells F) (0, 0) _ HF5.out Try.underlying32 rfl (HSF.out ()) ?_))
        refine (syn_any F _ HFL.out).mono ?_
        rintro e w6 ⟨g, hg, rfl, hr, hb⟩
        have HR6 := Lib.hid (row_ints (cap := 20) hr (syn_length F))
        have HF6 := Lib.hid (HF5.out.box hb)
        have HL6 := Lib.hid (HL5.out.box hb)
        have HH6 := Lib.hid (HH5.out.box hb)
        have HV6 := Lib.hid (HV5.out.box hb)
        have HB6 := Lib.hid (HB5.out.trans (hb.mono HB5.out.size))
        clear hg hr hb HF5 HL5 HH5 HV5 HB5
        go_wp2_with fail
        refine (locate_any (castL (syn F)) _ _ HR6.out).mono ?_
        rintro e w7 ⟨r, ok, ps, rfl, hin, hloc, hb⟩
        have HIN := Lib.hid hin
        have HLOC := Lib.hid hloc
        have HF7 := Lib.hid (HF6.out.box hb)
        have HL7 := Lib.hid (HL6.out.box hb)
        have HH7 := Lib.hid (HH6.out.box hb)
        have HV7 := Lib.hid (HV6.out.box hb)
        have HB7 := Lib.hid (HB6.out.trans (hb.mono HB6.out.size))
        clear hin hloc hb HF6 HL6 HH6 HV6 HB6 HR6
        go_wp2_with (first
            | (refine wpList_load_row rfl 32 (.tmp 8) rfl g8 rfl 32 (boolCells F) (0, 0) _ HF7.out Try.underlying32 rfl (HSF.out ()) ?_))
        refine (flip_any F ps r _ HFL.out (loc_few _ _ _ HLOC.out).1 (loc_few _ _ _ HLOC.out).2 HIN.out).mono ?_
        rintro e w8 ⟨rfl, hb⟩
        have HF8 := Lib.hid (HF7.out.box hb)
        have HL8 := Lib.hid (HL7.out.box hb)
        have HH8 := Lib.hid (HH7.out.box hb)
        have HV8 := Lib.hid (HV7.out.box hb)
        have HB8 := Lib.hid (HB7.out.trans (hb.mono HB7.out.size))
        clear hb HF7 HL7 HH7 HV7 HB7 HIN
        have hGl := flips_length F ps
        rw [HFL.out] at hGl
        obtain ⟨G, hG⟩ : ∃ G, flips F ps = G := ⟨_, rfl⟩
        rw [hG] at hGl ⊢
        have HGE := Lib.hid fun _ : Unit => hG
        have HGL := Lib.hid hGl
        have HSG := Lib.hid fun _ : Unit => word_size G hGl
        have HS0 : Hid (Unit → (boolCells w0).size = (boolCells G).size) := by intro _; rw [boolCells_size, boolCells_size, w0_length, HGL.out]
        clear hG hGl
        have hz := word_zero
        have H0 : Hid (Row (w8.alloc (.cells (boolCells w0) 32)) w8.heap.size 32 (boolCells w0)) := heap_alloc_new _ _
        go_upto_region 9 with (first
            | (refine wpList_store_row rfl 32 (.tmp 11) (.tmp 33) rfl w8.heap.size (boolCells G) rfl rfl 32 (boolCells w0) H0.out (HSG.out ()) (HS0.out ()) (boolCells_one G) ?_))
        have hg4 := HB8.out.size
        have hl4 := HL8.out.lt
        have hh4 := HH8.out.lt
        have hv4 := HV8.out.lt
        have HG9 : Hid (Row ((w8.alloc (.cells (boolCells w0) 32)).setRow w8.heap.size (boolCells G)) w8.heap.size 32 (boolCells G)) := Row.setRow H0.out _
        have HL9 : Hid (Row ((w8.alloc (.cells (boolCells w0) 32)).setRow w8.heap.size (boolCells G)) w.heap.size 32 (boolCells l)) := (setRow_other _ _ _ _ (by omega)).trans (HL8.out.alloc _)
        have HH9 : Hid (Row ((w8.alloc (.cells (boolCells w0) 32)).setRow w8.heap.size (boolCells G)) (w.heap.size + 1) 32 (boolCells h)) := (setRow_other _ _ _ _ (by omega)).trans (HH8.out.alloc _)
        have HV9 : Hid (Row ((w8.alloc (.cells (boolCells w0) 32)).setRow w8.heap.size (boolCells G)) gv 4 #[.bool false, .bool true]) := (setRow_other _ _ _ _ (by omega)).trans (HV8.out.alloc _)
        have HB9 : Hid (Below w.heap.size w ((w8.alloc (.cells (boolCells w0) 32)).setRow w8.heap.size (boolCells G))) := below_setRow (HB8.out.alloc hg4 _) hg4 _
        clear hz H0 HS0 HL8 HH8 HV8 HB8 hg4 hl4 hh4 hv4 HF8
        generalize (w8.alloc (.cells (boolCells w0) 32)).setRow w8.heap.size (boolCells G) = w9 at *
        generalize w8.heap.size = g9 at *
        cases ok
        · have HLN : Hid (∀ u : List Bool, u.length = 127 → u.count true ≤ 10 → castL (syn u) ≠ castL (syn F)) := by
            rcases HLOC.out with ⟨h1, _⟩ | ⟨_, _, h1⟩
            · cases h1
            · exact h1
          go_wp2
          go_roundw
          case rel =>
            exact ⟨k + 1, by omega, by go_num, HL9.out, HH9.out, HV9.out, HNX.out fun y hy => amend_no1 F HFL.out HLN.out (cwd y) (cwd_length y) (cwd_cw y), HB9.out⟩
          case measure => simp [intOf] <;> omega
        · have HLY : Hid (∃ u : List Bool, u.length = 127 ∧ u.count true ≤ 10 ∧ castL (syn u) = castL (syn F) ∧ ps = pos u 127) := by
            rcases HLOC.out with ⟨_, h1⟩ | ⟨h1, _⟩
            · exact h1
            · cases h1
          obtain ⟨u, hu1, hu2, hu3, hu4⟩ := HLY.out
          have HGW : Hid (Unit → G = wx F u) := by
            intro _
            rw [← HGE.out (), hu4]
            exact flips_wx F u HFL.out hu1
          have HU1 := Lib.hid hu1
          have HU2 := Lib.hid hu2
          have HU3 := Lib.hid fun _ : Unit => hu3
          clear hu1 hu2 hu3 hu4 HLY
          have HWI := Lib.hid fun W => within_any l h G W HL.out HH.out HGL.out
          have HIF := Lib.hid fun W => info_any G W HGL.out
          have HRES : Hid (farN l h G 127 ≤ 20 → Am l h (told G) 0) := by
            intro hn
            rw [HGW.out ()] at hn ⊢
            exact am_found l h F u HFL.out HU1.out (HU3.out ()) hn
          have HNO : Hid (¬ (farN l h G 127 ≤ 20) → NF l h (k + 1)) := by
            intro hn
            refine HNX.out fun y hy => ?_
            rcases Nat.lt_or_ge 10 (dst F (cwd y)) with h1 | h1
            · exact h1
            · exfalso
              have e := amend_no2 F u HFL.out HU1.out HU2.out (HU3.out ()) (cwd y) (cwd_length y) (cwd_cw y) h1
              rw [HGW.out (), e] at hn
              exact hn hy
          obtain ⟨z, hz⟩ : ∃ z, farN l h G 127 = z := ⟨_, rfl⟩
          rw [hz] at HRES HNO HWI
          clear hz
          go_wp2_with (first
              | (refine wpList_load_guard (by rfl) 32 (.tmp 2) rfl w.heap.size rfl 32 (boolCells l) (0, 0) _ HL9.out Try.underlying32 rfl (HSL.out ()) ?_)
              | (refine wpList_load_guard (by rfl) 32 (.tmp 3) rfl (w.heap.size + 1) rfl 32 (boolCells h) (0, 0) _ HH9.out Try.underlying32 rfl (HSH.out ()) ?_)
              | (refine wpList_load_guard (by rfl) 32 (.tmp 11) rfl g9 rfl 32 (boolCells G) (0, 0) _ HG9.out Try.underlying32 rfl (HSG.out ()) ?_))
          refine (HWI.out _).mono ?_
          rintro e w10 ⟨rfl, hb⟩
          have HG10 := Lib.hid (HG9.out.box hb)
          have HL10 := Lib.hid (HL9.out.box hb)
          have HH10 := Lib.hid (HH9.out.box hb)
          have HV10 := Lib.hid (HV9.out.box hb)
          have HB10 := Lib.hid (HB9.out.trans (hb.mono HB9.out.size))
          clear hb HG9 HL9 HH9 HV9 HB9
          by_cases hz : z ≤ 20
          · have HZ := Lib.hid hz
            rw [show decide (z ≤ 20) = true by rw [decide_eq_true_iff]; exact hz]
            clear hz
            go_wp2_with (first
                | (refine wpList_load_row rfl 32 (.tmp 11) rfl g9 rfl 32 (boolCells G) (0, 0) _ HG10.out Try.underlying32 rfl (HSG.out ()) ?_))
            refine (HIF.out _).mono ?_
            rintro e w11 ⟨rfl, hb⟩
            have HB11 := Lib.hid (HB10.out.trans (hb.mono HB10.out.size))
            clear hb
            go_wp2
            go_ret2
            exact ⟨_, 0, rfl, HRES.out HZ.out, HB11.out⟩
          · have HZ := Lib.hid hz
            rw [show decide (z ≤ 20) = false by rw [decide_eq_false_iff_not]; exact hz]
            clear hz
            go_wp2
            go_roundw
            case rel => exact ⟨k + 1, by omega, by go_num, HL10.out, HH10.out, HV10.out, HNO.out HZ.out, HB10.out⟩
            case measure => simp [intOf] <;> omega
      · obtain rfl : k = 2 := by omega
        go_wp2
        go_ret2
        exact ⟨0, 5, rfl, Or.inr ⟨rfl, rfl, nf_end l h HNF.out⟩, HB.out⟩
end Go.Proofs.Ytbokecpcefcimaa
