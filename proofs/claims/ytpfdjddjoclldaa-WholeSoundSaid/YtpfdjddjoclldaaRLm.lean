/-
  lap's Samples. Conditions: up to 4096 frames, as they lie.
-/
import Derived.Test.YtpfdjddjoclldaaRLj
import Derived.Test.YtpfdjddjoclldaaRLg
import Derived.Deep.RegionWith
namespace Go.Proofs.Ytpfdjddjoclldaa
open Go.RowKit
open M
/-- The frames that lie. -/
def fsl (x : List Int) (n : Nat) : List (List Int) := (List.range n).map (blk x)
theorem fsl_len (x : List Int) (n : Nat) : (fsl x n).length = n := tb_len _ _
def zr (n : Nat) : List Int := List.replicate (32 * n) 0
theorem zr_len (n : Nat) : (zr n).length = 32 * n := List.length_replicate ..
theorem mpk_unw (x : List Int) (n : Nat) : mpk unw n x (zr n) n = jnb ((fsl x n).map unw) := by
  rw [mpk_full]
  unfold fsl
  rw [List.map_map]
  rfl
theorem smp_is (x : List Int) (n : Nat) : sms lfb allT n (mpk unw n x (zr n) n) = smp (fsl x n) := by
  unfold smp
  rw [mpk_unw, fsl_len]
theorem unw_bd (f : List Int) (h : f.length = 32) (i : Nat) : -1099511627776 ≤ (unw f).getD i 0 ∧ (unw f).getD i 0 ≤ 1099511627776 := by
  cases hb : f.any (byd 16777216)
  · rw [unw_yes f hb]
    have hf : ∀ x ∈ f, -16777216 ≤ x ∧ x ≤ 16777216 := fun x hx => by
      have := List.any_eq_false.1 hb x hx
      simp only [byd, decide_eq_true_eq] at this
      omega
    have := M.getD_bd (wbk f) (8 * 16777216 + 256) (by omega) (fun x hx => wbk_small f h 16777216 (by omega) hf x hx) i
    omega
  · rw [unw_no f hb]
    have := M.getD_bd f0 0 (by omega) (fun x hx => by have := List.eq_of_mem_replicate (show x ∈ List.replicate 32 0 from hx); omega) i
    omega
theorem mpk_bd (x : List Int) (n p : Nat) : -1099511627776 ≤ (mpk unw n x (zr n) n).getD p 0 ∧ (mpk unw n x (zr n) n).getD p 0 ≤ 1099511627776 := by
  rcases Nat.lt_or_ge p (32 * n) with h | h
  · unfold mpk
    rw [tb_getD _ _ _ _ h, if_pos (by omega)]
    exact unw_bd _ (blk_len _ _) _
  · rw [List.getD_eq_getElem?_getD, List.getElem?_eq_none (by rw [mpk_len]; exact h)]
    exact ⟨by decide, by decide⟩
theorem mpk_id (n : Nat) (y : List Int) (h : y.length = 32 * n) : mpk (fun f => f) n y (zr n) n = y := by
  rw [mpk_full]
  exact jnb_blk y n h
theorem cells_one_int : (Try.prog.info? 3).map (·.size) = some 1 := by kernel_rfl
theorem int_bytes : (Try.prog.info? 3).map (fun i => (i.zero, i.size, i.bytes)) = some (some (.int .i64 0), 1, 8) := by kernel_rfl
theorem iCells_zeros1 (m : Nat) : madeCells #[.int .i64 0] m = iCells (List.replicate m 0) := by
  apply Array.ext (by rw [size_madeCells, iCells_size, List.length_replicate])
  intro i h1 h2
  simp [madeCells, iCells, Nat.mod_one]
theorem make_ints (n : Nat) (hn : n ≤ 1099511627776) (w : World) : (Instr.makeSlice 27 (.int .i64 0) (.int .i64 (n : Int))).run Try.prog w = .ok (.slice (some ⟨w.heap.size, 0, none⟩) 0 n) (w.alloc (.cells (iCells (List.replicate n 0)) 3)) := by
  obtain ⟨i, hi, hzz⟩ := Option.map_eq_some_iff.1 int_bytes
  simp only [Prod.mk.injEq] at hzz
  obtain ⟨hz, hs, hb⟩ := hzz
  have hr := run_make (P := Try.prog) w 27 3 i _ Try.underlying27 hi hz .i64 .i64 0 n (by omega) (by omega) (by rw [hb]; omega) (by omega)
  rw [hs] at hr
  simp only [Int.toNat_natCast, Int.toNat_zero, Value.cells, Nat.mul_one, iCells_zeros1] at hr
  exact hr
set_option maxRecDepth 100000 in
set_option maxHeartbeats 2000000 in
theorem samples_any (x : List Int) (n cap b : Nat) (w : World) (h : FrAt w b x) (hl : x.length = 32 * n) (hn : n ≤ 4096) :
    Calls Try.prog 19 #[.slice (some ⟨b, 0, none⟩) n cap] w fun e w' => (∃ g, w.heap.size ≤ g ∧ e = .returned (.slice (some ⟨g, 0, none⟩) (32 * n) (32 * n)) ∧ Row w' g 3 (iCells (smp (fsl x n)))) ∧ Below w.heap.size w w' := by
  have hmk := fun w => make_frames n (by omega) w
  have HF := Lib.hid h
  have HB0 := Lib.hid h.1
  have HL := Lib.hid hl
  have HSI := Lib.hid fun _ : Unit => smp_is x n
  have HSW := Lib.hid fun g w1 h => sew_back (mpk unw n x (zr n) n) n n g 52 w1 h (mpk_len ..) (by omega) (mpk_bd x n)
  have HZ := Lib.hid (mpk_zero unw n x (zr n) (zr_len n))
  have HST := Lib.hid (mpk_step unw n x (zr n))
  have HSK := Lib.hid (mpk_skip unw n x (zr n))
  have HML := Lib.hid (mpk_len unw n x (zr n))
  have HBZ := Lib.hid (blk_zeros n)
  change Hid (∀ i, blk (zr n) i = f0) at HBZ
  have HYL : Hid ((smp (fsl x n)).length = 32 * n) := Lib.hid (by rw [smp_len, fsl_len])
  rw [HSI.out ()] at HSW
  clear h hl
  have hnI : (n : Int) ≤ 4096 := by omega
  obtain ⟨Y, hY⟩ : ∃ Y, smp (fsl x n) = Y := ⟨_, rfl⟩
  rw [hY] at HSW HYL ⊢
  clear hY
  have HR0 : Hid (Row (w.alloc (.cells (iCells (List.replicate (32 * n) 0)) 52)) w.heap.size 52 (iCells (zr n))) := heap_alloc_new _ _
  have HBB : Hid (Below w.heap.size w (w.alloc (.cells (iCells (List.replicate (32 * n) 0)) 52))) := Lib.hid ((Below.refl _ _).alloc (Nat.le_refl _) _)
  go_enter Try.func19, Try.ntmps19
  go_wp2_with fail
  clear hmk
  generalize w.alloc (.cells (iCells (List.replicate (32 * n) 0)) 52) = w1 at *
  obtain ⟨g, hg⟩ : ∃ g, w.heap.size = g := ⟨_, rfl⟩
  rw [hg] at HR0 HBB HB0 ⊢
  have HG := Lib.hid fun _ : Unit => hg
  clear hg
  go_loopw [14] (fun ii wr => ∃ k : Nat, k ≤ n ∧ ii = .int .i64 k ∧ Row wr g 52 (iCells (mpk unw n x (zr n) k)) ∧ Below g w wr) (fun ii _ => n - (intOf ii).toNat)
  case atStart => exact ⟨0, by omega, rfl, by rw [HZ.out]; exact HR0.out, HBB.out⟩
  case round =>
    clear HR0 HBB HZ
    obtain ⟨k, hk, rfl, h1, h2⟩ := hrel
    have HR := Lib.hid h1
    have HB := Lib.hid h2
    clear h1 h2
    rcases Nat.lt_or_ge k n with hlt | hge
    · have HFR := Lib.hid (HF.out.below HB.out HB0.out)
      have HLX : Hid (32 * k + 32 ≤ x.length) := Lib.hid (by rw [HL.out]; omega)
      have HLE : Hid (32 * k + 32 ≤ (mpk unw n x (zr n) k).length) := Lib.hid (by rw [HML.out]; omega)
      have hstep := HST.out k
      have hskip := HSK.out k
      rw [HBZ.out] at hskip
      obtain ⟨F, hF⟩ : ∃ F, blk x k = F := ⟨_, rfl⟩
      have hfl : F.length = 32 := by rw [← hF]; exact blk_len _ _
      rw [hF] at hstep hskip
      have HA0 : Hid (Row (wr.alloc (.cells (iCells f0) 52)) wr.heap.size 52 (iCells f0)) := heap_alloc_new _ _
      have HR1 := Lib.hid (Row.alloc HR.out (.cells (iCells f0) 52))
      have HB1 : Hid (Below g w (wr.alloc (.cells (iCells f0) 52))) := Lib.hid (HB.out.alloc (Nat.le_of_lt (Row.lt HR.out)) _)
      have HNE : Hid (g < wr.heap.size) := Lib.hid (Row.lt HR.out)
      have HSZ := Lib.hid fun _ : Unit => frame_size F hfl
      have HSS := Lib.hid fun _ : Unit => frame_same f0 F f0_length hfl
      have hkI : (k : Int) < (n : Int) := by omega
      have HK := Lib.hid hlt
      have HFL := Lib.hid hfl
      have HSTP := Lib.hid fun _ : Unit => hstep
      have HSKP := Lib.hid hskip
      have HFF := Lib.hid fun _ : Unit => hF
      have hz := frame_zero wr
      clear hstep hskip hF hk hlt hfl
      generalize mpk unw n x (zr n) k = Z at *
      obtain ⟨gf, hgf⟩ : ∃ gf, wr.heap.size = gf := ⟨_, rfl⟩
      rw [hgf] at HA0 HNE
      have HGF := Lib.hid fun _ : Unit => hgf
      go_wp2_with (first
        | (refine wpList_load_fr rfl 52 (.tmp 17) rfl b k (k * 32) (Nat.mul_comm _ _) rfl x _ HFR.out HLX.out Try.underlying52 rfl frame_32 ?_; rw [HFF.out ()])
        | (refine wpList_store_row rfl 52 (.tmp 5) (.tmp 18) rfl gf (iCells F) rfl rfl 52 (iCells f0) HA0.out (HSZ.out ()) (HSS.out ()) (iCells_one F) ?_; clear hz; have HA2 := Lib.hid (Row.setRow HA0.out (iCells F)); have HR2 : Hid (Row ((wr.alloc (.cells (iCells f0) 52)).setRow gf (iCells F)) g 52 (iCells Z)) := Lib.hid ((setRow_other _ _ _ _ (Nat.ne_of_lt HNE.out)).trans HR1.out); have HB2 := Lib.hid (below_setRow HB1.out (Nat.le_of_lt HNE.out) (iCells F)); clear hgf; generalize (wr.alloc (.cells (iCells f0) 52)).setRow gf (iCells F) = w5 at *))
      simp only [Act.put]
      clear HR1 HA0 HB1 HR HB HFR
      go_region_with (first
        | (go_at_call 25; refine (beyond_ex 16777216 _).mono ?_; rintro e w6 ⟨gb, rfl, hcb, hb6⟩; have HA6 := Lib.hid (Row.box (w := w5.drew) HA2.out hb6); have HR6 := Lib.hid (Row.box (w := w5.drew) HR2.out hb6); have HB6 := Lib.hid ((below_drew1 HB2.out).trans (hb6.mono (show g ≤ w5.heap.size from Nat.le_of_lt (Row.lt HR2.out)))); have HCB := Lib.hid hcb; clear hcb hb6 HA2 HR2 HB2)
        | (go_at_call 24; refine (contains_any 16777216 F _ gb w6 (by have := ints_row HA6.out 32; rw [HFL.out] at this; exact this) (by rw [HFL.out]; decide) HCB.out (by decide) (by decide)).mono ?_; rintro e w7 ⟨rfl, rfl⟩))
      (try simp only [List.getElem_toArray, List.getElem_cons_succ, List.getElem_cons_zero, Act.put, List.setIfInBounds_toArray, List.set_cons_zero, List.set_cons_succ])
      cases hb : F.any (byd 16777216)
      · have HHL := Lib.hid (any_Hld F HFL.out hb)
        have HUW := Lib.hid (unw_yes F hb)
        rw [HUW.out] at HSTP
        clear hb HUW HSKP
        go_wp2_with (first
          | (refine wpList_load_row rfl 52 (.tmp 5) rfl gf rfl 52 (iCells F) (0, 0) _ HA6.out Try.underlying52 rfl (HSZ.out ()) ?_))
        refine (wback_in F w7 HHL.out).mono ?_
        rintro e w8 ⟨rfl, hb8⟩
        have HR8 := Lib.hid (Row.box HR6.out hb8)
        have HB8 := Lib.hid (HB6.out.trans (hb8.mono (Nat.le_of_lt (Row.lt HR6.out))))
        clear hb8 HR6 HB6 HA6
        go_wp2_with (first
          | (refine wpList_store_part rfl 52 (.tmp 27) (.tmp 26) rfl g k (k * 32) (Nat.mul_comm _ _) (wbk F) rfl rfl 52 Z HR8.out HLE.out (wbk_len F) frame_32 ?_; have HR9 := Lib.hid (Row.setRow HR8.out (iCells (putb Z k (wbk F)))); have HB9 := Lib.hid (below_setRow HB8.out (Nat.le_refl g) (iCells (putb Z k (wbk F)))); generalize w8.setRow g (iCells (putb Z k (wbk F))) = w9 at *))
        go_roundw
        case rel => exact ⟨k + 1, HK.out, by go_num, by rw [← HSTP.out ()]; exact HR9.out, HB9.out⟩
        case measure =>
          have := HK.out
          simp only [intOf]
          omega
      · have HE := Lib.hid (HSKP.out (unw_no F hb))
        clear hb HSKP HSTP
        go_wp2_with fail
        go_roundw
        case rel => exact ⟨k + 1, HK.out, by go_num, by rw [HE.out]; exact HR6.out, HB6.out⟩
        case measure =>
          have := HK.out
          simp only [intOf]
          omega
    · obtain rfl : k = n := by omega
      clear HST HSK HBZ HF HB0 HL HML
      have HSW2 := Lib.hid (HSW.out g _ HR.out)
      clear HSW
      go_wp2_with fail
      refine HSW2.out.mono ?_
      rintro e w2 ⟨rfl, hr, hb2⟩
      have HRY := Lib.hid hr
      have HBY := Lib.hid (HB.out.trans hb2)
      clear hr hb2 HSW2 HR HB HSI
      obtain ⟨m, hm⟩ : ∃ m : Nat, 32 * k = m := ⟨_, rfl⟩
      have h32 : (32 : Int) * (k : Int) = (m : Int) := by omega
      have hmb : (m : Int) ≤ 131072 := by omega
      have hmk2 := make_ints m (by omega) w2
      have HO0 : Hid (Row (w2.alloc (.cells (iCells (List.replicate m 0)) 3)) w2.heap.size 3 (iCells (zr k))) := by
        unfold zr
        rw [hm]
        exact heap_alloc_new _ _
      have HM := Lib.hid fun _ : Unit => hm
      clear hm
      have HY0 := Lib.hid (Row.alloc HRY.out (.cells (iCells (List.replicate m 0)) 3))
      have HB0 : Hid (Below g w (w2.alloc (.cells (iCells (List.replicate m 0)) 3))) := Lib.hid (HBY.out.alloc (Nat.le_of_lt (Row.lt HRY.out)) _)
      have HNE : Hid (g < w2.heap.size) := Lib.hid (Row.lt HRY.out)
      go_wp2_with fail
      clear hmk2 HRY HBY
      generalize w2.alloc (.cells (iCells (List.replicate m 0)) 3) = w3 at *
      obtain ⟨go, hgo⟩ : ∃ go, w2.heap.size = go := ⟨_, rfl⟩
      rw [hgo] at HO0 HNE ⊢
      clear hgo
      have HZ := Lib.hid (mpk_zero (fun f => f) k Y (zr k) (zr_len k))
      have HST := Lib.hid (mpk_step (fun f => f) k Y (zr k))
      have HML := Lib.hid (mpk_len (fun f => f) k Y (zr k))
      have HID := Lib.hid fun _ : Unit => mpk_id k Y HYL.out
      clear hk hge
      go_loopw [37, 6] (fun ii oo wr => ∃ i : Nat, i ≤ k ∧ ii = .int .i64 i ∧ oo = .slice (some ⟨go, 0, none⟩) (32 * i) m ∧ Row wr g 52 (iCells Y) ∧ Row wr go 3 (iCells (mpk (fun f => f) k Y (zr k) i)) ∧ Below g w wr) (fun ii _ _ => k - (intOf ii).toNat)
      case atStart => exact ⟨0, by omega, rfl, rfl, HY0.out, by rw [HZ.out]; exact HO0.out, HB0.out⟩
      case round =>
        clear HO0 HY0 HB0 HZ
        obtain ⟨i, hi, rfl, rfl, h1, h2, h3⟩ := hrel
        have HR := Lib.hid h1
        have HO := Lib.hid h2
        have HB := Lib.hid h3
        clear h1 h2 h3
        rcases Nat.lt_or_ge i k with hlt | hge
        · have hstep := HST.out i
          have HLY : Hid (32 * i + 32 ≤ Y.length) := Lib.hid (by rw [HYL.out]; omega)
          have HLE : Hid (32 * i + 32 ≤ (mpk (fun f => f) k Y (zr k) i).length) := Lib.hid (by rw [HML.out]; omega)
          obtain ⟨F, hF⟩ : ∃ F, blk Y i = F := ⟨_, rfl⟩
          have hfl : F.length = 32 := by rw [← hF]; exact blk_len _ _
          rw [hF] at hstep
          have HA0 : Hid (Row (wr.alloc (.cells (iCells f0) 52)) wr.heap.size 52 (iCells f0)) := heap_alloc_new _ _
          have HR1 := Lib.hid (Row.alloc HR.out (.cells (iCells f0) 52))
          have HO1 := Lib.hid (Row.alloc HO.out (.cells (iCells f0) 52))
          have HB1 : Hid (Below g w (wr.alloc (.cells (iCells f0) 52))) := Lib.hid (HB.out.alloc (Nat.le_of_lt (Row.lt HR.out)) _)
          have HNF : Hid (g < wr.heap.size ∧ go < wr.heap.size) := Lib.hid ⟨Row.lt HR.out, Row.lt HO.out⟩
          have HSZ := Lib.hid fun _ : Unit => frame_size F hfl
          have HSS := Lib.hid fun _ : Unit => frame_same f0 F f0_length hfl
          have hiI : (i : Int) < (k : Int) := by omega
          have HK := Lib.hid hlt
          have HFL := Lib.hid hfl
          have HSTP := Lib.hid fun _ : Unit => hstep
          have HFF := Lib.hid fun _ : Unit => hF
          have HCAP : Hid (32 * i + 32 ≤ m) := Lib.hid (by have := HM.out (); omega)
          have hz := frame_zero wr
          clear hstep hF hi hlt hfl
          generalize mpk (fun f => f) k Y (zr k) i = Z at *
          obtain ⟨gf, hgf⟩ : ∃ gf, wr.heap.size = gf := ⟨_, rfl⟩
          rw [hgf] at HA0 HNF
          go_wp2_with (first
            | (refine wpList_load_part rfl 52 (.tmp 39) rfl g i (i * 32) (Nat.mul_comm _ _) rfl 52 Y _ HR.out HLY.out Try.underlying52 rfl frame_32 ?_; rw [HFF.out ()])
            | (refine wpList_store_row rfl 52 (.tmp 8) (.tmp 40) rfl gf (iCells F) rfl rfl 52 (iCells f0) HA0.out (HSZ.out ()) (HSS.out ()) (iCells_one F) ?_; clear hz; have HA2 := Lib.hid (Row.setRow HA0.out (iCells F)); have HR2 : Hid (Row ((wr.alloc (.cells (iCells f0) 52)).setRow gf (iCells F)) g 52 (iCells Y)) := Lib.hid ((setRow_other _ _ _ _ (Nat.ne_of_lt HNF.out.1)).trans HR1.out); have HO2 : Hid (Row ((wr.alloc (.cells (iCells f0) 52)).setRow gf (iCells F)) go 3 (iCells Z)) := Lib.hid ((setRow_other _ _ _ _ (Nat.ne_of_lt HNF.out.2)).trans HO1.out); have HB2 := Lib.hid (below_setRow HB1.out (Nat.le_of_lt HNF.out.1) (iCells F)); clear hgf; generalize (wr.alloc (.cells (iCells f0) 52)).setRow gf (iCells F) = w5 at *)
            | (at_builtin; refine wpList_append_block rfl (.tmp 41) (.tmp 42) 27 3 rfl Try.underlying27 cells_one_int go gf i m 32 3 52 Z F rfl rfl HO2.out HA2.out HFL.out HLE.out HCAP.out ?_; have HO3 := Lib.hid (Row.setRow HO2.out (iCells (putb Z i F))); have HR3 : Hid (Row (w5.setRow go (iCells (putb Z i F))) g 52 (iCells Y)) := Lib.hid ((setRow_other _ _ _ _ (Nat.ne_of_lt HNE.out)).trans HR2.out); have HB3 := Lib.hid (below_setRow HB2.out (Nat.le_of_lt HNE.out) (iCells (putb Z i F))); generalize w5.setRow go (iCells (putb Z i F)) = w6 at *))
          go_roundw
          case rel => exact ⟨i + 1, HK.out, by go_num, rfl, HR3.out, by rw [← HSTP.out ()]; exact HO3.out, HB3.out⟩
          case measure =>
            have := HK.out
            simp only [intOf]
            omega
        · obtain rfl : i = k := by omega
          have ho := HO.out
          rw [HID.out ()] at ho
          clear HO HST HML HID
          have HO := Lib.hid ho
          clear ho
          go_wp2_with fail
          go_ret
          exact ⟨⟨go, by rw [HG.out ()]; exact Nat.le_of_lt HNE.out, by rw [HM.out ()]; rfl, HO.out⟩, by rw [HG.out ()]; exact HB.out⟩
end Go.Proofs.Ytpfdjddjoclldaa
