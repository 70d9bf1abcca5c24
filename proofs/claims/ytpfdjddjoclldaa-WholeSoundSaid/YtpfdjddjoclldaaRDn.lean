/-
  dct's Waves. Conditions: a frame of 32 ints; what is held is answered as wav tells, what isn't stays.
-/
import Derived.Test.YtpfdjddjoclldaaRDl
import Derived.Test.YtpfdjddjoclldaaRDj
import Derived.Test.YtpfdjddjoclldaaRDk
import Derived.StillTailTactics
namespace Go.Proofs.Ytpfdjddjoclldaa
open Go.RowKit
open M
theorem whlF_info : (Try.prog.info? 63).map (fun i => (i.zero, i.size)) = some (some (.agg (iCells (flat z16))), 32) := by kernel_rfl
theorem whlF_zero (w : World) : (zeroValue 63).run Try.prog w = .ok (.agg (iCells (flat z16))) w := (zero_of_info whlF_info).1 w
theorem prF_info : (Try.prog.info? 61).map (fun i => (i.zero, i.size)) = some (some (.agg #[.int .i64 0, .int .i64 0]), 2) := by kernel_rfl
theorem prF_zero (w : World) : (zeroValue 61).run Try.prog w = .ok (.agg #[.int .i64 0, .int .i64 0]) w := (zero_of_info prF_info).1 w
set_option maxRecDepth 100000 in
theorem waves_out (f : List Int) (w : World) (hf : f.length = 32) (hn : hldB f = false) :
    Calls Try.prog 30 #[.agg (iCells f)] w fun e w' => e = .returned (.agg (iCells f)) ∧ Below w.heap.size w w' := by
  have HRF : Hid (Row ((w.alloc (.cells (iCells f) 52)).alloc (.cells (iCells f0) 52)) w.heap.size 52 (iCells f)) := heap_alloc2_old _ _ _
  have HRZ : Hid (Row ((w.alloc (.cells (iCells f) 52)).alloc (.cells (iCells f0) 52)) (w.heap.size + 1) 52 (iCells f0)) := heap_alloc2_new _ _ _
  have HB0 : Hid (Below w.heap.size w ((w.alloc (.cells (iCells f) 52)).alloc (.cells (iCells f0) 52))) := ((Below.refl _ _).alloc (Nat.le_refl _) _).alloc (by simp) _
  have HSZ := Lib.hid (frame_size f hf)
  have HSS := Lib.hid (frame_same f0 f f0_length hf)
  have HF := Lib.hid hf
  have HN := Lib.hid hn
  have hz := frame_zero (w.alloc (.cells (iCells f) 52))
  clear hf hn
  go_enter Try.func30, Try.ntmps30
  go_wp2_with (refine wpList_load_row rfl 52 (.tmp 1) rfl w.heap.size rfl 52 (iCells f) (0, 0) _ HRF.out Try.underlying52 rfl HSZ.out ?_)
  clear hz
  generalize (w.alloc (.cells (iCells f) 52)).alloc (.cells (iCells f0) 52) = w1 at *
  refine (dheld_any f _ HF.out).mono ?_
  rintro e w2 ⟨rfl, hb⟩
  rw [HN.out]
  have HRF2 := Lib.hid (Row.box HRF.out hb)
  have HRZ2 := Lib.hid (Row.box HRZ.out hb)
  have HB2 := Lib.hid (HB0.out.trans (hb.mono HB0.out.size))
  clear hb HRF HRZ HB0
  go_wp2_with (first
    | (refine wpList_load_row rfl 52 (.tmp 1) rfl w.heap.size rfl 52 (iCells f) (0, 0) _ HRF2.out Try.underlying52 rfl HSZ.out ?_)
    | (refine wpList_store_row rfl 52 (.tmp 2) (.tmp 10) rfl (w.heap.size + 1) (iCells f) rfl rfl 52 (iCells f0) HRZ2.out HSZ.out HSS.out (iCells_one f) ?_))
  refine bodyPost_ret (v := .agg (iCells f)) (results_cell_row Try.results30 _ _ (w.heap.size + 1) 52 (iCells f) (0, 0) _ rfl (Row.setRow HRZ2.out _) Try.underlying52 rfl HSZ.out) rfl ⟨rfl, below_setRow HB2.out (by omega) _⟩
/-- What stays through a loop: the frame, the answer's block, the wheel. -/
structure WSF (w : World) (g : Nat) (F : List Int) (l : List (Int × Int)) (w' : World) : Prop where
  gt : w.heap.size + 1 < g
  fr : Row w' w.heap.size 52 (iCells F)
  an : Row w' (w.heap.size + 1) 52 (iCells f0)
  wh : WAt w' g l
  be : Below w.heap.size w w'
theorem WSF.call {w w1 w2 : World} {g : Nat} {F : List Int} {l m : List (Int × Int)} (h : WSF w g F l w1) (hb : Below g w1 w2) (hm : WAt w2 g m) : WSF w g F m w2 := by
  have hg := h.gt
  exact ⟨h.gt, h.fr.below hb (by omega), h.an.below hb (by omega), hm, h.be.trans (hb.mono (by omega))⟩
theorem WSF.put {w w1 : World} {g : Nat} {F : List Int} {l : List (Int × Int)} (h : WSF w g F l w1) (n : Nat) (x y : Int) (hn : n < l.length) : WSF w g F (l.set n (x, y)) ((w1.setCell ⟨g, n * 2, none⟩ (.int .i64 x)).setCell ⟨g, n * 2 + 1, none⟩ (.int .i64 y)) := by
  have hg := h.gt
  exact ⟨h.gt, (h.fr.far (p := ⟨g, n * 2, none⟩) (by show w.heap.size ≠ g; omega) _).far (p := ⟨g, n * 2 + 1, none⟩) (by show w.heap.size ≠ g; omega) _,
   (h.an.far (p := ⟨g, n * 2, none⟩) (by show w.heap.size + 1 ≠ g; omega) _).far (p := ⟨g, n * 2 + 1, none⟩) (by show w.heap.size + 1 ≠ g; omega) _,
   h.wh.both n x y hn, below_set (below_set h.be _ _ (by omega) _) _ _ (by omega) _⟩
theorem WSF.drew {w w1 : World} {g : Nat} {F : List Int} {l : List (Int × Int)} (h : WSF w g F l w1) : WSF w g F l w1.drew := ⟨h.gt, h.fr, h.an, h.wh, below_drew1 h.be⟩
theorem WSF.sets {w w1 : World} {g : Nat} {F : List Int} {l : List (Int × Int)} (h : WSF w g F l w1) (i j : Nat) (x y : Int) : WSF w g ((F.set i x).set j y) l ((w1.setCell ⟨w.heap.size, i, none⟩ (.int .i64 x)).setCell ⟨w.heap.size, j, none⟩ (.int .i64 y)) := by
  have hg := h.gt
  refine ⟨h.gt, ?_, (h.an.far (p := ⟨w.heap.size, i, none⟩) (by show w.heap.size + 1 ≠ w.heap.size; omega) _).far (p := ⟨w.heap.size, j, none⟩) (by show w.heap.size + 1 ≠ w.heap.size; omega) _,
    Row.far (Row.far h.wh (p := ⟨w.heap.size, i, none⟩) (by show g ≠ w.heap.size; omega) _) (p := ⟨w.heap.size, j, none⟩) (by show g ≠ w.heap.size; omega) _, below_set (below_set h.be _ _ (by omega) _) _ _ (by omega) _⟩
  have := (h.fr.set i (.int .i64 x)).set j (.int .i64 y)
  rw [iCells_set, iCells_set] at this
  exact this
set_option maxRecDepth 100000 in
set_option maxHeartbeats 2000000 in
theorem waves_in (f : List Int) (w : World) (hf : Hld f) :
    Calls Try.prog 30 #[.agg (iCells f)] w fun e w' => e = .returned (.agg (iCells (wav f))) ∧ Below w.heap.size w w' := by
  have HRF : Hid (Row ((w.alloc (.cells (iCells f) 52)).alloc (.cells (iCells f0) 52)) w.heap.size 52 (iCells f)) := heap_alloc2_old _ _ _
  have HRZ : Hid (Row ((w.alloc (.cells (iCells f) 52)).alloc (.cells (iCells f0) 52)) (w.heap.size + 1) 52 (iCells f0)) := heap_alloc2_new _ _ _
  have HB0 : Hid (Below w.heap.size w ((w.alloc (.cells (iCells f) 52)).alloc (.cells (iCells f0) 52))) := ((Below.refl _ _).alloc (Nat.le_refl _) _).alloc (by simp) _
  have HSZ := Lib.hid (frame_size f hf.1)
  have HN := Lib.hid (Hld.yes hf)
  have HF := Lib.hid hf
  have hz := frame_zero (w.alloc (.cells (iCells f) 52))
  clear hf
  go_enter Try.func30, Try.ntmps30
  go_wp2_with (refine wpList_load_row rfl 52 (.tmp 1) rfl w.heap.size rfl 52 (iCells f) (0, 0) _ HRF.out Try.underlying52 rfl HSZ.out ?_)
  clear hz
  generalize (w.alloc (.cells (iCells f) 52)).alloc (.cells (iCells f0) 52) = w1 at *
  refine (dheld_any f _ HF.out.1).mono ?_
  rintro e w2 ⟨rfl, hb⟩
  rw [HN.out]
  have HRF2 := Lib.hid (Row.box HRF.out hb)
  have HRZ2 := Lib.hid (Row.box HRZ.out hb)
  have HB2 := Lib.hid (HB0.out.trans (hb.mono HB0.out.size))
  have hgt := Row.lt HRZ2.out
  clear hb HRF HRZ HB0
  have hz := whlF_zero w2
  have HS3 : Hid (WSF w w2.heap.size f z16 (w2.alloc (.cells (iCells (flat z16)) 63))) := ⟨hgt, Row.alloc HRF2.out _, Row.alloc HRZ2.out _, heap_alloc_new _ _, HB2.out.alloc (by omega) _⟩
  clear hgt HRF2 HRZ2 HB2
  go_wp2_with fail
  clear hz
  generalize w2.heap.size = g at *
  generalize w2.alloc (.cells (iCells (flat z16)) 63) = w3 at *
  go_loopw [11] (fun ii wr => ∃ n : Nat, n ≤ 16 ∧ ii = .int .i64 n ∧ WSF w g f (ptk f n) wr) (fun ii _ => 16 - (intOf ii).toNat)
  case atStart => exact ⟨0, by omega, rfl, by rw [ptk_zero]; exact HS3.out⟩
  case round =>
    clear HS3
    obtain ⟨n, hn, rfl, h1⟩ := hrel
    have HS := Lib.hid h1
    clear h1
    rcases Nat.lt_or_ge n 16 with hlt | hge
    · have e1 := i_at HS.out.fr (2 * n) (by rw [HF.out.1]; omega)
      have e2 := i_at HS.out.fr (31 - 2 * n) (by rw [HF.out.1]; omega)
      have hb1 := Hld.at HF.out (2 * n)
      have hb2 := Hld.at HF.out (31 - 2 * n)
      have HST := Lib.hid (ptk_step f n)
      have hi1 : (2 : Int) * (n : Int) = ((2 * n : Nat) : Int) := by omega
      have hi2 : (31 : Int) - ((2 * n : Nat) : Int) = ((31 - 2 * n : Nat) : Int) := by omega
      have hd1 : ((2 * n : Nat) : Int) < 32 := by omega
      have hd2 : ((31 - 2 * n : Nat) : Int) < 32 := by omega
      obtain ⟨a, ha⟩ : ∃ a, f.getD (2 * n) 0 = a := ⟨_, rfl⟩
      obtain ⟨b, hb⟩ : ∃ b, f.getD (31 - 2 * n) 0 = b := ⟨_, rfl⟩
      rw [ha] at e1 hb1 HST
      rw [hb] at e2 hb2 HST
      clear ha hb hn
      generalize 31 - 2 * n = d2 at hi2 hd2 e2
      generalize 2 * n = d1 at hi1 hi2 hd1 e1
      have HWN := Lib.hid (ptk_len f n)
      have c0 := HS.out.wh.c0 n (by rw [HWN.out]; exact hlt)
      have c1 := HS.out.wh.c1 n (by rw [HWN.out]; exact hlt)
      have fz := fun i => Row.free HS.out.wh i
      have hz := fun u => prF_zero u
      go_wp2_with fail
      have hnI : (n : Int) < 16 := by omega
      have hr1 : IntKind.i64.wrap (d1 : Int) = (d1 : Int) := by rw [IntKind.wrap_i64]; omega
      have hr2 : IntKind.i64.wrap (d2 : Int) = (d2 : Int) := by rw [IntKind.wrap_i64]; omega
      go_region_with (fail)
      all_goals
        clear hnI hi1 hi2 hd1 hd2 hr1 hr2
        go_wp2_with fail
        clear hz c0 c1 fz e1 e2
        have hP := (HS.out.put n a b (by rw [HWN.out]; exact hlt)).drew
        generalize ((wr.setCell ⟨g, n * 2, none⟩ (.int .i64 a)).setCell ⟨g, n * 2 + 1, none⟩ (.int .i64 b)).drew = w4 at hP ⊢
        have HP := Lib.hid hP
        clear hP
        refine (slant_any n _ hlt).mono ?_
        rintro e w' ⟨rfl, rfl⟩
        go_wp2_with fail
        have hg := getD_set_self (ptk f n) n (a, b) (0, 0) (by rw [HWN.out]; exact hlt)
        refine (forth_any ((ptk f n).set n (a, b)) n (-(8 * (n : Int) + 2)) g _ HP.out.wh (by rw [List.length_set]; exact HWN.out) hlt (by rw [hg]; exact ⟨by show -1099511627776 ≤ a; omega, by show a ≤ 1099511627776; omega, by show -1099511627776 ≤ b; omega, by show b ≤ 1099511627776; omega⟩) (by omega) (by omega)).mono ?_
        rintro e w5 ⟨rfl, h1, h2⟩
        rw [hg, List.set_set, HST.out] at h1
        have HS5 := Lib.hid (HP.out.call h2 h1)
        clear h1 h2 hg HP HS HST hb1 hb2
        go_wp2_with fail
        go_roundw
        case rel => exact ⟨n + 1, hlt, by go_num, HS5.out⟩
        case measure => simp [intOf] <;> omega
    · obtain rfl : n = 16 := by omega
      have h1 := HS.out
      rw [ptk_full] at h1
      have HS4 := Lib.hid h1
      clear h1 HS hn hge
      go_wp2_with fail
      rw [show (#[.int .i64 16, .int .i64 8, .int .i64 4, .int .i64 2] : Array Value) = iCells [16, 8, 4, 2] from rfl]
      refine (round_meet f HF.out g _ HS4.out.wh).mono ?_
      rintro e w5 ⟨rfl, h1, h2⟩
      have HS5 := Lib.hid (HS4.out.call h2 h1)
      clear h1 h2 HS4
      have HBD := Lib.hid (wrF_Bd f HF.out 4)
      have HLN := Lib.hid (wrd_len f 4)
      have HWV : Hid (outp (wrd f 4) = wav f) := rfl
      obtain ⟨l, hl⟩ : ∃ l, wrd f 4 = l := ⟨_, rfl⟩
      rw [hl] at HS5 HBD HLN HWV
      clear hl
      go_wp2_with fail
      go_loopw [33] (fun ii wr => ∃ k : Nat, k ≤ 16 ∧ ii = .int .i64 k ∧ WSF w g (ouf f l k) (ouw l k) wr) (fun ii _ => 16 - (intOf ii).toNat)
      case atStart => exact ⟨0, by omega, rfl, by rw [ouf_zero _ _ HF.out.1, ouw_zero _ HLN.out]; exact HS5.out⟩
      case round =>
        clear HS5
        obtain ⟨k, hk, rfl, h1⟩ := hrel
        have HS := Lib.hid h1
        clear h1
        rcases Nat.lt_or_ge k 16 with hlt | hge
        · have HFL := Lib.hid (flp_lt k)
          have HAT := Lib.hid (ouw_at l k hlt)
          have HSW := Lib.hid (ouw_step l k hlt)
          have HSF := Lib.hid (ouf_step f l k hlt)
          have HB1 := Lib.hid (HBD.out (flp k))
          have HL1 := Lib.hid (ouw_len l k)
          have hq := lft_bd HB1.out (by omega) (-(8 * (k : Int) + 2))
          obtain ⟨n, hn⟩ : ∃ n, flp k = n := ⟨_, rfl⟩
          have HN1 := Lib.hid hn
          rw [hn] at HFL HAT HSW HSF HB1 hq
          obtain ⟨q, hqq⟩ : ∃ q, lft (l.getD n (0, 0)) (-(8 * (k : Int) + 2)) = q := ⟨_, rfl⟩
          have HQ := Lib.hid hqq
          rw [hqq] at HSW HSF hq
          clear hn hqq hk
          obtain ⟨x, y⟩ := q
          have hy1 := hq.b1
          have hy2 := hq.b2
          clear hq
          dsimp only at hy1 hy2 HSF
          go_wp2_with fail
          refine (flip_any k _ hlt).mono ?_
          rintro e w' ⟨rfl, rfl⟩
          rw [HN1.out]
          go_wp2_with fail
          refine (slant_any k _ hlt).mono ?_
          rintro e w' ⟨rfl, rfl⟩
          go_wp2_with fail
          refine (forth_any (ouw l k) n (-(8 * (k : Int) + 2)) g _ HS.out.wh HL1.out HFL.out (by rw [HAT.out]; exact HB1.out.more (by omega)) (by omega) (by omega)).mono ?_
          rintro e w6 ⟨rfl, h1, h2⟩
          rw [HAT.out, HQ.out, HSW.out] at h1
          have HS2 := Lib.hid (HS.out.call h2 h1)
          have hxy : (ouw l (k + 1)).getD n (0, 0) = (x, y) := by
            rw [← HSW.out]; exact getD_set_self _ _ _ _ (by rw [HL1.out]; exact HFL.out)
          clear h1 h2 HS HAT HB1 HQ HSW
          have c0 := HS2.out.wh.c0 n (by rw [ouw_len]; exact HFL.out)
          have c1 := HS2.out.wh.c1 n (by rw [ouw_len]; exact HFL.out)
          rw [hxy] at c0 c1
          dsimp only at c0 c1
          have e1 := i_at HS2.out.fr (2 * k) (by rw [ouf_len]; omega)
          have e2 := i_at HS2.out.fr (31 - 2 * k) (by rw [ouf_len]; omega)
          have ff := fun i => Row.free HS2.out.fr i
          have hgt := HS2.out.gt
          have hne1 : w.heap.size ≠ g := by omega
          have hne2 : g ≠ w.heap.size := by omega
          clear hgt hxy
          have hnI : (n : Int) < 16 := by have := HFL.out; omega
          have hi1 : (2 : Int) * (k : Int) = ((2 * k : Nat) : Int) := by omega
          have hi2 : (31 : Int) - ((2 * k : Nat) : Int) = ((31 - 2 * k : Nat) : Int) := by omega
          have hd1 : ((2 * k : Nat) : Int) < 32 := by omega
          have hd2 : ((31 - 2 * k : Nat) : Int) < 32 := by omega
          have hdd : 2 * k ≠ 31 - 2 * k := by omega
          obtain ⟨d1, hD1⟩ : ∃ d, 2 * k = d := ⟨_, rfl⟩
          obtain ⟨d2, hD2⟩ : ∃ d, 31 - 2 * k = d := ⟨_, rfl⟩
          rw [hD2] at hi2 hd2 e2 hdd HSF
          rw [hD1] at hi1 hi2 hd1 e1 hdd HSF
          clear hD1 hD2
          have hr1 : IntKind.i64.wrap (d1 : Int) = (d1 : Int) := by rw [IntKind.wrap_i64]; omega
          have hr2 : IntKind.i64.wrap (d2 : Int) = (d2 : Int) := by rw [IntKind.wrap_i64]; omega
          have hr3 : IntKind.i64.wrap (-y) = -y := by rw [IntKind.wrap_i64]; omega
          clear hy1 hy2
          go_wp2_with fail
          go_region_with (fail)
          all_goals
            clear c0 c1 e1 e2 ff hne1 hne2 hnI hi1 hi2 hd1 hd2 hdd hr1 hr2 hr3
            go_wp2_with fail
            refine ⟨⟨k + 1, hlt, by go_num, ?_⟩, ?_⟩
            · have h := (HS2.out.sets d1 d2 x (-y)).drew
              rw [HSF.out] at h
              exact h
            · simp only [intOf]
              omega
        · obtain rfl : k = 16 := by omega
          have h1 := HS.out
          rw [ouf_full, HWV.out] at h1
          have HS6 := Lib.hid h1
          have HSW := Lib.hid (frame_size (wav f) (wav_len f))
          have HSS := Lib.hid (frame_same f0 (wav f) f0_length (wav_len f))
          clear h1 HS hk hge HWV HBD HLN
          obtain ⟨v, hv⟩ : ∃ v, wav f = v := ⟨_, rfl⟩
          rw [hv] at HS6 HSW HSS
          have HVV := Lib.hid hv
          clear hv
          go_wp2_with (first
            | (refine wpList_load_row rfl 52 (.tmp 1) rfl w.heap.size rfl 52 (iCells v) (0, 0) _ HS6.out.fr Try.underlying52 rfl HSW.out ?_)
            | (refine wpList_store_row rfl 52 (.tmp 2) (.tmp 59) rfl (w.heap.size + 1) (iCells v) rfl rfl 52 (iCells f0) HS6.out.an HSW.out HSS.out (iCells_one v) ?_))
          refine bodyPost_ret (v := .agg (iCells v)) (results_cell_row Try.results30 _ _ (w.heap.size + 1) 52 (iCells v) (0, 0) _ rfl (Row.setRow HS6.out.an _) Try.underlying52 rfl HSW.out) rfl ⟨by rw [HVV.out], below_setRow HS6.out.be (by omega) _⟩
end Go.Proofs.Ytpfdjddjoclldaa
