/-
  lap's Frames. Conditions: up to 4096 samples, as they lie.
-/
import Derived.Test.YtpfdjddjoclldaaRLf
import Derived.Test.YtpfdjddjoclldaaRLh
import Derived.Test.YtpfdjddjoclldaaRDn
import Derived.Test.YtpfdjddjoclldaaRDo
namespace Go.Proofs.Ytpfdjddjoclldaa.M
/-- The first blocks of a list made anew, out of another's. -/
def mpk (F : List Int → List Int) (n : Nat) (x y : List Int) (i : Nat) : List Int := (List.range (32 * n)).map fun p => if p / 32 < i then (F (blk x (p / 32))).getD (p % 32) 0 else y.getD p 0
theorem mpk_len (F : List Int → List Int) (n : Nat) (x y : List Int) (i : Nat) : (mpk F n x y i).length = 32 * n := tb_len _ _
theorem mpk_zero (F : List Int → List Int) (n : Nat) (x y : List Int) (h : y.length = 32 * n) : mpk F n x y 0 = y :=
  Eq.symm (tb_ext 0 y _ _ h fun i _ => by rw [if_neg (by omega)])
theorem mpk_at (F : List Int → List Int) (n : Nat) (x y : List Int) (i : Nat) (h : i < n) : blk (mpk F n x y i) i = blk y i := by
  refine tb_congr 32 _ _ fun j hj => ?_
  unfold mpk
  rw [tb_getD _ _ _ _ (by omega), if_neg (by omega)]
theorem mpk_step (F : List Int → List Int) (n : Nat) (x y : List Int) (i : Nat) : putb (mpk F n x y i) i (F (blk x i)) = mpk F n x y (i + 1) := by
  unfold putb
  rw [mpk_len]
  refine tb_congr _ _ _ fun p hp => ?_
  unfold mpk
  rw [tb_getD _ _ _ _ hp]
  by_cases h1 : p / 32 = i
  · rw [if_pos h1, if_pos (by omega), h1]
  · rw [if_neg h1]
    by_cases h2 : p / 32 < i
    · rw [if_pos h2, if_pos (by omega)]
    · rw [if_neg h2, if_neg (by omega)]
theorem mpk_skip (F : List Int → List Int) (n : Nat) (x y : List Int) (i : Nat) (h : F (blk x i) = blk y i) : mpk F n x y (i + 1) = mpk F n x y i := by
  refine tb_congr _ _ _ fun p _ => ?_
  by_cases h1 : p / 32 = i
  · rw [if_pos (by omega), if_neg (by omega), h1, h, blk_getD _ _ _ (by omega)]
    congr 1
    omega
  · by_cases h2 : p / 32 < i
    · rw [if_pos h2, if_pos (by omega)]
    · rw [if_neg h2, if_neg (by omega)]
theorem mpk_full (F : List Int → List Int) (n : Nat) (x y : List Int) : mpk F n x y n = jnb ((List.range n).map fun b => F (blk x b)) := by
  unfold jnb
  rw [tb_len]
  refine tb_congr _ _ _ fun p hp => ?_
  rw [if_pos (by omega), tb_getD _ _ _ _ (by omega)]
/-- Samples with their seams turned, and their frames. -/
def sea (l : List Int) : List Int := sms lft allT (cnt l.length) (padd l)
theorem sea_len (l : List Int) : (sea l).length = 32 * cnt l.length := sms_len ..
theorem frm_mpk (l : List Int) : mpk wav (cnt l.length) (sea l) (sea l) (cnt l.length) = jnb (frm l) := mpk_full ..
end Go.Proofs.Ytpfdjddjoclldaa.M
namespace Go.Proofs.Ytpfdjddjoclldaa
open Go.RowKit
open M
theorem box_cell (w : World) (v : Value) (t : TypeId) : (w.alloc (.cells #[v] t)).cell? ⟨w.heap.size, 0, none⟩ = some v :=
  (cell_of_row _ _ 0 _ _ (0, 0) (row_new w _ rfl #[v] t)).trans rfl
theorem padd_bd (l : List Int) (h : ∀ x ∈ l, -1048576 ≤ x ∧ x ≤ 1048576) (p : Nat) : -1048576 ≤ (padd l).getD p 0 ∧ (padd l).getD p 0 ≤ 1048576 := by
  rcases Nat.lt_or_ge p (32 * cnt l.length) with h1 | h1
  · rw [padd_getD _ _ h1]
    exact M.getD_bd l _ (by omega) h p
  · rw [List.getD_eq_getElem?_getD, List.getElem?_eq_none (by rw [padd_len]; exact h1)]
    exact ⟨by decide, by decide⟩
theorem sea_hld (l : List Int) (h : ∀ x ∈ l, -1048576 ≤ x ∧ x ≤ 1048576) (i : Nat) (hi : i < cnt l.length) : Hld (blk (sea l) i) := by
  refine ⟨blk_len _ _, fun x hx => ?_⟩
  obtain ⟨j, hj, rfl⟩ := List.mem_map.1 hx
  have hj2 := List.mem_range.1 hj
  have := seam_small l h (32 * i + j) (by omega)
  unfold sea
  omega
theorem any_range (l : List Int) (h : l.any (byd 1048576) = false) : ∀ x ∈ l, -1048576 ≤ x ∧ x ≤ 1048576 := fun x hx => by
  have := List.any_eq_false.1 h x hx
  simp only [byd, decide_eq_true_eq] at this
  omega
theorem range_any (l : List Int) (h : ∀ x ∈ l, -1048576 ≤ x ∧ x ≤ 1048576) : l.any (byd 1048576) = false := by
  rw [List.any_eq_false]
  intro x hx
  have := h x hx
  simp only [byd, decide_eq_true_eq]
  omega
set_option maxRecDepth 100000 in
set_option maxHeartbeats 1000000 in
theorem frames_out (l : List Int) (v : Value) (w : World) (hv : IntsAt w v l) (hl : l.length ≤ 4096) (ho : l.any (byd 1048576) = true) :
    Calls Try.prog 18 #[v] w fun e w' => e = .returned (.tuple #[.slice none 0 0, .int .i64 7]) ∧ Below w.heap.size w w' := by
  have hb := (Below.refl w.heap.size w).alloc (Nat.le_refl _) (.cells #[.int .i64 1048576] 3)
  have HC := Lib.hid (contains_any 1048576 l v w.heap.size (w.alloc (.cells #[.int .i64 1048576] 3)) (hv.below hb) (by unfold maxLen; omega) (box_cell w _ _) (by omega) (by omega))
  have HB := Lib.hid hb
  rw [ho] at HC
  clear hb hv hl ho
  go_enter Try.func18, Try.ntmps18
  go_wp2_with fail
  refine (beyond_any 1048576 w).mono ?_
  rintro e w1 ⟨rfl, rfl⟩
  go_wp2_with fail
  refine HC.out.mono ?_
  rintro e w1 ⟨rfl, rfl⟩
  go_wp2_with fail
  go_ret2
  exact ⟨rfl, HB.out⟩
set_option maxRecDepth 100000 in
set_option maxHeartbeats 2000000 in
theorem frames_in (l : List Int) (v : Value) (w : World) (hv : IntsAt w v l) (hl : l.length ≤ 4096) (ho : ∀ x ∈ l, -1048576 ≤ x ∧ x ≤ 1048576) :
    Calls Try.prog 18 #[v] w fun e w' => (∃ g, w.heap.size ≤ g ∧ e = .returned (.tuple #[.slice (some ⟨g, 0, none⟩) (cnt l.length) (cnt l.length), .int .i64 0]) ∧ Row w' g 52 (iCells (jnb (frm l)))) ∧ Below w.heap.size w w' := by
  have hb := (Below.refl w.heap.size w).alloc (Nat.le_refl _) (.cells #[.int .i64 1048576] 3)
  have HC := Lib.hid (contains_any 1048576 l v w.heap.size (w.alloc (.cells #[.int .i64 1048576] 3)) (hv.below hb) (by unfold maxLen; omega) (box_cell w _ _) (by omega) (by omega))
  have HB := Lib.hid hb
  have HV := Lib.hid (hv.below hb)
  obtain ⟨a, cap, rfl, _⟩ := hv
  rw [range_any l ho] at HC
  have hcn : cnt l.length ≤ 4096 := by unfold cnt; omega
  have hcnI : (cnt l.length : Int) ≤ 4096 := by omega
  have HCT := Lib.hid fun w => count_any l.length w (by omega)
  have HBK := Lib.hid fun w1 h => blocks_any l (.slice a l.length cap) w1 h hcn
  have HSW := Lib.hid fun g w1 h => sew_turn (padd l) (cnt l.length) (cnt l.length) g 52 w1 h (padd_len l) (by omega) (fun p => by have := padd_bd l ho p; omega)
  have HH := Lib.hid (sea_hld l ho)
  have HF := Lib.hid (frm_mpk l)
  have HZ := Lib.hid (mpk_zero wav (cnt l.length) (sea l) (sea l) (sea_len l))
  have HAT := Lib.hid (mpk_at wav (cnt l.length) (sea l) (sea l))
  have HST := Lib.hid (mpk_step wav (cnt l.length) (sea l) (sea l))
  have HML := Lib.hid (mpk_len wav (cnt l.length) (sea l) (sea l))
  change Hid (∀ g w1, Row w1 g 52 (iCells (padd l)) → Calls _ _ _ w1 fun e w' => e = _ ∧ Row w' g 52 (iCells (sea l)) ∧ Below g w1 w') at HSW
  clear hb ho hcn
  obtain ⟨n, hn⟩ : ∃ n, cnt l.length = n := ⟨_, rfl⟩
  rw [hn] at HCT HBK HSW HH HF HZ HAT HST HML hcnI ⊢
  generalize hx : sea l = X at *
  generalize hL : l.length = L at *
  clear hn hx hL
  go_enter Try.func18, Try.ntmps18
  go_wp2_with fail
  refine (beyond_any 1048576 w).mono ?_
  rintro e w1 ⟨rfl, rfl⟩
  go_wp2_with fail
  refine HC.out.mono ?_
  rintro e w1 ⟨rfl, rfl⟩
  clear HC
  generalize w.alloc (.cells #[.int .i64 1048576] 3) = w1 at *
  go_wp2_with fail
  refine (HCT.out w1).mono ?_
  rintro e w2 ⟨rfl, rfl⟩
  clear HCT
  go_wp2_with fail
  refine (HBK.out w2 HV.out).mono ?_
  rintro e w3 ⟨⟨g, hg, rfl, hr⟩, hb3⟩
  have HG := Lib.hid (Nat.le_trans HB.out.size hg)
  have HB3 := Lib.hid (HB.out.trans (hb3.mono HB.out.size))
  have HR := Lib.hid hr
  clear HBK HV hr hb3 HB hg
  go_wp2_with fail
  refine (HSW.out g w3 HR.out).mono ?_
  rintro e w4 ⟨rfl, hr, hb4⟩
  have HB4 := Lib.hid (HB3.out.trans (hb4.mono HG.out))
  have HR4 := Lib.hid hr
  clear HSW HR hr hb4 HB3
  go_wp2_with fail
  generalize Value.bool (decide (4096 < (n : Int))) = b13
  go_loopw [20] (fun ii wr => ∃ k : Nat, k ≤ n ∧ ii = .int .i64 k ∧ Row wr g 52 (iCells (mpk wav n X X k)) ∧ Below w.heap.size w wr) (fun ii _ => n - (intOf ii).toNat)
  case atStart => exact ⟨0, by omega, rfl, by rw [HZ.out]; exact HR4.out, HB4.out⟩
  case round =>
    clear HR4 HB4 HZ
    obtain ⟨k, hk, rfl, h1, h2⟩ := hrel
    have HR := Lib.hid h1
    have HB := Lib.hid h2
    clear h1 h2
    rcases Nat.lt_or_ge k n with hlt | hge
    · have hstep := HST.out k
      have hat := HAT.out k hlt
      have hhl := HH.out k hlt
      have HLE : Hid (32 * k + 32 ≤ (mpk wav n X X k).length) := Lib.hid (by rw [HML.out]; omega)
      obtain ⟨F, hF⟩ : ∃ F, blk X k = F := ⟨_, rfl⟩
      rw [hF] at hstep hat hhl
      have HA0 : Hid (Row (wr.alloc (.cells (iCells f0) 52)) wr.heap.size 52 (iCells f0)) := heap_alloc_new _ _
      have HR1 := Lib.hid (Row.alloc HR.out (.cells (iCells f0) 52))
      have HB1 : Hid (Below w.heap.size w (wr.alloc (.cells (iCells f0) 52))) := Lib.hid (HB.out.alloc HB.out.size _)
      have HNE : Hid (g < wr.heap.size) := Lib.hid (Row.lt HR.out)
      have HBS : Hid (w.heap.size ≤ wr.heap.size) := Lib.hid HB.out.size
      have HSZ := Lib.hid fun _ : Unit => frame_size F hhl.1
      have HSS := Lib.hid fun _ : Unit => frame_same f0 F f0_length hhl.1
      have hkI : (k : Int) < (n : Int) := by omega
      have HK := Lib.hid hlt
      have HHL := Lib.hid hhl
      have HSTP := Lib.hid fun _ : Unit => hstep
      have HATT := Lib.hid fun _ : Unit => hat
      have hz := frame_zero wr
      clear hstep hat hhl hF hk hlt
      generalize mpk wav n X X k = Y at *
      go_wp2_with (first
        | (refine wpList_load_part rfl 52 (.tmp 23) rfl g k (k * 32) (Nat.mul_comm _ _) rfl 52 Y _ HR.out HLE.out Try.underlying52 rfl frame_32 ?_; rw [HATT.out ()])
        | (refine wpList_store_row rfl 52 (.tmp 6) (.tmp 24) rfl wr.heap.size (iCells F) rfl rfl 52 (iCells f0) HA0.out (HSZ.out ()) (HSS.out ()) (iCells_one F) ?_; clear hz; have HA2 := Lib.hid (Row.setRow HA0.out (iCells F)); have HR2 : Hid (Row ((wr.alloc (.cells (iCells f0) 52)).setRow wr.heap.size (iCells F)) g 52 (iCells Y)) := Lib.hid ((setRow_other _ _ _ _ (Nat.ne_of_lt HNE.out)).trans HR1.out); have HB2 := Lib.hid (below_setRow HB1.out HBS.out (iCells F)); generalize (wr.alloc (.cells (iCells f0) 52)).setRow wr.heap.size (iCells F) = w5 at *)
        | (refine wpList_load_row rfl 52 (.tmp 6) rfl wr.heap.size rfl 52 (iCells F) (0, 0) _ HA2.out Try.underlying52 rfl (HSZ.out ()) ?_))
      refine (waves_in F w5 HHL.out).mono ?_
      rintro e w6 ⟨rfl, hb6⟩
      have HR3 := Lib.hid (Row.box HR2.out hb6)
      have HB3 := Lib.hid (HB2.out.trans (hb6.mono HB2.out.size))
      clear hb6 HA0 HB1 HR1 HA2 HR2 HB2 HR HB
      go_wp2_with (first
        | (refine wpList_store_part rfl 52 (.tmp 29) (.tmp 28) rfl g k (k * 32) (Nat.mul_comm _ _) (wav F) rfl rfl 52 Y HR3.out HLE.out (wav_len F) frame_32 ?_; have HR4 := Lib.hid (Row.setRow HR3.out (iCells (putb Y k (wav F)))); have HB4 := Lib.hid (below_setRow HB3.out HG.out (iCells (putb Y k (wav F)))); generalize w6.setRow g (iCells (putb Y k (wav F))) = w7 at *))
      go_roundw
      case rel => exact ⟨k + 1, HK.out, by go_num, by rw [← HSTP.out ()]; exact HR4.out, HB4.out⟩
      case measure =>
        have := HK.out
        simp only [intOf]
        omega
    · obtain rfl : k = n := by omega
      have hr := HR.out
      rw [HF.out] at hr
      clear HR HAT HST HML HH HF
      have HR := Lib.hid hr
      clear hr
      go_wp2_with fail
      go_ret2
      exact ⟨⟨g, HG.out, rfl, HR.out⟩, HB.out⟩
end Go.Proofs.Ytpfdjddjoclldaa
