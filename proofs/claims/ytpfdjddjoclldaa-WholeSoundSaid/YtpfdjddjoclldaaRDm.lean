/-
  dct's round with part: all sizes, block by block. Conditions: a held frame's wheel.
-/
import Derived.Test.YtpfdjddjoclldaaRDf
import Derived.Test.YtpfdjddjoclldaaRB1
namespace Go.Proofs.Ytpfdjddjoclldaa
open Go.RowKit
open M
theorem sizesB_info : (Try.prog.info? 66).map (·.size) = some (iCells [2, 4, 8, 16]).size := by kernel_rfl
theorem indexB_sizes (i : Nat) (hi : i < 4) (w : World) :
    (Instr.index 66 (.agg (iCells [2, 4, 8, 16])) (.int .i64 i)).run Try.prog w = .ok (.int .i64 (2 * (hbw i : Nat))) w := by
  obtain ⟨j, hj, _, _, _⟩ := info_parts int_info
  have c := iCells_get [2, 4, 8, 16] i hi
  have hc : Try.prog.cellsOf 3 = 1 := by kernel_rfl
  have e : [2, 4, 8, 16].getD i 0 = 2 * ((hbw i : Nat) : Int) := by
    match i, hi with
    | 0, _ => rfl
    | 1, _ => rfl
    | 2, _ => rfl
    | 3, _ => rfl
  rw [e] at c
  simp [Instr.index, run_underlying Try.underlying66, asIntOf, hi, run_sizeOf w hj, hc, c, go_sem]
theorem turnB_all : ∀ h : Fin 9, isH h → ∀ i : Fin 8, i.1 < h.1 → (-(i.1 : Int) * 512).tdiv (2 * (h.1 : Int)) = -(i.1 : Int) * 512 / (2 * (h.1 : Int)) ∧ -512 ≤ -(i.1 : Int) * 512 / (2 * (h.1 : Int)) ∧ -(i.1 : Int) * 512 / (2 * (h.1 : Int)) ≤ 0 := by
  unfold isH
  decide +kernel
theorem turnB_at (h i : Nat) (hh : isH h) (hi : i < h) : (-(i : Int) * 512).tdiv (2 * (h : Int)) = -(i : Int) * 512 / (2 * (h : Int)) ∧ -512 ≤ -(i : Int) * 512 / (2 * (h : Int)) ∧ -(i : Int) * 512 / (2 * (h : Int)) ≤ 0 := by
  have := isH_le hh
  exact turnB_all ⟨h, by omega⟩ hh ⟨i, by omega⟩ hi
theorem wrB_Bd (f : List Int) (h : Hld f) (i n : Nat) : Bd 8589934592 ((wrb f i).getD n (0, 0)) := by
  obtain ⟨⟨a, b⟩, ⟨c, d⟩⟩ := wrb_bd f h i n
  exact ⟨a, b, c, d⟩
set_option maxRecDepth 100000 in
theorem round_part (f : List Int) (hf : Hld f) (g : Nat) (w : World) (h : WAt w g (wrb f 0)) :
    Calls Try.prog 42 #[.pointer (some ⟨g, 0, none⟩), .agg (iCells [2, 4, 8, 16]), .func (.func 46) #[] #[]] w fun e w' => e = .returned (.tuple #[]) ∧ WAt w' g (wrb f 4) ∧ Below g w w' := by
  have HBD := Lib.hid (wrB_Bd f hf)
  have HSZ := Lib.hid sizesB_info
  have HRA : Hid (Row (w.alloc (.cells (iCells [2, 4, 8, 16]) 66)) w.heap.size 66 (iCells [2, 4, 8, 16])) := heap_alloc_new _ _
  have HR0 : Hid (WAt (w.alloc (.cells (iCells [2, 4, 8, 16]) 66)) g (wrb f 0)) := Row.alloc h _
  have HB0 : Hid (Below g w (w.alloc (.cells (iCells [2, 4, 8, 16]) 66))) := (Below.refl _ _).alloc (Nat.le_of_lt (Row.lt h)) _
  clear h hf
  go_enter Try.func42, Try.ntmps42
  go_wp2_with (refine wpList_load_row rfl 66 (.tmp 4) rfl w.heap.size rfl 66 (iCells [2, 4, 8, 16]) (0, 0) _ HRA.out Try.underlying66 rfl HSZ.out ?_)
  clear HRA
  generalize w.alloc (.cells (iCells [2, 4, 8, 16]) 66) = w1 at *
  go_loopw [11] (fun ii wr => ∃ x : Nat, x ≤ 4 ∧ ii = .int .i64 x ∧ WAt wr g (wrb f x) ∧ Below g w wr) (fun ii _ => 4 - (intOf ii).toNat)
  case atStart => exact ⟨0, by omega, rfl, HR0.out, HB0.out⟩
  case round =>
    clear HR0 HB0
    obtain ⟨x, hx, rfl, h1, h2⟩ := hrel
    have HR := Lib.hid h1
    have HB := Lib.hid h2
    clear h1 h2
    rcases Nat.lt_or_ge x 4 with hlt | hge
    · have HNX := Lib.hid (wrb_next f x hlt)
      have HBX := Lib.hid (HBD.out x)
      have HLN := Lib.hid (wrb_len f x)
      have HIS := Lib.hid (hbw_is x)
      have hix := indexB_sizes x hlt
      obtain ⟨l, hl⟩ : ∃ l, wrb f x = l := ⟨_, rfl⟩
      rw [hl] at HNX HBX HLN HR
      obtain ⟨h, hh⟩ : ∃ h, hbw x = h := ⟨_, rfl⟩
      rw [hh] at HNX HIS hix
      clear hl hh HBD
      obtain ⟨hb1, hb2, _⟩ := isH_le HIS.out
      go_wp2_with fail
      clear hix
      generalize Value.bool (decide ((x : Int) < 4)) = vb
      go_loopw [8] (fun ii wr => ∃ B : Nat, B ≤ 8 ∧ B % h = 0 ∧ ii = .int .i64 (2 * (B : Int)) ∧ WAt wr g (rdn ubz ubw h l B) ∧ Below g w wr) (fun ii _ => 16 - (intOf ii).toNat)
      case atStart => exact ⟨0, by omega, Nat.zero_mod _, rfl, HR.out, HB.out⟩
      case round =>
        clear HR HB
        obtain ⟨B, hB, hd, rfl, h1, h2⟩ := hrel
        have HR := Lib.hid h1
        have HB := Lib.hid h2
        have HD := Lib.hid hd
        clear h1 h2 hd
        rcases Nat.lt_or_ge B 8 with hBl | hge
        · have HRM := Lib.hid (isH_room HIS.out hBl HD.out)
          have hrm := HRM.out.1
          go_wp2_with fail
          generalize Value.bool (decide (2 * (B : Int) < 16)) = vc
          go_loopw [21] (fun ii wr => ∃ i : Nat, i ≤ h ∧ ii = .int .i64 i ∧ WAt wr g (rdn ubz ubw h l (B + i)) ∧ Below g w wr) (fun ii _ => h - (intOf ii).toNat)
          case atStart => exact ⟨0, Nat.zero_le _, rfl, HR.out, HB.out⟩
          case round =>
            clear HR HB
            obtain ⟨i, hi, rfl, h1, h2⟩ := hrel
            have HR := Lib.hid h1
            have HB := Lib.hid h2
            clear h1 h2
            rcases Nat.lt_or_ge i h with hil | hge
            · obtain ⟨t1, t2, t3⟩ := turnB_at h i HIS.out hil
              obtain ⟨q1, q2⟩ := rdn_fresh ubz ubw h B i l HIS.out hBl HD.out hil
              have HST := Lib.hid (rdn_step ubz ubw h B i l HIS.out hBl HD.out hil)
              obtain ⟨k, hk⟩ : ∃ k, -(i : Int) * 512 / (2 * (h : Int)) = k := ⟨_, rfl⟩
              rw [hk] at t1 t2 t3 HST
              clear hk
              have HL2 : Hid ((rdn ubz ubw h l (B + i)).length = 16) := by unfold Hid; rw [rdn_len]; exact HLN.out
              obtain ⟨L, hL⟩ : ∃ L, rdn ubz ubw h l (B + i) = L := ⟨_, rfl⟩
              rw [hL] at q1 q2 HST HL2 HR
              have HQ1 := Lib.hid q1
              have HQ2 := Lib.hid q2
              clear hL q1 q2 hi
              go_wp2_with fail
              rw [show 2 * (B : Int) + (i : Int) + (h : Int) = ((2 * B + i + h : Nat) : Int) by omega, show 2 * (B : Int) + (i : Int) = ((2 * B + i : Nat) : Int) by omega]
              refine (wpart_any L (2 * B + i) (2 * B + i + h) k g _ HR.out HL2.out (by omega) (by omega) (by omega) (by rw [HQ1.out]; exact HBX.out _) (by rw [HQ2.out]; exact HBX.out _) (by omega) (by omega)).mono ?_
              rintro e w2 ⟨rfl, h1, h2⟩
              rw [HQ1.out, HQ2.out] at h1
              have hr := h1
              rw [show WAt w2 g _ = WAt w2 g (rdn ubz ubw h l (B + i + 1)) by rw [HST.out]] at hr
              have HR2 := Lib.hid hr
              have HB2 := Lib.hid (HB.out.trans h2)
              clear h1 h2 hr HR HB
              go_wp2_with fail
              go_roundw
              case rel => exact ⟨i + 1, hil, by go_num, HR2.out, HB2.out⟩
              case measure => simp [intOf] <;> omega
            · obtain rfl : i = h := by omega
              have HRM2 := Lib.hid HRM.out.2
              clear hi hge HRM
              go_wp2_with fail
              go_roundw
              case rel => exact ⟨B + i, hrm, HRM2.out, by go_num, HR.out, HB.out⟩
              case measure => simp [intOf] <;> omega
        · obtain rfl : B = 8 := by omega
          have h1 := HR.out
          rw [HNX.out] at h1
          have HR1 := Lib.hid h1
          clear h1 HR
          go_wp2_with fail
          go_roundw
          case rel => exact ⟨x + 1, hlt, by go_num, HR1.out, HB.out⟩
          case measure => simp [intOf] <;> omega
    · obtain rfl : x = 4 := by omega
      go_wp2_with fail
      go_end0
      exact ⟨rfl, HR.out, HB.out⟩
end Go.Proofs.Ytpfdjddjoclldaa
