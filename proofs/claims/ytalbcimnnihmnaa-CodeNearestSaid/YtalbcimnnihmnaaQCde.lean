/-
  CodeNearest, walked. Conditions: a frame's 32 numbers, a number below 2^8, eight numbers below 2^32; what code's Shape and Error and give's Bits answer.
-/
import Derived.Test.YtalbcimnnihmnaaQS13
import Derived.Test.YtalbcimnnihmnaaQV8z
import Derived.Test.YtalbcimnnihmnaaQYkp
import Derived.Laws.Cover3
namespace Go.Proofs.Ytalbcimnnihmnaa
open Go.RowKit
open M
def ErrOk : Prop := ∀ (f l : List Int) (w : World), f.length = 32 → l.length = 40 → Calls Try.prog 8 #[.agg (iCells f), .agg (iCells l)] w fun e w' => e = .returned (.int .i64 (er20 f l 32 : Nat)) ∧ Below w.heap.size w w'
theorem p4_size : (Try.prog.info? 29).map (·.size) = some 4 := by kernel_rfl
set_option maxRecDepth 100000 in
set_option maxHeartbeats 2000000 in
theorem nearest20_law (HS : ShaOk) (HE : ErrOk) (HZ : BizOk) (f : List Int) (by8 : UInt8) (l : List Int) (w : World) (hf : f.length = 32) (hl : l.length = 8) (hbl : ∀ v ∈ l, 0 ≤ v ∧ v ≤ 4294967295) :
    Calls Try.prog 3 #[.agg (iCells f), .int .u8 (ub by8), .agg (vCells l)] w fun e w' => e = .returned (.bool true) ∧ Below w.heap.size w w' := by
  obtain ⟨hu1, hu2⟩ := ub_bd by8
  generalize ub by8 = u at *
  obtain ⟨z, hzu⟩ : ∃ z : Nat, 12 + u.tmod 13 = z := ⟨(12 + u.tmod 13).toNat, by have := Int.tmod_nonneg 13 hu1; omega⟩
  have hz1 : 12 ≤ z := by have := Int.tmod_nonneg 13 hu1; omega
  have hz2 : z ≤ 24 := by have := Int.tmod_lt_of_pos u (show (0 : Int) < 13 by decide); omega
  obtain ⟨q, hqu⟩ : ∃ q : Nat, u.tmod 13 = q := ⟨(u.tmod 13).toNat, by have := Int.tmod_nonneg 13 hu1; omega⟩
  have hzq : (12 : Int) + (q : Int) = (z : Int) := by omega
  clear hzu
  have HAW := Lib.hid fun w => awake20_any HS HZ w
  have HSA := Lib.hid fun w => HS f (z : Int) w hf
  rw [(sh_in f z hz1 hz2).1, (sh_in f z hz1 hz2).2] at HSA
  have hLA := sh20_len f (8 * z - 64)
  obtain ⟨K, hK⟩ : ∃ K, kk20 (cg20 f) (8 * z - 64) = K := ⟨_, rfl⟩
  have hK12 : ∀ b, b < 8 → K b ≤ 12 := fun b hb => by rw [← hK]; exact kk_le _ _ _ hb
  have hpl : ∀ b, b < 8 → pl13 (sys (sh20 f (8 * z - 64)) b) = K b := fun b hb => by rw [← hK]; exact pl_sh _ _ _ hb
  obtain ⟨y, hy⟩ : ∃ y : Nat → List Int, (fun b => vc13 4 (K b) (l.getD b 0 % (cn13 4 (K b) : Int)).toNat) = y := ⟨_, rfl⟩
  have hyb : ∀ b, b < 8 → ∃ A c : Nat, cn13 4 (K b) = c ∧ 1 ≤ c ∧ c ≤ 1048576 ∧ (l.getD b 0).tmod (c : Int) = (A : Int) ∧ A < c ∧ y b = vc13 4 (K b) A ∧ (y b).length = 4 ∧ pl13 (y b) = K b := fun b hb => by
    obtain ⟨_, h2, h3⟩ := btc_bits (K b) (hK12 b hb)
    have hlb : 0 ≤ l.getD b 0 := by
      rw [List.getD_eq_getElem?_getD, List.getElem?_eq_getElem (by omega)]
      exact (hbl _ (List.getElem_mem _)).1
    obtain ⟨A, a1, a2, a3⟩ := u32_mod (l.getD b 0) (cn13 4 (K b)) hlb h3
    have hv := vc_all 4 (K b) A a3
    have hyA : y b = vc13 4 (K b) A := by rw [← hy]; show vc13 4 (K b) _ = _; rw [a1, Int.toNat_natCast]
    exact ⟨A, _, rfl, h3, by omega, a2, a3, hyA, by rw [hyA]; exact hv.1, by rw [hyA]; exact hv.2.1⟩
  have hnear : er20 f (sh20 f (8 * z - 64)) 32 ≤ er20 f (ot20 (sh20 f (8 * z - 64)) y 8) 32 := sh_near f _ y fun b hb => by
    obtain ⟨_, _, _, _, _, _, _, _, h1, h2⟩ := hyb b hb
    rw [hK]
    exact ⟨h1, h2⟩
  have HER := Lib.hid fun (S : List Int) (hS : S.length = 40) w => HE f S w hf hS
  obtain ⟨S, hS⟩ : ∃ S, sh20 f (8 * z - 64) = S := ⟨_, rfl⟩
  rw [hS] at HSA hLA hpl hnear
  obtain ⟨W0, hW0⟩ : ∃ W, er20 f S 32 = W := ⟨_, rfl⟩
  have HE1 : Hid (∀ w, Calls Try.prog 8 #[.agg (iCells f), .agg (iCells S)] w fun e w' => e = .returned (.int .i64 (W0 : Int)) ∧ Below w.heap.size w w') := Lib.hid fun w => by rw [← hW0]; exact HER.out S hLA w
  rw [hW0] at hnear
  have HNE := Lib.hid hnear
  have HPL := Lib.hid hpl
  have HYB := Lib.hid hyb
  have HK12 := Lib.hid hK12
  have HLL := Lib.hid hl
  have HBL := Lib.hid hbl
  have HSL := Lib.hid hLA
  have HSS := Lib.hid (s40_size S hLA)
  have HSX := Lib.hid (s40_same z40 S z40_length hLA)
  have HF := Lib.hid (f32n_size f hf)
  have hz := s40_zero
  have hzI : (z : Int) ≤ 24 := by omega
  have HR : Hid (Row ((w.alloc (.cells (iCells f) 22)).alloc (.cells (vCells l) 24)) w.heap.size 22 (iCells f)) := Lib.hid (Row.alloc (heap_alloc_new _ _) _)
  have HR3 : Hid (Row ((w.alloc (.cells (iCells f) 22)).alloc (.cells (vCells l) 24)) (w.heap.size + 1) 24 (vCells l)) := Lib.hid (row_new _ _ (by simp) _ _)
  have HB : Hid (Below w.heap.size w ((w.alloc (.cells (iCells f) 22)).alloc (.cells (vCells l) 24))) := Lib.hid (((Below.refl _ _).alloc (Nat.le_refl _) _).alloc (by simp) _)
  clear hf hl hbl hS hK hK12 hpl hy hyb hnear hW0 hLA hz1 hz2 HS HZ HE
  go_enter Try.func3, Try.ntmps3
  go_wp2_with fail
  generalize (w.alloc (.cells (iCells f) 22)).alloc (.cells (vCells l) 24) = w1 at *
  refine (HAW.out _).mono ?_
  rintro e w2 ⟨rfl, hb⟩
  have HR := Lib.hid (HR.out.box hb)
  have HR3 := Lib.hid (HR3.out.box hb)
  have HB := Lib.hid (HB.out.trans (hb.mono HB.out.size))
  clear hb
  go_wp2_with (refine wpList_load_row rfl 22 (.tmp 3) rfl w.heap.size rfl 22 (iCells f) (0, 0) _ HR.out Try.underlying22 rfl HF.out ?_)
  refine (HSA.out _).mono ?_
  rintro e w3 ⟨rfl, hb⟩
  have HR := Lib.hid (HR.out.box hb)
  have HR3 := Lib.hid (HR3.out.box hb)
  have HB := Lib.hid (HB.out.trans (hb.mono HB.out.size))
  clear hb
  have HN : Hid (Row (w3.alloc (.cells (iCells z40) 32)) w3.heap.size 32 (iCells z40)) := Lib.hid (heap_alloc_new _ _)
  go_upto_region 4 with (refine wpList_store_row rfl 32 (.tmp 7) (.tmp 24) rfl w3.heap.size (iCells S) rfl rfl 32 (iCells z40) HN.out HSS.out HSX.out (iCells_one _) ?_)
  have HGS := Lib.hid HB.out.size
  have NHRHA := Lib.hid (Nat.ne_of_lt (Row.lt HR.out))
  have NHR3HA := Lib.hid (Nat.ne_of_lt (Row.lt HR3.out))
  have HR := Lib.hid (row_laid HR.out (.cells (iCells z40) 32) (iCells S))
  have HR3 := Lib.hid (row_laid HR3.out (.cells (iCells z40) 32) (iCells S))
  have HB := Lib.hid (below_laid HB.out (.cells (iCells z40) 32) (iCells S))
  have HA := Lib.hid (Row.setRow HN.out (iCells S))
  generalize (w3.alloc (.cells (iCells z40) 32)).setRow w3.heap.size (iCells S) = w4 at *
  obtain ⟨ga, hg⟩ : ∃ g, w3.heap.size = g := ⟨_, rfl⟩
  rw [hg] at HA HGS NHRHA NHR3HA ⊢
  clear hg HN
  go_wp2_with (first
    | (refine wpList_load_row rfl 22 (.tmp 3) rfl w.heap.size rfl 22 (iCells f) (0, 0) _ HR.out Try.underlying22 rfl HF.out ?_)
    | (refine wpList_load_row rfl 32 (.tmp 7) rfl ga rfl 32 (iCells S) (0, 0) _ HA.out Try.underlying32 rfl HSS.out ?_))
  refine (HE1.out _).mono ?_
  rintro e w5 ⟨rfl, hb⟩
  have HR := Lib.hid (HR.out.box hb)
  have HR3 := Lib.hid (HR3.out.box hb)
  have HA := Lib.hid (HA.out.box hb)
  have HB := Lib.hid (HB.out.trans (hb.mono HB.out.size))
  clear hb
  clear hz
  go_wp2_with fail
  go_loopw [10] (fun bb wr => ∃ (b : Nat), b ≤ 8 ∧ bb = .int .i64 (b : Int) ∧ Row wr w.heap.size 22 (iCells f) ∧ Row wr (w.heap.size + 1) 24 (vCells l) ∧ Row wr ga 32 (iCells (ot20 S y b)) ∧ Below w.heap.size w wr) (fun bb _ => 8 - (intOf bb).toNat)
  case atStart => exact ⟨0, by omega, rfl, HR.out, HR3.out, by rw [ot_zero S y HSL.out]; exact HA.out, HB.out⟩
  case round =>
    clear HR HR3 HA HB
    obtain ⟨b, hb8, rfl, hr, hr3, hra, hb⟩ := hrel
    have HR := Lib.hid hr
    have HR3 := Lib.hid hr3
    have HA := Lib.hid hra
    have HB := Lib.hid hb
    clear hr hr3 hb
    rcases Nat.lt_or_ge b 8 with hlt | hge
    · obtain ⟨A, c, hc, hc1, hc2, hA, hAc, hyA, hy4, hyp⟩ := HYB.out b hlt
      have hk := HK12.out b hlt
      have hps := pulses_sys (k := K b) hra (ot_len S y b) b hlt (by rw [ot_old S y b b hlt (Nat.le_refl _)]; exact HPL.out b hlt) hk
      obtain ⟨k, hkk⟩ : ∃ k, K b = k := ⟨_, rfl⟩
      rw [hkk] at hc hyA hyp hk hps
      have HPU := Lib.hid hps
      have HCN : Hid (∀ w, Calls Try.prog 10 #[.int .i64 4, .int .i64 (k : Int)] w fun e w' => e = .returned (.int .i64 (c : Int)) ∧ Below w.heap.size w w') := Lib.hid fun w => by
        have h := count_any 4 (k : Int) w
        rw [show (4 : Int) = ((4 : Nat) : Int) from rfl, cnI_in 4 k (by decide) hk, hc] at h
        exact h
      have HVC : Hid (∀ w, Calls Try.prog 11 #[.int .i64 4, .int .i64 (k : Int), .int .i64 (A : Int)] w fun e w' => (∃ a cap, e = .returned (.tuple #[.slice a 4 cap, .int .i64 0]) ∧ IntsAt w' (.slice a 4 cap) (y b) ∧ NewSl w.heap.size (.slice a 4 cap)) ∧ Below w.heap.size w w') := Lib.hid fun w => by
        have h := vector_at_new 4 (k : Int) (A : Int) 4 k A w rfl rfl rfl (by decide) hk (by rw [hc]; exact hAc)
        rw [← hyA] at h
        exact h
      have HI := Lib.hid hlt
      have hbI : (b : Int) < 8 := by omega
      have hc0 : (c : Int) ≠ 0 := by omega
      have hc01 : ¬ (c : Int) = 0 := by omega
      have hc02 : ¬ c = 0 := by omega
      have hc03 : ((c : Int) == 0) = false := beq_eq_false_iff_ne.2 hc0
      have hcI : (c : Int) ≤ 1048576 := by omega
      obtain ⟨lv, hlv⟩ : ∃ v, l.getD b 0 = v := ⟨_, rfl⟩
      have hlvb : 0 ≤ lv ∧ lv ≤ 4294967295 := by
        rw [← hlv, List.getD_eq_getElem?_getD, List.getElem?_eq_getElem (by rw [HLL.out]; exact hlt)]
        exact HBL.out _ (List.getElem_mem _)
      obtain ⟨hlv0, hlv1⟩ := hlvb
      rw [hlv] at hA
      have huw : IntKind.i64.wrap lv = lv := by rw [IntKind.wrap_i64]; omega
      have HLV := Lib.hid fun _ : Unit => hlv
      have HY4 := Lib.hid hy4
      clear hb8 hlt hc hc1 hc2 hAc hyA hyp hk hps hra hkk hlv hy4
      go_wp2_with fail
      refine HPU.out.mono ?_
      rintro e w20 ⟨rfl, rfl⟩
      go_wp2_with fail
      refine (HCN.out _).mono ?_
      rintro e w21 ⟨rfl, hb⟩
      have HR := Lib.hid (HR.out.box hb)
      have HR3 := Lib.hid (Row.box HR3.out hb)
      have HA := Lib.hid (HA.out.box hb)
      have HB := Lib.hid (HB.out.trans (hb.mono HB.out.size))
      clear hb HPU HCN
      have c9 := vrow_at HR3.out b (by rw [HLL.out]; exact HI.out)
      rw [HLV.out ()] at c9
      go_wp2_with fail
      refine (HVC.out _).mono ?_
      rintro e w22 ⟨⟨a, cap, rfl, hi, hn⟩, hb⟩
      have HR := Lib.hid (HR.out.box hb)
      have HR3 := Lib.hid (Row.box HR3.out hb)
      have HLT := Lib.hid (Row.lt HA.out)
      have HA := Lib.hid (HA.out.box hb)
      have HB := Lib.hid (HB.out.trans (hb.mono HB.out.size))
      clear hb HVC c9
      obtain ⟨b1, o1, rfl, hl1, hc1⟩ := ints_cells hi HY4.out (by decide)
      obtain ⟨x0, x1, x2, x3, hx⟩ := four_list (y b) HY4.out
      have e0 := hc1 0 (by decide)
      have e1 := hc1 1 (by decide)
      have e2 := hc1 2 (by decide)
      have e3 := hc1 3 (by decide)
      rw [hx] at e0 e1 e2 e3
      have c0 : w22.cell? ⟨b1, o1, none⟩ = some (.int .i64 x0) := e0
      have c1 : w22.cell? ⟨b1, o1 + 1, none⟩ = some (.int .i64 x1) := e1
      have c2 : w22.cell? ⟨b1, o1 + 2, none⟩ = some (.int .i64 x2) := e2
      have c3 : w22.cell? ⟨b1, o1 + 3, none⟩ = some (.int .i64 x3) := e3
      have HX := Lib.hid hx
      have HPP := Lib.hid (ot_put S y b HI.out HY4.out)
      have HBO := Lib.hid (show 8 + b * 4 + [x0, x1, x2, x3].length ≤ (ot20 S y b).length by rw [ot_len]; have := HI.out; simp only [List.length_cons, List.length_nil]; omega)
      rw [HX.out] at HPP
      clear hi hn hl1 hc1 hx e0 e1 e2 e3 HY4
      have hat : ∀ w, (Instr.arrayAt 29 (.slice (some ⟨b1, o1, none⟩) 4 cap)).run Try.prog w = .ok (.pointer (some ⟨b1, o1, none⟩)) w := fun w => run_arrayAt w 29 _ 4 _ 4 cap Try.underlying29 (Nat.le_refl _)
      go_wp2_with (refine wpList_store_pto rfl 29 (.tmp 67) (.tmp 65) rfl ga (8 + b * 4) [x0, x1, x2, x3] rfl rfl 32 (ot20 S y b) HA.out HBO.out p4_size ?_)
      go_roundw
      case rel => exact ⟨b + 1, HI.out, by go_num, (setRow_other _ _ _ _ NHRHA.out).trans HR.out, (setRow_other _ _ _ _ NHR3HA.out).trans HR3.out, by rw [HPP.out]; exact Row.setRow HA.out _, below_setRow HB.out HGS.out _⟩
      case measure =>
        have := HI.out
        simp [intOf] <;> omega
    · obtain rfl : b = 8 := by omega
      clear hb8 hge hra
      have HSO := Lib.hid (s40_size (ot20 S y 8) (ot_len S y 8))
      have HE2 := Lib.hid fun w => HER.out (ot20 S y 8) (ot_len S y 8) w
      obtain ⟨V, hV⟩ : ∃ V, er20 f (ot20 S y 8) 32 = V := ⟨_, rfl⟩
      obtain ⟨O, hO⟩ : ∃ O, ot20 S y 8 = O := ⟨_, rfl⟩
      have hne := HNE.out
      rw [hV] at hne HE2
      rw [hO] at HA HSO HE2
      have hneI : (W0 : Int) ≤ (V : Int) := by omega
      have hd1 : decide ((W0 : Int) ≤ (V : Int)) = true := decide_eq_true hneI
      have hd2 : decide (W0 ≤ V) = true := decide_eq_true hne
      clear hV hO
      go_wp2_with (first
        | (refine wpList_load_row rfl 22 (.tmp 3) rfl w.heap.size rfl 22 (iCells f) (0, 0) _ HR.out Try.underlying22 rfl HF.out ?_)
        | (refine wpList_load_row rfl 32 (.tmp 7) rfl ga rfl 32 (iCells O) (0, 0) _ HA.out Try.underlying32 rfl HSO.out ?_))
      refine (HE2.out _).mono ?_
      rintro e w30 ⟨rfl, hb⟩
      have HB := Lib.hid (HB.out.trans (hb.mono HB.out.size))
      clear hb
      go_wp2_with fail
      go_ret
      exact ⟨rfl, HB.out⟩
end Go.Proofs.Ytalbcimnnihmnaa
