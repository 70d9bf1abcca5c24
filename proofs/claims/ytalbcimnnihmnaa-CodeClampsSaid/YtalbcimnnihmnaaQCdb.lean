/-
  CodeClamps, walked. Conditions: a frame's 32 numbers, a number below 2^8; what code's Shape, band's Clamp and give's Bits answer.
-/
import Derived.Test.YtalbcimnnihmnaaQS13
namespace Go.Proofs.Ytalbcimnnihmnaa
open Go.RowKit
open M
/-- What band's Clamp answers. -/
def ClmOk : Prop := ∀ (f : List Int) (w : World), f.length = 32 → Calls Try.prog 14 #[.agg (iCells f)] w fun e w' => e = .returned (.agg (iCells (cg20 f))) ∧ Below w.heap.size w w'
set_option maxRecDepth 100000 in
set_option maxHeartbeats 2000000 in
theorem clamps20_law (HS : ShaOk) (HZ : BizOk) (HC : ClmOk) (f : List Int) (by8 : UInt8) (w : World) (hf : f.length = 32) :
    Calls Try.prog 5 #[.agg (iCells f), .int .u8 (ub by8)] w fun e w' => e = .returned (.bool true) ∧ Below w.heap.size w w' := by
  obtain ⟨hu1, hu2⟩ := ub_bd by8
  generalize ub by8 = u at *
  obtain ⟨z, hzu⟩ : ∃ z : Nat, 12 + u.tmod 12 = z := ⟨(12 + u.tmod 12).toNat, by have := Int.tmod_nonneg 12 hu1; omega⟩
  have hz1 : 12 ≤ z := by have := Int.tmod_nonneg 12 hu1; omega
  have hz2 : z ≤ 23 := by have := Int.tmod_lt_of_pos u (show (0 : Int) < 12 by decide); omega
  obtain ⟨q, hqu⟩ : ∃ q : Nat, u.tmod 12 = q := ⟨(u.tmod 12).toNat, by have := Int.tmod_nonneg 12 hu1; omega⟩
  have hzq : (12 : Int) + (q : Int) = (z : Int) := by omega
  clear hzu
  have HAW := Lib.hid fun w => awake20_any HS HZ w
  have HSA := Lib.hid fun w => HS f (z : Int) w hf
  have HSB := Lib.hid fun w => HS (cg20 f) (z : Int) w (cq20_len f 32)
  have HSC := Lib.hid fun w => HS f ((z + 1 : Nat) : Int) w hf
  have HCL := Lib.hid fun w => HC f w hf
  rw [(sh_in f z hz1 (by omega)).1, (sh_in f z hz1 (by omega)).2] at HSA
  rw [(sh_in (cg20 f) z hz1 (by omega)).1, (sh_in (cg20 f) z hz1 (by omega)).2, sh_clamp] at HSB
  rw [(sh_in f (z + 1) (by omega) (by omega)).1, (sh_in f (z + 1) (by omega) (by omega)).2] at HSC
  have hsd : pto (sh20 f (8 * z - 64)) 0 8 = pto (sh20 f (8 * (z + 1) - 64)) 0 8 := by
    have h1 := sds_sh f (8 * z - 64)
    have h2 := sds_sh f (8 * (z + 1) - 64)
    exact h1.trans h2.symm
  have hLA := sh20_len f (8 * z - 64)
  have hLC := sh20_len f (8 * (z + 1) - 64)
  obtain ⟨A, hA⟩ : ∃ A, sh20 f (8 * z - 64) = A := ⟨_, rfl⟩
  obtain ⟨C, hC⟩ : ∃ C, sh20 f (8 * (z + 1) - 64) = C := ⟨_, rfl⟩
  obtain ⟨G, hG⟩ : ∃ G, cg20 f = G := ⟨_, rfl⟩
  rw [hA] at HSA HSB hLA hsd
  rw [hC] at HSC hLC hsd
  rw [hG] at HSB HCL
  obtain ⟨D, hD⟩ : ∃ D, pto C 0 8 = D := ⟨_, rfl⟩
  rw [hD] at hsd
  have HDA := Lib.hid hsd
  have HDC := Lib.hid hD
  have hDl : D.length = 8 := by rw [← hD]; exact pto_len _ _ _
  have HEA : Hid (∀ w, (Op.equalIn 10000 32 (.agg (iCells A)) (.agg (iCells A))).run Try.prog w = .ok true w) := Lib.hid fun w => by
    have := shape_eq A A hLA hLA w
    rw [beq_self_eq_true] at this
    exact this
  have HED : Hid (∀ w, (Op.equalIn 10000 27 (.agg (iCells D)) (.agg (iCells D))).run Try.prog w = .ok true w) := Lib.hid fun w => by
    have := sds_eq D D hDl hDl w
    rw [beq_self_eq_true] at this
    exact this
  have HAS := Lib.hid (s40_size A hLA)
  have HAX := Lib.hid (s40_same z40 A z40_length hLA)
  have HCS := Lib.hid (s40_size C hLC)
  have HCX := Lib.hid (s40_same z40 C z40_length hLC)
  have HLA := Lib.hid (show 0 + 8 ≤ A.length by rw [hLA]; decide)
  have HLC := Lib.hid (show 0 + 8 ≤ C.length by rw [hLC]; decide)
  have HF := Lib.hid (f32n_size f hf)
  have hz := s40_zero
  have hz1I : (z : Int) + 1 = ((z + 1 : Nat) : Int) := by omega
  obtain ⟨y, hy⟩ : ∃ y, z + 1 = y := ⟨_, rfl⟩
  rw [hy] at hz1I HSC
  have hyI : (y : Int) ≤ 24 := by omega
  have hzI : (z : Int) ≤ 23 := by omega
  have HR : Hid (Row (w.alloc (.cells (iCells f) 22)) w.heap.size 22 (iCells f)) := Lib.hid (heap_alloc_new _ _)
  have HB : Hid (Below w.heap.size w (w.alloc (.cells (iCells f) 22))) := Lib.hid ((Below.refl _ _).alloc (Nat.le_refl _) _)
  clear hf hA hC hG hD hDl hLA hLC hsd hz1 hz2 HS HZ HC hy
  go_enter Try.func5, Try.ntmps5
  go_wp2_with fail
  generalize w.alloc (.cells (iCells f) 22) = w1 at *
  refine (HAW.out _).mono ?_
  rintro e w2 ⟨rfl, hb⟩
  have HR := Lib.hid (HR.out.box hb)
  have HB := Lib.hid (HB.out.trans (hb.mono HB.out.size))
  clear hb
  go_wp2_with (refine wpList_load_row rfl 22 (.tmp 2) rfl w.heap.size rfl 22 (iCells f) (0, 0) _ HR.out Try.underlying22 rfl HF.out ?_)
  refine (HSA.out _).mono ?_
  rintro e w3 ⟨rfl, hb⟩
  have HR := Lib.hid (HR.out.box hb)
  have HB := Lib.hid (HB.out.trans (hb.mono HB.out.size))
  clear hb
  have HN : Hid (Row (w3.alloc (.cells (iCells z40) 32)) w3.heap.size 32 (iCells z40)) := Lib.hid (heap_alloc_new _ _)
  go_upto_region 5 with (refine wpList_store_row rfl 32 (.tmp 6) (.tmp 22) rfl w3.heap.size (iCells A) rfl rfl 32 (iCells z40) HN.out HAS.out HAX.out (iCells_one _) ?_)
  have HGS := Lib.hid HB.out.size
  have NHRHA := Lib.hid (Nat.ne_of_lt (Row.lt HR.out))
  have HR := Lib.hid (row_laid HR.out (.cells (iCells z40) 32) (iCells A))
  have HB := Lib.hid (below_laid HB.out (.cells (iCells z40) 32) (iCells A))
  have HA := Lib.hid (Row.setRow HN.out (iCells A))
  generalize (w3.alloc (.cells (iCells z40) 32)).setRow w3.heap.size (iCells A) = w4 at *
  obtain ⟨ga, hg⟩ : ∃ g, w3.heap.size = g := ⟨_, rfl⟩
  rw [hg] at HA HGS NHRHA ⊢
  clear hg HN
  go_wp2_with (refine wpList_load_row rfl 22 (.tmp 2) rfl w.heap.size rfl 22 (iCells f) (0, 0) _ HR.out Try.underlying22 rfl HF.out ?_)
  refine (HCL.out _).mono ?_
  rintro e w5 ⟨rfl, hb⟩
  have HR := Lib.hid (HR.out.box hb)
  have HA := Lib.hid (HA.out.box hb)
  have HB := Lib.hid (HB.out.trans (hb.mono HB.out.size))
  clear hb
  go_wp2_with fail
  refine (HSB.out _).mono ?_
  rintro e w6 ⟨rfl, hb⟩
  have HR := Lib.hid (HR.out.box hb)
  have HA := Lib.hid (HA.out.box hb)
  have HB := Lib.hid (HB.out.trans (hb.mono HB.out.size))
  clear hb
  have HN : Hid (Row (w6.alloc (.cells (iCells z40) 32)) w6.heap.size 32 (iCells z40)) := Lib.hid (heap_alloc_new _ _)
  go_upto_region 6 with (refine wpList_store_row rfl 32 (.tmp 8) (.tmp 29) rfl w6.heap.size (iCells A) rfl rfl 32 (iCells z40) HN.out HAS.out HAX.out (iCells_one _) ?_)
  have HGS := Lib.hid HB.out.size
  have NHRHP := Lib.hid (Nat.ne_of_lt (Row.lt HR.out))
  have NHAHP := Lib.hid (Nat.ne_of_lt (Row.lt HA.out))
  have HR := Lib.hid (row_laid HR.out (.cells (iCells z40) 32) (iCells A))
  have HA := Lib.hid (row_laid HA.out (.cells (iCells z40) 32) (iCells A))
  have HB := Lib.hid (below_laid HB.out (.cells (iCells z40) 32) (iCells A))
  have HP := Lib.hid (Row.setRow HN.out (iCells A))
  generalize (w6.alloc (.cells (iCells z40) 32)).setRow w6.heap.size (iCells A) = w7 at *
  obtain ⟨gp, hg⟩ : ∃ g, w6.heap.size = g := ⟨_, rfl⟩
  rw [hg] at HP HGS NHRHP NHAHP ⊢
  clear hg HN
  go_wp2_with (refine wpList_load_row rfl 22 (.tmp 2) rfl w.heap.size rfl 22 (iCells f) (0, 0) _ HR.out Try.underlying22 rfl HF.out ?_)
  refine (HSC.out _).mono ?_
  rintro e w8 ⟨rfl, hb⟩
  have HR := Lib.hid (HR.out.box hb)
  have HA := Lib.hid (HA.out.box hb)
  have HP := Lib.hid (HP.out.box hb)
  have HB := Lib.hid (HB.out.trans (hb.mono HB.out.size))
  clear hb
  have HN : Hid (Row (w8.alloc (.cells (iCells z40) 32)) w8.heap.size 32 (iCells z40)) := Lib.hid (heap_alloc_new _ _)
  go_upto_region 7 with (refine wpList_store_row rfl 32 (.tmp 10) (.tmp 36) rfl w8.heap.size (iCells C) rfl rfl 32 (iCells z40) HN.out HCS.out HCX.out (iCells_one _) ?_)
  have HGS := Lib.hid HB.out.size
  have NHRHQ := Lib.hid (Nat.ne_of_lt (Row.lt HR.out))
  have NHAHQ := Lib.hid (Nat.ne_of_lt (Row.lt HA.out))
  have NHPHQ := Lib.hid (Nat.ne_of_lt (Row.lt HP.out))
  have HR := Lib.hid (row_laid HR.out (.cells (iCells z40) 32) (iCells C))
  have HA := Lib.hid (row_laid HA.out (.cells (iCells z40) 32) (iCells C))
  have HP := Lib.hid (row_laid HP.out (.cells (iCells z40) 32) (iCells C))
  have HB := Lib.hid (below_laid HB.out (.cells (iCells z40) 32) (iCells C))
  have HQ := Lib.hid (Row.setRow HN.out (iCells C))
  generalize (w8.alloc (.cells (iCells z40) 32)).setRow w8.heap.size (iCells C) = w9 at *
  obtain ⟨gq, hg⟩ : ∃ g, w8.heap.size = g := ⟨_, rfl⟩
  rw [hg] at HQ HGS NHRHQ NHAHQ NHPHQ ⊢
  clear hg HN
  have hEA := HEA.out
  have hED := HED.out
  go_wp2_with (first
    | (refine g_load_row (by rfl) 32 (.tmp 6) rfl ga rfl 32 (iCells A) (0, 0) _ HA.out Try.underlying32 rfl HAS.out ?_)
    | (refine g_load_row (by rfl) 32 (.tmp 8) rfl gp rfl 32 (iCells A) (0, 0) _ HP.out Try.underlying32 rfl HAS.out ?_)
    | (refine g_load_pto (by rfl) 27 (.tmp 54) rfl ga 0 8 rfl 32 A _ HA.out HLA.out Try.underlying27 rfl side_8n ?_; rw [HDA.out])
    | (refine g_load_pto (by rfl) 27 (.tmp 56) rfl gq 0 8 rfl 32 C _ HQ.out HLC.out Try.underlying27 rfl side_8n ?_; rw [HDC.out]))
  go_ret
  exact ⟨rfl, HB.out⟩
end Go.Proofs.Ytalbcimnnihmnaa
