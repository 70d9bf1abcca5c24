/-
  CodeLoud, walked. Conditions: a frame's 32 numbers, a number below 2^8; what code's Shape, Coefs and Silent and give's Bits answer.
-/
import Derived.Test.YtalbcimnnihmnaaQS13
import Derived.Test.YtalbcimnnihmnaaQS23
namespace Go.Proofs.Ytalbcimnnihmnaa
open Go.RowKit
open M
def SilOk : Prop := ∀ (l : List Int) (w : World), l.length = 40 → Calls Try.prog 13 #[.agg (iCells l)] w fun e w' => e = .returned (.bool (si20 l)) ∧ Below w.heap.size w w'
/-- Are the steps of the first i coefficients 0? -/
def sl20 (S : List Int) (i : Nat) : Bool := (List.range i).all fun j => decide (S.getD (j / 4) 0 = 0)
theorem si_sl (S : List Int) : si20 S = sl20 S 32 := by
  unfold si20 sl20
  rw [Bool.eq_iff_iff, Bool.and_eq_true, List.all_eq_true, List.all_eq_true, List.all_eq_true]
  constructor
  · rintro ⟨h1, _⟩ j hj
    have h2 := List.mem_range.1 hj
    exact h1 (j / 4) (List.mem_range.2 (by omega))
  · intro h1
    refine ⟨fun b hb => ?_, fun p hp => ?_⟩
    · have h2 := List.mem_range.1 hb
      have h3 := h1 (4 * b) (List.mem_range.2 (by omega))
      rw [show 4 * b / 4 = b by omega] at h3
      exact h3
    · have h2 := List.mem_range.1 hp
      have h3 := of_decide_eq_true (h1 p hp)
      have h4 := co_loud S p 0 h3 (by decide)
      rw [Int.pow_zero] at h4
      exact decide_eq_true (by omega)
set_option maxRecDepth 100000 in
set_option maxHeartbeats 2000000 in
theorem loud20_law (HS : ShaOk) (HC : CofOk) (HSil : SilOk) (HZ : BizOk) (f : List Int) (by8 : UInt8) (w : World) (hf : f.length = 32) :
    Calls Try.prog 4 #[.agg (iCells f), .int .u8 (ub by8)] w fun e w' => e = .returned (.bool true) ∧ Below w.heap.size w w' := by
  obtain ⟨hu1, hu2⟩ := ub_bd by8
  generalize ub by8 = u at *
  obtain ⟨z, hzu⟩ : ∃ z : Nat, 12 + u.tmod 13 = z := ⟨(12 + u.tmod 13).toNat, by have := Int.tmod_nonneg 13 hu1; omega⟩
  have hz1 : 12 ≤ z := by have := Int.tmod_nonneg 13 hu1; omega
  have hz2 : z ≤ 24 := by have := Int.tmod_lt_of_pos u (show (0 : Int) < 13 by decide); omega
  obtain ⟨q, hqu⟩ : ∃ q : Nat, u.tmod 13 = q := ⟨(u.tmod 13).toNat, by have := Int.tmod_nonneg 13 hu1; omega⟩
  have hzq : (12 : Int) + (q : Int) = (z : Int) := by omega
  clear hzu
  have HAW := Lib.hid fun w => awake20_any HS HZ w
  have HSA := Lib.hid fun w => HS f (z : Int) w hf
  rw [(sh_in f z hz1 hz2).1, (sh_in f z hz1 hz2).2] at HSA
  have hLA := sh20_len f (8 * z - 64)
  have hst : ∀ b, b < 8 → (sh20 f (8 * z - 64)).getD b 0 = (sd20 (cg20 f) b : Int) := fun b hb => sq20_step _ _ _ _ hb
  obtain ⟨S, hS⟩ : ∃ S, sh20 f (8 * z - 64) = S := ⟨_, rfl⟩
  rw [hS] at HSA hLA hst
  have HST : Hid (∀ i : Nat, i < 32 → ∃ (b s G : Nat) (c : Int), (i : Int).tdiv 4 = (b : Int) ∧ (i : Int) / 4 = (b : Int) ∧ i / 4 = b ∧ b < 8 ∧ S.getD b 0 = (s : Int) ∧ s ≤ 15 ∧ IntKind.i64.wrap (12 * 2 ^ s) = (G : Int) ∧ G ≤ 393216 ∧ co20 S i = c ∧ c ≤ (G : Int) ∧ -(G : Int) ≤ c) := Lib.hid fun i hi => by
    have hb : i / 4 < 8 := by omega
    have h15 := sd20_le (cg20 f) (i / 4)
    have h1 := hst (i / 4) hb
    obtain ⟨s, hs⟩ : ∃ s, sd20 (cg20 f) (i / 4) = s := ⟨_, rfl⟩
    rw [hs] at h1 h15
    have h2 := co_loud S i s h1 h15
    have hG := pow15 s h15
    obtain ⟨G, hGG⟩ : ∃ G : Nat, 12 * (2 : Int) ^ s = (G : Int) := ⟨(12 * (2 : Int) ^ s).toNat, by omega⟩
    rw [hGG] at h2
    have hGb : G ≤ 393216 := by omega
    exact ⟨i / 4, s, G, co20 S i, by rw [Int.tdiv_eq_ediv_of_nonneg (by omega)]; omega, by omega, rfl, hb, h1, h15, by rw [hGG, IntKind.wrap_i64]; omega, hGb, rfl, h2.2, h2.1⟩
  have HSI : Hid (si20 S = sl20 S 32) := Lib.hid (si_sl S)
  have HSL := Lib.hid fun w => HSil S w hLA
  rw [HSI.out] at HSL
  have HCF := Lib.hid fun w => HC S w hLA
  have hcl : (cf20 S).length = 32 := cp20_len _ _
  have hcg : ∀ i, i < 32 → (cf20 S).getD i 0 = co20 S i := fun i hi => cf20_getD S i hi
  obtain ⟨F, hF⟩ : ∃ F, cf20 S = F := ⟨_, rfl⟩
  rw [hF] at HCF hcl hcg
  have HCG := Lib.hid hcg
  have HLS := Lib.hid hLA
  have HLF := Lib.hid hcl
  have HSS := Lib.hid (s40_size S hLA)
  have HSX := Lib.hid (s40_same z40 S z40_length hLA)
  have HFS := Lib.hid (fra_size F hcl)
  have HFX := Lib.hid (fra_same z20 F z20_len hcl)
  have HF := Lib.hid (f32n_size f hf)
  have hz := s40_zero
  have hzf := fra_zero
  have hzI : (z : Int) ≤ 24 := by omega
  have HR : Hid (Row (w.alloc (.cells (iCells f) 22)) w.heap.size 22 (iCells f)) := Lib.hid (heap_alloc_new _ _)
  have HB : Hid (Below w.heap.size w (w.alloc (.cells (iCells f) 22))) := Lib.hid ((Below.refl _ _).alloc (Nat.le_refl _) _)
  clear hf hS hF hcl hcg hLA hst hz1 hz2 HS HZ HC HSil HSI
  go_enter Try.func4, Try.ntmps4
  go_wp2_with fail
  generalize w.alloc (.cells (iCells f) 22) = w1 at *
  refine (HAW.out _).mono ?_
  rintro e w2 ⟨rfl, hb⟩
  have HR := Lib.hid (HR.out.box hb)
  have HB := Lib.hid (HB.out.trans (hb.mono HB.out.size))
  clear hb
  go_wp2_with (refine wpList_load_row rfl 22 (.tmp 2) rfl w.heap.size rfl 22 (iCells f) (0, 0) _ HR.out Try.underlying22 rfl HF.out ?_)
  refine (HSA.out _).mono ?_
  rintro e w3 ⟨rfl, hb⟩
  have HR := Lib.hid (HR.out.box hb)
  have HB := Lib.hid (HB.out.trans (hb.mono HB.out.size))
  clear hb
  have HN : Hid (Row (w3.alloc (.cells (iCells z40) 32)) w3.heap.size 32 (iCells z40)) := Lib.hid (heap_alloc_new _ _)
  go_upto_region 4 with (refine wpList_store_row rfl 32 (.tmp 5) (.tmp 20) rfl w3.heap.size (iCells S) rfl rfl 32 (iCells z40) HN.out HSS.out HSX.out (iCells_one _) ?_)
  have HGS := Lib.hid HB.out.size
  have NHRHA := Lib.hid (Nat.ne_of_lt (Row.lt HR.out))
  have HR := Lib.hid (row_laid HR.out (.cells (iCells z40) 32) (iCells S))
  have HB := Lib.hid (below_laid HB.out (.cells (iCells z40) 32) (iCells S))
  have HA := Lib.hid (Row.setRow HN.out (iCells S))
  generalize (w3.alloc (.cells (iCells z40) 32)).setRow w3.heap.size (iCells S) = w4 at *
  obtain ⟨ga, hg⟩ : ∃ g, w3.heap.size = g := ⟨_, rfl⟩
  rw [hg] at HA HGS NHRHA ⊢
  clear hg HN
  go_wp2_with (refine wpList_load_row rfl 32 (.tmp 5) rfl ga rfl 32 (iCells S) (0, 0) _ HA.out Try.underlying32 rfl HSS.out ?_)
  refine (HCF.out _).mono ?_
  rintro e w5 ⟨rfl, hb⟩
  have HA := Lib.hid (HA.out.box hb)
  have HB := Lib.hid (HB.out.trans (hb.mono HB.out.size))
  clear hb
  have HN : Hid (Row (w5.alloc (.cells (iCells z20) 43)) w5.heap.size 43 (iCells z20)) := Lib.hid (heap_alloc_new _ _)
  go_upto_region 5 with (refine wpList_store_row rfl 43 (.tmp 7) (.tmp 23) rfl w5.heap.size (iCells F) rfl rfl 43 (iCells z20) HN.out HFS.out HFX.out (iCells_one _) ?_)
  have HGS := Lib.hid HB.out.size
  have NHAHP := Lib.hid (Nat.ne_of_lt (Row.lt HA.out))
  have HA := Lib.hid (row_laid HA.out (.cells (iCells z20) 43) (iCells F))
  have HB := Lib.hid (below_laid HB.out (.cells (iCells z20) 43) (iCells F))
  have HP := Lib.hid (Row.setRow HN.out (iCells F))
  generalize (w5.alloc (.cells (iCells z20) 43)).setRow w5.heap.size (iCells F) = w6 at *
  obtain ⟨gp, hg⟩ : ∃ g, w5.heap.size = g := ⟨_, rfl⟩
  rw [hg] at HP HGS NHAHP ⊢
  clear hg HN
  clear hz hzf
  go_wp2_with fail
  go_loop [8, 9] (fun ss ii => ∃ (i : Nat), i ≤ 32 ∧ ii = .int .i64 (i : Int) ∧ ss = .bool (sl20 S i)) (fun _ ii => 32 - (intOf ii).toNat)
  case atStart => exact ⟨0, by omega, rfl, rfl⟩
  case round =>
    obtain ⟨i, hi32, rfl, rfl⟩ := hrel
    rcases Nat.lt_or_ge i 32 with hlt | hge
    · obtain ⟨b, s, G, c, h1, h2, h3, h4, h5, h6, h7, h8, h9, h10, h11⟩ := HST.out i hlt
      have HI := Lib.hid hlt
      have hiI : (i : Int) < 32 := by omega
      have hbI : (b : Int) < 8 := by omega
      have c0 := i_at HA.out b (by rw [HLS.out]; omega)
      rw [h5] at c0
      have c1 := i_at HP.out i (by rw [HLF.out]; exact hlt)
      rw [HCG.out i hlt, h9] at c1
      have n1 := and15 (s : Int)
      rw [show (s : Int) % 16 = (s : Int) by omega] at n1
      have hsI : (s : Int) ≤ 15 := by omega
      have hs0 : (0 : Int) ≤ (s : Int) := by omega
      have hGI : (G : Int) ≤ 393216 := by omega
      have d1 : decide (c > (G : Int)) = false := decide_eq_false (by omega)
      have d2 : decide ((G : Int) < c) = false := decide_eq_false (by omega)
      have d3 : decide (c < -(G : Int)) = false := decide_eq_false (by omega)
      have hn : wrap64 (-(G : Int)) = -(G : Int) := by rw [wrap64]; omega
      have hst : sl20 S (i + 1) = (sl20 S i && decide (s = 0)) := by
        unfold sl20
        rw [List.range_succ, List.all_append]
        show (_ && (decide (S.getD (i / 4) 0 = 0) && true)) = _
        rw [h3, h5, Bool.and_true]
        congr 1
        rw [decide_eq_decide]
        omega
      have HSTP := Lib.hid hst
      clear hi32 hlt h3 h4 h5 h6 h8 h9 h10 h11 hst
      by_cases hs : s = 0
      · have e1 : ((s : Int) == 0) = true := by rw [beq_iff_eq]; omega
        have e2 : (s == 0) = true := by rw [beq_iff_eq]; exact hs
        rw [decide_eq_true hs] at HSTP
        clear hs
        cases hsl : sl20 S i
        · rw [hsl] at HSTP
          clear hsl
          go_wp2_with fail
          go_round
          case rel => exact ⟨i + 1, HI.out, by go_num, by rw [HSTP.out]; rfl⟩
          case measure =>
            have := HI.out
            simp [intOf] <;> omega
        · rw [hsl] at HSTP
          clear hsl
          go_wp2_with fail
          go_round
          case rel => exact ⟨i + 1, HI.out, by go_num, by rw [HSTP.out]; rfl⟩
          case measure =>
            have := HI.out
            simp [intOf] <;> omega
      · have e1 : ((s : Int) == 0) = false := by rw [beq_eq_false_iff_ne]; omega
        have e2 : (s == 0) = false := by rw [beq_eq_false_iff_ne]; exact hs
        rw [decide_eq_false hs] at HSTP
        cases hsl : sl20 S i
        · rw [hsl] at HSTP
          clear hsl hs
          go_wp2_with fail
          go_round
          case rel => exact ⟨i + 1, HI.out, by go_num, by rw [HSTP.out]; rfl⟩
          case measure =>
            have := HI.out
            simp [intOf] <;> omega
        · rw [hsl] at HSTP
          clear hsl
          go_wp2_with fail
          go_round
          case rel => exact ⟨i + 1, HI.out, by go_num, by rw [HSTP.out]; rfl⟩
          case measure =>
            have := HI.out
            simp [intOf] <;> omega
    · obtain rfl : i = 32 := by omega
      clear hi32 hge
      obtain ⟨v, hv⟩ : ∃ v, sl20 S 32 = v := ⟨_, rfl⟩
      rw [hv] at HSL ⊢
      have hvv : (v == v) = true := beq_self_eq_true v
      go_wp2_with (refine g_load_row (by rfl) 32 (.tmp 5) rfl ga rfl 32 (iCells S) (0, 0) _ HA.out Try.underlying32 rfl HSS.out ?_)
      refine (HSL.out _).mono ?_
      rintro e w20 ⟨rfl, hb⟩
      have HB := Lib.hid (HB.out.trans (hb.mono HB.out.size))
      clear hb
      go_wp2_with fail
      go_ret
      exact ⟨rfl, HB.out⟩
end Go.Proofs.Ytalbcimnnihmnaa
