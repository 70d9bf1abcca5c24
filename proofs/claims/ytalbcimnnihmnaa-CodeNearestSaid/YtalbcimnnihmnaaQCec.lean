/-
  Layer 20: code's apart and Error. Conditions: a frame's 32 numbers, a shape's 40.
-/
import Derived.Test.YtalbcimnnihmnaaQS17
import Derived.Test.YtalbcimnnihmnaaQS16
namespace Go.Proofs.Ytalbcimnnihmnaa
open Go.RowKit
open M
theorem apart_any (a b : Int) (w : World) (ha : -4194304 ≤ a ∧ a ≤ 4194304) (hb : -4194304 ≤ b ∧ b ≤ 4194304) :
    Calls Try.prog 21 #[.int .i64 a, .int .i64 b] w fun e w' => e = .returned (.int .i64 ((a - b).natAbs : Nat)) ∧ w' = w := by
  have e1 : wrap64 (a - b) = a - b := by rw [wrap64]; omega
  have e2 : wrap64 (b - a) = b - a := by rw [wrap64]; omega
  by_cases h : b - a > a - b
  · have hm : ((a - b).natAbs : Int) = b - a := by omega
    rw [hm]
    clear ha hb hm
    go_enter Try.func21, Try.ntmps21
    go_wp2
    go_ret
    exact ⟨rfl, rfl⟩
  · have hm : ((a - b).natAbs : Int) = a - b := by omega
    rw [hm]
    clear ha hb hm
    go_enter Try.func21, Try.ntmps21
    go_wp2
    go_ret
    exact ⟨rfl, rfl⟩
set_option maxRecDepth 100000 in
set_option maxHeartbeats 2000000 in
theorem error20_any (f l : List Int) (w : World) (hf : f.length = 32) (hl : l.length = 40) :
    Calls Try.prog 8 #[.agg (iCells f), .agg (iCells l)] w fun e w' => e = .returned (.int .i64 (er20 f l 32 : Nat)) ∧ Below w.heap.size w w' := by
  have hz := fra_zero
  have HR1 : Hid (Row ((w.alloc (.cells (iCells f) 43)).alloc (.cells (iCells l) 32)) w.heap.size 43 (iCells f)) := Lib.hid (Row.alloc (heap_alloc_new _ _) _)
  have HR2 : Hid (Row ((w.alloc (.cells (iCells f) 43)).alloc (.cells (iCells l) 32)) (w.heap.size + 1) 32 (iCells l)) := Lib.hid (row_new _ _ (by simp) _ _)
  have HB : Hid (Below w.heap.size w ((w.alloc (.cells (iCells f) 43)).alloc (.cells (iCells l) 32))) := Lib.hid (((Below.refl _ _).alloc (Nat.le_refl _) _).alloc (by simp) _)
  have HCO := Lib.hid fun w => coefs20_any l w hl
  have HCM := Lib.hid fun w => clamp20_any f w hf
  have HSS := Lib.hid (s40_size l hl)
  have HSF := Lib.hid (fra_size f hf)
  have HGL := Lib.hid (show (cg20 f).length = 32 from cq20_len _ _)
  have HGA := Lib.hid fun k (hk : k < 32) => cg20_getD f k hk
  clear hf hl
  go_enter Try.func8, Try.ntmps8
  go_wp2_with (refine wpList_load_row rfl 32 (.tmp 3) rfl (w.heap.size + 1) rfl 32 (iCells l) (0, 0) _ HR2.out Try.underlying32 rfl HSS.out ?_)
  refine (HCO.out _).mono ?_
  rintro e w2 ⟨rfl, hb⟩
  have HR1 := Lib.hid (HR1.out.box hb)
  have HB := Lib.hid (HB.out.trans (hb.mono HB.out.size))
  clear hb HR2
  have HSK := Lib.hid (fra_size (cf20 l) (cp20_len _ _))
  have HSE := Lib.hid (fra_same z20 (cf20 l) z20_len (cp20_len _ _))
  have HK : Hid (Row (w2.alloc (.cells (iCells z20) 43)) w2.heap.size 43 (iCells z20)) := Lib.hid (heap_alloc_new _ _)
  go_upto_region 2 with (refine wpList_store_row rfl 43 (.tmp 6) (.tmp 10) rfl w2.heap.size (iCells (cf20 l)) rfl rfl 43 (iCells z20) HK.out HSK.out HSE.out (iCells_one _) ?_)
  have HR1 := Lib.hid (row_laid HR1.out (.cells (iCells z20) 43) (iCells (cf20 l)))
  have HB := Lib.hid (below_laid HB.out (.cells (iCells z20) 43) (iCells (cf20 l)))
  have HK := Lib.hid (Row.setRow HK.out (iCells (cf20 l)))
  generalize (w2.alloc (.cells (iCells z20) 43)).setRow w2.heap.size (iCells (cf20 l)) = w4 at *
  obtain ⟨g, hg⟩ : ∃ g, w.heap.size = g := ⟨_, rfl⟩
  obtain ⟨g5, hg5⟩ : ∃ g, w2.heap.size = g := ⟨_, rfl⟩
  rw [hg] at HR1
  rw [hg5] at HK
  rw [hg, hg5]
  clear hg hg5 hz
  go_wp2_with (refine wpList_load_row rfl 43 (.tmp 2) rfl g rfl 43 (iCells f) (0, 0) _ HR1.out Try.underlying43 rfl HSF.out ?_)
  refine (HCM.out _).mono ?_
  rintro e w5 ⟨rfl, hb⟩
  have HK := Lib.hid (HK.out.box hb)
  have HB := Lib.hid (HB.out.trans (hb.mono HB.out.size))
  clear hb HR1 HSF
  obtain ⟨F, hF⟩ : ∃ F, cg20 f = F := ⟨_, rfl⟩
  rw [hF] at HGL HGA ⊢
  have HIX := Lib.hid fun k hk w => index_frame F HGL.out k hk w
  clear hF
  go_wp2_with fail
  go_loopw [5, 13] (fun nn ii wr => ∃ (k n : Nat), k ≤ 32 ∧ ii = .int .i64 (k : Int) ∧ nn = .int .i64 (n : Int) ∧ n = er20 f l k ∧ n ≤ 1441792 * k ∧ Row wr g5 43 (iCells (cf20 l)) ∧ Below w.heap.size w wr) (fun _ ii _ => 32 - (intOf ii).toNat)
  case atStart => exact ⟨0, 0, by omega, rfl, rfl, rfl, by omega, HK.out, HB.out⟩
  case round =>
    clear HK HB
    obtain ⟨k, n, hk, rfl, rfl, hn, hnb, hr5, hb⟩ := hrel
    have HR5 := Lib.hid hr5
    have HB := Lib.hid hb
    have HN := Lib.hid fun _ : Unit => hn
    have hnI : (n : Int) ≤ 46137344 := by omega
    rcases Nat.lt_or_ge k 32 with hlt | hge
    · have hkI : (k : Int) < 32 := by omega
      have HKK := Lib.hid hlt
      have HNB := Lib.hid hnb
      have hix := HIX.out k hlt
      rw [HGA.out k hlt] at hix
      have c1 := i_at hr5 k (by unfold cf20; rw [cp20_len]; exact hlt)
      rw [cf20_getD l k hlt] at c1
      obtain ⟨b1, b2⟩ := co20_bd l k
      obtain ⟨b3, b4⟩ := cl20_bd (f.getD k 0)
      have HE := Lib.hid (show er20 f l (k + 1) = er20 f l k + (cl20 (f.getD k 0) - co20 l k).natAbs from rfl)
      obtain ⟨u, hu⟩ : ∃ u, cl20 (f.getD k 0) = u := ⟨_, rfl⟩
      rw [hu] at HE b3 b4 hix
      obtain ⟨v, hv⟩ : ∃ v, co20 l k = v := ⟨_, rfl⟩
      rw [hv] at c1 HE b1 b2
      have HAP := Lib.hid fun w => apart_any u v w (by omega) (by omega)
      obtain ⟨m, hm⟩ : ∃ m, (u - v).natAbs = m := ⟨_, rfl⟩
      have hmb : m ≤ 1441792 := by omega
      have HMB := Lib.hid hmb
      rw [hm] at HE HAP
      have e2 : IntKind.i64.wrap ((n : Int) + (m : Int)) = ((n + m : Nat) : Int) := by rw [IntKind.wrap_i64]; omega
      clear hk hlt hn hnb hr5 hb hu hv hm b1 b2 b3 b4 hmb
      go_wp2_with fail
      refine (HAP.out _).mono ?_
      rintro e w6 ⟨rfl, rfl⟩
      go_wp2_with fail
      go_roundw
      case rel => exact ⟨k + 1, n + m, HKK.out, by go_num, rfl, by rw [HE.out, HN.out ()], by have h1 := HNB.out; have h2 := HMB.out; omega, HR5.out, HB.out⟩
      case measure =>
        have := HKK.out
        simp [intOf] <;> omega
    · obtain rfl : k = 32 := by omega
      have HF := Lib.hid (show er20 f l 32 = n from hn.symm)
      clear hk hge hr5 hb hn hnb
      go_wp2_with fail
      go_ret
      exact ⟨by rw [HF.out]; rfl, HB.out⟩
end Go.Proofs.Ytalbcimnnihmnaa
