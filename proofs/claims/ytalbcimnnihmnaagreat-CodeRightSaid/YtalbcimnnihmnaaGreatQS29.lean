/-
  Contracts and plain facts that the laws share; each piece is headed by what it holds and its conditions.
-/
import Derived.Test.YtalbcimnnihmnaaGreatQS5
import Derived.Test.YtalbcimnnihmnaaGreatQS28
import Derived.Test.YtalbcimnnihmnaaGreatQS10
import Derived.Test.YtalbcimnnihmnaaGreatQGvv
import Derived.Test.YtalbcimnnihmnaaGreatQS11
import Derived.Test.YtalbcimnnihmnaaGreatQS21
import Derived.Test.YtalbcimnnihmnaaGreatQS13
import Derived.Test.YtalbcimnnihmnaaGreatQS8
import Derived.StillTailTactics
import Derived.Deep.Cut
import Derived.Deep.QuietTactic
import Derived.BigQuiet
import Derived.Deep.WholeRow
import Derived.Lib.QuietBelow

/- A number's lowest four bits; a list with one number put anew. No program is named here. No conditions but those that each fact names. -/
namespace Go.Proofs.YtalbcimnnihmnaaGreat
open Go.RowKit
open M
theorem and15 (p : Int) : bits .and .i64 p 15 = p % 16 := by
  have h1 : ((BitVec.ofInt 64 p).toNat : Int) = p % 18446744073709551616 := by
    rw [BitVec.toNat_ofInt]
    have := Int.emod_nonneg p (show (18446744073709551616 : Int) ≠ 0 by decide)
    show ((p % 18446744073709551616).toNat : Int) = _
    omega
  have h2 : (BitVec.ofInt 64 p &&& BitVec.ofInt 64 15).toNat = (BitVec.ofInt 64 p).toNat % 16 := by
    rw [BitVec.toNat_and]
    exact Nat.and_two_pow_sub_one_eq_mod _ 4
  show IntKind.i64.wrap ((BitVec.ofInt 64 p &&& BitVec.ofInt 64 15).toNat : Int) = _
  rw [h2, IntKind.wrap_i64]
  omega
theorem set_getD13 (l : List Int) (i p : Nat) (v : Int) (h : i < l.length) : (l.set i v).getD p 0 = if p = i then v else l.getD p 0 := by
  rw [List.getD_eq_getElem?_getD, List.getElem?_set]
  by_cases e : i = p
  · subst e
    rw [if_pos rfl, if_pos h, if_pos rfl]
    rfl
  · rw [if_neg e, if_neg (fun h => e h.symm), List.getD_eq_getElem?_getD]
end Go.Proofs.YtalbcimnnihmnaaGreat

/- give's Bits, allCosts and more. Conditions: what pvq's Bits answers; up to 12 pulses. -/
namespace Go.Proofs.YtalbcimnnihmnaaGreat
open Go.RowKit
open M
theorem index_i8 (l : List Int) (hl : l.length = 8) (k : Nat) (hk : k < 8) (w : World) :
    (Instr.index 24 (.agg (iCells l)) (.int .i64 k)).run Tryz.prog w = .ok (.int .i64 (l.getD k 0)) w := by
  obtain ⟨i, hi, _, _, _⟩ := info_parts int_info
  have c := iCells_get l k (by omega)
  simp [Instr.index, run_underlying Tryz.underlying24, asIntOf, hk, run_sizeOf w hi, cells_intS, c, go_sem]
/-- What the first bands cost. -/
def ps18 (k : Nat → Nat) : Nat → Nat
  | 0 => 0
  | n + 1 => ps18 k n + btc (k n)
theorem ps18_all (k : Nat → Nat) : ps18 k 8 = cst8 k := by simp [ps18, cst8, sum8]
theorem ps18_bd (k : Nat → Nat) (n : Nat) : ps18 k n ≤ 13 * n := by
  induction n with
  | zero => exact Nat.le_refl _
  | succ n ih => have := btc_bd (k n); unfold ps18; omega
theorem bizOk : BizOk := by
  intro n w
  by_cases h1 : n < 12
  · have e : bz18 n = 0 := if_neg (by omega)
    rw [e]
    clear e
    go_enter Tryz.func11, Tryz.ntmps11
    go_wp2
    go_ret
    exact ⟨rfl, Below.refl _ _⟩
  · by_cases h2 : n > 24
    · have e : bz18 n = 0 := if_neg (by omega)
      rw [e]
      clear e
      go_enter Tryz.func11, Tryz.ntmps11
      go_wp2
      go_ret
      exact ⟨rfl, Below.refl _ _⟩
    · have e : bz18 n = 8 * n - 64 := if_pos (by omega)
      have e1 : wrap64 (8 * n) = 8 * n := by rw [wrap64]; omega
      have e2 : wrap64 (8 * n - 64) = 8 * n - 64 := by rw [wrap64]; omega
      rw [e]
      clear e
      go_enter Tryz.func11, Tryz.ntmps11
      go_wp2
      go_ret
      exact ⟨rfl, Below.refl _ _⟩
/-- What pulses cost, as far as p of them. -/
def co18 (p : Nat) : List Int := (List.range 13).map fun i => if i < p then (btc i : Int) else 0
theorem co18_len (p : Nat) : (co18 p).length = 13 := by simp [co18]
theorem co18_at (p i : Nat) (h : i < 13) (h2 : i < p) : (co18 p).getD i 0 = (btc i : Int) := by
  simp only [co18, List.getD_eq_getElem?_getD, List.getElem?_map, List.getElem?_range h, Option.map_some, Option.getD_some]
  rw [if_pos h2]
theorem co18_put (p : Nat) : (co18 p).set p (btc p : Int) = co18 (p + 1) := by
  apply List.ext_getElem
  · simp [co18]
  · intro i h1 h2
    simp only [co18, List.getElem_set, List.getElem_map, List.getElem_range]
    by_cases e : p = i
    · subst e; rw [if_pos rfl, if_pos (by omega)]
    · rw [if_neg e]
      by_cases e2 : i < p
      · rw [if_pos e2, if_pos (by omega)]
      · rw [if_neg e2, if_neg (by omega)]
def cz18 : List Int := List.replicate 13 0
theorem co18_zero : co18 0 = cz18 := by decide +kernel
theorem costs_info : (Tryz.prog.info? 78).map (fun i => (i.zero, i.size)) = some (some (.agg (iCells cz18)), 13) := by kernel_rfl
theorem costs_zero (w : World) : (zeroValue 78).run Tryz.prog w = .ok (.agg (iCells cz18)) w := (zero_of_info costs_info).1 w
theorem costs_size (l : List Int) (h : l.length = 13) : (Tryz.prog.info? 78).map (·.size) = some (iCells l).size := by
  rw [iCells_size, h]; exact (zero_of_info costs_info).2
set_option maxRecDepth 100000 in
theorem allcosts_any (HV : BvOk) (w : World) : Calls Tryz.prog 37 #[] w fun e w' => e = .returned (.agg (iCells (co18 13))) ∧ Below w.heap.size w w' := by
  have hz := costs_zero
  have HVC := Lib.hid HV
  have HR0 : Hid (Row ((w.alloc (.cells (iCells cz18) 78)).alloc (.cells (iCells cz18) 78)) w.heap.size 78 (iCells cz18)) := Lib.hid (Row.alloc (heap_alloc_new _ _) _)
  have HR1 : Hid (Row ((w.alloc (.cells (iCells cz18) 78)).alloc (.cells (iCells cz18) 78)) (w.heap.size + 1) 78 (iCells cz18)) := Lib.hid (row_new _ _ (by simp) _ _)
  have HB : Hid (Below w.heap.size w ((w.alloc (.cells (iCells cz18) 78)).alloc (.cells (iCells cz18) 78))) := Lib.hid (((Below.refl _ _).alloc (Nat.le_refl _) _).alloc (by simp) _)
  have HC0 := Lib.hid co18_zero
  clear HV
  go_enter Tryz.func37, Tryz.ntmps37
  go_wp2_with fail
  generalize (w.alloc (.cells (iCells cz18) 78)).alloc (.cells (iCells cz18) 78) = w1 at *
  obtain ⟨g, hg⟩ : ∃ g, w.heap.size = g := ⟨_, rfl⟩
  have HG := Lib.hid fun _ : Unit => hg
  rw [hg] at HR0 HR1 HB ⊢
  clear hg hz
  go_loopw [3] (fun ii wr => ∃ (n : Nat), n ≤ 13 ∧ ii = .int .i64 n ∧ Row wr (g + 1) 78 (iCells (co18 n)) ∧ Row wr g 78 (iCells cz18) ∧ Below g w wr) (fun ii _ => 13 - (intOf ii).toNat)
  case atStart => exact ⟨0, by omega, rfl, by rw [HC0.out]; exact HR1.out, HR0.out, HB.out⟩
  case round =>
    clear HR0 HR1 HB
    obtain ⟨n, hn, rfl, hr1, hr0, hb⟩ := hrel
    have HR1 := Lib.hid hr1
    have HR0 := Lib.hid hr0
    have HB := Lib.hid hb
    rcases Nat.lt_or_ge n 13 with hlt | hge
    · have HV1 := Lib.hid fun w => HVC.out n w (by omega)
      have HPUT := Lib.hid (co18_put n)
      obtain ⟨c, hc⟩ : ∃ c, btc n = c := ⟨_, rfl⟩
      rw [hc] at HV1 HPUT
      have HK := Lib.hid hlt
      have hnI : (n : Int) < 13 := by omega
      clear hn hr1 hr0 hb hc
      go_wp2_with fail
      refine (HV1.out _).mono ?_
      rintro e w2 ⟨rfl, hb⟩
      have hr2 := HR1.out.box hb
      have HR1 := Lib.hid hr2
      have HR0 := Lib.hid (HR0.out.box hb)
      have HB := Lib.hid (HB.out.trans (hb.mono (by have := HB.out.size; rw [HG.out ()] at this; exact this)))
      have c0 := i_at hr2 n (by rw [co18_len]; exact hlt)
      have f0 := hr2.free n
      clear hb HV1 hr2 hlt
      go_wp2_with fail
      go_roundw
      case rel => exact ⟨n + 1, HK.out, by go_num, by rw [← HPUT.out, ← iCells_set]; exact HR1.out.set n _, HR0.out.far (p := ⟨g + 1, n, none⟩) (by simp only; omega) _, Below.setCell HB.out (p := ⟨g + 1, n, none⟩) (by simp only; omega) _⟩
      case measure =>
        have := HK.out
        simp [intOf] <;> omega
    · obtain rfl : n = 13 := by omega
      have HSF := Lib.hid (costs_size (co18 13) (co18_len _))
      have HSX : Hid ((iCells cz18).size = (iCells (co18 13)).size) := Lib.hid (by rw [iCells_size, iCells_size, co18_len]; simp [cz18])
      clear hn hge hr1 hr0 hb
      go_wp2_with (first
        | (refine wpList_load_row rfl 78 (.tmp 1) rfl (g + 1) rfl 78 (iCells (co18 13)) (0, 0) _ HR1.out Tryz.underlying78 rfl HSF.out ?_)
        | (refine wpList_store_row rfl 78 (.tmp 0) (.tmp 11) rfl g (iCells (co18 13)) rfl rfl 78 (iCells cz18) HR0.out HSF.out HSX.out (iCells_one _) ?_))
      refine bodyPost_ret (v := .agg (iCells (co18 13))) (results_cell_row Tryz.results37 _ _ g 78 (iCells (co18 13)) (0, 0) _ rfl (Row.setRow HR0.out _) Tryz.underlying78 rfl HSF.out) rfl ⟨rfl, by rw [HG.out ()]; exact below_setRow HB.out (Nat.le_refl _) _⟩
/-- Whether one more can be had. -/
def mo18 (k l : Nat) : Bool := decide (k < 12) && decide (inc k ≤ l)
def pr18 (k : Nat) : Nat := if k < 12 then inc k else 0
theorem mo18_cang (k : Nat → Nat) (l b : Nat) : cang k l b = mo18 (k b) l := rfl
set_option maxRecDepth 100000 in
theorem more_any (g k l : Nat) (w : World) (hr : Row w g 78 (iCells (co18 13))) (hk : k ≤ 12) :
    Calls Tryz.prog 41 #[.pointer (some ⟨g, 0, none⟩), .int .i64 (k : Int), .int .i64 (l : Int)] w fun e w' => e = .returned (.tuple #[.int .i64 (pr18 k : Nat), .bool (mo18 k l)]) ∧ Below w.heap.size w w' := by
  rcases Nat.lt_or_ge k 12 with hlt | hge
  · have c0 := i_at hr k (by rw [co18_len]; omega)
    have c1 := i_at hr (k + 1) (by rw [co18_len]; omega)
    rw [co18_at 13 k (by omega) (by omega)] at c0
    rw [co18_at 13 (k + 1) (by omega) (by omega)] at c1
    have e1 := btc_inc k hlt
    have hb1 := btc_bd k
    have hb2 := btc_bd (k + 1)
    have e2 : pr18 k = inc k := if_pos hlt
    have e3 : mo18 k l = decide (inc k ≤ l) := by unfold mo18; rw [decide_eq_true hlt, Bool.true_and]
    rw [e2, e3]
    obtain ⟨a, ha⟩ : ∃ a, btc k = a := ⟨_, rfl⟩
    obtain ⟨b, hb⟩ : ∃ b, btc (k + 1) = b := ⟨_, rfl⟩
    obtain ⟨c, hc⟩ : ∃ c, inc k = c := ⟨_, rfl⟩
    rw [ha] at c0 e1 hb1
    rw [hb] at c1 e1 hb2
    rw [hc] at e1 ⊢
    have e4 : IntKind.i64.wrap ((b : Int) - (a : Int)) = (c : Int) := by rw [e1]; exact wi_id _ (by omega) (by omega)
    obtain ⟨k1, hk1⟩ : ∃ k1, k + 1 = k1 := ⟨_, rfl⟩
    have e5 : (k : Int) + 1 = (k1 : Int) := by omega
    have e6 : IntKind.i64.wrap ((k : Int) + 1) = (k1 : Int) := by rw [e5]; exact wi_id _ (by omega) (by omega)
    have e7 : IntKind.i64.wrap (k1 : Int) = (k1 : Int) := wi_id _ (by omega) (by omega)
    have hkI : (k : Int) < 13 := by omega
    have hk1I : (k1 : Int) < 13 := by omega
    have hk12 : (k : Int) < 12 := by omega
    rw [hk1] at c1
    have hge : ¬ (12 : Int) ≤ (k : Int) := by omega
    clear e2 e3 ha hb hc e1 hb1 hb2 hk1 hr hk hlt
    go_enter Tryz.func41, Tryz.ntmps41
    go_wp2_with fail
    go_quiet (fail)
    go_wp2_with fail
    go_ret2
    exact ⟨rfl, Below.drewN (Below.refl _ _) _⟩
  · obtain rfl : k = 12 := by omega
    have e2 : pr18 12 = 0 := rfl
    have e3 : mo18 12 l = false := by unfold mo18; rw [decide_eq_false (by omega), Bool.false_and]
    rw [e2, e3]
    clear e2 e3
    go_enter Tryz.func41, Tryz.ntmps41
    go_wp2
    go_ret2
    exact ⟨rfl, Below.refl _ _⟩
end Go.Proofs.YtalbcimnnihmnaaGreat
