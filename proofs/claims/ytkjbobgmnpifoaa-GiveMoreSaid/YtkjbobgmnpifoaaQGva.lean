/-
  Layer 18's laws, what they share: what give's functions are to answer (as conditions), awake, held. Conditions: eight ints; what give's Pulses answers.
-/
import Derived.Test.YtkjbobgmnpifoaaQRld
import Derived.Test.YtkjbobgmnpifoaaQGvv
import Derived.Test.YtkjbobgmnpifoaaQGvz
import Derived.Test.YtkjbobgmnpifoaaQGvq
import Derived.Test.YtkjbobgmnpifoaaQHdp
import Derived.Test.YtkjbobgmnpifoaaQSde
import Derived.Test.YtkjbobgmnpifoaaQRfe
import Derived.Test.YtkjbobgmnpifoaaQDr
import Derived.Deep.WholeRow
namespace Go.Proofs.Ytkjbobgmnpifoaa
open Go.RowKit
open M
def CosOk : Prop := ∀ (k : Nat → Nat) (w : World), (∀ b, b < 8 → k b ≤ 12) → Calls Try.prog 10 #[.agg (iCells (kl18 k))] w fun e w' => e = .returned (.int .i64 (cst8 k : Nat)) ∧ Below w.heap.size w w'
theorem pu18_wake : puI [5, 0, 0, 0, 0, 0, 0, 0] 3 = [1, 0, 0, 0, 0, 0, 0, 0] ∧ puE [5, 0, 0, 0, 0, 0, 0, 0] 3 = 0 := by decide +kernel
set_option maxRecDepth 100000 in
theorem awake18_any (HP : PulOk) (w : World) : Calls Try.prog 7 #[] w fun e w' => e = .returned (.bool true) ∧ Below w.heap.size w w' := by
  have hz : ∀ w, (zeroValue 36).run Try.prog w = .ok (.agg #[.int .i64 0, .int .i64 0, .int .i64 0, .int .i64 0, .int .i64 0, .int .i64 0, .int .i64 0, .int .i64 0]) w := sds_zero
  have hz2 : ∀ w, (zeroValue 22).run Try.prog w = .ok (.agg #[.int .i64 0, .int .i64 0, .int .i64 0, .int .i64 0, .int .i64 0, .int .i64 0, .int .i64 0, .int .i64 0]) w := i8_zero
  have H1 : Hid (∀ w, Calls Try.prog 8 #[.agg #[.int .i64 5, .int .i64 0, .int .i64 0, .int .i64 0, .int .i64 0, .int .i64 0, .int .i64 0, .int .i64 0], .int .i64 3] w fun e w' => e = .returned (.tuple #[.agg (iCells [1, 0, 0, 0, 0, 0, 0, 0]), .int .i64 0]) ∧ Below w.heap.size w w') := Lib.hid fun w => by
    have h := HP [5, 0, 0, 0, 0, 0, 0, 0] 3 w rfl
    rw [pu18_wake.1, pu18_wake.2] at h
    exact h
  go_enter Try.func7, Try.ntmps7
  go_wp2_with fail
  refine (H1.out _).mono ?_
  rintro e w1 ⟨rfl, hb1⟩
  have HB1 := Lib.hid hb1
  clear hb1
  have HSZ := Lib.hid (i8_size [1, 0, 0, 0, 0, 0, 0, 0] rfl)
  have HSX := Lib.hid (sds_same zs8 [1, 0, 0, 0, 0, 0, 0, 0] zs8_length rfl)
  have hq : ∀ w, (Op.equalIn 10000 22 (.agg (iCells [1, 0, 0, 0, 0, 0, 0, 0])) (.agg #[.int .i64 1, .int .i64 0, .int .i64 0, .int .i64 0, .int .i64 0, .int .i64 0, .int .i64 0, .int .i64 0])).run Try.prog w = .ok true w := fun w =>
    eight_eq [1, 0, 0, 0, 0, 0, 0, 0] [1, 0, 0, 0, 0, 0, 0, 0] rfl rfl w
  have HR : Hid (Row (w1.alloc (.cells #[.int .i64 0, .int .i64 0, .int .i64 0, .int .i64 0, .int .i64 0, .int .i64 0, .int .i64 0, .int .i64 0] 22)) w1.heap.size 22 (iCells zs8)) := Lib.hid (heap_alloc_new _ _)
  go_upto_region 2 with (refine wpList_store_row rfl 22 (.tmp 1) (.tmp 6) rfl w1.heap.size (iCells [1, 0, 0, 0, 0, 0, 0, 0]) rfl rfl 22 (iCells zs8) HR.out HSZ.out HSX.out (iCells_one _) ?_)
  have HGS := Lib.hid HB1.out.size
  have HB := Lib.hid (below_setRow (HB1.out.alloc HB1.out.size (.cells #[.int .i64 0, .int .i64 0, .int .i64 0, .int .i64 0, .int .i64 0, .int .i64 0, .int .i64 0, .int .i64 0] 22)) HB1.out.size (iCells [1, 0, 0, 0, 0, 0, 0, 0]))
  have HR := Lib.hid (Row.setRow HR.out (iCells [1, 0, 0, 0, 0, 0, 0, 0]))
  generalize (w1.alloc (.cells #[.int .i64 0, .int .i64 0, .int .i64 0, .int .i64 0, .int .i64 0, .int .i64 0, .int .i64 0, .int .i64 0] 22)).setRow w1.heap.size (iCells [1, 0, 0, 0, 0, 0, 0, 0]) = w5 at *
  obtain ⟨g, hg⟩ : ∃ g, w1.heap.size = g := ⟨_, rfl⟩
  rw [hg] at HR HGS ⊢
  clear hg
  go_wp2_with (refine g_load_row (by rfl) 22 (.tmp 1) rfl g rfl 22 (iCells [1, 0, 0, 0, 0, 0, 0, 0]) (0, 0) _ HR.out Try.underlying22 rfl HSZ.out ?_)
  go_ret
  exact ⟨rfl, HB.out⟩
set_option maxRecDepth 100000 in
set_option maxHeartbeats 1000000 in
theorem held18_any (x : List Int) (w : World) (hx : x.length = 8) :
    Calls Try.prog 9 #[.agg (iCells x)] w fun e w' => e = .returned (.agg (iCells (hd17 x 8))) ∧ Below w.heap.size w w' := by
  have hz := i8_zero
  have HX := Lib.hid hx
  have H0 := Lib.hid (hd17_zero x hx)
  have HR : Hid (Row ((w.alloc (.cells (iCells x) 22)).alloc (.cells (iCells zs8) 22)) w.heap.size 22 (iCells x)) := Lib.hid (Row.alloc (heap_alloc_new _ _) _)
  have HZ : Hid (Row ((w.alloc (.cells (iCells x) 22)).alloc (.cells (iCells zs8) 22)) (w.heap.size + 1) 22 (iCells zs8)) := Lib.hid (row_new _ _ (by simp) _ _)
  have HB : Hid (Below w.heap.size w ((w.alloc (.cells (iCells x) 22)).alloc (.cells (iCells zs8) 22))) := Lib.hid (((Below.refl _ _).alloc (Nat.le_refl _) _).alloc (by simp) _)
  clear hx
  go_enter Try.func9, Try.ntmps9
  go_wp2_with fail
  generalize (w.alloc (.cells (iCells x) 22)).alloc (.cells (iCells zs8) 22) = w1 at *
  obtain ⟨g, hg⟩ : ∃ g, w.heap.size = g := ⟨_, rfl⟩
  have HG := Lib.hid fun _ : Unit => hg
  rw [hg] at HR HZ
  rw [hg]
  clear hg hz
  go_loopw [3] (fun ii wr => ∃ (i : Nat), i ≤ 8 ∧ ii = .int .i64 (i : Int) ∧ Row wr g 22 (iCells (hd17 x i)) ∧ Row wr (g + 1) 22 (iCells zs8) ∧ Below w.heap.size w wr) (fun ii _ => 8 - (intOf ii).toNat)
  case atStart => exact ⟨0, by omega, rfl, by rw [H0.out]; exact HR.out, HZ.out, HB.out⟩
  case round =>
    clear HR HZ HB
    obtain ⟨i, hi, rfl, hr, hz, hb⟩ := hrel
    have HR := Lib.hid hr
    have HZ := Lib.hid hz
    have HB := Lib.hid hb
    rcases Nat.lt_or_ge i 8 with hlt | hge
    · have hiI : (i : Int) < 8 := by omega
      have HI := Lib.hid hlt
      have c0 := i_at hr i (by rw [hd17_len]; exact hlt)
      rw [hd17_get _ _ _ hlt, if_neg (by omega)] at c0
      have f0 := hr.free i
      have ha := and15 (x.getD i 0)
      have HROW := Lib.hid (show Row (wr.setCell ⟨g, i, none⟩ (.int .i64 (x.getD i 0 % 16))) g 22 (iCells (hd17 x (i + 1))) by
        have h := hr.set i (.int .i64 (x.getD i 0 % 16))
        rw [iCells_set, hd17_set x i hlt] at h
        exact h)
      obtain ⟨v, hv⟩ : ∃ v, x.getD i 0 = v := ⟨_, rfl⟩
      rw [hv] at c0 ha HROW
      clear hi hlt hr hz hb hv
      go_wp2_with fail
      go_roundw
      case rel => exact ⟨i + 1, HI.out, by go_num, HROW.out, HZ.out.far (p := ⟨g, i, none⟩) (by simp only; omega) _, Below.setCell HB.out (p := ⟨g, i, none⟩) (by have := HG.out (); simp only; omega) _⟩
      case measure =>
        have := HI.out
        simp [intOf] <;> omega
    · obtain rfl : i = 8 := by omega
      have HSF := Lib.hid (i8_size (hd17 x 8) (hd17_len _ _))
      have HSS := Lib.hid (i8_size (hd17 x 8) (hd17_len _ _))
      have HSX := Lib.hid (sds_same zs8 (hd17 x 8) zs8_length (hd17_len _ _))
      clear hi hge hr hz hb
      go_wp2_with (first
        | (refine wpList_load_row rfl 22 (.tmp 1) rfl g rfl 22 (iCells (hd17 x 8)) (0, 0) _ HR.out Try.underlying22 rfl HSF.out ?_)
        | (refine wpList_store_row rfl 22 (.tmp 2) (.tmp 14) rfl (g + 1) (iCells (hd17 x 8)) rfl rfl 22 (iCells zs8) HZ.out HSS.out HSX.out (iCells_one _) ?_))
      refine bodyPost_ret (v := .agg (iCells (hd17 x 8))) (results_cell_row Try.results9 _ _ (g + 1) 22 (iCells (hd17 x 8)) (0, 0) _ rfl (Row.setRow HZ.out _) Try.underlying22 rfl HSS.out) rfl ⟨rfl, by rw [← HG.out ()]; exact below_setRow HB.out (by have := HG.out (); omega) _⟩
end Go.Proofs.Ytkjbobgmnpifoaa
