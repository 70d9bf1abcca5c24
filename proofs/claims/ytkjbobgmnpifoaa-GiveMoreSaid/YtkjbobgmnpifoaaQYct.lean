/-
  pvq's Count. No conditions.
-/
import Derived.Test.YtkjbobgmnpifoaaQY1
import Derived.Test.YtkjbobgmnpifoaaQFj
namespace Go.Proofs.Ytkjbobgmnpifoaa
open Go.RowKit
open M
theorem counts_put (w : World) : (storeCells ⟨w.heap.size, 0, none⟩ (iCells (tf13 117)).toList 0).run Try.prog (w.alloc (.cells (iCells tz13) 66)) = .ok () (w.alloc (.cells (iCells (tf13 117)) 66)) :=
  run_storeCells_new w _ _ _ (counts_size (tf13 117) (tf_len 117)) (by rw [iCells_size, iCells_size, tf_len]; rfl) (iCells_one (tf13 117))
/-- Counts of any numbers. -/
def cnI (n k : Int) : Int := if th13 n k then (cn13 n.toNat k.toNat : Int) else 0
theorem cnI_in (n k : Nat) (hn : n ≤ 8) (hk : k ≤ 12) : cnI n k = (cn13 n k : Int) := by
  have h : th13 n k = true := decide_eq_true (by omega)
  rw [cnI, h, if_pos rfl, Int.toNat_natCast, Int.toNat_natCast]
theorem cnI_out (n k : Int) (h : th13 n k = false) : cnI n k = 0 := by
  rw [cnI, h]; rfl
theorem th_in {n k : Int} (h : th13 n k = true) : ∃ a b : Nat, n = a ∧ k = b ∧ a ≤ 8 ∧ b ≤ 12 := by
  have := of_decide_eq_true h
  exact ⟨n.toNat, k.toNat, by omega, by omega, by omega, by omega⟩
set_option maxRecDepth 100000 in
theorem count_any (n k : Int) (w : World) :
    Calls Try.prog 23 #[.int .i64 n, .int .i64 k] w fun e w' => e = .returned (.int .i64 (cnI n k)) ∧ Below w.heap.size w w' := by
  have HT := there_any n k w
  cases ht : th13 n k
  · have HO := Lib.hid (cnI_out n k ht)
    rw [ht] at HT
    clear ht
    go_enter Try.func23, Try.ntmps23
    go_wp2_with fail
    refine HT.mono ?_
    rintro e w1 ⟨rfl, rfl⟩
    go_wp2
    go_ret
    exact ⟨by rw [HO.out]; rfl, Below.refl _ _⟩
  · obtain ⟨a, b, rfl, rfl, ha, hb⟩ := th_in ht
    have HO := Lib.hid (cnI_in a b ha hb)
    rw [ht] at HT
    clear ht
    go_enter Try.func23, Try.ntmps23
    go_wp2_with fail
    refine HT.mono ?_
    rintro e w1 ⟨rfl, rfl⟩
    go_wp2_with fail
    refine (counts_any w1).mono ?_
    rintro e w2 ⟨rfl, hb2⟩
    have hz := counts_zero w2
    have hst := counts_put w2
    have hsz : (iCells (tf13 117)).size = 117 := by rw [iCells_size, tf_len]
    have hr : Row (w2.alloc (.cells (iCells (tf13 117)) 66)) w2.heap.size 66 (iCells (tf13 117)) := heap_alloc_new _ _
    have c0 := i_at hr (a * 13 + b) (by rw [tf_len]; omega)
    rw [tf_cell _ _ _ (by omega) (by omega) (by omega)] at c0
    have HB := Lib.hid (hb2.alloc hb2.size (.cells (iCells (tf13 117)) 66))
    have haI : (a : Int) < 9 := by omega
    have hbI : (b : Int) < 13 := by omega
    generalize (cn13 a b : Int) = c at *
    clear hr hb2 ha hb
    go_wp2
    go_ret
    exact ⟨by rw [HO.out]; rfl, HB.out⟩
end Go.Proofs.Ytkjbobgmnpifoaa
