/-
  Eight numbers below 2^32 by value: their zero value, how they lie. No conditions but those that each fact names.
-/
import Derived.Test.YtalbcimnnihmnaaQOpv
import Derived.Test.YtalbcimnnihmnaaQS5
import Derived.Test.YtalbcimnnihmnaaQS15
namespace Go.Proofs.Ytalbcimnnihmnaa
open Go.RowKit
open M
theorem v8_info : (Try.prog.info? 24).map (fun i => (i.zero, i.size)) = some (some (.agg (vCells [0, 0, 0, 0, 0, 0, 0, 0])), 8) := by kernel_rfl
theorem v8_zero (w : World) : (zeroValue 24).run Try.prog w = .ok (.agg (vCells [0, 0, 0, 0, 0, 0, 0, 0])) w := (zero_of_info v8_info).1 w
theorem v8_size (l : List Int) (h : l.length = 8) : (Try.prog.info? 24).map (·.size) = some (vCells l).size := by
  rw [vCells_size, h]; exact (zero_of_info v8_info).2
theorem sh_u32 (z : Int) (h0 : 0 ≤ z) (h : z ≤ 4294967295) : IntKind.i64.wrap z = z := by rw [IntKind.wrap_i64]; omega
theorem vrow_at {w : World} {g : Nat} {t : TypeId} {l : List Int} (h : Row w g t (vCells l)) (i : Nat) (hi : i < l.length) : w.cell? ⟨g, i, none⟩ = some (.int .u32 (l.getD i 0)) :=
  by
    have h2 := cell_of_row w g i _ _ (0, 0) h
    rw [h2, vCells_get l i hi]
end Go.Proofs.Ytalbcimnnihmnaa
