/-
  A shape handed in by value: its 40 numbers; put together again in any world. No conditions.
-/
import Derived.Test.YtoohahjmiljpgaaQS5
namespace Go.Proofs.Ytoohahjmiljpgaa
open Go.ChangeShapes Go.WideShapes Go.ChangeAt Go.RowKit
open M
set_option maxRecDepth 100000 in
theorem cells_oi : Try.prog.cellsOf 3 = 1 := by kernel_rfl
set_option maxRecDepth 100000 in
theorem cells_side : Try.prog.cellsOf 27 = 8 := by kernel_rfl
set_option maxRecDepth 100000 in
theorem cells_puls : Try.prog.cellsOf 29 = 4 := by kernel_rfl
set_option maxRecDepth 100000 in
theorem cells_pul8 : Try.prog.cellsOf 30 = 32 := by kernel_rfl
set_option maxRecDepth 100000 in
theorem cells_shape : Try.prog.cellsOf 32 = 40 := by kernel_rfl
section
variable {H : Type} {enc : TypeId × Value → H} {W : World} {base b0 : Nat} {spare : Nat → Bool} {held : Bool} {r : Reach}
set_option maxRecDepth 100000 in
theorem rd_side : Rd enc Try.prog W base spare held 27 (List.replicate 8 (Kd.int .i64)) :=
  rd_array (ks := [Kd.int .i64]) Try.underlying27 (rd_int Try.underlying3) cells_oi cells_side (by decide)
set_option maxRecDepth 100000 in
theorem rd_puls : Rd enc Try.prog W base spare held 29 (List.replicate 4 (Kd.int .i64)) :=
  rd_array (ks := [Kd.int .i64]) Try.underlying29 (rd_int Try.underlying3) cells_oi cells_puls (by decide)
set_option maxRecDepth 100000 in
theorem rd_pul8 : Rd enc Try.prog W base spare held 30 (List.replicate 32 (Kd.int .i64)) :=
  rd_array (ks := List.replicate 4 (Kd.int .i64)) Try.underlying30 rd_puls cells_puls cells_pul8 (by decide)
set_option maxRecDepth 100000 in
theorem rd_shape : Rd enc Try.prog W base spare held 32 (List.replicate 40 (Kd.int .i64)) :=
  rd_struct2 Try.underlying32 rd_side rd_pul8 cells_side cells_pul8 rfl rfl cells_shape
set_option maxRecDepth 100000 in
/-- An argument api.Shape. -/
theorem open_shape {v : Value} {d : DataW H} {p : List MemPlace} (hv : Value.okWide Try.prog W r b0 32 v) (h : DataW.Trod enc Try.prog W base spare held 32 v d p) :
    ∃ l : List Int, l.length = 40 ∧ v = .agg (iCells l) ∧ ∀ z ∈ l, -9223372036854775808 ≤ z ∧ z ≤ 9223372036854775807 := by
  obtain ⟨l, hl, rfl, hwf⟩ := open_ints_flat Try.underlying32 rfl rd_shape hv h
  exact ⟨l, hl, rfl, fun z hz => Go.bounds_i64 (hwf z hz)⟩
end
end Go.Proofs.Ytoohahjmiljpgaa
