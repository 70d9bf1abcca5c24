/-
  An array of 32 numbers handed in by value: taken apart as the rows read it, and put together. No conditions.
-/
import Derived.Test.YtalbcimnnihmnaaQS25
import Derived.Test.YtalbcimnnihmnaaQS5
namespace Go.Proofs.Ytalbcimnnihmnaa
open Go.ChangeShapes Go.WideShapes Go.ChangeAt Go.RowKit
open M
theorem cells32 : Try.prog.cellsOf 22 = 32 := by kernel_rfl
theorem cellsInt32 : Try.prog.cellsOf 3 = 1 := by kernel_rfl
section
variable {H : Type} {enc : TypeId × Value → H} {W : World} {base b0 : Nat} {spare : Nat → Bool} {held : Bool} {r : Reach}
set_option maxRecDepth 100000 in
/-- An argument [32]int. -/
theorem open_n32 {v : Value} {d : DataW H} {p : List MemPlace} (hv : Value.okWide Try.prog W r b0 22 v) (h : DataW.Trod enc Try.prog W base spare held 22 v d p) :
    ∃ l : List Int, l.length = 32 ∧ v = .agg (iCells l) ∧ d = .agg (l.map fun z => .lit (.int .i64 z)) ∧ p = [] ∧ (∀ z ∈ l, -9223372036854775808 ≤ z ∧ z ≤ 9223372036854775807) ∧
      ∀ (W' : World) (b : Nat) (sp : Nat → Bool) (hd : Bool), DataW.Trod enc Try.prog W' b sp hd 22 (.agg (iCells l)) (.agg (l.map fun z => .lit (.int .i64 z))) [] := by
  obtain ⟨zs, hl, rfl, rfl, rfl, hwf⟩ := open_iarr Try.underlying22 Try.underlying3 cellsInt32 cells32 hv h
  exact ⟨zs, hl, rfl, rfl, rfl, fun z hz => Go.bounds_i64 (hwf z hz), fun W' b sp hd => shut_iarr Try.underlying22 Try.underlying3 cellsInt32 cells32 zs hl hwf⟩
end
end Go.Proofs.Ytalbcimnnihmnaa
