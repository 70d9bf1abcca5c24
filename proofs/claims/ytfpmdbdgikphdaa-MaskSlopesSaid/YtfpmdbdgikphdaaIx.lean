/-
  An array of four numbers handed in by value: taken apart as the rows read it, and put together. No conditions.
-/
import Derived.Test.YtfpmdbdgikphdaaIvg
import Derived.Test.YtfpmdbdgikphdaaDi
namespace Go.Proofs.Ytfpmdbdgikphdaa
open Go.ChangeShapes Go.WideShapes Go.ChangeAt Go.RowKit
open M
theorem cells4i : Try.prog.cellsOf 29 = 4 := by kernel_rfl
theorem cellsInt4 : Try.prog.cellsOf 3 = 1 := by kernel_rfl
section
variable {H : Type} {enc : TypeId × Value → H} {W : World} {base b0 : Nat} {spare : Nat → Bool} {held : Bool} {r : Reach}
set_option maxRecDepth 100000 in
/-- An argument [4]int. -/
theorem open_n4 {v : Value} {d : DataW H} {p : List MemPlace} (hv : Value.okWide Try.prog W r b0 29 v) (h : DataW.Trod enc Try.prog W base spare held 29 v d p) :
    ∃ l : List Int, l.length = 4 ∧ v = .agg (iCells l) ∧ d = .agg (l.map fun z => .lit (.int .i64 z)) ∧ p = [] ∧ (∀ z ∈ l, -9223372036854775808 ≤ z ∧ z ≤ 9223372036854775807) ∧
      ∀ (W' : World) (b : Nat) (sp : Nat → Bool) (hd : Bool), DataW.Trod enc Try.prog W' b sp hd 29 (.agg (iCells l)) (.agg (l.map fun z => .lit (.int .i64 z))) [] := by
  obtain ⟨zs, hl, rfl, rfl, rfl, hwf⟩ := open_iarr Try.underlying29 Try.underlying3 cellsInt4 cells4i hv h
  exact ⟨zs, hl, rfl, rfl, rfl, fun z hz => Go.bounds_i64 (hwf z hz), fun W' b sp hd => shut_iarr Try.underlying29 Try.underlying3 cellsInt4 cells4i zs hl hwf⟩
end
end Go.Proofs.Ytfpmdbdgikphdaa
