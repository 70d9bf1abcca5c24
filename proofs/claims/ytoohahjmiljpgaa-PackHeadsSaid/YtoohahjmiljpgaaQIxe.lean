/-
  An array of eight numbers handed in by value: taken apart as the rows read it, and put together. No conditions.
-/
import Derived.Test.YtoohahjmiljpgaaQIvg
import Derived.Test.YtoohahjmiljpgaaQS5
namespace Go.Proofs.Ytoohahjmiljpgaa
open Go.ChangeShapes Go.WideShapes Go.ChangeAt Go.RowKit
open M
theorem cells8i : Try.prog.cellsOf 23 = 8 := by kernel_rfl
theorem cellsInt8 : Try.prog.cellsOf 3 = 1 := by kernel_rfl
section
variable {H : Type} {enc : TypeId × Value → H} {W : World} {base b0 : Nat} {spare : Nat → Bool} {held : Bool} {r : Reach}
set_option maxRecDepth 100000 in
/-- An argument [8]int. -/
theorem open_n8 {v : Value} {d : DataW H} {p : List MemPlace} (hv : Value.okWide Try.prog W r b0 23 v) (h : DataW.Trod enc Try.prog W base spare held 23 v d p) :
    ∃ l : List Int, l.length = 8 ∧ v = .agg (iCells l) ∧ d = .agg (l.map fun z => .lit (.int .i64 z)) ∧ p = [] ∧ (∀ z ∈ l, -9223372036854775808 ≤ z ∧ z ≤ 9223372036854775807) ∧
      ∀ (W' : World) (b : Nat) (sp : Nat → Bool) (hd : Bool), DataW.Trod enc Try.prog W' b sp hd 23 (.agg (iCells l)) (.agg (l.map fun z => .lit (.int .i64 z))) [] := by
  obtain ⟨zs, hl, rfl, rfl, rfl, hwf⟩ := open_iarr Try.underlying23 Try.underlying3 cellsInt8 cells8i hv h
  exact ⟨zs, hl, rfl, rfl, rfl, fun z hz => Go.bounds_i64 (hwf z hz), fun W' b sp hd => shut_iarr Try.underlying23 Try.underlying3 cellsInt8 cells8i zs hl hwf⟩
end
end Go.Proofs.Ytoohahjmiljpgaa
