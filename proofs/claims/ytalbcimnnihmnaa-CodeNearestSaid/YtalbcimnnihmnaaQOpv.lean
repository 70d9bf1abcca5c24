/-
  An array of eight numbers below 2^32 handed in by value. No conditions.
-/
import Derived.Test.YtalbcimnnihmnaaQOpc
namespace Go.Proofs.Ytalbcimnnihmnaa
open Go.ChangeShapes Go.WideShapes Go.ChangeAt Go.RowKit
open M
theorem cells_ov1 : Try.prog.cellsOf 23 = 1 := by kernel_rfl
theorem cells_ov8 : Try.prog.cellsOf 24 = 8 := by kernel_rfl
/-- Numbers below 2^32, as they lie. -/
def vCells (l : List Int) : Array Value := (l.map (Value.int .u32)).toArray
theorem vCells_size (l : List Int) : (vCells l).size = l.length := by simp [vCells]
theorem vCells_get (l : List Int) (i : Nat) (h : i < l.length) : (vCells l)[i]? = some (.int .u32 (l.getD i 0)) := by
  simp [vCells, List.getD_eq_getElem?_getD, h]
section
variable {H : Type} {enc : TypeId × Value → H} {W : World} {base b0 : Nat} {spare : Nat → Bool} {held : Bool} {r : Reach}
theorem rd_v8 : Rd enc Try.prog W base spare held 24 (List.replicate 8 (Kd.int .u32)) :=
  rd_array (ks := [Kd.int .u32]) Try.underlying24 (rd_int Try.underlying23) cells_ov1 cells_ov8 (by decide)
set_option maxRecDepth 100000 in
/-- An argument [8]uint32. -/
theorem open_v8 {v : Value} {d : DataW H} {p : List MemPlace} (hv : Value.okWide Try.prog W r b0 24 v) (h : DataW.Trod enc Try.prog W base spare held 24 v d p) :
    ∃ l : List Int, l.length = 8 ∧ v = .agg (vCells l) ∧ ∀ z ∈ l, 0 ≤ z ∧ z ≤ 4294967295 := by
  obtain ⟨l, hl, rfl, hwf⟩ := open_ints_flat Try.underlying24 rfl rd_v8 hv h
  exact ⟨l, hl, rfl, fun z hz => Go.bounds_u32 (hwf z hz)⟩
end
end Go.Proofs.Ytalbcimnnihmnaa
