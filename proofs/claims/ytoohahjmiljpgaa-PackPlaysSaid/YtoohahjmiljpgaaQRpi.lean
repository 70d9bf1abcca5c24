/-
  Sizes of parts of shapes. No conditions.
-/
import Derived.Test.YtoohahjmiljpgaaQS5
namespace Go.Proofs.Ytoohahjmiljpgaa
open Go.RowKit
open M
theorem side_8 : (Try.prog.info? 27).map (·.size) = some 8 := by kernel_rfl
theorem puls_4 : (Try.prog.info? 29).map (·.size) = some 4 := by kernel_rfl
end Go.Proofs.Ytoohahjmiljpgaa
