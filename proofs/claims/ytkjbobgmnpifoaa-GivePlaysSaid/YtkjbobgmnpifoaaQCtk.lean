/-
  Conditions of the texts on layers 16 to 23, met: what the reference's Count answers. No conditions.
-/
import Derived.Test.YtkjbobgmnpifoaaQYo
import Derived.Test.YtkjbobgmnpifoaaQRfd
namespace Go.Proofs.Ytkjbobgmnpifoaa
open Go.RowKit
open M
theorem ctOk : CtOk := fun k w hk => rcount_any 4 k w (by decide) hk
end Go.Proofs.Ytkjbobgmnpifoaa
