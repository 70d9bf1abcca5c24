/-
  Layer 17's four laws, mask's own functions handed in. Conditions: eight ints, four ints.
-/
import Derived.Test.YtfpmdbdgikphdaaMkb
import Derived.Test.YtfpmdbdgikphdaaMkc
import Derived.Test.YtfpmdbdgikphdaaMke
import Derived.Test.YtfpmdbdgikphdaaMkf
import Derived.Test.YtfpmdbdgikphdaaMlc
import Derived.Test.YtfpmdbdgikphdaaMle
namespace Go.Proofs.Ytfpmdbdgikphdaa
open Go.RowKit
open M
theorem allOk : AllOk := fun l w h => all17_any l w h
theorem budOk : BudOk := fun l b w h => budget17_any l b w h
theorem movOk : MovOk := fun l b w h => moves17_any l b w h
theorem farOk : FarOk := fun y z w h k => far17_any y z w h k
theorem mayOk : MayOk := fun l b y z w h k m => may17_any l b y z w h k m
end Go.Proofs.Ytfpmdbdgikphdaa
