/-
  Layer 18's conditions, met: what the program's Pulses and Cost answer. No conditions.
-/
import Derived.Test.YtkjbobgmnpifoaaQGkg
import Derived.Test.YtkjbobgmnpifoaaQGvf
import Derived.Test.YtkjbobgmnpifoaaQFj
namespace Go.Proofs.Ytkjbobgmnpifoaa
theorem pulOk18 : PulOk := pulOk bvOk
theorem cosOk18 : CosOk := cosOk bvOk
end Go.Proofs.Ytkjbobgmnpifoaa
