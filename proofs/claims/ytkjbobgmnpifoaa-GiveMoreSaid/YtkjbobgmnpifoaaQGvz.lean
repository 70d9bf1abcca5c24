/-
  Layer 18: what give's Bits is to answer, as a condition. No conditions.
-/
import Derived.Test.YtkjbobgmnpifoaaQDi
namespace Go.Proofs.Ytkjbobgmnpifoaa
open Go.RowKit
open M
/-- How many bits a packet has. -/
def bz18 (n : Int) : Int := if 12 ≤ n ∧ n ≤ 24 then 8 * n - 64 else 0
def BizOk : Prop := ∀ (n : Int) (w : World), Calls Try.prog 12 #[.int .i64 n] w fun e w' => e = .returned (.int .i64 (bz18 n)) ∧ Below w.heap.size w w'
end Go.Proofs.Ytkjbobgmnpifoaa
