/-
  Layer 13: what pvq's Bits answers, as layer 18's texts ask it. No conditions.
-/
import Derived.Test.YtalbcimnnihmnaaGreatQS5
namespace Go.Proofs.YtalbcimnnihmnaaGreat
open Go.RowKit
open M
/-- What the program's Bits of layer 13 answers. -/
def BvOk : Prop := ∀ (k : Nat) (w : World), k ≤ 12 → Calls Tryz.prog 51 #[.int .i64 (k : Int)] w fun e w' => e = .returned (.int .i64 (btc k : Nat)) ∧ Below w.heap.size w w'
end Go.Proofs.YtalbcimnnihmnaaGreat
