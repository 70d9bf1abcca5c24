/-
  Layer 18: what give's Pulses is to answer, as a condition. No conditions but those that each fact names.
-/
import Derived.Test.YtalbcimnnihmnaaQS5
namespace Go.Proofs.Ytalbcimnnihmnaa
open Go.RowKit
open M
/-- Whether steps and bits may be. -/
def ok18 (l : List Int) (n : Int) : Prop := rt17 l = true ∧ 0 ≤ n ∧ n ≤ 1048576
instance (l : List Int) (n : Int) : Decidable (ok18 l n) := by unfold ok18; infer_instance
/-- How many pulses each band has, of any ints. -/
def puI (l : List Int) (n : Int) : List Int := if ok18 l n then kl18 (giv (fun b => l.getD b 0) n.toNat) else e8z
def puE (l : List Int) (n : Int) : Int := if ok18 l n then 0 else 1
def PulOk : Prop := ∀ (l : List Int) (n : Int) (w : World), l.length = 8 → Calls Try.prog 18 #[.agg (iCells l), .int .i64 n] w fun e w' => e = .returned (.tuple #[.agg (iCells (puI l n)), .int .i64 (puE l n)]) ∧ Below w.heap.size w w'
theorem puI_len (l : List Int) (n : Int) : (puI l n).length = 8 := by
  unfold puI
  split
  · exact kl18_len _
  · simp [e8z]
end Go.Proofs.Ytalbcimnnihmnaa
