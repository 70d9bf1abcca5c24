/-
  pvq's Count of natural numbers. Conditions: up to 8 numbers, up to 12 pulses.
-/
import Derived.Test.YtkjbobgmnpifoaaQYct
import Derived.Test.YtkjbobgmnpifoaaQY1
namespace Go.Proofs.Ytkjbobgmnpifoaa
open Go.RowKit
open M
theorem count_nat (n k : Nat) (w : World) (hn : n ≤ 8) (hk : k ≤ 12) :
    Calls Try.prog 23 #[.int .i64 (n : Int), .int .i64 (k : Int)] w fun e w' => e = .returned (.int .i64 (cn13 n k : Int)) ∧ Below w.heap.size w w' := by
  have := count_any n k w
  rw [cnI_in n k hn hk] at this
  exact this
theorem count_at (x y : Int) (n k : Nat) (w : World) (hx : x = n) (hy : y = k) (hn : n ≤ 8) (hk : k ≤ 12) :
    Calls Try.prog 23 #[.int .i64 x, .int .i64 y] w fun e w' => e = .returned (.int .i64 (cn13 n k : Int)) ∧ Below w.heap.size w w' := by
  subst hx hy; exact count_nat n k w hn hk
end Go.Proofs.Ytkjbobgmnpifoaa
