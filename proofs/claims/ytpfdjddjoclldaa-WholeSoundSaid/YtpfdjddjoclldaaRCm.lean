/-
  What the whole's statements ask first: a word turned, and turned back. No conditions.
-/
import Derived.Test.YtpfdjddjoclldaaRB1
namespace Go.Proofs.Ytpfdjddjoclldaa
open Go.RowKit
open M
theorem turn_1_3 (w : World) : Calls Try.prog 23 #[.int .u64 1, .int .i64 3] w fun e w' => e = .returned (.int .u64 8) ∧ w = w' := by
  have b1 : bits BinOp.and IntKind.u64 3 63 = 3 := by decide +kernel
  have b2 : bits BinOp.or IntKind.u64 8 0 = 8 := by decide +kernel
  go_enter Try.func23, Try.ntmps23
  go_wp2
  go_ret
  exact ⟨rfl, rfl⟩
theorem turn_8_3 (w : World) : Calls Try.prog 23 #[.int .u64 8, .int .i64 (-3)] w fun e w' => e = .returned (.int .u64 1) ∧ w = w' := by
  have b1 : bits BinOp.and IntKind.u64 (IntKind.u64.wrap (-3)) 63 = 61 := by decide +kernel
  have b2 : bits BinOp.or IntKind.u64 0 1 = 1 := by decide +kernel
  go_enter Try.func23, Try.ntmps23
  go_wp2
  go_ret
  exact ⟨rfl, rfl⟩
theorem goes_any (w : World) : Calls Try.prog 17 #[] w fun e w' => e = .returned (.bool true) ∧ w = w' := by
  go_enter Try.func17, Try.ntmps17
  go_wp2_with fail
  refine (turn_1_3 w).mono ?_
  rintro e w' ⟨rfl, rfl⟩
  go_wp2_with fail
  refine (turn_8_3 w).mono ?_
  rintro e w' ⟨rfl, rfl⟩
  go_wp2_with fail
  go_ret
  exact ⟨rfl, rfl⟩
end Go.Proofs.Ytpfdjddjoclldaa
