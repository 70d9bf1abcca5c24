/-
  The reference's Size. Conditions: a number whose opposite there is.
-/
import Derived.Test.YtfpmdbdgikphdaaBh
namespace Go.Proofs.Ytfpmdbdgikphdaa
open Go.RowKit
open M
theorem rsize_any (x : Int) (w : World) (h1 : -9223372036854775807 ≤ x) (h2 : x ≤ 9223372036854775807) :
    Calls Try.prog 22 #[.int .i64 x] w fun e w' => e = .returned (.int .i64 (x.natAbs : Int)) ∧ w' = w := by
  have hw : wrap64 (-x) = -x := by rw [wrap64]; omega
  by_cases h : x < 0
  · go_enter Try.func22, Try.ntmps22
    go_wp2
    go_ret
    exact ⟨ret_eq (by omega), rfl⟩
  · go_enter Try.func22, Try.ntmps22
    go_wp2
    go_ret
    exact ⟨ret_eq (by omega), rfl⟩
end Go.Proofs.Ytfpmdbdgikphdaa
