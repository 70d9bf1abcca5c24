/-
  Layer 8's laws, what they share: the document's examples; a number without its sign. Conditions: those that each names.
-/
import Derived.Test.YtfkgkchlfkdglaaOf
namespace Go.Proofs.Ytfkgkchlfkdglaa
open Go.RowKit
open M
theorem trg_0 : trg 0 = (1073741824, 0) := by decide +kernel
theorem trg_right : trg 128 = (0, 1073741824) := by decide +kernel
theorem awake_any (w : World) :
    Calls Try.prog 9 #[] w fun e w' => e = .returned (.bool true) ∧ Below w.heap.size w w' := by
  have H0 := Lib.hid trg_0
  have H1 := Lib.hid trg_right
  go_enter Try.func9, Try.ntmps9
  go_wp2_with fail
  refine (turn_any 0 _ (by omega) (by omega)).mono ?_
  rintro e w1 ⟨rfl, hb1⟩
  have HB1 := Lib.hid hb1
  clear hb1
  rw [H0.out]
  go_wp2_with fail
  refine (turn_any 128 _ (by omega) (by omega)).mono ?_
  rintro e w2 ⟨rfl, hb2⟩
  have HB := Lib.hid (HB1.out.trans (hb2.mono HB1.out.size))
  clear hb2 HB1
  rw [H1.out]
  go_wp2
  go_ret
  exact ⟨rfl, HB.out⟩
theorem size_any (n : Int) (w : World) (h1 : -9223372036854775807 ≤ n) (h2 : n ≤ 9223372036854775807) :
    Calls Try.prog 14 #[.int .i64 n] w fun e w' => e = .returned (.int .i64 (n.natAbs : Nat)) ∧ w = w' := by
  by_cases h0 : n < 0
  · go_enter Try.func14, Try.ntmps14
    go_wp2
    go_ret
    exact ⟨ret_eq (by omega), rfl⟩
  · go_enter Try.func14, Try.ntmps14
    go_wp2
    go_ret
    exact ⟨ret_eq (by omega), rfl⟩
end Go.Proofs.Ytfkgkchlfkdglaa
