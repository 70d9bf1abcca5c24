/-
  The reference's Of and Back of layer 12. Conditions: numbers up to 2^60.
-/
import Derived.Test.YtpfdjddjoclldaaCa
namespace Go.Proofs.Ytpfdjddjoclldaa
open Go.RowKit
open M
theorem rof_any (l r : Int) (w : World) (h1 : -1152921504606846976 ≤ l) (h2 : l ≤ 1152921504606846976) (h3 : -1152921504606846976 ≤ r) (h4 : r ≤ 1152921504606846976) :
    Calls Try.prog 15 #[.int .i64 l, .int .i64 r] w fun e w' => e = .returned (.tuple #[.int .i64 (mdl l r).1, .int .i64 (mdl l r).2]) ∧ w = w' := by
  have hw : wrap64 (l - r) = l - r := by rw [wrap64]; omega
  have hw3 : IntKind.i64.wrap (l - r) = l - r := by rw [IntKind.wrap_i64]; omega
  have hw2 : wrap64 (r + (l - r) / 2) = r + (l - r) / 2 := by rw [wrap64]; omega
  have H1 : Hid ((mdl l r).1 = r + (l - r) / 2) := rfl
  have H2 : Hid ((mdl l r).2 = l - r) := rfl
  have HD := Lib.hid fun w => down9_ref (l - r) 2 w (by omega) (by omega) (by omega) (by omega)
  go_enter Try.func15, Try.ntmps15
  go_wp2_with fail
  refine (HD.out w).mono ?_
  rintro e w' ⟨rfl, rfl⟩
  go_wp2_with fail
  go_ret2
  exact ⟨by rw [H1.out, H2.out]; rfl, rfl⟩
theorem rback_any (m s : Int) (w : World) (h1 : -1152921504606846976 ≤ m) (h2 : m ≤ 1152921504606846976) (h3 : -1152921504606846976 ≤ s) (h4 : s ≤ 1152921504606846976) :
    Calls Try.prog 16 #[.int .i64 m, .int .i64 s] w fun e w' => e = .returned (.tuple #[.int .i64 (mdb m s).1, .int .i64 (mdb m s).2]) ∧ w = w' := by
  have hw : wrap64 (m - s / 2) = m - s / 2 := by rw [wrap64]; omega
  have hw2 : wrap64 (m - s / 2 + s) = m - s / 2 + s := by rw [wrap64]; omega
  have H1 : Hid ((mdb m s).1 = m - s / 2 + s) := rfl
  have H2 : Hid ((mdb m s).2 = m - s / 2) := rfl
  have HD := Lib.hid fun w => down9_ref s 2 w (by omega) (by omega) (by omega) (by omega)
  go_enter Try.func16, Try.ntmps16
  go_wp2_with fail
  refine (HD.out w).mono ?_
  rintro e w' ⟨rfl, rfl⟩
  go_wp2_with fail
  go_ret2
  exact ⟨by rw [H1.out, H2.out]; rfl, rfl⟩
end Go.Proofs.Ytpfdjddjoclldaa
