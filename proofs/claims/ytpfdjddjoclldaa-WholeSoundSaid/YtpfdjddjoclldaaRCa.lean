/-
  mid's half, Of and Back, and layer 12's example. Conditions: numbers up to 2^60.
-/
import Derived.Test.YtpfdjddjoclldaaRB1
import Derived.Test.YtpfdjddjoclldaaRM2
import Derived.Test.YtpfdjddjoclldaaREhd
namespace Go.Proofs.Ytpfdjddjoclldaa
open Go.RowKit
open M
theorem half_any (s : Int) (w : World) :
    Calls Try.prog 20 #[.int .i64 s] w fun e w' => e = .returned (.int .i64 (s / 2)) ∧ w = w' := by
  go_enter Try.func20, Try.ntmps20
  go_wp2
  go_ret
  exact ⟨rfl, rfl⟩
theorem of_any (l r : Int) (w : World) (h1 : -1152921504606846976 ≤ l) (h2 : l ≤ 1152921504606846976) (h3 : -1152921504606846976 ≤ r) (h4 : r ≤ 1152921504606846976) :
    Calls Try.prog 10 #[.int .i64 l, .int .i64 r] w fun e w' => e = .returned (.tuple #[.int .i64 (mdl l r).1, .int .i64 (mdl l r).2]) ∧ w = w' := by
  have hw : wrap64 (l - r) = l - r := by rw [wrap64]; omega
  have hw2 : wrap64 (r + (l - r) / 2) = r + (l - r) / 2 := by rw [wrap64]; omega
  have H1 : Hid ((mdl l r).1 = r + (l - r) / 2) := rfl
  have H2 : Hid ((mdl l r).2 = l - r) := rfl
  go_enter Try.func10, Try.ntmps10
  go_wp2_with fail
  refine (half_any (l - r) w).mono ?_
  rintro e w' ⟨rfl, rfl⟩
  go_wp2_with fail
  go_ret2
  exact ⟨by rw [H1.out, H2.out]; rfl, rfl⟩
theorem back12_any (m s : Int) (w : World) (h1 : -1152921504606846976 ≤ m) (h2 : m ≤ 1152921504606846976) (h3 : -1152921504606846976 ≤ s) (h4 : s ≤ 1152921504606846976) :
    Calls Try.prog 11 #[.int .i64 m, .int .i64 s] w fun e w' => e = .returned (.tuple #[.int .i64 (mdb m s).1, .int .i64 (mdb m s).2]) ∧ w = w' := by
  have hw : wrap64 (m - s / 2) = m - s / 2 := by rw [wrap64]; omega
  have hw2 : wrap64 (m - s / 2 + s) = m - s / 2 + s := by rw [wrap64]; omega
  have H1 : Hid ((mdb m s).1 = m - s / 2 + s) := rfl
  have H2 : Hid ((mdb m s).2 = m - s / 2) := rfl
  go_enter Try.func11, Try.ntmps11
  go_wp2_with fail
  refine (half_any s w).mono ?_
  rintro e w' ⟨rfl, rfl⟩
  go_wp2_with fail
  go_ret2
  exact ⟨by rw [H1.out, H2.out]; rfl, rfl⟩
/-- Numbers up to 2^40. -/
def h40 (n : Int) : Int := n.tmod 1099511627777
theorem h40_bd (n : Int) : -1099511627776 ≤ h40 n ∧ h40 n ≤ 1099511627776 := by
  have h1 := Int.tmod_lt_of_pos n (show (0 : Int) < 1099511627777 by omega)
  have h2 := Int.tmod_lt_of_pos (-n) (show (0 : Int) < 1099511627777 by omega)
  rw [Int.neg_tmod] at h2
  unfold h40
  omega
theorem held40_any (n : Int) (w : World) :
    Calls Try.prog 9 #[.int .i64 n] w fun e w' => e = .returned (.int .i64 (h40 n)) ∧ w = w' := by
  have H := Lib.hid fun _ : Unit => show h40 n = n.tmod 1099511627777 from rfl
  have hb := h40_bd n
  rw [H.out ()] at hb
  have hw : wrap64 (n.tmod 1099511627777) = n.tmod 1099511627777 := by rw [wrap64]; omega
  go_enter Try.func9, Try.ntmps9
  go_wp2_with fail
  go_ret
  exact ⟨by rw [H.out ()]; rfl, rfl⟩
theorem awake12_any (w : World) :
    Calls Try.prog 12 #[] w fun e w' => e = .returned (.bool true) ∧ w = w' := by
  have HC := Lib.hid fun w => of_any 5 2 w (by decide) (by decide) (by decide) (by decide)
  rw [show (mdl 5 2).1 = 3 from rfl, show (mdl 5 2).2 = 3 from rfl] at HC
  go_enter Try.func12, Try.ntmps12
  go_wp2_with fail
  refine (HC.out w).mono ?_
  rintro e w' ⟨rfl, rfl⟩
  go_wp2_with fail
  go_ret
  exact ⟨rfl, rfl⟩
end Go.Proofs.Ytpfdjddjoclldaa
