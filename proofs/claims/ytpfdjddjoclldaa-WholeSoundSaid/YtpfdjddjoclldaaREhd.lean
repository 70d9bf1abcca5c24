/-
  The reference's Down: a quotient rounded down. Conditions: numbers to 2^62.
-/
import Derived.Test.YtpfdjddjoclldaaRB1
namespace Go.Proofs.Ytpfdjddjoclldaa
open Go.RowKit
open M
theorem down_of (n d : Int) (hd : 0 < d) : n / d = if n.tmod d < 0 then n.tdiv d - 1 else n.tdiv d := by
  have h1 := Int.tdiv_eq_ediv (a := n) (b := d)
  have h2 := Int.tmod_eq_emod (a := n) (b := d)
  have h3 := Int.emod_nonneg n (show d ≠ 0 by omega)
  have h4 := Int.emod_lt_of_pos n hd
  rw [Int.sign_eq_one_of_pos hd] at h1
  by_cases c : 0 ≤ n ∨ d ∣ n
  · rw [if_pos c] at h1 h2
    rw [if_neg (by omega)]
    omega
  · rw [if_neg c] at h1 h2
    rw [if_pos (by omega)]
    omega
theorem down_size (n d : Int) (hd : 0 < d) (h1 : -4611686018427387904 ≤ n) (h2 : n ≤ 4611686018427387904) : -4611686018427387905 ≤ n / d ∧ n / d ≤ 4611686018427387905 := by
  have e := Int.mul_ediv_add_emod n d
  have h3 := Int.emod_nonneg n (show d ≠ 0 by omega)
  have h4 := Int.emod_lt_of_pos n hd
  constructor
  · apply Int.not_lt.1
    intro hlt
    have : d * (n / d) ≤ 1 * (n / d) := Int.mul_le_mul_of_nonpos_right (by omega) (by omega)
    have h6 : d * (n / d) ≤ d * (-4611686018427387906) := Int.mul_le_mul_of_nonneg_left (by omega) (by omega)
    omega
  · apply Int.not_lt.1
    intro hlt
    have : 1 * (n / d) ≤ d * (n / d) := Int.mul_le_mul_of_nonneg_right (by omega) (by omega)
    omega
set_option maxRecDepth 100000 in
theorem down9_ref (n d : Int) (w : World) (h1 : -4611686018427387904 ≤ n) (h2 : n ≤ 4611686018427387904) (h3 : 0 < d) (h4 : d ≤ 4611686018427387904) :
    Calls Try.prog 22 #[.int .i64 n, .int .i64 d] w fun e w' => e = .returned (.int .i64 (n / d)) ∧ w = w' := by
  have HE := Lib.hid (down_of n d h3)
  have HZ := down_size n d h3 h1 h2
  have hq : -4611686018427387905 ≤ n.tdiv d ∧ n.tdiv d ≤ 4611686018427387906 := by
    have := HE.out
    split at this <;> omega
  by_cases h0 : n.tmod d < 0
  · have HH := Lib.hid h0
    go_enter Try.func22, Try.ntmps22
    go_wp2
    go_ret
    refine ⟨ret_eq ?_, rfl⟩
    rw [HE.out, if_pos HH.out]
    try rfl
  · have HH := Lib.hid h0
    go_enter Try.func22, Try.ntmps22
    go_wp2
    go_ret
    refine ⟨ret_eq ?_, rfl⟩
    rw [HE.out, if_neg (Int.not_lt.2 HH.out)]
    try rfl
end Go.Proofs.Ytpfdjddjoclldaa
