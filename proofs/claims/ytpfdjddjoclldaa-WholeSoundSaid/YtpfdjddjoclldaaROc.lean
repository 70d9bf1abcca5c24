/-
  trig's Root, by Newton's steps: the root of a number below 2^62; 0 of one that isn't above 0. Conditions: those that each names.
-/
import Derived.Test.YtpfdjddjoclldaaROb
import Derived.Test.YtpfdjddjoclldaaRB1
namespace Go.Proofs.Ytpfdjddjoclldaa
open Go.RowKit
open M
theorem root_none (n : Int) (w : World) (h : n ≤ 0) :
    Calls Try.prog 60 #[.int .i64 n] w fun e w' => e = .returned (.int .i64 0) ∧ w = w' := by
  go_enter Try.func60, Try.ntmps60
  go_wp2
  go_ret
  exact ⟨rfl, rfl⟩
theorem shl_nat (k : Nat) (hk : k < 62) : wrap64 (2 ^ k) = ((2 ^ k : Nat) : Int) := by
  have h : 2 ^ k < 4611686018427387904 := Nat.lt_of_lt_of_eq (Nat.pow_lt_pow_right (a := 2) (by decide) hk) (by decide)
  have e : (2 : Int) ^ k = ((2 ^ k : Nat) : Int) := by rw [Int.natCast_pow]; rfl
  rw [e]
  generalize 2 ^ k = b at *
  rw [IntWalk.wrap64_in _ (by omega)]
theorem rtS_int (n r : Nat) (hn : n < 4611686018427387904) (hr : r ≤ 2147483648) : wrap64 ((wrap64 ((r : Int) + wrap64 ((n : Int) / (r : Int)))).tdiv 2) = ((rtS n r : Nat) : Int) := by
  have h : n / r ≤ n := Nat.div_le_self _ _
  unfold rtS
  rw [← Int.natCast_ediv]
  generalize n / r = q at *
  rw [IntWalk.wrap64_in _ (show -9223372036854775808 ≤ ((q : Nat) : Int) ∧ ((q : Nat) : Int) ≤ 9223372036854775807 by omega), IntWalk.wrap64_in ((r : Int) + (q : Int)) (by omega), Int.tdiv_eq_ediv_of_nonneg (by omega), IntWalk.wrap64_in _ (by omega)]
  omega
set_option maxRecDepth 100000 in
theorem root_some (n : Nat) (w : World) (h0 : 0 < n) (h : n < 4611686018427387904) :
    Calls Try.prog 60 #[.int .i64 n] w fun e w' => e = .returned (.int .i64 (rtN n : Nat)) ∧ w = w' := by
  have HL := Lib.hid (Go.Lib.bitLen_le n 62 (by decide) h)
  have HB := Lib.hid (rt0_bd n h)
  have HT := Lib.hid (rt0_lt n (by omega))
  have HN := Lib.hid h
  have HR : Hid (rt0 n = 2 ^ ((Go.Lib.bitLen n + 1) / 2)) := rfl
  obtain ⟨L, hL⟩ : ∃ L, Go.Lib.bitLen n = L := ⟨_, rfl⟩
  rw [hL] at HL HR
  have HLL := Lib.hid hL
  have hL2 : L ≤ 62 := HL.out
  clear hL
  go_enter Try.func60, Try.ntmps60
  go_wp2_with (go_at_call 61; refine (len_any n _ (by omega)).mono ?_; rintro e w' ⟨rfl, rfl⟩; rw [HLL.out])
  go_loop [3] (fun a => ∃ r : Nat, 1 ≤ r ∧ r ≤ 2147483648 ∧ n < (r + 1) * (r + 1) ∧ a = .int .i64 r) (fun a => (intOf a).toNat)
  case atStart =>
    refine ⟨rt0 n, HB.out.1, HB.out.2, HT.out, ?_⟩
    rw [shl_nat _ (by omega), HR.out]
  case round =>
    obtain ⟨r, hr1, hr2, hr3, rfl⟩ := hrel
    have H3 := Lib.hid hr3
    clear hr3
    have HE := Lib.hid (rtS_int n r h hr2)
    go_wp2
    · have h1 : r ≤ rtS n r := by have := HE.out; omega
      have e : rtN n = r := rtN_is n r ⟨rtS_end n r h1, H3.out⟩
      go_ret
      refine ⟨?_, rfl⟩
      rw [e]
      rfl
    · have h1 : rtS n r < r := by have := HE.out; omega
      refine ⟨⟨rtS n r, rtS_pos n r hr1 (by omega), by omega, rtS_lt n r hr1, by rw [HE.out]⟩, ?_⟩
      rw [HE.out]
      simp only [intOf]
      omega
theorem root_any (n : Nat) (w : World) (h : n < 4611686018427387904) :
    Calls Try.prog 60 #[.int .i64 n] w fun e w' => e = .returned (.int .i64 (rtN n : Nat)) ∧ w = w' := by
  rcases Nat.eq_zero_or_pos n with rfl | e
  · exact root_none 0 w (by omega)
  · exact root_some n w e h
end Go.Proofs.Ytpfdjddjoclldaa
