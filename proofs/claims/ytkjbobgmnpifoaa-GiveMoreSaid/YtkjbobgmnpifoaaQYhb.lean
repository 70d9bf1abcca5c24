/-
  pvq's Bits (of any int). No conditions.
-/
import Derived.Test.YtkjbobgmnpifoaaQOb
import Derived.Test.YtkjbobgmnpifoaaQYjp
import Derived.Test.YtkjbobgmnpifoaaQLoi
import Derived.Test.YtkjbobgmnpifoaaQYct
namespace Go.Proofs.Ytkjbobgmnpifoaa
open Go.RowKit
open M
theorem cnI_four (k : Int) (h : ¬ (0 ≤ k ∧ k ≤ 12)) : cnI 4 k = 0 := cnI_out _ _ (decide_eq_false (by omega))
/-- How few bits. -/
def biI (k : Int) : Int := if 0 ≤ k ∧ k ≤ 12 then ((Go.Lib.bitLen (cn13 4 k.toNat - 1) : Nat) : Int) else 0
theorem biI_in (k : Nat) (h : k ≤ 12) : biI k = ((Go.Lib.bitLen (cn13 4 k - 1) : Nat) : Int) := by
  rw [biI, if_pos (by omega), Int.toNat_natCast]
theorem biI_out (k : Int) (h : ¬ (0 ≤ k ∧ k ≤ 12)) : biI k = 0 := if_neg h
set_option maxRecDepth 100000 in
theorem bits_any (k : Int) (w : World) :
    Calls Try.prog 11 #[.int .i64 k] w fun e w' => e = .returned (.int .i64 (biI k)) ∧ Below w.heap.size w w' := by
  have HC := count_any 4 k w
  by_cases h : 0 ≤ k ∧ k ≤ 12
  · obtain ⟨a, rfl⟩ : ∃ a : Nat, k = a := ⟨k.toNat, by omega⟩
    have hc : cnI 4 a = (cn13 4 a : Int) := cnI_in 4 a (by decide) (by omega)
    have HO := Lib.hid (biI_in a (by omega))
    have hp := cn_pos 3 a
    have hb := cn_big 4 a (by decide) (by omega)
    rw [hc] at HC
    obtain ⟨C, hC⟩ : ∃ C, cn13 4 a = C := ⟨_, rfl⟩
    rw [hC] at HC HO hb
    rw [show (3 : Nat) + 1 = 4 from rfl, hC] at hp
    obtain ⟨D, rfl⟩ : ∃ D, C = D + 1 := ⟨C - 1, by omega⟩
    rw [Nat.add_sub_cancel] at HO
    have ew : ((D + 1 : Nat) : Int) - 1 = (D : Int) := by omega
    have HD : Hid (D < 9223372036854775808) := Lib.hid (by omega)
    have HCC := Lib.hid HC
    have hbI : (D : Int) ≤ 152587890625 := by omega
    clear hC hc h hp HC hb
    go_enter Try.func11, Try.ntmps11
    go_wp2_with fail
    refine HCC.out.mono ?_
    rintro e w1 ⟨rfl, hbel⟩
    have HB := Lib.hid hbel
    clear hbel HCC
    go_wp2_with fail
    refine (len_any D w1 HD.out).mono ?_
    rintro e w2 ⟨rfl, rfl⟩
    go_wp2
    go_ret
    exact ⟨by rw [HO.out]; rfl, HB.out⟩
  · rw [cnI_four k h] at HC
    have HO := Lib.hid (biI_out k h)
    clear h
    go_enter Try.func11, Try.ntmps11
    go_wp2_with fail
    refine HC.mono ?_
    rintro e w1 ⟨rfl, hbel⟩
    have HB := Lib.hid hbel
    clear hbel HC
    go_wp2
    go_ret
    exact ⟨by rw [HO.out]; rfl, HB.out⟩
end Go.Proofs.Ytkjbobgmnpifoaa
