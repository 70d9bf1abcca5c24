/-
  Promise 8.1, TrigRoot: a root's square is no greater than its number, and the next one's is. No conditions.
-/
import Derived.Test.YtfkgkchlfkdglaaOh
namespace Go.Proofs.Ytfkgkchlfkdglaa
open Go.RowKit
open M
theorem and62 (x : BitVec 64) : bits .and .u64 (un x) 4611686018427387903 = ((x.toNat % 4611686018427387904 : Nat) : Int) := by
  unfold un
  show IntKind.u64.wrap ((BitVec.ofInt 64 (x.toNat : Int) &&& BitVec.ofInt 64 4611686018427387903).toNat : Int) = _
  have e : (BitVec.ofInt 64 (x.toNat : Int)).toNat = x.toNat := ofInt_u64 _ x.isLt
  rw [BitVec.toNat_and, e, show (BitVec.ofInt 64 4611686018427387903).toNat = 2 ^ 62 - 1 by decide, Nat.and_two_pow_sub_one_eq_mod, IntKind.wrap_u64]
  omega
theorem sq31n (a : Nat) (h : a ≤ 2147483648) : a * a ≤ 4611686018427387904 := by
  have := Nat.mul_le_mul h h
  omega
set_option maxRecDepth 100000 in
theorem root_law (x : BitVec 64) (w : World) :
    Calls Try.prog 3 #[.int .u64 (un x)] w fun e w' => e = .returned (.bool true) ∧ Below w.heap.size w w' := by
  have HA := Lib.hid (and62 x)
  obtain ⟨m, hm⟩ : ∃ m, x.toNat % 4611686018427387904 = m := ⟨_, rfl⟩
  have hm2 : m < 4611686018427387904 := by omega
  rw [hm] at HA
  clear hm
  have HR := Lib.hid (rtN_root m)
  have HRB := Lib.hid (rtN_bd m hm2)
  obtain ⟨r, hr⟩ : ∃ r, rtN m = r := ⟨_, rfl⟩
  rw [hr] at HR HRB
  have HRR := Lib.hid hr
  clear hr
  go_enter Try.func3, Try.ntmps3
  go_wp2_with fail
  refine (awake_any _).mono ?_
  rintro e w1 ⟨rfl, hb1⟩
  have HB1 := Lib.hid hb1
  clear hb1
  go_wp2_with fail
  rw [HA.out]
  rw [IntWalk.wrap64_in (m : Int) (by omega)]
  refine (root_any m _ hm2).mono ?_
  rintro e w' ⟨rfl, rfl⟩
  rw [HRR.out]
  have hq1 := HR.out.1
  have hq2 := HR.out.2
  have hrb := HRB.out
  have hm3 := sq31n (r + 1) (by omega)
  have p1 : (r : Int) * (r : Int) = ((r * r : Nat) : Int) := rfl
  have p2 : ((r : Int) + 1) * ((r : Int) + 1) = (((r + 1) * (r + 1) : Nat) : Int) := rfl
  generalize r * r = s1 at *
  generalize (r + 1) * (r + 1) = s2 at *
  go_wp2_with fail
  refine (root_none (-(m : Int)) _ (by omega)).mono ?_
  rintro e w' ⟨rfl, rfl⟩
  go_wp2
  go_ret
  exact ⟨rfl, HB1.out⟩
end Go.Proofs.Ytfkgkchlfkdglaa
