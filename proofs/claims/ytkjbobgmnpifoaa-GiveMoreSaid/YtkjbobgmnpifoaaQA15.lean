/-
  A number's lowest four bits; a list with one number put anew. No program is named here. No conditions but those that each fact names.
-/
import Derived.Test.YtkjbobgmnpifoaaQBh
namespace Go.Proofs.Ytkjbobgmnpifoaa
open Go.RowKit
open M
theorem and15 (p : Int) : bits .and .i64 p 15 = p % 16 := by
  have h1 : ((BitVec.ofInt 64 p).toNat : Int) = p % 18446744073709551616 := by
    rw [BitVec.toNat_ofInt]
    have := Int.emod_nonneg p (show (18446744073709551616 : Int) ≠ 0 by decide)
    show ((p % 18446744073709551616).toNat : Int) = _
    omega
  have h2 : (BitVec.ofInt 64 p &&& BitVec.ofInt 64 15).toNat = (BitVec.ofInt 64 p).toNat % 16 := by
    rw [BitVec.toNat_and]
    exact Nat.and_two_pow_sub_one_eq_mod _ 4
  show IntKind.i64.wrap ((BitVec.ofInt 64 p &&& BitVec.ofInt 64 15).toNat : Int) = _
  rw [h2, IntKind.wrap_i64]
  omega
theorem set_getD13 (l : List Int) (i p : Nat) (v : Int) (h : i < l.length) : (l.set i v).getD p 0 = if p = i then v else l.getD p 0 := by
  rw [List.getD_eq_getElem?_getD, List.getElem?_set]
  by_cases e : i = p
  · subst e
    rw [if_pos rfl, if_pos h, if_pos rfl]
    rfl
  · rw [if_neg e, if_neg (fun h => e h.symm), List.getD_eq_getElem?_getD]
end Go.Proofs.Ytkjbobgmnpifoaa
