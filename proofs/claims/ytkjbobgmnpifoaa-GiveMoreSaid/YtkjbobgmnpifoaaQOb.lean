/-
  bits.Len: this program's text is the one that the library's contract speaks of: a number's bits. Conditions: a number from 0 to 2^64 - 1.
-/
import Derived.Test.YtkjbobgmnpifoaaQBh
import Derived.Test.YtkjbobgmnpifoaaQOa
import Derived.Shelf.Small.Bits
namespace Go.Proofs.Ytkjbobgmnpifoaa
open Go.RowKit
open M
def laysBits_ren : Go.Shelf.Ren := ⟨fun | 125 => 24 | 128 => 32 | 129 => 33 | n => n, fun | 3 => 3 | 4 => 4 | 5 => 5 | 9 => 9 | 46 => 52 | 51 => 69 | 53 => 71 | n => n, fun | n => n⟩
theorem laysBits : Go.Proofs.Lays.n125 Try.prog laysBits_ren := {
  mixed := by kernel_rfl
  f125 := Try.func24.trans (congrArg some (by kernel_rfl))
  f128 := Try.func32.trans (congrArg some (by kernel_rfl))
  f129 := Try.func33.trans (congrArg some (by kernel_rfl))
  t3 := Try.underlying3
  a3 := Try.isAgg3
  z3 := Try.sizeOf3
  v3 := Try.zeroValue3
  t4 := Try.underlying4
  a4 := Try.isAgg4
  z4 := Try.sizeOf4
  v4 := Try.zeroValue4
  t5 := Try.underlying5
  a5 := Try.isAgg5
  z5 := Try.sizeOf5
  v5 := Try.zeroValue5
  t9 := Try.underlying9
  a9 := Try.isAgg9
  z9 := Try.sizeOf9
  v9 := Try.zeroValue9
  t46 := Try.underlying52
  a46 := Try.isAgg52
  z46 := Try.sizeOf52
  v46 := Try.zeroValue52
  t51 := Try.underlying69
  a51 := Try.isAgg69
  z51 := Try.sizeOf69
  v51 := Try.zeroValue69
  t53 := Try.underlying71
  a53 := Try.isAgg71
  z53 := Try.sizeOf71
  v53 := Try.zeroValue71 }
theorem len_any (n : Nat) (w : World) (hn : n < 9223372036854775808) :
    Calls Try.prog 24 #[.int .u64 n] w fun e w' => e = .returned (.int .i64 (Go.Lib.bitLen n : Nat)) ∧ w = w' := by
  refine (Go.Proofs.Any.bits_Len laysBits (n : Int) w (by omega) (by omega)).mono ?_
  rintro e w' ⟨rfl, rfl⟩
  exact ⟨rfl, rfl⟩
end Go.Proofs.Ytkjbobgmnpifoaa
