/-
  bits.Len: this program's text is the one that the library's contract speaks of: a number's bits. Conditions: a number from 0 to 2^64 - 1.
-/
import Derived.Test.YtpfdjddjoclldaaRB1
import Derived.Test.YtpfdjddjoclldaaROa
import Derived.Shelf.Small.Bits
namespace Go.Proofs.Ytpfdjddjoclldaa
open Go.RowKit
open M
def laysBits_ren : Go.Shelf.Ren := ⟨fun | 125 => 61 | 128 => 62 | 129 => 63 | n => n, fun | 3 => 3 | 4 => 4 | 5 => 5 | 9 => 9 | 46 => 54 | 51 => 83 | 53 => 43 | n => n, fun | n => n⟩
theorem laysBits : Go.Proofs.Lays.n125 Try.prog laysBits_ren := {
  mixed := by kernel_rfl
  f125 := Try.func61.trans (congrArg some (by kernel_rfl))
  f128 := Try.func62.trans (congrArg some (by kernel_rfl))
  f129 := Try.func63.trans (congrArg some (by kernel_rfl))
  t3 := Try.underlying3
  a3 := Try.isAgg3
  z3 := Try.sizeOf3
  v3 := Try.zeroValue3
  t4 := Try.underlying4
  a4 := Try.isAgg4
  z4 := Try.sizeOf4
  v4 := Try.zeroValue4
  t5 := Try.underlying5
  a5 := Try.isAgg5
  z5 := Try.sizeOf5
  v5 := Try.zeroValue5
  t9 := Try.underlying9
  a9 := Try.isAgg9
  z9 := Try.sizeOf9
  v9 := Try.zeroValue9
  t46 := Try.underlying54
  a46 := Try.isAgg54
  z46 := Try.sizeOf54
  v46 := Try.zeroValue54
  t51 := Try.underlying83
  a51 := Try.isAgg83
  z51 := Try.sizeOf83
  v51 := Try.zeroValue83
  t53 := Try.underlying43
  a53 := Try.isAgg43
  z53 := Try.sizeOf43
  v53 := Try.zeroValue43 }
theorem len_any (n : Nat) (w : World) (hn : n < 9223372036854775808) :
    Calls Try.prog 61 #[.int .u64 n] w fun e w' => e = .returned (.int .i64 (Go.Lib.bitLen n : Nat)) ∧ w = w' := by
  refine (Go.Proofs.Any.bits_Len laysBits (n : Int) w (by omega) (by omega)).mono ?_
  rintro e w' ⟨rfl, rfl⟩
  exact ⟨rfl, rfl⟩
end Go.Proofs.Ytpfdjddjoclldaa
