/-
  bits.Len: this program's text is the one that the library's contract speaks of: a number's bits. Conditions: a number from 0 to 2^64 - 1.
-/
import Derived.Test.YtdnchnhflfcdkaaQB1
import Derived.Test.YtdnchnhflfcdkaaQOa
import Derived.Shelf.Small.Bits
namespace Go.Proofs.Ytdnchnhflfcdkaa
open Go.RowKit
open M
def laysBits_ren : Go.Shelf.Ren := ⟨fun | 125 => 60 | 128 => 61 | 129 => 62 | n => n, fun | 3 => 3 | 4 => 4 | 5 => 5 | 9 => 9 | 46 => 75 | 51 => 44 | 53 => 85 | n => n, fun | n => n⟩
theorem laysBits : Go.Proofs.Lays.n125 Try.prog laysBits_ren := {
  mixed := by kernel_rfl
  f125 := Try.func60.trans (congrArg some (by kernel_rfl))
  f128 := Try.func61.trans (congrArg some (by kernel_rfl))
  f129 := Try.func62.trans (congrArg some (by kernel_rfl))
  t3 := Try.underlying3
  a3 := Try.isAgg3
  z3 := Try.sizeOf3
  v3 := Try.zeroValue3
  t4 := Try.underlying4
  a4 := Try.isAgg4
  z4 := Try.sizeOf4
  v4 := Try.zeroValue4
  t5 := Try.underlying5
  a5 := Try.isAgg5
  z5 := Try.sizeOf5
  v5 := Try.zeroValue5
  t9 := Try.underlying9
  a9 := Try.isAgg9
  z9 := Try.sizeOf9
  v9 := Try.zeroValue9
  t46 := Try.underlying75
  a46 := Try.isAgg75
  z46 := Try.sizeOf75
  v46 := Try.zeroValue75
  t51 := Try.underlying44
  a51 := Try.isAgg44
  z51 := Try.sizeOf44
  v51 := Try.zeroValue44
  t53 := Try.underlying85
  a53 := Try.isAgg85
  z53 := Try.sizeOf85
  v53 := Try.zeroValue85 }
theorem len_any (n : Nat) (w : World) (hn : n < 9223372036854775808) :
    Calls Try.prog 60 #[.int .u64 n] w fun e w' => e = .returned (.int .i64 (Go.Lib.bitLen n : Nat)) ∧ w = w' := by
  refine (Go.Proofs.Any.bits_Len laysBits (n : Int) w (by omega) (by omega)).mono ?_
  rintro e w' ⟨rfl, rfl⟩
  exact ⟨rfl, rfl⟩
end Go.Proofs.Ytdnchnhflfcdkaa
