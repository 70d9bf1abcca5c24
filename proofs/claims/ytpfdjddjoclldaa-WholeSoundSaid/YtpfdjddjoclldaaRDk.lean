/-
  dct's Flip and slant: four bits read backward, a point's own turn. Conditions: numbers from 0 to 15.
-/
import Derived.Test.YtpfdjddjoclldaaRB1
import Derived.Test.YtpfdjddjoclldaaRM2
namespace Go.Proofs.Ytpfdjddjoclldaa
open Go.RowKit
open M
theorem flip_bits_all : ∀ k : Fin 16, bits BinOp.or IntKind.i64 (bits BinOp.or IntKind.i64 (bits BinOp.or IntKind.i64 (wrap64 (bits BinOp.and IntKind.i64 (k.1 : Int) 1 * 8)) (wrap64 (bits BinOp.and IntKind.i64 (k.1 : Int) 2 * 2))) (bits BinOp.and IntKind.i64 (k.1 : Int) 4 / 2)) (bits BinOp.and IntKind.i64 (k.1 : Int) 8 / 8) = ((flp k.1 : Nat) : Int) := by decide +kernel
set_option maxRecDepth 100000 in
theorem flip_any (k : Nat) (w : World) (hk : k < 16) :
    Calls Try.prog 44 #[.int .i64 k] w fun e w' => e = .returned (.int .i64 (flp k : Nat)) ∧ w = w' := by
  go_enter Try.func44, Try.ntmps44
  go_wp2
  go_ret
  exact ⟨congrArg Ending.returned (congrArg (Value.int .i64) (flip_bits_all ⟨k, hk⟩)), rfl⟩
theorem slant_any (n : Nat) (w : World) (hn : n < 16) :
    Calls Try.prog 41 #[.int .i64 n] w fun e w' => e = .returned (.int .i64 (-(8 * (n : Int) + 2))) ∧ w = w' := by
  go_enter Try.func41, Try.ntmps41
  go_wp2
  go_ret
  exact ⟨rfl, rfl⟩
end Go.Proofs.Ytpfdjddjoclldaa
