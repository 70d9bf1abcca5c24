/-
  What the program's Bits of layer 13 answers, as layer 18's texts ask it. No conditions.
-/
import Derived.Test.YtkjbobgmnpifoaaQGva
import Derived.Test.YtkjbobgmnpifoaaQYhb
namespace Go.Proofs.Ytkjbobgmnpifoaa
open Go.RowKit
open M
theorem btc_len : ∀ k, k ≤ 12 → Go.Lib.bitLen (cn13 4 k - 1) = btc k := by decide +kernel
theorem bvOk : BvOk := fun k w hk => by
  have h := bits_any (k : Int) w
  rw [biI_in k hk, btc_len k hk] at h
  exact h
end Go.Proofs.Ytkjbobgmnpifoaa
