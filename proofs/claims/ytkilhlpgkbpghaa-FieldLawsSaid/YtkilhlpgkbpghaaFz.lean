/-
  The contracts of layer 4's Mul, Inv, Pow, Log over elements, each answer under a name of its own. Conditions: the numbers are elements; the Field lies in a block of its own.
-/
import Derived.Test.YtkilhlpgkbpghaaFy
namespace Go.Proofs.Ytkilhlpgkbpghaa
open Go.RowKit
open M

theorem mul_nat (a b m g : Nat) (w : World) (ha : a < 128) (hb : b < 128) (hm : mul a b = m) (h : Fd w g) :
    Calls Try.prog 11 #[.pointer (some ⟨g, 0, none⟩), .int .i64 a, .int .i64 b] w fun e w' => e = .returned (.int .i64 (m : Nat)) ∧ Qt w w' := by
  have := mul_field (a : Int) (b : Int) g w ⟨by omega, by omega⟩ ⟨by omega, by omega⟩ h
  rwa [el_nat a ha, el_nat b hb, hm] at this
theorem inv_nat (a m g : Nat) (w : World) (ha : a < 128) (hm : inv a = m) (h : Fd w g) :
    Calls Try.prog 12 #[.pointer (some ⟨g, 0, none⟩), .int .i64 a] w fun e w' => e = .returned (.int .i64 (m : Nat)) ∧ Qt w w' := by
  have := inv_field (a : Int) g w ⟨by omega, by omega⟩ h
  rwa [el_nat a ha, hm] at this
theorem pow_nat (a k m g : Nat) (w : World) (ha : a < 128) (hk : k < 1000) (hm : pw a k = m) (h : Fd w g) :
    Calls Try.prog 15 #[.pointer (some ⟨g, 0, none⟩), .int .i64 a, .int .i64 k] w fun e w' => e = .returned (.int .i64 (m : Nat)) ∧ Qt w w' := by
  have := pow_field (a : Int) (k : Int) g w ⟨by omega, by omega⟩ ⟨by omega, by omega⟩ h
  rwa [el_nat a ha, powI_nat a k ha, hm] at this
theorem log_exp (n x g : Nat) (w : World) (hn : n < 127) (hx : E n = x) (h : Fd w g) :
    Calls Try.prog 14 #[.pointer (some ⟨g, 0, none⟩), .int .i64 x] w fun e w' => e = .returned (.int .i64 (n : Nat)) ∧ Qt w w' := by
  have hb := E_bd n hn
  rw [hx] at hb
  have := log_pos (x : Int) g w ⟨by omega, by omega⟩ h (by rw [el_nat x hb.2]; omega)
  rwa [el_nat x hb.2, ← hx, Lg_E n hn, hx] at this
end Go.Proofs.Ytkilhlpgkbpghaa
