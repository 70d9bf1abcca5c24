/-
  Layer 15, the program's sum bit by bit: what takes a bit, its method value, a text's bits handed on. Conditions: the box of the sum lies in a block of its own.
-/
import Derived.Test.YtlpeifdmhfjhpaaCrb
import Derived.Sort.Row
namespace Go.Proofs.Ytlpeifdmhfjhpaa
open Go.RowKit
open M
theorem set_twice (w : World) (g : Nat) (v v' : Value) : (w.setCell ⟨g, 0, none⟩ v).setCell ⟨g, 0, none⟩ v' = w.setCell ⟨g, 0, none⟩ v' := by
  rw [Go.Sort.setCell_eq, Go.Sort.setCell_eq, Go.Sort.mapBlock_mapBlock, Go.Sort.setCell_eq]
  congr 1
  funext c
  simp
/-- The highest bit made one with another one. -/
theorem high_bit (X : BitVec 16) (b : Bool) : (bits .xor .i64 ((X.toNat : Int) / 32768) (bI15 b) == 1) = (X.msb != b) := by
  have hb := X.isLt
  have hm : X.msb = decide (32768 ≤ X.toNat) := BitVec.msb_eq_decide X
  rw [hm]
  by_cases h : 32768 ≤ X.toNat
  · rw [decide_eq_true h, show (X.toNat : Int) / 32768 = 1 by omega]
    cases b <;> decide
  · rw [decide_eq_false h, show (X.toNat : Int) / 32768 = 0 by omega]
    cases b <;> decide
theorem shl_one16 (X : BitVec 16) : IntKind.u16.wrap ((X.toNat : Int) * 2) = ((X <<< 1).toNat : Int) := by
  rw [IntKind.wrap_u16, BitVec.toNat_shiftLeft, Nat.shiftLeft_eq]
  omega
theorem xor_poly (Y : BitVec 16) : bits .xor .u16 (Y.toNat : Int) 4129 = ((Y ^^^ 4129#16).toNat : Int) := by
  rw [BitVec.toNat_xor]
  exact u16_xor_nat _ 4129 Y.isLt (by decide)
set_option maxRecDepth 100000 in
theorem take_any (g : Nat) (X : BitVec 16) (b : Bool) (w : World) (hc : w.cell? ⟨g, 0, none⟩ = some (.int .u16 (X.toNat : Int))) (hf : w.frozen? ⟨g, 0, none⟩ = false) :
    Calls Try.prog 16 #[.pointer (some ⟨g, 0, none⟩), .int .i64 (bI15 b)] w fun e w' => e = .returned (.tuple #[]) ∧ w' = w.setCell ⟨g, 0, none⟩ (.int .u16 ((cst X b).toNat : Int)) := by
  have h1 := high_bit X b
  have h2 := shl_one16 X
  have h3 := xor_poly (X <<< 1)
  obtain ⟨n, hn⟩ : ∃ n, X.toNat = n := ⟨_, rfl⟩
  have hb := X.isLt
  have HY : Hid (cst X b = if X.msb != b then (X <<< 1) ^^^ 4129#16 else X <<< 1) := Lib.hid rfl
  rw [hn] at hc hb h1 h2
  generalize cst X b = y at *
  generalize bI15 b = x at *
  generalize (X.msb != b) = z at *
  generalize X <<< 1 = p at *
  generalize p ^^^ 4129#16 = q at *
  cases z
  · have e : y = p := HY.out
    subst e
    clear HY hn
    go_enter Try.func16, Try.ntmps16
    go_wp2
    go_end0
    exact ⟨rfl, rfl⟩
  · have e : y = q := HY.out
    subst e
    clear HY hn
    go_enter Try.func16, Try.ntmps16
    go_wp2
    go_end0
    exact ⟨rfl, set_twice _ _ _ _⟩
end Go.Proofs.Ytlpeifdmhfjhpaa
