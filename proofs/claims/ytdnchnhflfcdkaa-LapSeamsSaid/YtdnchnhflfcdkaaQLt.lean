/-
  Layer 11's laws: whole rows read in a region that draws; how great a seam's numbers are. Conditions: those that each fact names.
-/
import Derived.Test.YtdnchnhflfcdkaaQLn
import Derived.Test.YtdnchnhflfcdkaaQDph
import Derived.Test.YtdnchnhflfcdkaaQEr
import Derived.OrdersHeld
namespace Go.Proofs.Ytdnchnhflfcdkaa
open Go.RowKit
open M
theorem row_far_setRow {w : World} {g h : Nat} {t : TypeId} {cs : Array Value} (hr : Row w g t cs) (hne : g ≠ h) (ds : Array Value) : Row (w.setRow h ds) g t cs := (setRow_other w h g ds hne).trans hr
/-- A whole row is read, in every world that has what was there. -/
theorem yieldsRow {ops : Array Oper} {op : Oper} {a : Act} {W0 : World} (hw : Region.wanted op (yielded ops a.tmps) = true) (ty : TypeId) (x : Operand) (ho : op.op = .load ty x)
    (g : Nat) (hx : a.eval x = .pointer (some ⟨g, 0, none⟩)) (t : TypeId) (cs : Array Value) (hr : Row W0 g t cs) {n : Nat} {e : TypeId} (hu : Try.prog.underlying ty = some (.array n e))
    (hi : (Try.prog.info? ty).map (·.size) = some cs.size) : YieldsIf Try.prog ops (fun w' => Below W0.heap.size W0 w') op (.agg cs) a :=
  .inl ⟨hw, fun w hw' => by
    unfold execOp
    simp only [ho, hx, Instr.loadAt, Instr.sureAddr, Sem.run_bind, Sem.run_pure, Result.andThen_ok, run_loadVar_row w g t ty cs (0, 0) _ (hr.below hw' hr.lt) hu rfl hi]⟩
theorem sea_bd (H : Int × Int → Int → Int × Int) (hH : ∀ v k, Bd 16777216 v → Bd 134217735 (H v k)) (a b : List Int) (ha : ∀ i, -16777216 ≤ a.getD i 0 ∧ a.getD i 0 ≤ 16777216) (hb : ∀ i, -16777216 ≤ b.getD i 0 ∧ b.getD i 0 ≤ 16777216) (i : Nat) (hi : i < 16) :
    Bd 1099511627776 ((seaA H a b).getD (31 - i) 0, (seaB H a b).getD i 0) := by
  rw [seaA_getD _ _ _ _ (by omega), seaB_getD _ _ _ _ (by omega), if_neg (by omega), if_pos hi]
  have h1 := hH (a.getD (31 - i) 0, b.getD (31 - (31 - i)) 0) (62 - 4 * ((31 - (31 - i) : Nat) : Int)) ⟨(ha _).1, (ha _).2, (hb _).1, (hb _).2⟩
  have h2 := hH (a.getD (31 - i) 0, b.getD i 0) (62 - 4 * (i : Int)) ⟨(ha _).1, (ha _).2, (hb _).1, (hb _).2⟩
  exact ⟨by have := h1.a1; omega, by have := h1.a2; omega, by have := h2.b1; omega, by have := h2.b2; omega⟩
theorem hd24_at (f : List Int) (i : Nat) : -16777216 ≤ (hd24 f 32).getD i 0 ∧ (hd24 f 32).getD i 0 ≤ 16777216 := M.getD_bd _ _ (by omega) (hd24_bd f 32) i
theorem hd24_pair (f g : List Int) (i : Nat) : Bd 1099511627776 ((hd24 f 32).getD (31 - i) 0, (hd24 g 32).getD i 0) :=
  ⟨by have := hd24_at f (31 - i); omega, by have := hd24_at f (31 - i); omega, by have := hd24_at g i; omega, by have := hd24_at g i; omega⟩
end Go.Proofs.Ytdnchnhflfcdkaa
