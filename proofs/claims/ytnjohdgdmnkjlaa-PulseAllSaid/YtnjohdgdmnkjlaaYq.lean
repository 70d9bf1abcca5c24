/-
  Slices of the call's own to which a number, or four numbers, are appended; the order of numbers. Conditions: those that each fact names.
-/
import Derived.Test.YtnjohdgdmnkjlaaYos
import Derived.Test.YtnjohdgdmnkjlaaYqo
import Derived.Test.YtnjohdgdmnkjlaaYa
import Derived.Test.YtnjohdgdmnkjlaaLoi
import Derived.Test.YtnjohdgdmnkjlaaTqa
import Derived.Laws.AppendOwn
import Derived.Laws.AppendOwnNone
import Derived.Laws.OwnMore
namespace Go.Proofs.Ytnjohdgdmnkjlaa
open Go.RowKit
open M
def f4z : List Int := [0, 0, 0, 0]
theorem four_parts : ∃ i, Try.prog.info? 22 = some i ∧ i.zero = some (.agg (iCells f4z)) ∧ i.size = 4 ∧ i.bytes = 32 := info_parts (by kernel_rfl)
section
variable {P : Program}
/-- Four numbers more. -/
theorem wpList_append_four {ops : Array Oper} {rest : List Oper} {o : Oper} {a : Act} {w : World} {Q : Exit → Act → World → Prop} (hgd : o.guard = none) (s x : Operand) (S E : TypeId) (hS : P.underlying S = some (.slice E))
    (hE : ∃ i, P.info? E = some i ∧ i.zero = some (.agg (iCells f4z)) ∧ i.size = 4 ∧ i.bytes = 32)
    (ho : o.op = .call { callee := .builtin .append, args := #[s, x], argTypes := #[S, S] })
    (base : Nat) (v : Value) (n : Nat) (l f : List Int) (hs : a.eval s = v) (hown : w.ownsRow base E 4 v n (iV l)) (g : Nat) (hx : a.eval x = .slice (some ⟨g, 0, none⟩) 1 1) (hf : ∀ p, p < 4 → w.cell? ⟨g, p, none⟩ = some (.int .i64 (f.getD p 0))) (hfl : f.length = 4)
    (hn : n ≤ 1000000) (hbase : base ≤ w.heap.size)
    (h : ∀ v' w', w'.ownsRow base E 4 v' (n + 1) (iV (l ++ f)) → Below base w w' → w.grownBy w' v.ownBlock → wpList P ops Q rest (a.put o.dst v') w') : wpList P ops Q (o :: rest) a w := by
  obtain ⟨i0, hi1, hi2, hi3, hi4⟩ := hE
  refine wpList_append_own w hgd s x S ho base E i0 (.agg (iCells f4z)) 4 32 hS hi1 hi2 hi3 hi4 (by rw [show (Value.agg (iCells f4z)).cells = iCells f4z from rfl, iCells_size]; rfl) (by decide) v n (iV l) hs hown ⟨g, 0, none⟩ 1 1 (iV f) hx (by rw [iV_len, hfl]) ?_ (iV_one f) (by unfold maxLen; omega) (by omega) hbase ?_
  · intro j u hu
    have hj : j < f.length := by
      have := (List.getElem?_eq_some_iff.1 hu).1
      rwa [iV_len] at this
    rw [show (⟨g, 0, none⟩ : Addr).add j = ⟨g, j, none⟩ by (simp [Addr.add]; exact fun h => h.symm), hf j (by omega), ← hu, iV_get f j hj]
  · intro v' w' hown' hgrow _
    exact h v' w' (by rw [iV_app]; exact hown') ((Below.refl _ _).grown hgrow hbase (fun k hk => own_ge hown k hk)) hgrow
/-- .. at a step of a statement that draws its order. -/
theorem step_append_four {ops : Array Oper} {o : Oper} {a : Act} {w : World} {K : Act → World → Prop} {Q : Exit → Act → World → Prop} {D : Prop} (hgd : o.guard = none) (s x : Operand) (S E : TypeId) (hS : P.underlying S = some (.slice E))
    (hE : ∃ i, P.info? E = some i ∧ i.zero = some (.agg (iCells f4z)) ∧ i.size = 4 ∧ i.bytes = 32)
    (ho : o.op = .call { callee := .builtin .append, args := #[s, x], argTypes := #[S, S] })
    (base : Nat) (v : Value) (n : Nat) (l f : List Int) (hs : a.eval s = v) (hown : w.ownsRow base E 4 v n (iV l)) (g : Nat) (hx : a.eval x = .slice (some ⟨g, 0, none⟩) 1 1) (hf : ∀ p, p < 4 → w.cell? ⟨g, p, none⟩ = some (.int .i64 (f.getD p 0))) (hfl : f.length = 4)
    (hn : n ≤ 1000000) (hbase : base ≤ w.heap.size)
    (h : ∀ v' w', w'.ownsRow base E 4 v' (n + 1) (iV (l ++ f)) → Below base w w' → w.grownBy w' v.ownBlock → K (a.put o.dst v') w') :
    if Region.wanted o (yielded ops a.tmps) = true then Oper.wp P o a w K Q else D := by
  have hw : Region.wanted o (yielded ops a.tmps) = true := by simp [Region.wanted, hgd]
  rw [if_pos hw]
  obtain ⟨i0, hi1, hi2, hi3, hi4⟩ := hE
  refine wp_append_own w s x S ho base E i0 (.agg (iCells f4z)) 4 32 hS hi1 hi2 hi3 hi4 (by rw [show (Value.agg (iCells f4z)).cells = iCells f4z from rfl, iCells_size]; rfl) (by decide) v n (iV l) hs hown ⟨g, 0, none⟩ 1 1 (iV f) hx (by rw [iV_len, hfl]) ?_ (iV_one f) (by unfold maxLen; omega) (by omega) hbase ?_
  · intro j u hu
    have hj : j < f.length := by
      have := (List.getElem?_eq_some_iff.1 hu).1
      rwa [iV_len] at this
    rw [show (⟨g, 0, none⟩ : Addr).add j = ⟨g, j, none⟩ by (simp [Addr.add]; exact fun h => h.symm), hf j (by omega), ← hu, iV_get f j hj]
  · intro v' w' hown' hgrow _
    exact h v' w' (by rw [iV_app]; exact hown') ((Below.refl _ _).grown hgrow hbase (fun k hk => own_ge hown k hk)) hgrow
end
/-- The order, as far as R numbers. -/
def o13 (R : Nat) : List Int := (List.range R).map unr
theorem o13_len (R : Nat) : (o13 R).length = R := by simp [o13]
theorem o13_at (R p : Nat) (h : p < R) : (o13 R).getD p 0 = unr p := by
  simp [o13, List.getD_eq_getElem?_getD, h]
theorem o13_snoc (R : Nat) : o13 (R + 1) = o13 R ++ [unr R] := by
  simp [o13, List.range_succ]
theorem o13_odd (y : Nat) : o13 (2 * y + 1) ++ [((y + 1 : Nat) : Int)] = o13 (2 * y + 2) := by
  rw [o13_snoc (2 * y + 1)]
  congr 2
  unfold unr sz
  rw [if_pos (by omega)]
  omega
theorem o13_even (y : Nat) : o13 (2 * y + 2) ++ [-((y + 1 : Nat) : Int)] = o13 (2 * (y + 1) + 1) := by
  rw [show 2 * (y + 1) + 1 = 2 * y + 2 + 1 by omega, o13_snoc (2 * y + 2)]
  congr 2
  unfold unr sz
  rw [if_neg (by omega)]
  omega
theorem o13_one : ([] : List Int) ++ [0] = o13 (2 * 0 + 1) := by decide
/-- What one step of the three loops appends, in one row. -/
theorem ce_none (k a b c : Nat) (h : k < sz a + sz b + sz c) : (ce13 k a b c).flatten = [] := by unfold ce13; rw [if_pos h]; rfl
theorem ce_zero (k a b c : Nat) (h : k = sz a + sz b + sz c) : ce13 k a b c = [[unr a, unr b, unr c, 0]] := by unfold ce13; rw [if_neg (by omega), if_pos h]
theorem ce_two (k a b c z : Nat) (h : k = sz a + sz b + sz c + z) (hz : 0 < z) : ce13 k a b c = [[unr a, unr b, unr c, (z : Int)], [unr a, unr b, unr c, -(z : Int)]] := by
  unfold ce13
  rw [if_neg (by omega), if_neg (by omega), show k - (sz a + sz b + sz c) = z by omega]
end Go.Proofs.Ytnjohdgdmnkjlaa
