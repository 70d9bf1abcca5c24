/-
  Layer 11's laws: numbers appended; a block read in a region that draws. Conditions: those that each fact names.
-/
import Derived.Test.YtdnchnhflfcdkaaQLo
import Derived.Laws.AppendOwnNone
import Derived.Laws.OwnMore
import Derived.Lib.QuietBelow
namespace Go.Proofs.Ytdnchnhflfcdkaa
open Go.RowKit
open M
theorem own_stay {w w' : World} {base n size : Nat} {e : TypeId} {v : Value} {xs : List Value} (h : w.ownsRow base e size v n xs) (hb : Below w.heap.size w w') : w'.ownsRow base e size v n xs := by
  refine ⟨h.1, ?_⟩
  rcases h.2 with h0 | ⟨g, cap, cur, h1, h2, h3, h4⟩
  · exact Or.inl h0
  · exact Or.inr ⟨g, cap, cur, h1, h2, (hb.block g (Row.lt h3)).trans h3, h4⟩
/-- A list of numbers as a slice: nil, or where it lies. -/
def SrcI (w : World) (v : Value) (l : List Int) : Prop :=
  (v = .slice none 0 0 ∧ l = []) ∨ ∃ g cap, v = .slice (some ⟨g, 0, none⟩) l.length cap ∧ l.length ≤ cap ∧ g < w.heap.size ∧ ∀ i, i < l.length → w.cell? ⟨g, i, none⟩ = some (.int .i64 (l.getD i 0))
theorem own_src {w : World} {base n : Nat} {v : Value} {l : List Int} (h : w.ownsRow base 3 1 v n (iV l)) : SrcI w v l := by
  have hl : l.length = n := by
    have := h.1
    rw [iV_len] at this
    omega
  rcases h.2 with ⟨rfl, hn⟩ | ⟨g, cap, cur, rfl, _, hg, hnc, _, _, htk⟩
  · exact Or.inl ⟨rfl, List.length_eq_zero_iff.1 (by omega)⟩
  · refine Or.inr ⟨g, cap, by rw [hl], by rw [hl]; exact hnc, Row.lt hg, fun i hi => ?_⟩
    rw [cell_of_row _ _ _ _ _ _ hg, ← iV_get l i hi, ← htk, List.getElem?_take, if_pos (by omega), Array.getElem?_toList]
theorem SrcI.box {w w' : World} {v : Value} {l : List Int} (h : SrcI w v l) (hb : Below w.heap.size w w') : SrcI w' v l := by
  rcases h with h | ⟨g, cap, rfl, hl, hg, hc⟩
  · exact Or.inl h
  · exact Or.inr ⟨g, cap, rfl, hl, Nat.lt_of_lt_of_le hg hb.size, fun i hi => (hb.cell (p := ⟨g, i, none⟩) hg).trans (hc i hi)⟩
theorem SrcI.ints {w : World} {v : Value} {l : List Int} (h : SrcI w v l) : IntsAt w v l := by
  rcases h with ⟨rfl, rfl⟩ | ⟨g, cap, rfl, _, hg, hc⟩
  · exact ⟨none, 0, rfl, fun h => absurd h (by decide)⟩
  · exact ⟨_, cap, rfl, fun _ => ⟨g, 0, rfl, hg, fun i hi => by rw [Nat.zero_add]; exact hc i hi⟩⟩
theorem SrcI.shape {w : World} {v : Value} {l : List Int} (h : SrcI w v l) : ∃ a cap, v = .slice a l.length cap := by
  rcases h with ⟨rfl, rfl⟩ | ⟨g, cap, rfl, _, _, _⟩
  · exact ⟨none, 0, rfl⟩
  · exact ⟨_, cap, rfl⟩
/-- The first numbers of a slice. -/
theorem SrcI.part {w : World} {g cap : Nat} {l : List Int} (k : Nat) (hk : k ≤ l.length) (hl : l.length ≤ cap) (hg : g < w.heap.size) (hc : ∀ i, i < l.length → w.cell? ⟨g, i, none⟩ = some (.int .i64 (l.getD i 0))) : SrcI w (.slice (some ⟨g, 0, none⟩) k cap) (l.take k) := by
  have hn : (l.take k).length = k := by rw [List.length_take]; omega
  refine Or.inr ⟨g, cap, by rw [hn], by omega, hg, fun i hi => ?_⟩
  rw [hc i (by omega), List.getD_eq_getElem?_getD, List.getD_eq_getElem?_getD, List.getElem?_take, if_pos (by omega)]
/-- Numbers appended to a slice of the call's own. -/
theorem wpList_append_src {ops : Array Oper} {rest : List Oper} {o : Oper} {a : Act} {w : World} {Q : Exit → Act → World → Prop} (hgd : o.guard = none) (s x : Operand)
    (ho : o.op = .call { callee := .builtin .append, args := #[s, x], argTypes := #[22, 22] })
    (base : Nat) (v u : Value) (l m : List Int) (hs : a.eval s = v) (hown : w.ownsRow base 3 1 v l.length (iV l)) (hx : a.eval x = u) (hu : SrcI w u m)
    (hlen : l.length + m.length ≤ 1048576) (hbase : base ≤ w.heap.size)
    (h : ∀ v' w', w'.ownsRow base 3 1 v' (l ++ m).length (iV (l ++ m)) → Below base w w' → wpList Try.prog ops Q rest (a.put o.dst v') w') : wpList Try.prog ops Q (o :: rest) a w := by
  obtain ⟨i0, hi1, hi2, hi3, hi4⟩ := int_parts
  rcases hu with ⟨rfl, rfl⟩ | ⟨g, cap, rfl, _, hg, hc⟩
  · refine wpList_append_own_none hgd s x 22 ho base 3 i0 1 Try.underlying22 hi1 v l.length (iV l) hs hown hx ?_
    exact h v w (by rw [List.append_nil]; exact hown) (Below.refl _ _)
  · refine wpList_append_own w hgd s x 22 ho base 3 i0 (.int .i64 0) 1 8 Try.underlying22 hi1 hi2 hi3 hi4 rfl (by decide) v l.length (iV l) hs hown ⟨g, 0, none⟩ m.length cap (iV m) hx (by rw [iV_len, Nat.mul_one]) ?_ (iV_one m) (by unfold maxLen; omega) (by omega) hbase ?_
    · intro j u hu
      have hj : j < m.length := by
        have := (List.getElem?_eq_some_iff.1 hu).1
        rwa [iV_len] at this
      rw [Addr.add_mid, Nat.zero_add, hc j hj, ← hu, iV_get m j hj]
    · intro v' w' hown' hgrow _
      exact h v' w' (by rw [List.length_append, iV_app]; exact hown') ((Below.refl _ _).grown hgrow hbase (fun k hk => own_ge hown k hk))
/-- A block is read in a statement that draws its order and changes nothing that was there. -/
theorem q_load_part {P : Program} {C : World → Prop} {a : Act} {o : Oper} {K : Act → Prop} (ty : TypeId) (y : Operand) (ho : o.op = .load ty y) (g b p : Nat) (hp : p = 32 * b) (hx : a.eval y = .pointer (some ⟨g, p, none⟩)) (t : TypeId) (x : List Int) (d : TypeDesc)
    (hC : ∀ w, C w → Row w g t (iCells x)) (hb : 32 * b + 32 ≤ x.length) (hu : P.underlying ty = some d) (hd : d.isRow = true) (hi : (P.info? ty).map (·.size) = some 32)
    (hk : K (a.put o.dst (.agg (iCells (blk x b))))) : o.quiet P a C K :=
  ⟨_, fun w hw => by
    subst hp
    unfold Oper.quietAt execOp
    simp only [ho, hx, Instr.loadAt, Instr.sureAddr, Sem.run_bind, Sem.run_pure, Result.andThen_ok, run_loadVar_mid w g _ ty _ d (part_range (hC w hw) b hb) hu hd (by rw [part_size _ (blk_len _ _)]; exact hi)]
    exact ⟨rfl, by rw [Array.toArray_toList]⟩, hk⟩
end Go.Proofs.Ytdnchnhflfcdkaa
