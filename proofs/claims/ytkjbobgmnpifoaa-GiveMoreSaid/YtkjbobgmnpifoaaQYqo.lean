/-
  A slice of the call's own to which a number is appended. Conditions: those that each fact names.
-/
import Derived.Test.YtkjbobgmnpifoaaQLiv
import Derived.Laws.AppendOwn
import Derived.Laws.AppendOwnNone
import Derived.Laws.OwnMore
namespace Go.Proofs.Ytkjbobgmnpifoaa
open Go.RowKit
open M
theorem own13_apart {w w' : World} {base base' g cap n m size : Nat} {e e' : TypeId} {xs ys : List Value} {v : Value} (h : w.ownsRow base e size (.slice (some ⟨g, 0, none⟩) n cap) n xs) (hne : e ≠ e') {size' : Nat} (ho : w.ownsRow base' e' size' v m ys) (hg : w.grownBy w' v.ownBlock) :
    w'.ownsRow base e size (.slice (some ⟨g, 0, none⟩) n cap) n xs := by
  rcases h.2 with ⟨h1, _⟩ | ⟨g', cap', cur, h1, hbs, hr, hnc, hcm, hsz, htk⟩
  · simp at h1
  · simp only [Value.slice.injEq, Option.some.injEq, Addr.mk.injEq, and_true, true_and] at h1
    obtain ⟨rfl, rfl⟩ := h1
    refine ⟨h.1, .inr ⟨g, cap, cur, rfl, hbs, Row.grown hr hg (Row.lt hr) ?_, hnc, hcm, hsz, htk⟩⟩
    intro he
    rcases ho.2 with ⟨rfl, _⟩ | ⟨g2, cap2, cur2, rfl, _, hr2, _⟩
    · simp [Value.ownBlock] at he
    · simp only [Value.ownBlock, Option.some.injEq] at he
      subst he
      rw [hr] at hr2
      injection hr2 with hr2
      injection hr2 with _ hr2 _
      exact hne hr2
theorem own13_stay {w w' : World} {base n size : Nat} {e : TypeId} {v : Value} {xs : List Value} (h : w.ownsRow base e size v n xs) (hb : Below w.heap.size w w') : w'.ownsRow base e size v n xs := by
  refine ⟨h.1, ?_⟩
  rcases h.2 with h0 | ⟨g, cap, cur, h1, h2, h3, h4⟩
  · exact Or.inl h0
  · exact Or.inr ⟨g, cap, cur, h1, h2, (hb.block g (Row.lt h3)).trans h3, h4⟩
theorem own13_form {w : World} {base size n : Nat} {e : TypeId} {v : Value} {xs : List Value} (h : w.ownsRow base e size v n xs) (h0 : 0 < n) :
    ∃ g cap, v = .slice (some ⟨g, 0, none⟩) n cap ∧ base ≤ g ∧ g < w.heap.size := by
  rcases h.2 with ⟨_, h1⟩ | ⟨g, cap, cur, h1, h2, h3, h4⟩
  · omega
  · exact ⟨g, cap, h1, h2, Row.lt h3⟩
theorem own13_at {w : World} {base g cap n size : Nat} {e : TypeId} {l : List Int} (h : w.ownsRow base e size (.slice (some ⟨g, 0, none⟩) n cap) n (iV l)) (p : Nat) (hp : p < l.length) : w.cell? ⟨g, p, none⟩ = some (.int .i64 (l.getD p 0)) := by
  have hl : (iV l).length = n * size := h.1
  rw [iV_len] at hl
  rcases h.2 with ⟨h1, _⟩ | ⟨g', cap', cur, h1, hbs, hr, hnc, hcm, hsz, htk⟩
  · simp at h1
  · simp only [Value.slice.injEq, Option.some.injEq, Addr.mk.injEq, and_true, true_and] at h1
    obtain ⟨rfl, rfl⟩ := h1
    rw [cell_of_row _ _ _ _ _ _ hr, ← iV_get l p hp, ← htk, List.getElem?_take, if_pos (by omega), Array.getElem?_toList]
theorem own13_none (w : World) (base size : Nat) (e : TypeId) : w.ownsRow base e size (.slice none 0 0) 0 (iV []) := ⟨by simp [iV], Or.inl ⟨rfl, rfl⟩⟩
theorem one_parts : ∃ i, Try.prog.info? 3 = some i ∧ i.zero = some (.int .i64 0) ∧ i.size = 1 ∧ i.bytes = 8 := info_parts int_info
section
variable {P : Program}
/-- One number more. -/
theorem wpList_append_one {ops : Array Oper} {rest : List Oper} {o : Oper} {a : Act} {w : World} {Q : Exit → Act → World → Prop} (hgd : o.guard = none) (s x : Operand) (S E : TypeId) (hS : P.underlying S = some (.slice E))
    (hE : ∃ i, P.info? E = some i ∧ i.zero = some (.int .i64 0) ∧ i.size = 1 ∧ i.bytes = 8)
    (ho : o.op = .call { callee := .builtin .append, args := #[s, x], argTypes := #[S, S] })
    (base : Nat) (v : Value) (n : Nat) (l : List Int) (z : Int) (hs : a.eval s = v) (hown : w.ownsRow base E 1 v n (iV l)) (g : Nat) (hx : a.eval x = .slice (some ⟨g, 0, none⟩) 1 1) (hf : w.cell? ⟨g, 0, none⟩ = some (.int .i64 z))
    (hn : n ≤ 1000000) (hbase : base ≤ w.heap.size)
    (h : ∀ v' w', w'.ownsRow base E 1 v' (n + 1) (iV (l ++ [z])) → Below base w w' → w.grownBy w' v.ownBlock → wpList P ops Q rest (a.put o.dst v') w') : wpList P ops Q (o :: rest) a w := by
  obtain ⟨i0, hi1, hi2, hi3, hi4⟩ := hE
  refine wpList_append_own w hgd s x S ho base E i0 (.int .i64 0) 1 8 hS hi1 hi2 hi3 hi4 rfl (by decide) v n (iV l) hs hown ⟨g, 0, none⟩ 1 1 (iV [z]) hx (by rw [iV_len]; rfl) ?_ (iV_one [z]) (by unfold maxLen; omega) (by omega) hbase ?_
  · intro j u hu
    have hj : j < 1 := by
      have := (List.getElem?_eq_some_iff.1 hu).1
      rwa [iV_len] at this
    obtain rfl : j = 0 := by omega
    rw [show (⟨g, 0, none⟩ : Addr).add 0 = ⟨g, 0, none⟩ by simp [Addr.add], hf, ← hu]
    rfl
  · intro v' w' hown' hgrow _
    exact h v' w' (by rw [iV_app]; exact hown') ((Below.refl _ _).grown hgrow hbase (fun k hk => own_ge hown k hk)) hgrow
end
end Go.Proofs.Ytkjbobgmnpifoaa
