/-
  A list of numbers of the call's own. No conditions but those that each fact names.
-/
import Derived.Test.YtkjbobgmnpifoaaQFj
import Derived.Test.YtkjbobgmnpifoaaQLiv
namespace Go.Proofs.Ytkjbobgmnpifoaa
open Go.RowKit
open M
theorem own_ints {w : World} {base n : Nat} {v : Value} {l : List Int} (h : w.ownsRow base 3 1 v n (iV l)) : IntsAt w v l := by
  have hl : l.length = n := by
    have := h.1
    rw [iV_len] at this
    omega
  by_cases h0 : 0 < n
  · obtain ⟨g, cap, rfl, _, hg, hc⟩ := own_cells h h0
    exact ⟨_, cap, by rw [hl], fun _ => ⟨g, 0, rfl, hg, fun i hi => by rw [Nat.zero_add, hc i (by omega), iV_get l i hi]⟩⟩
  · rcases h.2 with ⟨rfl, hn⟩ | ⟨g, cap, _, rfl, _, _, _, _, _, _⟩
    · exact ⟨none, 0, by rw [hl, hn], fun h1 => by omega⟩
    · exact ⟨_, cap, by rw [hl], fun h1 => by omega⟩
theorem int_parts : ∃ i, Try.prog.info? 3 = some i ∧ i.zero = some (.int .i64 0) ∧ i.size = 1 ∧ i.bytes = 8 := info_parts int_info
end Go.Proofs.Ytkjbobgmnpifoaa
