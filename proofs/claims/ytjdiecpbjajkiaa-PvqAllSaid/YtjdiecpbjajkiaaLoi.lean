/-
  Numbers as values, and a list of numbers of the call's own. No conditions but those that each fact names.
-/
import Derived.Test.YtjdiecpbjajkiaaFj
namespace Go.Proofs.Ytjdiecpbjajkiaa
open Go.RowKit
open M
/-- Numbers as values. -/
def iV (l : List Int) : List Value := l.map fun x => Value.int .i64 x
theorem iV_len (l : List Int) : (iV l).length = l.length := by simp [iV]
theorem iV_get (l : List Int) (i : Nat) (h : i < l.length) : (iV l)[i]? = some (.int .i64 (l.getD i 0)) := by
  simp [iV, List.getD_eq_getElem?_getD, h]
theorem iV_one (l : List Int) : ∀ u ∈ iV l, u.oneCell' = true := by
  intro u hu
  obtain ⟨x, _, rfl⟩ := List.mem_map.1 hu
  rfl
theorem iV_app (l m : List Int) : iV (l ++ m) = iV l ++ iV m := by simp [iV]
theorem take_snoc (l : List Int) (k : Nat) (h : k < l.length) : l.take (k + 1) = l.take k ++ [l.getD k 0] := by
  rw [List.take_add_one, List.getD_eq_getElem?_getD, List.getElem?_eq_getElem h]
  rfl
theorem iV_snoc (l : List Int) (k : Nat) (h : k < l.length) : iV (l.take (k + 1)) = iV (l.take k) ++ [.int .i64 (l.getD k 0)] := by
  rw [take_snoc l k h, iV_app]
  rfl
theorem own_ints {w : World} {base n : Nat} {v : Value} {l : List Int} (h : w.ownsRow base 3 1 v n (iV l)) : IntsAt w v l := by
  have hl : l.length = n := by
    have := h.1
    rw [iV_len] at this
    omega
  by_cases h0 : 0 < n
  · obtain ⟨g, cap, rfl, _, hg, hc⟩ := own_cells h h0
    exact ⟨_, cap, by rw [hl], fun _ => ⟨g, 0, rfl, hg, fun i hi => by rw [Nat.zero_add, hc i (by omega), iV_get l i hi]⟩⟩
  · rcases h.2 with ⟨rfl, hn⟩ | ⟨g, cap, _, rfl, _, _, _, _, _, _⟩
    · exact ⟨none, 0, by rw [hl, hn], fun h1 => by omega⟩
    · exact ⟨_, cap, by rw [hl], fun h1 => by omega⟩
theorem int_parts : ∃ i, Try.prog.info? 3 = some i ∧ i.zero = some (.int .i64 0) ∧ i.size = 1 ∧ i.bytes = 8 := info_parts int_info
end Go.Proofs.Ytjdiecpbjajkiaa
