/-
  All vectors of four, one behind the other, in one row. No conditions but those that each fact names.
-/
import Derived.Test.YtnjohdgdmnkjlaaTqa
namespace Go.Proofs.Ytnjohdgdmnkjlaa
open M
/-- The i-th of lists of four, in one row. -/
theorem flat_get : ∀ (L : List (List Int)) (_ : ∀ v ∈ L, v.length = 4) (i : Nat) (v : List Int), L[i]? = some v → ∀ p, p < 4 → L.flatten.getD (4 * i + p) 0 = v.getD p 0
  | [], _, _, _, h, _, _ => by simp at h
  | u :: L, hl, 0, v, h, p, hp => by
    obtain rfl : u = v := by simpa using h
    have hu := hl u (List.mem_cons_self ..)
    rw [List.flatten_cons, List.getD_eq_getElem?_getD, List.getD_eq_getElem?_getD, List.getElem?_append_left (by omega), Nat.mul_zero, Nat.zero_add]
  | u :: L, hl, i + 1, v, h, p, hp => by
    have hu := hl u (List.mem_cons_self ..)
    have ih := flat_get L (fun v hv => hl v (List.mem_cons_of_mem _ hv)) i v (by simpa using h) p hp
    rw [List.flatten_cons, List.getD_eq_getElem?_getD, List.getElem?_append_right (by omega), hu, show 4 * (i + 1) + p - 4 = 4 * i + p by omega, ← List.getD_eq_getElem?_getD, ih]
theorem al_mem (n k : Nat) : ∀ v ∈ al13 n k, v.length = n := fun v hv => by
  obtain ⟨i, hi, rfl⟩ := List.getElem_of_mem hv
  have h1 : i < cn13 n k := by rw [← al_len]; exact hi
  have h2 := al_get n k i h1
  rw [List.getElem?_eq_getElem hi] at h2
  injection h2 with h2
  rw [h2]
  exact (vc_all n k i h1).1
theorem al_flat (k i : Nat) (h : i < cn13 4 k) (p : Nat) (hp : p < 4) : (al13 4 k).flatten.getD (4 * i + p) 0 = (vc13 4 k i).getD p 0 :=
  flat_get (al13 4 k) (al_mem 4 k) i _ (al_get 4 k i h) p hp
theorem al_flat_len (k : Nat) : (al13 4 k).flatten.length = 4 * cn13 4 k := by
  have : ∀ (L : List (List Int)) (_ : ∀ v ∈ L, v.length = 4), L.flatten.length = 4 * L.length := by
    intro L
    induction L with
    | nil => intro _; rfl
    | cons u L ih =>
      intro h
      rw [List.flatten_cons, List.length_append, ih (fun v hv => h v (List.mem_cons_of_mem _ hv)), h u (List.mem_cons_self ..), List.length_cons]
      omega
  rw [this _ (al_mem 4 k), al_len]
end Go.Proofs.Ytnjohdgdmnkjlaa
