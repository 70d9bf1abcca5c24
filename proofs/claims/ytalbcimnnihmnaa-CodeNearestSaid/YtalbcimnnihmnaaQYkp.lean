/-
  pvq's Vector of natural numbers; where a list's numbers lie; a number's rest by a count. Conditions: those that each fact names.
-/
import Derived.Test.YtalbcimnnihmnaaQYg
import Derived.Test.YtalbcimnnihmnaaQS24
namespace Go.Proofs.Ytalbcimnnihmnaa
open Go.RowKit
open M
theorem vector_at (x y z : Int) (n k i : Nat) (w : World) (hx : x = n) (hy : y = k) (hz : z = i) (hn : n ≤ 8) (hk : k ≤ 12) (hi : i < cn13 n k) :
    Calls Try.prog 11 #[.int .i64 x, .int .i64 y, .int .i64 z] w fun e w' => (∃ a cap, e = .returned (.tuple #[.slice a n cap, .int .i64 0]) ∧ IntsAt w' (.slice a n cap) (vc13 n k i)) ∧ Below w.heap.size w w' := by
  subst hx hy hz
  refine (vector_any n k i w).mono ?_
  rintro e w' ⟨⟨v, rfl, hv⟩, hb⟩
  obtain ⟨h1, h2⟩ := vc_in n k i hn hk hi
  obtain ⟨g1, g2, g3⟩ := vc_all n k i hi
  rw [h1] at hv
  rw [h2]
  obtain ⟨a, cap, hva, hc⟩ := hv
  rw [g1] at hva
  subst hva
  exact ⟨⟨a, cap, rfl, a, cap, by rw [g1], hc⟩, hb⟩
/-- .. in a new block. -/
theorem vector_at_new (x y z : Int) (n k i : Nat) (w : World) (hx : x = n) (hy : y = k) (hz : z = i) (hn : n ≤ 8) (hk : k ≤ 12) (hi : i < cn13 n k) :
    Calls Try.prog 11 #[.int .i64 x, .int .i64 y, .int .i64 z] w fun e w' => (∃ a cap, e = .returned (.tuple #[.slice a n cap, .int .i64 0]) ∧ IntsAt w' (.slice a n cap) (vc13 n k i) ∧ NewSl w.heap.size (.slice a n cap)) ∧ Below w.heap.size w w' := by
  subst hx hy hz
  refine (vector_new n k i w).mono ?_
  rintro e w' ⟨⟨v, rfl, hv, hs⟩, hb⟩
  obtain ⟨h1, h2⟩ := vc_in n k i hn hk hi
  obtain ⟨g1, g2, g3⟩ := vc_all n k i hi
  rw [h1] at hv
  rw [h2]
  obtain ⟨a, cap, hva, hc⟩ := hv
  rw [g1] at hva
  subst hva
  exact ⟨⟨a, cap, rfl, ⟨a, cap, by rw [g1], hc⟩, hs⟩, hb⟩
theorem cn_wide (n k : Nat) : cn13 n k ≤ cn13 (n + 1) k := by
  have h := ah_mono (cn13 n) k 1 (2 * k + 1) (by omega)
  have e : ah (cn13 n) k 1 = 0 + cn13 n (k - sz 0) := rfl
  rw [show k - sz 0 = k from rfl] at e
  show cn13 n k ≤ ah (cn13 n) k (2 * k + 1)
  omega
theorem cn_null (n k : Nat) (h : cn13 n k = 0) : n = 0 ∧ 0 < k := by
  cases n with
  | zero =>
    refine ⟨rfl, ?_⟩
    cases k with
    | zero => exact absurd h (by decide)
    | succ k => omega
  | succ n => have := cn_pos n k; omega
/-- Where an IntsAt's numbers lie. -/
theorem ints_cells {w : World} {a : Option Addr} {n cap : Nat} {l : List Int} (h : IntsAt w (.slice a n cap) l) (hl : l.length = n) (hn : 0 < n) :
    ∃ b off, a = some ⟨b, off, none⟩ ∧ b < w.heap.size ∧ ∀ i, i < n → w.cell? ⟨b, off + i, none⟩ = some (.int .i64 (l.getD i 0)) := by
  obtain ⟨a', cap', he, hc⟩ := h
  obtain ⟨b, off, hb⟩ := hc (by omega)
  simp only [Value.slice.injEq] at he
  obtain ⟨rfl, _, _⟩ := he
  rw [hl] at hb
  exact ⟨b, off, hb⟩
theorem u32_mod (z : Int) (c : Nat) (h0 : 0 ≤ z) (hc : 0 < c) : ∃ A : Nat, z % (c : Int) = A ∧ z.tmod (c : Int) = A ∧ A < c := by
  refine ⟨(z % (c : Int)).toNat, ?_, ?_, ?_⟩
  · have := Int.emod_nonneg z (show (c : Int) ≠ 0 by omega); omega
  · rw [Int.tmod_eq_emod_of_nonneg h0]
    have := Int.emod_nonneg z (show (c : Int) ≠ 0 by omega); omega
  · have := Int.emod_nonneg z (show (c : Int) ≠ 0 by omega)
    have := Int.emod_lt_of_pos z (show 0 < (c : Int) by omega)
    omega
end Go.Proofs.Ytalbcimnnihmnaa
