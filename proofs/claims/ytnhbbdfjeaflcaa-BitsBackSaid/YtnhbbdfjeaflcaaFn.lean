/-
  What the rows with slices share: an argument that is a slice of pairs of numbers, or of numbers, taken apart; that it reads the same where nothing that was there has turned. No conditions.
-/
import Derived.Test.YtnhbbdfjeaflcaaRows
import Derived.Test.YtnhbbdfjeaflcaaBg
import Derived.ProofKit
import Derived.OpenShut
import Derived.WideKeyArgs
import Derived.ChangeSlices
import Derived.Deep.SlicePairs
namespace Go.Proofs.Ytnhbbdfjeaflcaa
open Go.ChangeShapes Go.WideShapes Go.ChangeAt Go.RowKit Go.Deep
open M

theorem laidOut : laidOutB Try.prog = true := by kernel_rfl
theorem cellsNum : Try.prog.cellsOf 31 = 2 := by kernel_rfl
theorem cellsInt : Try.prog.cellsOf 3 = 1 := by kernel_rfl

/-- A slice of pairs of numbers, as it lies. -/
def NumsAt (W : World) (v : Value) (xs : List (Int × Int)) : Prop :=
  ∃ a cap, v = .slice a xs.length cap ∧ (0 < xs.length → ∃ b off, a = some ⟨b, off, none⟩ ∧ b < W.heap.size ∧
    ∀ i, i < xs.length → W.cell? ⟨b, off + i * 2, none⟩ = some (.int .i64 (xs.getD i (0, 0)).1) ∧ W.cell? ⟨b, off + i * 2 + 1, none⟩ = some (.int .i64 (xs.getD i (0, 0)).2))
/-- A slice of numbers, as it lies. -/
def IntsAt (W : World) (v : Value) (xs : List Int) : Prop :=
  ∃ a cap, v = .slice a xs.length cap ∧ (0 < xs.length → ∃ b off, a = some ⟨b, off, none⟩ ∧ b < W.heap.size ∧
    ∀ i, i < xs.length → W.cell? ⟨b, off + i, none⟩ = some (.int .i64 (xs.getD i 0)))
def i64ok (x : Int) : Prop := -9223372036854775808 ≤ x ∧ x ≤ 9223372036854775807

section
variable {H : Type} {enc : TypeId × Value → H} {W W' : World}
theorem trod_below {t : TypeId} (hr : Try.prog.readableRec t = true) (hrow : t < Try.prog.types.size) {v : Value} {d : DataW H} {ps : List MemPlace}
    (h : DataW.Trod enc Try.prog W 0 (fun _ => true) true t v d ps) (hlt : ∀ p ∈ ps, p.block < W.heap.size) (hb : Below W.heap.size W W') :
    DataW.Trod enc Try.prog W' 0 (fun b => decide (b < W.heap.size)) true t v d ps := by
  refine WideElems.Trod_stays laidOut hr hrow h (fun p hp => ?_) (fun p hp => by simpa using hlt p hp)
  have := hlt p hp
  cases p with
  | cell b off => exact hb.cell (p := ⟨b, off, none⟩) this
  | map b => exact hb.block b this

theorem open_nums {v : Value} {d : DataW H} {ps : List MemPlace} {r : Reach} {b0 : Nat} (hv : Value.okWide Try.prog W r b0 22 v)
    (h : DataW.Trod enc Try.prog W 0 (fun _ => true) true 22 v d ps) :
    ∃ xs, NumsAt W v xs ∧ xs.length ≤ maxLen ∧ ∀ p ∈ xs, i64ok p.1 ∧ i64ok p.2 := by
  obtain ⟨a, len, cap, rfl⟩ := okWide_slice Try.underlying22 hv
  obtain ⟨fuel, hf⟩ := h
  rcases open_slice_pairs Try.underlying22 Try.underlying31 cellsNum rfl rfl cellsInt cellsInt hf with ⟨hc, _⟩ | ⟨a', len', cap', m, k, V0, V1, D0, D1, P0, P1, hc, _, hl, hm, hmm, _, hall⟩
  · have hc' : [Value.slice a len cap] = [.slice none 0 0] := hc
    simp only [List.cons.injEq, and_true] at hc'
    rw [hc']
    exact ⟨[], ⟨none, 0, rfl, fun h => by simp at h⟩, by simp, by simp⟩
  · have hc' : [Value.slice a len cap] = [.slice (some a') len' cap'] := hc
    simp only [List.cons.injEq, and_true] at hc'
    rw [hc']
    have hmc : m = cap' := by simpa using hmm
    have key : ∀ i, i < m → ∃ q : Int × Int, V0 i = .int .i64 q.1 ∧ V1 i = .int .i64 q.2 ∧ i64ok q.1 ∧ i64ok q.2 := by
      intro i hi
      obtain ⟨z0, e0, _, w0⟩ := DataW.trod_int Try.underlying3 (hall i hi).2.2.1
      obtain ⟨z1, e1, _, w1⟩ := DataW.trod_int Try.underlying3 (hall i hi).2.2.2
      exact ⟨(z0, z1), by simpa using e0, by simpa using e1, Go.bounds_i64 w0, Go.bounds_i64 w1⟩
    have key' : ∀ i, ∃ q : Int × Int, i < len' → V0 i = .int .i64 q.1 ∧ V1 i = .int .i64 q.2 ∧ i64ok q.1 ∧ i64ok q.2 := by
      intro i
      by_cases hi : i < len'
      · obtain ⟨q, hq⟩ := key i (by omega); exact ⟨q, fun _ => hq⟩
      · exact ⟨(0, 0), fun h => absurd h hi⟩
    obtain ⟨f, hf⟩ := Classical.axiomOfChoice key'
    have hg : ∀ i, i < len' → ((List.range len').map f).getD i (0, 0) = f i := by
      intro i hi; simp [hi]
    refine ⟨(List.range len').map f, ⟨some a', cap', by simp, fun h => ?_⟩, by simp; omega, ?_⟩
    · rw [List.length_map, List.length_range] at h
      obtain ⟨b, off, spot⟩ := a'
      have hspot : spot = none := by simpa [Addr.add] using World.cell?_spot (hall 0 (by omega)).1
      subst hspot
      refine ⟨b, off, rfl, World.block_lt_of_cell? W _ (hall 0 (by omega)).1, fun i hi => ?_⟩
      rw [List.length_map, List.length_range] at hi
      rw [hg i hi]
      have h1 := hall i (by omega)
      rw [(hf i hi).1, (hf i hi).2.1] at h1
      rw [add_plain, add_plain] at h1
      exact ⟨h1.1, h1.2.1⟩
    · intro p hp
      obtain ⟨i, hi, rfl⟩ := List.mem_map.1 hp
      exact (hf i (by simpa using hi)).2.2

theorem open_intl {v : Value} {d : DataW H} {ps : List MemPlace} {r : Reach} {b0 : Nat} (hv : Value.okWide Try.prog W r b0 41 v)
    (h : DataW.Trod enc Try.prog W 0 (fun _ => true) true 41 v d ps) :
    ∃ xs, IntsAt W v xs ∧ xs.length ≤ maxLen ∧ ∀ p ∈ xs, i64ok p := by
  obtain ⟨a, len, cap, rfl⟩ := okWide_slice Try.underlying41 hv
  obtain ⟨fuel, hf⟩ := h
  rcases open_ints Try.underlying41 Try.underlying3 cellsInt hf with ⟨hc, _⟩ | ⟨a', len', cap', zs, hc, _, hl, hm, hz, _, hall, hwf⟩
  · have hc' : [Value.slice a len cap] = [.slice none 0 0] := hc
    simp only [List.cons.injEq, and_true] at hc'
    rw [hc']
    exact ⟨[], ⟨none, 0, rfl, fun h => by simp at h⟩, by simp, by simp⟩
  · have hc' : [Value.slice a len cap] = [.slice (some a') len' cap'] := hc
    simp only [List.cons.injEq, and_true] at hc'
    rw [hc']
    have hzl : zs.length = cap' := by simpa using hz
    refine ⟨zs.take len', ⟨some a', cap', by rw [List.length_take, Nat.min_eq_left (by omega)], fun h => ?_⟩, by rw [List.length_take]; omega, fun p hp => Go.bounds_i64 (hwf p (List.mem_of_mem_take hp))⟩
    rw [List.length_take] at h
    obtain ⟨b, off, spot⟩ := a'
    have hspot : spot = none := by simpa [Addr.add] using World.cell?_spot (hall 0 (by omega))
    subst hspot
    refine ⟨b, off, rfl, World.block_lt_of_cell? W _ (hall 0 (by omega)), fun i hi => ?_⟩
    rw [List.length_take] at hi
    have h1 := hall i (by omega)
    have e : (zs.take len').getD i 0 = zs.getD i 0 := by
      simp only [List.getD_eq_getElem?_getD, List.getElem?_take]
      rw [if_pos (by omega)]
    rw [e, ← add_plain]
    exact h1
end
end Go.Proofs.Ytnhbbdfjeaflcaa
