/-
  What the rows with slices of numbers share: an argument that is one, taken apart; that it reads the same where nothing that was there has turned. No conditions.
-/
import Derived.Test.YtkjbobgmnpifoaaQBh
import Derived.ProofKit
import Derived.OpenShut
import Derived.WideKeyArgs
import Derived.ChangeSlices
namespace Go.Proofs.Ytkjbobgmnpifoaa
open Go.ChangeShapes Go.WideShapes Go.ChangeAt Go.RowKit
open M

theorem laidOut : laidOutB Try.prog = true := by kernel_rfl
theorem cellsInt : Try.prog.cellsOf 3 = 1 := by kernel_rfl

/-- A slice of numbers, as it lies. -/
def IntsAt (W : World) (v : Value) (xs : List Int) : Prop :=
  ∃ a cap, v = .slice a xs.length cap ∧ (0 < xs.length → ∃ b off, a = some ⟨b, off, none⟩ ∧ b < W.heap.size ∧
    ∀ i, i < xs.length → W.cell? ⟨b, off + i, none⟩ = some (.int .i64 (xs.getD i 0)))
def i64ok (x : Int) : Prop := -9223372036854775808 ≤ x ∧ x ≤ 9223372036854775807

theorem IntsAt.below {W W' : World} {v : Value} {xs : List Int} (h : IntsAt W v xs) (hb : Below W.heap.size W W') : IntsAt W' v xs := by
  obtain ⟨a, cap, rfl, hc⟩ := h
  refine ⟨a, cap, rfl, fun h0 => ?_⟩
  obtain ⟨b, off, rfl, hlt, hc⟩ := hc h0
  exact ⟨b, off, rfl, Nat.lt_of_lt_of_le hlt hb.size, fun i hi => (hb.cell (p := ⟨b, off + i, none⟩) hlt).trans (hc i hi)⟩

section
variable {H : Type} {enc : TypeId × Value → H} {W W' : World}
theorem trod_below {t : TypeId} (hr : Try.prog.readableRec t = true) (hrow : t < Try.prog.types.size) {v : Value} {d : DataW H} {ps : List MemPlace}
    (h : DataW.Trod enc Try.prog W 0 (fun _ => true) true t v d ps) (hlt : ∀ p ∈ ps, p.block < W.heap.size) (hb : Below W.heap.size W W') :
    DataW.Trod enc Try.prog W' 0 (fun b => decide (b < W.heap.size)) true t v d ps := by
  refine WideElems.Trod_stays laidOut hr hrow h (fun p hp => ?_) (fun p hp => by simpa using hlt p hp)
  have := hlt p hp
  cases p with
  | cell b off => exact hb.cell (p := ⟨b, off, none⟩) this
  | map b => exact hb.block b this

set_option maxRecDepth 100000 in
theorem open_intl {v : Value} {d : DataW H} {ps : List MemPlace} {r : Reach} {b0 : Nat} (hv : Value.okWide Try.prog W r b0 72 v)
    (h : DataW.Trod enc Try.prog W 0 (fun _ => true) true 72 v d ps) :
    ∃ xs, IntsAt W v xs ∧ xs.length ≤ maxLen ∧ ∀ p ∈ xs, i64ok p := by
  obtain ⟨a, len, cap, rfl⟩ := okWide_slice Try.underlying72 hv
  obtain ⟨fuel, hf⟩ := h
  rcases open_ints Try.underlying72 Try.underlying3 cellsInt hf with ⟨hc, _⟩ | ⟨a', len', cap', zs, hc, _, hl, hm, hz, _, hall, hwf⟩
  · have hc' : [Value.slice a len cap] = [.slice none 0 0] := hc
    simp only [List.cons.injEq, and_true] at hc'
    rw [hc']
    exact ⟨[], ⟨none, 0, rfl, fun h => by simp at h⟩, by simp, by simp⟩
  · have hc' : [Value.slice a len cap] = [.slice (some a') len' cap'] := hc
    simp only [List.cons.injEq, and_true] at hc'
    rw [hc']
    have hzl : zs.length = cap' := by simpa using hz
    refine ⟨zs.take len', ⟨some a', cap', by rw [List.length_take, Nat.min_eq_left (by omega)], fun h => ?_⟩, by rw [List.length_take]; omega, fun p hp => Go.bounds_i64 (hwf p (List.mem_of_mem_take hp))⟩
    rw [List.length_take] at h
    obtain ⟨b, off, spot⟩ := a'
    have hspot : spot = none := by simpa [Addr.add] using World.cell?_spot (hall 0 (by omega))
    subst hspot
    refine ⟨b, off, rfl, World.block_lt_of_cell? W _ (hall 0 (by omega)), fun i hi => ?_⟩
    rw [List.length_take] at hi
    have h1 := hall i (by omega)
    have e : (zs.take len').getD i 0 = zs.getD i 0 := by
      simp only [List.getD_eq_getElem?_getD, List.getElem?_take]
      rw [if_pos (by omega)]
    rw [e, ← add_plain]
    exact h1
end
end Go.Proofs.Ytkjbobgmnpifoaa
