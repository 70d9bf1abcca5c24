/-
  Contracts and plain facts that the laws share; each piece is headed by what it holds and its conditions.
-/
import Derived.Test.YtalbcimnnihmnaaGreatQS10
import Derived.Test.YtalbcimnnihmnaaGreatQGvv
import Derived.Test.YtalbcimnnihmnaaGreatQS11
import Derived.Test.YtalbcimnnihmnaaGreatQS21
import Derived.Test.YtalbcimnnihmnaaGreatQS29
import Derived.Test.YtalbcimnnihmnaaGreatQS5
import Derived.Test.YtalbcimnnihmnaaGreatQS13
import Derived.Test.YtalbcimnnihmnaaGreatQS32
import Derived.Test.YtalbcimnnihmnaaGreatQGkg
import Derived.Test.YtalbcimnnihmnaaGreatQS12
import Derived.Test.YtalbcimnnihmnaaGreatQWki
import Derived.Test.YtalbcimnnihmnaaGreatQS30
import Derived.StillTailTactics
import Derived.Deep.Cut
import Derived.Deep.QuietTactic
import Derived.BigQuiet
import Derived.Deep.WholeRow
import Derived.ProofKit
import Derived.OpenShut
import Derived.Stop.Joined

/- What the program's Bits of layer 13 answers, as layer 18's texts ask it. No conditions. -/
namespace Go.Proofs.YtalbcimnnihmnaaGreat
open Go.RowKit
open M
theorem btc_len : ∀ k, k ≤ 12 → Go.Lib.bitLen (cn13 4 k - 1) = btc k := by decide +kernel
theorem bvOk : BvOk := fun k w hk => by
  have h := bits_any (k : Int) w
  rw [biI_in k hk, btc_len k hk] at h
  exact h
end Go.Proofs.YtalbcimnnihmnaaGreat

/- Layer 18's Pulses, met: what the program's answers. No conditions. -/
namespace Go.Proofs.YtalbcimnnihmnaaGreat
theorem pulOk18 : PulOk := pulOk bvOk
end Go.Proofs.YtalbcimnnihmnaaGreat

/- Layer 19: what pack's Right, Lay and Read answer, met. No conditions. -/
namespace Go.Proofs.YtalbcimnnihmnaaGreat
open Go.RowKit
open M
theorem rigOk19 : RigOk := rigOk pulOk18 bizOk
theorem layOk19 : LayOk := layOk bvOk rigOk19
theorem redOk19 : RedOk := redOk pulOk18 bizOk bvOk
end Go.Proofs.YtalbcimnnihmnaaGreat

/- An array of ints handed in by value: taken apart as the rows read it, and put together. No program is named here. No conditions. -/
namespace Go.Proofs.YtalbcimnnihmnaaGreat
open Go.ChangeShapes Go.WideShapes Go.ChangeAt Go.RowKit
open M

section
variable {H : Type} {enc : TypeId × Value → H} {P : Program} {W : World} {w : World} {base b0 : Nat} {spare : Nat → Bool} {held : Bool} {r : Reach}
theorem open_iarr {n : Nat} {t e : TypeId} {k : IntKind} {v : Value} {d : DataW H} {p : List MemPlace} (ht : P.underlying t = some (.array n e)) (he : P.underlying e = some (.int k)) (hce : P.cellsOf e = 1) (hct : P.cellsOf t = n)
    (hv : Value.okWide P w r b0 t v) (h : DataW.Trod enc P w base spare held t v d p) :
    ∃ zs : List Int, zs.length = n ∧ v = .agg (zs.map (Value.int k)).toArray ∧ d = .agg (zs.map fun z => .lit (.int k z)) ∧ p = [] ∧ ∀ z ∈ zs, (Lit.int k z).wf = true := by
  obtain ⟨cs, rfl, hsz, _⟩ : ∃ cs, v = .agg cs ∧ cs.size = P.cellsOf t ∧ Row.okWide P w r b0 t cs := by simpa [Value.okWide, ht] using hv
  obtain ⟨fuel, hf⟩ := h
  obtain ⟨xs, m, _, hx, _, hl, hat⟩ := DataW.trod_array ht hf
  obtain ⟨l⟩ := cs
  have hll : l.length = n := by rw [← hct, ← hsz]; simp
  have key : ∀ i (hi : i < n), ∃ z, l[i]'(by omega) = .int k z ∧ xs[i]'(by omega) = (.lit (.int k z), []) ∧ (Lit.int k z).wf = true := by
    intro i hi
    have h1 := hat i hi
    rw [List.getElem?_eq_getElem (by omega), hce, Nat.mul_one] at h1
    obtain ⟨z, e1, e2, e3⟩ := DataW.trod_int he h1
    have e4 : ((Value.agg ⟨l⟩).cells.toList.drop i).take 1 = [l[i]'(by omega)] := by
      show (l.drop i).take 1 = _
      rw [List.drop_eq_getElem_cons (by omega)]; rfl
    rw [e4] at e1
    exact ⟨z, by simpa using e1, e2, e3⟩
  have hl2 : l = (l.map intOf).map (Value.int k) := by
    apply List.ext_getElem (by simp)
    intro i h1 h2
    obtain ⟨z, e1, _⟩ := key i (by omega)
    simp [e1, intOf]
  have hxs : xs = (l.map intOf).map fun z => ((.lit (.int k z) : DataW H), ([] : List MemPlace)) := by
    apply List.ext_getElem (by simp; omega)
    intro i h1 h2
    obtain ⟨z, e1, e2, _⟩ := key i (by omega)
    simp [e1, e2, intOf]
  simp only [Prod.mk.injEq] at hx
  refine ⟨l.map intOf, by simpa using hll, by rw [← hl2], by rw [hx.1, hxs]; simp, ?_, ?_⟩
  · rw [hx.2, hxs]; simp
  · intro z hz
    obtain ⟨i, hi, rfl⟩ := List.getElem_of_mem hz
    obtain ⟨z, e1, _, e3⟩ := key i (by simpa [hll] using hi)
    simpa [e1, intOf] using e3

theorem shut_iarr {n : Nat} {t e : TypeId} {k : IntKind} (ht : P.underlying t = some (.array n e)) (he : P.underlying e = some (.int k)) (hce : P.cellsOf e = 1) (hct : P.cellsOf t = n)
    (zs : List Int) (hl : zs.length = n) (hwf : ∀ z ∈ zs, (Lit.int k z).wf = true) :
    DataW.Trod enc P w base spare held t (.agg (zs.map (Value.int k)).toArray) (.agg (zs.map fun z => .lit (.int k z))) [] := by
  refine ⟨2, ?_⟩
  unfold DataW.trod
  rw [ht]
  have hm : ((List.range n).mapM fun i => DataW.trod enc P w base spare held 1 e (((zs.map (Value.int k)).drop (i * P.cellsOf e)).take (P.cellsOf e))) = some (zs.map fun z => ((.lit (.int k z) : DataW H), ([] : List MemPlace))) := by
    have hr : (List.range n).mapM (fun i => DataW.trod enc P w base spare held 1 e (((zs.map (Value.int k)).drop (i * P.cellsOf e)).take (P.cellsOf e))) = (List.range n).mapM (fun i => (zs.map fun z => ((.lit (.int k z) : DataW H), ([] : List MemPlace)))[i]?) := by
      have hcongr : ∀ (L : List Nat), (∀ i ∈ L, i < n) → L.mapM (fun i => DataW.trod enc P w base spare held 1 e (((zs.map (Value.int k)).drop (i * P.cellsOf e)).take (P.cellsOf e))) = L.mapM (fun i => (zs.map fun z => ((.lit (.int k z) : DataW H), ([] : List MemPlace)))[i]?) := by
        intro L
        induction L with
        | nil => intro _; rfl
        | cons a L ih =>
          intro hL
          have ha : a < zs.length := by rw [hl]; exact hL a (by simp)
          have e1 : DataW.trod enc P w base spare held 1 e (((zs.map (Value.int k)).drop (a * P.cellsOf e)).take (P.cellsOf e)) = (zs.map fun z => ((.lit (.int k z) : DataW H), ([] : List MemPlace)))[a]? := by
            rw [hce, Nat.mul_one, List.drop_eq_getElem_cons (by simpa using ha)]
            simp [DataW.trod, he, ha, hwf _ (List.getElem_mem ha)]
          rw [List.mapM_cons, List.mapM_cons, e1, ih (fun i hi => hL i (by simp [hi]))]
      exact hcongr _ (fun i hi => by simpa using hi)
    rw [hr]
    have hlen : (zs.map fun z => ((.lit (.int k z) : DataW H), ([] : List MemPlace))).length = n := by simpa using hl
    generalize (zs.map fun z => ((.lit (.int k z) : DataW H), ([] : List MemPlace))) = ys at *
    have hall : ∀ (m j : Nat), j + m = ys.length → (List.range' j m).mapM (fun i => ys[i]?) = some (ys.drop j) := by
      intro m
      induction m with
      | zero => intro j hj; rw [List.drop_of_length_le (by omega)]; rfl
      | succ m ih =>
        intro j hj
        rw [List.range'_succ, List.mapM_cons, List.getElem?_eq_getElem (by omega), ih (j + 1) (by omega), List.drop_eq_getElem_cons (l := ys) (i := j) (by omega)]
        rfl
    have := hall n 0 (by omega)
    rwa [← List.range_eq_range', List.drop_zero] at this
  show (if (zs.map (Value.int k)).length = P.cellsOf t then _ else none) = _
  rw [if_pos (by rw [hct]; simpa using hl)]
  have e2 : (Value.agg (zs.map (Value.int k)).toArray).cells.toList = zs.map (Value.int k) := by simp [Value.cells]
  rw [e2, hm]
  simp
end

end Go.Proofs.YtalbcimnnihmnaaGreat
