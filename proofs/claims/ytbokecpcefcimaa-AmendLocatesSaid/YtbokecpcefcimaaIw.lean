/-
  An array of 127 bools handed in by value: taken apart as the rows read it, and put together. No conditions.
-/
import Derived.Test.YtbokecpcefcimaaHw
namespace Go.Proofs.Ytbokecpcefcimaa
open Go.ChangeShapes Go.WideShapes Go.ChangeAt Go.RowKit
open M

section
variable {H : Type} {enc : TypeId × Value → H} {P : Program} {w : World} {base b0 : Nat} {spare : Nat → Bool} {held : Bool} {r : Reach}
theorem trod_bool {fuel : Nat} {t : TypeId} {cs : List Value} {x : DataW H × List MemPlace} (ht : P.underlying t = some .bool) (h : DataW.trod enc P w base spare held fuel t cs = some x) : ∃ b, cs = [.bool b] ∧ x = (.lit (.bool b), []) := by
  cases fuel with
  | zero => simp [DataW.trod] at h
  | succ n =>
    unfold DataW.trod at h
    rw [ht] at h
    split at h <;> simp_all
def isT : Value → Bool
  | .bool b => b
  | _ => false
theorem open_barr {n : Nat} {t e : TypeId} {v : Value} {d : DataW H} {p : List MemPlace} (ht : P.underlying t = some (.array n e)) (he : P.underlying e = some .bool) (hce : P.cellsOf e = 1) (hct : P.cellsOf t = n)
    (hv : Value.okWide P w r b0 t v) (h : DataW.Trod enc P w base spare held t v d p) :
    ∃ zs : List Bool, zs.length = n ∧ v = .agg (zs.map Value.bool).toArray ∧ d = .agg (zs.map fun z => .lit (.bool z)) ∧ p = [] := by
  obtain ⟨cs, rfl, hsz, _⟩ : ∃ cs, v = .agg cs ∧ cs.size = P.cellsOf t ∧ Row.okWide P w r b0 t cs := by simpa [Value.okWide, ht] using hv
  obtain ⟨fuel, hf⟩ := h
  obtain ⟨xs, m, _, hx, _, hl, hat⟩ := DataW.trod_array ht hf
  obtain ⟨l⟩ := cs
  have hll : l.length = n := by rw [← hct, ← hsz]; simp
  have key : ∀ i (hi : i < n), ∃ z, l[i]'(by omega) = .bool z ∧ xs[i]'(by omega) = (.lit (.bool z), []) := by
    intro i hi
    have h1 := hat i hi
    rw [List.getElem?_eq_getElem (by omega), hce, Nat.mul_one] at h1
    obtain ⟨z, e1, e2⟩ := trod_bool he h1
    have e4 : ((Value.agg ⟨l⟩).cells.toList.drop i).take 1 = [l[i]'(by omega)] := by
      show (l.drop i).take 1 = _
      rw [List.drop_eq_getElem_cons (by omega)]; rfl
    rw [e4] at e1
    exact ⟨z, by simpa using e1, e2⟩
  have hl2 : l = (l.map isT).map Value.bool := by
    apply List.ext_getElem (by simp)
    intro i h1 h2
    obtain ⟨z, e1, _⟩ := key i (by omega)
    simp [e1, isT]
  have hxs : xs = (l.map isT).map fun z => ((.lit (.bool z) : DataW H), ([] : List MemPlace)) := by
    apply List.ext_getElem (by simp; omega)
    intro i h1 h2
    obtain ⟨z, e1, e2⟩ := key i (by omega)
    simp [e1, e2, isT]
  simp only [Prod.mk.injEq] at hx
  refine ⟨l.map isT, by simpa using hll, by rw [← hl2], by rw [hx.1, hxs]; simp, ?_⟩
  rw [hx.2, hxs]; simp

theorem shut_barr {n : Nat} {t e : TypeId} (ht : P.underlying t = some (.array n e)) (he : P.underlying e = some .bool) (hce : P.cellsOf e = 1) (hct : P.cellsOf t = n)
    (zs : List Bool) (hl : zs.length = n) :
    DataW.Trod enc P w base spare held t (.agg (zs.map Value.bool).toArray) (.agg (zs.map fun z => .lit (.bool z))) [] := by
  refine ⟨2, ?_⟩
  unfold DataW.trod
  rw [ht]
  have hm : ((List.range n).mapM fun i => DataW.trod enc P w base spare held 1 e (((zs.map Value.bool).drop (i * P.cellsOf e)).take (P.cellsOf e))) = some (zs.map fun z => ((.lit (.bool z) : DataW H), ([] : List MemPlace))) := by
    have hr : (List.range n).mapM (fun i => DataW.trod enc P w base spare held 1 e (((zs.map Value.bool).drop (i * P.cellsOf e)).take (P.cellsOf e))) = (List.range n).mapM (fun i => (zs.map fun z => ((.lit (.bool z) : DataW H), ([] : List MemPlace)))[i]?) := by
      have hcongr : ∀ (L : List Nat), (∀ i ∈ L, i < n) → L.mapM (fun i => DataW.trod enc P w base spare held 1 e (((zs.map Value.bool).drop (i * P.cellsOf e)).take (P.cellsOf e))) = L.mapM (fun i => (zs.map fun z => ((.lit (.bool z) : DataW H), ([] : List MemPlace)))[i]?) := by
        intro L
        induction L with
        | nil => intro _; rfl
        | cons a L ih =>
          intro hL
          have ha : a < zs.length := by rw [hl]; exact hL a (by simp)
          have e1 : DataW.trod enc P w base spare held 1 e (((zs.map Value.bool).drop (a * P.cellsOf e)).take (P.cellsOf e)) = (zs.map fun z => ((.lit (.bool z) : DataW H), ([] : List MemPlace)))[a]? := by
            rw [hce, Nat.mul_one, List.drop_eq_getElem_cons (by simpa using ha)]
            simp [DataW.trod, he, ha]
          rw [List.mapM_cons, List.mapM_cons, e1, ih (fun i hi => hL i (by simp [hi]))]
      exact hcongr _ (fun i hi => by simpa using hi)
    rw [hr]
    have hlen : (zs.map fun z => ((.lit (.bool z) : DataW H), ([] : List MemPlace))).length = n := by simpa using hl
    generalize (zs.map fun z => ((.lit (.bool z) : DataW H), ([] : List MemPlace))) = ys at *
    have hall : ∀ (m j : Nat), j + m = ys.length → (List.range' j m).mapM (fun i => ys[i]?) = some (ys.drop j) := by
      intro m
      induction m with
      | zero => intro j hj; rw [List.drop_of_length_le (by omega)]; rfl
      | succ m ih =>
        intro j hj
        rw [List.range'_succ, List.mapM_cons, List.getElem?_eq_getElem (by omega), ih (j + 1) (by omega), List.drop_eq_getElem_cons (l := ys) (i := j) (by omega)]
        rfl
    have := hall n 0 (by omega)
    rwa [← List.range_eq_range', List.drop_zero] at this
  show (if (zs.map Value.bool).length = P.cellsOf t then _ else none) = _
  rw [if_pos (by rw [hct]; simpa using hl)]
  have e2 : (Value.agg (zs.map Value.bool).toArray).cells.toList = zs.map Value.bool := by simp [Value.cells]
  rw [e2, hm]
  simp
  rintro a b (⟨_, _, h⟩ | ⟨_, _, h⟩) <;> exact h
end
theorem cells127 : Try.prog.cellsOf 25 = 127 := by kernel_rfl
section
variable {H : Type} {enc : TypeId × Value → H} {W : World} {base b0 : Nat} {spare : Nat → Bool} {held : Bool} {r : Reach}
theorem open_bits {v : Value} {d : DataW H} {p : List MemPlace} (hv : Value.okWide Try.prog W r b0 25 v) (h : DataW.Trod enc Try.prog W base spare held 25 v d p) :
    ∃ l : List Bool, l.length = 127 ∧ v = .agg (boolCells l) ∧ d = .agg (l.map fun z => .lit (.bool z)) ∧ p = [] ∧
      ∀ (W' : World) (b : Nat) (sp : Nat → Bool) (hd : Bool), DataW.Trod enc Try.prog W' b sp hd 25 (.agg (boolCells l)) (.agg (l.map fun z => .lit (.bool z))) [] := by
  obtain ⟨zs, hl, rfl, rfl, rfl⟩ := open_barr Try.underlying25 Try.underlying4 cells_bool cells127 hv h
  exact ⟨zs, hl, rfl, rfl, rfl, fun W' b sp hd => shut_barr Try.underlying25 Try.underlying4 cells_bool cells127 zs hl⟩
end
end Go.Proofs.Ytbokecpcefcimaa
