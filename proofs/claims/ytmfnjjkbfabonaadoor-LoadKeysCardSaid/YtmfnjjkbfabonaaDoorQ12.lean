/-
  Contracts and plain facts that the laws share, part 12; each piece is headed by what it holds and its conditions.
-/
import Derived.Test.YtmfnjjkbfabonaaDoorQ11
import Derived.Test.YtmfnjjkbfabonaaDoorQ04
import Derived.Test.YtmfnjjkbfabonaaDoorQ02
import Derived.Test.YtmfnjjkbfabonaaDoorQ03
import Derived.Test.YtmfnjjkbfabonaaDoorQ07

/- Plain facts for layers 6 and 7: how holes and changed bits count in a distance; what is within a codeword's reach is amended to it. No program is named here. No conditions. -/
namespace Go.Proofs.YtmfnjjkbfabonaaDoor
open Go.RowKit
open M

theorem BytesAt.below {W W' : World} {v : Value} {xs : List Int} (h : BytesAt W v xs) (hb : Below W.heap.size W W') : BytesAt W' v xs := by
  obtain ⟨a, cap, rfl, hc⟩ := h
  refine ⟨a, cap, rfl, fun h0 => ?_⟩
  obtain ⟨b, off, rfl, hlt, hc⟩ := hc h0
  exact ⟨b, off, rfl, Nat.lt_of_lt_of_le hlt hb.size, fun i hi => (hb.cell (p := ⟨b, off + i, none⟩) hlt).trans (hc i hi)⟩
theorem count_set1 : ∀ (x : List Bool) (i : Nat), (x.set i true).count true ≤ x.count true + 1
  | [], _ => by simp
  | b :: x, 0 => by
    show (true :: x).count true ≤ _
    rw [List.count_cons, List.count_cons]
    cases b <;> simp
  | b :: x, i + 1 => by
    have := count_set1 x i
    show (b :: x.set i true).count true ≤ _
    rw [List.count_cons, List.count_cons]
    omega
theorem mk6_few (x : List Bool) (is : List Nat) : (mk6 x is).count true ≤ x.count true + is.length := by
  induction is generalizing x with
  | nil => exact Nat.le_refl _
  | cons i is ih =>
    have h1 := ih (x.set i true)
    have h2 := count_set1 x i
    show (mk6 (x.set i true) is).count true ≤ _
    rw [List.length_cons]; omega
theorem w0_count : w0.count true = 0 := by unfold w0; rw [List.count_replicate]; simp
/-- A word is as far from itself as it has holes. -/
theorem far_self (l h : List Bool) (hh : h.length = 127) : farN l h l 127 = h.count true := by
  have := far_all l h l hh
  rw [dst_self] at this
  omega
theorem far1_le (w h c : Bool) : far1 w h c ≤ 2 := by
  unfold far1
  split
  · omega
  · split <;> omega
/-- A bit changed makes it no more than 2 farther. -/
theorem farN_flip (l h c : List Bool) (i : Nat) (j : Nat) : farN (M.flip l i) h c j ≤ farN l h c j + if i < j then 2 else 0 := by
  induction j with
  | zero => simp [farN]
  | succ j ih =>
    simp only [farN]
    by_cases e : i = j
    · subst e
      rw [if_neg (by omega)] at ih
      rw [if_pos (by omega)]
      have := far1_le ((M.flip l i).getD i false) (h.getD i false) (c.getD i false)
      omega
    · have e2 : (M.flip l i).getD j false = l.getD j false := by
        unfold M.flip
        rw [List.getD_eq_getElem?_getD, List.getElem?_set, if_neg e, ← List.getD_eq_getElem?_getD]
      rw [e2]
      by_cases h1 : i < j
      · rw [if_pos h1] at ih
        rw [if_pos (by omega)]
        omega
      · rw [if_neg h1] at ih
        rw [if_neg (by omega)]
        omega
theorem farN_flips (l h c : List Bool) (is : List Nat) (j : Nat) : farN (flips l is) h c j ≤ farN l h c j + 2 * is.length := by
  induction is generalizing l with
  | nil => exact Nat.le_refl _
  | cons i is ih =>
    have h1 := ih (M.flip l i)
    have h2 := farN_flip l h c i j
    show farN (flips (M.flip l i) is) h c j ≤ _
    rw [List.length_cons]
    have h3 : (if i < j then 2 else 0) ≤ 2 := by split <;> omega
    omega
/-- What is within the reach of a codeword is amended to it. -/
theorem am_reach (l h : List Bool) (x y : BitVec 64) (n : Int) (ha : Am l h y n) (hx : farN l h (cwd x) 127 ≤ 20) : n = 0 ∧ y = x := by
  rcases ha with ⟨h1, h2⟩ | ⟨_, _, h2⟩
  · refine ⟨h1, ?_⟩
    have := near_one l h (cwd y) (cwd x) (cwd_length y) (cwd_length x) (cwd_cw y) (cwd_cw x) h2 hx
    rw [← told_cwd y, this, told_cwd]
  · have := h2 x
    omega
end Go.Proofs.YtmfnjjkbfabonaaDoor

/- Plain facts of layer 7: what votes decide; that what a word has at holes changes neither its distances nor what Amend answers. No program is named here. No conditions but those that each fact names. -/
namespace Go.Proofs.YtmfnjjkbfabonaaDoor
open Go.RowKit
open M

/-- The word and the holes that votes speak for. -/
def dw (vs : List Int) : List Bool := vs.map fun x => decide (x < 0)
def dh (vs : List Int) : List Bool := vs.map fun x => decide (x = 0)
theorem dw_length (vs : List Int) : (dw vs).length = vs.length := by simp [dw]
theorem dh_length (vs : List Int) : (dh vs).length = vs.length := by simp [dh]
theorem dw_getD (vs : List Int) (i : Nat) : (dw vs).getD i false = decide (vs.getD i 0 < 0) := by
  unfold dw
  rcases Nat.lt_or_ge i vs.length with h | h
  · simp [List.getD_eq_getElem?_getD, List.getElem?_eq_getElem h]
  · simp [List.getD_eq_getElem?_getD, List.getElem?_eq_none h]
theorem dh_getD (vs : List Int) (i : Nat) (h : i < vs.length) : (dh vs).getD i false = decide (vs.getD i 0 = 0) := by
  unfold dh
  simp [List.getD_eq_getElem?_getD, List.getElem?_eq_getElem h]
/-- What a word has at holes changes no distance .. -/
theorem far_cong (w w' h c : List Bool) (k : ∀ i, i < 127 → h.getD i false = true ∨ w.getD i false = w'.getD i false) (j : Nat) (hj : j ≤ 127) : farN w h c j = farN w' h c j := by
  induction j with
  | zero => rfl
  | succ j ih =>
    have ih := ih (by omega)
    simp only [farN]
    rw [ih]
    congr 1
    unfold far1
    rcases k j (by omega) with e | e
    · rw [if_pos e, if_pos e]
    · rw [e]
/-- .. nor what Amend answers. -/
theorem am_cong (w w' h : List Bool) (k : ∀ i, i < 127 → h.getD i false = true ∨ w.getD i false = w'.getD i false) (y y' : BitVec 64) (n n' : Int) (h1 : Am w h y n) (h2 : Am w' h y' n') : y' = y ∧ n' = n := by
  have hf : ∀ c, farN w h c 127 = farN w' h c 127 := fun c => far_cong w w' h c k 127 (by omega)
  rcases h1 with ⟨rfl, k1⟩ | ⟨rfl, rfl, k1⟩
  · obtain ⟨e1, e2⟩ := am_reach w' h y y' n' h2 (by rw [← hf]; exact k1)
    exact ⟨e2, e1⟩
  · rcases h2 with ⟨_, k2⟩ | ⟨rfl, rfl, _⟩
    · rw [← hf] at k2
      have := k1 y'
      omega
    · exact ⟨rfl, rfl⟩
/-- Votes that say a word, each as much as it is, none at holes. -/
def say (w h : List Bool) (t : Int) (n : Nat) : List Int := (List.range n).map fun i => if h.getD i false = true then 0 else if w.getD i false = true then -(1 + t * i) else 1 + t * i
theorem say_length (w h : List Bool) (t : Int) (n : Nat) : (say w h t n).length = n := by simp [say]
theorem say_pos (t : Int) (ht : 0 ≤ t) (i : Nat) : 1 ≤ 1 + t * i := by
  have := Int.mul_nonneg ht (show (0 : Int) ≤ i by omega)
  omega
theorem say_dh (w h : List Bool) (t : Int) (ht : 0 ≤ t) (hh : h.length = 127) : dh (say w h t 127) = h := by
  apply bext _ _ (by rw [dh_length, say_length, hh])
  intro i hi
  rw [dh_length, say_length] at hi
  rw [dh_getD _ _ (by rw [say_length]; exact hi)]
  unfold say
  rw [tab_getD _ _ _ _ hi]
  have hp := say_pos t ht i
  generalize 1 + t * (i : Int) = p at *
  cases h.getD i false <;> cases w.getD i false
  all_goals
    simp
  all_goals omega
theorem say_dw (w h : List Bool) (t : Int) (ht : 0 ≤ t) (i : Nat) (hi : i < 127) : h.getD i false = true ∨ (dw (say w h t 127)).getD i false = w.getD i false := by
  rw [dw_getD]
  unfold say
  rw [tab_getD _ _ _ _ hi]
  have hp := say_pos t ht i
  generalize 1 + t * (i : Int) = p at *
  cases h.getD i false <;> cases w.getD i false
  · right
    simp
    omega
  · right
    simp
    omega
  · left; rfl
  · left; rfl
end Go.Proofs.YtmfnjjkbfabonaaDoor

/- An array of 127 bools handed in by value: taken apart as the rows read it, and put together. No conditions. -/
namespace Go.Proofs.YtmfnjjkbfabonaaDoor
open Go.ChangeShapes Go.WideShapes Go.ChangeAt Go.RowKit
open M

section
variable {H : Type} {enc : TypeId × Value → H} {P : Program} {w : World} {base b0 : Nat} {spare : Nat → Bool} {held : Bool} {r : Reach}
theorem trod_bool {fuel : Nat} {t : TypeId} {cs : List Value} {x : DataW H × List MemPlace} (ht : P.underlying t = some .bool) (h : DataW.trod enc P w base spare held fuel t cs = some x) : ∃ b, cs = [.bool b] ∧ x = (.lit (.bool b), []) := by
  cases fuel with
  | zero => simp [DataW.trod] at h
  | succ n =>
    unfold DataW.trod at h
    rw [ht] at h
    split at h <;> simp_all
def isT : Value → Bool
  | .bool b => b
  | _ => false
theorem open_barr {n : Nat} {t e : TypeId} {v : Value} {d : DataW H} {p : List MemPlace} (ht : P.underlying t = some (.array n e)) (he : P.underlying e = some .bool) (hce : P.cellsOf e = 1) (hct : P.cellsOf t = n)
    (hv : Value.okWide P w r b0 t v) (h : DataW.Trod enc P w base spare held t v d p) :
    ∃ zs : List Bool, zs.length = n ∧ v = .agg (zs.map Value.bool).toArray ∧ d = .agg (zs.map fun z => .lit (.bool z)) ∧ p = [] := by
  obtain ⟨cs, rfl, hsz, _⟩ : ∃ cs, v = .agg cs ∧ cs.size = P.cellsOf t ∧ Row.okWide P w r b0 t cs := by simpa [Value.okWide, ht] using hv
  obtain ⟨fuel, hf⟩ := h
  obtain ⟨xs, m, _, hx, _, hl, hat⟩ := DataW.trod_array ht hf
  obtain ⟨l⟩ := cs
  have hll : l.length = n := by rw [← hct, ← hsz]; simp
  have key : ∀ i (hi : i < n), ∃ z, l[i]'(by omega) = .bool z ∧ xs[i]'(by omega) = (.lit (.bool z), []) := by
    intro i hi
    have h1 := hat i hi
    rw [List.getElem?_eq_getElem (by omega), hce, Nat.mul_one] at h1
    obtain ⟨z, e1, e2⟩ := trod_bool he h1
    have e4 : ((Value.agg ⟨l⟩).cells.toList.drop i).take 1 = [l[i]'(by omega)] := by
      show (l.drop i).take 1 = _
      rw [List.drop_eq_getElem_cons (by omega)]; rfl
    rw [e4] at e1
    exact ⟨z, by simpa using e1, e2⟩
  have hl2 : l = (l.map isT).map Value.bool := by
    apply List.ext_getElem (by simp)
    intro i h1 h2
    obtain ⟨z, e1, _⟩ := key i (by omega)
    simp [e1, isT]
  have hxs : xs = (l.map isT).map fun z => ((.lit (.bool z) : DataW H), ([] : List MemPlace)) := by
    apply List.ext_getElem (by simp; omega)
    intro i h1 h2
    obtain ⟨z, e1, e2⟩ := key i (by omega)
    simp [e1, e2, isT]
  simp only [Prod.mk.injEq] at hx
  refine ⟨l.map isT, by simpa using hll, by rw [← hl2], by rw [hx.1, hxs]; simp, ?_⟩
  rw [hx.2, hxs]; simp

theorem shut_barr {n : Nat} {t e : TypeId} (ht : P.underlying t = some (.array n e)) (he : P.underlying e = some .bool) (hce : P.cellsOf e = 1) (hct : P.cellsOf t = n)
    (zs : List Bool) (hl : zs.length = n) :
    DataW.Trod enc P w base spare held t (.agg (zs.map Value.bool).toArray) (.agg (zs.map fun z => .lit (.bool z))) [] := by
  refine ⟨2, ?_⟩
  unfold DataW.trod
  rw [ht]
  have hm : ((List.range n).mapM fun i => DataW.trod enc P w base spare held 1 e (((zs.map Value.bool).drop (i * P.cellsOf e)).take (P.cellsOf e))) = some (zs.map fun z => ((.lit (.bool z) : DataW H), ([] : List MemPlace))) := by
    have hr : (List.range n).mapM (fun i => DataW.trod enc P w base spare held 1 e (((zs.map Value.bool).drop (i * P.cellsOf e)).take (P.cellsOf e))) = (List.range n).mapM (fun i => (zs.map fun z => ((.lit (.bool z) : DataW H), ([] : List MemPlace)))[i]?) := by
      have hcongr : ∀ (L : List Nat), (∀ i ∈ L, i < n) → L.mapM (fun i => DataW.trod enc P w base spare held 1 e (((zs.map Value.bool).drop (i * P.cellsOf e)).take (P.cellsOf e))) = L.mapM (fun i => (zs.map fun z => ((.lit (.bool z) : DataW H), ([] : List MemPlace)))[i]?) := by
        intro L
        induction L with
        | nil => intro _; rfl
        | cons a L ih =>
          intro hL
          have ha : a < zs.length := by rw [hl]; exact hL a (by simp)
          have e1 : DataW.trod enc P w base spare held 1 e (((zs.map Value.bool).drop (a * P.cellsOf e)).take (P.cellsOf e)) = (zs.map fun z => ((.lit (.bool z) : DataW H), ([] : List MemPlace)))[a]? := by
            rw [hce, Nat.mul_one, List.drop_eq_getElem_cons (by simpa using ha)]
            simp [DataW.trod, he, ha]
          rw [List.mapM_cons, List.mapM_cons, e1, ih (fun i hi => hL i (by simp [hi]))]
      exact hcongr _ (fun i hi => by simpa using hi)
    rw [hr]
    have hlen : (zs.map fun z => ((.lit (.bool z) : DataW H), ([] : List MemPlace))).length = n := by simpa using hl
    generalize (zs.map fun z => ((.lit (.bool z) : DataW H), ([] : List MemPlace))) = ys at *
    have hall : ∀ (m j : Nat), j + m = ys.length → (List.range' j m).mapM (fun i => ys[i]?) = some (ys.drop j) := by
      intro m
      induction m with
      | zero => intro j hj; rw [List.drop_of_length_le (by omega)]; rfl
      | succ m ih =>
        intro j hj
        rw [List.range'_succ, List.mapM_cons, List.getElem?_eq_getElem (by omega), ih (j + 1) (by omega), List.drop_eq_getElem_cons (l := ys) (i := j) (by omega)]
        rfl
    have := hall n 0 (by omega)
    rwa [← List.range_eq_range', List.drop_zero] at this
  show (if (zs.map Value.bool).length = P.cellsOf t then _ else none) = _
  rw [if_pos (by rw [hct]; simpa using hl)]
  have e2 : (Value.agg (zs.map Value.bool).toArray).cells.toList = zs.map Value.bool := by simp [Value.cells]
  rw [e2, hm]
  simp
  rintro a b (⟨_, _, h⟩ | ⟨_, _, h⟩) <;> exact h
end
theorem cells127 : Tryd.prog.cellsOf 26 = 127 := by kernel_rfl
section
variable {H : Type} {enc : TypeId × Value → H} {W : World} {base b0 : Nat} {spare : Nat → Bool} {held : Bool} {r : Reach}
set_option maxRecDepth 100000 in
theorem open_bits {v : Value} {d : DataW H} {p : List MemPlace} (hv : Value.okWide Tryd.prog W r b0 26 v) (h : DataW.Trod enc Tryd.prog W base spare held 26 v d p) :
    ∃ l : List Bool, l.length = 127 ∧ v = .agg (boolCells l) ∧ d = .agg (l.map fun z => .lit (.bool z)) ∧ p = [] ∧
      ∀ (W' : World) (b : Nat) (sp : Nat → Bool) (hd : Bool), DataW.Trod enc Tryd.prog W' b sp hd 26 (.agg (boolCells l)) (.agg (l.map fun z => .lit (.bool z))) [] := by
  obtain ⟨zs, hl, rfl, rfl, rfl⟩ := open_barr Tryd.underlying26 Tryd.underlying4 cells_bool cells127 hv h
  exact ⟨zs, hl, rfl, rfl, rfl, fun W' b sp hd => shut_barr Tryd.underlying26 Tryd.underlying4 cells_bool cells127 zs hl⟩
end
end Go.Proofs.YtmfnjjkbfabonaaDoor

/- An array of 127 numbers handed in by value: taken apart as the rows read it, and put together. No conditions. -/
namespace Go.Proofs.YtmfnjjkbfabonaaDoor
open Go.ChangeShapes Go.WideShapes Go.ChangeAt Go.RowKit
open M

section
variable {H : Type} {enc : TypeId × Value → H} {P : Program} {W : World} {w : World} {base b0 : Nat} {spare : Nat → Bool} {held : Bool} {r : Reach}
theorem open_iarr {n : Nat} {t e : TypeId} {k : IntKind} {v : Value} {d : DataW H} {p : List MemPlace} (ht : P.underlying t = some (.array n e)) (he : P.underlying e = some (.int k)) (hce : P.cellsOf e = 1) (hct : P.cellsOf t = n)
    (hv : Value.okWide P w r b0 t v) (h : DataW.Trod enc P w base spare held t v d p) :
    ∃ zs : List Int, zs.length = n ∧ v = .agg (zs.map (Value.int k)).toArray ∧ d = .agg (zs.map fun z => .lit (.int k z)) ∧ p = [] ∧ ∀ z ∈ zs, (Lit.int k z).wf = true := by
  obtain ⟨cs, rfl, hsz, _⟩ : ∃ cs, v = .agg cs ∧ cs.size = P.cellsOf t ∧ Row.okWide P w r b0 t cs := by simpa [Value.okWide, ht] using hv
  obtain ⟨fuel, hf⟩ := h
  obtain ⟨xs, m, _, hx, _, hl, hat⟩ := DataW.trod_array ht hf
  obtain ⟨l⟩ := cs
  have hll : l.length = n := by rw [← hct, ← hsz]; simp
  have key : ∀ i (hi : i < n), ∃ z, l[i]'(by omega) = .int k z ∧ xs[i]'(by omega) = (.lit (.int k z), []) ∧ (Lit.int k z).wf = true := by
    intro i hi
    have h1 := hat i hi
    rw [List.getElem?_eq_getElem (by omega), hce, Nat.mul_one] at h1
    obtain ⟨z, e1, e2, e3⟩ := DataW.trod_int he h1
    have e4 : ((Value.agg ⟨l⟩).cells.toList.drop i).take 1 = [l[i]'(by omega)] := by
      show (l.drop i).take 1 = _
      rw [List.drop_eq_getElem_cons (by omega)]; rfl
    rw [e4] at e1
    exact ⟨z, by simpa using e1, e2, e3⟩
  have hl2 : l = (l.map intOf).map (Value.int k) := by
    apply List.ext_getElem (by simp)
    intro i h1 h2
    obtain ⟨z, e1, _⟩ := key i (by omega)
    simp [e1, intOf]
  have hxs : xs = (l.map intOf).map fun z => ((.lit (.int k z) : DataW H), ([] : List MemPlace)) := by
    apply List.ext_getElem (by simp; omega)
    intro i h1 h2
    obtain ⟨z, e1, e2, _⟩ := key i (by omega)
    simp [e1, e2, intOf]
  simp only [Prod.mk.injEq] at hx
  refine ⟨l.map intOf, by simpa using hll, by rw [← hl2], by rw [hx.1, hxs]; simp, ?_, ?_⟩
  · rw [hx.2, hxs]; simp
  · intro z hz
    obtain ⟨i, hi, rfl⟩ := List.getElem_of_mem hz
    obtain ⟨z, e1, _, e3⟩ := key i (by simpa [hll] using hi)
    simpa [e1, intOf] using e3

theorem shut_iarr {n : Nat} {t e : TypeId} {k : IntKind} (ht : P.underlying t = some (.array n e)) (he : P.underlying e = some (.int k)) (hce : P.cellsOf e = 1) (hct : P.cellsOf t = n)
    (zs : List Int) (hl : zs.length = n) (hwf : ∀ z ∈ zs, (Lit.int k z).wf = true) :
    DataW.Trod enc P w base spare held t (.agg (zs.map (Value.int k)).toArray) (.agg (zs.map fun z => .lit (.int k z))) [] := by
  refine ⟨2, ?_⟩
  unfold DataW.trod
  rw [ht]
  have hm : ((List.range n).mapM fun i => DataW.trod enc P w base spare held 1 e (((zs.map (Value.int k)).drop (i * P.cellsOf e)).take (P.cellsOf e))) = some (zs.map fun z => ((.lit (.int k z) : DataW H), ([] : List MemPlace))) := by
    have hr : (List.range n).mapM (fun i => DataW.trod enc P w base spare held 1 e (((zs.map (Value.int k)).drop (i * P.cellsOf e)).take (P.cellsOf e))) = (List.range n).mapM (fun i => (zs.map fun z => ((.lit (.int k z) : DataW H), ([] : List MemPlace)))[i]?) := by
      have hcongr : ∀ (L : List Nat), (∀ i ∈ L, i < n) → L.mapM (fun i => DataW.trod enc P w base spare held 1 e (((zs.map (Value.int k)).drop (i * P.cellsOf e)).take (P.cellsOf e))) = L.mapM (fun i => (zs.map fun z => ((.lit (.int k z) : DataW H), ([] : List MemPlace)))[i]?) := by
        intro L
        induction L with
        | nil => intro _; rfl
        | cons a L ih =>
          intro hL
          have ha : a < zs.length := by rw [hl]; exact hL a (by simp)
          have e1 : DataW.trod enc P w base spare held 1 e (((zs.map (Value.int k)).drop (a * P.cellsOf e)).take (P.cellsOf e)) = (zs.map fun z => ((.lit (.int k z) : DataW H), ([] : List MemPlace)))[a]? := by
            rw [hce, Nat.mul_one, List.drop_eq_getElem_cons (by simpa using ha)]
            simp [DataW.trod, he, ha, hwf _ (List.getElem_mem ha)]
          rw [List.mapM_cons, List.mapM_cons, e1, ih (fun i hi => hL i (by simp [hi]))]
      exact hcongr _ (fun i hi => by simpa using hi)
    rw [hr]
    have hlen : (zs.map fun z => ((.lit (.int k z) : DataW H), ([] : List MemPlace))).length = n := by simpa using hl
    generalize (zs.map fun z => ((.lit (.int k z) : DataW H), ([] : List MemPlace))) = ys at *
    have hall : ∀ (m j : Nat), j + m = ys.length → (List.range' j m).mapM (fun i => ys[i]?) = some (ys.drop j) := by
      intro m
      induction m with
      | zero => intro j hj; rw [List.drop_of_length_le (by omega)]; rfl
      | succ m ih =>
        intro j hj
        rw [List.range'_succ, List.mapM_cons, List.getElem?_eq_getElem (by omega), ih (j + 1) (by omega), List.drop_eq_getElem_cons (l := ys) (i := j) (by omega)]
        rfl
    have := hall n 0 (by omega)
    rwa [← List.range_eq_range', List.drop_zero] at this
  show (if (zs.map (Value.int k)).length = P.cellsOf t then _ else none) = _
  rw [if_pos (by rw [hct]; simpa using hl)]
  have e2 : (Value.agg (zs.map (Value.int k)).toArray).cells.toList = zs.map (Value.int k) := by simp [Value.cells]
  rw [e2, hm]
  simp
end

theorem cellsVotes : Tryd.prog.cellsOf 30 = 127 := by kernel_rfl
section
variable {H : Type} {enc : TypeId × Value → H} {W : World} {base b0 : Nat} {spare : Nat → Bool} {held : Bool} {r : Reach}
set_option maxRecDepth 100000 in
/-- An argument [127]int. -/
theorem open_votes {v : Value} {d : DataW H} {p : List MemPlace} (hv : Value.okWide Tryd.prog W r b0 30 v) (h : DataW.Trod enc Tryd.prog W base spare held 30 v d p) :
    ∃ l : List Int, l.length = 127 ∧ v = .agg (intCells l) ∧ d = .agg (l.map fun z => .lit (.int .i64 z)) ∧ p = [] ∧ (∀ z ∈ l, i64ok z) ∧
      ∀ (W' : World) (b : Nat) (sp : Nat → Bool) (hd : Bool), DataW.Trod enc Tryd.prog W' b sp hd 30 (.agg (intCells l)) (.agg (l.map fun z => .lit (.int .i64 z))) [] := by
  obtain ⟨zs, hl, rfl, rfl, rfl, hwf⟩ := open_iarr Tryd.underlying30 Tryd.underlying3 cellsInt cellsVotes hv h
  exact ⟨zs, hl, rfl, rfl, rfl, fun z hz => Go.bounds_i64 (hwf z hz), fun W' b sp hd => shut_iarr Tryd.underlying30 Tryd.underlying3 cellsInt cellsVotes zs hl hwf⟩
end
end Go.Proofs.YtmfnjjkbfabonaaDoor

/- The contracts of layer 7's Decide and Take. Conditions: votes are 127 numbers of int; a key has 16 bytes; the signs lie as the program's text lays them. -/
namespace Go.Proofs.YtmfnjjkbfabonaaDoor
open Go.RowKit
open M
attribute [local go_sem] un_beq un_bne

/-- The words as far as Decide has come. -/
def dwj (vs : List Int) (j : Nat) : List Bool := (List.range 127).map fun i => if i < j then decide (vs.getD i 0 < 0) else false
def dhj (vs : List Int) (j : Nat) : List Bool := (List.range 127).map fun i => if i < j then decide (vs.getD i 0 = 0) else false
theorem dwj_length (vs : List Int) (j : Nat) : (dwj vs j).length = 127 := by unfold dwj; rw [List.length_map, List.length_range]
theorem dhj_length (vs : List Int) (j : Nat) : (dhj vs j).length = 127 := by unfold dhj; rw [List.length_map, List.length_range]
theorem tab0 (f : Nat → Bool) : ((List.range 127).map fun i => if i < 0 then f i else false) = w0 := by
  unfold w0
  rw [tab_congr 127 _ (fun _ => false) fun i _ => if_neg (by omega)]
  rfl
theorem dwj_zero (vs : List Int) : dwj vs 0 = w0 := tab0 _
theorem dhj_zero (vs : List Int) : dhj vs 0 = w0 := tab0 _
theorem dwj_set (vs : List Int) (j : Nat) : (dwj vs j).set j (decide (vs.getD j 0 < 0)) = dwj vs (j + 1) := by
  unfold dwj
  apply tab_set
  · rw [if_pos (by omega)]
  · intro i e
    rcases Nat.lt_or_ge i j with h | h
    · rw [if_pos h, if_pos (by omega)]
    · rw [if_neg (by omega), if_neg (by omega)]
theorem dhj_set (vs : List Int) (j : Nat) : (dhj vs j).set j (decide (vs.getD j 0 = 0)) = dhj vs (j + 1) := by
  unfold dhj
  apply tab_set
  · rw [if_pos (by omega)]
  · intro i e
    rcases Nat.lt_or_ge i j with h | h
    · rw [if_pos h, if_pos (by omega)]
    · rw [if_neg (by omega), if_neg (by omega)]
theorem dwj_done (vs : List Int) (h : vs.length = 127) : dwj vs 127 = dw vs := by
  apply bext _ _ (by rw [dwj_length, dw_length, h])
  intro i hi
  rw [dwj_length] at hi
  unfold dwj
  rw [tab_getD _ _ _ _ hi, if_pos hi, dw_getD]
theorem dhj_done (vs : List Int) (h : vs.length = 127) : dhj vs 127 = dh vs := by
  apply bext _ _ (by rw [dhj_length, dh_length, h])
  intro i hi
  rw [dhj_length] at hi
  unfold dhj
  rw [tab_getD _ _ _ _ hi, if_pos hi, dh_getD _ _ (by rw [h]; exact hi)]
theorem intCells_size (l : List Int) : (intCells l).size = l.length := by simp [intCells]
theorem votes_size (l : List Int) (h : l.length = 127) : (Tryd.prog.info? 30).map (·.size) = some (intCells l).size := by
  have := num_zero_info
  rw [intCells_size, h]
  cases hq : Tryd.prog.info? 30 with
  | none => simp [hq] at this
  | some i => simp [hq] at this; simp [this.2]
theorem index_votes (l : List Int) (hl : l.length = 127) (k : Nat) (hk : k < 127) (w : World) :
    (Instr.index 30 (.agg (intCells l)) (.int .i64 k)).run Tryd.prog w = .ok (.int .i64 (l.getD k 0)) w := by
  obtain ⟨i, hi, _, _, _⟩ := info_parts int_info
  have c := intCells_get l k (by omega)
  simp [Instr.index, run_underlying Tryd.underlying30, asIntOf, hk, run_sizeOf w hi, cellsInt, c, go_sem]
set_option maxRecDepth 100000 in
set_option maxHeartbeats 1000000 in
theorem decide_any (l : List Int) (w : World) (hl : l.length = 127) :
    Calls Tryd.prog 19 #[.agg (intCells l)] w fun e w' => e = .returned (.tuple #[.agg (boolCells (dw l)), .agg (boolCells (dh l))]) ∧ Below w.heap.size w w' := by
  have hz := word_zero
  have HWZ := Lib.hid (fun _ : Unit => dwj_zero l)
  have HHZ := Lib.hid (fun _ : Unit => dhj_zero l)
  have r0 : Row (w.alloc (.cells (intCells l) 30)) w.heap.size 30 (intCells l) := row_new w _ rfl _ _
  have r1 := r0.alloc (.cells (boolCells w0) 40)
  have b1 : Below w.heap.size w ((w.alloc (.cells (intCells l) 30)).alloc (.cells (boolCells w0) 40)) := ((Below.refl _ _).alloc (Nat.le_refl _) _).alloc (by simp) _
  have s1 : Row ((w.alloc (.cells (intCells l) 30)).alloc (.cells (boolCells w0) 40)) (w.heap.size + 1) 40 (boolCells w0) := row_new _ _ (by simp) _ _
  have r2 := r1.alloc (.cells (boolCells w0) 40)
  have s2 := s1.alloc (.cells (boolCells w0) 40)
  have b2 := b1.alloc (by simp; omega) (.cells (boolCells w0) 40)
  have u2 : Row (((w.alloc (.cells (intCells l) 30)).alloc (.cells (boolCells w0) 40)).alloc (.cells (boolCells w0) 40)) (w.heap.size + 1 + 1) 40 (boolCells w0) := row_new _ _ (by simp) _ _
  have r3 := r2.alloc (.cells (boolCells w0) 40)
  have s3 := s2.alloc (.cells (boolCells w0) 40)
  have u3 := u2.alloc (.cells (boolCells w0) 40)
  have b3 := b2.alloc (by simp; omega) (.cells (boolCells w0) 40)
  have x3 : Row ((((w.alloc (.cells (intCells l) 30)).alloc (.cells (boolCells w0) 40)).alloc (.cells (boolCells w0) 40)).alloc (.cells (boolCells w0) 40)) (w.heap.size + 1 + 1 + 1) 40 (boolCells w0) := row_new _ _ (by simp) _ _
  have r4 := r3.alloc (.cells (boolCells w0) 40)
  have s4 := s3.alloc (.cells (boolCells w0) 40)
  have u4 := u3.alloc (.cells (boolCells w0) 40)
  have x4 := x3.alloc (.cells (boolCells w0) 40)
  have b4 := b3.alloc (by simp; omega) (.cells (boolCells w0) 40)
  have y4 : Row (((((w.alloc (.cells (intCells l) 30)).alloc (.cells (boolCells w0) 40)).alloc (.cells (boolCells w0) 40)).alloc (.cells (boolCells w0) 40)).alloc (.cells (boolCells w0) 40)) (w.heap.size + 1 + 1 + 1 + 1) 40 (boolCells w0) := row_new _ _ (by simp) _ _
  have HR := Lib.hid r4
  have HS := Lib.hid s4
  have HU := Lib.hid u4
  have HX := Lib.hid x4
  have HY := Lib.hid y4
  have HB := Lib.hid b4
  have HVS := Lib.hid fun _ : Unit => votes_size l hl
  have HL := Lib.hid hl
  clear r0 r1 r2 r3 r4 s1 s2 s3 s4 u2 u3 u4 x3 x4 y4 b1 b2 b3 b4 hl
  go_enter Tryd.func19, Tryd.ntmps19
  go_wp2_with (refine wpList_load_row rfl 30 (.tmp 1) rfl w.heap.size rfl 30 (intCells l) (0, 0) _ HR.out Tryd.underlying30 rfl (HVS.out ()) ?_)
  clear hz HR
  generalize ((((w.alloc (.cells (intCells l) 30)).alloc (.cells (boolCells w0) 40)).alloc (.cells (boolCells w0) 40)).alloc (.cells (boolCells w0) 40)).alloc (.cells (boolCells w0) 40) = w1 at *
  go_loopw [9] (fun i wr => ∃ k : Nat, k ≤ 127 ∧ i = .int .i64 k ∧ Row wr (w.heap.size + 1) 40 (boolCells w0) ∧ Row wr (w.heap.size + 1 + 1) 40 (boolCells w0) ∧ Row wr (w.heap.size + 1 + 1 + 1) 40 (boolCells (dwj l k)) ∧ Row wr (w.heap.size + 1 + 1 + 1 + 1) 40 (boolCells (dhj l k)) ∧ Below w.heap.size w wr) (fun i _ => 127 - (intOf i).toNat)
  case atStart => exact ⟨0, by omega, rfl, HS.out, HU.out, by rw [HWZ.out ()]; exact HX.out, by rw [HHZ.out ()]; exact HY.out, HB.out⟩
  case round =>
    clear HS HU HX HY HB HWZ HHZ
    obtain ⟨k, hk, rfl, h1, h2, h3, h4, h5⟩ := hrel
    have HS := Lib.hid h1
    have HU := Lib.hid h2
    have HX := Lib.hid h3
    have HY := Lib.hid h4
    have HB := Lib.hid h5
    by_cases hlt : k < 127
    · have f0 := h3.free k
      have f1 := h4.free k
      have c0 := word_at h3 k (by rw [dwj_length]; exact hlt)
      have c1 := word_at h4 k (by rw [dhj_length]; exact hlt)
      have hix := index_votes l HL.out k hlt
      have HT := Lib.hid (fun _ : Unit => dwj_set l k)
      have HV := Lib.hid (fun _ : Unit => dhj_set l k)
      obtain ⟨v, hv⟩ : ∃ v, l.getD k 0 = v := ⟨_, rfl⟩
      rw [hv] at hix HT HV
      clear h1 h2 h3 h4 h5 hv
      go_wp2
      go_roundw
      case rel =>
        refine ⟨k + 1, by omega, by go_num, (HS.out.far (p := ⟨w.heap.size + 1 + 1 + 1, k, none⟩) (by show w.heap.size + 1 ≠ w.heap.size + 1 + 1 + 1; omega) _).far (p := ⟨w.heap.size + 1 + 1 + 1 + 1, k, none⟩) (by show w.heap.size + 1 ≠ w.heap.size + 1 + 1 + 1 + 1; omega) _,
          (HU.out.far (p := ⟨w.heap.size + 1 + 1 + 1, k, none⟩) (by show w.heap.size + 1 + 1 ≠ w.heap.size + 1 + 1 + 1; omega) _).far (p := ⟨w.heap.size + 1 + 1 + 1 + 1, k, none⟩) (by show w.heap.size + 1 + 1 ≠ w.heap.size + 1 + 1 + 1 + 1; omega) _, ?_, ?_,
          (HB.out.setCell (p := ⟨w.heap.size + 1 + 1 + 1, k, none⟩) (by show w.heap.size ≤ w.heap.size + 1 + 1 + 1; omega) _).setCell (p := ⟨w.heap.size + 1 + 1 + 1 + 1, k, none⟩) (by show w.heap.size ≤ w.heap.size + 1 + 1 + 1 + 1; omega) _⟩
        · rw [← HT.out (), ← boolCells_set]
          exact (HX.out.set k _).far (p := ⟨w.heap.size + 1 + 1 + 1 + 1, k, none⟩) (by show w.heap.size + 1 + 1 + 1 ≠ w.heap.size + 1 + 1 + 1 + 1; omega) _
        · rw [← HV.out (), ← boolCells_set, show (decide (v = 0)) = (v == 0) from rfl]
          exact (HY.out.far (p := ⟨w.heap.size + 1 + 1 + 1, k, none⟩) (by show w.heap.size + 1 + 1 + 1 + 1 ≠ w.heap.size + 1 + 1 + 1; omega) _).set k _
      case measure => simp [intOf] <;> omega
    · obtain rfl : k = 127 := by omega
      rw [dwj_done l HL.out] at HX
      rw [dhj_done l HL.out] at HY
      have HSX := Lib.hid fun _ : Unit => word_size (dw l) (by rw [dw_length, HL.out])
      have HSY := Lib.hid fun _ : Unit => word_size (dh l) (by rw [dh_length, HL.out])
      have HS0 : Hid (Unit → (boolCells w0).size = (boolCells (dw l)).size) := by intro _; rw [boolCells_size, boolCells_size, w0_length, dw_length, HL.out]
      have HS1 : Hid (Unit → (boolCells w0).size = (boolCells (dh l)).size) := by intro _; rw [boolCells_size, boolCells_size, w0_length, dh_length, HL.out]
      clear h1 h2 h3 h4 h5
      obtain ⟨a, ha⟩ : ∃ a, dw l = a := ⟨_, rfl⟩
      obtain ⟨b, hb⟩ : ∃ b, dh l = b := ⟨_, rfl⟩
      rw [ha] at HX HSX HS0
      rw [hb] at HY HSY HS1
      have HDA := Lib.hid fun _ : Unit => ha
      have HDB := Lib.hid fun _ : Unit => hb
      clear ha hb
      go_wp2_with fail
      have hall := And.intro (Row.drewN HS.out 1) (And.intro (Row.drewN HU.out 1) (And.intro (Row.drewN HX.out 1) (And.intro (Row.drewN HY.out 1) (below_drew1 HB.out))))
      refine wp_region_any (by kernel_rfl) ?_
      change wpAny _ _ _ _ _ _ _ (World.drew _)
      change Row wr.drew _ _ _ ∧ Row wr.drew _ _ _ ∧ Row wr.drew _ _ _ ∧ Row wr.drew _ _ _ ∧ Below _ _ wr.drew at hall
      clear HS HU HX HY HB
      generalize wr.drew = wd at *
      have HS := Lib.hid hall.1
      have HU := Lib.hid hall.2.1
      have HX := Lib.hid hall.2.2.1
      have HY := Lib.hid hall.2.2.2.1
      have HBd := Lib.hid hall.2.2.2.2
      clear hall
      refine wpAny_ready (rs := [0, 1]) (by kernel_rfl) (by simp) ?_
      refine (AllReady.cons rfl (fun K hK => ?_) (AllReady.cons rfl (fun K hK => ?_) AllReady.nil))
      · skip
        refine (if_pos (by rfl)).mpr ?_
        refine wp_load_row 40 (.tmp 4) rfl (w.heap.size + 1 + 1 + 1) rfl 40 (boolCells a) (0, 0) _ HX.out Tryd.underlying40 rfl (HSX.out ()) ?_
        refine hK _ _ ?_
        clear hK K
        simp only [List.getElem_toArray, List.getElem_cons_zero, Act.put, List.setIfInBounds_toArray, List.set_cons_zero, List.set_cons_succ]
        refine wpAny_ready (rs := [1, 2]) (by kernel_rfl) (by simp) ?_
        refine (AllReady.cons rfl (fun K hK => ?_) (AllReady.cons rfl (fun K hK => ?_) AllReady.nil))
        · skip
          refine (if_pos (by rfl)).mpr ?_
          refine wp_load_row 40 (.tmp 5) rfl (w.heap.size + 1 + 1 + 1 + 1) rfl 40 (boolCells b) (0, 0) _ HY.out Tryd.underlying40 rfl (HSY.out ()) ?_
          refine hK _ _ ?_
          clear hK K
          simp only [List.getElem_toArray, List.getElem_cons_succ, List.getElem_cons_zero, Act.put, List.setIfInBounds_toArray, List.set_cons_zero, List.set_cons_succ]
          refine wpAny_ready (rs := [2]) (by kernel_rfl) (by simp) ?_
          refine (AllReady.cons rfl (fun K hK => ?_) AllReady.nil)
          refine (if_pos (by rfl)).mpr ?_
          refine wp_store_row 40 (.tmp 2) (.tmp 22) rfl (w.heap.size + 1) (boolCells a) rfl rfl 40 (boolCells w0) HS.out (HSX.out ()) (HS0.out ()) (boolCells_one a) ?_
          refine hK _ _ ?_
          clear hK K
          simp only [List.getElem_toArray, List.getElem_cons_succ, List.getElem_cons_zero, Act.put]
          have HS_1 : Hid (Row (wd.setRow ((w.heap.size + 1)) ((boolCells a))) ((w.heap.size + 1)) 40 ((boolCells a))) := Row.setRow HS.out _
          have HU_1 : Hid (Row (wd.setRow ((w.heap.size + 1)) ((boolCells a))) ((w.heap.size + 1 + 1)) 40 ((boolCells w0))) := (setRow_other _ _ _ _ (by omega)).trans HU.out
          have HX_1 : Hid (Row (wd.setRow ((w.heap.size + 1)) ((boolCells a))) ((w.heap.size + 1 + 1 + 1)) 40 ((boolCells a))) := (setRow_other _ _ _ _ (by omega)).trans HX.out
          have HY_1 : Hid (Row (wd.setRow ((w.heap.size + 1)) ((boolCells a))) ((w.heap.size + 1 + 1 + 1 + 1)) 40 ((boolCells b))) := (setRow_other _ _ _ _ (by omega)).trans HY.out
          have HBel_1 : Hid (Below w.heap.size w (wd.setRow ((w.heap.size + 1)) ((boolCells a)))) := below_setRow HBd.out (by omega) _
          generalize wd.setRow ((w.heap.size + 1)) ((boolCells a)) = wx1 at *
          refine wpAny_ready (rs := [3]) (by kernel_rfl) (by simp) ?_
          refine (AllReady.cons rfl (fun K hK => ?_) AllReady.nil)
          refine (if_pos (by rfl)).mpr ?_
          refine wp_store_row 40 (.tmp 3) (.tmp 23) rfl (w.heap.size + 1 + 1) (boolCells b) rfl rfl 40 (boolCells w0) HU_1.out (HSY.out ()) (HS1.out ()) (boolCells_one b) ?_
          refine hK _ _ ?_
          clear hK K
          simp only [List.getElem_toArray, List.getElem_cons_succ, List.getElem_cons_zero, Act.put]
          have HS_2 : Hid (Row (wx1.setRow ((w.heap.size + 1 + 1)) ((boolCells b))) ((w.heap.size + 1)) 40 ((boolCells a))) := (setRow_other _ _ _ _ (by omega)).trans HS_1.out
          have HU_2 : Hid (Row (wx1.setRow ((w.heap.size + 1 + 1)) ((boolCells b))) ((w.heap.size + 1 + 1)) 40 ((boolCells b))) := Row.setRow HU_1.out _
          have HX_2 : Hid (Row (wx1.setRow ((w.heap.size + 1 + 1)) ((boolCells b))) ((w.heap.size + 1 + 1 + 1)) 40 ((boolCells a))) := (setRow_other _ _ _ _ (by omega)).trans HX_1.out
          have HY_2 : Hid (Row (wx1.setRow ((w.heap.size + 1 + 1)) ((boolCells b))) ((w.heap.size + 1 + 1 + 1 + 1)) 40 ((boolCells b))) := (setRow_other _ _ _ _ (by omega)).trans HY_1.out
          have HBel_2 : Hid (Below w.heap.size w (wx1.setRow ((w.heap.size + 1 + 1)) ((boolCells b)))) := below_setRow HBel_1.out (by omega) _
          generalize wx1.setRow ((w.heap.size + 1 + 1)) ((boolCells b)) = wx2 at *
          refine wpAny_done (by kernel_rfl) ?_ _
          repeat go_step
          (try simp only [Exit.inBlock, Exit.then])
          refine bodyPost_ret (v := .tuple #[.agg (boolCells a), .agg (boolCells b)]) (results_row_row Tryd.results19 _ _ (w.heap.size + 1) (w.heap.size + 1 + 1) 40 40 (boolCells a) (boolCells b) (0, 0) (0, 0) _ rfl HS_2.out rfl HU_2.out Tryd.underlying40 rfl (HSX.out ()) (HSY.out ())) rfl ⟨by rw [HDA.out (), HDB.out ()], HBel_2.out⟩
        · skip
          refine (if_pos (by rfl)).mpr ?_
          refine wp_store_row 40 (.tmp 2) (.tmp 22) rfl (w.heap.size + 1) (boolCells a) rfl rfl 40 (boolCells w0) HS.out (HSX.out ()) (HS0.out ()) (boolCells_one a) ?_
          refine hK _ _ ?_
          clear hK K
          simp only [List.getElem_toArray, List.getElem_cons_succ, List.getElem_cons_zero, Act.put]
          have HS_3 : Hid (Row (wd.setRow ((w.heap.size + 1)) ((boolCells a))) ((w.heap.size + 1)) 40 ((boolCells a))) := Row.setRow HS.out _
          have HU_3 : Hid (Row (wd.setRow ((w.heap.size + 1)) ((boolCells a))) ((w.heap.size + 1 + 1)) 40 ((boolCells w0))) := (setRow_other _ _ _ _ (by omega)).trans HU.out
          have HX_3 : Hid (Row (wd.setRow ((w.heap.size + 1)) ((boolCells a))) ((w.heap.size + 1 + 1 + 1)) 40 ((boolCells a))) := (setRow_other _ _ _ _ (by omega)).trans HX.out
          have HY_3 : Hid (Row (wd.setRow ((w.heap.size + 1)) ((boolCells a))) ((w.heap.size + 1 + 1 + 1 + 1)) 40 ((boolCells b))) := (setRow_other _ _ _ _ (by omega)).trans HY.out
          have HBel_3 : Hid (Below w.heap.size w (wd.setRow ((w.heap.size + 1)) ((boolCells a)))) := below_setRow HBd.out (by omega) _
          generalize wd.setRow ((w.heap.size + 1)) ((boolCells a)) = wx3 at *
          refine wpAny_ready (rs := [1]) (by kernel_rfl) (by simp) ?_
          refine (AllReady.cons rfl (fun K hK => ?_) AllReady.nil)
          refine (if_pos (by rfl)).mpr ?_
          refine wp_load_row 40 (.tmp 5) rfl (w.heap.size + 1 + 1 + 1 + 1) rfl 40 (boolCells b) (0, 0) _ HY_3.out Tryd.underlying40 rfl (HSY.out ()) ?_
          refine hK _ _ ?_
          clear hK K
          simp only [List.getElem_toArray, List.getElem_cons_succ, List.getElem_cons_zero, Act.put, List.setIfInBounds_toArray, List.set_cons_zero, List.set_cons_succ]
          refine wpAny_ready (rs := [3]) (by kernel_rfl) (by simp) ?_
          refine (AllReady.cons rfl (fun K hK => ?_) AllReady.nil)
          refine (if_pos (by rfl)).mpr ?_
          refine wp_store_row 40 (.tmp 3) (.tmp 23) rfl (w.heap.size + 1 + 1) (boolCells b) rfl rfl 40 (boolCells w0) HU_3.out (HSY.out ()) (HS1.out ()) (boolCells_one b) ?_
          refine hK _ _ ?_
          clear hK K
          simp only [List.getElem_toArray, List.getElem_cons_succ, List.getElem_cons_zero, Act.put]
          have HS_4 : Hid (Row (wx3.setRow ((w.heap.size + 1 + 1)) ((boolCells b))) ((w.heap.size + 1)) 40 ((boolCells a))) := (setRow_other _ _ _ _ (by omega)).trans HS_3.out
          have HU_4 : Hid (Row (wx3.setRow ((w.heap.size + 1 + 1)) ((boolCells b))) ((w.heap.size + 1 + 1)) 40 ((boolCells b))) := Row.setRow HU_3.out _
          have HX_4 : Hid (Row (wx3.setRow ((w.heap.size + 1 + 1)) ((boolCells b))) ((w.heap.size + 1 + 1 + 1)) 40 ((boolCells a))) := (setRow_other _ _ _ _ (by omega)).trans HX_3.out
          have HY_4 : Hid (Row (wx3.setRow ((w.heap.size + 1 + 1)) ((boolCells b))) ((w.heap.size + 1 + 1 + 1 + 1)) 40 ((boolCells b))) := (setRow_other _ _ _ _ (by omega)).trans HY_3.out
          have HBel_4 : Hid (Below w.heap.size w (wx3.setRow ((w.heap.size + 1 + 1)) ((boolCells b)))) := below_setRow HBel_3.out (by omega) _
          generalize wx3.setRow ((w.heap.size + 1 + 1)) ((boolCells b)) = wx4 at *
          refine wpAny_done (by kernel_rfl) ?_ _
          repeat go_step
          (try simp only [Exit.inBlock, Exit.then])
          refine bodyPost_ret (v := .tuple #[.agg (boolCells a), .agg (boolCells b)]) (results_row_row Tryd.results19 _ _ (w.heap.size + 1) (w.heap.size + 1 + 1) 40 40 (boolCells a) (boolCells b) (0, 0) (0, 0) _ rfl HS_4.out rfl HU_4.out Tryd.underlying40 rfl (HSX.out ()) (HSY.out ())) rfl ⟨by rw [HDA.out (), HDB.out ()], HBel_4.out⟩
      · skip
        refine (if_pos (by rfl)).mpr ?_
        refine wp_load_row 40 (.tmp 5) rfl (w.heap.size + 1 + 1 + 1 + 1) rfl 40 (boolCells b) (0, 0) _ HY.out Tryd.underlying40 rfl (HSY.out ()) ?_
        refine hK _ _ ?_
        clear hK K
        simp only [List.getElem_toArray, List.getElem_cons_succ, List.getElem_cons_zero, Act.put, List.setIfInBounds_toArray, List.set_cons_zero, List.set_cons_succ]
        refine wpAny_ready (rs := [0]) (by kernel_rfl) (by simp) ?_
        refine (AllReady.cons rfl (fun K hK => ?_) AllReady.nil)
        refine (if_pos (by rfl)).mpr ?_
        refine wp_load_row 40 (.tmp 4) rfl (w.heap.size + 1 + 1 + 1) rfl 40 (boolCells a) (0, 0) _ HX.out Tryd.underlying40 rfl (HSX.out ()) ?_
        refine hK _ _ ?_
        clear hK K
        simp only [List.getElem_toArray, List.getElem_cons_zero, Act.put, List.setIfInBounds_toArray, List.set_cons_zero, List.set_cons_succ]
        refine wpAny_ready (rs := [2]) (by kernel_rfl) (by simp) ?_
        refine (AllReady.cons rfl (fun K hK => ?_) AllReady.nil)
        refine (if_pos (by rfl)).mpr ?_
        refine wp_store_row 40 (.tmp 2) (.tmp 22) rfl (w.heap.size + 1) (boolCells a) rfl rfl 40 (boolCells w0) HS.out (HSX.out ()) (HS0.out ()) (boolCells_one a) ?_
        refine hK _ _ ?_
        clear hK K
        simp only [List.getElem_toArray, List.getElem_cons_succ, List.getElem_cons_zero, Act.put]
        have HS_5 : Hid (Row (wd.setRow ((w.heap.size + 1)) ((boolCells a))) ((w.heap.size + 1)) 40 ((boolCells a))) := Row.setRow HS.out _
        have HU_5 : Hid (Row (wd.setRow ((w.heap.size + 1)) ((boolCells a))) ((w.heap.size + 1 + 1)) 40 ((boolCells w0))) := (setRow_other _ _ _ _ (by omega)).trans HU.out
        have HX_5 : Hid (Row (wd.setRow ((w.heap.size + 1)) ((boolCells a))) ((w.heap.size + 1 + 1 + 1)) 40 ((boolCells a))) := (setRow_other _ _ _ _ (by omega)).trans HX.out
        have HY_5 : Hid (Row (wd.setRow ((w.heap.size + 1)) ((boolCells a))) ((w.heap.size + 1 + 1 + 1 + 1)) 40 ((boolCells b))) := (setRow_other _ _ _ _ (by omega)).trans HY.out
        have HBel_5 : Hid (Below w.heap.size w (wd.setRow ((w.heap.size + 1)) ((boolCells a)))) := below_setRow HBd.out (by omega) _
        generalize wd.setRow ((w.heap.size + 1)) ((boolCells a)) = wx5 at *
        refine wpAny_ready (rs := [3]) (by kernel_rfl) (by simp) ?_
        refine (AllReady.cons rfl (fun K hK => ?_) AllReady.nil)
        refine (if_pos (by rfl)).mpr ?_
        refine wp_store_row 40 (.tmp 3) (.tmp 23) rfl (w.heap.size + 1 + 1) (boolCells b) rfl rfl 40 (boolCells w0) HU_5.out (HSY.out ()) (HS1.out ()) (boolCells_one b) ?_
        refine hK _ _ ?_
        clear hK K
        simp only [List.getElem_toArray, List.getElem_cons_succ, List.getElem_cons_zero, Act.put]
        have HS_6 : Hid (Row (wx5.setRow ((w.heap.size + 1 + 1)) ((boolCells b))) ((w.heap.size + 1)) 40 ((boolCells a))) := (setRow_other _ _ _ _ (by omega)).trans HS_5.out
        have HU_6 : Hid (Row (wx5.setRow ((w.heap.size + 1 + 1)) ((boolCells b))) ((w.heap.size + 1 + 1)) 40 ((boolCells b))) := Row.setRow HU_5.out _
        have HX_6 : Hid (Row (wx5.setRow ((w.heap.size + 1 + 1)) ((boolCells b))) ((w.heap.size + 1 + 1 + 1)) 40 ((boolCells a))) := (setRow_other _ _ _ _ (by omega)).trans HX_5.out
        have HY_6 : Hid (Row (wx5.setRow ((w.heap.size + 1 + 1)) ((boolCells b))) ((w.heap.size + 1 + 1 + 1 + 1)) 40 ((boolCells b))) := (setRow_other _ _ _ _ (by omega)).trans HY_5.out
        have HBel_6 : Hid (Below w.heap.size w (wx5.setRow ((w.heap.size + 1 + 1)) ((boolCells b)))) := below_setRow HBel_5.out (by omega) _
        generalize wx5.setRow ((w.heap.size + 1 + 1)) ((boolCells b)) = wx6 at *
        refine wpAny_done (by kernel_rfl) ?_ _
        repeat go_step
        (try simp only [Exit.inBlock, Exit.then])
        refine bodyPost_ret (v := .tuple #[.agg (boolCells a), .agg (boolCells b)]) (results_row_row Tryd.results19 _ _ (w.heap.size + 1) (w.heap.size + 1 + 1) 40 40 (boolCells a) (boolCells b) (0, 0) (0, 0) _ rfl HS_6.out rfl HU_6.out Tryd.underlying40 rfl (HSX.out ()) (HSY.out ())) rfl ⟨by rw [HDA.out (), HDB.out ()], HBel_6.out⟩
end Go.Proofs.YtmfnjjkbfabonaaDoor
