/-
  Arguments that hold structs, arrays, strings, numbers and truths: which cells they have, each of its kind; slices of such, as they lie. No program is named here. No conditions.
-/
import Derived.Test.YtalbcimnnihmnaaQS5
import Derived.ProofKit
import Derived.OpenShut
import Derived.ChangeSlices
import Derived.Deep.Slices
import Derived.Deep.MidRow
import Derived.Stop.Joined
namespace Go.Proofs.Ytalbcimnnihmnaa
open Go.ChangeShapes Go.WideShapes Go.ChangeAt Go.RowKit
open M
/-- Kinds of cells. -/
inductive Kd where
  | int (k : IntKind)
  | str
  | bool
/-- A cell of a kind. -/
def Kd.is : Kd → Value → Prop
  | .int k, c => ∃ z : Int, c = .int k z ∧ (Lit.int k z).wf = true
  | .str, c => ∃ s : ByteArray, c = .string s ∧ s.size ≤ maxLen
  | .bool, c => ∃ b : Bool, c = .bool b
section
variable {H : Type} {enc : TypeId × Value → H} {P : Program} {w : World} {base : Nat} {spare : Nat → Bool} {held : Bool}
/-- Whatever is read as a type has cells of these kinds. -/
def Rd (enc : TypeId × Value → H) (P : Program) (w : World) (base : Nat) (spare : Nat → Bool) (held : Bool) (t : TypeId) (ks : List Kd) : Prop :=
  ∀ (fuel : Nat) (cs : List Value) (x : DataW H × List MemPlace), DataW.trod enc P w base spare held fuel t cs = some x → cs.length = ks.length ∧ ∀ i (h : i < ks.length), ∃ c, cs[i]? = some c ∧ (ks[i]).is c
theorem rd_int {t : TypeId} {k : IntKind} (ht : P.underlying t = some (.int k)) : Rd enc P w base spare held t [.int k] := by
  intro fuel cs x h
  obtain ⟨z, rfl, _, hw⟩ := DataW.trod_int ht h
  refine ⟨rfl, fun i hi => ?_⟩
  obtain rfl : i = 0 := by simpa using hi
  exact ⟨_, rfl, z, rfl, hw⟩
theorem rd_str {t : TypeId} (ht : P.underlying t = some .string) : Rd enc P w base spare held t [.str] := by
  intro fuel cs x h
  have key : ∃ s : ByteArray, cs = [.string s] ∧ s.size ≤ maxLen := by
    cases fuel with
    | zero => simp [DataW.trod] at h
    | succ m =>
      unfold DataW.trod at h
      rw [ht] at h
      split at h <;> simp_all
  obtain ⟨s, rfl, hs⟩ := key
  refine ⟨rfl, fun i hi => ?_⟩
  obtain rfl : i = 0 := by simpa using hi
  exact ⟨_, rfl, s, rfl, hs⟩
theorem rd_bool {t : TypeId} (ht : P.underlying t = some .bool) : Rd enc P w base spare held t [.bool] := by
  intro fuel cs x h
  have key : ∃ b : Bool, cs = [.bool b] := by
    cases fuel with
    | zero => simp [DataW.trod] at h
    | succ m =>
      unfold DataW.trod at h
      rw [ht] at h
      split at h <;> simp_all
  obtain ⟨b, rfl⟩ := key
  refine ⟨rfl, fun i hi => ?_⟩
  obtain rfl : i = 0 := by simpa using hi
  exact ⟨_, rfl, b, rfl⟩
theorem flat_len {α : Type} (n : Nat) (l : List α) : (List.replicate n l).flatten.length = n * l.length := by simp
theorem flat_at {α : Type} (n : Nat) (l : List α) (i : Nat) (h : i < n * l.length) (h2 : i < (List.replicate n l).flatten.length) (h3 : i % l.length < l.length) : (List.replicate n l).flatten[i] = l[i % l.length] := by
  induction n generalizing i with
  | zero => simp at h
  | succ n ih =>
    have e : (List.replicate (n + 1) l).flatten = l ++ (List.replicate n l).flatten := by simp [List.replicate_succ]
    rw [List.getElem_of_eq e, List.getElem_append]
    split
    · rename_i hl
      have : i % l.length = i := Nat.mod_eq_of_lt hl
      simp only [this]
    · rename_i hl
      have h4 : (i - l.length) % l.length = i % l.length := by
        conv => rhs; rw [show i = (i - l.length) + l.length by omega]
        rw [Nat.add_mod_right]
      have h5 : i - l.length < n * l.length := by rw [Nat.succ_mul] at h; omega
      have := ih (i - l.length) h5 (by rw [flat_len]; exact h5) (by rw [h4]; exact h3)
      rw [this]
      simp only [h4]
theorem rd_array {t e : TypeId} {n : Nat} {ks : List Kd} (ht : P.underlying t = some (.array n e)) (he : Rd enc P w base spare held e ks) (hce : P.cellsOf e = ks.length) (hct : P.cellsOf t = n * ks.length) (h0 : 0 < ks.length) :
    Rd enc P w base spare held t (List.replicate n ks).flatten := by
  intro fuel cs x h
  obtain ⟨xs, m, _, _, hcl, hxl, hat⟩ := DataW.trod_array ht h
  rw [hct] at hcl
  refine ⟨by rw [hcl, flat_len], fun i hi => ?_⟩
  rw [flat_len] at hi
  have hq : i / ks.length < n := by rw [Nat.div_lt_iff_lt_mul h0]; exact hi
  have h1 := hat (i / ks.length) hq
  rw [List.getElem?_eq_getElem (by omega), hce] at h1
  obtain ⟨_, hk⟩ := he m _ _ h1
  have hr : i % ks.length < ks.length := Nat.mod_lt _ h0
  obtain ⟨c, hc, hi2⟩ := hk (i % ks.length) hr
  refine ⟨c, ?_, by rw [flat_at n ks i hi _ hr]; exact hi2⟩
  rw [List.getElem?_take, if_pos hr, List.getElem?_drop] at hc
  rw [← hc]
  congr 1
  have := Nat.div_add_mod i ks.length
  rw [Nat.mul_comm] at this
  omega
theorem rd_struct2 {t : TypeId} {f0 f1 : Field} {k0 k1 : List Kd} (ht : P.underlying t = some (.struct #[f0, f1])) (h0 : Rd enc P w base spare held f0.type k0) (h1 : Rd enc P w base spare held f1.type k1)
    (hc0 : P.cellsOf f0.type = k0.length) (hc1 : P.cellsOf f1.type = k1.length) (ho0 : f0.offset = 0) (ho1 : f1.offset = k0.length) (hct : P.cellsOf t = k0.length + k1.length) :
    Rd enc P w base spare held t (k0 ++ k1) := by
  intro fuel cs x h
  obtain ⟨y0, y1, n, _, hcl, e0, e1⟩ := trod_struct2 ht h
  rw [ho0, hc0] at e0
  rw [ho1, hc1] at e1
  obtain ⟨_, g0⟩ := h0 _ _ _ e0
  obtain ⟨_, g1⟩ := h1 _ _ _ e1
  refine ⟨by rw [hcl, hct, List.length_append], fun i hi => ?_⟩
  rw [List.length_append] at hi
  rcases Nat.lt_or_ge i k0.length with hl | hg
  · obtain ⟨c, hc, hk⟩ := g0 i hl
    rw [List.getElem?_take, if_pos hl, List.getElem?_drop, Nat.zero_add] at hc
    exact ⟨c, hc, by rw [List.getElem_append_left hl]; exact hk⟩
  · obtain ⟨c, hc, hk⟩ := g1 (i - k0.length) (by omega)
    rw [List.getElem?_take, if_pos (by omega), List.getElem?_drop, show k0.length + (i - k0.length) = i by omega] at hc
    exact ⟨c, hc, by rw [List.getElem_append_right hg]; exact hk⟩
/-- So many things of so many cells each, one behind the other, where a slice begins; each cell is of its kind. -/
def CsAt (w : World) (v : Value) (n m : Nat) (cs : List Value) : Prop :=
  cs.length = n * m ∧ ∃ a cap, v = .slice a n cap ∧ (0 < n → ∃ b off, a = some ⟨b, off, none⟩ ∧ b < w.heap.size ∧ ∀ p, p < n * m → w.cell? ⟨b, off + p, none⟩ = cs[p]?)
theorem CsAt.below {w w' : World} {v : Value} {n m : Nat} {cs : List Value} (h : CsAt w v n m cs) (hb : Below w.heap.size w w') : CsAt w' v n m cs := by
  obtain ⟨hl, a, cap, rfl, hc⟩ := h
  refine ⟨hl, a, cap, rfl, fun h0 => ?_⟩
  obtain ⟨b, off, rfl, hbs, hcs⟩ := hc h0
  exact ⟨b, off, rfl, Nat.lt_of_lt_of_le hbs hb.size, fun p hp => (hb.cell (p := ⟨b, off + p, none⟩) hbs).trans (hcs p hp)⟩
theorem open_slices {t e : TypeId} {ks : List Kd} {v : Value} {d : DataW H} {ps : List MemPlace} {r : Reach} {b0 : Nat} (ht : P.underlying t = some (.slice e)) (hce : P.cellsOf e = ks.length) (h0 : 0 < ks.length)
    (hr : Rd enc P w 0 (fun _ => true) true e ks) (hv : Value.okWide P w r b0 t v) (h : DataW.Trod enc P w 0 (fun _ => true) true t v d ps) :
    ∃ n cs, CsAt w v n ks.length cs ∧ n ≤ maxLen ∧ ∀ p, p < n * ks.length → ∃ c, cs[p]? = some c ∧ ∀ (hp : p % ks.length < ks.length), (ks[p % ks.length]).is c := by
  obtain ⟨a, len, cap, rfl⟩ := okWide_slice ht hv
  obtain ⟨fuel, hf⟩ := h
  rcases Deep.open_slice ht hf with ⟨hc, _⟩ | ⟨a', len', cap', m, k, D, Pl, hc, _, hl, hm, hmm, _, hall⟩
  · have hc' : [Value.slice a len cap] = [.slice none 0 0] := hc
    simp only [List.cons.injEq, and_true] at hc'
    rw [hc']
    exact ⟨0, [], ⟨by simp, none, 0, rfl, fun h => absurd h (by decide)⟩, by decide, fun p hp => by simp at hp⟩
  · have hc' : [Value.slice a len cap] = [.slice (some a') len' cap'] := hc
    simp only [List.cons.injEq, and_true] at hc'
    rw [hc']
    clear hc hc' hf
    have hml : len' ≤ m := by rw [hmm]; split <;> omega
    have key : ∀ p, p < len' * ks.length → ∃ c : Value, w.cell? (a'.add p) = some c ∧ ∀ (hp : p % ks.length < ks.length), (ks[p % ks.length]).is c := by
      intro p hp
      have hq : p / ks.length < len' := by rw [Nat.div_lt_iff_lt_mul h0]; exact hp
      obtain ⟨cs', h1, h2⟩ := hall (p / ks.length) (by omega)
      rw [hce] at h1
      obtain ⟨_, hcl, hcell⟩ := World.cells?_some h1
      have hr2 : p % ks.length < ks.length := Nat.mod_lt _ h0
      obtain ⟨_, hk⟩ := hr k _ _ h2
      obtain ⟨c, e1, e2⟩ := hk (p % ks.length) hr2
      have h4 := hcell (p % ks.length) (by omega)
      rw [Deep.add_add, show p / ks.length * ks.length + p % ks.length = p by have := Nat.div_add_mod p ks.length; rw [Nat.mul_comm] at this; omega] at h4
      exact ⟨c, by rw [h4]; exact e1, fun _ => e2⟩
    obtain ⟨f, hfz⟩ := Deep.choose_lt (α := Value) key
    refine ⟨len', (List.range (len' * ks.length)).map f, ⟨by simp, some a', cap', rfl, fun hpos => ?_⟩, by omega, fun p hp => ⟨f p, by simp [hp], (hfz p hp).2⟩⟩
    obtain ⟨b, off, spot⟩ := a'
    have hpp : 0 < len' * ks.length := Nat.mul_pos hpos h0
    have hspot : spot = none := by simpa [Addr.add] using World.cell?_spot (hfz 0 hpp).1
    subst hspot
    refine ⟨b, off, rfl, World.block_lt_of_cell? w _ (hfz 0 hpp).1, fun p hp => ?_⟩
    rw [← add_plain, (hfz p hp).1]
    simp [hp]
/-- A struct or an array by value. -/
theorem open_flat {t : TypeId} {ks : List Kd} {v : Value} {d : DataW H} {ps : List MemPlace} (hr : Rd enc P w base spare held t ks) (h : DataW.Trod enc P w base spare held t v d ps) :
    v.cells.toList.length = ks.length ∧ ∀ i (hi : i < ks.length), ∃ c, v.cells.toList[i]? = some c ∧ (ks[i]).is c := by
  obtain ⟨fuel, hf⟩ := h
  exact hr fuel _ _ hf
/-- .. all of whose cells are numbers of a kind. -/
theorem open_ints_flat {t : TypeId} {n : Nat} {k : IntKind} {dsc : TypeDesc} {v : Value} {d : DataW H} {ps : List MemPlace} {r : Reach} {b0 : Nat} (hu : P.underlying t = some dsc) (hd : dsc.isRow = true)
    (hr : Rd enc P w base spare held t (List.replicate n (.int k))) (hv : Value.okWide P w r b0 t v) (h : DataW.Trod enc P w base spare held t v d ps) :
    ∃ zs : List Int, zs.length = n ∧ v = .agg (zs.map (Value.int k)).toArray ∧ ∀ z ∈ zs, (Lit.int k z).wf = true := by
  obtain ⟨cs, rfl⟩ : ∃ cs, v = .agg cs := by
    unfold Value.okWide at hv
    rw [hu] at hv
    cases dsc <;> first
      | (exfalso; revert hd; decide)
      | (exfalso; revert hd; simp [TypeDesc.isRow]; done)
      | (obtain ⟨cs, e, _⟩ := hv; exact ⟨cs, e⟩)
  obtain ⟨h1, h2⟩ := open_flat hr h
  obtain ⟨l⟩ := cs
  have hl : l.length = n := by simpa [Value.cells] using h1
  have key : ∀ i (hi : i < n), ∃ z, l[i]'(by omega) = .int k z ∧ (Lit.int k z).wf = true := by
    intro i hi
    obtain ⟨c, e1, e2⟩ := h2 i (by simpa using hi)
    have e3 : l[i]? = some c := by simpa [Value.cells] using e1
    rw [List.getElem?_eq_getElem (by omega)] at e3
    injection e3 with e3
    rw [List.getElem_replicate] at e2
    obtain ⟨z, e4, e5⟩ := e2
    exact ⟨z, by rw [e3, e4], e5⟩
  refine ⟨l.map intOf, by simpa using hl, ?_, ?_⟩
  · congr 2
    apply List.ext_getElem (by simp)
    intro i g1 g2
    obtain ⟨z, e1, _⟩ := key i (by omega)
    simp [e1, intOf]
  · intro z hz
    obtain ⟨i, hi, rfl⟩ := List.getElem_of_mem hz
    obtain ⟨z, e1, e3⟩ := key i (by simpa [hl] using hi)
    simpa [e1, intOf] using e3
end
end Go.Proofs.Ytalbcimnnihmnaa
