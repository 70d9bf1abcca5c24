/-
  Contracts and plain facts that the laws share; each piece is headed by what it holds and its conditions.
-/
import Derived.Test.YtoohahjmiljpgaaQS1
import Derived.Test.YtoohahjmiljpgaaQS5
import Derived.Test.YtoohahjmiljpgaaQS2
import Derived.Deep.MidRow
import Derived.Laws.CopyRow
import Derived.Deep.QuietTactic

/- Plain facts of layer 17: whether steps are right, whether numbers are small. No program is named here. No conditions but those that each fact names. -/
namespace Go.Proofs.Ytoohahjmiljpgaa
open Go.RowKit
open M
/-- Are all steps right? -/
def rt17 (l : List Int) : Bool := (List.range 8).all fun j => decide (0 ≤ l.getD j 0 ∧ l.getD j 0 ≤ 15)
/-- Is none of four too great? -/
def sm17 (l : List Int) : Bool := (List.range 4).all fun j => decide (-1048576 ≤ l.getD j 0 ∧ l.getD j 0 ≤ 1048576)
theorem rt_iff (l : List Int) : rt17 l = true ↔ ∀ j, j < 8 → 0 ≤ l.getD j 0 ∧ l.getD j 0 ≤ 15 := by
  unfold rt17
  rw [List.all_eq_true]
  exact ⟨fun h j hj => of_decide_eq_true (h j (List.mem_range.2 hj)), fun h j hj => decide_eq_true (h j (List.mem_range.1 hj))⟩
theorem sm_iff (l : List Int) : sm17 l = true ↔ ∀ j, j < 4 → -1048576 ≤ l.getD j 0 ∧ l.getD j 0 ≤ 1048576 := by
  unfold sm17
  rw [List.all_eq_true]
  exact ⟨fun h j hj => of_decide_eq_true (h j (List.mem_range.2 hj)), fun h j hj => decide_eq_true (h j (List.mem_range.1 hj))⟩
theorem b_no {b : Bool} {P : Prop} (h : b = true ↔ P) (k : ¬ P) : b = false := by
  cases b
  · rfl
  · exact absurd (h.1 rfl) k
end Go.Proofs.Ytoohahjmiljpgaa

/- Plain facts of layer 18: how many pulses each band has, as a list; what they cost. No program is named here. No conditions but those that each fact names. -/
namespace Go.Proofs.Ytoohahjmiljpgaa
open Go.RowKit
open M
theorem btc_bits : ∀ k, k ≤ 12 → bl13 20 (cn13 4 k - 1) = btc k ∧ cn13 4 k - 1 < 2 ^ 20 ∧ 1 ≤ cn13 4 k := by decide +kernel
def e8z : List Int := List.replicate 8 0
/-- How many pulses each band has, as a list. -/
def kl18 (k : Nat → Nat) : List Int := (List.range 8).map fun b => (k b : Int)
theorem kl18_len (k : Nat → Nat) : (kl18 k).length = 8 := by simp [kl18]
theorem kl18_at (k : Nat → Nat) (b : Nat) (h : b < 8) : (kl18 k).getD b 0 = (k b : Int) := by
  simp only [kl18, List.getD_eq_getElem?_getD, List.getElem?_map, List.getElem?_range h, Option.map_some, Option.getD_some]
theorem kl18_zero : kl18 (fun _ => 0) = e8z := by decide
theorem kl18_set (k : Nat → Nat) (a : Nat) : (kl18 k).set a ((k a + 1 : Nat) : Int) = kl18 (mor k a) := by
  apply List.ext_getElem
  · simp [kl18]
  · intro i h1 h2
    simp only [kl18, List.getElem_set, List.getElem_map, List.getElem_range]
    unfold mor
    by_cases e : a = i
    · subst e; rw [if_pos rfl, if_pos rfl]
    · rw [if_neg e, if_neg (fun h => e h.symm)]
theorem bst_lt (s : Nat → Int) (k : Nat → Nat) (l n a : Nat) (h : bst s k l n = some a) : a < n := (bst_some s k l n a h).1
theorem btc_bd (k : Nat) : btc k ≤ 13 := by
  rcases Nat.lt_or_ge k 13 with h | h
  · have h2 : k = 0 ∨ k = 1 ∨ k = 2 ∨ k = 3 ∨ k = 4 ∨ k = 5 ∨ k = 6 ∨ k = 7 ∨ k = 8 ∨ k = 9 ∨ k = 10 ∨ k = 11 ∨ k = 12 := by omega
    rcases h2 with rfl | rfl | rfl | rfl | rfl | rfl | rfl | rfl | rfl | rfl | rfl | rfl | rfl <;> decide
  · have : btc k = 0 := by
      unfold btc
      rw [List.getD_eq_getElem?_getD, List.getElem?_eq_none (by simpa [btl] using h)]
      rfl
    omega
theorem btc_inc (k : Nat) (h : k < 12) : ((btc (k + 1) : Nat) : Int) - (btc k : Int) = (inc k : Int) := by
  have := bt_next k h
  omega
end Go.Proofs.Ytoohahjmiljpgaa

/- Parts of a row of numbers, of any size and anywhere: a part loaded, a part stored (shapes: steps, and bands' pulses). Conditions: the part lies in the row. -/
namespace Go.Proofs.Ytoohahjmiljpgaa.M
/-- n numbers of a list, from o on. -/
def pto (x : List Int) (o n : Nat) : List Int := (List.range n).map fun i => x.getD (o + i) 0
/-- Numbers put into a list, from o on. -/
def ppu (x : List Int) (o : Nat) (f : List Int) : List Int := (List.range x.length).map fun p => if o ≤ p ∧ p < o + f.length then f.getD (p - o) 0 else x.getD p 0
theorem tm_getD (n : Nat) (f : Nat → Int) (i : Nat) (h : i < n) : ((List.range n).map f).getD i 0 = f i := by
  simp only [List.getD_eq_getElem?_getD, List.getElem?_map, List.getElem?_range h, Option.map_some, Option.getD_some]
theorem tm_ext (l : List Int) (n : Nat) (f : Nat → Int) (h : l.length = n) (k : ∀ i, i < n → l.getD i 0 = f i) : l = (List.range n).map f := by
  apply List.ext_getElem
  · simp [h]
  · intro i h1 h2
    have := k i (by omega)
    rw [List.getD_eq_getElem?_getD, List.getElem?_eq_getElem h1] at this
    simpa using this
theorem pto_len (x : List Int) (o n : Nat) : (pto x o n).length = n := by simp [pto]
theorem pto_getD (x : List Int) (o n i : Nat) (h : i < n) : (pto x o n).getD i 0 = x.getD (o + i) 0 := tm_getD n _ i h
theorem ppu_len (x : List Int) (o : Nat) (f : List Int) : (ppu x o f).length = x.length := by simp [ppu]
theorem ppu_getD (x : List Int) (o : Nat) (f : List Int) (p : Nat) (h : p < x.length) : (ppu x o f).getD p 0 = if o ≤ p ∧ p < o + f.length then f.getD (p - o) 0 else x.getD p 0 := tm_getD _ _ p h
theorem pto_ppu_same (x : List Int) (o : Nat) (f : List Int) (h : o + f.length ≤ x.length) : pto (ppu x o f) o f.length = f := by
  refine Eq.symm (tm_ext f f.length _ rfl fun i hi => ?_)
  rw [ppu_getD _ _ _ _ (by omega), if_pos ⟨by omega, by omega⟩, Nat.add_sub_cancel_left]
theorem pto_ppu_far (x : List Int) (o : Nat) (f : List Int) (q n : Nat) (h : q + n ≤ x.length) (hf : q + n ≤ o ∨ o + f.length ≤ q) : pto (ppu x o f) q n = pto x q n := by
  refine Eq.symm (tm_ext _ n _ (pto_len _ _ _) fun i hi => ?_)
  rw [pto_getD _ _ _ _ hi, ppu_getD _ _ _ _ (by omega), if_neg (by omega)]
theorem pto_all (x : List Int) (n : Nat) (h : x.length = n) : pto x 0 n = x :=
  Eq.symm (tm_ext x n _ h fun i _ => by rw [Nat.zero_add])
theorem ppu_cut (x : List Int) (o : Nat) (f : List Int) (h : o + f.length ≤ x.length) : x.take o ++ f ++ x.drop (o + f.length) = ppu x o f := by
  refine tm_ext _ x.length _ (by simp; omega) fun i hi => ?_
  have ht : (x.take o).length = o := by simp; omega
  rw [List.getD_eq_getElem?_getD, List.getElem?_append, List.getElem?_append]
  simp only [List.length_append, ht]
  by_cases h1 : i < o
  · rw [if_pos (by omega), if_pos h1, if_neg (by omega), List.getElem?_take, if_pos h1, ← List.getD_eq_getElem?_getD]
  · by_cases h2 : i < o + f.length
    · rw [if_pos h2, if_neg h1, if_pos ⟨by omega, h2⟩, ← List.getD_eq_getElem?_getD]
    · rw [if_neg h2, if_neg (by omega), List.getElem?_drop, ← List.getD_eq_getElem?_getD]
      congr 1
      omega
end Go.Proofs.Ytoohahjmiljpgaa.M
namespace Go.Proofs.Ytoohahjmiljpgaa
open Go.RowKit
open M
theorem pto_range {w : World} {g : Nat} {t : TypeId} {x : List Int} (hr : Row w g t (iCells x)) (o n : Nat) (hb : o + n ≤ x.length) : w.rangeAt g o (iCells (pto x o n)).toList := fun j v hv => by
  have hj : j < n := by
    have := (List.getElem?_eq_some_iff.1 hv).1
    simpa [iCells, pto_len] using this
  rw [i_at hr (o + j) (by omega), ← hv, Array.getElem?_toList, iCells_get _ _ (by rw [pto_len]; exact hj), pto_getD _ _ _ _ hj]
theorem iL_size (f : List Int) : (iCells f).toList.length = f.length := by simp [iCells]
section
variable {P : Program}
theorem run_store_pto (w : World) (g o : Nat) (ty t : TypeId) (f x : List Int) (hr : Row w g t (iCells x)) (hb : o + f.length ≤ x.length) (hi : (P.info? ty).map (·.size) = some f.length) :
    (storeVar ty ⟨g, o, none⟩ (.agg (iCells f))).run P w = .ok () (w.setRow g (iCells (ppu x o f))) := by
  have hfl := iL_size f
  have h1 : ∀ v ∈ (iCells f).toList, v.oneCell' = true := fun v hv => (Array.all_eq_true_iff_forall_mem.1 (iCells_one f)) v (by simpa using hv)
  have := run_storeCells_at P g o t (iCells f).toList 0 (iCells x) w hr (by rw [hfl, iCells_size]; omega) h1
  rw [Nat.add_zero, hfl] at this
  have e : ((iCells x).toList.take o ++ (iCells f).toList ++ (iCells x).toList.drop (o + f.length)).toArray = iCells (ppu x o f) := by
    rw [← ppu_cut x o f hb]
    simp [iCells]
  rw [e] at this
  cases hq : P.info? ty with
  | none => simp [hq] at hi
  | some i =>
    have hs : (iCells f).size = i.size := by simp [hq] at hi; rw [iCells_size, hi]
    simp [storeVar, sizeOf, typeInfo, hq, Value.cells, hs, this]
/-- A part is read out of a row. -/
theorem wp_load_pto {op : Oper} {a : Act} {w : World} {K : Act → World → Prop} {Q : Exit → Act → World → Prop} (ty : TypeId) (y : Operand) (ho : op.op = .load ty y) (g o n : Nat) (hx : a.eval y = .pointer (some ⟨g, o, none⟩))
    (t : TypeId) (x : List Int) (d : TypeDesc) (hr : Row w g t (iCells x)) (hb : o + n ≤ x.length) (hu : P.underlying ty = some d) (hd : d.isRow = true) (hi : (P.info? ty).map (·.size) = some n)
    (h : K (a.put op.dst (.agg (iCells (pto x o n)))) w) : op.wp P a w K Q :=
  wp_load_mid ty y ho g _ hx _ d (pto_range hr o n hb) hu hd (by rw [iL_size, pto_len]; exact hi) h
theorem wpList_load_pto {ops : Array Oper} {rest : List Oper} {op : Oper} {a : Act} {w : World} {Q : Exit → Act → World → Prop} (hgd : op.guard = none) (ty : TypeId) (y : Operand) (ho : op.op = .load ty y) (g o n : Nat) (hx : a.eval y = .pointer (some ⟨g, o, none⟩))
    (t : TypeId) (x : List Int) (d : TypeDesc) (hr : Row w g t (iCells x)) (hb : o + n ≤ x.length) (hu : P.underlying ty = some d) (hd : d.isRow = true) (hi : (P.info? ty).map (·.size) = some n)
    (h : wpList P ops Q rest (a.put op.dst (.agg (iCells (pto x o n)))) w) : wpList P ops Q (op :: rest) a w :=
  wpList_plain hgd fun _ hK => wp_load_pto ty y ho g o n hx t x d hr hb hu hd hi (hK _ _ h)
/-- .. in a list with guards. -/
theorem g_load_pto {ops : Array Oper} {rest : List Oper} {op : Oper} {a : Act} {w : World} {Q : Exit → Act → World → Prop} (hw : Region.wanted op (yielded ops a.tmps) = true) (ty : TypeId) (y : Operand) (ho : op.op = .load ty y) (g o n : Nat) (hx : a.eval y = .pointer (some ⟨g, o, none⟩))
    (t : TypeId) (x : List Int) (d : TypeDesc) (hr : Row w g t (iCells x)) (hb : o + n ≤ x.length) (hu : P.underlying ty = some d) (hd : d.isRow = true) (hi : (P.info? ty).map (·.size) = some n)
    (h : wpList P ops Q rest (a.put op.dst (.agg (iCells (pto x o n)))) w) : wpList P ops Q (op :: rest) a w := by
  unfold wpList
  rw [if_pos hw]
  exact Or.inl (wp_load_pto ty y ho g o n hx t x d hr hb hu hd hi h)
/-- .. in a statement that draws its order and changes nothing that was there. -/
theorem q_load_pto {C : World → Prop} {a : Act} {op : Oper} {K : Act → Prop} (ty : TypeId) (y : Operand) (ho : op.op = .load ty y) (g o n : Nat) (hx : a.eval y = .pointer (some ⟨g, o, none⟩)) (t : TypeId) (x : List Int) (d : TypeDesc)
    (hC : ∀ w, C w → Row w g t (iCells x)) (hb : o + n ≤ x.length) (hu : P.underlying ty = some d) (hd : d.isRow = true) (hi : (P.info? ty).map (·.size) = some n)
    (hk : K (a.put op.dst (.agg (iCells (pto x o n))))) : op.quiet P a C K :=
  ⟨_, fun w hw => by
    unfold Oper.quietAt execOp
    simp only [ho, hx, Instr.loadAt, Instr.sureAddr, Sem.run_bind, Sem.run_pure, Result.andThen_ok, run_loadVar_mid w g _ ty _ d (pto_range (hC w hw) o n hb) hu hd (by rw [iL_size, pto_len]; exact hi)]
    exact ⟨rfl, by rw [Array.toArray_toList]⟩, hk⟩
/-- A part is put into a row. -/
theorem wp_store_pto {op : Oper} {a : Act} {w : World} {K : Act → World → Prop} {Q : Exit → Act → World → Prop} (ty : TypeId) (y z : Operand) (ho : op.op = .store ty y z) (g o : Nat) (f : List Int)
    (hx : a.eval y = .pointer (some ⟨g, o, none⟩)) (hz : a.eval z = .agg (iCells f)) (t : TypeId) (x : List Int) (hr : Row w g t (iCells x)) (hb : o + f.length ≤ x.length) (hi : (P.info? ty).map (·.size) = some f.length)
    (h : K (a.put op.dst undef) (w.setRow g (iCells (ppu x o f)))) : op.wp P a w K Q := by
  unfold Oper.wp execOp
  simp only [ho, hx, hz, Instr.storeAt, Instr.sureAddr, Sem.run_bind, Sem.run_pure, Result.andThen_ok, run_store_pto w g o ty t f x hr hb hi]
  exact h
theorem wpList_store_pto {ops : Array Oper} {rest : List Oper} {op : Oper} {a : Act} {w : World} {Q : Exit → Act → World → Prop} (hgd : op.guard = none) (ty : TypeId) (y z : Operand) (ho : op.op = .store ty y z) (g o : Nat) (f : List Int)
    (hx : a.eval y = .pointer (some ⟨g, o, none⟩)) (hz : a.eval z = .agg (iCells f)) (t : TypeId) (x : List Int) (hr : Row w g t (iCells x)) (hb : o + f.length ≤ x.length) (hi : (P.info? ty).map (·.size) = some f.length)
    (h : wpList P ops Q rest (a.put op.dst undef) (w.setRow g (iCells (ppu x o f)))) : wpList P ops Q (op :: rest) a w :=
  wpList_plain hgd fun _ hK => wp_store_pto ty y z ho g o f hx hz t x hr hb hi (hK _ _ h)
end
end Go.Proofs.Ytoohahjmiljpgaa

/- Numbers as values. No conditions but those that each fact names. -/
namespace Go.Proofs.Ytoohahjmiljpgaa
open Go.RowKit
open M
/-- Numbers as values. -/
def iV (l : List Int) : List Value := l.map fun x => Value.int .i64 x
theorem iV_len (l : List Int) : (iV l).length = l.length := by simp [iV]
theorem iV_get (l : List Int) (i : Nat) (h : i < l.length) : (iV l)[i]? = some (.int .i64 (l.getD i 0)) := by
  simp [iV, List.getD_eq_getElem?_getD, h]
theorem iV_one (l : List Int) : ∀ u ∈ iV l, u.oneCell' = true := by
  intro u hu
  obtain ⟨x, _, rfl⟩ := List.mem_map.1 hu
  rfl
theorem iV_app (l m : List Int) : iV (l ++ m) = iV l ++ iV m := by simp [iV]
theorem take_snoc (l : List Int) (k : Nat) (h : k < l.length) : l.take (k + 1) = l.take k ++ [l.getD k 0] := by
  rw [List.take_add_one, List.getD_eq_getElem?_getD, List.getElem?_eq_getElem h]
  rfl
theorem iV_snoc (l : List Int) (k : Nat) (h : k < l.length) : iV (l.take (k + 1)) = iV (l.take k) ++ [.int .i64 (l.getD k 0)] := by
  rw [take_snoc l k h, iV_app]
  rfl
end Go.Proofs.Ytoohahjmiljpgaa
