/-
  Contracts and plain facts that the laws share; each piece is headed by what it holds and its conditions.
-/
import Derived.Test.YtalbcimnnihmnaaGreatQS5
import Derived.Test.YtalbcimnnihmnaaGreatQS2
import Derived.Deep.MidRow
import Derived.Laws.CopyRow
import Derived.Deep.QuietTactic
import Derived.Laws.AppendOwn
import Derived.Laws.AppendOwnNone
import Derived.Laws.OwnMore

/- Parts of a row of numbers, of any size and anywhere: a part loaded, a part stored (shapes: steps, and bands' pulses). Conditions: the part lies in the row. -/
namespace Go.Proofs.YtalbcimnnihmnaaGreat.M
/-- n numbers of a list, from o on. -/
def pto (x : List Int) (o n : Nat) : List Int := (List.range n).map fun i => x.getD (o + i) 0
/-- Numbers put into a list, from o on. -/
def ppu (x : List Int) (o : Nat) (f : List Int) : List Int := (List.range x.length).map fun p => if o ≤ p ∧ p < o + f.length then f.getD (p - o) 0 else x.getD p 0
theorem tm_getD (n : Nat) (f : Nat → Int) (i : Nat) (h : i < n) : ((List.range n).map f).getD i 0 = f i := by
  simp only [List.getD_eq_getElem?_getD, List.getElem?_map, List.getElem?_range h, Option.map_some, Option.getD_some]
theorem tm_ext (l : List Int) (n : Nat) (f : Nat → Int) (h : l.length = n) (k : ∀ i, i < n → l.getD i 0 = f i) : l = (List.range n).map f := by
  apply List.ext_getElem
  · simp [h]
  · intro i h1 h2
    have := k i (by omega)
    rw [List.getD_eq_getElem?_getD, List.getElem?_eq_getElem h1] at this
    simpa using this
theorem pto_len (x : List Int) (o n : Nat) : (pto x o n).length = n := by simp [pto]
theorem pto_getD (x : List Int) (o n i : Nat) (h : i < n) : (pto x o n).getD i 0 = x.getD (o + i) 0 := tm_getD n _ i h
theorem ppu_len (x : List Int) (o : Nat) (f : List Int) : (ppu x o f).length = x.length := by simp [ppu]
theorem ppu_getD (x : List Int) (o : Nat) (f : List Int) (p : Nat) (h : p < x.length) : (ppu x o f).getD p 0 = if o ≤ p ∧ p < o + f.length then f.getD (p - o) 0 else x.getD p 0 := tm_getD _ _ p h
theorem pto_ppu_same (x : List Int) (o : Nat) (f : List Int) (h : o + f.length ≤ x.length) : pto (ppu x o f) o f.length = f := by
  refine Eq.symm (tm_ext f f.length _ rfl fun i hi => ?_)
  rw [ppu_getD _ _ _ _ (by omega), if_pos ⟨by omega, by omega⟩, Nat.add_sub_cancel_left]
theorem pto_ppu_far (x : List Int) (o : Nat) (f : List Int) (q n : Nat) (h : q + n ≤ x.length) (hf : q + n ≤ o ∨ o + f.length ≤ q) : pto (ppu x o f) q n = pto x q n := by
  refine Eq.symm (tm_ext _ n _ (pto_len _ _ _) fun i hi => ?_)
  rw [pto_getD _ _ _ _ hi, ppu_getD _ _ _ _ (by omega), if_neg (by omega)]
theorem pto_all (x : List Int) (n : Nat) (h : x.length = n) : pto x 0 n = x :=
  Eq.symm (tm_ext x n _ h fun i _ => by rw [Nat.zero_add])
theorem ppu_cut (x : List Int) (o : Nat) (f : List Int) (h : o + f.length ≤ x.length) : x.take o ++ f ++ x.drop (o + f.length) = ppu x o f := by
  refine tm_ext _ x.length _ (by simp; omega) fun i hi => ?_
  have ht : (x.take o).length = o := by simp; omega
  rw [List.getD_eq_getElem?_getD, List.getElem?_append, List.getElem?_append]
  simp only [List.length_append, ht]
  by_cases h1 : i < o
  · rw [if_pos (by omega), if_pos h1, if_neg (by omega), List.getElem?_take, if_pos h1, ← List.getD_eq_getElem?_getD]
  · by_cases h2 : i < o + f.length
    · rw [if_pos h2, if_neg h1, if_pos ⟨by omega, h2⟩, ← List.getD_eq_getElem?_getD]
    · rw [if_neg h2, if_neg (by omega), List.getElem?_drop, ← List.getD_eq_getElem?_getD]
      congr 1
      omega
end Go.Proofs.YtalbcimnnihmnaaGreat.M
namespace Go.Proofs.YtalbcimnnihmnaaGreat
open Go.RowKit
open M
theorem pto_range {w : World} {g : Nat} {t : TypeId} {x : List Int} (hr : Row w g t (iCells x)) (o n : Nat) (hb : o + n ≤ x.length) : w.rangeAt g o (iCells (pto x o n)).toList := fun j v hv => by
  have hj : j < n := by
    have := (List.getElem?_eq_some_iff.1 hv).1
    simpa [iCells, pto_len] using this
  rw [i_at hr (o + j) (by omega), ← hv, Array.getElem?_toList, iCells_get _ _ (by rw [pto_len]; exact hj), pto_getD _ _ _ _ hj]
theorem iL_size (f : List Int) : (iCells f).toList.length = f.length := by simp [iCells]
section
variable {P : Program}
theorem run_store_pto (w : World) (g o : Nat) (ty t : TypeId) (f x : List Int) (hr : Row w g t (iCells x)) (hb : o + f.length ≤ x.length) (hi : (P.info? ty).map (·.size) = some f.length) :
    (storeVar ty ⟨g, o, none⟩ (.agg (iCells f))).run P w = .ok () (w.setRow g (iCells (ppu x o f))) := by
  have hfl := iL_size f
  have h1 : ∀ v ∈ (iCells f).toList, v.oneCell' = true := fun v hv => (Array.all_eq_true_iff_forall_mem.1 (iCells_one f)) v (by simpa using hv)
  have := run_storeCells_at P g o t (iCells f).toList 0 (iCells x) w hr (by rw [hfl, iCells_size]; omega) h1
  rw [Nat.add_zero, hfl] at this
  have e : ((iCells x).toList.take o ++ (iCells f).toList ++ (iCells x).toList.drop (o + f.length)).toArray = iCells (ppu x o f) := by
    rw [← ppu_cut x o f hb]
    simp [iCells]
  rw [e] at this
  cases hq : P.info? ty with
  | none => simp [hq] at hi
  | some i =>
    have hs : (iCells f).size = i.size := by simp [hq] at hi; rw [iCells_size, hi]
    simp [storeVar, sizeOf, typeInfo, hq, Value.cells, hs, this]
/-- A part is read out of a row. -/
theorem wp_load_pto {op : Oper} {a : Act} {w : World} {K : Act → World → Prop} {Q : Exit → Act → World → Prop} (ty : TypeId) (y : Operand) (ho : op.op = .load ty y) (g o n : Nat) (hx : a.eval y = .pointer (some ⟨g, o, none⟩))
    (t : TypeId) (x : List Int) (d : TypeDesc) (hr : Row w g t (iCells x)) (hb : o + n ≤ x.length) (hu : P.underlying ty = some d) (hd : d.isRow = true) (hi : (P.info? ty).map (·.size) = some n)
    (h : K (a.put op.dst (.agg (iCells (pto x o n)))) w) : op.wp P a w K Q :=
  wp_load_mid ty y ho g _ hx _ d (pto_range hr o n hb) hu hd (by rw [iL_size, pto_len]; exact hi) h
theorem wpList_load_pto {ops : Array Oper} {rest : List Oper} {op : Oper} {a : Act} {w : World} {Q : Exit → Act → World → Prop} (hgd : op.guard = none) (ty : TypeId) (y : Operand) (ho : op.op = .load ty y) (g o n : Nat) (hx : a.eval y = .pointer (some ⟨g, o, none⟩))
    (t : TypeId) (x : List Int) (d : TypeDesc) (hr : Row w g t (iCells x)) (hb : o + n ≤ x.length) (hu : P.underlying ty = some d) (hd : d.isRow = true) (hi : (P.info? ty).map (·.size) = some n)
    (h : wpList P ops Q rest (a.put op.dst (.agg (iCells (pto x o n)))) w) : wpList P ops Q (op :: rest) a w :=
  wpList_plain hgd fun _ hK => wp_load_pto ty y ho g o n hx t x d hr hb hu hd hi (hK _ _ h)
/-- .. in a list with guards. -/
theorem g_load_pto {ops : Array Oper} {rest : List Oper} {op : Oper} {a : Act} {w : World} {Q : Exit → Act → World → Prop} (hw : Region.wanted op (yielded ops a.tmps) = true) (ty : TypeId) (y : Operand) (ho : op.op = .load ty y) (g o n : Nat) (hx : a.eval y = .pointer (some ⟨g, o, none⟩))
    (t : TypeId) (x : List Int) (d : TypeDesc) (hr : Row w g t (iCells x)) (hb : o + n ≤ x.length) (hu : P.underlying ty = some d) (hd : d.isRow = true) (hi : (P.info? ty).map (·.size) = some n)
    (h : wpList P ops Q rest (a.put op.dst (.agg (iCells (pto x o n)))) w) : wpList P ops Q (op :: rest) a w := by
  unfold wpList
  rw [if_pos hw]
  exact Or.inl (wp_load_pto ty y ho g o n hx t x d hr hb hu hd hi h)
/-- .. in a statement that draws its order and changes nothing that was there. -/
theorem q_load_pto {C : World → Prop} {a : Act} {op : Oper} {K : Act → Prop} (ty : TypeId) (y : Operand) (ho : op.op = .load ty y) (g o n : Nat) (hx : a.eval y = .pointer (some ⟨g, o, none⟩)) (t : TypeId) (x : List Int) (d : TypeDesc)
    (hC : ∀ w, C w → Row w g t (iCells x)) (hb : o + n ≤ x.length) (hu : P.underlying ty = some d) (hd : d.isRow = true) (hi : (P.info? ty).map (·.size) = some n)
    (hk : K (a.put op.dst (.agg (iCells (pto x o n))))) : op.quiet P a C K :=
  ⟨_, fun w hw => by
    unfold Oper.quietAt execOp
    simp only [ho, hx, Instr.loadAt, Instr.sureAddr, Sem.run_bind, Sem.run_pure, Result.andThen_ok, run_loadVar_mid w g _ ty _ d (pto_range (hC w hw) o n hb) hu hd (by rw [iL_size, pto_len]; exact hi)]
    exact ⟨rfl, by rw [Array.toArray_toList]⟩, hk⟩
/-- A part is put into a row. -/
theorem wp_store_pto {op : Oper} {a : Act} {w : World} {K : Act → World → Prop} {Q : Exit → Act → World → Prop} (ty : TypeId) (y z : Operand) (ho : op.op = .store ty y z) (g o : Nat) (f : List Int)
    (hx : a.eval y = .pointer (some ⟨g, o, none⟩)) (hz : a.eval z = .agg (iCells f)) (t : TypeId) (x : List Int) (hr : Row w g t (iCells x)) (hb : o + f.length ≤ x.length) (hi : (P.info? ty).map (·.size) = some f.length)
    (h : K (a.put op.dst undef) (w.setRow g (iCells (ppu x o f)))) : op.wp P a w K Q := by
  unfold Oper.wp execOp
  simp only [ho, hx, hz, Instr.storeAt, Instr.sureAddr, Sem.run_bind, Sem.run_pure, Result.andThen_ok, run_store_pto w g o ty t f x hr hb hi]
  exact h
theorem wpList_store_pto {ops : Array Oper} {rest : List Oper} {op : Oper} {a : Act} {w : World} {Q : Exit → Act → World → Prop} (hgd : op.guard = none) (ty : TypeId) (y z : Operand) (ho : op.op = .store ty y z) (g o : Nat) (f : List Int)
    (hx : a.eval y = .pointer (some ⟨g, o, none⟩)) (hz : a.eval z = .agg (iCells f)) (t : TypeId) (x : List Int) (hr : Row w g t (iCells x)) (hb : o + f.length ≤ x.length) (hi : (P.info? ty).map (·.size) = some f.length)
    (h : wpList P ops Q rest (a.put op.dst undef) (w.setRow g (iCells (ppu x o f)))) : wpList P ops Q (op :: rest) a w :=
  wpList_plain hgd fun _ hK => wp_store_pto ty y z ho g o f hx hz t x hr hb hi (hK _ _ h)
end
end Go.Proofs.YtalbcimnnihmnaaGreat

/- Numbers as values. No conditions but those that each fact names. -/
namespace Go.Proofs.YtalbcimnnihmnaaGreat
open Go.RowKit
open M
/-- Numbers as values. -/
def iV (l : List Int) : List Value := l.map fun x => Value.int .i64 x
theorem iV_len (l : List Int) : (iV l).length = l.length := by simp [iV]
theorem iV_get (l : List Int) (i : Nat) (h : i < l.length) : (iV l)[i]? = some (.int .i64 (l.getD i 0)) := by
  simp [iV, List.getD_eq_getElem?_getD, h]
theorem iV_one (l : List Int) : ∀ u ∈ iV l, u.oneCell' = true := by
  intro u hu
  obtain ⟨x, _, rfl⟩ := List.mem_map.1 hu
  rfl
theorem iV_app (l m : List Int) : iV (l ++ m) = iV l ++ iV m := by simp [iV]
theorem take_snoc (l : List Int) (k : Nat) (h : k < l.length) : l.take (k + 1) = l.take k ++ [l.getD k 0] := by
  rw [List.take_add_one, List.getD_eq_getElem?_getD, List.getElem?_eq_getElem h]
  rfl
theorem iV_snoc (l : List Int) (k : Nat) (h : k < l.length) : iV (l.take (k + 1)) = iV (l.take k) ++ [.int .i64 (l.getD k 0)] := by
  rw [take_snoc l k h, iV_app]
  rfl
end Go.Proofs.YtalbcimnnihmnaaGreat

/- A slice of the call's own to which a number is appended. Conditions: those that each fact names. -/
namespace Go.Proofs.YtalbcimnnihmnaaGreat
open Go.RowKit
open M
theorem own13_apart {w w' : World} {base base' g cap n m size : Nat} {e e' : TypeId} {xs ys : List Value} {v : Value} (h : w.ownsRow base e size (.slice (some ⟨g, 0, none⟩) n cap) n xs) (hne : e ≠ e') {size' : Nat} (ho : w.ownsRow base' e' size' v m ys) (hg : w.grownBy w' v.ownBlock) :
    w'.ownsRow base e size (.slice (some ⟨g, 0, none⟩) n cap) n xs := by
  rcases h.2 with ⟨h1, _⟩ | ⟨g', cap', cur, h1, hbs, hr, hnc, hcm, hsz, htk⟩
  · simp at h1
  · simp only [Value.slice.injEq, Option.some.injEq, Addr.mk.injEq, and_true, true_and] at h1
    obtain ⟨rfl, rfl⟩ := h1
    refine ⟨h.1, .inr ⟨g, cap, cur, rfl, hbs, Row.grown hr hg (Row.lt hr) ?_, hnc, hcm, hsz, htk⟩⟩
    intro he
    rcases ho.2 with ⟨rfl, _⟩ | ⟨g2, cap2, cur2, rfl, _, hr2, _⟩
    · simp [Value.ownBlock] at he
    · simp only [Value.ownBlock, Option.some.injEq] at he
      subst he
      rw [hr] at hr2
      injection hr2 with hr2
      injection hr2 with _ hr2 _
      exact hne hr2
theorem own13_stay {w w' : World} {base n size : Nat} {e : TypeId} {v : Value} {xs : List Value} (h : w.ownsRow base e size v n xs) (hb : Below w.heap.size w w') : w'.ownsRow base e size v n xs := by
  refine ⟨h.1, ?_⟩
  rcases h.2 with h0 | ⟨g, cap, cur, h1, h2, h3, h4⟩
  · exact Or.inl h0
  · exact Or.inr ⟨g, cap, cur, h1, h2, (hb.block g (Row.lt h3)).trans h3, h4⟩
theorem own13_form {w : World} {base size n : Nat} {e : TypeId} {v : Value} {xs : List Value} (h : w.ownsRow base e size v n xs) (h0 : 0 < n) :
    ∃ g cap, v = .slice (some ⟨g, 0, none⟩) n cap ∧ base ≤ g ∧ g < w.heap.size := by
  rcases h.2 with ⟨_, h1⟩ | ⟨g, cap, cur, h1, h2, h3, h4⟩
  · omega
  · exact ⟨g, cap, h1, h2, Row.lt h3⟩
theorem own13_at {w : World} {base g cap n size : Nat} {e : TypeId} {l : List Int} (h : w.ownsRow base e size (.slice (some ⟨g, 0, none⟩) n cap) n (iV l)) (p : Nat) (hp : p < l.length) : w.cell? ⟨g, p, none⟩ = some (.int .i64 (l.getD p 0)) := by
  have hl : (iV l).length = n * size := h.1
  rw [iV_len] at hl
  rcases h.2 with ⟨h1, _⟩ | ⟨g', cap', cur, h1, hbs, hr, hnc, hcm, hsz, htk⟩
  · simp at h1
  · simp only [Value.slice.injEq, Option.some.injEq, Addr.mk.injEq, and_true, true_and] at h1
    obtain ⟨rfl, rfl⟩ := h1
    rw [cell_of_row _ _ _ _ _ _ hr, ← iV_get l p hp, ← htk, List.getElem?_take, if_pos (by omega), Array.getElem?_toList]
theorem own13_none (w : World) (base size : Nat) (e : TypeId) : w.ownsRow base e size (.slice none 0 0) 0 (iV []) := ⟨by simp [iV], Or.inl ⟨rfl, rfl⟩⟩
theorem one_parts : ∃ i, Tryz.prog.info? 3 = some i ∧ i.zero = some (.int .i64 0) ∧ i.size = 1 ∧ i.bytes = 8 := info_parts int_info
section
variable {P : Program}
/-- One number more. -/
theorem wpList_append_one {ops : Array Oper} {rest : List Oper} {o : Oper} {a : Act} {w : World} {Q : Exit → Act → World → Prop} (hgd : o.guard = none) (s x : Operand) (S E : TypeId) (hS : P.underlying S = some (.slice E))
    (hE : ∃ i, P.info? E = some i ∧ i.zero = some (.int .i64 0) ∧ i.size = 1 ∧ i.bytes = 8)
    (ho : o.op = .call { callee := .builtin .append, args := #[s, x], argTypes := #[S, S] })
    (base : Nat) (v : Value) (n : Nat) (l : List Int) (z : Int) (hs : a.eval s = v) (hown : w.ownsRow base E 1 v n (iV l)) (g : Nat) (hx : a.eval x = .slice (some ⟨g, 0, none⟩) 1 1) (hf : w.cell? ⟨g, 0, none⟩ = some (.int .i64 z))
    (hn : n ≤ 1000000) (hbase : base ≤ w.heap.size)
    (h : ∀ v' w', w'.ownsRow base E 1 v' (n + 1) (iV (l ++ [z])) → Below base w w' → w.grownBy w' v.ownBlock → wpList P ops Q rest (a.put o.dst v') w') : wpList P ops Q (o :: rest) a w := by
  obtain ⟨i0, hi1, hi2, hi3, hi4⟩ := hE
  refine wpList_append_own w hgd s x S ho base E i0 (.int .i64 0) 1 8 hS hi1 hi2 hi3 hi4 rfl (by decide) v n (iV l) hs hown ⟨g, 0, none⟩ 1 1 (iV [z]) hx (by rw [iV_len]; rfl) ?_ (iV_one [z]) (by unfold maxLen; omega) (by omega) hbase ?_
  · intro j u hu
    have hj : j < 1 := by
      have := (List.getElem?_eq_some_iff.1 hu).1
      rwa [iV_len] at this
    obtain rfl : j = 0 := by omega
    rw [show (⟨g, 0, none⟩ : Addr).add 0 = ⟨g, 0, none⟩ by simp [Addr.add], hf, ← hu]
    rfl
  · intro v' w' hown' hgrow _
    exact h v' w' (by rw [iV_app]; exact hown') ((Below.refl _ _).grown hgrow hbase (fun k hk => own_ge hown k hk)) hgrow
end
end Go.Proofs.YtalbcimnnihmnaaGreat

/- What the reference's Sum of layer 15 reckons, bit by bit. Conditions: those that each fact names. -/
namespace Go.Proofs.YtalbcimnnihmnaaGreat
open Go.RowKit
open M
/-- A bit as a number; the p-th bit of bytes, the highest of each first. -/
def bI15 (b : Bool) : Int := if b then 1 else 0
def bt15 (l : List UInt8) (p : Nat) : Bool := (l.getD (p / 8) 0).toNat / 2 ^ (7 - p % 8) % 2 == 1
def bts15 (l : List UInt8) (n : Nat) : List Int := (List.range n).map fun p => bI15 (bt15 l p)
theorem bts_len (l : List UInt8) (n : Nat) : (bts15 l n).length = n := by simp [bts15]
theorem bts_snoc (l : List UInt8) (n : Nat) : bts15 l (n + 1) = bts15 l n ++ [bI15 (bt15 l n)] := by simp [bts15, List.range_succ]
theorem bt_num (l : List UInt8) (k j : Nat) (hj : j < 8) : bI15 (bt15 l (8 * k + j)) = (((l.getD k 0).toNat / (128 / 2 ^ j) % 2 : Nat) : Int) := by
  unfold bt15 bI15
  rw [show (8 * k + j) / 8 = k by omega, show (8 * k + j) % 8 = j by omega]
  have : (2 : Nat) ^ (7 - j) = 128 / 2 ^ j := by
    rcases (by omega : j = 0 ∨ j = 1 ∨ j = 2 ∨ j = 3 ∨ j = 4 ∨ j = 5 ∨ j = 6 ∨ j = 7) with h | h | h | h | h | h | h | h <;> subst h <;> rfl
  rw [this]
  generalize (l.getD k 0).toNat / (128 / 2 ^ j) = x
  by_cases h : x % 2 = 1
  · simp [h]
  · have : x % 2 = 0 := by omega
    simp [this]
theorem tm15 (r : Int) : (0 ≤ r.tmod 65536 → r.tmod 65536 = r % 65536) ∧ (r.tmod 65536 < 0 → r.tmod 65536 + 65536 = r % 65536) := by
  by_cases h : 0 ≤ r
  · rw [Int.tmod_eq_emod_of_nonneg h]
    omega
  · have : r.tmod 65536 = -((-r) % 65536) := by
      rw [← Int.tmod_eq_emod_of_nonneg (show 0 ≤ -r by omega), Int.neg_tmod, Int.neg_neg]
    rw [this]
    omega
def qj15 (j : Nat) : Nat := 128 / 2 ^ j
theorem qj_step (j : Nat) : qj15 (j + 1) = qj15 j / 2 := by
  unfold qj15
  rw [Nat.div_div_eq_div_mul, Nat.pow_succ]
theorem qj_pos (j : Nat) (h : j < 8) : 1 ≤ qj15 j ∧ qj15 j ≤ 128 := by
  unfold qj15
  rcases (by omega : j = 0 ∨ j = 1 ∨ j = 2 ∨ j = 3 ∨ j = 4 ∨ j = 5 ∨ j = 6 ∨ j = 7) with h | h | h | h | h | h | h | h <;> subst h <;> decide
theorem qj_end : qj15 8 = 0 := by decide
theorem bit_run (s : ByteArray) (l : List UInt8) (k j q m : Nat) (hl : bl s = l) (hk : k < s.size) (hj : j < 8) (hq : q = qj15 j) (hm : m = 8 * k + j) :
    ∃ x y z u : Nat, s[k]!.toNat = x ∧ wrap64 (x : Int) = (x : Int) ∧ (x : Int).tdiv (q : Int) = (y : Int) ∧ wrap64 (y : Int) = (y : Int) ∧ (y : Int).tmod 2 = (z : Int) ∧ (q : Int).tdiv 2 = (u : Int) ∧ wrap64 (u : Int) = (u : Int) ∧ bI15 (bt15 l m) = (z : Int) ∧ u = qj15 (j + 1) ∧ u < q := by
  have hqb := qj_pos j hj
  rw [← hq] at hqb
  have hx0 : l.getD k 0 = s[k]! := by
    rw [← hl, getElem!_pos s k hk]
    show s.data.toList.getD k 0 = s[k]
    rw [List.getD_eq_getElem?_getD, List.getElem?_eq_getElem (by simpa using hk)]
    rfl
  have hbt := bt_num l k j hj
  rw [show 128 / 2 ^ j = q from hq.symm, ← hm, hx0] at hbt
  have hxb := s[k]!.toNat_lt
  refine ⟨s[k]!.toNat, s[k]!.toNat / q, s[k]!.toNat / q % 2, q / 2, rfl, ?_, ?_, ?_, ?_, ?_, ?_, hbt, ?_, ?_⟩
  · rw [wrap64]; omega
  · rw [Int.tdiv_eq_ediv_of_nonneg (by omega), Int.natCast_ediv]
  · have := Nat.div_le_self s[k]!.toNat q
    generalize s[k]!.toNat / q = y at *
    rw [wrap64]; omega
  · generalize s[k]!.toNat / q = y at *
    rw [Int.tmod_eq_emod_of_nonneg (by omega)]; omega
  · rw [Int.tdiv_eq_ediv_of_nonneg (by omega)]; omega
  · rw [wrap64]; omega
  · rw [qj_step, hq]
  · omega
theorem ms15 (u q : Nat) (h : u < q) : (intOf (.int .i64 (u : Int))).toNat < (intOf (.int .i64 (q : Int))).toNat := by
  simpa [intOf] using h
end Go.Proofs.YtalbcimnnihmnaaGreat
