/-
  Blocks of 32 in a list of numbers, and in a row of memory: a block read, a block put. Conditions: the block lies in the list.
-/
import Derived.Test.YtpfdjddjoclldaaRM2
import Derived.Test.YtpfdjddjoclldaaRDj
import Derived.Deep.MidRow
import Derived.Laws.CopyRow
import Derived.Deep.QuietTactic
namespace Go.Proofs.Ytpfdjddjoclldaa.M

/-- A block put into a list. -/
def putb (x : List Int) (b : Nat) (f : List Int) : List Int := (List.range x.length).map fun p => if p / 32 = b then f.getD (p % 32) 0 else x.getD p 0
theorem putb_len (x : List Int) (b : Nat) (f : List Int) : (putb x b f).length = x.length := tb_len _ _
theorem putb_getD (x : List Int) (b : Nat) (f : List Int) (p : Nat) (h : p < x.length) : (putb x b f).getD p 0 = if p / 32 = b then f.getD (p % 32) 0 else x.getD p 0 := tb_getD _ _ _ _ h
theorem blk_putb_same (x : List Int) (b : Nat) (f : List Int) (h : 32 * b + 32 ≤ x.length) (hf : f.length = 32) : blk (putb x b f) b = f := by
  refine Eq.symm (tb_ext 0 f 32 _ hf fun i hi => ?_)
  rw [putb_getD _ _ _ _ (by omega), if_pos (by omega), show (32 * b + i) % 32 = i by omega]
theorem blk_putb_far (x : List Int) (b c : Nat) (f : List Int) (h : 32 * c + 32 ≤ x.length) (hc : c ≠ b) : blk (putb x b f) c = blk x c := by
  refine tb_congr 32 _ _ fun i hi => ?_
  rw [putb_getD _ _ _ _ (by omega), if_neg (by omega)]
theorem blk_ext (x y : List Int) (n : Nat) (hx : x.length = 32 * n) (hy : y.length = 32 * n) (h : ∀ b, b < n → blk x b = blk y b) : x = y := by
  rw [← jnb_blk x n hx, ← jnb_blk y n hy]
  congr 1
  exact tb_congr n _ _ h
theorem putb_cut (x : List Int) (b : Nat) (f : List Int) (h : 32 * b + 32 ≤ x.length) (hf : f.length = 32) : x.take (32 * b) ++ f ++ x.drop (32 * b + 32) = putb x b f := by
  refine tb_ext 0 _ x.length _ (by simp; omega) fun i hi => ?_
  rw [List.getD_eq_getElem?_getD, List.getElem?_append, List.getElem?_append]
  have ht : (x.take (32 * b)).length = 32 * b := by simp; omega
  simp only [List.length_append, ht, hf]
  by_cases h1 : i < 32 * b
  · rw [if_pos (by omega), if_pos h1, if_neg (by omega), List.getElem?_take, if_pos h1, ← List.getD_eq_getElem?_getD]
  · by_cases h2 : i < 32 * b + 32
    · rw [if_pos h2, if_neg h1, if_pos (by omega), ← List.getD_eq_getElem?_getD]
      congr 1
      omega
    · rw [if_neg h2, if_neg (by omega), List.getElem?_drop, ← List.getD_eq_getElem?_getD]
      congr 1
      omega
theorem blk_cut (x : List Int) (b : Nat) (h : 32 * b + 32 ≤ x.length) : (x.drop (32 * b)).take 32 = blk x b := by
  refine tb_ext 0 _ 32 _ (by simp; omega) fun i hi => ?_
  rw [List.getD_eq_getElem?_getD, List.getElem?_take, if_pos hi, List.getElem?_drop, ← List.getD_eq_getElem?_getD]
/-- One block in a list as long as a block. -/
theorem blk_one (f : List Int) (h : f.length = 32) : blk f 0 = f := by
  refine Eq.symm (tb_ext 0 f 32 _ h fun i hi => ?_)
  rw [Nat.mul_zero, Nat.zero_add]
/-- A seam more, put block by block. -/
theorem sea_put (H : Int × Int → Int → Int × Int) (n : Nat) (x : List Int) (s : Nat) (hs : 1 ≤ s) (hn : s < n) :
    putb (putb (sms H (fun t _ => decide (t < s)) n x) (s - 1) (seaA H (blk (sms H (fun t _ => decide (t < s)) n x) (s - 1)) (blk (sms H (fun t _ => decide (t < s)) n x) s))) s
      (seaB H (blk (sms H (fun t _ => decide (t < s)) n x) (s - 1)) (blk (sms H (fun t _ => decide (t < s)) n x) s)) = sms H (fun t _ => decide (t < s + 1)) n x := by
  have hl : (sms H (fun t _ => decide (t < s)) n x).length = 32 * n := sms_len ..
  have key := fun b hb => sea_step H (fun t _ => decide (t < s)) (fun t _ => decide (t < s + 1)) n x s hs hn (fun _ => by simp) (fun t _ => by
    rw [Bool.eq_iff_iff]; simp only [Bool.or_eq_true, decide_eq_true_eq]; omega) b hb
  generalize sms H (fun t _ => decide (t < s)) n x = y at *
  refine blk_ext _ _ n (by rw [putb_len, putb_len, hl]) (sms_len ..) fun b hb => ?_
  rw [key b hb]
  by_cases h1 : b + 1 = s
  · rw [if_pos h1, blk_putb_far _ _ _ _ (by rw [putb_len, hl]; omega) (by omega)]
    obtain rfl : b = s - 1 := by omega
    exact blk_putb_same _ _ _ (by rw [hl]; omega) (seaA_len ..)
  · rw [if_neg h1]
    by_cases h2 : b = s
    · subst h2
      rw [if_pos rfl]
      exact blk_putb_same _ _ _ (by rw [putb_len, hl]; omega) (seaB_len ..)
    · rw [if_neg h2, blk_putb_far _ _ _ _ (by rw [putb_len, hl]; omega) h2, blk_putb_far _ _ _ _ (by rw [hl]; omega) (by omega)]
end Go.Proofs.Ytpfdjddjoclldaa.M
namespace Go.Proofs.Ytpfdjddjoclldaa
open Go.RowKit
open M

theorem part_range {w : World} {g : Nat} {t : TypeId} {x : List Int} (hr : Row w g t (iCells x)) (b : Nat) (hb : 32 * b + 32 ≤ x.length) : w.rangeAt g (32 * b) (iCells (blk x b)).toList := fun j v hv => by
  have hj : j < 32 := by
    have := (List.getElem?_eq_some_iff.1 hv).1
    simpa [iCells, blk_len] using this
  rw [i_at hr (32 * b + j) (by omega), ← hv, Array.getElem?_toList, iCells_get _ _ (by rw [blk_len]; exact hj), blk_getD _ _ _ hj]
theorem part_size (f : List Int) (h : f.length = 32) : (iCells f).toList.length = 32 := by simp [iCells, h]
section
variable {P : Program}
theorem run_store_part (w : World) (g b : Nat) (ty t : TypeId) (f x : List Int) (hr : Row w g t (iCells x)) (hb : 32 * b + 32 ≤ x.length) (hf : f.length = 32) (hi : (P.info? ty).map (·.size) = some 32) :
    (storeVar ty ⟨g, 32 * b, none⟩ (.agg (iCells f))).run P w = .ok () (w.setRow g (iCells (putb x b f))) := by
  have hfl := part_size f hf
  have h1 : ∀ v ∈ (iCells f).toList, v.oneCell' = true := fun v hv => (Array.all_eq_true_iff_forall_mem.1 (iCells_one f)) v (by simpa using hv)
  have := run_storeCells_at P g (32 * b) t (iCells f).toList 0 (iCells x) w hr (by rw [hfl, iCells_size]; omega) h1
  rw [Nat.add_zero, hfl] at this
  have e : ((iCells x).toList.take (32 * b) ++ (iCells f).toList ++ (iCells x).toList.drop (32 * b + 32)).toArray = iCells (putb x b f) := by
    rw [← putb_cut x b f hb hf]
    simp [iCells]
  rw [e] at this
  cases hq : P.info? ty with
  | none => simp [hq] at hi
  | some i =>
    have hs : (iCells f).size = i.size := by simp [hq] at hi; rw [iCells_size, hf, hi]
    simp [storeVar, sizeOf, typeInfo, hq, Value.cells, hs, this]
/-- A block is read out of the middle of a row. -/
theorem wp_load_part {op : Oper} {a : Act} {w : World} {K : Act → World → Prop} {Q : Exit → Act → World → Prop} (ty : TypeId) (y : Operand) (ho : op.op = .load ty y) (g b o : Nat) (hoo : o = 32 * b) (hx : a.eval y = .pointer (some ⟨g, o, none⟩))
    (t : TypeId) (x : List Int) (d : TypeDesc) (hr : Row w g t (iCells x)) (hb : 32 * b + 32 ≤ x.length) (hu : P.underlying ty = some d) (hd : d.isRow = true) (hi : (P.info? ty).map (·.size) = some 32)
    (h : K (a.put op.dst (.agg (iCells (blk x b)))) w) : op.wp P a w K Q := by
  subst hoo
  exact wp_load_mid ty y ho g _ hx _ d (part_range hr b hb) hu hd (by rw [part_size _ (blk_len _ _)]; exact hi) h
theorem wpList_load_part {ops : Array Oper} {rest : List Oper} {op : Oper} {a : Act} {w : World} {Q : Exit → Act → World → Prop} (hgd : op.guard = none) (ty : TypeId) (y : Operand) (ho : op.op = .load ty y) (g b o : Nat) (hoo : o = 32 * b) (hx : a.eval y = .pointer (some ⟨g, o, none⟩))
    (t : TypeId) (x : List Int) (d : TypeDesc) (hr : Row w g t (iCells x)) (hb : 32 * b + 32 ≤ x.length) (hu : P.underlying ty = some d) (hd : d.isRow = true) (hi : (P.info? ty).map (·.size) = some 32)
    (h : wpList P ops Q rest (a.put op.dst (.agg (iCells (blk x b)))) w) : wpList P ops Q (op :: rest) a w :=
  wpList_plain hgd fun _ hK => wp_load_part ty y ho g b o hoo hx t x d hr hb hu hd hi (hK _ _ h)
theorem yieldsIf_load_part {ops : Array Oper} {S : World → Prop} {op : Oper} {a : Act} (hw : Region.wanted op (yielded ops a.tmps) = true) (ty : TypeId) (y : Operand) (ho : op.op = .load ty y) (g b o : Nat) (hoo : o = 32 * b) (hx : a.eval y = .pointer (some ⟨g, o, none⟩))
    (t : TypeId) (x : List Int) (d : TypeDesc) (hS : ∀ w, S w → Row w g t (iCells x)) (hb : 32 * b + 32 ≤ x.length) (hu : P.underlying ty = some d) (hd : d.isRow = true) (hi : (P.info? ty).map (·.size) = some 32) :
    YieldsIf P ops S op (.agg (iCells (blk x b))) a := by
  subst hoo
  have := yieldsIf_load_mid hw ty y ho g _ hx (iCells (blk x b)).toList d (fun w h => part_range (hS w h) b hb) hu hd (by rw [part_size _ (blk_len _ _)]; exact hi)
  rw [Array.toArray_toList] at this
  exact this
/-- A block is put into the middle of a row. -/
theorem wp_store_part {op : Oper} {a : Act} {w : World} {K : Act → World → Prop} {Q : Exit → Act → World → Prop} (ty : TypeId) (y z : Operand) (ho : op.op = .store ty y z) (g b o : Nat) (hoo : o = 32 * b) (f : List Int)
    (hx : a.eval y = .pointer (some ⟨g, o, none⟩)) (hz : a.eval z = .agg (iCells f)) (t : TypeId) (x : List Int) (hr : Row w g t (iCells x)) (hb : 32 * b + 32 ≤ x.length) (hf : f.length = 32) (hi : (P.info? ty).map (·.size) = some 32)
    (h : K (a.put op.dst undef) (w.setRow g (iCells (putb x b f)))) : op.wp P a w K Q := by
  subst hoo
  unfold Oper.wp execOp
  simp only [ho, hx, hz, Instr.storeAt, Instr.sureAddr, Sem.run_bind, Sem.run_pure, Result.andThen_ok, run_store_part w g b ty t f x hr hb hf hi]
  exact h
theorem wpList_store_part {ops : Array Oper} {rest : List Oper} {op : Oper} {a : Act} {w : World} {Q : Exit → Act → World → Prop} (hgd : op.guard = none) (ty : TypeId) (y z : Operand) (ho : op.op = .store ty y z) (g b o : Nat) (hoo : o = 32 * b) (f : List Int)
    (hx : a.eval y = .pointer (some ⟨g, o, none⟩)) (hz : a.eval z = .agg (iCells f)) (t : TypeId) (x : List Int) (hr : Row w g t (iCells x)) (hb : 32 * b + 32 ≤ x.length) (hf : f.length = 32) (hi : (P.info? ty).map (·.size) = some 32)
    (h : wpList P ops Q rest (a.put op.dst undef) (w.setRow g (iCells (putb x b f)))) : wpList P ops Q (op :: rest) a w :=
  wpList_plain hgd fun _ hK => wp_store_part ty y z ho g b o hoo f hx hz t x hr hb hf hi (hK _ _ h)
end
theorem frame_32 : (Try.prog.info? 52).map (·.size) = some 32 := (zero_of_info frame_info).2
theorem nums_32 : (Try.prog.info? 51).map (·.size) = some 32 := (zero_of_info nums_info).2
end Go.Proofs.Ytpfdjddjoclldaa
