/-
  Contracts and plain facts that the laws share; each piece is headed by what it holds and its conditions.
-/
import Derived.Test.YtalbcimnnihmnaaGreatQS5
import Derived.Test.YtalbcimnnihmnaaGreatQS9
import Derived.Deep.WholeRow
import Derived.DeepKeys
import Derived.Deep.QuietTactic
import Derived.BigQuiet
import Derived.Laws.StructEq

/- Ints by value, one behind the other: that == tells whether two lists of them are the same. No conditions but those that each fact names. -/
namespace Go.Proofs.YtalbcimnnihmnaaGreat
open Go.RowKit
open M
theorem int_isS : (Tryz.prog.info? 3).isSome = true := by kernel_rfl
theorem int_infoS : ∃ i, Tryz.prog.info? 3 = some i := by
  cases h : Tryz.prog.info? 3 with
  | some i => exact ⟨i, rfl⟩
  | none =>
    have := int_isS
    rw [h] at this; cases this
theorem plain_intS : Tryz.prog.plainKey 3 = true := by kernel_rfl
theorem cells_intS : Tryz.prog.cellsOf 3 = 1 := by kernel_rfl
theorem ints_itemsS (d : Nat) (a b : List Int) (w : World) (hl : a.length = b.length) : ∀ is : List Nat, (∀ i ∈ is, i < a.length) →
    (Op.eqItems (d + 1) 3 (Tryz.prog.cellsOf 3) (iCells a) (iCells b) is).run Tryz.prog w = .ok (is.all fun i => a.getD i 0 == b.getD i 0) w
  | [], _ => by simp [Op.eqItems]
  | i :: is, h => by
    have ih := ints_itemsS d a b w hl is fun j hj => h j (List.mem_cons_of_mem _ hj)
    have hi := h i (List.mem_cons_self ..)
    have p1 := run_part_plain w plain_intS (iCells_get a i hi)
    have p2 := run_part_plain w plain_intS (iCells_get b i (by omega))
    rw [cells_intS] at ih ⊢
    simp only [Op.eqItems, Sem.run_bind, Nat.mul_one, p1, p2, Result.andThen_ok, run_equalIn_int w d 3 .i64 .i64 _ _ Tryz.underlying3, List.all_cons]
    cases a.getD i 0 == b.getD i 0
    · simp
    · simpa using ih
theorem all_sameS (a b : List Int) (h : a.length = b.length) (n : Nat) (hn : n = a.length) : ((List.range n).all fun i => a.getD i 0 == b.getD i 0) = (a == b) := by
  subst hn
  rw [Bool.eq_iff_iff, List.all_eq_true, beq_iff_eq]
  constructor
  · intro k
    apply List.ext_getElem h
    intro i h1 h2
    have := k i (List.mem_range.2 h1)
    rw [List.getD_eq_getElem?_getD, List.getD_eq_getElem?_getD, List.getElem?_eq_getElem h1, List.getElem?_eq_getElem h2] at this
    simpa using this
  · rintro rfl i _
    simp
end Go.Proofs.YtalbcimnnihmnaaGreat

/- Eight steps by value (api.Side): how they lie, their zero value, that == tells whether two are the same, their index. No conditions but those that each fact names. (Bne has the like under other names.) -/
namespace Go.Proofs.YtalbcimnnihmnaaGreat
open Go.RowKit
open M
/-- Eight zeros. -/
def zs8 : List Int := List.replicate 8 0
theorem zs8_length : zs8.length = 8 := by unfold zs8; rw [List.length_replicate]
theorem sds_info : (Tryz.prog.info? 25).map (fun i => (i.zero, i.size)) = some (some (.agg (iCells zs8)), 8) := by kernel_rfl
theorem sds_zero (w : World) : (zeroValue 25).run Tryz.prog w = .ok (.agg (iCells zs8)) w := (zero_of_info sds_info).1 w
theorem sds_size (l : List Int) (h : l.length = 8) : (Tryz.prog.info? 25).map (·.size) = some (iCells l).size := by
  rw [iCells_size, h]; exact (zero_of_info sds_info).2
theorem i8_info : (Tryz.prog.info? 24).map (fun i => (i.zero, i.size)) = some (some (.agg (iCells zs8)), 8) := by kernel_rfl
theorem i8_zero (w : World) : (zeroValue 24).run Tryz.prog w = .ok (.agg (iCells zs8)) w := (zero_of_info i8_info).1 w
theorem i8_size (l : List Int) (h : l.length = 8) : (Tryz.prog.info? 24).map (·.size) = some (iCells l).size := by
  rw [iCells_size, h]; exact (zero_of_info i8_info).2
theorem sds_same (l m : List Int) (h : l.length = 8) (k : m.length = 8) : (iCells l).size = (iCells m).size := by
  rw [iCells_size, iCells_size, h, k]
theorem sds_eq (a b : List Int) (ha : a.length = 8) (hb : b.length = 8) (w : World) :
    (Op.equalIn 10000 25 (.agg (iCells a)) (.agg (iCells b))).run Tryz.prog w = .ok (a == b) w := by
  obtain ⟨i, hi⟩ := int_infoS
  rw [show (10000 : Nat) = 9998 + 1 + 1 from rfl, run_equalIn_array w (9998 + 1) _ _ Tryz.underlying25 hi, ints_itemsS 9998 a b w (by omega) _ (fun j hj => by have := List.mem_range.1 hj; omega), all_sameS a b (by omega) 8 ha.symm]
end Go.Proofs.YtalbcimnnihmnaaGreat

/- Shapes and packets by value: == tells whether two are the same; how they lie. No conditions but those that each fact names. -/
namespace Go.Proofs.YtalbcimnnihmnaaGreat
open Go.RowKit
open M
theorem part_agg {e e2 : TypeId} {k : Nat} {i : TypeInfo} {xs : Array Value} {off : Nat} (hu : Tryz.prog.underlying e = some (.array k e2)) (hi : Tryz.prog.info? e = some i) (w : World) : (part e xs off).run Tryz.prog w = .ok (.agg (xs.extract off (off + Tryz.prog.cellsOf e))) w := by
  simp [part, isAgg, run_underlying hu, run_sizeOf w hi]
theorem part_rec {e : TypeId} {fs : Array Field} {i : TypeInfo} {xs : Array Value} {off : Nat} (hu : Tryz.prog.underlying e = some (.struct fs)) (hi : Tryz.prog.info? e = some i) (w : World) : (part e xs off).run Tryz.prog w = .ok (.agg (xs.extract off (off + Tryz.prog.cellsOf e))) w := by
  simp [part, isAgg, run_underlying hu, run_sizeOf w hi]
theorem ext_cells (l : List Int) (o n : Nat) : (iCells l).extract o (o + n) = iCells ((l.drop o).take n) := by
  unfold iCells
  apply Array.ext'
  rw [Array.toList_extract, List.extract_eq_take_drop, Nat.add_sub_cancel_left, List.map_take, List.map_drop]
/-- Whether == of such values tells whether their numbers are the same. -/
def EqI (d : Nat) (t : TypeId) (n : Nat) : Prop := ∀ (a b : List Int) (w : World), a.length = n → b.length = n → (Op.equalIn d t (.agg (iCells a)) (.agg (iCells b))).run Tryz.prog w = .ok (a == b) w
theorem some_of {t : TypeId} (h : (Tryz.prog.info? t).isSome = true) : ∃ i, Tryz.prog.info? t = some i := by
  cases hc : Tryz.prog.info? t with
  | some i => exact ⟨i, rfl⟩
  | none => rw [hc] at h; cases h
theorem eqI_ints (d n : Nat) {t : TypeId} (hu : Tryz.prog.underlying t = some (.array n 3)) : EqI (d + 1 + 1) t n := fun a b w ha hb => by
  obtain ⟨i, hi⟩ := int_infoS
  rw [run_equalIn_array w (d + 1) _ _ hu hi, ints_itemsS d a b w (by omega) _ (fun j hj => by have := List.mem_range.1 hj; omega), all_sameS a b (by omega) n ha.symm]
theorem eq_chunks (n : Nat) : ∀ (m : Nat) (a b : List Int), a.length = m * n → b.length = m * n → ((List.range m).all fun i => (a.drop (i * n)).take n == (b.drop (i * n)).take n) = (a == b) := by
  intro m a b ha hb
  rw [Bool.eq_iff_iff, List.all_eq_true, beq_iff_eq]
  constructor
  · intro k
    apply List.ext_getElem (by omega)
    intro j h1 h2
    have hn : 0 < n := by
      rcases Nat.eq_zero_or_pos n with h | h
      · rw [h, Nat.mul_zero] at ha; omega
      · exact h
    have hjm : j / n < m := Nat.div_lt_of_lt_mul (by rw [Nat.mul_comm]; omega)
    have h := beq_iff_eq.1 (k (j / n) (List.mem_range.2 hjm))
    have hd := Nat.div_add_mod j n
    have hr := Nat.mod_lt j hn
    have e := congrArg (fun l => l[j % n]?) h
    simp only [List.getElem?_take, if_pos hr, List.getElem?_drop] at e
    rw [show j / n * n + j % n = j by rw [Nat.mul_comm]; exact hd, List.getElem?_eq_getElem h1, List.getElem?_eq_getElem h2] at e
    exact Option.some.inj e
  · rintro rfl i _
    exact beq_self_eq_true _
theorem chunk_items (d : Nat) {e e2 : TypeId} {k n : Nat} {i : TypeInfo} (hu : Tryz.prog.underlying e = some (.array k e2)) (hi : Tryz.prog.info? e = some i) (hc : Tryz.prog.cellsOf e = n) (ih : EqI d e n) (a b : List Int) (w : World) (hl : a.length = b.length) : ∀ is : List Nat, (∀ i ∈ is, i * n + n ≤ a.length) →
    (Op.eqItems d e (Tryz.prog.cellsOf e) (iCells a) (iCells b) is).run Tryz.prog w = .ok (is.all fun i => (a.drop (i * n)).take n == (b.drop (i * n)).take n) w
  | [], _ => by simp [Op.eqItems]
  | j :: is, h => by
    have ih2 := chunk_items d hu hi hc ih a b w hl is fun p hp => h p (List.mem_cons_of_mem _ hp)
    have hj := h j (List.mem_cons_self ..)
    have p1 := part_agg (xs := iCells a) (off := j * n) hu hi w
    have p2 := part_agg (xs := iCells b) (off := j * n) hu hi w
    rw [hc, ext_cells] at p1 p2
    have p3 := ih ((a.drop (j * n)).take n) ((b.drop (j * n)).take n) w (by rw [List.length_take, List.length_drop]; omega) (by rw [List.length_take, List.length_drop]; omega)
    rw [hc] at ih2 ⊢
    simp only [Op.eqItems, Sem.run_bind, p1, p2, p3, Result.andThen_ok, List.all_cons]
    cases (a.drop (j * n)).take n == (b.drop (j * n)).take n
    · simp
    · simpa using ih2
theorem eqI_array (d m n : Nat) {t e e2 : TypeId} {k : Nat} {i : TypeInfo} (ht : Tryz.prog.underlying t = some (.array m e)) (hu : Tryz.prog.underlying e = some (.array k e2)) (hi : Tryz.prog.info? e = some i) (hc : Tryz.prog.cellsOf e = n) (ih : EqI d e n) : EqI (d + 1) t (m * n) := fun a b w ha hb => by
  rw [run_equalIn_array w d _ _ ht hi, chunk_items d hu hi hc ih a b w (by omega) _ (fun j hj => by
    have h1 := List.mem_range.1 hj
    have h2 := Nat.mul_le_mul_right n (show j + 1 ≤ m by omega)
    rw [Nat.add_mul, Nat.one_mul] at h2
    omega), eq_chunks n m a b ha hb]
theorem eq_split (o : Nat) (a b : List Int) (h : a.length = b.length) : (a.take o == b.take o && (a.drop o == b.drop o)) = (a == b) := by
  rw [Bool.eq_iff_iff, Bool.and_eq_true, beq_iff_eq, beq_iff_eq, beq_iff_eq]
  constructor
  · rintro ⟨h1, h2⟩
    rw [← List.take_append_drop o a, h1, h2, List.take_append_drop]
  · rintro rfl
    exact ⟨rfl, rfl⟩
theorem sh_fields : (Tryz.prog.fieldsOf 30).toList.map (fun f => (f.name != "_", f.type, f.offset)) = [(true, 25, 0), (true, 28, 8)] := by kernel_rfl
theorem sh_under : Tryz.prog.underlying 30 = some (.struct (Tryz.prog.fieldsOf 30)) := by kernel_rfl
theorem sh_stood : Tryz.prog.stoodInHeld 30 = false := by kernel_rfl
theorem sh_ar8 : Tryz.prog.cellsOf 25 = 8 ∧ Tryz.prog.cellsOf 28 = 32 ∧ Tryz.prog.cellsOf 27 = 4 := by
  refine ⟨by kernel_rfl, by kernel_rfl, by kernel_rfl⟩
theorem eqI_side (d : Nat) : EqI (d + 2) 25 8 := eqI_ints d 8 Tryz.underlying25
theorem eqI_puls (d : Nat) : EqI (d + 2) 27 4 := eqI_ints d 4 Tryz.underlying27
theorem eqI_ys (d : Nat) : EqI (d + 3) 28 32 := by
  obtain ⟨i, hi⟩ := some_of (t := 27) (by kernel_rfl)
  exact eqI_array (d + 2) 8 4 Tryz.underlying28 Tryz.underlying27 hi sh_ar8.2.2 (eqI_puls d)
theorem two_fields {fs : List Field} {a b : Bool × TypeId × Nat} (h : fs.map (fun f => (f.name != "_", f.type, f.offset)) = [a, b]) : ∃ f g : Field, fs = [f, g] ∧ (f.name != "_", f.type, f.offset) = a ∧ (g.name != "_", g.type, g.offset) = b := by
  match fs, h with
  | [f, g], h =>
    injection h with h1 h2
    injection h2 with h2 _
    exact ⟨f, g, rfl, h1, h2⟩
  | [], h => cases h
  | [_], h => cases h
  | _ :: _ :: _ :: _, h => cases h
set_option maxRecDepth 100000 in
theorem eqI_shape (d : Nat) : EqI (d + 4) 30 40 := fun a b w ha hb => by
  obtain ⟨i1, hi1⟩ := some_of (t := 25) (by kernel_rfl)
  obtain ⟨i2, hi2⟩ := some_of (t := 28) (by kernel_rfl)
  obtain ⟨f, g, hfs, hf, hg⟩ := two_fields sh_fields
  obtain ⟨f1, f2, f3⟩ : (f.name != "_") = true ∧ f.type = 25 ∧ f.offset = 0 := by
    injection hf with h1 h2; injection h2 with h2 h3; exact ⟨h1, h2, h3⟩
  obtain ⟨g1, g2, g3⟩ : (g.name != "_") = true ∧ g.type = 28 ∧ g.offset = 8 := by
    injection hg with h1 h2; injection h2 with h2 h3; exact ⟨h1, h2, h3⟩
  have n1 : f.name ≠ "_" := by simpa using f1
  have n2 : g.name ≠ "_" := by simpa using g1
  have p1 := part_agg (xs := iCells a) (off := 0) Tryz.underlying25 hi1 w
  have p2 := part_agg (xs := iCells b) (off := 0) Tryz.underlying25 hi1 w
  have p3 := part_agg (xs := iCells a) (off := 8) Tryz.underlying28 hi2 w
  have p4 := part_agg (xs := iCells b) (off := 8) Tryz.underlying28 hi2 w
  rw [sh_ar8.1, ext_cells, List.drop_zero] at p1 p2
  rw [sh_ar8.2.1, ext_cells, List.take_of_length_le (by rw [List.length_drop]; omega)] at p3 p4
  have q1 := eqI_side (d + 1) (a.take 8) (b.take 8) w (by rw [List.length_take]; omega) (by rw [List.length_take]; omega)
  have q2 := eqI_ys d (a.drop 8) (b.drop 8) w (by rw [List.length_drop]; omega) (by rw [List.length_drop]; omega)
  rw [run_equalIn_struct w (d + 3) _ _ _ sh_under sh_stood, hfs]
  simp only [Op.eqFields, n1, n2, ne_eq, not_false_eq_true, if_true, f2, f3, g2, g3, Sem.run_bind, p1, p2, Result.andThen_ok, q1]
  rw [← eq_split 8 a b (by omega)]
  cases a.take 8 == b.take 8
  · simp
  · cases hq : a.drop 8 == b.drop 8 <;> rw [hq] at q2 <;> simp [p3, p4, q2]
set_option maxRecDepth 100000 in
theorem shape_eq (a b : List Int) (ha : a.length = 40) (hb : b.length = 40) (w : World) :
    (Op.equalIn 10000 30 (.agg (iCells a)) (.agg (iCells b))).run Tryz.prog w = .ok (a == b) w := eqI_shape 9996 a b w ha hb
end Go.Proofs.YtalbcimnnihmnaaGreat

/- A row stays, when another one is laid and filled; == of eight ints. No conditions but those that each fact names. -/
namespace Go.Proofs.YtalbcimnnihmnaaGreat
open Go.RowKit
open M
/-- A row stays, when another one is laid and filled. -/
theorem row_laid {W : World} {g : Nat} {t : TypeId} {cs : Array Value} (h : Row W g t cs) (o : Obj) (ds : Array Value) : Row ((W.alloc o).setRow W.heap.size ds) g t cs :=
  (setRow_other _ _ _ _ (Nat.ne_of_lt (Row.lt h))).trans (Row.alloc h _)
theorem below_laid {w W : World} (h : Below w.heap.size w W) (o : Obj) (ds : Array Value) : Below w.heap.size w ((W.alloc o).setRow W.heap.size ds) :=
  below_setRow (h.alloc h.size o) h.size ds
theorem eight_eq (a b : List Int) (ha : a.length = 8) (hb : b.length = 8) (w : World) :
    (Op.equalIn 10000 24 (.agg (iCells a)) (.agg (iCells b))).run Tryz.prog w = .ok (a == b) w := by
  obtain ⟨i, hi⟩ := int_infoS
  rw [show (10000 : Nat) = 9998 + 1 + 1 from rfl, run_equalIn_array w (9998 + 1) _ _ Tryz.underlying24 hi, ints_itemsS 9998 a b w (by omega) _ (fun j hj => by have := List.mem_range.1 hj; omega), all_sameS a b (by omega) 8 ha.symm]
end Go.Proofs.YtalbcimnnihmnaaGreat
