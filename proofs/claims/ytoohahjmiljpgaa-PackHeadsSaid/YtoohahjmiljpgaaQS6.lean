/-
  Contracts and plain facts that the laws share; each piece is headed by what it holds and its conditions.
-/
import Derived.Test.YtoohahjmiljpgaaQS5
import Derived.Deep.WholeRow
import Derived.DeepKeys
import Derived.Laws.Tables

/- Ints by value, one behind the other: that == tells whether two lists of them are the same. No conditions but those that each fact names. -/
namespace Go.Proofs.Ytoohahjmiljpgaa
open Go.RowKit
open M
theorem int_isS : (Try.prog.info? 3).isSome = true := by kernel_rfl
theorem int_infoS : ∃ i, Try.prog.info? 3 = some i := by
  cases h : Try.prog.info? 3 with
  | some i => exact ⟨i, rfl⟩
  | none =>
    have := int_isS
    rw [h] at this; cases this
theorem plain_intS : Try.prog.plainKey 3 = true := by kernel_rfl
theorem cells_intS : Try.prog.cellsOf 3 = 1 := by kernel_rfl
theorem ints_itemsS (d : Nat) (a b : List Int) (w : World) (hl : a.length = b.length) : ∀ is : List Nat, (∀ i ∈ is, i < a.length) →
    (Op.eqItems (d + 1) 3 (Try.prog.cellsOf 3) (iCells a) (iCells b) is).run Try.prog w = .ok (is.all fun i => a.getD i 0 == b.getD i 0) w
  | [], _ => by simp [Op.eqItems]
  | i :: is, h => by
    have ih := ints_itemsS d a b w hl is fun j hj => h j (List.mem_cons_of_mem _ hj)
    have hi := h i (List.mem_cons_self ..)
    have p1 := run_part_plain w plain_intS (iCells_get a i hi)
    have p2 := run_part_plain w plain_intS (iCells_get b i (by omega))
    rw [cells_intS] at ih ⊢
    simp only [Op.eqItems, Sem.run_bind, Nat.mul_one, p1, p2, Result.andThen_ok, run_equalIn_int w d 3 .i64 .i64 _ _ Try.underlying3, List.all_cons]
    cases a.getD i 0 == b.getD i 0
    · simp
    · simpa using ih
theorem all_sameS (a b : List Int) (h : a.length = b.length) (n : Nat) (hn : n = a.length) : ((List.range n).all fun i => a.getD i 0 == b.getD i 0) = (a == b) := by
  subst hn
  rw [Bool.eq_iff_iff, List.all_eq_true, beq_iff_eq]
  constructor
  · intro k
    apply List.ext_getElem h
    intro i h1 h2
    have := k i (List.mem_range.2 h1)
    rw [List.getD_eq_getElem?_getD, List.getD_eq_getElem?_getD, List.getElem?_eq_getElem h1, List.getElem?_eq_getElem h2] at this
    simpa using this
  · rintro rfl i _
    simp
end Go.Proofs.Ytoohahjmiljpgaa

/- Four numbers by value: how they lie, their zero value. No conditions but those that each fact names. -/
namespace Go.Proofs.Ytoohahjmiljpgaa
open Go.RowKit
open M
/-- Four zeros. -/
def z4 : List Int := [0, 0, 0, 0]
theorem four_info : (Try.prog.info? 28).map (fun i => (i.zero, i.size)) = some (some (.agg (iCells z4)), 4) := by kernel_rfl
theorem four_zero (w : World) : (zeroValue 28).run Try.prog w = .ok (.agg (iCells z4)) w := (zero_of_info four_info).1 w
theorem four_size (l : List Int) (h : l.length = 4) : (Try.prog.info? 28).map (·.size) = some (iCells l).size := by
  rw [iCells_size, h]; exact (zero_of_info four_info).2
theorem four_same (l m : List Int) (h : l.length = 4) (k : m.length = 4) : (iCells l).size = (iCells m).size := by
  rw [iCells_size, iCells_size, h, k]
theorem index_four (l : List Int) (hl : l.length = 4) (k : Nat) (hk : k < 4) (w : World) :
    (Instr.index 28 (.agg (iCells l)) (.int .i64 k)).run Try.prog w = .ok (.int .i64 (l.getD k 0)) w := by
  obtain ⟨i, hi, _, _, _⟩ := info_parts int_info
  have c := iCells_get l k (by omega)
  simp [Instr.index, run_underlying Try.underlying28, asIntOf, hk, run_sizeOf w hi, cells_intS, c, go_sem]
theorem row_parts {cs : Array Value} (a b c d : Int) (h : cs = iCells [a, b, c, d]) : cs = #[.int .i64 a, .int .i64 b, .int .i64 c, .int .i64 d] := h
/-- A list of four. -/
theorem four_list (l : List Int) (h : l.length = 4) : ∃ a b c d, l = [a, b, c, d] := by
  match l, h with
  | [a, b, c, d], _ => exact ⟨a, b, c, d, rfl⟩
end Go.Proofs.Ytoohahjmiljpgaa

/- Eight numbers below 2^32 by value: their zero value, how they lie. No conditions but those that each fact names. -/
namespace Go.Proofs.Ytoohahjmiljpgaa
open Go.RowKit
open M
theorem v8_info : (Try.prog.info? 25).map (fun i => (i.zero, i.size)) = some (some (.agg (vCells [0, 0, 0, 0, 0, 0, 0, 0])), 8) := by kernel_rfl
theorem v8_zero (w : World) : (zeroValue 25).run Try.prog w = .ok (.agg (vCells [0, 0, 0, 0, 0, 0, 0, 0])) w := (zero_of_info v8_info).1 w
theorem v8_size (l : List Int) (h : l.length = 8) : (Try.prog.info? 25).map (·.size) = some (vCells l).size := by
  rw [vCells_size, h]; exact (zero_of_info v8_info).2
theorem sh_u32 (z : Int) (h0 : 0 ≤ z) (h : z ≤ 4294967295) : IntKind.i64.wrap z = z := by rw [IntKind.wrap_i64]; omega
theorem vrow_at {w : World} {g : Nat} {t : TypeId} {l : List Int} (h : Row w g t (vCells l)) (i : Nat) (hi : i < l.length) : w.cell? ⟨g, i, none⟩ = some (.int .u32 (l.getD i 0)) :=
  by
    have h2 := cell_of_row w g i _ _ (0, 0) h
    rw [h2, vCells_get l i hi]
end Go.Proofs.Ytoohahjmiljpgaa

/- A packet is built of its number and its shape. No conditions but those that each fact names. -/
namespace Go.Proofs.Ytoohahjmiljpgaa
open Go.RowKit
open M
/-- Forty numbers, one by one: a packet is built of its number and its shape. -/
theorem pk_built (n : Int) : ∀ l : List Int, l.length = 40 → Try.prog.built 35 [(0, .int .i64 n), (1, .agg (iCells l))] = some (iCells (n :: l))
  | a0 :: a1 :: a2 :: a3 :: a4 :: a5 :: a6 :: a7 :: a8 :: a9 :: a10 :: a11 :: a12 :: a13 :: a14 :: a15 :: a16 :: a17 :: a18 :: a19 :: a20 :: a21 :: a22 :: a23 :: a24 :: a25 :: a26 :: a27 :: a28 :: a29 :: a30 :: a31 :: a32 :: a33 :: a34 :: a35 :: a36 :: a37 :: a38 :: a39 :: [], _ => by kernel_rfl
theorem pk_build (n : Int) (l : List Int) (hl : l.length = 40) (w : World) : (Instr.build 35 #[(0, .int .i64 n), (1, .agg (iCells l))]).run Try.prog w = .ok (.agg (iCells (n :: l))) w :=
  run_build w _ _ _ (pk_built n l hl)
section
variable {P : Program}
/-- What is built of two parts. -/
theorem wpList_build_two {ops : Array Oper} {rest : List Oper} {o : Oper} {a : Act} {w : World} {Q : Exit → Act → World → Prop} (hgd : o.guard = none) (t : TypeId) (x y : Operand) (ho : o.op = .build t #[(0, x), (1, y)])
    (u v : Value) (hx : a.eval x = u) (hy : a.eval y = v) (cells : Array Value) (hb : P.built t [(0, u), (1, v)] = some cells) (h : wpList P ops Q rest (a.put o.dst (.agg cells)) w) : wpList P ops Q (o :: rest) a w := by
  have e : ((#[(0, x), (1, y)] : Array (Nat × Operand)).map fun (i, x) => (i, a.eval x)).toList = [(0, u), (1, v)] := by
    simp only [List.map_toArray, List.map_cons, List.map_nil, hx, hy]
  exact wpList_plain hgd fun _ hK => wp_build t _ ho (by rw [e, hb]; rfl) (by rw [e, hb]; exact hK _ _ h)
theorem g_build_two {ops : Array Oper} {rest : List Oper} {o : Oper} {a : Act} {w : World} {Q : Exit → Act → World → Prop} (hw : Region.wanted o (yielded ops a.tmps) = true) (t : TypeId) (x y : Operand) (ho : o.op = .build t #[(0, x), (1, y)])
    (u v : Value) (hx : a.eval x = u) (hy : a.eval y = v) (cells : Array Value) (hb : P.built t [(0, u), (1, v)] = some cells) (h : wpList P ops Q rest (a.put o.dst (.agg cells)) w) : wpList P ops Q (o :: rest) a w := by
  have e : ((#[(0, x), (1, y)] : Array (Nat × Operand)).map fun (i, x) => (i, a.eval x)).toList = [(0, u), (1, v)] := by
    simp only [List.map_toArray, List.map_cons, List.map_nil, hx, hy]
  unfold wpList
  rw [if_pos hw]
  exact Or.inl (wp_build t _ ho (by rw [e, hb]; rfl) (by rw [e, hb]; exact h))
end
end Go.Proofs.Ytoohahjmiljpgaa
