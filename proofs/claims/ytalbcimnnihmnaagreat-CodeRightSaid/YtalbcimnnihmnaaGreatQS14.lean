/-
  Contracts and plain facts that the laws share; each piece is headed by what it holds and its conditions.
-/
import Derived.Test.YtalbcimnnihmnaaGreatQS7
import Derived.Test.YtalbcimnnihmnaaGreatQS9
import Derived.Test.YtalbcimnnihmnaaGreatQS5
import Derived.Test.YtalbcimnnihmnaaGreatQS10
import Derived.Laws.Tables

/- Layer 19: what pack's Right is to answer, as a condition. No conditions. -/
namespace Go.Proofs.YtalbcimnnihmnaaGreat
open Go.RowKit
open M
def RigOk : Prop := ∀ (l : List Int) (z : Int) (w : World), l.length = 40 → Calls Tryz.prog 6 #[.agg (iCells l), .int .i64 z] w fun e w' => e = .returned (.bool (rg19 l z)) ∧ Below w.heap.size w w'
end Go.Proofs.YtalbcimnnihmnaaGreat

/- Layer 19: what pack's Lay, Read and Right are to answer, as conditions. No conditions but those that each fact names. -/
namespace Go.Proofs.YtalbcimnnihmnaaGreat
open Go.RowKit
open M
/-- What Lay answers: an error's number, a text. -/
def laE (fr : Int) (l : List Int) (z : Int) : Int := if 12 ≤ z ∧ z ≤ 24 then if 0 ≤ fr ∧ fr ≤ 65535 then if rg19 l z = true then 0 else 3 else 7 else 1
def laT (fr : Int) (l : List Int) (z : Int) : ByteArray := if laE fr l z = 0 then ly19 fr.toNat l z.toNat else ByteArray.empty
def LayOk : Prop := ∀ (fr : Int) (l : List Int) (z : Int) (w : World), l.length = 40 → Calls Tryz.prog 7 #[.agg (iCells (fr :: l)), .int .i64 z] w fun e w' => e = .returned (.tuple #[.string (laT fr l z), .int .i64 (laE fr l z)]) ∧ Below w.heap.size w w'
def RedOk : Prop := ∀ (s : ByteArray) (w : World), s.size ≤ 200 → Calls Tryz.prog 8 #[.string s] w fun e w' => e = .returned (.tuple #[.agg (iCells (p19 s)), .int .i64 (e19 s)]) ∧ Below w.heap.size w w'
theorem laE_in (fr z : Nat) (l : List Int) (hz : 12 ≤ z ∧ z ≤ 24) (hf : fr ≤ 65535) (h : rg19 l (z : Int) = true) : laE fr l z = 0 ∧ laT fr l z = ly19 fr l z := by
  have e : laE fr l z = 0 := by
    unfold laE
    rw [if_pos (by omega), if_pos (by omega), if_pos h]
  refine ⟨e, ?_⟩
  unfold laT
  rw [if_pos e, Int.toNat_natCast, Int.toNat_natCast]
end Go.Proofs.YtalbcimnnihmnaaGreat

/- A packet is built of its number and its shape. No conditions but those that each fact names. -/
namespace Go.Proofs.YtalbcimnnihmnaaGreat
open Go.RowKit
open M
/-- Forty numbers, one by one: a packet is built of its number and its shape. -/
theorem pk_built (n : Int) : ∀ l : List Int, l.length = 40 → Tryz.prog.built 38 [(0, .int .i64 n), (1, .agg (iCells l))] = some (iCells (n :: l))
  | a0 :: a1 :: a2 :: a3 :: a4 :: a5 :: a6 :: a7 :: a8 :: a9 :: a10 :: a11 :: a12 :: a13 :: a14 :: a15 :: a16 :: a17 :: a18 :: a19 :: a20 :: a21 :: a22 :: a23 :: a24 :: a25 :: a26 :: a27 :: a28 :: a29 :: a30 :: a31 :: a32 :: a33 :: a34 :: a35 :: a36 :: a37 :: a38 :: a39 :: [], _ => by kernel_rfl
theorem pk_build (n : Int) (l : List Int) (hl : l.length = 40) (w : World) : (Instr.build 38 #[(0, .int .i64 n), (1, .agg (iCells l))]).run Tryz.prog w = .ok (.agg (iCells (n :: l))) w :=
  run_build w _ _ _ (pk_built n l hl)
section
variable {P : Program}
/-- What is built of two parts. -/
theorem wpList_build_two {ops : Array Oper} {rest : List Oper} {o : Oper} {a : Act} {w : World} {Q : Exit → Act → World → Prop} (hgd : o.guard = none) (t : TypeId) (x y : Operand) (ho : o.op = .build t #[(0, x), (1, y)])
    (u v : Value) (hx : a.eval x = u) (hy : a.eval y = v) (cells : Array Value) (hb : P.built t [(0, u), (1, v)] = some cells) (h : wpList P ops Q rest (a.put o.dst (.agg cells)) w) : wpList P ops Q (o :: rest) a w := by
  have e : ((#[(0, x), (1, y)] : Array (Nat × Operand)).map fun (i, x) => (i, a.eval x)).toList = [(0, u), (1, v)] := by
    simp only [List.map_toArray, List.map_cons, List.map_nil, hx, hy]
  exact wpList_plain hgd fun _ hK => wp_build t _ ho (by rw [e, hb]; rfl) (by rw [e, hb]; exact hK _ _ h)
theorem g_build_two {ops : Array Oper} {rest : List Oper} {o : Oper} {a : Act} {w : World} {Q : Exit → Act → World → Prop} (hw : Region.wanted o (yielded ops a.tmps) = true) (t : TypeId) (x y : Operand) (ho : o.op = .build t #[(0, x), (1, y)])
    (u v : Value) (hx : a.eval x = u) (hy : a.eval y = v) (cells : Array Value) (hb : P.built t [(0, u), (1, v)] = some cells) (h : wpList P ops Q rest (a.put o.dst (.agg cells)) w) : wpList P ops Q (o :: rest) a w := by
  have e : ((#[(0, x), (1, y)] : Array (Nat × Operand)).map fun (i, x) => (i, a.eval x)).toList = [(0, u), (1, v)] := by
    simp only [List.map_toArray, List.map_cons, List.map_nil, hx, hy]
  unfold wpList
  rw [if_pos hw]
  exact Or.inl (wp_build t _ ho (by rw [e, hb]; rfl) (by rw [e, hb]; exact h))
end
end Go.Proofs.YtalbcimnnihmnaaGreat

/- Packets by value (a number, a shape): == tells whether two are the same; how they lie, their zero value. No conditions but those that each fact names. -/
namespace Go.Proofs.YtalbcimnnihmnaaGreat
open Go.RowKit
open M
def zp41 : List Int := List.replicate 41 0
theorem zp41_length : zp41.length = 41 := by unfold zp41; rw [List.length_replicate]
set_option maxRecDepth 100000 in
theorem pkt_info : (Tryz.prog.info? 38).map (fun i => (i.zero, i.size)) = some (some (.agg (iCells zp41)), 41) := by kernel_rfl
theorem pkt_zero (w : World) : (zeroValue 38).run Tryz.prog w = .ok (.agg (iCells zp41)) w := (zero_of_info pkt_info).1 w
theorem pkt_size (l : List Int) (h : l.length = 41) : (Tryz.prog.info? 38).map (·.size) = some (iCells l).size := by
  rw [iCells_size, h]; exact (zero_of_info pkt_info).2
theorem pkt_same (l m : List Int) (h : l.length = 41) (k : m.length = 41) : (iCells l).size = (iCells m).size := by
  rw [iCells_size, iCells_size, h, k]
theorem pk_fields : (Tryz.prog.fieldsOf 38).toList.map (fun f => (f.name != "_", f.type, f.offset)) = [(true, 3, 0), (true, 30, 1)] := by kernel_rfl
theorem pk_under : Tryz.prog.underlying 38 = some (.struct (Tryz.prog.fieldsOf 38)) := by kernel_rfl
theorem pk_stood : Tryz.prog.stoodInHeld 38 = false := by kernel_rfl
theorem pk_c40 : Tryz.prog.cellsOf 30 = 40 := by kernel_rfl
set_option maxRecDepth 100000 in
theorem eqI_packet (d : Nat) : EqI (d + 5) 38 41 := fun a b w ha hb => by
  obtain ⟨i2, hi2⟩ := some_of (t := 30) (by kernel_rfl)
  obtain ⟨f, g, hfs, hf, hg⟩ := two_fields pk_fields
  obtain ⟨f1, f2, f3⟩ : (f.name != "_") = true ∧ f.type = 3 ∧ f.offset = 0 := by
    injection hf with h1 h2; injection h2 with h2 h3; exact ⟨h1, h2, h3⟩
  obtain ⟨g1, g2, g3⟩ : (g.name != "_") = true ∧ g.type = 30 ∧ g.offset = 1 := by
    injection hg with h1 h2; injection h2 with h2 h3; exact ⟨h1, h2, h3⟩
  have n1 : f.name ≠ "_" := by simpa using f1
  have n2 : g.name ≠ "_" := by simpa using g1
  match a, b, ha, hb with
  | x :: a, y :: b, ha, hb =>
    have p1 := run_part_plain w plain_intS (iCells_get (x :: a) 0 (by simp))
    have p2 := run_part_plain w plain_intS (iCells_get (y :: b) 0 (by simp))
    have p3 := part_rec (xs := iCells (x :: a)) (off := 1) sh_under hi2 w
    have p4 := part_rec (xs := iCells (y :: b)) (off := 1) sh_under hi2 w
    rw [List.getD_cons_zero] at p1 p2
    rw [pk_c40, ext_cells, List.drop_succ_cons, List.drop_zero, List.take_of_length_le (by simpa using Nat.le_of_eq (by simpa using ha))] at p3
    rw [pk_c40, ext_cells, List.drop_succ_cons, List.drop_zero, List.take_of_length_le (by simpa using Nat.le_of_eq (by simpa using hb))] at p4
    have q1 := run_equalIn_int w (d + 3) 3 .i64 .i64 x y Tryz.underlying3
    have q2 := eqI_shape d a b w (by simpa using ha) (by simpa using hb)
    rw [run_equalIn_struct w (d + 4) _ _ _ pk_under pk_stood, hfs]
    simp only [Op.eqFields, n1, n2, ne_eq, not_false_eq_true, if_true, f2, f3, g2, g3, Sem.run_bind, p1, p2, Result.andThen_ok, q1]
    rw [show ((x :: a) == (y :: b)) = ((x == y) && (a == b)) from rfl]
    cases x == y
    · simp
    · cases hq : a == b <;> rw [hq] at q2 <;> simp [p3, p4, q2]
set_option maxRecDepth 100000 in
theorem packet_eq (a b : List Int) (ha : a.length = 41) (hb : b.length = 41) (w : World) :
    (Op.equalIn 10000 38 (.agg (iCells a)) (.agg (iCells b))).run Tryz.prog w = .ok (a == b) w := eqI_packet 9995 a b w ha hb
end Go.Proofs.YtalbcimnnihmnaaGreat
