/-
  Contracts and plain facts that the laws share; each piece is headed by what it holds and its conditions.
-/
import Derived.Test.YtoohahjmiljpgaaQS10
import Derived.Test.YtoohahjmiljpgaaQS16
import Derived.Test.YtoohahjmiljpgaaQS5
import Derived.Test.YtoohahjmiljpgaaQS6
import Derived.Test.YtoohahjmiljpgaaQS15
import Derived.Test.YtoohahjmiljpgaaQRfe
import Derived.Deep.WholeRow
import Derived.Lib.QuietBelow
import Derived.Laws.Tables

/- Plain facts of the statements' held steps (layers 17 and 18): as far as so many are held; lists by their numbers. No conditions but those that each fact names. -/
namespace Go.Proofs.Ytoohahjmiljpgaa
open Go.RowKit
open M
/-- Steps held in their range, as far as i. -/
def hd17 (x : List Int) (i : Nat) : List Int := (List.range 8).map fun p => if p < i then x.getD p 0 % 16 else x.getD p 0
theorem hd17_len (x : List Int) (i : Nat) : (hd17 x i).length = 8 := by simp [hd17]
theorem hd17_get (x : List Int) (i p : Nat) (h : p < 8) : (hd17 x i).getD p 0 = if p < i then x.getD p 0 % 16 else x.getD p 0 := by
  unfold hd17
  rw [List.getD_eq_getElem?_getD, List.getElem?_map, List.getElem?_range h]
  rfl
theorem list_eqn (n : Nat) (l m : List Int) (hl : l.length = n) (hm : m.length = n) (h : ∀ j, j < n → l.getD j 0 = m.getD j 0) : l = m := by
  apply List.ext_getElem (by omega)
  intro i h1 h2
  have := h i (by omega)
  rw [List.getD_eq_getElem?_getD, List.getD_eq_getElem?_getD, List.getElem?_eq_getElem h1, List.getElem?_eq_getElem h2] at this
  exact this
theorem hd17_zero (x : List Int) (h : x.length = 8) : hd17 x 0 = x :=
  list_eqn 8 _ _ (hd17_len _ _) h fun j hj => by rw [hd17_get _ _ _ hj, if_neg (by omega)]
theorem hd17_set (x : List Int) (i : Nat) (h : i < 8) : (hd17 x i).set i (x.getD i 0 % 16) = hd17 x (i + 1) := by
  refine list_eqn 8 _ _ (by rw [List.length_set, hd17_len]) (hd17_len _ _) fun j hj => ?_
  rw [set_getD13 _ _ _ _ (by rw [hd17_len]; exact h), hd17_get _ _ _ hj, hd17_get _ _ _ hj]
  by_cases e : j = i
  · rw [if_pos e, if_pos (by omega), e]
  · rw [if_neg e]
    by_cases k : j < i
    · rw [if_pos k, if_pos (by omega)]
    · rw [if_neg k, if_neg (by omega)]
theorem hd17_bd (x : List Int) (j : Nat) (h : j < 8) : 0 ≤ (hd17 x 8).getD j 0 ∧ (hd17 x 8).getD j 0 ≤ 15 := by
  rw [hd17_get _ _ _ h, if_pos h]; omega
theorem hd17_right (x : List Int) : rt17 (hd17 x 8) = true := (rt_iff _).2 fun j hj => hd17_bd x j hj
end Go.Proofs.Ytoohahjmiljpgaa

/- Whole arrays that are read, in statements that draw their order and in guarded operations. No program is named here. No conditions. -/
namespace Go.Proofs.Ytoohahjmiljpgaa
open Go.RowKit
open M
/-- A whole array is read in a statement that draws its order and changes nothing that was there. -/
theorem q_load_row {P : Program} {C : World → Prop} {a : Act} {o : Oper} {K : Act → Prop} (ty : TypeId) (x : Operand) (ho : o.op = .load ty x) (g : Nat) (hx : a.eval x = .pointer (some ⟨g, 0, none⟩)) (t : TypeId) (cs : Array Value) (fr : Nat × Nat) (d : TypeDesc)
    (hC : ∀ w, C w → w.heap[g]? = some (.cells cs t fr)) (hu : P.underlying ty = some d) (hd : (match d with | .struct _ | .array _ _ => true | _ => false) = true) (hi : (P.info? ty).map (·.size) = some cs.size)
    (hk : K (a.put o.dst (.agg cs))) : o.quiet P a C K :=
  ⟨_, fun w hw => by
    unfold Oper.quietAt execOp
    simp only [ho, hx, Instr.loadAt, Instr.sureAddr, Sem.run_bind, Sem.run_pure, Result.andThen_ok, run_loadVar_row w g t ty cs fr d (hC w hw) hu hd hi]
    exact ⟨rfl, rfl⟩, hk⟩
/-- A whole array is read in a guarded operation whose turn it is. -/
theorem g_load_row {P : Program} {ops : Array Oper} {rest : List Oper} {o : Oper} {a : Act} {w : World} {Q : Exit → Act → World → Prop} (hw : Region.wanted o (yielded ops a.tmps) = true) (ty : TypeId) (x : Operand) (ho : o.op = .load ty x)
    (g : Nat) (hx : a.eval x = .pointer (some ⟨g, 0, none⟩)) (t : TypeId) (cs : Array Value) (fr : Nat × Nat) (d : TypeDesc) (hg : w.heap[g]? = some (.cells cs t fr))
    (hu : P.underlying ty = some d) (hd : (match d with | .struct _ | .array _ _ => true | _ => false) = true) (hi : (P.info? ty).map (·.size) = some cs.size)
    (h : wpList P ops Q rest (a.put o.dst (.agg cs)) w) : wpList P ops Q (o :: rest) a w := by
  unfold wpList
  rw [if_pos hw]
  exact Or.inl (wp_load_row ty x ho g hx t cs fr d hg hu hd hi h)
end Go.Proofs.Ytoohahjmiljpgaa

/- Layer 19's laws, what they share: what pack's functions are to answer (as conditions), packets by value, the statements' shapes are right, a packet's first bytes, awake. Conditions: what pack's Lay answers, and the reference's Count. -/
namespace Go.Proofs.Ytoohahjmiljpgaa
open Go.RowKit
open M
def PekOk : Prop := ∀ (s : ByteArray) (w : World), s.size ≤ 200 → Calls Try.prog 13 #[.string s] w fun e w' => e = .returned (.tuple #[.int .i64 (if e19 s = 0 then (fr19 s : Int) else 0), .bool (decide (e19 s = 0))]) ∧ Below w.heap.size w w'
/-- A number of bits in two parts. -/
theorem num_from : ∀ (m : List Bool) (a : Nat), m.foldl (fun x b => 2 * x + b.toNat) a = a * 2 ^ m.length + numOf m
  | [], a => by simp [numOf]
  | b :: m, a => by
    have h1 := num_from m (2 * a + b.toNat)
    have h2 := num_from m (2 * 0 + b.toNat)
    show m.foldl (fun x b => 2 * x + b.toNat) (2 * a + b.toNat) = _
    have h3 : numOf (b :: m) = m.foldl (fun x b => 2 * x + b.toNat) (2 * 0 + b.toNat) := rfl
    rw [h3, h1, h2, List.length_cons, Nat.pow_succ]
    generalize 2 ^ m.length = P
    generalize numOf m = N
    rw [Nat.add_mul, Nat.mul_zero, Nat.zero_add, ← Nat.mul_assoc, Nat.mul_comm (a * P) 2, ← Nat.mul_assoc]
    omega
theorem num_two (l m : List Bool) : numOf (l ++ m) = numOf l * 2 ^ m.length + numOf m := by
  rw [← num_from m (numOf l)]
  unfold numOf
  rw [List.foldl_append]
theorem num_byte (s : List UInt8) (j : Nat) : numOf (readB s (8 * j) 8) = (s.getD j 0).toNat := by
  rw [readB_byte, numOf_bitsOf 8 _ (UInt8.toNat_lt _)]
/-- A text's head, byte by byte. -/
theorem fr_bytes (s : ByteArray) : fr19 s = 256 * ((bd19 s).getD 0 0).toNat + ((bd19 s).getD 1 0).toNat := by
  have h : fr19 s = numOf (readB (bd19 s) 0 16) := rfl
  have h0 := num_byte (bd19 s) 0
  have h1 := num_byte (bd19 s) 1
  rw [Nat.mul_zero] at h0
  rw [h, show (16 : Nat) = 8 + 8 from rfl, readB_add, num_two, readB_length, h0, Nat.zero_add]
  rw [show 8 * 1 = 8 from rfl] at h1
  rw [h1]
  omega
theorem bd_get (s : ByteArray) (j : Nat) (h : j < s.size - 2) : (bd19 s).getD j 0 = (bl s).getD j 0 := gD_take _ _ _ _ h
theorem steps_bytes (s : ByteArray) (i : Nat) (hi : i < 4) : ((bd19 s).getD (2 + i) 0).toNat = 16 * (sd19 s).getD (2 * i) 0 + (sd19 s).getD (2 * i + 1) 0 := by
  have h := num_byte (bd19 s) (2 + i)
  rw [show (8 : Nat) = 4 + 4 from rfl, readB_add, num_two, readB_length, show (4 + 4) * (2 + i) = 16 + 8 * i by omega] at h
  have hs : ∀ j, j < 8 → (sd19 s).getD j 0 = numOf (readB (bd19 s) (16 + 4 * j) 4) := fun j hj => by
    unfold sd19
    rcases (show j = 0 ∨ j = 1 ∨ j = 2 ∨ j = 3 ∨ j = 4 ∨ j = 5 ∨ j = 6 ∨ j = 7 by omega) with rfl | rfl | rfl | rfl | rfl | rfl | rfl | rfl <;> rfl
  rw [hs _ (by omega), hs _ (by omega), show 16 + 4 * (2 * i) = 16 + 8 * i by omega, show 16 + 4 * (2 * i + 1) = 16 + 8 * i + 4 by omega]
  omega
end Go.Proofs.Ytoohahjmiljpgaa

/- Layer 19's laws: awake. Conditions: what pack's Lay answers, and the reference's Count. -/
namespace Go.Proofs.Ytoohahjmiljpgaa
open Go.RowKit
open M
theorem v8_bd : ∀ v ∈ ([0, 0, 0, 0, 0, 0, 0, 0] : List Int), 0 ≤ v ∧ v ≤ 4294967295 := by decide
/-- The first two bytes of a packet. -/
theorem ly_two (fr z : Nat) (l : List Int) (h : rg19 l (z : Int) = true) (hf : fr < 65536) : (ly19 fr l z).extract 0 2 = ofB [UInt8.ofNat (fr / 256), UInt8.ofNat (fr % 256)] := by
  have hz := (rg_parts l z h).1
  have hs := ly_size fr z l h
  have hb := fr_bytes (ly19 fr l z)
  rw [(ly_fields fr z l h hf).1, bd_get _ 0 (by omega), bd_get _ 1 (by omega)] at hb
  have hl : (bl (ly19 fr l z)).length = z := hs
  apply bl_inj
  rw [bl_extract, bl_ofB, List.drop_zero]
  generalize bl (ly19 fr l z) = L at *
  match L, hl with
  | [], hl => simp at hl; omega
  | [a], hl => simp at hl; omega
  | a :: b :: L, _ =>
    rw [List.getD_cons_zero, List.getD_cons_succ, List.getD_cons_zero] at hb
    have ha := a.toNat_lt
    have hb2 := b.toNat_lt
    have e1 : fr / 256 = a.toNat := by omega
    have e2 : fr % 256 = b.toNat := by omega
    rw [e1, e2, UInt8.ofNat_toNat, UInt8.ofNat_toNat]
    rfl
set_option maxRecDepth 100000 in
theorem awake19_any (HL : LayOk) (HCt : CtOk) (w : World) : Calls Try.prog 8 #[] w fun e w' => e = .returned (.bool true) ∧ Below w.heap.size w w' := by
  have hrg := shp_right zs8 [0, 0, 0, 0, 0, 0, 0, 0] 24 (by decide) (by decide)
  have HSH := Lib.hid fun w => lshape_any HCt zs8 [0, 0, 0, 0, 0, 0, 0, 0] 24 w zs8_length rfl v8_bd (by decide) (by decide)
  have hsl := shp_len zs8 [0, 0, 0, 0, 0, 0, 0, 0] (8 * 24 - 64)
  obtain ⟨s, hs⟩ : ∃ s, shp zs8 [0, 0, 0, 0, 0, 0, 0, 0] (8 * 24 - 64) = s := ⟨_, rfl⟩
  rw [hs] at hrg HSH hsl
  obtain ⟨h1, h2⟩ := laE_in 258 24 s (by decide) (by decide) hrg
  have HLA := Lib.hid fun w => HL 258 s 24 w hsl
  rw [show (258 : Int) = ((258 : Nat) : Int) from rfl, show (24 : Int) = ((24 : Nat) : Int) from rfl, h1, h2] at HLA
  have hsz := ly_size 258 24 s hrg
  have htwo := ly_two 258 24 s hrg (by decide)
  obtain ⟨t, ht⟩ : ∃ t, ly19 258 s 24 = t := ⟨_, rfl⟩
  rw [ht] at HLA hsz htwo
  have HSZ := Lib.hid (s40_size s hsl)
  have HSX := Lib.hid (s40_same z40 s z40_length hsl)
  have hz := i8_zero
  have hz2 := v8_zero
  have hz3 := s40_zero
  have HBU := Lib.hid (pk_built 258 s hsl)
  have hb2 : ((ofB [UInt8.ofNat (258 / 256), UInt8.ofNat (258 % 256)]) == (⟨#[1, 2]⟩ : ByteArray)) = true := by decide +kernel
  have HB : Hid (Below w.heap.size w w) := Lib.hid (Below.refl _ _)
  clear hs ht hrg h1 h2 HL HCt hsl
  go_enter Try.func8, Try.ntmps8
  go_wp2_with fail
  refine (HSH.out _).mono ?_
  rintro e w2 ⟨rfl, hb⟩
  have HB := Lib.hid (HB.out.trans (hb.mono HB.out.size))
  clear hb
  have HN : Hid (Row (w2.alloc (.cells (iCells z40) 32)) w2.heap.size 32 (iCells z40)) := Lib.hid (heap_alloc_new _ _)
  go_upto_region 2 with (refine wpList_store_row rfl 32 (.tmp 1) (.tmp 6) rfl w2.heap.size (iCells s) rfl rfl 32 (iCells z40) HN.out HSZ.out HSX.out (iCells_one _) ?_)
  have HB := Lib.hid (below_laid HB.out (.cells (iCells z40) 32) (iCells s))
  have HR := Lib.hid (Row.setRow HN.out (iCells s))
  generalize (w2.alloc (.cells (iCells z40) 32)).setRow w2.heap.size (iCells s) = w3 at *
  obtain ⟨g, hg⟩ : ∃ g, w2.heap.size = g := ⟨_, rfl⟩
  rw [hg] at HR ⊢
  clear hg HN
  go_wp2_with (first
    | (refine wpList_load_row rfl 32 (.tmp 1) rfl g rfl 32 (iCells s) (0, 0) _ HR.out Try.underlying32 rfl HSZ.out ?_)
    | (refine wpList_build_two rfl 35 (.const (.int .i64 258)) (.tmp 8) rfl (.int .i64 258) (.agg (iCells s)) rfl rfl (iCells (258 :: s)) HBU.out ?_))
  refine (HLA.out _).mono ?_
  rintro e w4 ⟨rfl, hb⟩
  have HB := Lib.hid (HB.out.trans (hb.mono HB.out.size))
  clear hb
  go_wp2_with fail
  go_ret
  exact ⟨by rw [show ((ofB [1, 2]).toList == ([1, 2] : List UInt8)) = true from by rw [toList_bl, bl_ofB]; rfl]; rfl, HB.out⟩
end Go.Proofs.Ytoohahjmiljpgaa
