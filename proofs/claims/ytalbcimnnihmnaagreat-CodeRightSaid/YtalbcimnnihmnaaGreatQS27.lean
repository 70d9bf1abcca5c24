/-
  Contracts and plain facts that the laws share; each piece is headed by what it holds and its conditions.
-/
import Derived.Test.YtalbcimnnihmnaaGreatQS26
import Derived.Test.YtalbcimnnihmnaaGreatQS8
import Derived.Sort.Row

/- pvq's Vector of natural numbers; where a list's numbers lie; a number's rest by a count. Conditions: those that each fact names. -/
namespace Go.Proofs.YtalbcimnnihmnaaGreat
open Go.RowKit
open M
theorem vector_at (x y z : Int) (n k i : Nat) (w : World) (hx : x = n) (hy : y = k) (hz : z = i) (hn : n ≤ 8) (hk : k ≤ 12) (hi : i < cn13 n k) :
    Calls Tryz.prog 61 #[.int .i64 x, .int .i64 y, .int .i64 z] w fun e w' => (∃ a cap, e = .returned (.tuple #[.slice a n cap, .int .i64 0]) ∧ IntsAt w' (.slice a n cap) (vc13 n k i)) ∧ Below w.heap.size w w' := by
  subst hx hy hz
  refine (vector_any n k i w).mono ?_
  rintro e w' ⟨⟨v, rfl, hv⟩, hb⟩
  obtain ⟨h1, h2⟩ := vc_in n k i hn hk hi
  obtain ⟨g1, g2, g3⟩ := vc_all n k i hi
  rw [h1] at hv
  rw [h2]
  obtain ⟨a, cap, hva, hc⟩ := hv
  rw [g1] at hva
  subst hva
  exact ⟨⟨a, cap, rfl, a, cap, by rw [g1], hc⟩, hb⟩
/-- .. in a new block. -/
theorem vector_at_new (x y z : Int) (n k i : Nat) (w : World) (hx : x = n) (hy : y = k) (hz : z = i) (hn : n ≤ 8) (hk : k ≤ 12) (hi : i < cn13 n k) :
    Calls Tryz.prog 61 #[.int .i64 x, .int .i64 y, .int .i64 z] w fun e w' => (∃ a cap, e = .returned (.tuple #[.slice a n cap, .int .i64 0]) ∧ IntsAt w' (.slice a n cap) (vc13 n k i) ∧ NewSl w.heap.size (.slice a n cap)) ∧ Below w.heap.size w w' := by
  subst hx hy hz
  refine (vector_new n k i w).mono ?_
  rintro e w' ⟨⟨v, rfl, hv, hs⟩, hb⟩
  obtain ⟨h1, h2⟩ := vc_in n k i hn hk hi
  obtain ⟨g1, g2, g3⟩ := vc_all n k i hi
  rw [h1] at hv
  rw [h2]
  obtain ⟨a, cap, hva, hc⟩ := hv
  rw [g1] at hva
  subst hva
  exact ⟨⟨a, cap, rfl, ⟨a, cap, by rw [g1], hc⟩, hs⟩, hb⟩
theorem cn_wide (n k : Nat) : cn13 n k ≤ cn13 (n + 1) k := by
  have h := ah_mono (cn13 n) k 1 (2 * k + 1) (by omega)
  have e : ah (cn13 n) k 1 = 0 + cn13 n (k - sz 0) := rfl
  rw [show k - sz 0 = k from rfl] at e
  show cn13 n k ≤ ah (cn13 n) k (2 * k + 1)
  omega
theorem cn_null (n k : Nat) (h : cn13 n k = 0) : n = 0 ∧ 0 < k := by
  cases n with
  | zero =>
    refine ⟨rfl, ?_⟩
    cases k with
    | zero => exact absurd h (by decide)
    | succ k => omega
  | succ n => have := cn_pos n k; omega
/-- Where an IntsAt's numbers lie. -/
theorem ints_cells {w : World} {a : Option Addr} {n cap : Nat} {l : List Int} (h : IntsAt w (.slice a n cap) l) (hl : l.length = n) (hn : 0 < n) :
    ∃ b off, a = some ⟨b, off, none⟩ ∧ b < w.heap.size ∧ ∀ i, i < n → w.cell? ⟨b, off + i, none⟩ = some (.int .i64 (l.getD i 0)) := by
  obtain ⟨a', cap', he, hc⟩ := h
  obtain ⟨b, off, hb⟩ := hc (by omega)
  simp only [Value.slice.injEq] at he
  obtain ⟨rfl, _, _⟩ := he
  rw [hl] at hb
  exact ⟨b, off, hb⟩
theorem u32_mod (z : Int) (c : Nat) (h0 : 0 ≤ z) (hc : 0 < c) : ∃ A : Nat, z % (c : Int) = A ∧ z.tmod (c : Int) = A ∧ A < c := by
  refine ⟨(z % (c : Int)).toNat, ?_, ?_, ?_⟩
  · have := Int.emod_nonneg z (show (c : Int) ≠ 0 by omega); omega
  · rw [Int.tmod_eq_emod_of_nonneg h0]
    have := Int.emod_nonneg z (show (c : Int) ≠ 0 by omega); omega
  · have := Int.emod_nonneg z (show (c : Int) ≠ 0 by omega)
    have := Int.emod_lt_of_pos z (show 0 < (c : Int) by omega)
    omega
end Go.Proofs.YtalbcimnnihmnaaGreat

/- Layer 19: pack's vector: a band's pulses by their number. Conditions: a Reader in a block of its own; texts of up to 1000 bytes, bits that are there; up to 12 pulses; what pvq's Bits answers. -/
namespace Go.Proofs.YtalbcimnnihmnaaGreat
open Go.RowKit
open M
def vcY (k i : Nat) : List Int := if i < cn13 4 k then vc13 4 k i else [0, 0, 0, 0]
theorem vcY_len (k i : Nat) : (vcY k i).length = 4 := by
  unfold vcY
  split
  · rename_i h; exact (vc_all 4 k i h).1
  · rfl
theorem vec_no (k i : Nat) (hk : k ≤ 12) (h : ¬ i < cn13 4 k) (w : World) :
    Calls Tryz.prog 61 #[.int .i64 4, .int .i64 k, .int .i64 i] w fun e w' => (∃ v, e = .returned (.tuple #[v, .int .i64 7])) ∧ Below w.heap.size w w' := by
  refine (vector_any (4 : Nat) k i w).mono ?_
  rintro e w' ⟨⟨v, rfl, _⟩, hb⟩
  have h1 : th13 (4 : Nat) k = true := decide_eq_true (by omega)
  have h2 : vcE (4 : Nat) k i = 7 := by
    unfold vcE
    rw [h1, if_pos rfl, cnI_in 4 k (by omega) hk, if_neg (by omega)]
  rw [h2]
  exact ⟨⟨v, rfl⟩, hb⟩
theorem pls_under : (Tryz.prog.info? 27).map (·.size) = some 4 := by kernel_rfl
theorem pls_built : Tryz.prog.built 27 [] = some (iCells [0, 0, 0, 0]) := by kernel_rfl
theorem arr_four (a : Option Addr) (cap : Nat) (w : World) : (Instr.arrayAt 27 (.slice a 4 cap)).run Tryz.prog w = .ok (.pointer a) w := by
  simp [Instr.arrayAt, run_underlying Tryz.underlying27, go_sem]
set_option maxRecDepth 100000 in
set_option maxHeartbeats 2000000 in
theorem vec_any (HV : BvOk) (k : Nat) (s : ByteArray) (a g : Nat) (w : World) (hk : k ≤ 12) (hs : s.size ≤ 1000) (ha : a + btc k ≤ 8 * s.size) (h : Rdr w g s a) :
    Calls Tryz.prog 30 #[.int .i64 (k : Int), .func (.func 29) #[.pointer (some ⟨g, 0, none⟩)] #[]] w fun e w' => e = .returned (.tuple #[.agg (iCells (vcY k (numOf (readB (bl s) a (btc k))))), .bool (decide (numOf (readB (bl s) a (btc k)) < cn13 4 k))]) ∧ Rdr w' g s (a + btc k) ∧ Moved w w' g (.slice none 0 0) (.slice none 0 0) := by
  have hz := pls_zero
  have HBT := Lib.hid fun w => HV k w hk
  have HGL : Hid (g < w.heap.size) := Lib.hid (Row.lt h)
  have hB : Below w.heap.size w (w.alloc (.cells (iCells [0, 0, 0, 0]) 27)) := (Below.refl _ _).alloc (Nat.le_refl _) _
  have HR : Hid (Rdr (w.alloc (.cells (iCells [0, 0, 0, 0]) 27)) g s a) := Lib.hid (Rdr.more h hB)
  have HA : Hid (Row (w.alloc (.cells (iCells [0, 0, 0, 0]) 27)) w.heap.size 27 (iCells [0, 0, 0, 0])) := Lib.hid (heap_alloc_new _ _)
  have HM : Hid (Moved w (w.alloc (.cells (iCells [0, 0, 0, 0]) 27)) g (.slice none 0 0) (.slice none 0 0)) := Lib.hid ((Moved.refl w g _).more hB)
  have HGT := Lib.hid fun (w : World) (h : Rdr w g s a) => get_ok (btc k) s a g w (by have := btc_bd k; omega) (by omega) ha h
  have HYL := Lib.hid (vcY_len k (numOf (readB (bl s) a (btc k))))
  obtain ⟨n, hn⟩ : ∃ n, btc k = n := ⟨_, rfl⟩
  rw [hn] at HBT HGT HYL ⊢
  obtain ⟨i, hi⟩ : ∃ i, numOf (readB (bl s) a n) = i := ⟨_, rfl⟩
  rw [hi] at HGT HYL ⊢
  have HSY := Lib.hid (pls_size (vcY k i) HYL.out)
  have HSX : Hid ((iCells [0, 0, 0, 0]).size = (iCells (vcY k i)).size) := Lib.hid (by rw [iCells_size, iCells_size, HYL.out]; rfl)
  by_cases hin : i < cn13 4 k
  · have e1 : decide (i < cn13 4 k) = true := decide_eq_true hin
    have e2 : vcY k i = vc13 4 k i := if_pos hin
    have HVC := Lib.hid fun w => vector_at 4 k i 4 k i w rfl rfl rfl (by omega) hk hin
    rw [e1]
    rw [← e2] at HVC
    clear e1 e2 hin hn hi hk hs ha h hB
    generalize vcY k i = Y at *
    go_enter Tryz.func30, Tryz.ntmps30
    go_upto_region 1 with fail
    generalize w.alloc (.cells (iCells [0, 0, 0, 0]) 27) = w1 at *
    obtain ⟨n0, hn0⟩ : ∃ n0, w.heap.size = n0 := ⟨_, rfl⟩
    have HN0 := Lib.hid fun _ : Unit => hn0
    rw [hn0] at HA HGL ⊢
    clear hn0 hz
    go_wp2_with fail
    refine (HBT.out _).mono ?_
    rintro e w2 ⟨rfl, hb⟩
    have HR := Lib.hid (HR.out.more hb)
    have HA := Lib.hid (HA.out.box hb)
    have HM := Lib.hid (HM.out.more hb)
    clear hb HBT
    go_wp2_with fail
    refine (HGT.out _ HR.out).mono ?_
    rintro e w3 ⟨rfl, ho, hr⟩
    have HR := Lib.hid hr
    have HA := Lib.hid (ho.moved.apart HA.out (by have := HGL.out; omega))
    have HM := Lib.hid (HM.out.trans ho.moved)
    clear ho hr HGT
    go_wp2_with fail
    refine (HVC.out _).mono ?_
    rintro e w4 ⟨⟨a4, cap, rfl, hv⟩, hb⟩
    have HR := Lib.hid (HR.out.more hb)
    have HA := Lib.hid (HA.out.box hb)
    have HM := Lib.hid (HM.out.more hb)
    obtain ⟨b4, off, rfl, _, hc⟩ := ints_cells hv HYL.out (by omega)
    have HRG : Hid (w4.rangeAt b4 off (iCells Y).toList) := Lib.hid fun j v hj => by
      have hl : j < 4 := by
        have := (List.getElem?_eq_some_iff.1 hj).1
        simpa [iCells, HYL.out] using this
      rw [hc j hl, ← hj, Array.getElem?_toList, iCells_get _ _ (by rw [HYL.out]; exact hl)]
    clear hv hc hb HVC
    have har := arr_four (some ⟨b4, off, none⟩) cap
    go_wp2_with (first
      | (refine wpList_load_mid rfl 27 (.tmp 27) rfl b4 off rfl (iCells Y).toList _ HRG.out Tryz.underlying27 rfl (by rw [iL_size, HYL.out]; exact pls_under) ?_; rw [Array.toArray_toList])
      | (refine wpList_store_row rfl 27 (.tmp 4) (.tmp 28) rfl n0 (iCells Y) rfl rfl 27 (iCells [0, 0, 0, 0]) HA.out HSY.out HSX.out (iCells_one _) ?_)
      | (refine bodyPost_ret (v := .tuple #[.agg (iCells Y), .bool true]) (results_row_tmp Tryz.results30 _ _ n0 27 (iCells Y) (0, 0) _ rfl (Row.setRow HA.out _) Tryz.underlying27 rfl HSY.out) rfl ⟨rfl, ?_⟩))
    all_goals exact ⟨(setRow_other w4 n0 g (iCells Y) (by have := HGL.out; omega)).trans HR.out, HM.out.more2 (below_setRow (Below.refl w.heap.size w4) (by rw [HN0.out ()]; exact Nat.le_refl _) _)⟩
  · have e1 : decide (i < cn13 4 k) = false := decide_eq_false hin
    have e2 : vcY k i = [0, 0, 0, 0] := if_neg hin
    have HVC := Lib.hid fun w => vec_no k i hk hin w
    rw [e1, e2]
    have hbl := pls_built
    have HSZ := Lib.hid (pls_size [0, 0, 0, 0] rfl)
    clear e1 e2 hin hn hi hk hs ha h hB HSY HSX
    go_enter Tryz.func30, Tryz.ntmps30
    go_upto_region 1 with fail
    generalize w.alloc (.cells (iCells [0, 0, 0, 0]) 27) = w1 at *
    obtain ⟨n0, hn0⟩ : ∃ n0, w.heap.size = n0 := ⟨_, rfl⟩
    have HN0 := Lib.hid fun _ : Unit => hn0
    rw [hn0] at HA HGL ⊢
    clear hn0 hz
    go_wp2_with fail
    refine (HBT.out _).mono ?_
    rintro e w2 ⟨rfl, hb⟩
    have HR := Lib.hid (HR.out.more hb)
    have HA := Lib.hid (HA.out.box hb)
    have HM := Lib.hid (HM.out.more hb)
    clear hb HBT
    go_wp2_with fail
    refine (HGT.out _ HR.out).mono ?_
    rintro e w3 ⟨rfl, ho, hr⟩
    have HR := Lib.hid hr
    have HA := Lib.hid (ho.moved.apart HA.out (by have := HGL.out; omega))
    have HM := Lib.hid (HM.out.trans ho.moved)
    clear ho hr HGT
    go_wp2_with fail
    refine (HVC.out _).mono ?_
    rintro e w4 ⟨⟨v4, rfl⟩, hb⟩
    have HR := Lib.hid (HR.out.more hb)
    have HA := Lib.hid (HA.out.box hb)
    have HM := Lib.hid (HM.out.more hb)
    clear hb HVC
    go_wp2_with (first
      | (refine wpList_store_row rfl 27 (.tmp 4) (.tmp 25) rfl n0 (iCells [0, 0, 0, 0]) rfl rfl 27 (iCells [0, 0, 0, 0]) HA.out HSZ.out rfl (iCells_one _) ?_)
      | (refine bodyPost_ret (v := .tuple #[.agg (iCells [0, 0, 0, 0]), .bool false]) (results_row_tmp Tryz.results30 _ _ n0 27 (iCells [0, 0, 0, 0]) (0, 0) _ rfl (Row.setRow HA.out _) Tryz.underlying27 rfl HSZ.out) rfl ⟨rfl, ?_⟩))
    all_goals exact ⟨(setRow_other w4 n0 g (iCells [0, 0, 0, 0]) (by have := HGL.out; omega)).trans HR.out, HM.out.more2 (below_setRow (Below.refl w.heap.size w4) (by rw [HN0.out ()]; exact Nat.le_refl _) _)⟩
end Go.Proofs.YtalbcimnnihmnaaGreat

/- Layer 15, the program's sum bit by bit: what takes a bit, its method value, a text's bits handed on. Conditions: the box of the sum lies in a block of its own. -/
namespace Go.Proofs.YtalbcimnnihmnaaGreat
open Go.RowKit
open M
theorem set_twice (w : World) (g : Nat) (v v' : Value) : (w.setCell ⟨g, 0, none⟩ v).setCell ⟨g, 0, none⟩ v' = w.setCell ⟨g, 0, none⟩ v' := by
  rw [Go.Sort.setCell_eq, Go.Sort.setCell_eq, Go.Sort.mapBlock_mapBlock, Go.Sort.setCell_eq]
  congr 1
  funext c
  simp
/-- The highest bit made one with another one. -/
theorem high_bit (X : BitVec 16) (b : Bool) : (bits .xor .i64 ((X.toNat : Int) / 32768) (bI15 b) == 1) = (X.msb != b) := by
  have hb := X.isLt
  have hm : X.msb = decide (32768 ≤ X.toNat) := BitVec.msb_eq_decide X
  rw [hm]
  by_cases h : 32768 ≤ X.toNat
  · rw [decide_eq_true h, show (X.toNat : Int) / 32768 = 1 by omega]
    cases b <;> decide
  · rw [decide_eq_false h, show (X.toNat : Int) / 32768 = 0 by omega]
    cases b <;> decide
theorem shl_one16 (X : BitVec 16) : IntKind.u16.wrap ((X.toNat : Int) * 2) = ((X <<< 1).toNat : Int) := by
  rw [IntKind.wrap_u16, BitVec.toNat_shiftLeft, Nat.shiftLeft_eq]
  omega
theorem xor_poly (Y : BitVec 16) : bits .xor .u16 (Y.toNat : Int) 4129 = ((Y ^^^ 4129#16).toNat : Int) := by
  rw [BitVec.toNat_xor]
  exact u16_xor_nat _ 4129 Y.isLt (by decide)
set_option maxRecDepth 100000 in
theorem take_any (g : Nat) (X : BitVec 16) (b : Bool) (w : World) (hc : w.cell? ⟨g, 0, none⟩ = some (.int .u16 (X.toNat : Int))) (hf : w.frozen? ⟨g, 0, none⟩ = false) :
    Calls Tryz.prog 92 #[.pointer (some ⟨g, 0, none⟩), .int .i64 (bI15 b)] w fun e w' => e = .returned (.tuple #[]) ∧ w' = w.setCell ⟨g, 0, none⟩ (.int .u16 ((cst X b).toNat : Int)) := by
  have h1 := high_bit X b
  have h2 := shl_one16 X
  have h3 := xor_poly (X <<< 1)
  obtain ⟨n, hn⟩ : ∃ n, X.toNat = n := ⟨_, rfl⟩
  have hb := X.isLt
  have HY : Hid (cst X b = if X.msb != b then (X <<< 1) ^^^ 4129#16 else X <<< 1) := Lib.hid rfl
  rw [hn] at hc hb h1 h2
  generalize cst X b = y at *
  generalize bI15 b = x at *
  generalize (X.msb != b) = z at *
  generalize X <<< 1 = p at *
  generalize p ^^^ 4129#16 = q at *
  cases z
  · have e : y = p := HY.out
    subst e
    clear HY hn
    go_enter Tryz.func92, Tryz.ntmps92
    go_wp2
    go_end0
    exact ⟨rfl, rfl⟩
  · have e : y = q := HY.out
    subst e
    clear HY hn
    go_enter Tryz.func92, Tryz.ntmps92
    go_wp2
    go_end0
    exact ⟨rfl, set_twice _ _ _ _⟩
end Go.Proofs.YtalbcimnnihmnaaGreat

/- Layer 15: a text's bits handed on. Conditions: texts of up to 10000 bytes; the box of the sum lies in a block of its own. -/
namespace Go.Proofs.YtalbcimnnihmnaaGreat
open Go.RowKit
open M
theorem and_one64 (n : Nat) : bits .and .i64 (n : Int) 1 = ((n % 2 : Nat) : Int) := by
  show IntKind.i64.wrap ((BitVec.ofInt 64 (n : Int) &&& BitVec.ofInt 64 1).toNat : Int) = _
  rw [BitVec.toNat_and, show (BitVec.ofInt 64 1).toNat = 2 ^ 1 - 1 by decide, Nat.and_two_pow_sub_one_eq_mod, BitVec.toNat_ofInt, IntKind.wrap_i64]
  omega
/-- A text's bit, as the program takes it. -/
theorem bit_said (s : ByteArray) (k j : Nat) (a : Int) (hk : k < s.size) (hj : j < 8) (ha : a = 7 - (j : Int)) : bits .and .i64 (wrap64 ((s[k]'hk).toNat : Int) / 2 ^ a.toNat) 1 = bI15 (bt15 (bl s) (8 * k + j)) := by
  have e : (bl s).getD k 0 = s[k] := by
    rw [List.getD_eq_getElem?_getD, List.getElem?_eq_getElem (by exact hk)]
    rfl
  have hb := s[k].toNat_lt
  rw [bt15, show (8 * k + j) / 8 = k by omega, show (8 * k + j) % 8 = j by omega, e]
  generalize s[k].toNat = x at *
  have e2 : wrap64 (x : Int) = (x : Int) := by rw [wrap64]; omega
  have e3 : a.toNat = 7 - j := by omega
  rw [e2, e3]
  have e4 : (x : Int) / 2 ^ (7 - j) = ((x / 2 ^ (7 - j) : Nat) : Int) := by
    rw [Int.natCast_ediv, Int.natCast_pow]; rfl
  rw [e4, and_one64 _]
  rcases Nat.mod_two_eq_zero_or_one (x / 2 ^ (7 - j)) with h0 | h0 <;> rw [h0] <;> rfl
theorem tb_snoc (l : List UInt8) (n : Nat) : tb15 l (n + 1) = tb15 l n ++ [bt15 l n] := by simp [tb15, List.range_succ]
theorem crun_snoc (X : BitVec 16) (l : List UInt8) (n : Nat) : cst (crun X (tb15 l n)) (bt15 l n) = crun X (tb15 l (n + 1)) := by
  rw [tb_snoc, crun_append]; rfl
set_option maxRecDepth 100000 in
theorem split_any (g : Nat) (X : BitVec 16) (s : ByteArray) (w : World) (hs : s.size ≤ 10000) (hr : Row w g 150 #[.int .u16 (X.toNat : Int)]) :
    Calls Tryz.prog 91 #[.string s, .func (.func 92) #[.pointer (some ⟨g, 0, none⟩)] #[]] w fun e w' => e = .returned (.tuple #[]) ∧ Row w' g 150 #[.int .u16 ((crun X (tbt (bl s))).toNat : Int)] ∧ Below g w w' := by
  have hsI : (s.size : Int) ≤ 10000 := by omega
  have HR := Lib.hid hr
  clear hr
  go_enter Tryz.func91, Tryz.ntmps91
  go_wp2_with fail
  go_loopw [8] (fun ii wr => ∃ (k : Nat), k ≤ s.size ∧ ii = .int .i64 k ∧ Row wr g 150 #[.int .u16 ((crun X (tb15 (bl s) (8 * k))).toNat : Int)] ∧ Below g w wr) (fun ii _ => s.size - (intOf ii).toNat)
  case atStart => exact ⟨0, Nat.zero_le _, rfl, HR.out, Below.refl _ _⟩
  case round =>
    clear HR
    obtain ⟨k, hk, rfl, hr, hb⟩ := hrel
    have HR := Lib.hid hr
    have HB := Lib.hid hb
    clear hr hb
    rcases Nat.lt_or_ge k s.size with hlt | hge
    · have hkI : (k : Int) < (s.size : Int) := by omega
      have HK := Lib.hid hlt
      clear hk
      go_wp2_with fail
      go_loopw [5] (fun jj wr => ∃ (j : Nat) (a : Int), j ≤ 8 ∧ jj = .int .i64 a ∧ a = 7 - (j : Int) ∧ Row wr g 150 #[.int .u16 ((crun X (tb15 (bl s) (8 * k + j))).toNat : Int)] ∧ Below g w wr) (fun jj _ => (intOf jj + 1).toNat)
      case atStart => exact ⟨0, 7, by omega, rfl, rfl, HR.out, HB.out⟩
      case round =>
        clear HR HB
        obtain ⟨j, a, hj, rfl, ha, hr, hb⟩ := hrel
        rcases Nat.lt_or_ge j 8 with hlj | hgj
        · have ha0 : 0 ≤ a := by omega
          have ha7 : a ≤ 7 := by omega
          have e1 := bit_said s k j a HK.out hlj ha
          have hs2 := crun_snoc X (bl s) (8 * k + j)
          have hc := (cell_of_row _ _ 0 _ _ (0, 0) hr).trans rfl
          have HT := Lib.hid (take_any g (crun X (tb15 (bl s) (8 * k + j))) (bt15 (bl s) (8 * k + j)) wr hc (Row.free hr 0))
          have HA := Lib.hid ha
          have HJ := Lib.hid hlj
          have HR := Lib.hid hr
          have HB := Lib.hid hb
          rw [hs2] at HT
          obtain ⟨y, hy⟩ : ∃ y, crun X (tb15 (bl s) (8 * k + (j + 1))) = y := ⟨_, rfl⟩
          have HY := Lib.hid fun _ : Unit => hy
          rw [show 8 * k + j + 1 = 8 * k + (j + 1) by omega, hy] at HT
          obtain ⟨x, hx⟩ : ∃ x, bI15 (bt15 (bl s) (8 * k + j)) = x := ⟨_, rfl⟩
          rw [hx] at e1 HT
          clear ha hj hr hb hc hs2 hx hy hlj
          go_wp2_with fail
          refine HT.out.mono ?_
          rintro e w1 ⟨rfl, rfl⟩
          have HR1 := Lib.hid (Row.set HR.out 0 (.int .u16 (y.toNat : Int)))
          have HB1 := Lib.hid (Below.setCell HB.out (p := ⟨g, 0, none⟩) (Nat.le_refl _) (.int .u16 (y.toNat : Int)))
          generalize wr.setCell ⟨g, 0, none⟩ (.int .u16 (y.toNat : Int)) = w2 at *
          have hw : wrap64 (a - 1) = a - 1 := by rw [wrap64]; omega
          go_wp2_with fail
          go_roundw
          case rel => exact ⟨j + 1, a - 1, HJ.out, rfl, by rw [HA.out]; omega, by rw [HY.out ()]; exact HR1.out, HB1.out⟩
          case measure =>
            simp only [intOf]
            omega
        · obtain rfl : j = 8 := by omega
          have ha1 : a = -1 := by omega
          subst ha1
          have HR := Lib.hid hr
          have HB := Lib.hid hb
          clear hr hb hj hgj ha
          go_wp2_with fail
          go_roundw
          case rel => exact ⟨k + 1, HK.out, by go_num, by rw [show 8 * (k + 1) = 8 * k + 8 by omega]; exact HR.out, HB.out⟩
          case measure =>
            have := HK.out
            simp [intOf] <;> omega
    · obtain rfl : k = s.size := by omega
      clear hk hge
      go_wp2_with fail
      go_end0
      exact ⟨rfl, HR.out, HB.out⟩
end Go.Proofs.YtalbcimnnihmnaaGreat
