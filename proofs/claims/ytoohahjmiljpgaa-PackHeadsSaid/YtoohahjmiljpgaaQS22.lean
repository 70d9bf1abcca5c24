/-
  Contracts and plain facts that the laws share; each piece is headed by what it holds and its conditions.
-/
import Derived.Test.YtoohahjmiljpgaaQS9
import Derived.Test.YtoohahjmiljpgaaQS8
import Derived.Test.YtoohahjmiljpgaaQS21
import Derived.Test.YtoohahjmiljpgaaQS18
import Derived.Test.YtoohahjmiljpgaaQS10
import Derived.Test.YtoohahjmiljpgaaQS16
import Derived.Sort.Row
import Derived.Shelf.Strconv.Clone
import Derived.Deep.RegionWith

/- Layer 15, the program's sum bit by bit: what takes a bit, its method value, a text's bits handed on. Conditions: the box of the sum lies in a block of its own. -/
namespace Go.Proofs.Ytoohahjmiljpgaa
open Go.RowKit
open M
theorem set_twice (w : World) (g : Nat) (v v' : Value) : (w.setCell ⟨g, 0, none⟩ v).setCell ⟨g, 0, none⟩ v' = w.setCell ⟨g, 0, none⟩ v' := by
  rw [Go.Sort.setCell_eq, Go.Sort.setCell_eq, Go.Sort.mapBlock_mapBlock, Go.Sort.setCell_eq]
  congr 1
  funext c
  simp
/-- The highest bit made one with another one. -/
theorem high_bit (X : BitVec 16) (b : Bool) : (bits .xor .i64 ((X.toNat : Int) / 32768) (bI15 b) == 1) = (X.msb != b) := by
  have hb := X.isLt
  have hm : X.msb = decide (32768 ≤ X.toNat) := BitVec.msb_eq_decide X
  rw [hm]
  by_cases h : 32768 ≤ X.toNat
  · rw [decide_eq_true h, show (X.toNat : Int) / 32768 = 1 by omega]
    cases b <;> decide
  · rw [decide_eq_false h, show (X.toNat : Int) / 32768 = 0 by omega]
    cases b <;> decide
theorem shl_one16 (X : BitVec 16) : IntKind.u16.wrap ((X.toNat : Int) * 2) = ((X <<< 1).toNat : Int) := by
  rw [IntKind.wrap_u16, BitVec.toNat_shiftLeft, Nat.shiftLeft_eq]
  omega
theorem xor_poly (Y : BitVec 16) : bits .xor .u16 (Y.toNat : Int) 4129 = ((Y ^^^ 4129#16).toNat : Int) := by
  rw [BitVec.toNat_xor]
  exact u16_xor_nat _ 4129 Y.isLt (by decide)
set_option maxRecDepth 100000 in
theorem take_any (g : Nat) (X : BitVec 16) (b : Bool) (w : World) (hc : w.cell? ⟨g, 0, none⟩ = some (.int .u16 (X.toNat : Int))) (hf : w.frozen? ⟨g, 0, none⟩ = false) :
    Calls Try.prog 87 #[.pointer (some ⟨g, 0, none⟩), .int .i64 (bI15 b)] w fun e w' => e = .returned (.tuple #[]) ∧ w' = w.setCell ⟨g, 0, none⟩ (.int .u16 ((cst X b).toNat : Int)) := by
  have h1 := high_bit X b
  have h2 := shl_one16 X
  have h3 := xor_poly (X <<< 1)
  obtain ⟨n, hn⟩ : ∃ n, X.toNat = n := ⟨_, rfl⟩
  have hb := X.isLt
  have HY : Hid (cst X b = if X.msb != b then (X <<< 1) ^^^ 4129#16 else X <<< 1) := Lib.hid rfl
  rw [hn] at hc hb h1 h2
  generalize cst X b = y at *
  generalize bI15 b = x at *
  generalize (X.msb != b) = z at *
  generalize X <<< 1 = p at *
  generalize p ^^^ 4129#16 = q at *
  cases z
  · have e : y = p := HY.out
    subst e
    clear HY hn
    go_enter Try.func87, Try.ntmps87
    go_wp2
    go_end0
    exact ⟨rfl, rfl⟩
  · have e : y = q := HY.out
    subst e
    clear HY hn
    go_enter Try.func87, Try.ntmps87
    go_wp2
    go_end0
    exact ⟨rfl, set_twice _ _ _ _⟩
end Go.Proofs.Ytoohahjmiljpgaa

/- Layer 15: a text's bits handed on. Conditions: texts of up to 10000 bytes; the box of the sum lies in a block of its own. -/
namespace Go.Proofs.Ytoohahjmiljpgaa
open Go.RowKit
open M
theorem and_one64 (n : Nat) : bits .and .i64 (n : Int) 1 = ((n % 2 : Nat) : Int) := by
  show IntKind.i64.wrap ((BitVec.ofInt 64 (n : Int) &&& BitVec.ofInt 64 1).toNat : Int) = _
  rw [BitVec.toNat_and, show (BitVec.ofInt 64 1).toNat = 2 ^ 1 - 1 by decide, Nat.and_two_pow_sub_one_eq_mod, BitVec.toNat_ofInt, IntKind.wrap_i64]
  omega
/-- A text's bit, as the program takes it. -/
theorem bit_said (s : ByteArray) (k j : Nat) (a : Int) (hk : k < s.size) (hj : j < 8) (ha : a = 7 - (j : Int)) : bits .and .i64 (wrap64 ((s[k]'hk).toNat : Int) / 2 ^ a.toNat) 1 = bI15 (bt15 (bl s) (8 * k + j)) := by
  have e : (bl s).getD k 0 = s[k] := by
    rw [List.getD_eq_getElem?_getD, List.getElem?_eq_getElem (by exact hk)]
    rfl
  have hb := s[k].toNat_lt
  rw [bt15, show (8 * k + j) / 8 = k by omega, show (8 * k + j) % 8 = j by omega, e]
  generalize s[k].toNat = x at *
  have e2 : wrap64 (x : Int) = (x : Int) := by rw [wrap64]; omega
  have e3 : a.toNat = 7 - j := by omega
  rw [e2, e3]
  have e4 : (x : Int) / 2 ^ (7 - j) = ((x / 2 ^ (7 - j) : Nat) : Int) := by
    rw [Int.natCast_ediv, Int.natCast_pow]; rfl
  rw [e4, and_one64 _]
  rcases Nat.mod_two_eq_zero_or_one (x / 2 ^ (7 - j)) with h0 | h0 <;> rw [h0] <;> rfl
theorem tb_snoc (l : List UInt8) (n : Nat) : tb15 l (n + 1) = tb15 l n ++ [bt15 l n] := by simp [tb15, List.range_succ]
theorem crun_snoc (X : BitVec 16) (l : List UInt8) (n : Nat) : cst (crun X (tb15 l n)) (bt15 l n) = crun X (tb15 l (n + 1)) := by
  rw [tb_snoc, crun_append]; rfl
set_option maxRecDepth 100000 in
theorem split_any (g : Nat) (X : BitVec 16) (s : ByteArray) (w : World) (hs : s.size ≤ 10000) (hr : Row w g 136 #[.int .u16 (X.toNat : Int)]) :
    Calls Try.prog 86 #[.string s, .func (.func 87) #[.pointer (some ⟨g, 0, none⟩)] #[]] w fun e w' => e = .returned (.tuple #[]) ∧ Row w' g 136 #[.int .u16 ((crun X (tbt (bl s))).toNat : Int)] ∧ Below g w w' := by
  have hsI : (s.size : Int) ≤ 10000 := by omega
  have HR := Lib.hid hr
  clear hr
  go_enter Try.func86, Try.ntmps86
  go_wp2_with fail
  go_loopw [8] (fun ii wr => ∃ (k : Nat), k ≤ s.size ∧ ii = .int .i64 k ∧ Row wr g 136 #[.int .u16 ((crun X (tb15 (bl s) (8 * k))).toNat : Int)] ∧ Below g w wr) (fun ii _ => s.size - (intOf ii).toNat)
  case atStart => exact ⟨0, Nat.zero_le _, rfl, HR.out, Below.refl _ _⟩
  case round =>
    clear HR
    obtain ⟨k, hk, rfl, hr, hb⟩ := hrel
    have HR := Lib.hid hr
    have HB := Lib.hid hb
    clear hr hb
    rcases Nat.lt_or_ge k s.size with hlt | hge
    · have hkI : (k : Int) < (s.size : Int) := by omega
      have HK := Lib.hid hlt
      clear hk
      go_wp2_with fail
      go_loopw [5] (fun jj wr => ∃ (j : Nat) (a : Int), j ≤ 8 ∧ jj = .int .i64 a ∧ a = 7 - (j : Int) ∧ Row wr g 136 #[.int .u16 ((crun X (tb15 (bl s) (8 * k + j))).toNat : Int)] ∧ Below g w wr) (fun jj _ => (intOf jj + 1).toNat)
      case atStart => exact ⟨0, 7, by omega, rfl, rfl, HR.out, HB.out⟩
      case round =>
        clear HR HB
        obtain ⟨j, a, hj, rfl, ha, hr, hb⟩ := hrel
        rcases Nat.lt_or_ge j 8 with hlj | hgj
        · have ha0 : 0 ≤ a := by omega
          have ha7 : a ≤ 7 := by omega
          have e1 := bit_said s k j a HK.out hlj ha
          have hs2 := crun_snoc X (bl s) (8 * k + j)
          have hc := (cell_of_row _ _ 0 _ _ (0, 0) hr).trans rfl
          have HT := Lib.hid (take_any g (crun X (tb15 (bl s) (8 * k + j))) (bt15 (bl s) (8 * k + j)) wr hc (Row.free hr 0))
          have HA := Lib.hid ha
          have HJ := Lib.hid hlj
          have HR := Lib.hid hr
          have HB := Lib.hid hb
          rw [hs2] at HT
          obtain ⟨y, hy⟩ : ∃ y, crun X (tb15 (bl s) (8 * k + (j + 1))) = y := ⟨_, rfl⟩
          have HY := Lib.hid fun _ : Unit => hy
          rw [show 8 * k + j + 1 = 8 * k + (j + 1) by omega, hy] at HT
          obtain ⟨x, hx⟩ : ∃ x, bI15 (bt15 (bl s) (8 * k + j)) = x := ⟨_, rfl⟩
          rw [hx] at e1 HT
          clear ha hj hr hb hc hs2 hx hy hlj
          go_wp2_with fail
          refine HT.out.mono ?_
          rintro e w1 ⟨rfl, rfl⟩
          have HR1 := Lib.hid (Row.set HR.out 0 (.int .u16 (y.toNat : Int)))
          have HB1 := Lib.hid (Below.setCell HB.out (p := ⟨g, 0, none⟩) (Nat.le_refl _) (.int .u16 (y.toNat : Int)))
          generalize wr.setCell ⟨g, 0, none⟩ (.int .u16 (y.toNat : Int)) = w2 at *
          have hw : wrap64 (a - 1) = a - 1 := by rw [wrap64]; omega
          go_wp2_with fail
          go_roundw
          case rel => exact ⟨j + 1, a - 1, HJ.out, rfl, by rw [HA.out]; omega, by rw [HY.out ()]; exact HR1.out, HB1.out⟩
          case measure =>
            simp only [intOf]
            omega
        · obtain rfl : j = 8 := by omega
          have ha1 : a = -1 := by omega
          subst ha1
          have HR := Lib.hid hr
          have HB := Lib.hid hb
          clear hr hb hj hgj ha
          go_wp2_with fail
          go_roundw
          case rel => exact ⟨k + 1, HK.out, by go_num, by rw [show 8 * (k + 1) = 8 * k + 8 by omega]; exact HR.out, HB.out⟩
          case measure =>
            have := HK.out
            simp [intOf] <;> omega
    · obtain rfl : k = s.size := by omega
      clear hk hge
      go_wp2_with fail
      go_end0
      exact ⟨rfl, HR.out, HB.out⟩
end Go.Proofs.Ytoohahjmiljpgaa

/- Layer 15: the sum's bytes, More, Sum, Seal and Open of the program. Conditions: texts of up to 10000 bytes. -/
namespace Go.Proofs.Ytoohahjmiljpgaa
open Go.RowKit
open M
def laysStr_ren : Go.Shelf.Ren := ⟨fun | 316 => 79 | n => n, fun | 37 => 44 | 127 => 142 | 9 => 9 | 5 => 5 | 3 => 3 | 4 => 4 | 0 => 0 | n => n, fun | n => n⟩
theorem laysStr : Go.Proofs.LaysM.n316 Try.prog laysStr_ren := {
  mixed := by kernel_rfl
  f316 := Try.func79.trans (congrArg some (by kernel_rfl))
  t0 := Try.underlying0
  a0 := Try.isAgg0
  z0 := Try.sizeOf0
  v0 := Try.zeroValue0
  t3 := Try.underlying3
  a3 := Try.isAgg3
  z3 := Try.sizeOf3
  v3 := Try.zeroValue3
  t4 := Try.underlying4
  a4 := Try.isAgg4
  z4 := Try.sizeOf4
  v4 := Try.zeroValue4
  t9 := Try.underlying9
  a9 := Try.isAgg9
  z9 := Try.sizeOf9
  v9 := Try.zeroValue9
  t37 := Try.underlying44
  a37 := Try.isAgg44
  z37 := Try.sizeOf44
  v37 := Try.zeroValue44
  t127 := Try.underlying142
  a127 := Try.isAgg142
  z127 := Try.sizeOf142
  v127 := Try.zeroValue142
  t5 := Try.underlying5
  a5 := Try.isAgg5
  z5 := Try.sizeOf5
  v5 := Try.zeroValue5
  i0 := by kernel_rfl
  i3 := by kernel_rfl
  i4 := by kernel_rfl
  i5 := by kernel_rfl
  i9 := by kernel_rfl
  i37 := by kernel_rfl
  i127 := by kernel_rfl }
theorem clone_text (s : ByteArray) (w : World) (hs : s.size ≤ 10000) :
    Calls Try.prog 54 #[.string s] w fun e w' => e = .returned (.string s) ∧ Below w.heap.size w w' := by
  have H := Lib.hid (Any.stringslite_Clone laysStr s w (by omega))
  go_enter Try.func54, Try.ntmps54
  go_wp2_with fail
  refine Calls.mono H.out ?_
  rintro e w' ⟨rfl, hb⟩
  go_wp2
  go_ret
  exact ⟨rfl, hb⟩
theorem laid_any (n : Nat) (w : World) :
    Calls Try.prog 51 #[.int .i64 (n : Int)] w fun e w' => e = .returned (.string (ld15 n)) ∧ Below w.heap.size w w' := by
  obtain ⟨a, ha⟩ : ∃ a, UInt8.ofNat (n / 256) = a := ⟨_, rfl⟩
  obtain ⟨b, hb⟩ : ∃ b, UInt8.ofNat (n % 256) = b := ⟨_, rfl⟩
  have e1 := ub_hi n
  have e2 := ub_lo n
  rw [ha] at e1
  rw [hb] at e2
  have k1 : IntKind.u8.wrap ((n : Int) / 256) = ub a := by rw [IntKind.wrap_u8', e1]; omega
  have k2 : IntKind.u8.wrap (n : Int) = ub b := by rw [IntKind.wrap_u8', e2]; omega
  have kc := conv_two w w.heap.size a b 5 rfl
  have HL : Hid (ld15 n = ofB [a, b]) := Lib.hid (by unfold ld15; rw [ha, hb])
  clear ha hb e1 e2
  go_enter Try.func51, Try.ntmps51
  go_wp2
  go_ret
  exact ⟨by rw [HL.out]; rfl, (Below.refl _ _).alloc (Nat.le_refl _) _⟩
theorem more15_any (r : Int) (s : ByteArray) (w : World) (hs : s.size ≤ 10000) :
    Calls Try.prog 72 #[.int .i64 r, .string s] w fun e w' => e = .returned (.int .i64 (sm15 r (bl s) : Nat)) ∧ Below w.heap.size w w' := by
  obtain ⟨X, hX⟩ : ∃ X, BitVec.ofNat 16 (r % 65536).toNat = X := ⟨_, rfl⟩
  have e1 : IntKind.u16.wrap r = (X.toNat : Int) := by rw [← hX, IntKind.wrap_u16, BitVec.toNat_ofNat]; omega
  have HE : Hid (sm15 r (bl s) = (crun X (tbt (bl s))).toNat) := Lib.hid (by rw [← hX]; rfl)
  have HS := Lib.hid fun (g : Nat) (w : World) => split_any g X s w hs
  have HR : Hid (Row (w.alloc (.cells #[.int .u16 (X.toNat : Int)] 136)) w.heap.size 136 #[.int .u16 (X.toNat : Int)]) := Lib.hid (row_new w _ rfl _ _)
  have HB := Lib.hid ((Below.refl w.heap.size w).alloc (Nat.le_refl _) (.cells #[.int .u16 (X.toNat : Int)] 136))
  obtain ⟨y, hy⟩ : ∃ y, crun X (tbt (bl s)) = y := ⟨_, rfl⟩
  rw [hy] at HE HS
  have hyb := y.isLt
  have e2 : wrap64 (y.toNat : Int) = (y.toNat : Int) := by rw [wrap64]; omega
  rw [HE.out]
  clear hX hy HE hyb hs
  obtain ⟨n, hn⟩ : ∃ n, X.toNat = n := ⟨_, rfl⟩
  rw [hn] at e1 HR HB HS
  clear hn
  obtain ⟨m, hm⟩ : ∃ m, y.toNat = m := ⟨_, rfl⟩
  rw [hm] at e2 HS ⊢
  clear hm
  go_enter Try.func72, Try.ntmps72
  go_wp2_with fail
  refine (HS.out _ _ HR.out).mono ?_
  rintro e w1 ⟨rfl, hr, hb⟩
  have HB1 := Lib.hid (HB.out.trans hb)
  have c0 : w1.cell? ⟨w.heap.size, 0, none⟩ = some (.int .u16 (m : Int)) := (cell_of_row _ _ 0 _ _ (0, 0) hr).trans rfl
  clear hr hb HR HB HS
  go_wp2
  go_ret
  exact ⟨ret_eq e2, HB1.out⟩
theorem sum_any15 (s : ByteArray) (w : World) (hs : s.size ≤ 10000) :
    Calls Try.prog 52 #[.string s] w fun e w' => e = .returned (.int .i64 (sm15 65535 (bl s) : Nat)) ∧ Below w.heap.size w w' := by
  have H := Lib.hid (more15_any 65535 s w hs)
  generalize sm15 65535 (bl s) = m at *
  go_enter Try.func52, Try.ntmps52
  go_wp2_with fail
  refine Calls.mono H.out ?_
  rintro e w' ⟨rfl, hb⟩
  go_wp2
  go_ret
  exact ⟨rfl, hb⟩
set_option maxRecDepth 100000 in
theorem seal_any (s : ByteArray) (w : World) (hs : s.size ≤ 10000) :
    Calls Try.prog 24 #[.string s] w fun e w' => e = .returned (.string (s ++ ld15 (sm15 65535 (bl s)))) ∧ Below w.heap.size w w' := by
  have H := Lib.hid (sum_any15 s w hs)
  generalize sm15 65535 (bl s) = m at *
  have HL := Lib.hid fun w => laid_any m w
  have hsz : (ld15 m).size = 2 := rfl
  generalize ld15 m = t at *
  go_enter Try.func24, Try.ntmps24
  go_wp2_with fail
  refine Calls.mono H.out ?_
  rintro e w1 ⟨rfl, hb⟩
  go_wp2_with fail
  refine (HL.out _).mono ?_
  rintro e w2 ⟨rfl, hb2⟩
  have HB := Lib.hid (hb.trans (hb2.mono hb.size))
  clear hb hb2
  go_wp2
  go_ret
  exact ⟨rfl, HB.out⟩
theorem text_same (b t : ByteArray) (h : b = t) : (@BEq.beq (List UInt8) (@List.instBEq UInt8 (@instBEqOfDecidableEq UInt8 instDecidableEqUInt8)) b.toList t.toList) = true := by
  subst h
  exact beq_self_eq_true _
theorem text_other (b t : ByteArray) (h : ¬ b = t) : (@BEq.beq (List UInt8) (@List.instBEq UInt8 (@instBEqOfDecidableEq UInt8 instDecidableEqUInt8)) b.toList t.toList) = false := by
  rw [beq_eq_false_iff_ne]
  intro e
  rw [toList_bl, toList_bl] at e
  exact h (bl_inj e)
/-- What Open answers. -/
def opT (s : ByteArray) : ByteArray := if s.size < 2 then ByteArray.empty else if s.extract (s.size - 2) s.size = ld15 (sm15 65535 (bl (s.extract 0 (s.size - 2)))) then s.extract 0 (s.size - 2) else ByteArray.empty
def opE (s : ByteArray) : Int := if s.size < 2 then 2 else if s.extract (s.size - 2) s.size = ld15 (sm15 65535 (bl (s.extract 0 (s.size - 2)))) then 0 else 4
set_option maxRecDepth 100000 in
theorem open_any15 (s : ByteArray) (w : World) (hs : s.size ≤ 10000) :
    Calls Try.prog 27 #[.string s] w fun e w' => e = .returned (.tuple #[.string (opT s), .int .i64 (opE s)]) ∧ Below w.heap.size w w' := by
  have hsI : (s.size : Int) ≤ 10000 := by omega
  by_cases h2 : s.size < 2
  · have e1 : opT s = ByteArray.empty := by unfold opT; rw [if_pos h2]
    have e2 : opE s = 2 := by unfold opE; rw [if_pos h2]
    have h2I : (s.size : Int) - 2 < 0 := by omega
    have hw : wrap64 ((s.size : Int) - 2) = (s.size : Int) - 2 := by rw [wrap64]; omega
    rw [e1, e2]
    clear e1 e2 h2 hs
    go_enter Try.func27, Try.ntmps27
    go_wp2
    go_ret2
    exact ⟨rfl, Below.refl _ _⟩
  · obtain ⟨n, hn⟩ : ∃ n, s.size = n + 2 := ⟨s.size - 2, by omega⟩
    have hw : (s.size : Int) - 2 = (n : Int) := by omega
    obtain ⟨a, ha⟩ : ∃ a, s.extract 0 n = a := ⟨_, rfl⟩
    obtain ⟨b, hb⟩ : ∃ b, s.extract n s.size = b := ⟨_, rfl⟩
    have hasz : a.size ≤ 10000 := by rw [← ha, ByteArray.size_extract]; omega
    have hl : ∀ w, _ := fun w => laid_any (sm15 65535 (bl a)) w
    have hsu : ∀ w, _ := fun w => sum_any15 a w hasz
    have hcl := Lib.hid fun w => clone_text a w hasz
    have HT : Hid (opT s = if b = ld15 (sm15 65535 (bl a)) then a else ByteArray.empty) := Lib.hid (by unfold opT; rw [if_neg h2, show s.size - 2 = n by omega, ha, hb])
    have HE : Hid (opE s = if b = ld15 (sm15 65535 (bl a)) then 0 else 4) := Lib.hid (by unfold opE; rw [if_neg h2, show s.size - 2 = n by omega, ha, hb])
    generalize sm15 65535 (bl a) = m at *
    generalize ld15 m = t at *
    generalize opT s = x at *
    generalize opE s = y at *
    have HT1 : Hid (∀ d os, Calls Try.prog 52 #[.string a] (Sort.grow (redrawn w d) os) fun e w'' => e = .returned (.int .i64 (m : Int)) ∧ ∃ p : Regrown, w'' = Sort.grow (redrawn w p.d) p.os) :=
      Lib.hid fun d os => Calls.regrown_of (hsu _)
    have HT2 : Hid (∀ d os, Calls Try.prog 51 #[.int .i64 (m : Int)] (Sort.grow (redrawn w d) os) fun e w'' => e = .returned (.string t) ∧ ∃ p : Regrown, w'' = Sort.grow (redrawn w p.d) p.os) :=
      Lib.hid fun d os => Calls.regrown_of (hl _)
    clear hsu hl hs hasz h2
    have hnI : (n : Int) ≤ (s.size : Int) := by omega
    have hnI0 : ¬ (n : Int) < 0 := by omega
    have hnn : n ≤ s.size := by omega
    clear hn
    go_enter Try.func27, Try.ntmps27
    go_wp2_with fail
    refine wp_region_quiet_below (by kernel_rfl) (by kernel_rfl) ?_
    repeat (quiet_step (first | (go_at_call 52; exact HT1.out _ _) | (go_at_call 51; exact HT2.out _ _)))
    refine wpQuiet_nil ?_
    intro _ hw'
    obtain ⟨⟨dq, osq⟩, hw''⟩ := hw'
    subst hw''
    have HB := Lib.hid ((below_regrown w dq osq))
    generalize Sort.grow (redrawn w dq) osq = wq at *
    clear HT1 HT2
    by_cases he : b = t
    · have e1 : x = a := by rw [HT.out, if_pos he]
      have e2 : y = 0 := by rw [HE.out, if_pos he]
      rw [text_same b t he, Bool.not_true]
      subst e1
      subst e2
      clear HT HE
      go_wp2_with fail
      refine (hcl.out _).mono ?_
      rintro e w2 ⟨rfl, hb2⟩
      have HB2 := Lib.hid (HB.out.trans (hb2.mono HB.out.size))
      clear hb2 HB
      go_wp2
      go_ret2
      exact ⟨rfl, HB2.out⟩
    · have e1 : x = ByteArray.empty := by rw [HT.out, if_neg he]
      have e2 : y = 4 := by rw [HE.out, if_neg he]
      rw [text_other b t he, Bool.not_false]
      subst e1
      subst e2
      clear HT HE he
      go_wp2
      go_ret2
      exact ⟨rfl, HB.out⟩
end Go.Proofs.Ytoohahjmiljpgaa

/- Layer 19, plain: what pack's Read has read, step by step. No conditions but those that each fact names. -/
namespace Go.Proofs.Ytoohahjmiljpgaa
open Go.RowKit
open M
theorem rdF_at (s : List UInt8) : ∀ (ns : List Nat) (a i : Nat), i < ns.length → (rdF s a ns).getD i 0 = numOf (readB s (a + (ns.take i).sum) (ns.getD i 0))
  | [], _, _, h => absurd h (by simp)
  | n :: ns, a, 0, _ => by simp [rdF]
  | n :: ns, a, i + 1, h => by
    have := rdF_at s ns (a + n) i (by simpa using h)
    simp only [rdF, List.getD_cons_succ, List.take_succ_cons, List.sum_cons]
    rw [this, Nat.add_assoc]
/-- Where a text is read from, behind b bands. -/
def ps19 (s : ByteArray) (b : Nat) : Nat := 48 + ((wds (sd19 s) s.size).take b).sum
theorem ps_zero (s : ByteArray) : ps19 s 0 = 48 := by simp [ps19]
theorem sum_take (L : List Nat) (b : Nat) (h : b < L.length) : (L.take (b + 1)).sum = (L.take b).sum + L.getD b 0 := by
  rw [List.take_add_one, List.sum_append, List.getElem?_eq_getElem h, List.getD_eq_getElem?_getD, List.getElem?_eq_getElem h]
  simp
theorem ps_step (s : ByteArray) (b : Nat) (hb : b < 8) : ps19 s (b + 1) = ps19 s b + btc (kp19 s b) := by
  unfold ps19
  rw [sum_take _ b (by rw [wds_len]; exact hb), wds_getD _ _ _ hb, Nat.add_assoc]
  rfl
theorem ps_full (s : ByteArray) : ps19 s 8 = 48 + lo19 s := by
  unfold ps19 lo19
  rw [List.take_of_length_le (by rw [wds_len]; exact Nat.le_refl _)]
theorem take_sum_le : ∀ (L : List Nat) (b : Nat), (L.take b).sum ≤ L.sum
  | [], b => by simp
  | x :: L, 0 => by simp
  | x :: L, b + 1 => by
    have := take_sum_le L b
    simp only [List.take_succ_cons, List.sum_cons]
    omega
theorem ps_le (s : ByteArray) (b : Nat) (h : 12 ≤ s.size) : ps19 s b ≤ 8 * (s.size - 2) := by
  have h1 := take_sum_le (wds (sd19 s) s.size) b
  have h2 := wds_sum (sd19 s) s.size
  unfold ps19
  omega
theorem ix_read (s : ByteArray) (b : Nat) (hb : b < 8) : (ix19 s).getD b 0 = numOf (readB (bd19 s) (ps19 s b) (btc (kp19 s b))) := by
  unfold ix19
  rw [rdF_at _ _ _ _ (by rw [wds_len]; exact hb), wds_getD _ _ _ hb]
  rfl
/-- The shape, as far as b bands. -/
def shN (s : ByteArray) (b : Nat) : List Int := (List.range 40).map fun p => if p < 8 then ((sd19 s).getD p 0 : Int) else if p < 8 + 4 * b then (vc13 4 (kp19 s ((p - 8) / 4)) ((ix19 s).getD ((p - 8) / 4) 0)).getD ((p - 8) % 4) 0 else 0
theorem shN_len (s : ByteArray) (b : Nat) : (shN s b).length = 40 := by simp [shN]
theorem shN_full (s : ByteArray) : shN s 8 = sh19 s := by
  refine (tm_ext _ 40 _ (shN_len _ _) fun p hp => ?_)
  unfold shN
  rw [tm_getD _ _ _ hp]
  by_cases h : p < 8
  · rw [if_pos h, if_pos h]
  · rw [if_neg h, if_neg h, if_pos (by omega)]
/-- The steps that head read. -/
theorem head_sd (s : ByteArray) : sdp (bd19 s) 8 = (sd19 s).map fun x : Nat => (x : Int) := (rd_head (bd19 s)).2
theorem head_fr (s : ByteArray) : numOf (readB (bd19 s) 0 16) = fr19 s := (rd_head (bd19 s)).1.symm
theorem shN_zero (s : ByteArray) : ppu (zp41.set 0 (fr19 s : Int)) 1 (sdp (bd19 s) 8) = (fr19 s : Int) :: shN s 0 := by
  refine Eq.symm (tm_ext _ _ _ (by simp [zp41, shN_len]) fun p hp => ?_)
  have hp41 : p < 41 := by simpa [zp41] using hp
  rw [sdp_len, head_sd]
  cases p with
  | zero => rw [if_neg (by omega)]; rfl
  | succ p =>
    show (shN s 0).getD p 0 = _
    unfold shN
    rw [tm_getD _ _ _ (by omega)]
    by_cases h : p < 8
    · rw [if_pos h, if_pos (by omega), Nat.add_sub_cancel, List.getD_eq_getElem?_getD, List.getD_eq_getElem?_getD, List.getElem?_map, List.getElem?_eq_getElem (by rw [sd19_len]; exact h)]
      rfl
    · rw [if_neg h, if_neg (by omega), if_neg (by omega)]
      show _ = (List.replicate 40 (0 : Int)).getD p 0
      rw [List.getD_eq_getElem?_getD, List.getElem?_replicate]
      split <;> rfl
theorem shN_put (s : ByteArray) (b : Nat) (y : List Int) (hb : b < 8) (hy : y = vc13 4 (kp19 s b) ((ix19 s).getD b 0)) (h4 : y.length = 4) : ppu ((fr19 s : Int) :: shN s b) (9 + b * 4) y = (fr19 s : Int) :: shN s (b + 1) := by
  refine Eq.symm (tm_ext _ _ _ (by simp [shN_len]) fun p hp => ?_)
  have hp41 : p < 41 := by simpa [shN_len] using hp
  rw [h4]
  cases p with
  | zero => rw [if_neg (by omega)]; rfl
  | succ p =>
    show (shN s (b + 1)).getD p 0 = _
    have e0 : ((fr19 s : Int) :: shN s b).getD (p + 1) 0 = (shN s b).getD p 0 := rfl
    rw [e0]
    unfold shN
    rw [tm_getD _ _ _ (by omega), tm_getD _ _ _ (by omega)]
    by_cases h : p < 8
    · rw [if_pos h, if_neg (by omega), if_pos h]
    · rw [if_neg h, if_neg h]
      by_cases h1 : p < 8 + 4 * b
      · rw [if_pos (by omega), if_neg (by omega), if_pos h1]
      · by_cases h2 : p < 8 + 4 * (b + 1)
        · rw [if_pos h2, if_pos (by omega), show (p - 8) / 4 = b by omega, hy]
          congr 1
          omega
        · rw [if_neg h2, if_neg (by omega), if_neg h1]
theorem zpk : pk0 = zp41 := rfl
theorem e19_arg (s : ByteArray) (h : ¬ (12 ≤ s.size ∧ s.size ≤ 24)) : e19 s = 1 ∧ p19 s = zp41 := by
  have e : e19 s = 1 := if_neg h
  exact ⟨e, by unfold p19; rw [e]; rfl⟩
theorem e19_sum (s : ByteArray) (h : 12 ≤ s.size ∧ s.size ≤ 24) (h2 : so19 s = false) : e19 s = 4 ∧ p19 s = zp41 := by
  have e : e19 s = 4 := by unfold e19; rw [if_pos h, if_neg (by rw [h2]; decide)]
  exact ⟨e, by unfold p19; rw [e]; rfl⟩
theorem e19_form (s : ByteArray) (h : 12 ≤ s.size ∧ s.size ≤ 24) (h2 : so19 s = true) (h3 : fo19 s = false) : e19 s = 3 ∧ p19 s = zp41 := by
  have e : e19 s = 3 := by unfold e19; rw [if_pos h, if_pos h2, if_neg (by rw [h3]; decide)]
  exact ⟨e, by unfold p19; rw [e]; rfl⟩
theorem e19_ok (s : ByteArray) (h : 12 ≤ s.size ∧ s.size ≤ 24) (h2 : so19 s = true) (h3 : fo19 s = true) : e19 s = 0 ∧ p19 s = (fr19 s : Int) :: shN s 8 := by
  have e : e19 s = 0 := by unfold e19; rw [if_pos h, if_pos h2, if_pos h3]
  exact ⟨e, by unfold p19; rw [if_pos e, shN_full]⟩
/-- What opening says. -/
theorem open_so (s : ByteArray) (h : 12 ≤ s.size) : (so19 s = true → opE s = 0 ∧ bl (opT s) = bd19 s) ∧ (so19 s = false → opE s = 4) := by
  have hl : (bl s).length = (s.size - 2) + 2 := by rw [bl_length]; omega
  have hs := sealed_iff (bl s) (s.size - 2) hl
  rw [ofB_bl] at hs
  have hsz : ¬ s.size < 2 := by omega
  have oE : opE s = if s.extract (s.size - 2) s.size = ld15 (sm15 65535 (bl (s.extract 0 (s.size - 2)))) then 0 else 4 := if_neg hsz
  have oT : opT s = if s.extract (s.size - 2) s.size = ld15 (sm15 65535 (bl (s.extract 0 (s.size - 2)))) then s.extract 0 (s.size - 2) else ByteArray.empty := if_neg hsz
  unfold so19
  rw [oE, oT]
  constructor
  · intro h2
    have h3 := hs.2 (beq_iff_eq.1 h2)
    rw [if_pos h3, if_pos h3]
    refine ⟨rfl, ?_⟩
    rw [bl_extract, List.drop_zero, Nat.sub_zero]
    rfl
  · intro h2
    have h3 : ¬ s.extract (s.size - 2) s.size = ld15 (sm15 65535 (bl (s.extract 0 (s.size - 2)))) := fun e => by
      rw [beq_eq_false_iff_ne] at h2
      exact h2 (hs.1 e)
    rw [if_neg h3]
theorem fo_band (s : ByteArray) (b : Nat) (hb : b < 8) (h : ¬ (ix19 s).getD b 0 < cn13 4 (kp19 s b)) : fo19 s = false := by
  have : ((List.range 8).all fun b => decide ((ix19 s).getD b 0 < cn13 4 (kp19 s b))) = false := by
    rw [List.all_eq_false]
    exact ⟨b, List.mem_range.2 hb, by simpa using h⟩
  unfold fo19
  rw [this, Bool.false_and]
theorem allz_rep (l : List Bool) : allz l = (l == List.replicate l.length false) := by
  induction l with
  | nil => rfl
  | cons b l ih =>
    show (!b && allz l) = ((b :: l) == (false :: List.replicate l.length false))
    rw [ih]
    cases b <;> simp
theorem fo_all (s : ByteArray) (h : ∀ b, b < 8 → (ix19 s).getD b 0 < cn13 4 (kp19 s b)) : fo19 s = allz (readB (bd19 s) (ps19 s 8) (8 * (s.size - 2) - ps19 s 8)) := by
  have h1 : ((List.range 8).all fun b => decide ((ix19 s).getD b 0 < cn13 4 (kp19 s b))) = true := by
    rw [List.all_eq_true]
    exact fun b hb => decide_eq_true (h b (List.mem_range.1 hb))
  unfold fo19
  rw [h1, Bool.true_and, allz_rep, readB_length, ps_full, show 8 * (s.size - 2) - (48 + lo19 s) = 8 * s.size - 64 - lo19 s by omega]
/-- What give's Pulses says of the steps that were read. -/
theorem pu_read (s : ByteArray) (h : 12 ≤ s.size ∧ s.size ≤ 24) : puI (sdp (bd19 s) 8) (8 * (s.size : Int) - 64) = kl18 (kp19 s) ∧ puE (sdp (bd19 s) 8) (8 * (s.size : Int) - 64) = 0 := by
  have hd : ∀ b, b < 8 → (sdp (bd19 s) 8).getD b 0 = ((sd19 s).getD b 0 : Int) := fun b hb => by
    rw [head_sd, List.getD_eq_getElem?_getD, List.getD_eq_getElem?_getD, List.getElem?_map, List.getElem?_eq_getElem (by rw [sd19_len]; exact hb)]
    rfl
  have hr : rt17 (sdp (bd19 s) 8) = true := (rt_iff _).2 fun b hb => by
    have := sd19_lt s b hb
    rw [hd b hb]
    omega
  have ho : ok18 (sdp (bd19 s) 8) (8 * (s.size : Int) - 64) := ⟨hr, by omega, by omega⟩
  unfold puI puE
  rw [if_pos ho, if_pos ho, show (8 * (s.size : Int) - 64).toNat = 8 * s.size - 64 by omega]
  refine ⟨?_, rfl⟩
  have e : (fun b => (sdp (bd19 s) 8).getD b 0) = fun b => ((sd19 s).getD b 0 : Int) := by
    funext b
    rcases Nat.lt_or_ge b 8 with hb | hb
    · exact hd b hb
    · rw [List.getD_eq_getElem?_getD, List.getElem?_eq_none (by rw [sdp_len]; exact hb), List.getD_eq_getElem?_getD, List.getElem?_eq_none (by rw [sd19_len]; exact hb)]
      rfl
  rw [e]
  rfl
end Go.Proofs.Ytoohahjmiljpgaa
