/-
  Layer 15: a text's bits handed on. Conditions: texts of up to 10000 bytes; the box of the sum lies in a block of its own.
-/
import Derived.Test.YtlpeifdmhfjhpaaCsa
namespace Go.Proofs.Ytlpeifdmhfjhpaa
open Go.RowKit
open M
theorem and_one64 (n : Nat) : bits .and .i64 (n : Int) 1 = ((n % 2 : Nat) : Int) := by
  show IntKind.i64.wrap ((BitVec.ofInt 64 (n : Int) &&& BitVec.ofInt 64 1).toNat : Int) = _
  rw [BitVec.toNat_and, show (BitVec.ofInt 64 1).toNat = 2 ^ 1 - 1 by decide, Nat.and_two_pow_sub_one_eq_mod, BitVec.toNat_ofInt, IntKind.wrap_i64]
  omega
/-- A text's bit, as the program takes it. -/
theorem bit_said (s : ByteArray) (k j : Nat) (a : Int) (hk : k < s.size) (hj : j < 8) (ha : a = 7 - (j : Int)) : bits .and .i64 (wrap64 ((s[k]'hk).toNat : Int) / 2 ^ a.toNat) 1 = bI15 (bt15 (bl s) (8 * k + j)) := by
  have e : (bl s).getD k 0 = s[k] := by
    rw [List.getD_eq_getElem?_getD, List.getElem?_eq_getElem (by exact hk)]
    rfl
  have hb := s[k].toNat_lt
  rw [bt15, show (8 * k + j) / 8 = k by omega, show (8 * k + j) % 8 = j by omega, e]
  generalize s[k].toNat = x at *
  have e2 : wrap64 (x : Int) = (x : Int) := by rw [wrap64]; omega
  have e3 : a.toNat = 7 - j := by omega
  rw [e2, e3]
  have e4 : (x : Int) / 2 ^ (7 - j) = ((x / 2 ^ (7 - j) : Nat) : Int) := by
    rw [Int.natCast_ediv, Int.natCast_pow]; rfl
  rw [e4, and_one64 _]
  rcases Nat.mod_two_eq_zero_or_one (x / 2 ^ (7 - j)) with h0 | h0 <;> rw [h0] <;> rfl
theorem tb_snoc (l : List UInt8) (n : Nat) : tb15 l (n + 1) = tb15 l n ++ [bt15 l n] := by simp [tb15, List.range_succ]
theorem crun_snoc (X : BitVec 16) (l : List UInt8) (n : Nat) : cst (crun X (tb15 l n)) (bt15 l n) = crun X (tb15 l (n + 1)) := by
  rw [tb_snoc, crun_append]; rfl
set_option maxRecDepth 100000 in
theorem split_any (g : Nat) (X : BitVec 16) (s : ByteArray) (w : World) (hs : s.size ≤ 10000) (hr : Row w g 36 #[.int .u16 (X.toNat : Int)]) :
    Calls Try.prog 15 #[.string s, .func (.func 16) #[.pointer (some ⟨g, 0, none⟩)] #[]] w fun e w' => e = .returned (.tuple #[]) ∧ Row w' g 36 #[.int .u16 ((crun X (tbt (bl s))).toNat : Int)] ∧ Below g w w' := by
  have hsI : (s.size : Int) ≤ 10000 := by omega
  have HR := Lib.hid hr
  clear hr
  go_enter Try.func15, Try.ntmps15
  go_wp2_with fail
  go_loopw [8] (fun ii wr => ∃ (k : Nat), k ≤ s.size ∧ ii = .int .i64 k ∧ Row wr g 36 #[.int .u16 ((crun X (tb15 (bl s) (8 * k))).toNat : Int)] ∧ Below g w wr) (fun ii _ => s.size - (intOf ii).toNat)
  case atStart => exact ⟨0, Nat.zero_le _, rfl, HR.out, Below.refl _ _⟩
  case round =>
    clear HR
    obtain ⟨k, hk, rfl, hr, hb⟩ := hrel
    have HR := Lib.hid hr
    have HB := Lib.hid hb
    clear hr hb
    rcases Nat.lt_or_ge k s.size with hlt | hge
    · have hkI : (k : Int) < (s.size : Int) := by omega
      have HK := Lib.hid hlt
      clear hk
      go_wp2_with fail
      go_loopw [5] (fun jj wr => ∃ (j : Nat) (a : Int), j ≤ 8 ∧ jj = .int .i64 a ∧ a = 7 - (j : Int) ∧ Row wr g 36 #[.int .u16 ((crun X (tb15 (bl s) (8 * k + j))).toNat : Int)] ∧ Below g w wr) (fun jj _ => (intOf jj + 1).toNat)
      case atStart => exact ⟨0, 7, by omega, rfl, rfl, HR.out, HB.out⟩
      case round =>
        clear HR HB
        obtain ⟨j, a, hj, rfl, ha, hr, hb⟩ := hrel
        rcases Nat.lt_or_ge j 8 with hlj | hgj
        · have ha0 : 0 ≤ a := by omega
          have ha7 : a ≤ 7 := by omega
          have e1 := bit_said s k j a HK.out hlj ha
          have hs2 := crun_snoc X (bl s) (8 * k + j)
          have hc := (cell_of_row _ _ 0 _ _ (0, 0) hr).trans rfl
          have HT := Lib.hid (take_any g (crun X (tb15 (bl s) (8 * k + j))) (bt15 (bl s) (8 * k + j)) wr hc (Row.free hr 0))
          have HA := Lib.hid ha
          have HJ := Lib.hid hlj
          have HR := Lib.hid hr
          have HB := Lib.hid hb
          rw [hs2] at HT
          obtain ⟨y, hy⟩ : ∃ y, crun X (tb15 (bl s) (8 * k + (j + 1))) = y := ⟨_, rfl⟩
          have HY := Lib.hid fun _ : Unit => hy
          rw [show 8 * k + j + 1 = 8 * k + (j + 1) by omega, hy] at HT
          obtain ⟨x, hx⟩ : ∃ x, bI15 (bt15 (bl s) (8 * k + j)) = x := ⟨_, rfl⟩
          rw [hx] at e1 HT
          clear ha hj hr hb hc hs2 hx hy hlj
          go_wp2_with fail
          refine HT.out.mono ?_
          rintro e w1 ⟨rfl, rfl⟩
          have HR1 := Lib.hid (Row.set HR.out 0 (.int .u16 (y.toNat : Int)))
          have HB1 := Lib.hid (Below.setCell HB.out (p := ⟨g, 0, none⟩) (Nat.le_refl _) (.int .u16 (y.toNat : Int)))
          generalize wr.setCell ⟨g, 0, none⟩ (.int .u16 (y.toNat : Int)) = w2 at *
          have hw : wrap64 (a - 1) = a - 1 := by rw [wrap64]; omega
          go_wp2_with fail
          go_roundw
          case rel => exact ⟨j + 1, a - 1, HJ.out, rfl, by rw [HA.out]; omega, by rw [HY.out ()]; exact HR1.out, HB1.out⟩
          case measure =>
            simp only [intOf]
            omega
        · obtain rfl : j = 8 := by omega
          have ha1 : a = -1 := by omega
          subst ha1
          have HR := Lib.hid hr
          have HB := Lib.hid hb
          clear hr hb hj hgj ha
          go_wp2_with fail
          go_roundw
          case rel => exact ⟨k + 1, HK.out, by go_num, by rw [show 8 * (k + 1) = 8 * k + 8 by omega]; exact HR.out, HB.out⟩
          case measure =>
            have := HK.out
            simp [intOf] <;> omega
    · obtain rfl : k = s.size := by omega
      clear hk hge
      go_wp2_with fail
      go_end0
      exact ⟨rfl, HR.out, HB.out⟩
end Go.Proofs.Ytlpeifdmhfjhpaa
