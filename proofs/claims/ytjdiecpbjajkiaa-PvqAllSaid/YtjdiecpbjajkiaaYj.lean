/-
  PvqCounts, walked. No conditions.
-/
import Derived.Test.YtjdiecpbjajkiaaYh
namespace Go.Proofs.Ytjdiecpbjajkiaa
open Go.RowKit
open M
theorem count_nat (n k : Nat) (w : World) (hn : n ≤ 8) (hk : k ≤ 12) :
    Calls Try.prog 13 #[.int .i64 (n : Int), .int .i64 (k : Int)] w fun e w' => e = .returned (.int .i64 (cn13 n k : Int)) ∧ Below w.heap.size w w' := by
  have := count_any n k w
  rw [cnI_in n k hn hk] at this
  exact this
theorem count_at (x y : Int) (n k : Nat) (w : World) (hx : x = n) (hy : y = k) (hn : n ≤ 8) (hk : k ≤ 12) :
    Calls Try.prog 13 #[.int .i64 x, .int .i64 y] w fun e w' => e = .returned (.int .i64 (cn13 n k : Int)) ∧ Below w.heap.size w w' := by
  subst hx hy; exact count_nat n k w hn hk
theorem bits_nat (k : Nat) (w : World) (hk : k ≤ 12) :
    Calls Try.prog 17 #[.int .i64 (k : Int)] w fun e w' => e = .returned (.int .i64 ((Go.Lib.bitLen (cn13 4 k - 1) : Nat) : Int)) ∧ Below w.heap.size w w' := by
  have := bits_any k w
  rw [biI_in k hk] at this
  exact this
theorem bits_at (y : Int) (k : Nat) (w : World) (hy : y = k) (hk : k ≤ 12) :
    Calls Try.prog 17 #[.int .i64 y] w fun e w' => e = .returned (.int .i64 ((Go.Lib.bitLen (cn13 4 k - 1) : Nat) : Int)) ∧ Below w.heap.size w w' := by
  subst hy; exact bits_nat k w hk
theorem cn_up (n k : Nat) : cn13 (n + 1) k ≤ cn13 (n + 1) (k + 1) := by
  rw [cn_step]; omega
theorem bl_up (k : Nat) (h : k < 12) : Go.Lib.bitLen (cn13 4 k - 1) ≤ Go.Lib.bitLen (cn13 4 (k + 1) - 1) := by
  have h1 : cn13 4 k ≤ cn13 4 (k + 1) := cn_up 3 k
  have h2 := cn_bd8 4 (k + 1) (by decide) (by omega)
  have h3 := bitLen_lt (cn13 4 (k + 1) - 1) (by omega)
  exact Go.Lib.bitLen_le _ _ (bitLen_64 _ (by omega)) (by omega)
theorem bl_fit (k : Nat) (h : k ≤ 12) : cn13 4 k ≤ 2 ^ Go.Lib.bitLen (cn13 4 k - 1) ∧ Go.Lib.bitLen (cn13 4 k - 1) ≤ 40 := by
  have h0 : 1 ≤ cn13 4 k := cn_pos 3 k
  have h2 := cn_bd8 4 k (by decide) h
  have h3 := bitLen_lt (cn13 4 k - 1) (by omega)
  exact ⟨by omega, Go.Lib.bitLen_le _ 40 (by decide) (by omega)⟩
theorem shl13 (d : Nat) (hd : d ≤ 40) : wrap64 ((2 : Int) ^ d) = ((2 ^ d : Nat) : Int) := by
  have h : (2 : Nat) ^ d ≤ 2 ^ 40 := Nat.pow_le_pow_right (by decide) hd
  have e : (2 : Int) ^ d = ((2 ^ d : Nat) : Int) := by rw [Int.natCast_pow]; rfl
  rw [e]
  generalize (2 : Nat) ^ d = p at *
  rw [wrap64]
  omega
set_option maxRecDepth 100000 in
theorem counts_law (a b : UInt8) (w : World) :
    Calls Try.prog 7 #[.int .u8 (ub a), .int .u8 (ub b)] w fun e w' => e = .returned (.bool true) ∧ Below w.heap.size w w' := by
  obtain ⟨ha1, ha2⟩ := ub_bd a
  obtain ⟨hb1, hb2⟩ := ub_bd b
  generalize ub a = x at *
  generalize ub b = y at *
  obtain ⟨m, hm⟩ : ∃ m : Nat, x % 8 = m := ⟨(x % 8).toNat, by omega⟩
  obtain ⟨q, hq⟩ : ∃ q : Nat, y % 12 = q := ⟨(y % 12).toNat, by omega⟩
  have hm8 : m < 8 := by omega
  have hq12 : q < 12 := by omega
  have hmI : (m : Int) < 8 := by omega
  have hqI : (q : Int) < 12 := by omega
  have HAW := Lib.hid awake_any
  have e1 : (m : Int) + 1 = ((m + 1 : Nat) : Int) := by omega
  have e2 : (q : Int) + 1 = ((q + 1 : Nat) : Int) := by omega
  have C1 := Lib.hid fun w => count_at ((m : Int) + 1) ((q : Int) + 1) (m + 1) (q + 1) w e1 e2 (by omega) (by omega)
  have C2 := Lib.hid fun w => count_at (m : Int) ((q : Int) + 1) m (q + 1) w rfl e2 (by omega) (by omega)
  have C3 := Lib.hid fun w => count_at (m : Int) (q : Int) m q w rfl rfl (by omega) (by omega)
  have C4 := Lib.hid fun w => count_at ((m : Int) + 1) (q : Int) (m + 1) q w e1 rfl (by omega) (by omega)
  have C5 := Lib.hid fun w => count_at (m : Int) 0 m 0 w rfl rfl (by omega) (by omega)
  have C6 := Lib.hid fun w => count_at 4 (q : Int) 4 q w rfl rfl (by omega) (by omega)
  have B1 := Lib.hid fun w => bits_at (q : Int) q w rfl (by omega)
  have B2 := Lib.hid fun w => bits_at ((q : Int) + 1) (q + 1) w e2 (by omega)
  have b1 := cn_big m (q + 1) (by omega) (by omega)
  have b2 := cn_big m q (by omega) (by omega)
  have b3 := cn_big (m + 1) q (by omega) (by omega)
  have hs := cn_more m q (m + 1) (q + 1) rfl rfl
  obtain ⟨f1, f2⟩ := bl_fit q (by omega)
  have f3 := bl_up q (by omega)
  rw [cn_first] at C5
  obtain ⟨ew3, ew4⟩ := wr_three _ _ _ _ hs (Int.natCast_nonneg _) (Int.natCast_nonneg _) (Int.natCast_nonneg _) b1 b2 b3
  have f4 : ((cn13 4 q : Nat) : Int) ≤ ((2 ^ Go.Lib.bitLen (cn13 4 q - 1) : Nat) : Int) := Int.ofNat_le.2 f1
  have f5 : ((Go.Lib.bitLen (cn13 4 q - 1) : Nat) : Int) ≤ ((Go.Lib.bitLen (cn13 4 (q + 1) - 1) : Nat) : Int) := Int.ofNat_le.2 f3
  generalize ((cn13 (m + 1) (q + 1) : Nat) : Int) = c1 at *
  generalize ((cn13 m (q + 1) : Nat) : Int) = c2 at *
  generalize ((cn13 m q : Nat) : Int) = c3 at *
  generalize ((cn13 (m + 1) q : Nat) : Int) = c4 at *
  generalize Go.Lib.bitLen (cn13 4 q - 1) = d1 at *
  generalize Go.Lib.bitLen (cn13 4 (q + 1) - 1) = d2 at *
  generalize ((cn13 4 q : Nat) : Int) = c6 at *
  have HF : Hid (decide (c6 ≤ wrap64 ((2 : Int) ^ min d1 64)) = true) := Lib.hid (decide_eq_true (by rw [Nat.min_eq_left (by omega), shl13 d1 f2]; exact f4))
  clear hs b1 b2 b3 f1 f3 e1 e2 hm8 hq12 f4 f2
  go_enter Try.func7, Try.ntmps7
  go_wp2_with fail
  refine (HAW.out w).mono ?_
  rintro e w1 ⟨rfl, hb⟩
  have HB1 := Lib.hid hb
  clear hb
  go_wp2_with fail
  refine (C1.out w1).mono ?_
  rintro e w2 ⟨rfl, hb⟩
  have HB2 := Lib.hid (HB1.out.trans (hb.mono HB1.out.size))
  clear hb HB1
  go_wp2_with fail
  refine (C2.out w2).mono ?_
  rintro e w3 ⟨rfl, hb⟩
  have HB3 := Lib.hid (HB2.out.trans (hb.mono HB2.out.size))
  clear hb HB2
  go_wp2_with fail
  refine (C3.out w3).mono ?_
  rintro e w4 ⟨rfl, hb⟩
  have HB4 := Lib.hid (HB3.out.trans (hb.mono HB3.out.size))
  clear hb HB3
  go_wp2_with fail
  refine (C4.out w4).mono ?_
  rintro e w5 ⟨rfl, hb⟩
  have HB5 := Lib.hid (HB4.out.trans (hb.mono HB4.out.size))
  clear hb HB4
  go_wp2_with fail
  refine (C5.out w5).mono ?_
  rintro e w6 ⟨rfl, hb⟩
  have HB6 := Lib.hid (HB5.out.trans (hb.mono HB5.out.size))
  clear hb HB5
  go_wp2_with fail
  refine (B1.out w6).mono ?_
  rintro e w7 ⟨rfl, hb⟩
  have HB7 := Lib.hid (HB6.out.trans (hb.mono HB6.out.size))
  clear hb HB6
  go_wp2_with fail
  refine (B2.out w7).mono ?_
  rintro e w8 ⟨rfl, hb⟩
  have HB8 := Lib.hid (HB7.out.trans (hb.mono HB7.out.size))
  clear hb HB7
  go_wp2_with fail
  refine (C6.out w8).mono ?_
  rintro e w9 ⟨rfl, hb⟩
  have HB9 := Lib.hid (HB8.out.trans (hb.mono HB8.out.size))
  clear hb HB8
  go_wp2_with fail
  refine (B1.out w9).mono ?_
  rintro e w10 ⟨rfl, hb⟩
  have HB10 := Lib.hid (HB9.out.trans (hb.mono HB9.out.size))
  clear hb HB9
  go_wp2
  go_ret
  exact ⟨by show Ending.returned (.bool (decide (c6 ≤ wrap64 ((2 : Int) ^ min d1 64)))) = _; rw [HF.out], HB10.out⟩
end Go.Proofs.Ytjdiecpbjajkiaa
