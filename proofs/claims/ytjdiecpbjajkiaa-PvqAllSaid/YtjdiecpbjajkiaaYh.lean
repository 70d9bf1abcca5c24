/-
  pvq's Bits; the examples of the document (awake). No conditions.
-/
import Derived.Test.YtjdiecpbjajkiaaYg
import Derived.Test.YtjdiecpbjajkiaaLoi
namespace Go.Proofs.Ytjdiecpbjajkiaa
open Go.RowKit
open M
theorem cn_pos (n k : Nat) : 1 ≤ cn13 (n + 1) k := by
  show 1 ≤ ah (cn13 n) k (2 * k) + cn13 n (k - sz (2 * k))
  have h : k - sz (2 * k) = 0 := by unfold sz; omega
  rw [h, cn_none]
  omega
theorem cnI_four (k : Int) (h : ¬ (0 ≤ k ∧ k ≤ 12)) : cnI 4 k = 0 := cnI_out _ _ (decide_eq_false (by omega))
/-- How few bits. -/
def biI (k : Int) : Int := if 0 ≤ k ∧ k ≤ 12 then ((Go.Lib.bitLen (cn13 4 k.toNat - 1) : Nat) : Int) else 0
theorem biI_in (k : Nat) (h : k ≤ 12) : biI k = ((Go.Lib.bitLen (cn13 4 k - 1) : Nat) : Int) := by
  rw [biI, if_pos (by omega), Int.toNat_natCast]
theorem biI_out (k : Int) (h : ¬ (0 ≤ k ∧ k ≤ 12)) : biI k = 0 := if_neg h
set_option maxRecDepth 100000 in
theorem bits_any (k : Int) (w : World) :
    Calls Try.prog 17 #[.int .i64 k] w fun e w' => e = .returned (.int .i64 (biI k)) ∧ Below w.heap.size w w' := by
  have HC := count_any 4 k w
  by_cases h : 0 ≤ k ∧ k ≤ 12
  · obtain ⟨a, rfl⟩ : ∃ a : Nat, k = a := ⟨k.toNat, by omega⟩
    have hc : cnI 4 a = (cn13 4 a : Int) := cnI_in 4 a (by decide) (by omega)
    have HO := Lib.hid (biI_in a (by omega))
    have hp := cn_pos 3 a
    have hb := cn_big 4 a (by decide) (by omega)
    rw [hc] at HC
    obtain ⟨C, hC⟩ : ∃ C, cn13 4 a = C := ⟨_, rfl⟩
    rw [hC] at HC HO hb
    rw [show (3 : Nat) + 1 = 4 from rfl, hC] at hp
    obtain ⟨D, rfl⟩ : ∃ D, C = D + 1 := ⟨C - 1, by omega⟩
    rw [Nat.add_sub_cancel] at HO
    have ew : ((D + 1 : Nat) : Int) - 1 = (D : Int) := by omega
    have HD : Hid (D < 9223372036854775808) := Lib.hid (by omega)
    have HCC := Lib.hid HC
    have hbI : (D : Int) ≤ 152587890625 := by omega
    clear hC hc h hp HC hb
    go_enter Try.func17, Try.ntmps17
    go_wp2_with fail
    refine HCC.out.mono ?_
    rintro e w1 ⟨rfl, hbel⟩
    have HB := Lib.hid hbel
    clear hbel HCC
    go_wp2_with fail
    refine (len_any D w1 HD.out).mono ?_
    rintro e w2 ⟨rfl, rfl⟩
    go_wp2
    go_ret
    exact ⟨by rw [HO.out]; rfl, HB.out⟩
  · rw [cnI_four k h] at HC
    have HO := Lib.hid (biI_out k h)
    clear h
    go_enter Try.func17, Try.ntmps17
    go_wp2_with fail
    refine HC.mono ?_
    rintro e w1 ⟨rfl, hbel⟩
    have HB := Lib.hid hbel
    clear hbel HC
    go_wp2
    go_ret
    exact ⟨by rw [HO.out]; rfl, HB.out⟩
/-- The two lists of the examples. -/
theorem exA : ixI [0, 0, 0, 1] = 0 ∧ ixE [0, 0, 0, 1] = 0 := by decide +kernel
theorem exB : ixI [1, 0, 0, 0] = 6 ∧ ixE [1, 0, 0, 0] = 0 := by decide +kernel
theorem exC : cnI 4 1 = 8 := by decide +kernel
theorem four_ints (a b c d : Int) (g : Nat) (w : World) (hg : w.heap.size = g) : IntsAt (w.alloc (.cells #[.int .i64 a, .int .i64 b, .int .i64 c, .int .i64 d] 3)) (.slice (some ⟨g, 0, none⟩) 4 4) [a, b, c, d] := by
  have hr := row_new w g hg #[.int .i64 a, .int .i64 b, .int .i64 c, .int .i64 d] 3
  exact row_ints (l := [a, b, c, d]) (show Row _ g 3 (iCells [a, b, c, d]) from hr) rfl
set_option maxRecDepth 100000 in
theorem awake_any (w : World) :
    Calls Try.prog 9 #[] w fun e w' => e = .returned (.bool true) ∧ Below w.heap.size w w' := by
  obtain ⟨a1, a2⟩ := exA
  obtain ⟨b1, b2⟩ := exB
  have hB0 : Below w.heap.size w (w.alloc (.cells #[.int .i64 0, .int .i64 0, .int .i64 0, .int .i64 1] 3)) := (Below.refl _ _).alloc (Nat.le_refl _) _
  have HA := index_any [0, 0, 0, 1] (.slice (some ⟨w.heap.size, 0, none⟩) 4 4) (w.alloc (.cells #[.int .i64 0, .int .i64 0, .int .i64 0, .int .i64 1] 3)) (four_ints 0 0 0 1 _ _ rfl) (by decide)
  rw [a1, a2] at HA
  clear a1 a2
  go_enter Try.func9, Try.ntmps9
  go_wp2_with fail
  refine HA.mono ?_
  rintro e w1 ⟨rfl, hb1⟩
  have HB1 := Lib.hid (hB0.trans (hb1.mono hB0.size))
  clear HA hB0 hb1
  have hB0 : Below w1.heap.size w1 (w1.alloc (.cells #[.int .i64 1, .int .i64 0, .int .i64 0, .int .i64 0] 3)) := (Below.refl _ _).alloc (Nat.le_refl _) _
  have HA := index_any [1, 0, 0, 0] (.slice (some ⟨w1.heap.size, 0, none⟩) 4 4) (w1.alloc (.cells #[.int .i64 1, .int .i64 0, .int .i64 0, .int .i64 0] 3)) (four_ints 1 0 0 0 _ _ rfl) (by decide)
  rw [b1, b2] at HA
  clear b1 b2
  go_wp2_with fail
  refine HA.mono ?_
  rintro e w2 ⟨rfl, hb1⟩
  have HB2 := Lib.hid (HB1.out.trans ((hB0.trans (hb1.mono hB0.size)).mono HB1.out.size))
  clear HA hB0 hb1 HB1
  have HC := count_any 4 1 w2
  rw [exC] at HC
  go_wp2_with fail
  refine HC.mono ?_
  rintro e w3 ⟨rfl, hb3⟩
  have HB3 := Lib.hid (HB2.out.trans (hb3.mono HB2.out.size))
  clear HC hb3 HB2
  go_wp2
  go_ret
  exact ⟨rfl, HB3.out⟩
end Go.Proofs.Ytjdiecpbjajkiaa
