/-
  lift's Part, Factors and held: a number's part by a factor, an angle's factors, whether a number can be turned. Conditions: an int each.
-/
import Derived.Test.YtpfdjddjoclldaaROf
import Derived.Test.YtpfdjddjoclldaaRM1
namespace Go.Proofs.Ytpfdjddjoclldaa
open Go.RowKit
open M
/-- What Part answers. -/
def prtG (x m : Int) : Int := if -70368744177664 ≤ x ∧ x ≤ 70368744177664 ∧ 0 ≤ m ∧ m ≤ 32768 then prt x m else 0
theorem prtG_in (x m : Int) (h1 : -70368744177664 ≤ x) (h2 : x ≤ 70368744177664) (h3 : 0 ≤ m) (h4 : m ≤ 32768) : prtG x m = prt x m := if_pos ⟨h1, h2, h3, h4⟩
theorem mul61 (x m : Int) (h1 : -70368744177664 ≤ x) (h2 : x ≤ 70368744177664) (h3 : 0 ≤ m) (h4 : m ≤ 32768) : -2305843009213693952 ≤ x * m ∧ x * m ≤ 2305843009213693952 := by
  have := mulb x m 70368744177664 32768 h1 h2 (by omega) h4
  omega
/-- A part is no greater than its number. -/
theorem prt_bd (x m b : Int) (h0 : 0 ≤ b) (h1 : -b ≤ x) (h2 : x ≤ b) (h3 : 0 ≤ m) (h4 : m ≤ 32768) : -(b + 1) ≤ prt x m ∧ prt x m ≤ b + 1 := by
  have := prt_between x m h3 h4
  omega
theorem part_in (x m : Int) (w : World) (h1 : -70368744177664 ≤ x) (h2 : x ≤ 70368744177664) (h3 : 0 ≤ m) (h4 : m ≤ 32768) :
    Calls Try.prog 56 #[.int .i64 x, .int .i64 m] w fun e w' => e = .returned (.int .i64 (prt x m)) ∧ w = w' := by
  have hp := mul61 x m h1 h2 h3 h4
  go_enter Try.func56, Try.ntmps56
  go_wp2
  go_ret
  exact ⟨rfl, rfl⟩
theorem part_out (x m : Int) (w : World) (hx1 : -9223372036854775808 ≤ x) (hx2 : x ≤ 9223372036854775807) (hm1 : -9223372036854775808 ≤ m) (hm2 : m ≤ 9223372036854775807)
    (h : x < -70368744177664 ∨ 70368744177664 < x ∨ m < 0 ∨ 32768 < m) :
    Calls Try.prog 56 #[.int .i64 x, .int .i64 m] w fun e w' => e = .returned (.int .i64 0) ∧ w = w' := by
  rcases (show x < -70368744177664 ∨ (-70368744177664 ≤ x ∧ 70368744177664 < x) ∨ ((-70368744177664 ≤ x ∧ x ≤ 70368744177664) ∧ m < 0) ∨ ((-70368744177664 ≤ x ∧ x ≤ 70368744177664) ∧ 0 ≤ m ∧ 32768 < m) by omega) with e | e | e | e
  all_goals
    go_enter Try.func56, Try.ntmps56
    go_wp2
    go_ret
    exact ⟨rfl, rfl⟩
theorem part_any (x m : Int) (w : World) (hx1 : -9223372036854775808 ≤ x) (hx2 : x ≤ 9223372036854775807) (hm1 : -9223372036854775808 ≤ m) (hm2 : m ≤ 9223372036854775807) :
    Calls Try.prog 56 #[.int .i64 x, .int .i64 m] w fun e w' => e = .returned (.int .i64 (prtG x m)) ∧ w = w' := by
  by_cases h : -70368744177664 ≤ x ∧ x ≤ 70368744177664 ∧ 0 ≤ m ∧ m ≤ 32768
  · rw [prtG_in x m h.1 h.2.1 h.2.2.1 h.2.2.2]
    exact part_in x m w h.1 h.2.1 h.2.2.1 h.2.2.2
  · rw [show prtG x m = 0 from if_neg h]
    exact part_out x m w hx1 hx2 hm1 hm2 (by omega)
/-- What Factors answers. -/
def facG (n : Int) : Int × Int := if 0 ≤ n ∧ n ≤ 64 then fac9.getD n.toNat (0, 0) else (0, 0)
theorem facG_nat (n : Nat) (h : n ≤ 64) : facG n = fac9.getD n (0, 0) := by
  unfold facG
  rw [if_pos (by omega), Int.toNat_natCast]
theorem fac9_zero : fac9.getD 0 (0, 0) = (0, 0) := by decide
theorem facG_low (n : Int) (h : n ≤ 0) : facG n = (0, 0) := by
  unfold facG
  split
  · obtain rfl : n = 0 := by omega
    exact fac9_zero
  · rfl
theorem facG_high (n : Int) (h : 64 < n) : facG n = (0, 0) := if_neg (by omega)
theorem facG_bd (n : Int) : 0 ≤ (facG n).1 ∧ (facG n).1 ≤ 32768 ∧ 0 ≤ (facG n).2 ∧ (facG n).2 ≤ 32768 := by
  have hb : ((List.range 65).all fun k => decide (0 ≤ (fac9.getD k (0, 0)).1 ∧ (fac9.getD k (0, 0)).1 ≤ 32768 ∧ 0 ≤ (fac9.getD k (0, 0)).2 ∧ (fac9.getD k (0, 0)).2 ≤ 32768)) = true := by decide +kernel
  unfold facG
  split
  · exact of_decide_eq_true (List.all_eq_true.1 hb n.toNat (List.mem_range.2 (by omega)))
  · decide
theorem tab_bd9 (k : Nat) (h0 : 0 < k) (h : k ≤ 64) : 0 ≤ (tab8.getD k (0, 0)).1 ∧ (tab8.getD k (0, 0)).1 ≤ 1073741824 ∧ 0 < (tab8.getD k (0, 0)).2 ∧ (tab8.getD k (0, 0)).2 ≤ 1073741824 := by
  have hb : ((List.range 65).all fun k => decide (0 < k → 0 ≤ (tab8.getD k (0, 0)).1 ∧ (tab8.getD k (0, 0)).1 ≤ 1073741824 ∧ 0 < (tab8.getD k (0, 0)).2 ∧ (tab8.getD k (0, 0)).2 ≤ 1073741824)) = true := by decide +kernel
  exact of_decide_eq_true (List.all_eq_true.1 hb k (List.mem_range.2 (by omega))) h0
theorem trg_small (k : Nat) (h : k < 128) : trg k = tab8.getD k (0, 0) := by
  have e : ang (k : Int) = k := by unfold ang; omega
  unfold trg
  rw [e, Nat.mod_eq_of_lt h, Nat.div_eq_of_lt h]
  rfl
set_option maxRecDepth 100000 in
theorem factors_any (n : Int) (w : World) (h1 : -9223372036854775808 ≤ n) (h2 : n ≤ 9223372036854775807) :
    Calls Try.prog 51 #[.int .i64 n] w fun e w' => e = .returned (.tuple #[.int .i64 (facG n).1, .int .i64 (facG n).2]) ∧ Below w.heap.size w w' := by
  rcases (show n ≤ 0 ∨ 64 < n ∨ (0 < n ∧ n ≤ 64) by omega) with e | e | e
  · have HF := Lib.hid (facG_low n e)
    go_enter Try.func51, Try.ntmps51
    go_wp2
    go_ret2
    exact ⟨by rw [HF.out]; rfl, Below.refl _ _⟩
  · have HF := Lib.hid (facG_high n e)
    go_enter Try.func51, Try.ntmps51
    go_wp2
    go_ret2
    exact ⟨by rw [HF.out]; rfl, Below.refl _ _⟩
  · obtain ⟨k, rfl⟩ : ∃ k : Nat, n = k := ⟨n.toNat, by omega⟩
    have HF : Hid (facG k = facOf k) := by
      unfold Hid
      rw [facG_nat k (by omega), fac9_of k (by omega)]
    have HT := Lib.hid (trg_small k (by omega))
    have HB := Lib.hid (tab_bd9 k (by omega) (by omega))
    have HO : Hid (facOf k = (((1073741824 - (tab8.getD k (0, 0)).1) * 32768 + (tab8.getD k (0, 0)).2 / 2) / (tab8.getD k (0, 0)).2, ((tab8.getD k (0, 0)).2 + 16384) / 32768)) := if_neg (by omega)
    obtain ⟨P, hP⟩ : ∃ P, tab8.getD k (0, 0) = P := ⟨_, rfl⟩
    rw [hP] at HT HB HO
    clear hP
    obtain ⟨c, s⟩ := P
    go_enter Try.func51, Try.ntmps51
    go_wp2_with fail
    refine (turn_any k _ (by omega) (by omega)).mono ?_
    rintro e w1 ⟨rfl, hb1⟩
    rw [HT.out]
    have HB1 := Lib.hid hb1
    have hb := HB.out
    clear hb1
    go_wp2
    go_ret2
    refine ⟨?_, HB1.out⟩
    rw [HF.out, HO.out]
    rfl
theorem held_any (x : Int) (w : World) (h1 : -9223372036854775808 ≤ x) (h2 : x ≤ 9223372036854775807) :
    Calls Try.prog 48 #[.int .i64 x] w fun e w' => e = .returned (.bool (decide (-1099511627776 ≤ x ∧ x ≤ 1099511627776))) ∧ w = w' := by
  rcases (show x < -1099511627776 ∨ (-1099511627776 ≤ x ∧ x ≤ 1099511627776) ∨ 1099511627776 < x by omega) with e | e | e
  all_goals
    go_enter Try.func48, Try.ntmps48
    go_wp2
    go_ret
    refine ⟨?_, rfl⟩
    simp
    try omega
end Go.Proofs.Ytpfdjddjoclldaa
