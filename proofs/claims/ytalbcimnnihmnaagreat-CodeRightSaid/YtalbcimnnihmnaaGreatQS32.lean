/-
  Contracts and plain facts that the laws share; each piece is headed by what it holds and its conditions.
-/
import Derived.Test.YtalbcimnnihmnaaGreatQTa
import Derived.Test.YtalbcimnnihmnaaGreatQS5
import Derived.Test.YtalbcimnnihmnaaGreatQS12
import Derived.Test.YtalbcimnnihmnaaGreatQS6
import Derived.Test.YtalbcimnnihmnaaGreatQS26
import Derived.Lib.BitFns
import Derived.Shelf.Small.Bits

/- Plain facts of layer 8: Newton's steps towards a root, a bit's search for it, how many bits a number has. No program is named here. No conditions. -/
namespace Go.Proofs.YtalbcimnnihmnaaGreat.M

theorem bitLenAux_lt : ∀ (f x : Nat), x < 2 ^ f → x < 2 ^ Go.Lib.bitLenAux f x
  | 0, x, h => by simp at h; subst h; decide
  | f + 1, x, h => by
    show x < 2 ^ (if x = 0 then 0 else 1 + Go.Lib.bitLenAux f (x / 2))
    split
    · subst_vars; decide
    · have := bitLenAux_lt f (x / 2) (by rw [Nat.pow_succ] at h; omega)
      rw [Nat.add_comm, Nat.pow_succ]
      omega
theorem bitLen_lt (x : Nat) (h : x < 18446744073709551616) : x < 2 ^ Go.Lib.bitLen x := bitLenAux_lt 64 x h
theorem bitLen_64 (x : Nat) (h : x < 18446744073709551616) : Go.Lib.bitLen x ≤ 64 := Go.Lib.bitLen_le x 64 (Nat.le_refl _) h
theorem sq4 (a b : Nat) : 4 * (a * b) ≤ (a + b) * (a + b) := by
  have h : ∀ (u v : Nat), 4 * (u * (u + v)) ≤ (u + (u + v)) * (u + (u + v)) := by
    intro u v
    have : (u + (u + v)) * (u + (u + v)) = 4 * (u * (u + v)) + v * v := by grind
    omega
  rcases Nat.le_total a b with e | e
  · obtain ⟨v, rfl⟩ := Nat.le.dest e
    exact h a v
  · obtain ⟨v, rfl⟩ := Nat.le.dest e
    rw [Nat.mul_comm (b + v) b, Nat.add_comm (b + v) b]
    exact h b v
/-- A start: no less than the root. -/
def rt0 (n : Nat) : Nat := 2 ^ ((Go.Lib.bitLen n + 1) / 2)
theorem rt0_lt (n : Nat) (h : n < 18446744073709551616) : n < (rt0 n + 1) * (rt0 n + 1) := by
  have h1 := bitLen_lt n h
  have h2 : 2 ^ Go.Lib.bitLen n ≤ rt0 n * rt0 n := by
    unfold rt0
    rw [← Nat.pow_add]
    exact Nat.pow_le_pow_right (by omega) (by omega)
  have h3 : (rt0 n + 1) * (rt0 n + 1) = rt0 n * rt0 n + 2 * rt0 n + 1 := by grind
  omega
theorem rt0_bd (n : Nat) (h : n < 4611686018427387904) : 1 ≤ rt0 n ∧ rt0 n ≤ 2147483648 := by
  have h1 := Go.Lib.bitLen_le n 62 (by decide) h
  refine ⟨Nat.two_pow_pos _, ?_⟩
  have : rt0 n ≤ 2 ^ 31 := Nat.pow_le_pow_right (by omega) (by omega)
  exact this
/-- One of Newton's steps. -/
def rtS (n r : Nat) : Nat := (r + n / r) / 2
theorem rtS_lt (n r : Nat) (hr : 1 ≤ r) : n < (rtS n r + 1) * (rtS n r + 1) := by
  have h1 : n < r * (n / r + 1) := by rw [Nat.mul_add, Nat.mul_one]; have := Nat.div_add_mod n r; have := Nat.mod_lt n (show r > 0 by omega); omega
  have h2 := sq4 r (n / r + 1)
  have h3 : r + (n / r + 1) ≤ 2 * (rtS n r + 1) := by unfold rtS; omega
  have h4 := Nat.mul_le_mul h3 h3
  have h5 : 2 * (rtS n r + 1) * (2 * (rtS n r + 1)) = 4 * ((rtS n r + 1) * (rtS n r + 1)) := by grind
  omega
theorem rtS_pos (n r : Nat) (hr : 1 ≤ r) (hn : 1 ≤ n) : 1 ≤ rtS n r := by
  unfold rtS
  rcases Nat.lt_or_ge r 2 with e | e
  · obtain rfl : r = 1 := by omega
    rw [Nat.div_one]
    omega
  · have := Nat.zero_le (n / r)
    omega
theorem rtS_end (n r : Nat) (h : r ≤ rtS n r) : r * r ≤ n := by
  unfold rtS at h
  have h1 : r ≤ n / r := by omega
  have := Nat.mul_le_mul (Nat.le_refl r) h1
  have := Nat.div_add_mod n r
  omega
/-- The root, as a function. -/
def rtN : Nat → Nat
  | 0 => 0
  | n + 1 => if n + 1 < (rtN n + 1) * (rtN n + 1) then rtN n else rtN n + 1
theorem rtN_root : ∀ (n : Nat), IsRoot n (rtN n)
  | 0 => ⟨by decide, by decide⟩
  | n + 1 => by
    obtain ⟨h1, h2⟩ := rtN_root n
    show IsRoot (n + 1) (if n + 1 < (rtN n + 1) * (rtN n + 1) then rtN n else rtN n + 1)
    generalize rtN n = r at *
    split
    · exact ⟨by omega, by assumption⟩
    · refine ⟨by omega, ?_⟩
      have : (r + 1 + 1) * (r + 1 + 1) = (r + 1) * (r + 1) + 2 * r + 3 := by grind
      omega
theorem rtN_is (n r : Nat) (h : IsRoot n r) : rtN n = r := isRoot_one n _ _ (rtN_root n) h
theorem rtN_bd (n : Nat) (h : n < 4611686018427387904) : rtN n ≤ 2147483647 := by
  have h1 := (rtN_root n).1
  rcases Nat.lt_or_ge (rtN n) 2147483648 with e | e
  · omega
  · have := Nat.mul_le_mul e e
    omega
/-- The cosine of the program's place i. -/
def hc (i : Nat) : Nat := (halves.getD (6 - i) (0, 0)).1
def hs (i : Nat) : Nat := (halves.getD (6 - i) (0, 0)).2
theorem hc_top : rtN ((1073741824 + 0) * 536870912) = hc 6 ∧ rtN ((1073741824 - 0) * 536870912) = hs 6 := by
  have := halves_root 0 (by decide)
  exact ⟨rtN_is _ _ this.1, rtN_is _ _ this.2⟩
theorem hc_next (i : Nat) (hi : i < 6) : rtN ((1073741824 + hc (i + 1)) * 536870912) = hc i ∧ rtN ((1073741824 - hc (i + 1)) * 536870912) = hs i := by
  have := halves_root (6 - i) (by omega)
  have e : ahead (6 - i) = hc (i + 1) := by
    unfold ahead hc
    rw [if_neg (by omega), show 6 - i - 1 = 6 - (i + 1) by omega]
  rw [e] at this
  exact ⟨rtN_is _ _ this.1, rtN_is _ _ this.2⟩
theorem hc_bd (i : Nat) (hi : i ≤ 6) : hc i ≤ 1073741824 ∧ hs i ≤ 1073741824 := halves_bd (6 - i) (by omega)
end Go.Proofs.YtalbcimnnihmnaaGreat.M

/- bits.Len: this program's text is the one that the library's contract speaks of: a number's bits. Conditions: a number from 0 to 2^64 - 1. -/
namespace Go.Proofs.YtalbcimnnihmnaaGreat
open Go.RowKit
open M
def laysBits_ren : Go.Shelf.Ren := ⟨fun | 125 => 73 | 128 => 89 | 129 => 90 | n => n, fun | 3 => 3 | 4 => 4 | 5 => 5 | 9 => 9 | 46 => 128 | 51 => 146 | 53 => 148 | n => n, fun | n => n⟩
theorem laysBits : Go.Proofs.Lays.n125 Tryz.prog laysBits_ren := {
  mixed := by kernel_rfl
  f125 := Tryz.func73.trans (congrArg some (by kernel_rfl))
  f128 := Tryz.func89.trans (congrArg some (by kernel_rfl))
  f129 := Tryz.func90.trans (congrArg some (by kernel_rfl))
  t3 := Tryz.underlying3
  a3 := Tryz.isAgg3
  z3 := Tryz.sizeOf3
  v3 := Tryz.zeroValue3
  t4 := Tryz.underlying4
  a4 := Tryz.isAgg4
  z4 := Tryz.sizeOf4
  v4 := Tryz.zeroValue4
  t5 := Tryz.underlying5
  a5 := Tryz.isAgg5
  z5 := Tryz.sizeOf5
  v5 := Tryz.zeroValue5
  t9 := Tryz.underlying9
  a9 := Tryz.isAgg9
  z9 := Tryz.sizeOf9
  v9 := Tryz.zeroValue9
  t46 := Tryz.underlying128
  a46 := Tryz.isAgg128
  z46 := Tryz.sizeOf128
  v46 := Tryz.zeroValue128
  t51 := Tryz.underlying146
  a51 := Tryz.isAgg146
  z51 := Tryz.sizeOf146
  v51 := Tryz.zeroValue146
  t53 := Tryz.underlying148
  a53 := Tryz.isAgg148
  z53 := Tryz.sizeOf148
  v53 := Tryz.zeroValue148 }
theorem len_any (n : Nat) (w : World) (hn : n < 9223372036854775808) :
    Calls Tryz.prog 73 #[.int .u64 n] w fun e w' => e = .returned (.int .i64 (Go.Lib.bitLen n : Nat)) ∧ w = w' := by
  refine (Go.Proofs.Any.bits_Len laysBits (n : Int) w (by omega) (by omega)).mono ?_
  rintro e w' ⟨rfl, rfl⟩
  exact ⟨rfl, rfl⟩
end Go.Proofs.YtalbcimnnihmnaaGreat

/- A list of numbers of the call's own. No conditions but those that each fact names. -/
namespace Go.Proofs.YtalbcimnnihmnaaGreat
open Go.RowKit
open M
theorem own_ints {w : World} {base n : Nat} {v : Value} {l : List Int} (h : w.ownsRow base 3 1 v n (iV l)) : IntsAt w v l := by
  have hl : l.length = n := by
    have := h.1
    rw [iV_len] at this
    omega
  by_cases h0 : 0 < n
  · obtain ⟨g, cap, rfl, _, hg, hc⟩ := own_cells h h0
    exact ⟨_, cap, by rw [hl], fun _ => ⟨g, 0, rfl, hg, fun i hi => by rw [Nat.zero_add, hc i (by omega), iV_get l i hi]⟩⟩
  · rcases h.2 with ⟨rfl, hn⟩ | ⟨g, cap, _, rfl, _, _, _, _, _, _⟩
    · exact ⟨none, 0, by rw [hl, hn], fun h1 => by omega⟩
    · exact ⟨_, cap, by rw [hl], fun h1 => by omega⟩
theorem int_parts : ∃ i, Tryz.prog.info? 3 = some i ∧ i.zero = some (.int .i64 0) ∧ i.size = 1 ∧ i.bytes = 8 := info_parts int_info
end Go.Proofs.YtalbcimnnihmnaaGreat

/- pvq's Bits (of any int). No conditions. -/
namespace Go.Proofs.YtalbcimnnihmnaaGreat
open Go.RowKit
open M
theorem cnI_four (k : Int) (h : ¬ (0 ≤ k ∧ k ≤ 12)) : cnI 4 k = 0 := cnI_out _ _ (decide_eq_false (by omega))
/-- How few bits. -/
def biI (k : Int) : Int := if 0 ≤ k ∧ k ≤ 12 then ((Go.Lib.bitLen (cn13 4 k.toNat - 1) : Nat) : Int) else 0
theorem biI_in (k : Nat) (h : k ≤ 12) : biI k = ((Go.Lib.bitLen (cn13 4 k - 1) : Nat) : Int) := by
  rw [biI, if_pos (by omega), Int.toNat_natCast]
theorem biI_out (k : Int) (h : ¬ (0 ≤ k ∧ k ≤ 12)) : biI k = 0 := if_neg h
set_option maxRecDepth 100000 in
theorem bits_any (k : Int) (w : World) :
    Calls Tryz.prog 51 #[.int .i64 k] w fun e w' => e = .returned (.int .i64 (biI k)) ∧ Below w.heap.size w w' := by
  have HC := count_any 4 k w
  by_cases h : 0 ≤ k ∧ k ≤ 12
  · obtain ⟨a, rfl⟩ : ∃ a : Nat, k = a := ⟨k.toNat, by omega⟩
    have hc : cnI 4 a = (cn13 4 a : Int) := cnI_in 4 a (by decide) (by omega)
    have HO := Lib.hid (biI_in a (by omega))
    have hp := cn_pos 3 a
    have hb := cn_big 4 a (by decide) (by omega)
    rw [hc] at HC
    obtain ⟨C, hC⟩ : ∃ C, cn13 4 a = C := ⟨_, rfl⟩
    rw [hC] at HC HO hb
    rw [show (3 : Nat) + 1 = 4 from rfl, hC] at hp
    obtain ⟨D, rfl⟩ : ∃ D, C = D + 1 := ⟨C - 1, by omega⟩
    rw [Nat.add_sub_cancel] at HO
    have ew : ((D + 1 : Nat) : Int) - 1 = (D : Int) := by omega
    have HD : Hid (D < 9223372036854775808) := Lib.hid (by omega)
    have HCC := Lib.hid HC
    have hbI : (D : Int) ≤ 152587890625 := by omega
    clear hC hc h hp HC hb
    go_enter Tryz.func51, Tryz.ntmps51
    go_wp2_with fail
    refine HCC.out.mono ?_
    rintro e w1 ⟨rfl, hbel⟩
    have HB := Lib.hid hbel
    clear hbel HCC
    go_wp2_with fail
    refine (len_any D w1 HD.out).mono ?_
    rintro e w2 ⟨rfl, rfl⟩
    go_wp2
    go_ret
    exact ⟨by rw [HO.out]; rfl, HB.out⟩
  · rw [cnI_four k h] at HC
    have HO := Lib.hid (biI_out k h)
    clear h
    go_enter Tryz.func51, Tryz.ntmps51
    go_wp2_with fail
    refine HC.mono ?_
    rintro e w1 ⟨rfl, hbel⟩
    have HB := Lib.hid hbel
    clear hbel HC
    go_wp2
    go_ret
    exact ⟨by rw [HO.out]; rfl, HB.out⟩
end Go.Proofs.YtalbcimnnihmnaaGreat
