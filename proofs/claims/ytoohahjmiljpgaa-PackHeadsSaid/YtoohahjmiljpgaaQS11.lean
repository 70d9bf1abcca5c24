/-
  Contracts and plain facts that the laws share; each piece is headed by what it holds and its conditions.
-/
import Derived.Test.YtoohahjmiljpgaaQS5
import Derived.Test.YtoohahjmiljpgaaQS7
import Derived.Test.YtoohahjmiljpgaaQS1
import Derived.Test.YtoohahjmiljpgaaQS2
import Derived.Deep.WholeRow
import Derived.StillTailTactics
import Derived.Deep.Cut

/- A shape by value: its zero value, its size, that == tells whether two are the same. No conditions. -/
namespace Go.Proofs.Ytoohahjmiljpgaa
open Go.RowKit
open M
def z40 : List Int := List.replicate 40 0
theorem s40_info : (Try.prog.info? 32).map (fun i => (i.zero, i.size)) = some (some (.agg (iCells z40)), 40) := by kernel_rfl
theorem s40_zero (w : World) : (zeroValue 32).run Try.prog w = .ok (.agg (iCells z40)) w := (zero_of_info s40_info).1 w
theorem s40_size (l : List Int) (h : l.length = 40) : (Try.prog.info? 32).map (·.size) = some (iCells l).size := by
  rw [iCells_size, h]; exact (zero_of_info s40_info).2
theorem z40_length : z40.length = 40 := by unfold z40; rw [List.length_replicate]
theorem s40_same (l m : List Int) (h : l.length = 40) (k : m.length = 40) : (iCells l).size = (iCells m).size := by
  rw [iCells_size, iCells_size, h, k]
end Go.Proofs.Ytoohahjmiljpgaa

/- Powers of two up to the fifteenth; numbers that a walk wraps. No conditions but those that each fact names. -/
namespace Go.Proofs.Ytoohahjmiljpgaa
open Go.RowKit
open M
theorem pow15 (k : Nat) (h : k ≤ 15) : (2 : Int) ^ k ≤ 32768 ∧ 1 ≤ (2 : Int) ^ k := by
  have h1 : (2 : Nat) ^ k ≤ 2 ^ 15 := Nat.pow_le_pow_right (by decide) h
  have h2 : 1 ≤ (2 : Nat) ^ k := Nat.one_le_two_pow
  have e : (2 : Int) ^ k = ((2 ^ k : Nat) : Int) := by rw [Int.natCast_pow]; rfl
  rw [e]
  omega
theorem wi_id (x : Int) (h1 : -4611686018427387904 ≤ x) (h2 : x ≤ 4611686018427387904) : IntKind.i64.wrap x = x := by rw [IntKind.wrap_i64]; omega
theorem mul14 (y G : Int) (h1 : -2097152 ≤ y) (h2 : y ≤ 2097152) (h3 : 0 ≤ G) (h4 : G ≤ 32768) : -68719476736 ≤ y * G ∧ y * G ≤ 68719476736 := by
  have k1 := Int.mul_le_mul_of_nonneg_right h1 h3
  have k2 := Int.mul_le_mul_of_nonneg_right h2 h3
  omega
end Go.Proofs.Ytoohahjmiljpgaa

/- The reference's Bits of layer 18. Conditions: 0 to 12 pulses; what the reference's Count answers. -/
namespace Go.Proofs.Ytoohahjmiljpgaa
open Go.RowKit
open M
/-- What is asked of the reference's Count. -/
def CtOk : Prop := ∀ (k : Nat) (w : World), k ≤ 12 → Calls Try.prog 68 #[.int .i64 4, .int .i64 (k : Int)] w fun e w' => e = .returned (.int .i64 (cn13 4 k : Int)) ∧ Below w.heap.size w w'
set_option maxRecDepth 100000 in
theorem rbits_any (HC : CtOk) (k : Nat) (w : World) (hk : k ≤ 12) :
    Calls Try.prog 40 #[.int .i64 (k : Int)] w fun e w' => e = .returned (.int .i64 (btc k : Nat)) ∧ Below w.heap.size w w' := by
  have RC := Lib.hid fun w => HC k w hk
  obtain ⟨h1, h2, h3⟩ := btc_bits k hk
  obtain ⟨T, hT⟩ : ∃ T, btc k = T := ⟨_, rfl⟩
  rw [hT] at h1 ⊢
  obtain ⟨c, hc⟩ : ∃ c, cn13 4 k = c + 1 := ⟨cn13 4 k - 1, by omega⟩
  rw [hc] at RC h1 h2
  rw [Nat.add_sub_cancel] at h1 h2
  have H1 := Lib.hid h1
  have hcI : ((c + 1 : Nat) : Int) - 1 = (c : Int) := by omega
  have hcB : (c : Int) < 1048576 := by omega
  have H2 := Lib.hid h2
  clear h1 h2 h3 hT hc hk HC
  go_enter Try.func40, Try.ntmps40
  go_wp2_with fail
  refine (RC.out _).mono ?_
  rintro e w1 ⟨rfl, hb⟩
  have HB := Lib.hid hb
  clear hb RC
  go_wp2_with fail
  clear hcI hcB
  go_loop [3, 4] (fun nn cc => ∃ (f c n : Nat), f ≤ 20 ∧ c < 2 ^ f ∧ cc = .int .i64 (c : Int) ∧ nn = .int .i64 (n : Int) ∧ n + bl13 f c = T ∧ n + f ≤ 20) (fun _ cc => (intOf cc).toNat)
  case atStart => exact ⟨20, c, 0, Nat.le_refl _, H2.out, rfl, rfl, by rw [Nat.zero_add]; exact H1.out, Nat.le_refl _⟩
  case round =>
    obtain ⟨f, c, n, hf, hcf, rfl, rfl, hn, hnf⟩ := hrel
    have hp := Nat.pow_le_pow_right (n := 2) (by decide) hf
    have hcI2 : (c : Int) < 1048576 := by omega
    rcases Nat.eq_zero_or_pos c with h0 | h0
    · subst h0
      have hb0 : bl13 f 0 = 0 := by cases f <;> rfl
      rw [hb0] at hn
      have HN := Lib.hid hn
      clear hf hcf hn hnf hp hb0
      go_wp2_with fail
      go_ret
      exact ⟨by rw [← HN.out]; rfl, HB.out⟩
    · obtain ⟨f', rfl⟩ : ∃ f', f = f' + 1 := by
        rcases f with _ | f'
        · rw [Nat.pow_zero] at hcf; omega
        · exact ⟨f', rfl⟩
      have hst : bl13 (f' + 1) c = bl13 f' (c / 2) + 1 := if_pos h0
      rw [hst] at hn
      obtain ⟨d, hd⟩ : ∃ d, c / 2 = d := ⟨_, rfl⟩
      rw [hd] at hn
      rw [Nat.pow_succ] at hcf
      have HR := Lib.hid (show f' ≤ 20 ∧ d < 2 ^ f' ∧ n + 1 + bl13 f' d = T ∧ n + 1 + f' ≤ 20 ∧ d < c ∧ n ≤ 20 ∧ c < 1048576 by
        refine ⟨by omega, by omega, by omega, by omega, by omega, by omega, by omega⟩)
      have HD := Lib.hid hd
      have hc0 : (0 : Int) < (c : Int) := by omega
      have hnI : (n : Int) ≤ 20 := by omega
      clear hf hcf hn hnf hp hst hd h0 hcI2
      go_upto_region 4 with fail
      have e1 : (c : Int).tdiv 2 = (d : Int) := by have hdd := HD.out; rw [Int.tdiv_eq_ediv_of_nonneg (by omega)]; omega
      have e2 : (c : Int) / 2 = (d : Int) := by have := HD.out; omega
      have hdI : (d : Int) < 1048576 := by have h1 := HR.out.2.2.2.2.1; have h2 := HR.out.2.2.2.2.2.2; omega
      go_wp2_with fail
      go_round
      case rel => exact ⟨f', d, n + 1, HR.out.1, HR.out.2.1, rfl, by go_num, HR.out.2.2.1, HR.out.2.2.2.1⟩
      case measure =>
        have := HR.out.2.2.2.2.1
        simpa [intOf] using this
end Go.Proofs.Ytoohahjmiljpgaa
