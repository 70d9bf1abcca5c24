/-
  The reference's Bits of layer 18. Conditions: 0 to 12 pulses; what the reference's Count answers.
-/
import Derived.Test.YtkjbobgmnpifoaaQKlp
import Derived.Test.YtkjbobgmnpifoaaQGagp
import Derived.Test.YtkjbobgmnpifoaaQDi
import Derived.Test.YtkjbobgmnpifoaaQQ1
import Derived.Test.YtkjbobgmnpifoaaQM1
import Derived.StillTailTactics
import Derived.Deep.Cut
namespace Go.Proofs.Ytkjbobgmnpifoaa
open Go.RowKit
open M
/-- What is asked of the reference's Count. -/
def CtOk : Prop := ∀ (k : Nat) (w : World), k ≤ 12 → Calls Try.prog 25 #[.int .i64 4, .int .i64 (k : Int)] w fun e w' => e = .returned (.int .i64 (cn13 4 k : Int)) ∧ Below w.heap.size w w'
set_option maxRecDepth 100000 in
theorem rbits_any (HC : CtOk) (k : Nat) (w : World) (hk : k ≤ 12) :
    Calls Try.prog 14 #[.int .i64 (k : Int)] w fun e w' => e = .returned (.int .i64 (btc k : Nat)) ∧ Below w.heap.size w w' := by
  have RC := Lib.hid fun w => HC k w hk
  obtain ⟨h1, h2, h3⟩ := btc_bits k hk
  obtain ⟨T, hT⟩ : ∃ T, btc k = T := ⟨_, rfl⟩
  rw [hT] at h1 ⊢
  obtain ⟨c, hc⟩ : ∃ c, cn13 4 k = c + 1 := ⟨cn13 4 k - 1, by omega⟩
  rw [hc] at RC h1 h2
  rw [Nat.add_sub_cancel] at h1 h2
  have H1 := Lib.hid h1
  have hcI : ((c + 1 : Nat) : Int) - 1 = (c : Int) := by omega
  have hcB : (c : Int) < 1048576 := by omega
  have H2 := Lib.hid h2
  clear h1 h2 h3 hT hc hk HC
  go_enter Try.func14, Try.ntmps14
  go_wp2_with fail
  refine (RC.out _).mono ?_
  rintro e w1 ⟨rfl, hb⟩
  have HB := Lib.hid hb
  clear hb RC
  go_wp2_with fail
  clear hcI hcB
  go_loop [3, 4] (fun nn cc => ∃ (f c n : Nat), f ≤ 20 ∧ c < 2 ^ f ∧ cc = .int .i64 (c : Int) ∧ nn = .int .i64 (n : Int) ∧ n + bl13 f c = T ∧ n + f ≤ 20) (fun _ cc => (intOf cc).toNat)
  case atStart => exact ⟨20, c, 0, Nat.le_refl _, H2.out, rfl, rfl, by rw [Nat.zero_add]; exact H1.out, Nat.le_refl _⟩
  case round =>
    obtain ⟨f, c, n, hf, hcf, rfl, rfl, hn, hnf⟩ := hrel
    have hp := Nat.pow_le_pow_right (n := 2) (by decide) hf
    have hcI2 : (c : Int) < 1048576 := by omega
    rcases Nat.eq_zero_or_pos c with h0 | h0
    · subst h0
      have hb0 : bl13 f 0 = 0 := by cases f <;> rfl
      rw [hb0] at hn
      have HN := Lib.hid hn
      clear hf hcf hn hnf hp hb0
      go_wp2_with fail
      go_ret
      exact ⟨by rw [← HN.out]; rfl, HB.out⟩
    · obtain ⟨f', rfl⟩ : ∃ f', f = f' + 1 := by
        rcases f with _ | f'
        · rw [Nat.pow_zero] at hcf; omega
        · exact ⟨f', rfl⟩
      have hst : bl13 (f' + 1) c = bl13 f' (c / 2) + 1 := if_pos h0
      rw [hst] at hn
      obtain ⟨d, hd⟩ : ∃ d, c / 2 = d := ⟨_, rfl⟩
      rw [hd] at hn
      rw [Nat.pow_succ] at hcf
      have HR := Lib.hid (show f' ≤ 20 ∧ d < 2 ^ f' ∧ n + 1 + bl13 f' d = T ∧ n + 1 + f' ≤ 20 ∧ d < c ∧ n ≤ 20 ∧ c < 1048576 by
        refine ⟨by omega, by omega, by omega, by omega, by omega, by omega, by omega⟩)
      have HD := Lib.hid hd
      have hc0 : (0 : Int) < (c : Int) := by omega
      have hnI : (n : Int) ≤ 20 := by omega
      clear hf hcf hn hnf hp hst hd h0 hcI2
      go_upto_region 4 with fail
      have e1 : (c : Int).tdiv 2 = (d : Int) := by have hdd := HD.out; rw [Int.tdiv_eq_ediv_of_nonneg (by omega)]; omega
      have e2 : (c : Int) / 2 = (d : Int) := by have := HD.out; omega
      have hdI : (d : Int) < 1048576 := by have h1 := HR.out.2.2.2.2.1; have h2 := HR.out.2.2.2.2.2.2; omega
      go_wp2_with fail
      go_round
      case rel => exact ⟨f', d, n + 1, HR.out.1, HR.out.2.1, rfl, by go_num, HR.out.2.2.1, HR.out.2.2.2.1⟩
      case measure =>
        have := HR.out.2.2.2.2.1
        simpa [intOf] using this
end Go.Proofs.Ytkjbobgmnpifoaa
