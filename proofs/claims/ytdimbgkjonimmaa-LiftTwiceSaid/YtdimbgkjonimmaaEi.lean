/-
  Layer 9's laws, what they share: the document's example; a number of up to 2^30; sizes. Conditions: those that each names.
-/
import Derived.Test.YtdimbgkjonimmaaEg
namespace Go.Proofs.Ytdimbgkjonimmaa
open Go.RowKit
open M
theorem tmod_bd (n m : Int) (hm : 0 < m) : -m < n.tmod m ∧ n.tmod m < m := by
  have h1 := Int.tmod_lt_of_pos n hm
  have h2 := Int.tmod_lt_of_pos (-n) hm
  rw [Int.neg_tmod] at h2
  omega
/-- A number of up to 2^30. -/
def hld (n : Int) : Int := n.tmod 1073741825
theorem hld_bd (n : Int) : -1073741824 ≤ hld n ∧ hld n ≤ 1073741824 := by
  have := tmod_bd n 1073741825 (by omega)
  unfold hld
  omega
theorem hld_any (n : Int) (w : World) : Calls Try.prog 11 #[.int .i64 n] w fun e w' => e = .returned (.int .i64 (hld n)) ∧ w = w' := by
  have h := tmod_bd n 1073741825 (by omega)
  have HE : Hid (hld n = n.tmod 1073741825) := rfl
  go_enter Try.func11, Try.ntmps11
  go_wp2
  go_ret
  refine ⟨ret_eq ?_, rfl⟩
  rw [HE.out]
  try rfl
/-- The greatest of two numbers and their negatives. -/
def mx4 (a b : Int) : Int := if -b > (if b > (if -a > a then -a else a) then b else (if -a > a then -a else a)) then -b else (if b > (if -a > a then -a else a) then b else (if -a > a then -a else a))
theorem mx4_is (a b : Int) : (-(mx4 a b) ≤ a ∧ a ≤ mx4 a b) ∧ (-(mx4 a b) ≤ b ∧ b ≤ mx4 a b) ∧ 0 ≤ mx4 a b ∧ (mx4 a b ≤ a ∨ mx4 a b ≤ -a ∨ mx4 a b ≤ b ∨ mx4 a b ≤ -b) ∧ (mx4 a b = a ∨ mx4 a b = -a ∨ mx4 a b = b ∨ mx4 a b = -b) := by
  unfold mx4
  repeat' split
  all_goals omega
theorem max4 (a b : Int) (w : World) : (Builtin.max_ #[3, 3, 3, 3] 3 #[.int .i64 a, .int .i64 (-a), .int .i64 b, .int .i64 (-b)]).run Try.prog w = .ok (.int .i64 (mx4 a b)) w := by
  simp [Builtin.max_, Builtin.max2, mx4]
theorem awake_lft : lft (1000, 0) 64 = (707, 707) := by decide +kernel
theorem lft_bd {B : Int} {v : Int × Int} (h : Bd B v) (h0 : 0 ≤ B) (k : Int) : Bd (8 * B + 7) (lft v k) := by
  rw [← tS_lft]
  obtain ⟨f1, f2, f3, f4⟩ := bgF_bd k
  have h1 := h.ln (z := 1) h0 ⟨f1, f2⟩ (Or.inl rfl) (bgS_or k)
  have h2 := h1.rs (z := 1) (by omega) ⟨f3, f4⟩ (Or.inl rfl) (bgS_or k)
  have h3 := h2.ln (z := 1) (by omega) ⟨f1, f2⟩ (Or.inl rfl) (bgS_or k)
  exact (h3.spn (Or.inl rfl) _).more (by omega)
theorem lfb_bd {B : Int} {v : Int × Int} (h : Bd B v) (h0 : 0 ≤ B) (k : Int) : Bd (8 * B + 7) (lfb v k) := by
  rw [← bS_lfb]
  obtain ⟨f1, f2, f3, f4⟩ := bgF_bd k
  have h0 := h.spn (z := -1) (Or.inr rfl) (bgN k)
  have h1 := h0.ln (z := -1) (by omega) ⟨f1, f2⟩ (Or.inr rfl) (bgS_or k)
  have h2 := h1.rs (z := -1) (by omega) ⟨f3, f4⟩ (Or.inr rfl) (bgS_or k)
  have h3 := h2.ln (z := -1) (by omega) ⟨f1, f2⟩ (Or.inr rfl) (bgS_or k)
  exact h3.more (by omega)
theorem hld_pair (a b : Int) : Bd 1073741824 (hld a, hld b) := ⟨(hld_bd a).1, (hld_bd a).2, (hld_bd b).1, (hld_bd b).2⟩
set_option maxRecDepth 100000 in
theorem awake_any (w : World) :
    Calls Try.prog 10 #[] w fun e w' => e = .returned (.bool true) ∧ Below w.heap.size w w' := by
  have H0 := Lib.hid awake_lft
  go_enter Try.func10, Try.ntmps10
  go_wp2_with fail
  refine (turn_in (1000, 0) 64 _ ⟨by decide, by decide, by decide, by decide⟩ (by omega) (by omega)).mono ?_
  rintro e w1 ⟨rfl, hb1⟩
  have HB1 := Lib.hid hb1
  clear hb1
  rw [H0.out]
  go_wp2
  go_ret
  exact ⟨rfl, HB1.out⟩
end Go.Proofs.Ytdimbgkjonimmaa
