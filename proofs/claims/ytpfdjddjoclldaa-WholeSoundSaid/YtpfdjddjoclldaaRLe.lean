/-
  Seams turned one by one. Conditions: a list of n blocks.
-/
import Derived.Test.YtpfdjddjoclldaaRLa
namespace Go.Proofs.Ytpfdjddjoclldaa.M
theorem sms_cong (H : Int × Int → Int → Int × Int) (d d' : Nat → Nat → Bool) (n : Nat) (x : List Int) (h : ∀ s i, 1 ≤ s → s < n → d s i = d' s i) : sms H d n x = sms H d' n x := by
  refine tb_congr _ _ _ fun p hp => ?_
  unfold smv
  by_cases h1 : p % 32 < 16
  · rw [if_pos h1, if_pos h1]
    by_cases h2 : 1 ≤ p / 32
    · rw [h _ _ h2 (by omega)]
    · rw [if_neg (fun k => h2 k.1), if_neg (fun k => h2 k.1)]
  · rw [if_neg h1, if_neg h1]
    by_cases h2 : p / 32 + 1 < n
    · rw [h _ _ (by omega) h2]
    · rw [if_neg (fun k => h2 k.1), if_neg (fun k => h2 k.1)]
theorem sms_first (H : Int × Int → Int → Int × Int) (n : Nat) (x : List Int) (h : x.length = 32 * n) : sms H (fun t _ => decide (t < 1)) n x = x := by
  rw [sms_cong H _ (fun _ _ => false) n x (fun s _ h1 _ => decide_eq_false (by omega)), sms_none H n x h]
theorem sms_last (H : Int × Int → Int → Int × Int) (n s : Nat) (x : List Int) (h : n ≤ s) : sms H (fun t _ => decide (t < s)) n x = sms H allT n x :=
  sms_cong H _ _ n x fun t _ _ h2 => decide_eq_true (by omega)
theorem seam_a (H : Int × Int → Int → Int × Int) (n : Nat) (x : List Int) (s i : Nat) (hs : 1 ≤ s) (hn : s < n) (hi : i < 16) : (blk (sms H (fun t _ => decide (t < s)) n x) (s - 1)).getD (31 - i) 0 = x.getD (32 * s - 1 - i) 0 := by
  rw [blk_getD _ _ _ (by omega), show 32 * (s - 1) + (31 - i) = 32 * s - 1 - i by omega, sms_getD _ _ _ _ _ (by omega), smv_lo _ _ _ _ _ _ hs hn hi, if_neg (by simp)]
theorem seam_b (H : Int × Int → Int → Int × Int) (n : Nat) (x : List Int) (s i : Nat) (hs : 1 ≤ s) (hn : s < n) (hi : i < 16) : (blk (sms H (fun t _ => decide (t < s)) n x) s).getD i 0 = x.getD (32 * s + i) 0 := by
  rw [blk_getD _ _ _ (by omega), sms_getD _ _ _ _ _ (by omega), smv_hi _ _ _ _ _ _ hs hi, if_neg (by simp)]
end Go.Proofs.Ytpfdjddjoclldaa.M
