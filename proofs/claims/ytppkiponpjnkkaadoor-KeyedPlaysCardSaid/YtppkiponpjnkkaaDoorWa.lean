/-
  The contracts of layer 1's functions that only compute: a turn, the reference's turn, a count, a join, a word. Conditions: texts are no longer than maxLen.
-/
import Derived.Test.YtppkiponpjnkkaaDoorChecked
import Derived.Test.YtppkiponpjnkkaaDoorMath
import Derived.Handy
import Derived.WalkLawsBesides
import Derived.WalkSpells
import Derived.Outline
import Derived.IntWalk
import Derived.Lib.Hide
namespace Go.Proofs.YtppkiponpjnkkaaDoor
open Go.RowKit
open M

attribute [local go_sem] un_add un_sub un_xor un_or un_nonneg un_beq un_bne top_def

theorem and63 (n : Int) : bits BinOp.and IntKind.u64 (IntKind.u64.wrap n) 63 = (((n % 64).toNat : Nat) : Int) := by
  rw [IntKind.wrap_u64, u64_and _ _ (by omega) (by omega) (by omega) (by omega), show (63 : Int).toNat = 63 from rfl, nat_mask6]
  omega

theorem ret_eq {k : IntKind} {a b : Int} (h : a = b) : Ending.returned (.int k a) = .returned (.int k b) := by rw [h]

theorem rotl (x : BitVec 64) (n : Int) (w : World) :
    Calls Tryd.prog 36 #[.int .u64 (un x), .int .i64 n] w fun e w' => e = .returned (.int .u64 (un (rot x n))) ∧ w = w' := by
  have ha := and63 n
  obtain ⟨k, hk, hk'⟩ : ∃ k : Nat, k < 64 ∧ (n % 64).toNat = k := ⟨_, by omega, rfl⟩
  rw [hk'] at ha
  have H : Hid (rot x n = x.rotateLeft k) := by unfold rot; rw [hk']; rfl
  have HS := Lib.hid (rot_shifts x k hk)
  clear hk'
  go_enter Tryd.func36, Tryd.ntmps36
  go_wp2
  go_ret
  exact ⟨ret_eq (by rw [H.out, ← HS.out]), rfl⟩

theorem turn_any (x : BitVec 64) (n : Int) (w : World) :
    Calls Tryd.prog 34 #[.int .u64 (un x), .int .i64 n] w fun e w' => e = .returned (.int .u64 (un (rot x n))) ∧ w = w' := by
  go_enter Tryd.func34, Tryd.ntmps34
  go_wp2_with (go_at_call 36; refine (rotl _ _ _).mono ?_; rintro e w' ⟨rfl, rfl⟩)
  go_ret
  exact ⟨rfl, rfl⟩

theorem count_any (s : ByteArray) (w : World) (hs : s.size ≤ maxLen) :
    Calls Tryd.prog 27 #[.string s] w fun e w' => e = .returned (.int .i64 ((s.size / 8 + 1 : Nat) : Int)) ∧ w = w' := by
  unfold maxLen at hs
  go_enter Tryd.func27, Tryd.ntmps27
  go_wp2
  go_ret
  exact ⟨ret_eq (by omega), rfl⟩

theorem left_any (x : BitVec 64) (n : Nat) (w : World) (hn : n ≤ 64) :
    Calls Tryd.prog 35 #[.int .u64 (un x), .int .i64 n] w fun e w' => e = .returned (.int .u64 (un (rot x n))) ∧ w = w' := by
  have HR := Lib.hid (lefts_rot n x)
  go_enter Tryd.func35, Tryd.ntmps35
  go_wp2
  go_loop [0, 5] (fun v i => ∃ k : Nat, k ≤ n ∧ i = .int .i64 k ∧ v = .int .u64 (un (lefts k x))) (fun _ i => n - (intOf i).toNat)
  case atStart => exact ⟨0, Nat.zero_le _, rfl, rfl⟩
  case round =>
    obtain ⟨k, hk, rfl, rfl⟩ := hrel
    by_cases hlt : k < n
    · obtain ⟨y, hy⟩ : ∃ y, lefts k x = y := ⟨_, rfl⟩
      have HY : Hid (lefts (k + 1) x = dbl y) := by show dbl (lefts k x) = _; rw [hy]
      rw [hy]
      clear hy
      rcases ht : top y
      · have H1 := Lib.hid (dbl_not y ht)
        go_wp2
        go_round
        case rel => exact ⟨k + 1, by omega, by go_num, by rw [HY.out, H1.out]⟩
        case measure => simp [intOf]; omega
      · have H1 := Lib.hid (dbl_top y ht)
        go_wp2
        go_round
        case rel => exact ⟨k + 1, by omega, by go_num, by rw [HY.out, H1.out]⟩
        case measure => simp [intOf]; omega
    · go_wp2
      go_ret
      obtain rfl : k = n := by omega
      exact ⟨ret_eq (by rw [HR.out]), rfl⟩

theorem join_any (s : ByteArray) (w : World) (hs : s.size ≤ 8) :
    Calls Tryd.prog 33 #[.string s] w fun e w' => e = .returned (.int .u64 (un (word (bl s)))) ∧ w = w' := by
  go_enter Tryd.func33, Tryd.ntmps33
  go_wp2
  go_loop [3, 7] (fun v i => ∃ k : Nat, k ≤ s.size ∧ i = .int .i64 k ∧ v = .int .u64 (un (word ((bl s).take k)))) (fun _ i => s.size - (intOf i).toNat)
  case atStart => exact ⟨0, Nat.zero_le _, rfl, by rw [List.take_zero, un_word_nil]⟩
  case round =>
    obtain ⟨k, hk, rfl, rfl⟩ := hrel
    by_cases hlt : k < s.size
    · have HJ := Lib.hid (join_step' s k hlt (by omega))
      go_wp2
      go_round
      case rel => exact ⟨k + 1, by omega, by go_num, by rw [HJ.out]⟩
      case measure => simp [intOf]; omega
    · go_wp2
      go_ret
      exact ⟨ret_eq (by rw [List.take_of_length_le (by rw [bl_length]; omega)]), rfl⟩

theorem word_any (s : ByteArray) (p : Nat) (w : World) (hs : s.size ≤ maxLen) (hp : p ≤ maxLen - 16) :
    Calls Tryd.prog 30 #[.string s, .int .i64 p] w fun e w' => e = .returned (.int .u64 (un (tail8 s p 0))) ∧ w = w' := by
  unfold maxLen at hs hp
  go_enter Tryd.func30, Tryd.ntmps30
  go_wp2
  go_loop [5, 6] (fun v i => ∃ k : Nat, k ≤ 8 ∧ i = .int .i64 ((k : Int) - 1) ∧ v = .int .u64 (un (tail8 s p k))) (fun _ i => (intOf i + 1).toNat)
  case atStart => exact ⟨8, Nat.le_refl _, rfl, by rw [tail8_end]⟩
  case round =>
    obtain ⟨k, hk, rfl, rfl⟩ := hrel
    rcases k with _ | j
    · rw [show (((0 : Nat) : Int) - 1) = -1 from rfl]
      go_wp2
      go_ret
      exact ⟨rfl, rfl⟩
    · rw [show (((j + 1 : Nat) : Int) - 1) = (j : Int) by omega]
      by_cases hin : p + j < s.size
      · have HJ := Lib.hid (tail8_in s p j (by omega) hin)
        go_wp2
        go_round
        case rel => exact ⟨j, by omega, by go_num, by rw [HJ.out]⟩
        case measure => simp [intOf]
      · have HJ := Lib.hid (tail8_out s p j hin)
        go_wp2
        go_round
        case rel => exact ⟨j, by omega, by go_num, by rw [HJ.out]⟩
        case measure => simp [intOf]

theorem wordAt_any (s : ByteArray) (i : Nat) (w : World) (hs : s.size ≤ maxLen) (hi : i < s.size / 8 + 1) :
    Calls Tryd.prog 28 #[.string s, .int .i64 i] w fun e w' => e = .returned (.int .u64 (un (wordAt (bl s) i))) ∧ w = w' := by
  unfold maxLen at hs
  by_cases h8 : 8 * i + 8 ≤ s.size
  · have HW := Lib.hid (wordAt_in s i h8)
    go_enter Tryd.func28, Tryd.ntmps28
    go_wp2_with (go_at_call 33; refine (join_any _ _ (by simp; omega)).mono ?_; rintro e w' ⟨rfl, rfl⟩)
    go_ret
    exact ⟨ret_eq (by rw [← HW.out]), rfl⟩
  · have HW := Lib.hid (wordAt_last s i h8 (by omega))
    go_enter Tryd.func28, Tryd.ntmps28
    go_wp2_with (go_at_call 33; refine (join_any _ _ (by simp; omega)).mono ?_; rintro e w' ⟨rfl, rfl⟩)
    go_ret
    exact ⟨ret_eq (by rw [← HW.out]), rfl⟩
end Go.Proofs.YtppkiponpjnkkaaDoor
