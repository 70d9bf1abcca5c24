/-
  The contracts of layer 4's reference: Rest, Mul, Pow. Conditions: numbers are int's; Pow's count is no more than 1000.
-/
import Derived.Test.YtbokecpcefcimaaFw
namespace Go.Proofs.Ytbokecpcefcimaa
open Go.RowKit
open M

theorem rest_ref (x : Int) (w : World) (hx : inI x) :
    Calls Try.prog 51 #[.int .i64 x] w fun e w' => e = .returned (.int .i64 (el x : Nat)) ∧ w = w' := by
  obtain ⟨h1, h2⟩ := hx
  obtain ⟨he, b1, b2⟩ := tmod_rest x 128 (by decide)
  have HE := Lib.hid he
  clear he
  have HF := Lib.hid (el_int x)
  by_cases h0 : x.tmod 128 < 0
  · go_enter Try.func51, Try.ntmps51
    go_wp2
    go_ret
    exact ⟨ret_eq (by rw [HF.out]; have := HE.out; omega), rfl⟩
  · go_enter Try.func51, Try.ntmps51
    go_wp2
    go_ret
    exact ⟨ret_eq (by rw [HF.out]; have := HE.out; omega), rfl⟩

theorem dblE_lt (a : Nat) (h : a < 128) : dblE a < 128 := by
  have := of_all (n := 128) (p := fun a => decide (dblE a < 128)) (by decide +kernel) a h
  simpa using this
theorem pm_end (k a o : Nat) : pm k a 0 o = o := by
  induction k generalizing a o with
  | zero => rfl
  | succ k ih =>
    show pm k (dblE a) (0 / 2) (if 0 % 2 = 1 then o ^^^ a else o) = o
    rw [if_neg (by decide)]
    exact ih _ _

set_option maxHeartbeats 1000000 in
theorem mul_ref (x y : Int) (w : World) (hx : inI x) (hy : inI y) :
    Calls Try.prog 40 #[.int .i64 x, .int .i64 y] w fun e w' => e = .returned (.int .i64 (mul (el x) (el y) : Nat)) ∧ w = w' := by
  have HX := Lib.hid hx
  have HY := Lib.hid hy
  obtain ⟨p, hp⟩ : ∃ p, el x = p := ⟨_, rfl⟩
  obtain ⟨q, hq⟩ : ∃ q, el y = q := ⟨_, rfl⟩
  have hp1 : p < 128 := by rw [← hp]; exact el_lt x
  have hq1 : q < 128 := by rw [← hq]; exact el_lt y
  have HP := Lib.hid hp
  have HQ := Lib.hid hq
  clear hx hy hp hq
  go_enter Try.func40, Try.ntmps40
  go_wp2_with fail
  refine (rest_ref x _ HX.out).mono ?_
  rintro e w1 ⟨rfl, rfl⟩
  rw [HP.out]
  go_wp2_with fail
  refine (rest_ref y _ HY.out).mono ?_
  rintro e w1 ⟨rfl, rfl⟩
  rw [HQ.out]
  go_wp2
  go_loop [0, 1, 5] (fun a b o => ∃ k A B O : Nat, A < 128 ∧ B < 2 ^ k ∧ k ≤ 7 ∧ O < 128 ∧ a = .int .i64 A ∧ b = .int .i64 B ∧ o = .int .i64 O ∧ pm k A B O = mul p q) (fun _ b _ => (intOf b).toNat)
  case atStart => exact ⟨7, p, q, 0, hp1, hq1, by omega, by omega, rfl, rfl, rfl, rfl⟩
  case round =>
    obtain ⟨k, A, B, O, hA, hB, hk, hO, rfl, rfl, rfl, hpm⟩ := hrel
    have HPM := Lib.hid hpm
    clear hpm
    by_cases hz : B = 0
    · subst hz
      go_wp2
      go_ret
      exact ⟨ret_eq (by rw [HP.out, HQ.out, ← HPM.out, pm_end]), rfl⟩
    · obtain ⟨j, rfl⟩ : ∃ j, k = j + 1 := by
        cases k with
        | zero => simp at hB; omega
        | succ j => exact ⟨j, rfl⟩
      have hB7 : B < 128 := by
        have : 2 ^ (j + 1) ≤ 2 ^ 7 := Nat.pow_le_pow_right (by omega) hk
        omega
      have hB2 : B / 2 < 2 ^ j := by rw [Nat.pow_succ] at hB; omega
      have hd := dblE_lt A hA
      have hxl := xor_lt O A hO hA
      have HD : Hid (dblE A = if 128 ≤ 2 * A then (2 * A) ^^^ 137 else 2 * A) := rfl
      have HX1 := Lib.hid (i64_xor_nat O A (by omega) (by omega))
      have HX2 : Hid (bits .xor .i64 (2 * (A : Int)) 137 = (((2 * A) ^^^ 137 : Nat) : Int)) := by
        have := i64_xor_nat (2 * A) 137 (by omega) (by omega)
        rw [show ((2 * A : Nat) : Int) = 2 * (A : Int) by omega] at this
        exact this
      have HS : Hid (pm (j + 1) A B O = pm j (dblE A) (B / 2) (if B % 2 = 1 then O ^^^ A else O)) := rfl
      have HK := Lib.hid hB2
      have HZ := Lib.hid hz
      clear hB hB2 hz
      by_cases hodd : B % 2 = 1 <;> by_cases hbig : 128 ≤ 2 * A
      all_goals
        have HO := Lib.hid hodd
        have HG := Lib.hid hbig
      · have b1 : (B : Int) % 2 = 1 := by omega
        have b2 : 128 ≤ 2 * (A : Int) := by omega
        have hB1 : 0 < (B : Int) := by have := HZ.out; omega
        clear hodd hbig
        go_wp2
        go_round
        case rel => exact ⟨j, dblE A, B / 2, O ^^^ A, hd, HK.out, by omega, hxl, by rw [HD.out, if_pos HG.out, HX2.out], by go_num, by rw [HX1.out], by rw [← HPM.out, HS.out, if_pos HO.out]⟩
        case measure => simp [intOf]; omega
      · have b1 : (B : Int) % 2 = 1 := by omega
        have b2 : ¬ (128 ≤ 2 * (A : Int)) := by omega
        have hB1 : 0 < (B : Int) := by have := HZ.out; omega
        clear hodd hbig
        go_wp2
        go_round
        case rel => exact ⟨j, dblE A, B / 2, O ^^^ A, hd, HK.out, by omega, hxl, by rw [HD.out, if_neg HG.out]; go_num, by go_num, by rw [HX1.out], by rw [← HPM.out, HS.out, if_pos HO.out]⟩
        case measure => simp [intOf]; omega
      · have b1 : (B : Int) % 2 = 0 := by omega
        have b2 : 128 ≤ 2 * (A : Int) := by omega
        have hB1 : 0 < (B : Int) := by have := HZ.out; omega
        clear hodd hbig
        go_wp2
        go_round
        case rel => exact ⟨j, dblE A, B / 2, O, hd, HK.out, by omega, hO, by rw [HD.out, if_pos HG.out, HX2.out], by go_num, rfl, by rw [← HPM.out, HS.out, if_neg HO.out]⟩
        case measure => simp [intOf]; omega
      · have b1 : (B : Int) % 2 = 0 := by omega
        have b2 : ¬ (128 ≤ 2 * (A : Int)) := by omega
        have hB1 : 0 < (B : Int) := by have := HZ.out; omega
        clear hodd hbig
        go_wp2
        go_round
        case rel => exact ⟨j, dblE A, B / 2, O, hd, HK.out, by omega, hO, by rw [HD.out, if_neg HG.out]; go_num, by go_num, rfl, by rw [← HPM.out, HS.out, if_neg HO.out]⟩
        case measure => simp [intOf]; omega

theorem pow_ref (x : Int) (n : Nat) (w : World) (hx : inI x) (hn : n ≤ 1000) :
    Calls Try.prog 38 #[.int .i64 x, .int .i64 n] w fun e w' => e = .returned (.int .i64 (pw (el x) n : Nat)) ∧ w = w' := by
  have HX := Lib.hid hx
  clear hx
  go_enter Try.func38, Try.ntmps38
  go_wp2
  go_loop [5, 6] (fun o i => ∃ k : Nat, k ≤ n ∧ i = .int .i64 k ∧ o = .int .i64 (pw (el x) k : Nat)) (fun _ i => n - (intOf i).toNat)
  case atStart => exact ⟨0, Nat.zero_le _, rfl, rfl⟩
  case round =>
    obtain ⟨k, hk, rfl, rfl⟩ := hrel
    by_cases hlt : k < n
    · have hl := pw_lt (el x) k (el_lt x)
      have HS : Hid (mul (el ((pw (el x) k : Nat) : Int)) (el x) = pw (el x) (k + 1)) := by unfold Hid; rw [el_nat _ hl]; rfl
      go_wp2_with (go_at_call 40; refine (mul_ref _ x _ ⟨by omega, by omega⟩ HX.out).mono ?_; rintro e w' ⟨rfl, rfl⟩)
      go_round
      case rel => exact ⟨k + 1, by omega, by go_num, by rw [HS.out]⟩
      case measure => simp [intOf]; omega
    · obtain rfl : k = n := by omega
      go_wp2
      go_ret
      exact ⟨rfl, rfl⟩
end Go.Proofs.Ytbokecpcefcimaa
