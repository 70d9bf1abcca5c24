/-
  The reference of layer 8: Root by halving a range, down, Turn. Conditions: those that each names.
-/
import Derived.Test.YtdnchnhflfcdkaaQOf
namespace Go.Proofs.Ytdnchnhflfcdkaa
open Go.RowKit
open M
theorem sq31 (a : Nat) (h : a ≤ 2147483648) : a * a ≤ 4611686018427387904 := by
  have := Nat.mul_le_mul h h
  omega
set_option maxRecDepth 100000 in
theorem root_ref (n : Nat) (w : World) (hn : n < 4611686018427387904) :
    Calls Try.prog 56 #[.int .i64 n] w fun e w' => e = .returned (.int .i64 (rtN n : Nat)) ∧ w = w' := by
  have HN := Lib.hid hn
  go_enter Try.func56, Try.ntmps56
  go_wp2
  go_loop [3, 4] (fun a b => ∃ l h : Nat, l ≤ h ∧ h ≤ 2147483648 ∧ l * l ≤ n ∧ n < (h + 1) * (h + 1) ∧ a = .int .i64 l ∧ b = .int .i64 h) (fun a b => (intOf b).toNat - (intOf a).toNat)
  case atStart => exact ⟨0, 2147483648, by omega, by omega, by omega, by omega, rfl, rfl⟩
  case round =>
    obtain ⟨l, h, h1, h2, h3, h4, rfl, rfl⟩ := hrel
    have H3 := Lib.hid h3
    have H4 := Lib.hid h4
    clear h3 h4
    rcases Nat.lt_or_ge l h with hlt | hge
    · obtain ⟨m, hm⟩ : ∃ m, (l + h + 1) / 2 = m := ⟨_, rfl⟩
      have hm1 : l < m := by omega
      have hm2 : m ≤ h := by omega
      have hmI : ((l : Int) + (h : Int) + 1) / 2 = (m : Int) := by omega
      have HM := Lib.hid hmI
      have HSQ := Lib.hid (sq31 m (by omega))
      have HPI : Hid ((m : Int) * (m : Int) = ((m * m : Nat) : Int)) := rfl
      obtain ⟨s, hs⟩ : ∃ s, m * m = s := ⟨_, rfl⟩
      rw [hs] at HSQ HPI
      have HSS := Lib.hid hs
      clear hs
      by_cases hle : s ≤ n
      · have hsq := HSQ.out
        have hpi := HPI.out
        clear hm
        go_wp2
        rw [HM.out]
        refine ⟨⟨m, h, hm2, h2, by rw [HSS.out]; exact hle, H4.out, rfl, rfl⟩, ?_⟩
        simp only [intOf]
        omega
      · have hsq := HSQ.out
        have hpi := HPI.out
        have hlow : n < (m - 1 + 1) * (m - 1 + 1) := by rw [show m - 1 + 1 = m by omega, HSS.out]; omega
        have HLOW := Lib.hid hlow
        clear hm hlow
        go_wp2
        refine ⟨⟨l, m - 1, by omega, by omega, H3.out, HLOW.out, rfl, congrArg (Value.int .i64) (by omega)⟩, ?_⟩
        simp only [intOf]
        omega
    · obtain rfl : l = h := by omega
      go_wp2
      go_ret
      exact ⟨ret_eq (by rw [rtN_is n l ⟨H3.out, H4.out⟩]), rfl⟩
theorem down_ref (n : Int) (w : World) (h1 : -4611686018427387904 ≤ n) (h2 : n ≤ 4611686018427387904) :
    Calls Try.prog 57 #[.int .i64 n] w fun e w' => e = .returned (.int .i64 (n / 1073741824)) ∧ w = w' := by
  have HE : Hid (n / 1073741824 = if n.tmod 1073741824 < 0 then n.tdiv 1073741824 - 1 else n.tdiv 1073741824) := by
    unfold Hid
    rcases (show n < 0 ∨ 0 ≤ n by omega) with e | e
    · obtain ⟨m, rfl⟩ : ∃ m : Int, n = -m := ⟨-n, by omega⟩
      rw [Int.neg_tmod, Int.neg_tdiv, Int.tmod_eq_emod_of_nonneg (by omega), Int.tdiv_eq_ediv_of_nonneg (by omega)]
      split <;> omega
    · rw [Int.tmod_eq_emod_of_nonneg e, Int.tdiv_eq_ediv_of_nonneg e, if_neg (by omega)]
  have HW : Hid (wrap64 (n.tdiv 1073741824 - 1) = n.tdiv 1073741824 - 1) := by
    unfold Hid
    have := HE.out
    apply IntWalk.wrap64_in
    split at this <;> omega
  by_cases h0 : n.tmod 1073741824 < 0
  · have HH := Lib.hid h0
    go_enter Try.func57, Try.ntmps57
    go_wp2
    go_ret
    refine ⟨ret_eq ?_, rfl⟩
    rw [HE.out, if_pos HH.out]
    exact HW.out
  · have HH := Lib.hid h0
    go_enter Try.func57, Try.ntmps57
    go_wp2
    go_ret
    refine ⟨ret_eq ?_, rfl⟩
    rw [HE.out, if_neg (Int.not_lt.2 HH.out)]
theorem bitN (k n : Nat) (hn : n < 7) : (64 / 2 ^ n ≤ k % 2 ^ (7 - n) ↔ k / 2 ^ (6 - n) % 2 = 1) ∧ (64 / 2 ^ n ≤ k % 2 ^ (7 - n) → k % 2 ^ (7 - n) - 64 / 2 ^ n = k % 2 ^ (6 - n)) ∧ (¬ 64 / 2 ^ n ≤ k % 2 ^ (7 - n) → k % 2 ^ (7 - n) = k % 2 ^ (6 - n)) ∧ 1 ≤ 64 / 2 ^ n ∧ 64 / 2 ^ n ≤ 64 ∧ k % 2 ^ (7 - n) ≤ 127 ∧ 64 / 2 ^ n / 2 = 64 / 2 ^ (n + 1) := by
  have : n = 0 ∨ n = 1 ∨ n = 2 ∨ n = 3 ∨ n = 4 ∨ n = 5 ∨ n = 6 := by omega
  rcases this with rfl | rfl | rfl | rfl | rfl | rfl | rfl <;> omega
set_option maxRecDepth 100000 in
set_option maxHeartbeats 1000000 in
theorem turn_ref (k : Int) (w : World) (hk1 : -9223372036854775808 ≤ k) (hk2 : k ≤ 9223372036854775807) :
    Calls Try.prog 52 #[.int .i64 k] w fun e w' => e = .returned (.tuple #[.int .i64 (trg k).1, .int .i64 (trg k).2]) ∧ w = w' := by
  have hm := ang_lt k
  have HT : Hid (trg k = qts (tab8.getD (ang k % 128) (0, 0)) (ang k / 128)) := rfl
  have HE : Hid (((ang k : Nat) : Int) = if k.tmod 512 < 0 then k.tmod 512 + 512 else k.tmod 512) := by
    unfold Hid ang
    rcases (show k < 0 ∨ 0 ≤ k by omega) with e | e
    · obtain ⟨m, rfl⟩ : ∃ m : Int, k = -m := ⟨-k, by omega⟩
      rw [Int.neg_tmod, Int.tmod_eq_emod_of_nonneg (by omega)]
      split <;> omega
    · rw [Int.tmod_eq_emod_of_nonneg e, if_neg (by omega)]
      omega
  obtain ⟨m, hmm⟩ : ∃ m, ang k = m := ⟨_, rfl⟩
  rw [hmm] at hm HT HE
  obtain ⟨z, hz⟩ : ∃ z, k.tmod 512 = z := ⟨_, rfl⟩
  have HZ := Lib.hid hz
  rw [hz] at HE
  have hz1 : -512 ≤ z ∧ z < 512 := by
    have := HE.out
    split at this <;> omega
  have HTC := Lib.hid (tab8_cs (m % 128) (by omega))
  rw [HTC.out] at HT
  clear hmm hz HTC
  by_cases h0 : z < 0
  all_goals
    have HV := HE.out
    first
      | rw [if_pos h0] at HV
      | rw [if_neg h0] at HV
    have HVV := Lib.hid HV
    clear HV
    have hzz := HZ.out
    go_enter Try.func52, Try.ntmps52
    go_wp2_with fail
    clear hzz
    try rw [← HVV.out]
    obtain ⟨q, hq'⟩ : ∃ q, m % 128 = q := ⟨_, rfl⟩
    have hq7 : q < 128 := by omega
    rw [hq'] at HT
    rw [show ((m : Int) % 128) = ((q : Nat) : Int) by omega]
    clear hq' HVV HE HZ hz1 h0
    go_loop [6, 7, 8, 9, 10] (fun x y h r a => ∃ n : Nat, n ≤ 7 ∧ a = .int .i64 ((64 / 2 ^ n : Nat) : Int) ∧ r = .int .i64 ((q % 2 ^ (7 - n) : Nat) : Int) ∧ h = .int .i64 (hq (7 - n) : Nat) ∧ x = .int .i64 (csN q n).1 ∧ y = .int .i64 (csN q n).2) (fun _ _ _ _ a => (intOf a).toNat)
    case atStart =>
      refine ⟨0, by omega, rfl, ?_, rfl, rfl, rfl⟩
      rw [Nat.mod_eq_of_lt (show q < 2 ^ (7 - 0) by omega)]
    case round =>
      obtain ⟨n, hn, rfl, rfl, rfl, rfl, rfl⟩ := hrel
      rcases Nat.lt_or_ge n 7 with hlt | hge
      · obtain ⟨j, hj⟩ : ∃ j, 6 - n = j := ⟨_, rfl⟩
        obtain ⟨b1, b2, b3, b4, b5, b6, b7⟩ := bitN q n hlt
        have HCB := hc_bd j (by omega)
        have HNB := csN_bd q n hq7 hn
        have HS : Hid (csN q (n + 1) = if q / 2 ^ j % 2 = 1 then by1 (csN q n) (hc j) (hs j) else csN q n) := by
          unfold Hid hc hs
          rw [show 6 - j = n by omega, ← hj]
          rfl
        have HH := hq_root j (by omega)
        have HHB := hq_bd j (by omega)
        have HHJ : Hid (hq (7 - (n + 1)) = hc j) := by
          unfold Hid hq
          rw [if_neg (by omega), show 7 - (n + 1) = j by omega]
        rw [show 7 - n = j + 1 by omega] at b1 b2 b3 b6 ⊢
        rw [hj] at b1 b2 b3
        have HR7 : Hid (7 - (n + 1) = j) := by unfold Hid; omega
        obtain ⟨x, hx⟩ : ∃ x, (csN q n).1 = x := ⟨_, rfl⟩
        obtain ⟨y, hy⟩ : ∃ y, (csN q n).2 = y := ⟨_, rfl⟩
        have HPR : Hid (csN q n = (x, y)) := by unfold Hid; rw [← hx, ← hy]
        rw [hx, hy] at HNB ⊢
        obtain ⟨h, hh⟩ : ∃ h, hq (j + 1) = h := ⟨_, rfl⟩
        rw [hh] at HH HHB ⊢
        obtain ⟨c, hc'⟩ : ∃ c, hc j = c := ⟨_, rfl⟩
        obtain ⟨s, hs'⟩ : ∃ s, hs j = s := ⟨_, rfl⟩
        rw [hc', hs'] at HS HCB HH
        rw [hc'] at HHJ
        have HRC := Lib.hid HH.1
        have HRS := Lib.hid HH.2
        obtain ⟨a, ha⟩ : ∃ a, 64 / 2 ^ n = a := ⟨_, rfl⟩
        rw [ha] at b1 b2 b3 b4 b5 b7 ⊢
        obtain ⟨r, hr⟩ : ∃ r, q % 2 ^ (j + 1) = r := ⟨_, rfl⟩
        rw [hr] at b1 b2 b3 b6 ⊢
        have B7 := Lib.hid b7
        have HLT := Lib.hid hlt
        have m1 := Lib.hid (mul30 x c HNB.1 HNB.2.1 HCB.1)
        have m2 := Lib.hid (mul30 y s HNB.2.2.1 HNB.2.2.2 HCB.2)
        have m3 := Lib.hid (mul30 x s HNB.1 HNB.2.1 HCB.2)
        have m4 := Lib.hid (mul30 y c HNB.2.2.1 HNB.2.2.2 HCB.1)
        rw [HPR.out] at HS
        have HHH := Lib.hid HHB
        clear hx hy hh hc' hs' ha hr hj b7 HH HNB HCB hn hlt
        by_cases hbit : a ≤ r
        · have B2 := Lib.hid (b2 hbit)
          have HS1 : Hid (csN q (n + 1) = by1 (x, y) c s) := by
            unfold Hid
            rw [HS.out, if_pos (b1.1 hbit)]
          clear b1 b2 b3 HS
          go_wp2_with fail
          rw [show (1073741824 + (h : Int)) * 536870912 = (((1073741824 + h) * 536870912 : Nat) : Int) by omega]
          refine (root_ref _ _ (by omega)).mono ?_
          rintro e w' ⟨rfl, rfl⟩
          rw [HRC.out]
          go_wp2_with fail
          rw [show (1073741824 - (h : Int)) * 536870912 = (((1073741824 - h) * 536870912 : Nat) : Int) by omega]
          refine (root_ref _ _ (by omega)).mono ?_
          rintro e w' ⟨rfl, rfl⟩
          rw [HRS.out]
          have q1 := m1.out
          have q2 := m2.out
          have q3 := m3.out
          have q4 := m4.out
          go_wp2_with fail
          refine (down_ref _ _ (by omega) (by omega)).mono ?_
          rintro e w' ⟨rfl, rfl⟩
          go_wp2_with fail
          refine (down_ref _ _ (by omega) (by omega)).mono ?_
          rintro e w' ⟨rfl, rfl⟩
          go_wp2
          refine ⟨⟨n + 1, HLT.out, ?_, ?_, ?_, ?_, ?_⟩, ?_⟩
          · rw [← B7.out]; exact congrArg (Value.int .i64) (by omega)
          · rw [HR7.out, ← B2.out]; exact congrArg (Value.int .i64) (by omega)
          · rw [HHJ.out]
          · rw [HS1.out]; rfl
          · rw [HS1.out]; rfl
          · simp only [intOf]
            omega
        · have B3 := Lib.hid (b3 hbit)
          have HS1 : Hid (csN q (n + 1) = (x, y)) := by
            unfold Hid
            rw [HS.out, if_neg (fun e => hbit (b1.2 e))]
          clear b1 b2 b3 HS
          go_wp2_with fail
          rw [show (1073741824 + (h : Int)) * 536870912 = (((1073741824 + h) * 536870912 : Nat) : Int) by omega]
          refine (root_ref _ _ (by omega)).mono ?_
          rintro e w' ⟨rfl, rfl⟩
          rw [HRC.out]
          go_wp2_with fail
          rw [show (1073741824 - (h : Int)) * 536870912 = (((1073741824 - h) * 536870912 : Nat) : Int) by omega]
          refine (root_ref _ _ (by omega)).mono ?_
          rintro e w' ⟨rfl, rfl⟩
          rw [HRS.out]
          go_wp2
          refine ⟨⟨n + 1, HLT.out, ?_, ?_, ?_, ?_, ?_⟩, ?_⟩
          · rw [← B7.out]; exact congrArg (Value.int .i64) (by omega)
          · rw [HR7.out, ← B3.out]
          · rw [HHJ.out]
          · rw [HS1.out]
          · rw [HS1.out]
          · simp only [intOf]
            omega
      · obtain rfl : n = 7 := by omega
        have HPB := Lib.hid (csN_bd q 7 hq7 (by omega))
        obtain ⟨P, hP⟩ : ∃ P, csN q 7 = P := ⟨_, rfl⟩
        rw [hP] at HT HPB ⊢
        obtain ⟨t, ht⟩ : ∃ t, m / 128 = t := ⟨_, rfl⟩
        rw [ht] at HT
        have HQB := Lib.hid (qts_bd P HPB.out)
        clear hP
        obtain ⟨x, y⟩ := P
        go_wp2
        go_loop [6, 7, 15] (fun a b i => ∃ n : Nat, n ≤ t ∧ i = .int .i64 n ∧ a = .int .i64 (qts (x, y) n).1 ∧ b = .int .i64 (qts (x, y) n).2) (fun _ _ i => t - (intOf i).toNat)
        case atStart => exact ⟨0, Nat.zero_le _, rfl, rfl, rfl⟩
        case round =>
          obtain ⟨n, hn, rfl, rfl, rfl⟩ := hrel
          have HQ := HQB.out n
          have HS1 : Hid ((qts (x, y) (n + 1)).1 = -(qts (x, y) n).2) := rfl
          have HS2 : Hid ((qts (x, y) (n + 1)).2 = (qts (x, y) n).1) := rfl
          obtain ⟨a, ha⟩ : ∃ a, (qts (x, y) n).1 = a := ⟨_, rfl⟩
          obtain ⟨b, hb⟩ : ∃ b, (qts (x, y) n).2 = b := ⟨_, rfl⟩
          rw [ha, hb] at HQ ⊢
          rw [hb] at HS1
          rw [ha] at HS2
          have HAA := Lib.hid ha
          have HBB := Lib.hid hb
          clear ha hb
          rcases Nat.lt_or_ge n t with hlt | hge
          · go_wp2
            go_round
            case rel => exact ⟨n + 1, hlt, by go_num, by rw [HS1.out], by rw [HS2.out]⟩
            case measure => simp [intOf]; omega
          · obtain rfl : n = t := by omega
            go_wp2
            go_ret2
            refine ⟨?_, rfl⟩
            rw [HT.out, HAA.out, HBB.out]
            rfl
end Go.Proofs.Ytdnchnhflfcdkaa
