/-
  lap's Count, and the closure that tells what is too great, and whether a list of numbers has any. Conditions: a count from 0 on; numbers of a list as they lie.
-/
import Derived.Test.YtpfdjddjoclldaaRLa
import Derived.Test.YtpfdjddjoclldaaRFj
namespace Go.Proofs.Ytpfdjddjoclldaa
open Go.RowKit
open M
theorem count_neg (k : Int) (w : World) (h : k < 0) : Calls Try.prog 26 #[.int .i64 k] w fun e w' => e = .returned (.int .i64 0) ∧ w' = w := by
  go_enter Try.func26, Try.ntmps26
  go_wp2
  go_ret
  exact ⟨rfl, rfl⟩
theorem cnt_parts (k : Nat) : (cnt k : Int) = (if 0 < k % 32 then ((k / 32 : Nat) : Int) + 1 + 1 else ((k / 32 : Nat) : Int) + 1) := by
  unfold cnt
  split <;> omega
theorem count_any (k : Nat) (w : World) (h : (k : Int) ≤ 9223372036854775807) : Calls Try.prog 26 #[.int .i64 k] w fun e w' => e = .returned (.int .i64 (cnt k : Nat)) ∧ w' = w := by
  have h0 : ¬ ((k : Int) < 0) := by omega
  have HC := Lib.hid (cnt_parts k)
  obtain ⟨q, hq⟩ : ∃ q : Nat, k / 32 = q := ⟨_, rfl⟩
  obtain ⟨r, hr⟩ : ∃ r : Nat, k % 32 = r := ⟨_, rfl⟩
  have hqb : q < 288230376151711744 := by omega
  have hrb : r < 32 := by omega
  have e1 : (k : Int).tdiv 32 = (q : Int) := by rw [Int.tdiv_eq_ediv_of_nonneg (by omega)]; omega
  have e2 : (k : Int).tmod 32 = (r : Int) := by rw [Int.tmod_eq_emod_of_nonneg (by omega)]; omega
  have e3 : (k : Int) / 32 = (q : Int) := by omega
  have e4 : (k : Int) % 32 = (r : Int) := by omega
  rw [hq, hr] at HC
  clear hq hr
  go_enter Try.func26, Try.ntmps26
  by_cases hc : 0 < r
  · rw [if_pos hc] at HC
    go_wp2
    go_ret
    exact ⟨by rw [HC.out]; rfl, rfl⟩
  · rw [if_neg hc] at HC
    go_wp2
    go_ret
    exact ⟨by rw [HC.out]; rfl, rfl⟩
/-- Whether a number is greater than the greatest one. -/
def byd (m x : Int) : Bool := decide (x < -m ∨ x > m)
theorem tells_any (m x : Int) (g : Nat) (w : World) (hc : w.cell? ⟨g, 0, none⟩ = some (.int .i64 m)) (h0 : 0 ≤ m) (h1 : m ≤ 9223372036854775807) :
    Calls Try.prog 36 #[.int .i64 x, .pointer (some ⟨g, 0, none⟩)] w fun e w' => e = .returned (.bool (byd m x)) ∧ w' = w := by
  have hw : wrap64 (-m) = -m := by rw [wrap64]; omega
  have HD : Hid (byd m x = decide (x < -m ∨ x > m)) := rfl
  go_enter Try.func36, Try.ntmps36
  by_cases h2 : x < -m
  · rw [decide_eq_true (Or.inl h2)] at HD
    go_wp2
    go_ret
    exact ⟨by rw [HD.out]; rfl, rfl⟩
  · by_cases h3 : x > m
    · rw [decide_eq_true (Or.inr h3)] at HD
      go_wp2
      go_ret
      exact ⟨by rw [HD.out]; rfl, rfl⟩
    · rw [decide_eq_false (fun h => h.elim h2 h3)] at HD
      go_wp2
      go_ret
      exact ⟨by rw [HD.out]; rfl, rfl⟩
theorem beyond_any (m : Int) (w : World) : Calls Try.prog 25 #[.int .i64 m] w fun e w' => e = .returned (.func (.func 36) #[] #[.pointer (some ⟨w.heap.size, 0, none⟩)]) ∧ w' = w.alloc (.cells #[.int .i64 m] 3) := by
  go_enter Try.func25, Try.ntmps25
  go_wp2
  go_ret
  exact ⟨rfl, rfl⟩
theorem any_no (m : Int) (xs : List Int) (h : ∀ j, j < xs.length → byd m (xs.getD j 0) = false) : xs.any (byd m) = false := by
  rw [Bool.eq_false_iff]
  intro hc
  obtain ⟨x, hx, hb⟩ := List.any_eq_true.1 hc
  obtain ⟨i, hi, rfl⟩ := List.getElem_of_mem hx
  have := h i hi
  rw [List.getD_eq_getElem?_getD, List.getElem?_eq_getElem hi] at this
  rw [show (some xs[i]).getD 0 = xs[i] from rfl, hb] at this
  cases this
theorem any_yes (m : Int) (xs : List Int) (k : Nat) (hk : k < xs.length) (h : byd m (xs.getD k 0) = true) : xs.any (byd m) = true := by
  rw [List.getD_eq_getElem?_getD, List.getElem?_eq_getElem hk] at h
  exact List.any_eq_true.2 ⟨xs[k], List.getElem_mem hk, h⟩
set_option maxRecDepth 100000 in
theorem index_any (m : Int) (xs : List Int) (v : Value) (g : Nat) (w : World) (hv : IntsAt w v xs) (hl : xs.length ≤ maxLen) (hc : w.cell? ⟨g, 0, none⟩ = some (.int .i64 m)) (h0 : 0 ≤ m) (h1 : m ≤ 9223372036854775807) :
    Calls Try.prog 35 #[v, .func (.func 36) #[] #[.pointer (some ⟨g, 0, none⟩)]] w fun e w' => (∃ n : Int, e = .returned (.int .i64 n) ∧ decide (n ≥ 0) = xs.any (byd m)) ∧ w' = w := by
  obtain ⟨a, cap, rfl, hcell⟩ := hv
  have HM := Lib.hid hl
  have HT := fun x => tells_any m x g w hc h0 h1
  have HNO := Lib.hid (any_no m xs)
  have HYES := Lib.hid (any_yes m xs)
  generalize xs.any (byd m) = R at *
  have hlen : (xs.length : Int) ≤ 9223372036854775807 := by unfold maxLen at hl; omega
  obtain ⟨L, hL⟩ : ∃ L, xs.length = L := ⟨_, rfl⟩
  rw [hL] at hcell HNO HYES hlen ⊢
  clear hc hl HM hL
  go_enter Try.func35, Try.ntmps35
  go_wp2
  go_loop [8] (fun i => ∃ k : Nat, k ≤ L ∧ i = .int .i64 k ∧ ∀ j, j < k → byd m (xs.getD j 0) = false) (fun i => L - (intOf i).toNat)
  case atStart => exact ⟨0, by omega, rfl, fun j hj => by omega⟩
  case round =>
    obtain ⟨k, hk, rfl, hall⟩ := hrel
    have HA := Lib.hid hall
    clear hall
    rcases Nat.lt_or_ge k L with hlt | hge
    · obtain ⟨b, off, rfl, hbs, hcs⟩ := hcell (by omega)
      have c0 := hcs k hlt
      have HY := Lib.hid (HYES.out k hlt)
      have HST : Hid (byd m (xs.getD k 0) = false → ∀ j, j < k + 1 → byd m (xs.getD j 0) = false) := fun h j hj => by
        rcases Nat.lt_or_ge j k with hl | hg
        · exact HA.out j hl
        · obtain rfl : j = k := by omega
          exact h
      clear hcs hcell
      obtain ⟨x, hx⟩ : ∃ x, xs.getD k 0 = x := ⟨_, rfl⟩
      rw [hx] at c0 HY HST
      clear hx hk
      go_wp2_with fail
      refine (HT x).mono ?_
      rintro e w1 ⟨rfl, rfl⟩
      cases hb : byd m x
      · go_wp2_with fail
        go_round
        case rel => exact ⟨k + 1, hlt, by go_num, HST.out hb⟩
        case measure => simp [intOf] <;> omega
      · go_wp2_with fail
        go_ret
        exact ⟨⟨(k : Int), rfl, by rw [HY.out hb]; simp⟩, rfl⟩
    · obtain rfl : k = L := by omega
      clear hcell
      go_wp2_with fail
      go_ret
      exact ⟨⟨-1, rfl, by rw [HNO.out HA.out]; rfl⟩, rfl⟩
theorem contains_any (m : Int) (xs : List Int) (v : Value) (g : Nat) (w : World) (hv : IntsAt w v xs) (hl : xs.length ≤ maxLen) (hc : w.cell? ⟨g, 0, none⟩ = some (.int .i64 m)) (h0 : 0 ≤ m) (h1 : m ≤ 9223372036854775807) :
    Calls Try.prog 24 #[v, .func (.func 36) #[] #[.pointer (some ⟨g, 0, none⟩)]] w fun e w' => e = .returned (.bool (xs.any (byd m))) ∧ w' = w := by
  have HI := index_any m xs v g w hv hl hc h0 h1
  generalize xs.any (byd m) = R at *
  clear hv hl hc h0 h1
  go_enter Try.func24, Try.ntmps24
  go_wp2_with fail
  refine HI.mono ?_
  rintro e w1 ⟨⟨n, rfl, hn⟩, rfl⟩
  have HN := Lib.hid hn
  clear hn HI
  go_wp2
  go_ret
  exact ⟨by rw [← HN.out]; rfl, rfl⟩
end Go.Proofs.Ytpfdjddjoclldaa
