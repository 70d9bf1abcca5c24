/-
  MidJoins walked where nothing is joined: too many numbers, an odd number of them, one that is too great. Conditions: lists of numbers, as they lie.
-/
import Derived.Test.YtpfdjddjoclldaaCh
import Derived.Test.YtpfdjddjoclldaaCi
namespace Go.Proofs.Ytpfdjddjoclldaa
open Go.RowKit
open M
set_option maxRecDepth 100000 in
set_option maxHeartbeats 1000000 in
theorem joins_many (l r : List Int) (u v : Value) (w : World) (hu : IntsAt w u l) (hv : IntsAt w v r) (hl : l.length ≤ maxLen) (hr : r.length ≤ maxLen) (h : 400 < l.length ∨ 400 < r.length) :
    Calls Try.prog 5 #[u, v] w fun e w' => e = .returned (.bool true) ∧ Below w.heap.size w w' := by
  obtain ⟨a, cap, rfl, _⟩ := hu
  obtain ⟨b, cap2, rfl, _⟩ := hv
  obtain ⟨L, hL⟩ : ∃ L, l.length = L := ⟨_, rfl⟩
  obtain ⟨K, hK⟩ : ∃ K, r.length = K := ⟨_, rfl⟩
  rw [hL] at hl h ⊢
  rw [hK] at hr h ⊢
  clear hL hK
  unfold maxLen at hl hr
  have b1 : (L : Int) ≤ 9223372036854775807 := by omega
  have b2 : (K : Int) ≤ 9223372036854775807 := by omega
  clear hl hr
  have h2 : (400 : Int) < (L : Int) ∨ ¬ ((400 : Int) < (L : Int)) ∧ (400 : Int) < (K : Int) := by omega
  clear h
  rcases h2 with h | ⟨h1, h⟩
  all_goals
    go_enter Try.func5, Try.ntmps5
    go_wp2_with (refine (awake12_any _).mono ?_; rintro e w' ⟨rfl, rfl⟩)
    go_ret
    exact ⟨rfl, Below.refl _ _⟩
set_option maxRecDepth 100000 in
set_option maxHeartbeats 1000000 in
theorem joins_odd (l r : List Int) (u v : Value) (w : World) (hu : IntsAt w u l) (hv : IntsAt w v r) (hl : l.length ≤ 400) (hr : r.length ≤ 400) (h : l.length % 2 = 1) :
    Calls Try.prog 5 #[u, v] w fun e w' => e = .returned (.bool true) ∧ Below w.heap.size w w' := by
  have HS := Lib.hid (split_odd l u w hu (by omega) h)
  obtain ⟨a, cap, rfl, _⟩ := hu
  obtain ⟨b, cap2, rfl, _⟩ := hv
  obtain ⟨L, hL⟩ : ∃ L, l.length = L := ⟨_, rfl⟩
  obtain ⟨K, hK⟩ : ∃ K, r.length = K := ⟨_, rfl⟩
  rw [hL] at hl h HS ⊢
  rw [hK] at hr ⊢
  clear hL hK
  have b1 : (L : Int) ≤ 400 := by omega
  have b2 : (K : Int) ≤ 400 := by omega
  have b3 : ¬ ((400 : Int) < (L : Int)) := by omega
  have b4 : ¬ ((400 : Int) < (K : Int)) := by omega
  have e1 : (L : Int).tmod 2 = 1 := by rw [Int.tmod_eq_emod_of_nonneg (by omega)]; omega
  have e2 : (L : Int) % 2 = 1 := by omega
  go_enter Try.func5, Try.ntmps5
  go_wp2_with fail
  refine (awake12_any w).mono ?_
  rintro e w' ⟨rfl, rfl⟩
  go_wp2_with fail
  refine HS.out.mono ?_
  rintro e w' ⟨rfl, rfl⟩
  go_wp2_with fail
  go_ret
  exact ⟨rfl, Below.refl _ _⟩
set_option maxRecDepth 100000 in
set_option maxHeartbeats 2000000 in
theorem joins_far (l r : List Int) (u v : Value) (w : World) (hu : IntsAt w u l) (hv : IntsAt w v r) (hl : l.length ≤ 400) (hr : r.length ≤ 400) (h : l.length % 2 = 0) (hf : l.any (byd 1048576) = true) :
    Calls Try.prog 5 #[u, v] w fun e w' => e = .returned (.bool true) ∧ Below w.heap.size w w' := by
  have HS := Lib.hid (split_far l u w hu (by omega) h hf)
  have HNO : Hid ((∀ j, j < l.length → byd 1048576 (l.getD j 0) = false) → False) := Lib.hid fun h => by have := any_no 1048576 l h; rw [hf] at this; cases this
  obtain ⟨a, cap, rfl, hcell⟩ := hu
  have HCELL := Lib.hid hcell
  obtain ⟨b, cap2, rfl, _⟩ := hv
  obtain ⟨L, hL⟩ : ∃ L, l.length = L := ⟨_, rfl⟩
  obtain ⟨K, hK⟩ : ∃ K, r.length = K := ⟨_, rfl⟩
  rw [hL] at hl h HS HNO HCELL ⊢
  rw [hK] at hr ⊢
  clear hL hK hf hcell
  have b1 : (L : Int) ≤ 400 := by omega
  have b2 : (K : Int) ≤ 400 := by omega
  have b3 : ¬ ((400 : Int) < (L : Int)) := by omega
  have b4 : ¬ ((400 : Int) < (K : Int)) := by omega
  have e1 : (L : Int).tmod 2 = 0 := by rw [Int.tmod_eq_emod_of_nonneg (by omega)]; omega
  have e2 : (L : Int) % 2 = 0 := by omega
  go_enter Try.func5, Try.ntmps5
  go_wp2_with fail
  refine (awake12_any w).mono ?_
  rintro e w' ⟨rfl, rfl⟩
  go_wp2_with fail
  refine HS.out.mono ?_
  rintro e w1 ⟨rfl, hb⟩
  have HB := Lib.hid hb
  clear hb HS
  go_wp2_with fail
  go_loop [8] (fun i => ∃ k : Nat, k ≤ L ∧ i = .int .i64 k ∧ ∀ j, j < k → byd 1048576 (l.getD j 0) = false) (fun i => L - (intOf i).toNat)
  case atStart => exact ⟨0, by omega, rfl, fun j hj => by omega⟩
  case round =>
    obtain ⟨k, hk, rfl, hall⟩ := hrel
    have HA := Lib.hid hall
    clear hall
    rcases Nat.lt_or_ge k L with hlt | hge
    · obtain ⟨b, off, rfl, hbs, hcs⟩ := HCELL.out (by omega)
      have c0 := (HB.out.cell (p := ⟨b, off + k, none⟩) hbs).trans (hcs k hlt)
      have HST : Hid (byd 1048576 (l.getD k 0) = false → ∀ j, j < k + 1 → byd 1048576 (l.getD j 0) = false) := fun h j hj => by
        rcases Nat.lt_or_ge j k with hl | hg
        · exact HA.out j hl
        · obtain rfl : j = k := by omega
          exact h
      clear hcs
      obtain ⟨x, hx⟩ : ∃ x, l.getD k 0 = x := ⟨_, rfl⟩
      rw [hx] at c0 HST
      have hkI : (k : Int) < (L : Int) := by omega
      clear hx hk hbs
      by_cases h1 : x < -1048576
      · go_wp2_with fail
        go_ret
        exact ⟨rfl, HB.out⟩
      · by_cases h2 : 1048576 < x
        · go_wp2_with fail
          go_ret
          exact ⟨rfl, HB.out⟩
        · have HN : Hid (byd 1048576 x = false) := Lib.hid (decide_eq_false (by omega))
          go_wp2_with fail
          go_round
          case rel => exact ⟨k + 1, hlt, by go_num, HST.out HN.out⟩
          case measure => simp [intOf] <;> omega
    · obtain rfl : k = L := by omega
      exact (HNO.out HA.out).elim
end Go.Proofs.Ytpfdjddjoclldaa
