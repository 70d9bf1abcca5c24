/-
  Whether a list of numbers has any that is too great for a step (ContainsFunc over band's closure). Conditions: numbers of a list as they lie.
-/
import Derived.Test.YtagcdnglipdldaaBna
namespace Go.Proofs.Ytagcdnglipdldaa
open Go.RowKit
open M
theorem gany_no (m : Int) (xs : List Int) (h : ∀ j, j < xs.length → grt m (xs.getD j 0) = false) : xs.any (grt m) = false := by
  rw [Bool.eq_false_iff]
  intro hc
  obtain ⟨x, hx, hb⟩ := List.any_eq_true.1 hc
  obtain ⟨i, hi, rfl⟩ := List.getElem_of_mem hx
  have := h i hi
  rw [List.getD_eq_getElem?_getD, List.getElem?_eq_getElem hi] at this
  rw [show (some xs[i]).getD 0 = xs[i] from rfl, hb] at this
  cases this
theorem gany_yes (m : Int) (xs : List Int) (k : Nat) (hk : k < xs.length) (h : grt m (xs.getD k 0) = true) : xs.any (grt m) = true := by
  rw [List.getD_eq_getElem?_getD, List.getElem?_eq_getElem hk] at h
  exact List.any_eq_true.2 ⟨xs[k], List.getElem_mem hk, h⟩
set_option maxRecDepth 100000 in
theorem gindex_any (m : Int) (xs : List Int) (v : Value) (g : Nat) (w : World) (hv : IntsAt w v xs) (hl : xs.length ≤ maxLen) (hc : w.cell? ⟨g, 0, none⟩ = some (.int .i64 m)) (h0 : 0 ≤ m) (h1 : m ≤ 9223372036854775807) :
    Calls Try.prog 23 #[v, .func (.func 24) #[] #[.pointer (some ⟨g, 0, none⟩)]] w fun e w' => (∃ n : Int, e = .returned (.int .i64 n) ∧ decide (n ≥ 0) = xs.any (grt m)) ∧ w' = w := by
  obtain ⟨a, cap, rfl, hcell⟩ := hv
  have HM := Lib.hid hl
  have HT := fun x => grt_any m x g w hc h0 h1
  have HNO := Lib.hid (gany_no m xs)
  have HYES := Lib.hid (gany_yes m xs)
  generalize xs.any (grt m) = R at *
  have hlen : (xs.length : Int) ≤ 9223372036854775807 := by unfold maxLen at hl; omega
  obtain ⟨L, hL⟩ : ∃ L, xs.length = L := ⟨_, rfl⟩
  rw [hL] at hcell HNO HYES hlen ⊢
  clear hc hl HM hL
  go_enter Try.func23, Try.ntmps23
  go_wp2
  go_loop [8] (fun i => ∃ k : Nat, k ≤ L ∧ i = .int .i64 k ∧ ∀ j, j < k → grt m (xs.getD j 0) = false) (fun i => L - (intOf i).toNat)
  case atStart => exact ⟨0, by omega, rfl, fun j hj => by omega⟩
  case round =>
    obtain ⟨k, hk, rfl, hall⟩ := hrel
    have HA := Lib.hid hall
    clear hall
    rcases Nat.lt_or_ge k L with hlt | hge
    · obtain ⟨b, off, rfl, hbs, hcs⟩ := hcell (by omega)
      have c0 := hcs k hlt
      have HY := Lib.hid (HYES.out k hlt)
      have HST : Hid (grt m (xs.getD k 0) = false → ∀ j, j < k + 1 → grt m (xs.getD j 0) = false) := fun h j hj => by
        rcases Nat.lt_or_ge j k with hl | hg
        · exact HA.out j hl
        · obtain rfl : j = k := by omega
          exact h
      clear hcs hcell
      obtain ⟨x, hx⟩ : ∃ x, xs.getD k 0 = x := ⟨_, rfl⟩
      rw [hx] at c0 HY HST
      clear hx hk
      go_wp2_with fail
      refine (HT x).mono ?_
      rintro e w1 ⟨rfl, rfl⟩
      cases hb : grt m x
      · go_wp2_with fail
        go_round
        case rel => exact ⟨k + 1, hlt, by go_num, HST.out hb⟩
        case measure => simp [intOf] <;> omega
      · go_wp2_with fail
        go_ret
        exact ⟨⟨(k : Int), rfl, by rw [HY.out hb]; simp⟩, rfl⟩
    · obtain rfl : k = L := by omega
      clear hcell
      go_wp2_with fail
      go_ret
      exact ⟨⟨-1, rfl, by rw [HNO.out HA.out]; rfl⟩, rfl⟩
theorem gcontains_any (m : Int) (xs : List Int) (v : Value) (g : Nat) (w : World) (hv : IntsAt w v xs) (hl : xs.length ≤ maxLen) (hc : w.cell? ⟨g, 0, none⟩ = some (.int .i64 m)) (h0 : 0 ≤ m) (h1 : m ≤ 9223372036854775807) :
    Calls Try.prog 20 #[v, .func (.func 24) #[] #[.pointer (some ⟨g, 0, none⟩)]] w fun e w' => e = .returned (.bool (xs.any (grt m))) ∧ w' = w := by
  have HI := gindex_any m xs v g w hv hl hc h0 h1
  generalize xs.any (grt m) = R at *
  clear hv hl hc h0 h1
  go_enter Try.func20, Try.ntmps20
  go_wp2_with fail
  refine HI.mono ?_
  rintro e w1 ⟨⟨n, rfl, hn⟩, rfl⟩
  have HN := Lib.hid hn
  clear hn HI
  go_wp2
  go_ret
  exact ⟨by rw [← HN.out]; rfl, rfl⟩
end Go.Proofs.Ytagcdnglipdldaa
