/-
  mid's beyond: whether lists hold a number that is too great. Conditions: lists of numbers as they lie.
-/
import Derived.Test.YtpfdjddjoclldaaRLb
namespace Go.Proofs.Ytpfdjddjoclldaa
open Go.RowKit
open M
theorem tells12_any (m x : Int) (g : Nat) (w : World) (hc : w.cell? ⟨g, 0, none⟩ = some (.int .i64 m)) (h0 : 0 ≤ m) (h1 : m ≤ 9223372036854775807) :
    Calls Try.prog 33 #[.int .i64 x, .pointer (some ⟨g, 0, none⟩)] w fun e w' => e = .returned (.bool (byd m x)) ∧ w' = w := by
  have hw : wrap64 (-m) = -m := by rw [wrap64]; omega
  have HD : Hid (byd m x = decide (x < -m ∨ x > m)) := rfl
  go_enter Try.func33, Try.ntmps33
  by_cases h2 : x < -m
  · rw [decide_eq_true (Or.inl h2)] at HD
    go_wp2
    go_ret
    exact ⟨by rw [HD.out]; rfl, rfl⟩
  · by_cases h3 : x > m
    · rw [decide_eq_true (Or.inr h3)] at HD
      go_wp2
      go_ret
      exact ⟨by rw [HD.out]; rfl, rfl⟩
    · rw [decide_eq_false (fun h => h.elim h2 h3)] at HD
      go_wp2
      go_ret
      exact ⟨by rw [HD.out]; rfl, rfl⟩
set_option maxRecDepth 100000 in
theorem index12_any (m : Int) (xs : List Int) (v : Value) (g : Nat) (w : World) (hv : IntsAt w v xs) (hl : xs.length ≤ maxLen) (hc : w.cell? ⟨g, 0, none⟩ = some (.int .i64 m)) (h0 : 0 ≤ m) (h1 : m ≤ 9223372036854775807) :
    Calls Try.prog 35 #[v, .func (.func 33) #[] #[.pointer (some ⟨g, 0, none⟩)]] w fun e w' => (∃ n : Int, e = .returned (.int .i64 n) ∧ decide (n ≥ 0) = xs.any (byd m)) ∧ w' = w := by
  obtain ⟨a, cap, rfl, hcell⟩ := hv
  have HM := Lib.hid hl
  have HT := fun x => tells12_any m x g w hc h0 h1
  have HNO := Lib.hid (any_no m xs)
  have HYES := Lib.hid (any_yes m xs)
  generalize xs.any (byd m) = R at *
  have hlen : (xs.length : Int) ≤ 9223372036854775807 := by unfold maxLen at hl; omega
  obtain ⟨L, hL⟩ : ∃ L, xs.length = L := ⟨_, rfl⟩
  rw [hL] at hcell HNO HYES hlen ⊢
  clear hc hl HM hL
  go_enter Try.func35, Try.ntmps35
  go_wp2
  go_loop [8] (fun i => ∃ k : Nat, k ≤ L ∧ i = .int .i64 k ∧ ∀ j, j < k → byd m (xs.getD j 0) = false) (fun i => L - (intOf i).toNat)
  case atStart => exact ⟨0, by omega, rfl, fun j hj => by omega⟩
  case round =>
    obtain ⟨k, hk, rfl, hall⟩ := hrel
    have HA := Lib.hid hall
    clear hall
    rcases Nat.lt_or_ge k L with hlt | hge
    · obtain ⟨b, off, rfl, hbs, hcs⟩ := hcell (by omega)
      have c0 := hcs k hlt
      have HY := Lib.hid (HYES.out k hlt)
      have HST : Hid (byd m (xs.getD k 0) = false → ∀ j, j < k + 1 → byd m (xs.getD j 0) = false) := fun h j hj => by
        rcases Nat.lt_or_ge j k with hl | hg
        · exact HA.out j hl
        · obtain rfl : j = k := by omega
          exact h
      clear hcs hcell
      obtain ⟨x, hx⟩ : ∃ x, xs.getD k 0 = x := ⟨_, rfl⟩
      rw [hx] at c0 HY HST
      clear hx hk
      go_wp2_with fail
      refine (HT x).mono ?_
      rintro e w1 ⟨rfl, rfl⟩
      cases hb : byd m x
      · go_wp2_with fail
        go_round
        case rel => exact ⟨k + 1, hlt, by go_num, HST.out hb⟩
        case measure => simp [intOf] <;> omega
      · go_wp2_with fail
        go_ret
        exact ⟨⟨(k : Int), rfl, by rw [HY.out hb]; simp⟩, rfl⟩
    · obtain rfl : k = L := by omega
      clear hcell
      go_wp2_with fail
      go_ret
      exact ⟨⟨-1, rfl, by rw [HNO.out HA.out]; rfl⟩, rfl⟩
theorem contains12_any (m : Int) (xs : List Int) (v : Value) (g : Nat) (w : World) (hv : IntsAt w v xs) (hl : xs.length ≤ maxLen) (hc : w.cell? ⟨g, 0, none⟩ = some (.int .i64 m)) (h0 : 0 ≤ m) (h1 : m ≤ 9223372036854775807) :
    Calls Try.prog 24 #[v, .func (.func 33) #[] #[.pointer (some ⟨g, 0, none⟩)]] w fun e w' => e = .returned (.bool (xs.any (byd m))) ∧ w' = w := by
  have HI := index12_any m xs v g w hv hl hc h0 h1
  generalize xs.any (byd m) = R at *
  clear hv hl hc h0 h1
  go_enter Try.func24, Try.ntmps24
  go_wp2_with fail
  refine HI.mono ?_
  rintro e w1 ⟨⟨n, rfl, hn⟩, rfl⟩
  have HN := Lib.hid hn
  clear hn HI
  go_wp2
  go_ret
  exact ⟨by rw [← HN.out]; rfl, rfl⟩
theorem many_no (m : Int) (X : Nat → List Int) (n : Nat) (h : ∀ j, j < n → (X j).any (byd m) = false) : (List.range n).any (fun i => (X i).any (byd m)) = false := by
  rw [List.any_eq_false]
  intro j hj
  rw [h j (List.mem_range.1 hj)]
  decide
theorem many_yes (m : Int) (X : Nat → List Int) (n k : Nat) (hk : k < n) (h : (X k).any (byd m) = true) : (List.range n).any (fun i => (X i).any (byd m)) = true :=
  List.any_eq_true.2 ⟨k, List.mem_range.2 hk, h⟩
theorem box_cell12 (w : World) (v : Value) (t : TypeId) : (w.alloc (.cells #[v] t)).cell? ⟨w.heap.size, 0, none⟩ = some v :=
  (cell_of_row _ _ 0 _ _ (0, 0) (row_new w _ rfl #[v] t)).trans rfl
set_option maxRecDepth 100000 in
set_option maxHeartbeats 1000000 in
theorem beyond12_any (m : Int) (n gl : Nat) (V : Nat → Value) (X : Nat → List Int) (w : World) (hn : n < 1000) (hgl : gl < w.heap.size) (hc : ∀ i, i < n → w.cell? ⟨gl, i, none⟩ = some (V i)) (hv : ∀ i, i < n → IntsAt w (V i) (X i)) (hl : ∀ i, i < n → (X i).length ≤ maxLen) (h0 : 0 ≤ m) (h1 : m ≤ 9223372036854775807) :
    Calls Try.prog 21 #[.int .i64 m, .slice (some ⟨gl, 0, none⟩) n n] w fun e w' => e = .returned (.bool ((List.range n).any (fun i => (X i).any (byd m)))) ∧ Below w.heap.size w w' := by
  have hb : Below w.heap.size w (w.alloc (.cells #[.int .i64 m] 3)) := (Below.refl _ _).alloc (Nat.le_refl _) _
  have HC := Lib.hid fun i hi => (hb.cell (p := ⟨gl, i, none⟩) hgl).trans (hc i hi)
  have HK := Lib.hid fun i hi => contains12_any m (X i) (V i) w.heap.size (w.alloc (.cells #[.int .i64 m] 3)) ((hv i hi).below hb) (hl i hi) (box_cell12 w _ _) h0 h1
  have HB := Lib.hid hb
  have HNO := Lib.hid (many_no m X n)
  have HYES := Lib.hid (many_yes m X n)
  generalize (List.range n).any (fun i => (X i).any (byd m)) = R at *
  clear hb hc hv hl hgl
  have hnI : (n : Int) < 1000 := by omega
  go_enter Try.func21, Try.ntmps21
  go_wp2
  generalize w.alloc (.cells #[.int .i64 m] 3) = w1 at *
  obtain ⟨b, hbk⟩ : ∃ b, w.heap.size = b := ⟨_, rfl⟩
  rw [hbk] at HK ⊢

  clear hbk
  go_loop [11] (fun i => ∃ k : Nat, k ≤ n ∧ i = .int .i64 k ∧ ∀ j, j < k → (X j).any (byd m) = false) (fun i => n - (intOf i).toNat)
  case atStart => exact ⟨0, by omega, rfl, fun j hj => by omega⟩
  case round =>
    obtain ⟨k, hk, rfl, hall⟩ := hrel
    have HA := Lib.hid hall
    clear hall
    rcases Nat.lt_or_ge k n with hlt | hge
    · have c0 := HC.out k hlt
      have HT := Lib.hid (HK.out k hlt)
      have HY := Lib.hid (HYES.out k hlt)
      have HST : Hid ((X k).any (byd m) = false → ∀ j, j < k + 1 → (X j).any (byd m) = false) := fun h j hj => by
        rcases Nat.lt_or_ge j k with hl | hg
        · exact HA.out j hl
        · obtain rfl : j = k := by omega
          exact h
      have hkI : (k : Int) < (n : Int) := by omega
      generalize (X k).any (byd m) = q at *
      clear hk
      go_wp2_with fail
      refine HT.out.mono ?_
      rintro e w2 ⟨rfl, rfl⟩
      cases q
      · go_wp2_with fail
        go_round
        case rel => exact ⟨k + 1, hlt, by go_num, HST.out (by trivial)⟩
        case measure => simp [intOf] <;> omega
      · go_wp2_with fail
        go_ret
        exact ⟨by rw [HY.out (by trivial)]; rfl, HB.out⟩
    · obtain rfl : k = n := by omega
      go_wp2_with fail
      go_ret
      exact ⟨by rw [HNO.out HA.out]; rfl, HB.out⟩
end Go.Proofs.Ytpfdjddjoclldaa
