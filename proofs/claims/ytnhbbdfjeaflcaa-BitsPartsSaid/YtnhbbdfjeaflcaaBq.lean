/-
  The walk of the law BitsParts. No conditions.
-/
import Derived.Test.YtnhbbdfjeaflcaaBp
import Derived.Deep.RegionHeld3
namespace Go.Proofs.Ytnhbbdfjeaflcaa
open Go.RowKit
open M

theorem bitsOf_parts (y m k : Nat) (hk : k ≤ m) : bitsOf y m = bitsOf (y / 2 ^ (m - k)) k ++ bitsOf (y % 2 ^ (m - k)) (m - k) := by
  apply List.ext_getElem (by simp [bitsOf]; omega)
  intro i h1 h2
  have hi : i < m := by simpa [bitsOf_length] using h1
  by_cases h : i < k
  · rw [List.getElem_append_left (by rw [bitsOf_length]; exact h)]
    simp only [bitsOf, List.getElem_map, List.getElem_range]
    rw [Nat.testBit_div_two_pow]
    congr 1; omega
  · rw [List.getElem_append_right (by rw [bitsOf_length]; omega)]
    simp only [bitsOf, List.getElem_map, List.getElem_range, List.length_map, List.length_range]
    rw [Nat.testBit_mod_two_pow, show m - k - 1 - (i - k) = m - 1 - i by omega]
    have : m - 1 - i < m - k := by omega
    simp [this]

set_option maxHeartbeats 3000000 in
theorem parts_walk (X N C : Nat) (w : World) (hX : X < 18446744073709551616) (hN : N < 256) (hC : C < 256) :
    Calls Try.prog 4 #[.int .u64 X, .int .u8 N, .int .u8 C] w fun e w' => e = .returned (.bool true) ∧ Below w.heap.size w w' := by
  go_enter Try.func4, Try.ntmps4
  go_wp2_with fail
  refine (awake_any _).mono ?_
  rintro e w1 ⟨rfl, hb⟩
  have HB := Lib.hid hb
  clear hb
  obtain ⟨m, hm⟩ : ∃ m, N % 57 = m := ⟨_, rfl⟩
  have hm1 : (N : Int) % 57 = (m : Int) := by omega
  have hm2 : m ≤ 56 := by omega
  clear hm
  obtain ⟨P, hP⟩ : ∃ P : Nat, 2 ^ m = P := ⟨_, rfl⟩
  have hP0 : 0 < P := by rw [← hP]; exact Nat.pow_pos (by decide)
  have hP1 : P ≤ 72057594037927936 := by rw [← hP]; exact Nat.pow_le_pow_right (n := 2) (j := 56) (by decide) hm2
  have hPi : (2 : Int) ^ m = (P : Int) := by rw [← hP, Int.natCast_pow]; rfl
  have hPw : IntKind.u64.wrap ((2 : Int) ^ m) = (P : Int) := by rw [hPi, IntKind.wrap_u64]; omega
  obtain ⟨y, hy⟩ : ∃ y, X % P = y := ⟨_, rfl⟩
  have hy1 : (X : Int) % (P : Int) = (y : Int) := by rw [← Int.natCast_emod, hy]
  have hyP : y < P := by rw [← hy]; exact Nat.mod_lt _ hP0
  obtain ⟨k, hk⟩ : ∃ k, C % (m + 1) = k := ⟨_, rfl⟩
  have hk1 : (C : Int) % ((m : Int) + 1) = (k : Int) := by rw [← hk, Int.natCast_emod]; rfl
  have hkm : k ≤ m := by rw [← hk]; have := Nat.mod_lt C (show 0 < m + 1 by omega); omega
  have hk2 : k ≤ 56 := by omega
  obtain ⟨r, hr⟩ : ∃ r, m - k = r := ⟨_, rfl⟩
  have hr2 : r ≤ 56 := by omega
  have hrw : IntKind.i64.wrap ((m : Int) - (k : Int)) = (r : Int) := (IntWalk.i64_in _ (by omega)).trans (by omega)
  obtain ⟨y1, hy1'⟩ : ∃ y1, y / 2 ^ r = y1 := ⟨_, rfl⟩
  obtain ⟨y2, hy2'⟩ : ∃ y2, y % 2 ^ r = y2 := ⟨_, rfl⟩
  have hyy : y < 2 ^ m := by rw [hP]; exact hyP
  have H1 : Hid (y1 < 2 ^ k) := by
    unfold Hid
    rw [← hy1']
    apply Nat.div_lt_of_lt_mul
    rw [← Nat.pow_add, show r + k = m by omega]; exact hyy
  have H2 : Hid (y2 < 2 ^ r) := by unfold Hid; rw [← hy2']; exact Nat.mod_lt _ (Nat.pow_pos (by decide))
  have HY : Hid (bitsOf y m = bitsOf y1 k ++ bitsOf y2 r) := by unfold Hid; rw [bitsOf_parts y m k hkm, hr, hy1', hy2']
  have HYY := Lib.hid hyy
  have HB2 : Hid (Below w.heap.size w ((w1.alloc (.cells #[.slice none 0 0, .int .i64 0] 27)).alloc (.cells #[.slice none 0 0, .int .i64 0] 27))) := (HB.out.alloc HB.out.size _).alloc (by have := HB.out.size; simp; omega) _
  have HV : Hid (Wr ((w1.alloc (.cells #[.slice none 0 0, .int .i64 0] 27)).alloc (.cells #[.slice none 0 0, .int .i64 0] 27)) (w1.heap.size + 2) w1.heap.size (.slice none 0 0) []) :=
    ⟨heap_alloc2_old _ _ _, World.ownsRow_nil _ _ _ _, by omega⟩
  have HW : Hid (Wr ((w1.alloc (.cells #[.slice none 0 0, .int .i64 0] 27)).alloc (.cells #[.slice none 0 0, .int .i64 0] 27)) (w1.heap.size + 2) (w1.heap.size + 1) (.slice none 0 0) []) :=
    ⟨heap_alloc2_new _ _ _, World.ownsRow_nil _ _ _ _, by omega⟩
  clear hP hy hk hyy
  go_wp2_with fail
  refine (put_ok y m [] (w1.heap.size + 2) w1.heap.size _ _ hm2 HYY.out (by decide) (by simp) HV.out).mono ?_
  rintro e w2 ⟨rfl, v2, h2, m2⟩
  have hw1 := HB.out.size
  have HT1 := Lib.hid ((Two.mk HV.out HW.out (by omega) (fun k hk => by simp [Value.ownBlock] at hk)).left h2 m2)
  have HB3 := Lib.hid (HB2.out.trans (HV.out.floor (F := w.heap.size) m2 (by omega) HB2.out.size))
  clear h2 m2 HB2 HV HW
  have HB2 := HB3
  clear HB3
  have hsr1 : (y : Int) / 2 ^ min r 64 = (y1 : Int) := by rw [show min r 64 = r by omega, div_pow, hy1']
  have hsr2 : (y : Int) / 2 ^ r = (y1 : Int) := by rw [div_pow, hy1']
  obtain ⟨Q, hQ⟩ : ∃ Q : Nat, 2 ^ r = Q := ⟨_, rfl⟩
  have hQ0 : 0 < Q := by rw [← hQ]; exact Nat.pow_pos (by decide)
  have hQ1 : Q ≤ 72057594037927936 := by rw [← hQ]; exact Nat.pow_le_pow_right (n := 2) (j := 56) (by decide) hr2
  have hQi : (2 : Int) ^ r = (Q : Int) := by rw [← hQ, Int.natCast_pow]; rfl
  have hQw : IntKind.i64.wrap ((2 : Int) ^ r) = (Q : Int) := by rw [hQi]; exact IntWalk.i64_in _ (by omega)
  have hQn : ¬ Q = 0 := by omega
  have hQt : (y : Int).tmod (Q : Int) = (y2 : Int) := by rw [Int.tmod_eq_emod_of_nonneg (by omega), ← Int.natCast_emod, ← hQ, hy2']
  clear hy1' hy2' hQ hQi hQ0 hQ1 hPi hPw hP0 hP1 hyP
  go_wp2_with fail
  refine wp_region_held_drew (S := fun _ => True) (by kernel_rfl) trivial (fun hHeld => ?_)
  refine wpAnyH_take (i := 0) (oi := _) (v := ?_) rfl (by kernel_rfl) (by kernel_rfl) (by kernel_rfl) (fun _ _ _ h => h) (Or.inl ⟨by rfl, ?_⟩) hHeld ?_
  rotate_left
  · (intro w hSw; (try dsimp only at hSw); first | (go_simp; done) | (go_simp; with_reducible rfl))
  (try simp only [List.getElem_toArray, List.getElem_cons_zero, Act.put, List.setIfInBounds_toArray, List.set_cons_zero, List.set_cons_succ])
  refine wpAnyH_take (i := 1) (oi := _) (v := ?_) rfl (by kernel_rfl) (by kernel_rfl) (by kernel_rfl) (fun _ _ _ h => h) (Or.inl ⟨by rfl, ?_⟩) hHeld ?_
  rotate_left
  · (intro w hSw; (try dsimp only at hSw); first | (go_simp; done) | (go_simp; with_reducible rfl))
  (try simp only [List.getElem_toArray, List.getElem_cons_succ, List.getElem_cons_zero, Act.put, List.setIfInBounds_toArray, List.set_cons_zero, List.set_cons_succ])
  refine wpAnyH_take (i := 2) (oi := _) (v := ?_) rfl (by kernel_rfl) (by kernel_rfl) (by kernel_rfl) (fun _ _ _ h => h) (Or.inl ⟨by rfl, ?_⟩) hHeld ?_
  rotate_left
  · (intro w hSw; (try dsimp only at hSw); first | (go_simp; done) | (go_simp; with_reducible rfl))
  (try simp only [List.getElem_toArray, List.getElem_cons_succ, List.getElem_cons_zero, Act.put, List.setIfInBounds_toArray, List.set_cons_zero, List.set_cons_succ])
  refine wpAnyH_take (i := 3) (oi := _) (v := ?_) rfl (by kernel_rfl) (by kernel_rfl) (by kernel_rfl) (fun _ _ _ h => h) (Or.inl ⟨by rfl, ?_⟩) hHeld ?_
  rotate_left
  · (intro w hSw; (try dsimp only at hSw); first | (go_simp; done) | (go_simp; with_reducible rfl))
  (try simp only [List.getElem_toArray, List.getElem_cons_succ, List.getElem_cons_zero, Act.put, List.setIfInBounds_toArray, List.set_cons_zero, List.set_cons_succ])
  refine wpAnyH_take (i := 4) (oi := _) (v := ?_) rfl (by kernel_rfl) (by kernel_rfl) (by kernel_rfl) (fun _ _ _ h => h) (Or.inl ⟨by rfl, ?_⟩) hHeld ?_
  rotate_left
  · (intro w hSw; (try dsimp only at hSw); first | (go_simp; done) | (go_simp; with_reducible rfl))
  (try simp only [List.getElem_toArray, List.getElem_cons_succ, List.getElem_cons_zero, Act.put, List.setIfInBounds_toArray, List.set_cons_zero, List.set_cons_succ])
  refine wpAnyH_take (i := 5) (oi := _) (v := ?_) rfl (by kernel_rfl) (by kernel_rfl) (by kernel_rfl) (fun _ _ _ h => h) (Or.inl ⟨by rfl, ?_⟩) hHeld ?_
  rotate_left
  · (intro w hSw; (try dsimp only at hSw); first | (go_simp; done) | (go_simp; with_reducible rfl))
  (try simp only [List.getElem_toArray, List.getElem_cons_succ, List.getElem_cons_zero, Act.put, List.setIfInBounds_toArray, List.set_cons_zero, List.set_cons_succ])
  refine wpAnyH_take (i := 6) (oi := _) (v := ?_) rfl (by kernel_rfl) (by kernel_rfl) (by kernel_rfl) (fun _ _ _ h => h) (Or.inl ⟨by rfl, ?_⟩) hHeld ?_
  rotate_left
  · (intro w hSw; (try dsimp only at hSw); first | (go_simp; done) | (go_simp; with_reducible rfl))
  (try simp only [List.getElem_toArray, List.getElem_cons_succ, List.getElem_cons_zero, Act.put, List.setIfInBounds_toArray, List.set_cons_zero, List.set_cons_succ])
  refine wpAnyH_take (i := 8) (oi := _) (v := ?_) rfl (by kernel_rfl) (by kernel_rfl) (by kernel_rfl) (fun _ _ _ h => h) (Or.inl ⟨by rfl, ?_⟩) hHeld ?_
  rotate_left
  · (intro w hSw; (try dsimp only at hSw); first | (go_simp; done) | (go_simp; with_reducible rfl))
  (try simp only [List.getElem_toArray, List.getElem_cons_succ, List.getElem_cons_zero, Act.put, List.setIfInBounds_toArray, List.set_cons_zero, List.set_cons_succ])
  refine wpAnyH_take (i := 9) (oi := _) (v := ?_) rfl (by kernel_rfl) (by kernel_rfl) (by kernel_rfl) (fun _ _ _ h => h) (Or.inl ⟨by rfl, ?_⟩) hHeld ?_
  rotate_left
  · (intro w hSw; (try dsimp only at hSw); first | (go_simp; done) | (go_simp; with_reducible rfl))
  (try simp only [List.getElem_toArray, List.getElem_cons_succ, List.getElem_cons_zero, Act.put, List.setIfInBounds_toArray, List.set_cons_zero, List.set_cons_succ])
  refine wpAnyH_take (i := 10) (oi := _) (v := ?_) rfl (by kernel_rfl) (by kernel_rfl) (by kernel_rfl) (fun _ _ _ h => h) (Or.inl ⟨by rfl, ?_⟩) hHeld ?_
  rotate_left
  · (intro w hSw; (try dsimp only at hSw); first | (go_simp; done) | (go_simp; with_reducible rfl))
  (try simp only [List.getElem_toArray, List.getElem_cons_succ, List.getElem_cons_zero, Act.put, List.setIfInBounds_toArray, List.set_cons_zero, List.set_cons_succ])
  refine wpAnyH_take (i := 11) (oi := _) (v := ?_) rfl (by kernel_rfl) (by kernel_rfl) (by kernel_rfl) (fun _ _ _ h => h) (Or.inl ⟨by rfl, ?_⟩) hHeld ?_
  rotate_left
  · (intro w hSw; (try dsimp only at hSw); first | (go_simp; done) | (go_simp; with_reducible rfl))
  (try simp only [List.getElem_toArray, List.getElem_cons_succ, List.getElem_cons_zero, Act.put, List.setIfInBounds_toArray, List.set_cons_zero, List.set_cons_succ])
  refine wpAnyH_take (i := 12) (oi := _) (v := ?_) rfl (by kernel_rfl) (by kernel_rfl) (by kernel_rfl) (fun _ _ _ h => h) (Or.inl ⟨by rfl, ?_⟩) hHeld ?_
  rotate_left
  · (intro w hSw; (try dsimp only at hSw); first | (go_simp; done) | (go_simp; with_reducible rfl))
  (try simp only [List.getElem_toArray, List.getElem_cons_succ, List.getElem_cons_zero, Act.put, List.setIfInBounds_toArray, List.set_cons_zero, List.set_cons_succ])
  refine wpAnyH_take (i := 13) (oi := _) (v := ?_) rfl (by kernel_rfl) (by kernel_rfl) (by kernel_rfl) (fun _ _ _ h => h) (Or.inl ⟨by rfl, ?_⟩) hHeld ?_
  rotate_left
  · (intro w hSw; (try dsimp only at hSw); first | (go_simp; done) | (go_simp; with_reducible rfl))
  (try simp only [List.getElem_toArray, List.getElem_cons_succ, List.getElem_cons_zero, Act.put, List.setIfInBounds_toArray, List.set_cons_zero, List.set_cons_succ])
  refine wpAnyH_take (i := 14) (oi := _) (v := ?_) rfl (by kernel_rfl) (by kernel_rfl) (by kernel_rfl) (fun _ _ _ h => h) (Or.inl ⟨by rfl, ?_⟩) hHeld ?_
  rotate_left
  · (intro w hSw; (try dsimp only at hSw); first | (go_simp; done) | (go_simp; with_reducible rfl))
  (try simp only [List.getElem_toArray, List.getElem_cons_succ, List.getElem_cons_zero, Act.put, List.setIfInBounds_toArray, List.set_cons_zero, List.set_cons_succ])
  refine wpAnyH_take (i := 15) (oi := _) (v := ?_) rfl (by kernel_rfl) (by kernel_rfl) (by kernel_rfl) (fun _ _ _ h => h) (Or.inl ⟨by rfl, ?_⟩) hHeld ?_
  rotate_left
  · (intro w hSw; (try dsimp only at hSw); first | (go_simp; done) | (go_simp; with_reducible rfl))
  (try simp only [List.getElem_toArray, List.getElem_cons_succ, List.getElem_cons_zero, Act.put, List.setIfInBounds_toArray, List.set_cons_zero, List.set_cons_succ])
  refine wpAnyH_take (i := 16) (oi := _) (v := ?_) rfl (by kernel_rfl) (by kernel_rfl) (by kernel_rfl) (fun _ _ _ h => h) (Or.inl ⟨by rfl, ?_⟩) hHeld ?_
  rotate_left
  · (intro w hSw; (try dsimp only at hSw); first | (go_simp; done) | (go_simp; with_reducible rfl))
  (try simp only [List.getElem_toArray, List.getElem_cons_succ, List.getElem_cons_zero, Act.put, List.setIfInBounds_toArray, List.set_cons_zero, List.set_cons_succ])
  refine wpAnyH_take (i := 17) (oi := _) (v := ?_) rfl (by kernel_rfl) (by kernel_rfl) (by kernel_rfl) (fun _ _ _ h => h) (Or.inl ⟨by rfl, ?_⟩) hHeld ?_
  rotate_left
  · (intro w hSw; (try dsimp only at hSw); first | (go_simp; done) | (go_simp; with_reducible rfl))
  (try simp only [List.getElem_toArray, List.getElem_cons_succ, List.getElem_cons_zero, Act.put, List.setIfInBounds_toArray, List.set_cons_zero, List.set_cons_succ])
  refine wpAnyH_ready (rs := [7]) (by kernel_rfl) (by simp) ?_
  refine AllReadyH.cons (o := _) rfl (fun K hK => ?_) AllReadyH.nil
  go_simp
  refine (put_ok y1 k [] (w1.heap.size + 2) (w1.heap.size + 1) _ _ hk2 H1.out (by decide) ?_ HT1.out.drew.r).mono ?_
  · have := HT1.out.r.row.lt; simp; omega
  rintro e w3 ⟨rfl, v3, h3, m3⟩
  have HT2 := Lib.hid (HT1.out.drew.right h3 m3)
  have HB3 := Lib.hid ((below_drew1 HB2.out).trans (HT1.out.drew.r.floor (F := w.heap.size) m3 (by omega) (below_drew1 HB2.out).size))
  clear h3 m3
  go_wp2_with fail
  refine hK.out _ _ trivial (fun hHeld => ?_)
  clear hK K
  (try simp only [List.getElem_toArray, List.getElem_cons_succ, List.getElem_cons_zero, Act.put, List.setIfInBounds_toArray, List.set_cons_zero, List.set_cons_succ])
  refine wpAnyH_ready (rs := [18]) (by kernel_rfl) (by simp) ?_
  refine AllReadyH.cons (o := _) rfl (fun K hK => ?_) AllReadyH.nil
  go_simp
  refine (put_ok y2 r _ (w1.heap.size + 2) (w1.heap.size + 1) _ _ hr2 H2.out ?_ ?_ HT2.out.r).mono ?_
  · rw [List.nil_append, bitsOf_length]; omega
  · have := HT2.out.r.row.lt; omega
  rintro e w4 ⟨rfl, v4, h4, m4⟩
  have HT3 := Lib.hid (HT2.out.right h4 m4)
  have HB4 := Lib.hid (HB3.out.trans (HT2.out.r.floor (F := w.heap.size) m4 (by omega) HB3.out.size))
  clear h4 m4
  go_wp2_with fail
  refine hK.out _ _ trivial (fun hHeld => ?_)
  clear hK K
  (try simp only [List.getElem_toArray, List.getElem_cons_succ, List.getElem_cons_zero, Act.put, List.setIfInBounds_toArray, List.set_cons_zero, List.set_cons_succ])
  refine wpAnyH_take (i := 19) (oi := _) (v := ?_) rfl (by kernel_rfl) (by kernel_rfl) (by kernel_rfl) (fun _ _ _ h => h) (Or.inl ⟨by rfl, ?_⟩) hHeld ?_
  rotate_left
  · (intro w hSw; (try dsimp only at hSw); first | (go_simp; done) | (go_simp; with_reducible rfl))
  (try simp only [List.getElem_toArray, List.getElem_cons_succ, List.getElem_cons_zero, Act.put, List.setIfInBounds_toArray, List.set_cons_zero, List.set_cons_succ])
  refine wpAnyH_take (i := 20) (oi := _) (v := ?_) rfl (by kernel_rfl) (by kernel_rfl) (by kernel_rfl) (fun _ _ _ h => h) (Or.inl ⟨by rfl, ?_⟩) hHeld ?_
  rotate_left
  · (intro w hSw; (try dsimp only at hSw); first | (go_simp; done) | (go_simp; with_reducible rfl))
  (try simp only [List.getElem_toArray, List.getElem_cons_succ, List.getElem_cons_zero, Act.put, List.setIfInBounds_toArray, List.set_cons_zero, List.set_cons_succ])
  refine wpAnyH_done (by kernel_rfl) ?_ _
  have HE : Hid (([] : List Bool) ++ bitsOf y1 k ++ bitsOf y2 r = [] ++ bitsOf y m) := by unfold Hid; rw [HY.out]; rfl
  go_wp2_with fail
  refine (bytes_wr _ _ _ _ _ HT3.out.l).mono ?_
  rintro e w5 ⟨rfl, rfl⟩
  go_wp2_with fail
  refine (bytes_wr _ _ _ _ _ HT3.out.r).mono ?_
  rintro e w6 ⟨rfl, rfl⟩
  rw [HE.out]
  go_wp2_with fail
  refine (bits_wr _ _ _ _ _ HT3.out.l).mono ?_
  rintro e w7 ⟨rfl, rfl⟩
  go_wp2_with fail
  refine (bits_wr _ _ _ _ _ HT3.out.r).mono ?_
  rintro e w8 ⟨rfl, rfl⟩
  rw [HE.out]
  go_wp2
  go_ret
  exact ⟨rfl, HB4.out⟩
end Go.Proofs.Ytnhbbdfjeaflcaa
