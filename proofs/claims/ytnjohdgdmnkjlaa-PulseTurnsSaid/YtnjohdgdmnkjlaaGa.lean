/-
  The reference's Gain and Distance of layer 14. Conditions: a step from 0 to 15, four coefficients and four pulses that are no greater than 2^21.
-/
import Derived.Test.YtnjohdgdmnkjlaaYos
import Derived.Test.YtnjohdgdmnkjlaaDi
import Derived.Test.YtnjohdgdmnkjlaaTp
import Derived.StillTailTactics
namespace Go.Proofs.Ytnjohdgdmnkjlaa
open Go.RowKit
open M
theorem pow15 (k : Nat) (h : k ≤ 15) : (2 : Int) ^ k ≤ 32768 ∧ 1 ≤ (2 : Int) ^ k := by
  have h1 : (2 : Nat) ^ k ≤ 2 ^ 15 := Nat.pow_le_pow_right (by decide) h
  have h2 : 1 ≤ (2 : Nat) ^ k := Nat.one_le_two_pow
  have e : (2 : Int) ^ k = ((2 ^ k : Nat) : Int) := by rw [Int.natCast_pow]; rfl
  rw [e]
  omega
theorem rgain_any (s : Nat) (w : World) (hs : s ≤ 15) :
    Calls Try.prog 30 #[.int .i64 (s : Int)] w fun e w' => e = .returned (.int .i64 ((2 : Int) ^ s)) ∧ w' = w := by
  have hsI : (s : Int) ≤ 15 := by omega
  go_enter Try.func30, Try.ntmps30
  go_wp2
  go_loop [3, 4] (fun o i => ∃ (k : Nat) (p : Int), k ≤ s ∧ i = .int .i64 k ∧ o = .int .i64 p ∧ p = (2 : Int) ^ k) (fun _ i => s - (intOf i).toNat)
  case atStart => exact ⟨0, 1, by omega, rfl, rfl, rfl⟩
  case round =>
    obtain ⟨k, p, hk, rfl, rfl, hp⟩ := hrel
    rcases Nat.lt_or_ge k s with hlt | hge
    · have hb := pow15 k (by omega)
      rw [← hp] at hb
      have hkI : (k : Int) < (s : Int) := by omega
      have HP := Lib.hid (show 2 * p = (2 : Int) ^ (k + 1) by rw [hp, Int.pow_succ, Int.mul_comm])
      have HK := Lib.hid hlt
      clear hp hk
      go_wp2_with fail
      go_round
      case rel => exact ⟨k + 1, 2 * p, HK.out, by go_num, rfl, HP.out⟩
      case measure =>
        have := HK.out
        simp [intOf] <;> omega
    · obtain rfl : k = s := by omega
      have HP := Lib.hid hp
      clear hp hk hge
      go_wp2_with fail
      go_ret
      exact ⟨by rw [← HP.out]; rfl, rfl⟩
/-- The distance, as far as j coefficients. -/
def ds14 (c y : List Int) (G : Int) : Nat → Int
  | 0 => 0
  | j + 1 => ds14 c y G j + ((c.getD j 0 - y.getD j 0 * G).natAbs : Int)
theorem ds14_succ (c y : List Int) (G : Int) (j : Nat) : ds14 c y G (j + 1) = ds14 c y G j + ((c.getD j 0 - y.getD j 0 * G).natAbs : Int) := rfl
theorem ds14_dis (c y : List Int) (G : Int) : ds14 c y G 4 = dis (fun i => c.getD i 0) (fun i => y.getD i 0) G := by
  have h : ∀ t : Int, (t.natAbs : Int) = ab t := fun t => by unfold ab; omega
  simp only [ds14, dis, s4, h]
  omega
theorem ds14_bd (c y : List Int) (G : Int) (hx : ∀ j, j < 4 → ((c.getD j 0 - y.getD j 0 * G).natAbs : Int) ≤ 4398046511104) (j : Nat) (hj : j ≤ 4) : 0 ≤ ds14 c y G j ∧ ds14 c y G j ≤ 4398046511104 * j := by
  induction j with
  | zero => exact ⟨Int.le_refl _, Int.le_refl _⟩
  | succ j ih =>
    have h1 := ih (by omega)
    have h2 := hx j (by omega)
    show 0 ≤ ds14 c y G j + _ ∧ ds14 c y G j + _ ≤ _
    omega
theorem wi_id (x : Int) (h1 : -4611686018427387904 ≤ x) (h2 : x ≤ 4611686018427387904) : IntKind.i64.wrap x = x := by rw [IntKind.wrap_i64]; omega
theorem mul14 (y G : Int) (h1 : -2097152 ≤ y) (h2 : y ≤ 2097152) (h3 : 0 ≤ G) (h4 : G ≤ 32768) : -68719476736 ≤ y * G ∧ y * G ≤ 68719476736 := by
  have k1 := Int.mul_le_mul_of_nonneg_right h1 h3
  have k2 := Int.mul_le_mul_of_nonneg_right h2 h3
  omega
set_option maxRecDepth 100000 in
theorem rdist_any (c y : List Int) (s : Nat) (w : World) (hc : c.length = 4) (hy : y.length = 4) (hs : s ≤ 15) (hx : ∀ j, j < 4 → (-2097152 ≤ c.getD j 0 ∧ c.getD j 0 ≤ 2097152) ∧ (-2097152 ≤ y.getD j 0 ∧ y.getD j 0 ≤ 2097152)) :
    Calls Try.prog 15 #[.agg (iCells c), .agg (iCells y), .int .i64 (s : Int)] w fun e w' => e = .returned (.int .i64 (dis (fun i => c.getD i 0) (fun i => y.getD i 0) ((2 : Int) ^ s))) ∧ Below w.heap.size w w' := by
  have hG := pow15 s hs
  have RG := fun w => rgain_any s w hs
  obtain ⟨G, hGG⟩ : ∃ G, (2 : Int) ^ s = G := ⟨_, rfl⟩
  rw [hGG] at hG
  simp only [hGG] at RG
  have HX := Lib.hid fun j (hj : j < 4) => mul14 (y.getD j 0) G (hx j hj).2.1 (hx j hj).2.2 (by omega) hG.1
  have HD := Lib.hid (ds14_bd c y G (fun j hj => by have h1 := hx j hj; have h2 := HX.out j hj; omega))
  have HDS := Lib.hid (ds14_dis c y G)
  rw [hGG]
  have HXX := Lib.hid hx
  have HC4 := Lib.hid hc
  have HY4 := Lib.hid hy
  have HR0 : Hid (Row ((w.alloc (.cells (iCells c) 22)).alloc (.cells (iCells y) 22)) w.heap.size 22 (iCells c)) := Lib.hid (heap_alloc2_old _ _ _)
  have HR1 : Hid (Row ((w.alloc (.cells (iCells c) 22)).alloc (.cells (iCells y) 22)) (w.heap.size + 1) 22 (iCells y)) := Lib.hid (heap_alloc2_new _ _ _)
  have HB : Hid (Below w.heap.size w ((w.alloc (.cells (iCells c) 22)).alloc (.cells (iCells y) 22))) := Lib.hid (((Below.refl _ _).alloc (Nat.le_refl _) _).alloc (by simp) _)
  clear hGG hG hx hs hc hy
  go_enter Try.func15, Try.ntmps15
  go_wp2_with fail
  generalize (w.alloc (.cells (iCells c) 22)).alloc (.cells (iCells y) 22) = w1 at *
  obtain ⟨g, hg⟩ : ∃ g, w.heap.size = g := ⟨_, rfl⟩
  rw [hg] at HR0 HR1
  have HGG := Lib.hid fun _ : Unit => hg
  rw [hg]
  clear hg
  go_loopw [7, 8] (fun nn ii wr => ∃ (j : Nat) (q : Int), j ≤ 4 ∧ ii = .int .i64 j ∧ nn = .int .i64 q ∧ q = ds14 c y G j ∧ Row wr g 22 (iCells c) ∧ Row wr (g + 1) 22 (iCells y) ∧ Below w.heap.size w wr) (fun _ ii _ => 4 - (intOf ii).toNat)
  case atStart => exact ⟨0, 0, by omega, rfl, rfl, rfl, HR0.out, HR1.out, HB.out⟩
  case round =>
    clear HR0 HR1 HB
    obtain ⟨j, q, hj, rfl, rfl, hq, hR0, hR1, hB⟩ := hrel
    rcases Nat.lt_or_ge j 4 with hlt | hge
    · have c0 := i_at hR0 j (by rw [HC4.out]; exact hlt)
      have c1 := i_at hR1 j (by rw [HY4.out]; exact hlt)
      have hjI : (j : Int) < 4 := by omega
      have h1 := HX.out j hlt
      have h2 := HXX.out j hlt
      have h3 := HD.out j hj
      have hst := ds14_succ c y G j
      rw [← hq] at h3 hst
      obtain ⟨a, ha⟩ : ∃ a, c.getD j 0 = a := ⟨_, rfl⟩
      obtain ⟨b, hb⟩ : ∃ b, y.getD j 0 = b := ⟨_, rfl⟩
      rw [ha, hb] at hst h2
      rw [ha] at c0
      rw [hb] at c1 h1
      obtain ⟨p, hp⟩ : ∃ p, b * G = p := ⟨_, rfl⟩
      rw [hp] at h1 hst
      obtain ⟨r, hr⟩ : ∃ r, a - p = r := ⟨_, rfl⟩
      rw [hr] at hst
      have RS := fun w => rsize_any r w (by omega) (by omega)
      obtain ⟨t, ht⟩ : ∃ t, r.natAbs = t := ⟨_, rfl⟩
      rw [ht] at RS hst
      have e1 : IntKind.i64.wrap (b * G) = p := by rw [hp]; exact wi_id _ (by omega) (by omega)
      have e2 : IntKind.i64.wrap (a - p) = r := by rw [hr]; exact wi_id _ (by omega) (by omega)
      have e3 : IntKind.i64.wrap (q + (t : Int)) = q + (t : Int) := wi_id _ (by omega) (by omega)
      obtain ⟨q2, hq2⟩ : ∃ q2, q + (t : Int) = q2 := ⟨_, rfl⟩
      rw [hq2] at hst
      have e4 : IntKind.i64.wrap (q + (t : Int)) = q2 := by rw [e3, hq2]
      have HQ := Lib.hid hst.symm
      have HJ := Lib.hid hlt
      have HR0 := Lib.hid (show Row wr.drew g 22 (iCells c) from hR0)
      have HR1 := Lib.hid (show Row wr.drew (g + 1) 22 (iCells y) from hR1)
      have HB := Lib.hid (below_drew1 hB)
      clear e3 hst hq2 ht hr hp ha hb hR0 hR1 hB hj h1 h2 h3 hq
      go_wp2_with fail
      refine wp_region_still_tail 13 (by kernel_rfl) (by kernel_rfl) ?_
      simp only [List.take_succ_cons, List.take_zero, List.drop_succ_cons, List.drop_zero]
      repeat still_step
      still_call (RG _)
      repeat still_step
      still_call (RS _)
      repeat still_step
      refine wpStill_nil ?_
      change wpList _ _ _ _ _ wr.drew
      clear c0 c1 RG RS e1 e2 e4
      generalize wr.drew = w5 at *
      go_wp2_with fail
      go_roundw
      case rel => exact ⟨j + 1, q2, HJ.out, by go_num, rfl, HQ.out, HR0.out, HR1.out, HB.out⟩
      case measure =>
        have := HJ.out
        simp [intOf] <;> omega
    · obtain rfl : j = 4 := by omega
      have HQ := Lib.hid (hq.trans HDS.out)
      have HB := Lib.hid hB
      clear hR0 hR1 hB hj hge hq
      go_wp2_with fail
      go_ret
      exact ⟨by rw [← HQ.out]; rfl, HB.out⟩
end Go.Proofs.Ytnjohdgdmnkjlaa
