/-
  The reference's Budget of layer 17. Conditions: right steps, a band from 0 to 7.
-/
import Derived.Test.YtfpmdbdgikphdaaRfb
namespace Go.Proofs.Ytfpmdbdgikphdaa
open Go.RowKit
open M
theorem half17 (V a : Nat) : V / 2 ^ a / 2 = V / 2 ^ (a + 1) := by rw [Nat.div_div_eq_div_mul, Nat.pow_succ]
theorem dv17_le (V a : Nat) : V / 2 ^ a ≤ V := Nat.div_le_self _ _
theorem bud1_is (S : Nat → Nat) (j b : Nat) : bud1 S j b = 4 * 2 ^ S j / 2 ^ ((b - j) + 2 * (j - b)) := by
  unfold bud1 shf
  by_cases h : j ≤ b
  · rw [if_pos h, show (b - j) + 2 * (j - b) = b - j by omega]
  · rw [if_neg h, show (b - j) + 2 * (j - b) = 2 * (j - b) by omega]
theorem bud1_bd (S : Nat → Nat) (j b : Nat) (h : S j ≤ 15) : bud1 S j b ≤ 131072 := by
  unfold bud1
  have h1 := pow2_le (S j) 15 h
  exact Nat.le_trans (Nat.div_le_self _ _) (by omega)
theorem budN_bd (S : Nat → Nat) (b n : Nat) (h : ∀ j, j < n → S j ≤ 15) : budN S b n ≤ 131072 := budN_le S b n _ fun j hj => bud1_bd S j b (h j hj)
set_option maxRecDepth 100000 in
set_option maxHeartbeats 1000000 in
theorem rbudget_any (l : List Int) (b : Nat) (w : World) (hl : l.length = 8) (hr : ∀ j, j < 8 → 0 ≤ l.getD j 0 ∧ l.getD j 0 ≤ 15) (hb : b ≤ 7) :
    Calls Try.prog 17 #[.agg (iCells l), .int .i64 (b : Int)] w fun e w' => e = .returned (.int .i64 (bud (fun j => (l.getD j 0).toNat) b : Nat)) ∧ Below w.heap.size w w' := by
  have HL := Lib.hid hl
  have HRT := Lib.hid hr
  have HR : Hid (Row (w.alloc (.cells (iCells l) 22)) w.heap.size 22 (iCells l)) := Lib.hid (heap_alloc_new _ _)
  have HB : Hid (Below w.heap.size w (w.alloc (.cells (iCells l) 22))) := Lib.hid ((Below.refl _ _).alloc (Nat.le_refl _) _)
  obtain ⟨S, hS⟩ : ∃ S : Nat → Nat, (fun j => (l.getD j 0).toNat) = S := ⟨_, rfl⟩
  have hSj : ∀ j, j < 8 → l.getD j 0 = (S j : Int) ∧ S j ≤ 15 := fun j hj => by
    have h1 := hr j hj
    have h2 : S j = (l.getD j 0).toNat := (congrFun hS j).symm
    omega
  have HSJ := Lib.hid hSj
  rw [hS]
  have hbI : (b : Int) ≤ 7 := by omega
  have HBN := Lib.hid hb
  clear hl hr hSj hS hb
  go_enter Try.func17, Try.ntmps17
  go_wp2_with fail
  generalize w.alloc (.cells (iCells l) 22) = w1 at *
  obtain ⟨g, hg⟩ : ∃ g, w.heap.size = g := ⟨_, rfl⟩
  rw [hg] at HR
  rw [hg]
  clear hg
  go_loop [5, 6] (fun mm jj => ∃ (j M : Nat), j ≤ 8 ∧ jj = .int .i64 j ∧ mm = .int .i64 (M : Int) ∧ M = budN S b j) (fun _ jj => 8 - (intOf jj).toNat)
  case atStart => exact ⟨0, 0, by omega, rfl, rfl, rfl⟩
  case round =>
    obtain ⟨j, M, hj, rfl, rfl, hM⟩ := hrel
    rcases Nat.lt_or_ge j 8 with hlt | hge
    · obtain ⟨hx, hsb⟩ := HSJ.out j hlt
      have c0 := i_at HR.out j (by rw [HL.out]; exact hlt)
      rw [hx] at c0
      have RG := fun w => rgain_any (S j) w hsb
      have hMb := budN_bd S b j (fun i hi => (HSJ.out i (by omega)).2)
      rw [← hM] at hMb
      have hMI : (M : Int) ≤ 131072 := by omega
      have hjI : (j : Int) < 8 := by omega
      have HJ := Lib.hid hlt
      have HM := Lib.hid hM
      have hp := pow2_le (S j) 15 hsb
      have hp1 : 1 ≤ 2 ^ S j := Nat.one_le_two_pow
      obtain ⟨V, hV⟩ : ∃ V : Nat, 4 * 2 ^ S j = V := ⟨_, rfl⟩
      have hVb : V ≤ 131072 := by omega
      have e1 : 4 * (2 : Int) ^ S j = (V : Int) := by rw [← hV, Int.natCast_mul, Int.natCast_pow]; rfl
      have HV := Lib.hid fun _ : Unit => hV
      obtain ⟨P, hP⟩ : ∃ P : Int, (2 : Int) ^ S j = P := ⟨_, rfl⟩
      rw [hP] at e1
      simp only [hP] at RG
      have hPb : 1 ≤ P ∧ P ≤ 32768 := by omega
      obtain ⟨hP1, hP2⟩ := hPb
      clear hx hsb hj hM hMb hp hp1 hV hP hlt
      go_wp2_with fail
      refine (RG _).mono ?_
      rintro e w2 ⟨rfl, rfl⟩
      clear RG
      have HVB := Lib.hid hVb
      have hVI : (V : Int) ≤ 131072 := by omega
      go_wp2_with fail
      go_loop [7, 8] (fun xx ii => ∃ (i x : Nat), j ≤ i ∧ i ≤ max j b ∧ ii = .int .i64 i ∧ xx = .int .i64 (x : Int) ∧ x = V / 2 ^ (i - j)) (fun _ ii => max j b - (intOf ii).toNat)
      case atStart => exact ⟨j, V, Nat.le_refl _, Nat.le_max_left _ _, rfl, rfl, by rw [Nat.sub_self, Nat.pow_zero, Nat.div_one]⟩
      case round =>
        obtain ⟨i, x, hi1, hi2, rfl, rfl, hx⟩ := hrel
        have hxb := dv17_le V (i - j)
        rw [← hx] at hxb
        have hxI : (x : Int) ≤ 131072 := by have := HVB.out; omega
        rcases Nat.lt_or_ge i b with hlb | hgb
        · have hib : (i : Int) < (b : Int) := by omega
          have hh := half17 V (i - j)
          rw [← hx] at hh
          obtain ⟨u, hu⟩ : ∃ u, x / 2 = u := ⟨_, rfl⟩
          rw [hu] at hh
          have e2 : (x : Int).tdiv 2 = (u : Int) := by rw [Int.tdiv_eq_ediv_of_nonneg (by omega)]; omega
          have e3 : (x : Int) / 2 = (u : Int) := by omega
          have huI : (u : Int) ≤ 131072 := by omega
          have HH := Lib.hid (show u = V / 2 ^ (i + 1 - j) by rw [show i + 1 - j = (i - j) + 1 by omega]; exact hh)
          have HI := Lib.hid (show j ≤ i + 1 ∧ i + 1 ≤ max j b ∧ i < max j b by omega)
          clear hi1 hi2 hx hxb hlb hh hu
          go_wp2_with fail
          go_round
          case rel => exact ⟨i + 1, u, HI.out.1, HI.out.2.1, by go_num, rfl, HH.out⟩
          case measure =>
            have := HI.out.2.2
            simp only [intOf]
            omega
        · have hib : ¬ ((i : Int) < (b : Int)) := by omega
          have HX := Lib.hid (show x = V / 2 ^ ((b - j) + 2 * (j - j)) by rw [hx]; congr 2; omega)
          clear hi1 hi2 hx hxb hgb
          go_wp2_with fail
          go_loop [7, 9] (fun xx ii => ∃ (i x : Nat), i ≤ j ∧ min j b ≤ i ∧ ii = .int .i64 i ∧ xx = .int .i64 (x : Int) ∧ x = V / 2 ^ ((b - j) + 2 * (j - i))) (fun _ ii => (intOf ii).toNat)
          case atStart => exact ⟨j, x, Nat.le_refl _, Nat.min_le_left _ _, rfl, rfl, HX.out⟩
          case round =>
            clear HX
            obtain ⟨i, x, hi1, hi2, rfl, rfl, hx⟩ := hrel
            have hxb := dv17_le V ((b - j) + 2 * (j - i))
            rw [← hx] at hxb
            have hxI2 : (x : Int) ≤ 131072 := by have := HVB.out; omega
            rcases Nat.lt_or_ge b i with hlb | hgb
            · have hbi : (b : Int) < (i : Int) := by omega
              have h1 := half17 V ((b - j) + 2 * (j - i))
              have h2 := half17 V ((b - j) + 2 * (j - i) + 1)
              rw [← hx] at h1
              rw [← h1] at h2
              obtain ⟨u, hu⟩ : ∃ u, x / 2 = u := ⟨_, rfl⟩
              rw [hu] at h2
              obtain ⟨u2, hu2⟩ : ∃ u2, u / 2 = u2 := ⟨_, rfl⟩
              rw [hu2] at h2
              have e2 : (x : Int).tdiv 2 = (u : Int) := by rw [Int.tdiv_eq_ediv_of_nonneg (by omega)]; omega
              have e3 : (x : Int) / 2 = (u : Int) := by omega
              have e5 : (u : Int).tdiv 2 = (u2 : Int) := by rw [Int.tdiv_eq_ediv_of_nonneg (by omega)]; omega
              have e6 : (u : Int) / 2 = (u2 : Int) := by omega
              have huI : (u : Int) ≤ 131072 := by omega
              have hu2I : (u2 : Int) ≤ 131072 := by omega
              obtain ⟨i', hi'⟩ : ∃ i', i = i' + 1 := ⟨i - 1, by omega⟩
              have e7 : (i : Int) - 1 = (i' : Int) := by omega
              have HH := Lib.hid (show u2 = V / 2 ^ ((b - j) + 2 * (j - i')) by rw [h2]; congr 2; omega)
              have HI := Lib.hid (show i' ≤ j ∧ min j b ≤ i' ∧ i' < i by omega)
              have hi7 : (i : Int) ≤ 8 := by omega
              have hi'7 : (i' : Int) ≤ 8 := by omega
              clear hi1 hi2 hx hxb hlb h1 h2 hu hu2 hi'
              go_wp2_with fail
              go_round
              case rel => exact ⟨i', u2, HI.out.1, HI.out.2.1, rfl, rfl, HH.out⟩
              case measure =>
                have := HI.out.2.2
                simp only [intOf]
                omega
            · have hbi : ¬ ((b : Int) < (i : Int)) := by omega
              have HX := Lib.hid (show x = bud1 S j b by rw [bud1_is, HV.out (), hx]; congr 2; omega)
              have HST := Lib.hid (show budN S b (j + 1) = max (budN S b j) (bud1 S j b) from rfl)
              clear hi1 hi2 hx hxb hgb
              by_cases hm : x > M
              · have hmI : (M : Int) < (x : Int) := by omega
                have HMX := Lib.hid (show x = budN S b (j + 1) by rw [HST.out, ← HX.out, ← HM.out]; omega)
                clear hm
                go_wp2_with fail
                go_round
                case rel => exact ⟨j + 1, x, HJ.out, by go_num, rfl, HMX.out⟩
                case measure =>
                  have := HJ.out
                  simp [intOf] <;> omega
              · have hmI : ¬ ((M : Int) < (x : Int)) := by omega
                have HMX := Lib.hid (show M = budN S b (j + 1) by rw [HST.out, ← HX.out, ← HM.out]; omega)
                clear hm
                go_wp2_with fail
                go_round
                case rel => exact ⟨j + 1, M, HJ.out, by go_num, rfl, HMX.out⟩
                case measure =>
                  have := HJ.out
                  simp [intOf] <;> omega
    · obtain rfl : j = 8 := by omega
      have HM := Lib.hid hM
      clear hj hge hM
      go_wp2_with fail
      go_ret
      exact ⟨by rw [show bud S b = M from HM.out.symm]; rfl, HB.out⟩
end Go.Proofs.Ytfpmdbdgikphdaa
