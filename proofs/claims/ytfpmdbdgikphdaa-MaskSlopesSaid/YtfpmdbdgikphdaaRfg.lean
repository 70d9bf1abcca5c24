/-
  The reference's Great of layer 17. Conditions: four numbers.
-/
import Derived.Test.YtfpmdbdgikphdaaRfb
namespace Go.Proofs.Ytfpmdbdgikphdaa
open Go.RowKit
open M
set_option maxRecDepth 100000 in
theorem rgreat_any (l : List Int) (w : World) (hl : l.length = 4) :
    Calls Try.prog 14 #[.agg (iCells l)] w fun e w' => e = .returned (.bool (!sm17 l)) ∧ Below w.heap.size w w' := by
  have HL := Lib.hid hl
  have HR : Hid (Row (w.alloc (.cells (iCells l) 29)) w.heap.size 29 (iCells l)) := Lib.hid (heap_alloc_new _ _)
  have HB : Hid (Below w.heap.size w (w.alloc (.cells (iCells l) 29))) := Lib.hid ((Below.refl _ _).alloc (Nat.le_refl _) _)
  have HY := Lib.hid fun h => (sm_iff l).2 h
  have HN := Lib.hid fun h => b_no (sm_iff l) h
  clear hl
  go_enter Try.func14, Try.ntmps14
  go_wp2_with fail
  generalize w.alloc (.cells (iCells l) 29) = w1 at *
  obtain ⟨g, hg⟩ : ∃ g, w.heap.size = g := ⟨_, rfl⟩
  rw [hg] at HR
  rw [hg]
  clear hg
  go_loop [3] (fun ii => ∃ (k : Nat), k ≤ 4 ∧ ii = .int .i64 k ∧ ∀ j, j < k → -1048576 ≤ l.getD j 0 ∧ l.getD j 0 ≤ 1048576) (fun ii => 4 - (intOf ii).toNat)
  case atStart => exact ⟨0, by omega, rfl, fun j hj => by omega⟩
  case round =>
    obtain ⟨k, hk, rfl, hall⟩ := hrel
    rcases Nat.lt_or_ge k 4 with hlt | hge
    · have c0 := i_at HR.out k (by rw [HL.out]; exact hlt)
      have hkI : (k : Int) < 4 := by omega
      obtain ⟨x, hx⟩ : ∃ x, l.getD k 0 = x := ⟨_, rfl⟩
      rw [hx] at c0
      have HX := Lib.hid fun _ : Unit => hx
      have HA := Lib.hid hall
      have HK := Lib.hid hlt
      clear hk hlt hx hall
      by_cases h1 : x < -1048576
      · have HF := Lib.hid (HN.out fun h => by have := h k HK.out; rw [HX.out ()] at this; omega)
        go_wp2_with fail
        go_ret
        exact ⟨by rw [HF.out]; rfl, HB.out⟩
      · by_cases h2 : x > 1048576
        · have HF := Lib.hid (HN.out fun h => by have := h k HK.out; rw [HX.out ()] at this; omega)
          go_wp2_with fail
          go_ret
          exact ⟨by rw [HF.out]; rfl, HB.out⟩
        · have HXX := Lib.hid (show -1048576 ≤ x ∧ x ≤ 1048576 by omega)
          go_wp2_with fail
          go_round
          case rel => exact ⟨k + 1, HK.out, by go_num, fun j hj => by
            rcases Nat.lt_or_ge j k with h | h
            · exact HA.out j h
            · obtain rfl : j = k := by omega
              rw [HX.out ()]; exact HXX.out⟩
          case measure =>
            have := HK.out
            simp [intOf] <;> omega
    · obtain rfl : k = 4 := by omega
      have HF := Lib.hid (HY.out hall)
      clear hk hge hall
      go_wp2_with fail
      go_ret
      exact ⟨by rw [HF.out]; rfl, HB.out⟩
end Go.Proofs.Ytfpmdbdgikphdaa
