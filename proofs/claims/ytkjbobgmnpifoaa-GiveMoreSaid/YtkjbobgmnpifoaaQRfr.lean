/-
  The reference's Right of layer 17 (Far: Rfb; Great: Rfg; Budget: Rfc). Conditions: those that each fact names.
-/
import Derived.Test.YtkjbobgmnpifoaaQRtp
import Derived.Test.YtkjbobgmnpifoaaQGagp
import Derived.Test.YtkjbobgmnpifoaaQDi
import Derived.Test.YtkjbobgmnpifoaaQTi
import Derived.StillTailTactics
import Derived.Deep.Cut
namespace Go.Proofs.Ytkjbobgmnpifoaa
open Go.RowKit
open M
set_option maxRecDepth 100000 in
theorem rright_any (l : List Int) (w : World) (hl : l.length = 8) :
    Calls Try.prog 13 #[.agg (iCells l)] w fun e w' => e = .returned (.bool (rt17 l)) ∧ Below w.heap.size w w' := by
  have HL := Lib.hid hl
  have HR : Hid (Row (w.alloc (.cells (iCells l) 22)) w.heap.size 22 (iCells l)) := Lib.hid (heap_alloc_new _ _)
  have HB : Hid (Below w.heap.size w (w.alloc (.cells (iCells l) 22))) := Lib.hid ((Below.refl _ _).alloc (Nat.le_refl _) _)
  have HY := Lib.hid fun h => (rt_iff l).2 h
  have HN := Lib.hid fun h => b_no (rt_iff l) h
  clear hl
  go_enter Try.func13, Try.ntmps13
  go_wp2_with fail
  generalize w.alloc (.cells (iCells l) 22) = w1 at *
  obtain ⟨g, hg⟩ : ∃ g, w.heap.size = g := ⟨_, rfl⟩
  rw [hg] at HR
  rw [hg]
  clear hg
  go_loop [3] (fun ii => ∃ (k : Nat), k ≤ 8 ∧ ii = .int .i64 k ∧ ∀ j, j < k → 0 ≤ l.getD j 0 ∧ l.getD j 0 ≤ 15) (fun ii => 8 - (intOf ii).toNat)
  case atStart => exact ⟨0, by omega, rfl, fun j hj => by omega⟩
  case round =>
    obtain ⟨k, hk, rfl, hall⟩ := hrel
    rcases Nat.lt_or_ge k 8 with hlt | hge
    · have c0 := i_at HR.out k (by rw [HL.out]; exact hlt)
      have hkI : (k : Int) < 8 := by omega
      obtain ⟨x, hx⟩ : ∃ x, l.getD k 0 = x := ⟨_, rfl⟩
      rw [hx] at c0
      have HX := Lib.hid fun _ : Unit => hx
      have HA := Lib.hid hall
      have HK := Lib.hid hlt
      clear hk hlt hx hall
      by_cases h1 : x < 0
      · have HF := Lib.hid (HN.out fun h => by have := h k HK.out; rw [HX.out ()] at this; omega)
        go_wp2_with fail
        go_ret
        exact ⟨by rw [HF.out]; rfl, HB.out⟩
      · by_cases h2 : x > 15
        · have HF := Lib.hid (HN.out fun h => by have := h k HK.out; rw [HX.out ()] at this; omega)
          go_wp2_with fail
          go_ret
          exact ⟨by rw [HF.out]; rfl, HB.out⟩
        · have HXX := Lib.hid (show 0 ≤ x ∧ x ≤ 15 by omega)
          go_wp2_with fail
          go_round
          case rel => exact ⟨k + 1, HK.out, by go_num, fun j hj => by
            rcases Nat.lt_or_ge j k with h | h
            · exact HA.out j h
            · obtain rfl : j = k := by omega
              rw [HX.out ()]; exact HXX.out⟩
          case measure =>
            have := HK.out
            simp [intOf] <;> omega
    · obtain rfl : k = 8 := by omega
      have HF := Lib.hid (HY.out hall)
      clear hk hge hall
      go_wp2_with fail
      go_ret
      exact ⟨by rw [HF.out]; rfl, HB.out⟩
end Go.Proofs.Ytkjbobgmnpifoaa
