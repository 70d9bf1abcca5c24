/-
  MidBetween walked: the middle lies between both; of two like numbers it is that, the side 0. Conditions: ints.
-/
import Derived.Test.YtpfdjddjoclldaaCa
namespace Go.Proofs.Ytpfdjddjoclldaa
open Go.RowKit
open M
set_option maxRecDepth 100000 in
set_option maxHeartbeats 1000000 in
theorem midbetween_law (l r : Int) (w : World) : Calls Try.prog 4 #[.int .i64 l, .int .i64 r] w fun e w' => e = .returned (.bool true) ∧ Below w.heap.size w w' := by
  have HX := Lib.hid fun w => held40_any l w
  have HY := Lib.hid fun w => held40_any r w
  have bx := h40_bd l
  have bY := h40_bd r
  obtain ⟨x, hx⟩ : ∃ x, h40 l = x := ⟨_, rfl⟩
  obtain ⟨y, hy⟩ : ∃ y, h40 r = y := ⟨_, rfl⟩
  rw [hx] at HX bx
  rw [hy] at HY bY
  clear hx hy
  obtain ⟨e1, e2, _⟩ := mdl_between x y
  have e3 := (mdl_between x x).2.2
  have e4 : (mdl x y).2 = x - y := rfl
  have hw : wrap64 (x - y) = x - y := by rw [wrap64]; omega
  have H1 := Lib.hid fun w => of_any x y w (by omega) (by omega) (by omega) (by omega)
  have H2 := Lib.hid fun w => of_any x x w (by omega) (by omega) (by omega) (by omega)
  rw [e3] at H2
  rw [e4] at H1
  dsimp only at H2
  obtain ⟨p, hp⟩ : ∃ p, (mdl x y).1 = p := ⟨_, rfl⟩
  rw [hp] at e1 e2 H1
  clear hp e3 e4
  go_enter Try.func4, Try.ntmps4
  go_wp2_with fail
  refine (HX.out w).mono ?_
  rintro e w' ⟨rfl, rfl⟩
  go_wp2_with fail
  refine (HY.out w).mono ?_
  rintro e w' ⟨rfl, rfl⟩
  go_wp2_with fail
  refine (H1.out w).mono ?_
  rintro e w' ⟨rfl, rfl⟩
  go_wp2_with fail
  refine (H2.out w).mono ?_
  rintro e w' ⟨rfl, rfl⟩
  go_wp2_with fail
  refine (awake12_any w).mono ?_
  rintro e w' ⟨rfl, rfl⟩
  go_wp2_with fail
  all_goals
    go_ret
    exact ⟨rfl, Below.refl _ _⟩
end Go.Proofs.Ytpfdjddjoclldaa
