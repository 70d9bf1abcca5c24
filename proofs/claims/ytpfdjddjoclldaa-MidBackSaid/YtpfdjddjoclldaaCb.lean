/-
  MidBack walked: Back undoes Of, and Of Back. Conditions: ints.
-/
import Derived.Test.YtpfdjddjoclldaaCa
namespace Go.Proofs.Ytpfdjddjoclldaa
open Go.RowKit
open M
set_option maxRecDepth 100000 in
set_option maxHeartbeats 1000000 in
theorem midback_law (l r : Int) (w : World) : Calls Try.prog 3 #[.int .i64 l, .int .i64 r] w fun e w' => e = .returned (.bool true) ∧ Below w.heap.size w w' := by
  have HX := Lib.hid fun w => held40_any l w
  have HY := Lib.hid fun w => held40_any r w
  have bx := h40_bd l
  have bY := h40_bd r
  obtain ⟨x, hx⟩ : ∃ x, h40 l = x := ⟨_, rfl⟩
  obtain ⟨y, hy⟩ : ∃ y, h40 r = y := ⟨_, rfl⟩
  rw [hx] at HX bx
  rw [hy] at HY bY
  clear hx hy
  have e1 := mdb_mdl x y
  have e2 := mdl_mdb x y
  have b1 : -9895604649984 ≤ (mdl x y).1 ∧ (mdl x y).1 ≤ 9895604649984 ∧ -9895604649984 ≤ (mdl x y).2 ∧ (mdl x y).2 ≤ 9895604649984 := by unfold mdl; simp only; omega
  have b2 : -9895604649984 ≤ (mdb x y).1 ∧ (mdb x y).1 ≤ 9895604649984 ∧ -9895604649984 ≤ (mdb x y).2 ∧ (mdb x y).2 ≤ 9895604649984 := by unfold mdb; simp only; omega
  have H1 := Lib.hid fun w => of_any x y w (by omega) (by omega) (by omega) (by omega)
  have H3 := Lib.hid fun w => back12_any x y w (by omega) (by omega) (by omega) (by omega)
  obtain ⟨p, hp⟩ : ∃ p, mdl x y = p := ⟨_, rfl⟩
  obtain ⟨q, hq⟩ : ∃ q, mdb x y = q := ⟨_, rfl⟩
  rw [hp] at e1 b1 H1
  rw [hq] at e2 b2 H3
  clear hp hq
  obtain ⟨p1, p2⟩ := p
  obtain ⟨q1, q2⟩ := q
  dsimp only at e1 e2 b1 b2 H1 H3
  have H2 := Lib.hid fun w => back12_any p1 p2 w (by omega) (by omega) (by omega) (by omega)
  have H4 := Lib.hid fun w => of_any q1 q2 w (by omega) (by omega) (by omega) (by omega)
  rw [e1] at H2
  rw [e2] at H4
  clear e1 e2
  dsimp only at H2 H4
  go_enter Try.func3, Try.ntmps3
  go_wp2_with fail
  refine (HX.out w).mono ?_
  rintro e w' ⟨rfl, rfl⟩
  go_wp2_with fail
  refine (HY.out w).mono ?_
  rintro e w' ⟨rfl, rfl⟩
  go_wp2_with fail
  refine (H1.out w).mono ?_
  rintro e w' ⟨rfl, rfl⟩
  go_wp2_with fail
  refine (H2.out w).mono ?_
  rintro e w' ⟨rfl, rfl⟩
  go_wp2_with fail
  refine (H3.out w).mono ?_
  rintro e w' ⟨rfl, rfl⟩
  go_wp2_with fail
  refine (H4.out w).mono ?_
  rintro e w' ⟨rfl, rfl⟩
  go_wp2_with fail
  refine (awake12_any w).mono ?_
  rintro e w' ⟨rfl, rfl⟩
  go_wp2_with fail
  go_ret
  exact ⟨rfl, Below.refl _ _⟩
end Go.Proofs.Ytpfdjddjoclldaa
