/-
  MidUnlike walked: unlike pairs have unlike middles and sides; a pair turned about has the side's negative. Conditions: ints.
-/
import Derived.Test.YtpfdjddjoclldaaCa
namespace Go.Proofs.Ytpfdjddjoclldaa
open Go.RowKit
open M
set_option maxRecDepth 100000 in
set_option maxHeartbeats 1000000 in
theorem midunlike_law (k1 k2 k3 k4 : Int) (w : World) : Calls Try.prog 7 #[.int .i64 k1, .int .i64 k2, .int .i64 k3, .int .i64 k4] w fun e w' => e = .returned (.bool true) ∧ Below w.heap.size w w' := by
  have HX1 := Lib.hid fun w => held40_any k1 w
  have b1 := h40_bd k1
  have HX2 := Lib.hid fun w => held40_any k2 w
  have b2 := h40_bd k2
  have HX3 := Lib.hid fun w => held40_any k3 w
  have b3 := h40_bd k3
  have HX4 := Lib.hid fun w => held40_any k4 w
  have b4 := h40_bd k4
  obtain ⟨a, hx1⟩ : ∃ a, h40 k1 = a := ⟨_, rfl⟩
  rw [hx1] at HX1 b1
  obtain ⟨b, hx2⟩ : ∃ b, h40 k2 = b := ⟨_, rfl⟩
  rw [hx2] at HX2 b2
  obtain ⟨c, hx3⟩ : ∃ c, h40 k3 = c := ⟨_, rfl⟩
  rw [hx3] at HX3 b3
  obtain ⟨d, hx4⟩ : ∃ d, h40 k4 = d := ⟨_, rfl⟩
  rw [hx4] at HX4 b4
  clear hx1 hx2 hx3 hx4
  have H1 := Lib.hid fun w => of_any a b w (by omega) (by omega) (by omega) (by omega)
  have H2 := Lib.hid fun w => of_any c d w (by omega) (by omega) (by omega) (by omega)
  have H3 := Lib.hid fun w => of_any b a w (by omega) (by omega) (by omega) (by omega)
  have e1 := mdl_inj a b c d
  have e2 := mdl_turned a b
  have c1 := mdl_bd a b 1099511627776 (by omega) (by omega) (by omega) (by omega)
  have c3 := mdl_bd b a 1099511627776 (by omega) (by omega) (by omega) (by omega)
  obtain ⟨p, hp⟩ : ∃ p, mdl a b = p := ⟨_, rfl⟩
  obtain ⟨q, hq⟩ : ∃ q, mdl c d = q := ⟨_, rfl⟩
  obtain ⟨u, hu⟩ : ∃ u, mdl b a = u := ⟨_, rfl⟩
  rw [hp] at e1 e2 c1 H1
  rw [hq] at e1 H2
  rw [hu] at e2 c3 H3
  clear hp hq hu
  obtain ⟨m, s⟩ := p
  obtain ⟨n, t⟩ := q
  obtain ⟨p, q⟩ := u
  dsimp only at e2 c1 c3 H1 H2 H3
  obtain ⟨e2, e3, e4⟩ := e2
  subst e2
  simp only [Prod.mk.injEq] at e1
  have w1 : wrap64 (-s) = -s := by rw [wrap64]; omega
  have w2 : wrap64 (m - 1) = m - 1 := by rw [wrap64]; omega
  have w3 : wrap64 (m + 1) = m + 1 := by rw [wrap64]; omega
  have HE := Lib.hid fun _ : Unit => e1
  clear e1 c3
  go_enter Try.func7, Try.ntmps7
  go_wp2_with fail
  refine (HX1.out w).mono ?_
  rintro e w' ⟨rfl, rfl⟩
  go_wp2_with fail
  refine (HX2.out w).mono ?_
  rintro e w' ⟨rfl, rfl⟩
  go_wp2_with fail
  refine (H1.out w).mono ?_
  rintro e w' ⟨rfl, rfl⟩
  go_wp2_with fail
  refine (HX3.out w).mono ?_
  rintro e w' ⟨rfl, rfl⟩
  go_wp2_with fail
  refine (HX4.out w).mono ?_
  rintro e w' ⟨rfl, rfl⟩
  go_wp2_with fail
  refine (H2.out w).mono ?_
  rintro e w' ⟨rfl, rfl⟩
  go_wp2_with fail
  refine (HX2.out w).mono ?_
  rintro e w' ⟨rfl, rfl⟩
  go_wp2_with fail
  refine (HX1.out w).mono ?_
  rintro e w' ⟨rfl, rfl⟩
  go_wp2_with fail
  refine (H3.out w).mono ?_
  rintro e w' ⟨rfl, rfl⟩
  go_wp2_with fail
  refine (awake12_any w).mono ?_
  rintro e w' ⟨rfl, rfl⟩
  clear H1 H2 H3
  rcases Decidable.em (m = n ∧ s = t) with h | h
  · have h2 := (HE.out ()).1 h
    clear HE
    obtain ⟨rfl, rfl⟩ := h
    obtain ⟨rfl, rfl⟩ := h2
    go_wp2_with (first | (refine (HX1.out _).mono ?_; rintro e w' ⟨rfl, rfl⟩) | (refine (HX2.out _).mono ?_; rintro e w' ⟨rfl, rfl⟩) | (refine (HX3.out _).mono ?_; rintro e w' ⟨rfl, rfl⟩) | (refine (HX4.out _).mono ?_; rintro e w' ⟨rfl, rfl⟩))
    go_ret
    exact ⟨rfl, Below.refl _ _⟩
  · have h2 : ¬ (a = c ∧ b = d) := fun k => h ((HE.out ()).2 k)
    clear HE
    have h3 : m ≠ n ∨ m = n ∧ s ≠ t := by omega
    have h4 : a ≠ c ∨ a = c ∧ b ≠ d := by omega
    clear h h2
    rcases h3 with h3 | ⟨rfl, h3⟩ <;> rcases h4 with h4 | ⟨rfl, h4⟩
    all_goals
      have q3 := beq_eq_false_iff_ne.2 h3
      have q4 := beq_eq_false_iff_ne.2 h4
      go_wp2_with (first | (refine (HX1.out _).mono ?_; rintro e w' ⟨rfl, rfl⟩) | (refine (HX2.out _).mono ?_; rintro e w' ⟨rfl, rfl⟩) | (refine (HX3.out _).mono ?_; rintro e w' ⟨rfl, rfl⟩) | (refine (HX4.out _).mono ?_; rintro e w' ⟨rfl, rfl⟩))
      go_ret
      exact ⟨rfl, Below.refl _ _⟩
end Go.Proofs.Ytpfdjddjoclldaa
