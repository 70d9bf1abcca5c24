/-
  Layer 16's laws, what they share: awake, a number's size. Conditions: a number of size 2^62 at most.
-/
import Derived.Test.YtagcdnglipdldaaBnc
import Derived.Test.YtagcdnglipdldaaSvf
namespace Go.Proofs.Ytagcdnglipdldaa
open Go.RowKit
open M
theorem step16_cells (a b c d : Int) (w : World) :
    Calls Try.prog 11 #[.agg #[.int .i64 a, .int .i64 b, .int .i64 c, .int .i64 d]] w fun e w' => e = .returned (.int .i64 (stp (gm16 [a, b, c, d]) : Nat)) ∧ Below w.heap.size w w' := step16_any [a, b, c, d] w rfl
theorem gm16_cells (a b c d : Int) : gm16 [a, b, c, d] = max (max a.natAbs b.natAbs) (max c.natAbs d.natAbs) := rfl
set_option maxRecDepth 100000 in
theorem awake16_any (w : World) : Calls Try.prog 8 #[] w fun e w' => e = .returned (.bool true) ∧ Below w.heap.size w w' := by
  have hz : ∀ w, (zeroValue 23).run Try.prog w = .ok (.agg #[.int .i64 0, .int .i64 0, .int .i64 0, .int .i64 0]) w := four_z16
  have H1 : Hid (∀ w, Calls Try.prog 11 #[.agg #[.int .i64 6, .int .i64 0, .int .i64 0, .int .i64 0]] w fun e w' => e = .returned (.int .i64 0) ∧ Below w.heap.size w w') := Lib.hid fun w => (step16_cells 6 0 0 0 w).mono fun e w' h => ⟨h.1, h.2⟩
  have H2 : Hid (∀ w, Calls Try.prog 11 #[.agg #[.int .i64 (-7), .int .i64 0, .int .i64 0, .int .i64 0]] w fun e w' => e = .returned (.int .i64 1) ∧ Below w.heap.size w w') := Lib.hid fun w => (step16_cells (-7) 0 0 0 w).mono fun e w' h => ⟨h.1, h.2⟩
  go_enter Try.func8, Try.ntmps8
  go_wp2_with fail
  refine (H1.out _).mono ?_
  rintro e w1 ⟨rfl, hb1⟩
  have HB1 := Lib.hid hb1
  clear hb1
  go_wp2_with fail
  refine (H2.out _).mono ?_
  rintro e w2 ⟨rfl, hb2⟩
  have HB2 := Lib.hid (HB1.out.trans (hb2.mono HB1.out.size))
  clear hb2
  go_wp2_with fail
  go_ret
  exact ⟨rfl, HB2.out⟩
/-- A number without its sign, 2^40 at most. -/
def sz16 (x : Int) : Int := (min x.natAbs 1099511627776 : Nat)
theorem size_max (x : Int) (w : World) : (Builtin.max_ #[3, 3, 3] 3 #[.int .i64 x, .int .i64 (-x), .int .i64 0]).run Try.prog w = .ok (.int .i64 (x.natAbs : Nat)) w := by
  simp [Builtin.max_, Builtin.max2]
  repeat' split
  all_goals omega
theorem size_min (x : Int) (w : World) : (Builtin.min_ #[3, 3] 3 #[.int .i64 (x.natAbs : Nat), .int .i64 1099511627776]).run Try.prog w = .ok (.int .i64 (sz16 x)) w := by
  unfold sz16
  simp [Builtin.min_, Builtin.min2]
  repeat' split
  all_goals omega
theorem size16_any (x : Int) (w : World) (h1 : -4611686018427387904 ≤ x) (h2 : x ≤ 4611686018427387904) : Calls Try.prog 12 #[.int .i64 x] w fun e w' => e = .returned (.int .i64 (sz16 x)) ∧ w' = w := by
  have hw : wrap64 (-x) = -x := by rw [wrap64]; omega
  have hmx := size_max x
  have hmn := size_min x
  obtain ⟨m, hm⟩ : ∃ m : Nat, x.natAbs = m := ⟨_, rfl⟩
  rw [hm] at hmx hmn
  obtain ⟨y, hy⟩ : ∃ y, sz16 x = y := ⟨_, rfl⟩
  rw [hy] at hmn ⊢
  clear hm hy
  go_enter Try.func12, Try.ntmps12
  go_wp2_with fail
  go_ret
  exact ⟨rfl, rfl⟩
end Go.Proofs.Ytagcdnglipdldaa
