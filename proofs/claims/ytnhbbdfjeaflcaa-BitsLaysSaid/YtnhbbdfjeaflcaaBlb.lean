/-
  The law BitsLays, at lists of any length. Conditions: the argument lies as it was opened.
-/
import Derived.Test.YtnhbbdfjeaflcaaBl
namespace Go.Proofs.Ytnhbbdfjeaflcaa
open Go.RowKit
open M
set_option maxHeartbeats 1000000 in
theorem lays_big (xs : List (Int × Int)) (l : Value) (w : World) (hl : 60 < xs.length) (hm : xs.length ≤ maxLen) (h : NumsAt w l xs) :
    Calls Try.prog 5 #[l] w fun e w' => e = .returned (.bool true) ∧ Below w.heap.size w w' := by
  unfold maxLen at hm
  obtain ⟨a, lcap, rfl, _⟩ := h
  have hl' : (60 : Int) < (xs.length : Int) := by omega
  go_enter Try.func5, Try.ntmps5
  go_wp2_with fail
  refine (awake_any _).mono ?_
  rintro e w1 ⟨rfl, hb⟩
  have HB := Lib.hid hb
  clear hb
  go_wp2_with fail
  refine (awake_any _).mono ?_
  rintro e w2 ⟨rfl, hb⟩
  have HB2 := Lib.hid (HB.out.trans (hb.mono HB.out.size))
  clear hb
  go_wp2
  go_ret
  exact ⟨rfl, HB2.out⟩
theorem lays_law (xs : List (Int × Int)) (l : Value) (w : World) (hm : xs.length ≤ maxLen) (h : NumsAt w l xs) :
    Calls Try.prog 5 #[l] w fun e w' => e = .returned (.bool true) ∧ Below w.heap.size w w' := by
  by_cases hl : xs.length ≤ 60
  · exact lays_walk xs l w hl h
  · exact lays_big xs l w (by omega) hm h
end Go.Proofs.Ytnhbbdfjeaflcaa
