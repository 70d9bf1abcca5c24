/-
  The law BitsReads, at texts and lists of any length. Conditions: the arguments lie as they were opened.
-/
import Derived.Test.YtnhbbdfjeaflcaaBd
namespace Go.Proofs.Ytnhbbdfjeaflcaa
open Go.RowKit
open M
set_option maxHeartbeats 1000000 in
theorem reads_big (s : ByteArray) (xs : List Int) (l : Value) (w : World) (hl : 300 < s.size ∨ s.size ≤ 300 ∧ 60 < xs.length) (hm : xs.length ≤ maxLen) (hms : s.size ≤ maxLen) (h : IntsAt w l xs) :
    Calls Try.prog 6 #[.string s, l] w fun e w' => e = .returned (.bool true) ∧ Below w.heap.size w w' := by
  unfold maxLen at hm hms
  obtain ⟨a, lcap, rfl, _⟩ := h
  rcases hl with hl | ⟨hl0, hl⟩
  · have hl' : (300 : Int) < (s.size : Int) := by omega
    go_enter Try.func6, Try.ntmps6
    go_wp2_with fail
    refine (awake_any _).mono ?_
    rintro e w1 ⟨rfl, hb⟩
    have HB := Lib.hid hb
    clear hb
    go_wp2_with fail
    refine (awake_any _).mono ?_
    rintro e w2 ⟨rfl, hb⟩
    have HB2 := Lib.hid (HB.out.trans (hb.mono HB.out.size))
    clear hb
    go_wp2
    go_ret
    exact ⟨rfl, HB2.out⟩
  · have hl' : (60 : Int) < (xs.length : Int) := by omega
    go_enter Try.func6, Try.ntmps6
    go_wp2_with fail
    refine (awake_any _).mono ?_
    rintro e w1 ⟨rfl, hb⟩
    have HB := Lib.hid hb
    clear hb
    go_wp2_with fail
    refine (awake_any _).mono ?_
    rintro e w2 ⟨rfl, hb⟩
    have HB2 := Lib.hid (HB.out.trans (hb.mono HB.out.size))
    clear hb
    go_wp2
    go_ret
    exact ⟨rfl, HB2.out⟩
theorem reads_law (s : ByteArray) (xs : List Int) (l : Value) (w : World) (hm : xs.length ≤ maxLen) (hx : ∀ p ∈ xs, i64ok p) (hms : s.size ≤ maxLen) (h : IntsAt w l xs) :
    Calls Try.prog 6 #[.string s, l] w fun e w' => e = .returned (.bool true) ∧ Below w.heap.size w w' := by
  by_cases h1 : s.size ≤ 300
  · by_cases h2 : xs.length ≤ 60
    · exact reads_walk s xs l w h1 h2 hx h
    · exact reads_big s xs l w (Or.inr ⟨h1, by omega⟩) hm hms h
  · exact reads_big s xs l w (Or.inl (by omega)) hm hms h
end Go.Proofs.Ytnhbbdfjeaflcaa
