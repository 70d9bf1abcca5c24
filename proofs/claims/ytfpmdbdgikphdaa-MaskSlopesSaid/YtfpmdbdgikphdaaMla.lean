/-
  mask's questions (is there such a band, has it a budget, is a number a pulse), the slopes and their closures. Conditions: eight steps; a loudness to 131072, a shift to 2, a distance to 7 where a closure is called.
-/
import Derived.Test.YtfpmdbdgikphdaaBnr
import Derived.Test.YtfpmdbdgikphdaaMka
import Derived.Test.YtfpmdbdgikphdaaDr
import Derived.Deep.RegionWith
namespace Go.Proofs.Ytfpmdbdgikphdaa
open Go.RowKit
open M
/-- Whether there is such a band. -/
def isb17 (n : Int) : Bool := decide (0 ≤ n ∧ n < 8)
theorem isband17_any (n : Int) (w : World) : Calls Try.prog 23 #[.int .i64 n] w fun e w' => e = .returned (.bool (isb17 n)) ∧ w' = w := by
  by_cases h1 : n < 0
  · have e : isb17 n = false := decide_eq_false (by omega)
    have h2 : ¬ n ≥ 0 := by omega
    rw [e]
    clear e
    go_enter Try.func23, Try.ntmps23
    go_wp2
    go_ret
    exact ⟨rfl, rfl⟩
  · by_cases h2 : n < 8
    · have e : isb17 n = true := decide_eq_true (by omega)
      have h3 : n ≥ 0 := by omega
      rw [e]
      clear e
      go_enter Try.func23, Try.ntmps23
      go_wp2
      go_ret
      exact ⟨rfl, rfl⟩
    · have e : isb17 n = false := decide_eq_false (by omega)
      have h3 : n ≥ 0 := by omega
      rw [e]
      clear e
      go_enter Try.func23, Try.ntmps23
      go_wp2
      go_ret
      exact ⟨rfl, rfl⟩
/-- Whether a number's differences are taken. -/
def isu17 (n : Int) : Bool := decide (-1048576 ≤ n ∧ n ≤ 1048576)
theorem ispulse_any (n : Int) (w : World) : Calls Try.prog 21 #[.int .i64 n] w fun e w' => e = .returned (.bool (isu17 n)) ∧ w' = w := by
  by_cases h1 : n < -1048576
  · have e : isu17 n = false := decide_eq_false (by omega)
    have h2 : ¬ n ≥ -1048576 := by omega
    rw [e]
    clear e
    go_enter Try.func21, Try.ntmps21
    go_wp2
    go_ret
    exact ⟨rfl, rfl⟩
  · by_cases h2 : n ≤ 1048576
    · have e : isu17 n = true := decide_eq_true (by omega)
      have h3 : n ≥ -1048576 := by omega
      rw [e]
      clear e
      go_enter Try.func21, Try.ntmps21
      go_wp2
      go_ret
      exact ⟨rfl, rfl⟩
    · have e : isu17 n = false := decide_eq_false (by omega)
      have h3 : n ≥ -1048576 := by omega
      rw [e]
      clear e
      go_enter Try.func21, Try.ntmps21
      go_wp2
      go_ret
      exact ⟨rfl, rfl⟩
/-- Whether a band has a budget. -/
def hb17 (l : List Int) (b : Int) : Bool := isb17 b && rt17 l
set_option maxRecDepth 100000 in
set_option maxHeartbeats 1000000 in
theorem hasbudget_any (l : List Int) (b : Int) (w : World) (hl : l.length = 8) :
    Calls Try.prog 19 #[.agg (iCells l), .int .i64 b] w fun e w' => e = .returned (.bool (hb17 l b)) ∧ Below w.heap.size w w' := by
  have HSZ := Lib.hid (sds_size l hl)
  have HRT := Lib.hid fun w => right17_any l w hl
  have HR : Hid (Row (w.alloc (.cells (iCells l) 24)) w.heap.size 24 (iCells l)) := heap_alloc_new _ _
  have HB : Hid (Below w.heap.size w (w.alloc (.cells (iCells l) 24))) := (Below.refl _ _).alloc (Nat.le_refl _) _
  have HV : Hid (hb17 l b = (isb17 b && rt17 l)) := Lib.hid rfl
  clear hl
  go_enter Try.func19, Try.ntmps19
  go_wp2_with fail
  refine (isband17_any b _).mono ?_
  rintro e w2 ⟨rfl, rfl⟩
  generalize isb17 b = q at *
  cases q
  · go_wp2_with fail
    go_ret
    exact ⟨by rw [HV.out]; rfl, HB.out⟩
  · go_wp2_with (refine g_load_row (by rfl) 24 (.tmp 2) rfl w.heap.size rfl 24 (iCells l) (0, 0) _ HR.out Try.underlying24 rfl HSZ.out ?_)
    refine (HRT.out _).mono ?_
    rintro e w3 ⟨rfl, hb3⟩
    have HB3 := Lib.hid (HB.out.trans (hb3.mono (by simp)))
    go_wp2_with fail
    go_ret
    exact ⟨by rw [HV.out]; rfl, HB3.out⟩
theorem slope_any (k : Nat) (w : World) : Calls Try.prog 20 #[.int .i64 (k : Int)] w fun e w' =>
    ∃ gb, e = .returned (.func (.func 25) #[] #[.pointer (some ⟨gb, 0, none⟩)]) ∧ Row w' gb 3 (iCells [(k : Int)]) ∧ Below w.heap.size w w' := by
  have HC : Hid (Row (w.alloc (.cells #[.int .i64 (k : Int)] 3)) w.heap.size 3 (iCells [(k : Int)])) := Lib.hid (heap_alloc_new _ _)
  have HB : Hid (Below w.heap.size w (w.alloc (.cells #[.int .i64 (k : Int)] 3))) := Lib.hid ((Below.refl _ _).alloc (Nat.le_refl _) _)
  go_enter Try.func20, Try.ntmps20
  go_wp2
  go_ret
  exact ⟨_, rfl, HC.out, HB.out⟩
theorem slopeof_any (x k a q : Nat) (g : Nat) (w : World) (hq : x / 2 ^ (k * a) = q) (hr : Row w g 3 (iCells [(k : Int)])) (hk : k ≤ 2) (ha : a ≤ 7) :
    Calls Try.prog 25 #[.int .i64 (x : Int), .int .i64 (a : Int), .pointer (some ⟨g, 0, none⟩)] w fun e w' => e = .returned (.int .i64 (q : Int)) ∧ w' = w := by
  have hc := i_at hr 0 (by simp)
  obtain ⟨p, hp⟩ : ∃ p, k * a = p := ⟨_, rfl⟩
  have hpb : p ≤ 14 := by rw [← hp]; exact Nat.mul_le_mul hk ha
  have hm : wrap64 ((k : Int) * (a : Int)) = (p : Int) := by rw [← hp, wrap64]; push_cast; have : k * a ≤ 14 := by rw [hp]; exact hpb
                                                             omega
  rw [← hq, hp]
  clear hq
  go_enter Try.func25, Try.ntmps25
  go_wp2
  go_ret
  exact ⟨by show Ending.returned (Value.int IntKind.i64 ((x : Int) / 2 ^ (k * a))) = _; rw [hp]; push_cast; rfl, rfl⟩
end Go.Proofs.Ytfpmdbdgikphdaa
