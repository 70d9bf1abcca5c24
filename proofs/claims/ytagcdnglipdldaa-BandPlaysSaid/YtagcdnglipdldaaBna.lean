/-
  band's questions (is there such a band, may a step be), the closure that tells what is too great for a step, whether a list of numbers has any such. Conditions: a step from 0 to 14 where a closure is made; numbers of a list as they lie.
-/
import Derived.Test.YtagcdnglipdldaaFj
import Derived.Test.YtagcdnglipdldaaGagp
import Derived.Test.YtagcdnglipdldaaDjf
import Derived.Test.YtagcdnglipdldaaTi
namespace Go.Proofs.Ytagcdnglipdldaa
open Go.RowKit
open M
/-- Whether there is such a band. -/
def isb (n : Int) : Bool := decide (0 ≤ n ∧ n < 8)
/-- Whether a step may be. -/
def isp (n : Int) : Bool := decide (0 ≤ n ∧ n ≤ 15)
theorem isband_any (n : Int) (w : World) : Calls Try.prog 19 #[.int .i64 n] w fun e w' => e = .returned (.bool (isb n)) ∧ w' = w := by
  by_cases h1 : n < 0
  · have e : isb n = false := decide_eq_false (by omega)
    have h2 : ¬ n ≥ 0 := by omega
    rw [e]
    clear e
    go_enter Try.func19, Try.ntmps19
    go_wp2
    go_ret
    exact ⟨rfl, rfl⟩
  · by_cases h2 : n < 8
    · have e : isb n = true := decide_eq_true (by omega)
      have h3 : n ≥ 0 := by omega
      rw [e]
      clear e
      go_enter Try.func19, Try.ntmps19
      go_wp2
      go_ret
      exact ⟨rfl, rfl⟩
    · have e : isb n = false := decide_eq_false (by omega)
      have h3 : n ≥ 0 := by omega
      rw [e]
      clear e
      go_enter Try.func19, Try.ntmps19
      go_wp2
      go_ret
      exact ⟨rfl, rfl⟩
theorem isstep_any (n : Int) (w : World) : Calls Try.prog 22 #[.int .i64 n] w fun e w' => e = .returned (.bool (isp n)) ∧ w' = w := by
  by_cases h1 : n < 0
  · have e : isp n = false := decide_eq_false (by omega)
    have h2 : ¬ n ≥ 0 := by omega
    rw [e]
    clear e
    go_enter Try.func22, Try.ntmps22
    go_wp2
    go_ret
    exact ⟨rfl, rfl⟩
  · by_cases h2 : n ≤ 15
    · have e : isp n = true := decide_eq_true (by omega)
      have h3 : n ≥ 0 := by omega
      rw [e]
      clear e
      go_enter Try.func22, Try.ntmps22
      go_wp2
      go_ret
      exact ⟨rfl, rfl⟩
    · have e : isp n = false := decide_eq_false (by omega)
      have h3 : n ≥ 0 := by omega
      rw [e]
      clear e
      go_enter Try.func22, Try.ntmps22
      go_wp2
      go_ret
      exact ⟨rfl, rfl⟩
/-- Whether a number is greater than the greatest one. -/
def grt (m x : Int) : Bool := decide (x < -m ∨ x > m)
theorem grt_any (m x : Int) (g : Nat) (w : World) (hc : w.cell? ⟨g, 0, none⟩ = some (.int .i64 m)) (h0 : 0 ≤ m) (h1 : m ≤ 9223372036854775807) :
    Calls Try.prog 24 #[.int .i64 x, .pointer (some ⟨g, 0, none⟩)] w fun e w' => e = .returned (.bool (grt m x)) ∧ w' = w := by
  have hw : wrap64 (-m) = -m := by rw [wrap64]; omega
  have HD : Hid (grt m x = decide (x < -m ∨ x > m)) := rfl
  go_enter Try.func24, Try.ntmps24
  by_cases h2 : x < -m
  · rw [decide_eq_true (Or.inl h2)] at HD
    go_wp2
    go_ret
    exact ⟨by rw [HD.out]; rfl, rfl⟩
  · by_cases h3 : x > m
    · rw [decide_eq_true (Or.inr h3)] at HD
      go_wp2
      go_ret
      exact ⟨by rw [HD.out]; rfl, rfl⟩
    · rw [decide_eq_false (fun h => h.elim h2 h3)] at HD
      go_wp2
      go_ret
      exact ⟨by rw [HD.out]; rfl, rfl⟩
theorem toog_any (s T : Nat) (w : World) (hs : s ≤ 14) (hT : 6 * 2 ^ s = T) : Calls Try.prog 21 #[.int .i64 (s : Int)] w fun e w' =>
    ∃ gb, e = .returned (.func (.func 24) #[] #[.pointer (some ⟨gb, 0, none⟩)]) ∧ w'.cell? ⟨gb, 0, none⟩ = some (.int .i64 (T : Int)) ∧ Below w.heap.size w w' := by
  have hb := pow2_le s 14 hs
  have h0 : (0 : Int) ≤ (s : Int) := by omega
  have hTb : T ≤ 98304 := by omega
  have hsh : IntKind.i64.wrap (6 * 2 ^ s) = (T : Int) := by
    have e : (6 * 2 ^ s : Int) = (T : Int) := by rw [← hT]; push_cast; rfl
    rw [e, IntKind.wrap_i64]; omega
  have HC : Hid ((w.alloc (.cells #[.int .i64 (T : Int)] 3)).cell? ⟨w.heap.size, 0, none⟩ = some (.int .i64 (T : Int))) := Lib.hid (cell_one_new w _ _ 0 _ rfl)
  have HB : Hid (Below w.heap.size w (w.alloc (.cells #[.int .i64 (T : Int)] 3))) := Lib.hid ((Below.refl _ _).alloc (Nat.le_refl _) _)
  clear hb hT
  go_enter Try.func21, Try.ntmps21
  go_wp2
  go_ret
  exact ⟨_, rfl, HC.out, HB.out⟩
end Go.Proofs.Ytagcdnglipdldaa
