/-
  The contracts of layer 4's New, Exp, Log. Conditions: numbers are int's; the Field lies in a block of its own.
-/
import Derived.Test.YtbokecpcefcimaaFw
namespace Go.Proofs.Ytbokecpcefcimaa
open Go.RowKit
open M

def fdZero : List Int := List.replicate 255 0
/-- The tables' numbers, as far as the loop of New has come. -/
def tabs : Nat → List Int
  | 0 => fdZero.set 127 (-1)
  | n + 1 => ((tabs n).set n (E n : Nat)).set (127 + E n) (n : Nat)
theorem tabs_length (n : Nat) : (tabs n).length = 255 := by
  induction n with
  | zero => unfold tabs fdZero; rw [List.length_set, List.length_replicate]
  | succ n ih => simp only [tabs, List.length_set, ih]
def intCells (l : List Int) : Array Value := (l.map fun x => Value.int .i64 x).toArray
theorem intCells_get (l : List Int) (i : Nat) (h : i < l.length) : (intCells l)[i]? = some (.int .i64 (l.getD i 0)) := by
  simp [intCells, h]
theorem intCells_set (l : List Int) (i : Nat) (x : Int) : (intCells l).setIfInBounds i (.int .i64 x) = intCells (l.set i x) := by
  simp [intCells, List.map_set]
/-- The log of an element, -1 of 0. -/
def lg (a : Nat) : Int := if a = 0 then -1 else (Lg a : Nat)
theorem tabs_exp (n : Nat) (h : n < 127) : (tabs 127).getD n 0 = (E n : Nat) := by
  have := of_all (n := 127) (p := fun n => (tabs 127).getD n 0 == ((E n : Nat) : Int)) (by decide +kernel) n h
  simpa using this
theorem tabs_log (a : Nat) (h : a < 128) : (tabs 127).getD (127 + a) 0 = lg a := by
  have := of_all (n := 128) (p := fun a => (tabs 127).getD (127 + a) 0 == lg a) (by decide +kernel) a h
  simpa using this
/-- A Field, as it lies. -/
def Fd (w : World) (g : Nat) : Prop := Row w g 78 (intCells (tabs 127))
theorem Fd.exp {w : World} {g : Nat} (h : Fd w g) (n : Nat) (hn : n < 127) : w.cell? ⟨g, n, none⟩ = some (.int .i64 (E n : Nat)) := by
  rw [cell_of_row _ _ _ _ _ _ h, intCells_get _ _ (by rw [tabs_length]; omega), tabs_exp n hn]
theorem Fd.log {w : World} {g : Nat} (h : Fd w g) (a : Nat) (ha : a < 128) : w.cell? ⟨g, 127 + a, none⟩ = some (.int .i64 (lg a)) := by
  rw [cell_of_row _ _ _ _ _ _ h, intCells_get _ _ (by rw [tabs_length]; omega), tabs_log a ha]

theorem exp_nil (n : Int) (w : World) :
    Calls Try.prog 37 #[.pointer none, .int .i64 n] w fun e w' => e = .returned (.int .i64 0) ∧ w = w' := by
  go_enter Try.func37, Try.ntmps37
  go_wp2
  go_ret
  exact ⟨rfl, rfl⟩
theorem log_nil (n : Int) (w : World) :
    Calls Try.prog 52 #[.pointer none, .int .i64 n] w fun e w' => e = .returned (.int .i64 (-1)) ∧ w = w' := by
  go_enter Try.func52, Try.ntmps52
  go_wp2
  go_ret
  exact ⟨rfl, rfl⟩
theorem exp_any (n : Int) (g : Nat) (w : World) (hn : inI n) (h : Fd w g) :
    Calls Try.prog 37 #[.pointer (some ⟨g, 0, none⟩), .int .i64 n] w fun e w' => e = .returned (.int .i64 (E (re n) : Nat)) ∧ Qt w w' := by
  have c0 := h.exp (re n) (re_lt n)
  have b0 := re_lt n
  have b1 : ((re n : Nat) : Int) < 127 := by omega
  have HN := Lib.hid hn
  clear h hn
  go_enter Try.func37, Try.ntmps37
  go_wp2
  go_quiet (first | (go_at_call 50; exact Calls.quiet_of_same ((rest127 n _ HN.out).mono fun _ _ h => ⟨h.1, h.2.symm⟩)))
  go_wp2
  go_ret
  exact ⟨rfl, Qt.of _ _⟩
theorem log_any (a : Int) (g : Nat) (w : World) (ha : inI a) (h : Fd w g) :
    Calls Try.prog 52 #[.pointer (some ⟨g, 0, none⟩), .int .i64 a] w fun e w' => e = .returned (.int .i64 (lg (el a))) ∧ Qt w w' := by
  have c0 := h.log (el a) (el_lt a)
  have b0 := el_lt a
  have b1 : ((el a : Nat) : Int) < 128 := by omega
  have HN := Lib.hid ha
  clear h ha
  go_enter Try.func52, Try.ntmps52
  go_wp2
  go_quiet (first | (go_at_call 49; exact Calls.quiet_of_same ((element_any a _ HN.out).mono fun _ _ h => ⟨h.1, h.2.symm⟩)))
  go_wp2
  go_ret
  exact ⟨rfl, Qt.of _ _⟩
theorem fd_info : (Try.prog.info? 78).map (fun i => i.zero) = some (some (.agg (intCells fdZero))) := by kernel_rfl
theorem fd_zero (w : World) : (zeroValue 78).run Try.prog w = .ok (.agg (intCells fdZero)) w := by
  obtain ⟨i, hi, hz⟩ : ∃ i, Try.prog.info? 78 = some i ∧ i.zero = some (.agg (intCells fdZero)) := by
    have := fd_info
    cases h : Try.prog.info? 78 with
    | none => rw [h] at this; cases this
    | some i => rw [h] at this; exact ⟨i, rfl, by simpa using this⟩
  unfold zeroValue
  rw [Sem.run_bind, run_typeInfo w hi, Result.andThen_ok]
  simp only [hz]
  rfl
set_option maxRecDepth 100000 in
theorem new_any (w : World) :
    Calls Try.prog 34 #[] w fun e w' => e = .returned (.pointer (some ⟨w.heap.size, 0, none⟩)) ∧ Below w.heap.size w w' ∧ Fd w' w.heap.size := by
  have hz := fd_zero w
  have HT0 : Hid ((intCells fdZero).setIfInBounds 127 (.int .i64 (-1)) = intCells (tabs 0)) := intCells_set fdZero 127 (-1)
  go_enter Try.func34, Try.ntmps34
  go_wp2
  clear hz
  go_loopw [2, 10] (fun x i wr => ∃ n : Nat, n ≤ 127 ∧ i = .int .i64 n ∧ x = .int .i64 (E (n % 127) : Nat) ∧ Row wr w.heap.size 78 (intCells (tabs n)) ∧ Below w.heap.size w wr) (fun _ i _ => 127 - (intOf i).toNat)
  case atStart => exact ⟨0, by omega, rfl, rfl, by rw [← HT0.out]; exact heap_alloc_new _ _, (Below.refl _ _).alloc (Nat.le_refl _) _⟩
  case round =>
    obtain ⟨n, hn, rfl, rfl, hr, hb⟩ := hrel
    by_cases hlt : n < 127
    · have HR := Lib.hid hr
      have HB := Lib.hid hb
      have hE := E_bd n hlt
      have HX := Lib.hid (E_next n hlt)
      obtain ⟨x, hx⟩ : ∃ x, E (n % 127) = x := ⟨_, rfl⟩
      have hx2 : E n = x := by rw [← hx, Nat.mod_eq_of_lt hlt]
      rw [hx2] at hE
      have HS : Hid (tabs (n + 1) = ((tabs n).set n (x : Nat)).set (127 + x) (n : Nat)) := by unfold Hid; rw [← hx2]; rfl
      have HE := Lib.hid hx
      have f1 := hr.free n
      have f2 := fun u => (hr.set n u).free (127 + x)
      obtain ⟨u1, c1⟩ : ∃ u, wr.cell? ⟨w.heap.size, n, none⟩ = some u := ⟨_, (cell_of_row _ _ _ _ _ _ hr).trans (intCells_get _ n (by rw [tabs_length]; omega))⟩
      obtain ⟨u2, c2⟩ : ∃ u, (wr.setCell ⟨w.heap.size, n, none⟩ (.int .i64 (x : Int))).cell? ⟨w.heap.size, 127 + x, none⟩ = some u := by
        refine ⟨.int .i64 (((tabs n).set n (x : Int)).getD (127 + x) 0), ?_⟩
        rw [cell_of_row _ _ _ _ _ _ (hr.set n (.int .i64 (x : Int))), intCells_set]
        exact intCells_get _ _ (by rw [List.length_set, tabs_length]; omega)
      have f2 := (hr.set n (.int .i64 (x : Int))).free (127 + x)
      rw [hx]
      clear hr hb hx hx2
      go_wp2_with (go_at_call 48; refine (double_any x _ (by omega)).mono ?_; rintro e w' ⟨rfl, rfl⟩)
      go_roundw
      case rel =>
        refine ⟨n + 1, by omega, by go_num, by rw [← HX.out, HE.out], ?_, (HB.out.setCell (p := ⟨w.heap.size, n, none⟩) (by simp) _).setCell (p := ⟨w.heap.size, 127 + x, none⟩) (by simp) _⟩
        rw [HS.out, ← intCells_set, ← intCells_set]
        exact (HR.out.set n _).set (127 + x) _
      case measure => simp [intOf]; omega
    · obtain rfl : n = 127 := by omega
      have HR := Lib.hid hr
      have HB := Lib.hid hb
      clear hr hb
      go_wp2
      go_ret
      exact ⟨rfl, HB.out, HR.out⟩
end Go.Proofs.Ytbokecpcefcimaa
