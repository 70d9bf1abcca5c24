/-
  The contracts of layer 1's rounds: the program's round over a pointer, repeat, Round, and the reference's. Conditions: the four words lie in one block.
-/
import Derived.Test.YtppkiponpjnkkaaDoorWa
import Derived.Deep.QuietTactic
import Derived.BigQuiet
import Derived.RegionTactic
namespace Go.Proofs.YtppkiponpjnkkaaDoor
open Go.RowKit
open M

attribute [local go_sem] un_add un_sub un_xor un_or un_nonneg un_beq un_bne

/-- Only block g has turned, and no block is new. -/
structure Only (g : Nat) (w w' : World) : Prop where
  os : w'.os = w.os
  tape : w'.tape = w.tape
  output : w'.output = w.output
  size : w'.heap.size = w.heap.size
  block : ∀ k, k ≠ g → w'.heap[k]? = w.heap[k]?
theorem Only.refl (g : Nat) (w : World) : Only g w w := ⟨rfl, rfl, rfl, rfl, fun _ _ => rfl⟩
theorem Only.trans {g : Nat} {a b c : World} (h : Only g a b) (k : Only g b c) : Only g a c :=
  ⟨k.os.trans h.os, k.tape.trans h.tape, k.output.trans h.output, k.size.trans h.size, fun i hi => (k.block i hi).trans (h.block i hi)⟩
theorem Only.setCell {g : Nat} {a w : World} (h : Only g a w) (i : Nat) (m : Option Nat) (u : Value) : Only g a (w.setCell ⟨g, i, m⟩ u) :=
  h.trans ⟨rfl, rfl, rfl, by simp [World.setCell], fun k hk => Below.heap_setCell _ _ _ _ hk⟩
theorem Only.drew {g : Nat} {a w : World} (h : Only g a w) : Only g a w.drew := ⟨h.os, h.tape, h.output, h.size, h.block⟩
theorem Only.drewN {g : Nat} {a w : World} (h : Only g a w) (n : Nat) : Only g a (w.drewN n) := ⟨h.os, h.tape, h.output, h.size, h.block⟩
theorem Only.below {g : Nat} {w w' : World} (h : Only g w w') {B : Nat} (hB : B ≤ g) : Below B w w' := ⟨h.os, h.tape, h.output, by have := h.size; omega, fun k hk => h.block k (by omega)⟩

/-- Block g is just these cells. -/
def Row (w : World) (g : Nat) (t : TypeId) (cs : Array Value) : Prop := w.heap[g]? = some (.cells cs t (0, 0))

theorem Row.set {w : World} {g : Nat} {t : TypeId} {cs : Array Value} (h : Row w g t cs) (i : Nat) (u : Value) : Row (w.setCell ⟨g, i, none⟩ u) g t (cs.setIfInBounds i u) :=
  heap_setCell_same w g i cs t u h
theorem Row.drewN {w : World} {g : Nat} {t : TypeId} {cs : Array Value} (h : Row w g t cs) (n : Nat) : Row (w.drewN n) g t cs := h

def cells4 (v : V4) : Array Value := #[.int .u64 (un v.a), .int .u64 (un v.b), .int .u64 (un v.c), .int .u64 (un v.d)]

theorem Row.c0 {w : World} {g : Nat} {t : TypeId} {v : V4} (h : Row w g t (cells4 v)) : w.cell? ⟨g, 0, none⟩ = some (.int .u64 (un v.a)) := cell_of_row _ _ _ _ _ _ h
theorem Row.c1 {w : World} {g : Nat} {t : TypeId} {v : V4} (h : Row w g t (cells4 v)) : w.cell? ⟨g, 1, none⟩ = some (.int .u64 (un v.b)) := cell_of_row _ _ _ _ _ _ h
theorem Row.c2 {w : World} {g : Nat} {t : TypeId} {v : V4} (h : Row w g t (cells4 v)) : w.cell? ⟨g, 2, none⟩ = some (.int .u64 (un v.c)) := cell_of_row _ _ _ _ _ _ h
theorem Row.c3 {w : World} {g : Nat} {t : TypeId} {v : V4} (h : Row w g t (cells4 v)) : w.cell? ⟨g, 3, none⟩ = some (.int .u64 (un v.d)) := cell_of_row _ _ _ _ _ _ h
theorem Row.free {w : World} {g : Nat} {t : TypeId} {cs : Array Value} (h : Row w g t cs) (j : Nat) : w.frozen? ⟨g, j, none⟩ = false := frozen_of_row _ _ _ _ _ h

theorem round_any (g : Nat) (t : TypeId) (v : V4) (w : World) (h : Row w g t (cells4 v)) :
    Calls Tryd.prog 26 #[.pointer (some ⟨g, 0, none⟩)] w fun e w' => e = .returned (.tuple #[]) ∧ Only g w w' ∧ Row w' g t (cells4 v.round) := by
  have c0 : w.cell? ⟨g, 0, none⟩ = some (.int .u64 (un v.a)) := cell_of_row _ _ _ _ _ _ h
  have c1 : w.cell? ⟨g, 1, none⟩ = some (.int .u64 (un v.b)) := cell_of_row _ _ _ _ _ _ h
  have c2 : w.cell? ⟨g, 2, none⟩ = some (.int .u64 (un v.c)) := cell_of_row _ _ _ _ _ _ h
  have c3 : w.cell? ⟨g, 3, none⟩ = some (.int .u64 (un v.d)) := cell_of_row _ _ _ _ _ _ h
  have f0 : ∀ j, w.frozen? ⟨g, j, none⟩ = false := fun j => frozen_of_row _ _ _ _ _ h
  have H := Lib.hid h
  clear h
  go_enter Tryd.func26, Tryd.ntmps26
  go_wp2
  go_quiet (fail)
  go_wp2_with (go_at_call 34; refine (turn_any _ _ _).mono ?_; rintro e w' ⟨rfl, rfl⟩)
  go_end0
  exact ⟨rfl, (((((Only.refl g w).drewN nq).setCell 0 none _).setCell 1 none _).setCell 2 none _).setCell 3 none _,
    ((((H.out.drewN nq).set 0 _).set 1 _).set 2 _).set 3 _⟩

theorem repeat_any (n : Nat) (g : Nat) (t : TypeId) (v : V4) (w : World) (hn : n ≤ 100) (h : Row w g t (cells4 v)) :
    Calls Tryd.prog 29 #[.int .i64 n, .func (.func 26) #[.pointer (some ⟨g, 0, none⟩)] #[]] w fun e w' => e = .returned (.tuple #[]) ∧ Only g w w' ∧ Row w' g t (cells4 (rounds n v)) := by
  have H := Lib.hid h
  clear h
  go_enter Tryd.func29, Tryd.ntmps29
  go_wp2
  go_loopw [5] (fun i wr => ∃ k : Nat, k ≤ n ∧ i = .int .i64 k ∧ Only g w wr ∧ Row wr g t (cells4 (rounds k v))) (fun i _ => n - (intOf i).toNat)
  case atStart => exact ⟨0, Nat.zero_le _, rfl, Only.refl g w, H.out⟩
  case round =>
    obtain ⟨k, hk, rfl, ho, hr⟩ := hrel
    have HO := Lib.hid ho
    have HR := Lib.hid hr
    clear ho hr
    by_cases hlt : k < n
    · go_wp2_with (go_at_call 26; refine (round_any _ _ _ _ HR.out).mono ?_; rintro e w' ⟨rfl, ho, hr⟩)
      go_roundw
      case rel => exact ⟨k + 1, by omega, by go_num, HO.out.trans ho, hr⟩
      case measure => simp [intOf]; omega
    · obtain rfl : k = n := by omega
      go_wp2
      go_end0
      exact ⟨rfl, HO.out, HR.out⟩
end Go.Proofs.YtppkiponpjnkkaaDoor
