/-
  The contract of Words, and the walk of the law SipWords.
-/
import Derived.Test.YtplbmebhpjpnfaaDoorFr
import Derived.Deep.OwnRows
namespace Go.Proofs.YtplbmebhpjpnfaaDoor
open Go.RowKit
open M
attribute [local go_sem] un_add un_sub un_xor un_or un_nonneg un_beq un_bne

def wordCells (s : List UInt8) (j : Nat) : Array Value := ((List.range (s.length / 8 + 1)).map fun i => if i < j then Value.int .u64 (un (wordAt s i)) else .int .u64 0).toArray
theorem wordCells_get (s : List UInt8) (j i : Nat) (hi : i < s.length / 8 + 1) : (wordCells s j)[i]? = some (if i < j then Value.int .u64 (un (wordAt s i)) else .int .u64 0) := by
  simp [wordCells, hi]
theorem wordCells_size (s : List UInt8) (j : Nat) : (wordCells s j).size = s.length / 8 + 1 := by simp [wordCells]
theorem wordCells_set (s : List UInt8) (j : Nat) : (wordCells s j).setIfInBounds j (.int .u64 (un (wordAt s j))) = wordCells s (j + 1) := by
  apply Array.ext_getElem?
  intro i
  rcases Nat.lt_or_ge i (s.length / 8 + 1) with hi | hi
  · rw [wordCells_get s (j + 1) i hi]
    by_cases e : j = i
    · subst e
      rw [Array.getElem?_setIfInBounds_self_of_lt (by rw [wordCells_size]; exact hi)]
      simp
    · rw [Array.getElem?_setIfInBounds_ne e, wordCells_get s j i hi]
      have : (i < j + 1) = (i < j) := by simp; omega
      simp only [this]
  · rw [Array.getElem?_eq_none (by simp [wordCells_size]; omega), Array.getElem?_eq_none (by rw [wordCells_size]; exact hi)]
theorem wordCells_zero (s : List UInt8) : madeCells #[.int .u64 0] (s.length / 8 + 1) = wordCells s 0 := by
  apply Array.ext_getElem?
  intro i
  rcases Nat.lt_or_ge i (s.length / 8 + 1) with hi | hi
  · rw [wordCells_get s 0 i hi]
    have hm : i < (madeCells #[Value.int .u64 0] (s.length / 8 + 1)).size := by rw [size_madeCells]; exact hi
    rw [Array.getElem?_eq_getElem hm]
    simp [madeCells, Nat.mod_one]
  · rw [Array.getElem?_eq_none (by rw [size_madeCells]; exact hi), Array.getElem?_eq_none (by rw [wordCells_size]; exact hi)]

theorem word_info : (Tryd.prog.info? 27).map (fun i => (i.zero, i.size, i.bytes)) = some (some (.int .u64 0), 1, 8) := by kernel_rfl

set_option maxHeartbeats 400000 in
theorem words_any (s : ByteArray) (w : World) (hs : s.size ≤ 140737488351232) :
    Calls Tryd.prog 10 #[.string s] w fun e w' => e = .returned (.slice (some ⟨w.heap.size, 0, none⟩) (s.size / 8 + 1) (s.size / 8 + 1)) ∧
      Row w' w.heap.size 27 (wordCells (bl s) (s.size / 8 + 1)) ∧ Below w.heap.size w w' := by
  have hmk := run_make_row' (P := Tryd.prog) 25 27 (.int .u64 0) 8 Tryd.underlying25 word_info rfl .i64 .i64 (s.size / 8 + 1) (by omega) (by omega)
  rw [show ((s.size / 8 + 1 : Nat) : Int) = (s.size : Int) / 8 + 1 by omega] at hmk
  have HZ := Lib.hid (wordCells_zero (bl s))
  have HN := Lib.hid (bl_length s)
  have hm : s.size ≤ maxLen := by unfold maxLen; omega
  go_enter Tryd.func10, Tryd.ntmps10
  go_wp2_with (go_at_call 20; refine (count_any s _ hm).mono ?_; rintro e w' ⟨rfl, rfl⟩)
  go_loopw [10] (fun i wr => ∃ j : Nat, j ≤ s.size / 8 + 1 ∧ i = .int .i64 j ∧ Row wr w.heap.size 27 (wordCells (bl s) j) ∧ Below w.heap.size w wr) (fun i _ => s.size / 8 + 1 - (intOf i).toNat)
  case atStart => exact ⟨0, Nat.zero_le _, rfl, by rw [← HZ.out, HN.out]; exact heap_alloc_new _ _, (Below.refl _ _).alloc (Nat.le_refl _) _⟩
  case round =>
    clear hmk
    obtain ⟨j, hj, rfl, hr, hb⟩ := hrel
    have HR := Lib.hid hr
    have HB := Lib.hid hb
    by_cases hlt : j < s.size / 8 + 1
    · have f0 := hr.free j
      obtain ⟨u0, c0⟩ : ∃ u, wr.cell? ⟨w.heap.size, j, none⟩ = some u := ⟨_, (cell_of_row _ _ _ _ _ _ hr).trans (wordCells_get _ _ j (by rw [HN.out]; exact hlt))⟩
      have HS := Lib.hid (wordCells_set (bl s) j)
      clear hr hb
      go_wp2_with (go_at_call 21; refine (wordAt_any s j _ hm hlt).mono ?_; rintro e w' ⟨rfl, rfl⟩)
      go_roundw
      case rel => exact ⟨j + 1, by omega, by go_num, by rw [← HS.out]; exact HR.out.set j _, HB.out.setCell (p := ⟨w.heap.size, j, none⟩) (Nat.le_refl _) _⟩
      case measure => simp [intOf]; omega
    · obtain rfl : j = s.size / 8 + 1 := by omega
      clear hr hb
      go_wp2
      go_ret
      exact ⟨rfl, HR.out, HB.out⟩
end Go.Proofs.YtplbmebhpjpnfaaDoor
