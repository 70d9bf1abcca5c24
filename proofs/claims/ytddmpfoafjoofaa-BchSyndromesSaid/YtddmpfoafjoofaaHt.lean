/-
  The contract of layer 5's reference At. Conditions: words have 127 bits; the other number is an element.
-/
import Derived.Test.YtddmpfoafjoofaaHd
import Derived.Test.YtddmpfoafjoofaaRm
namespace Go.Proofs.Ytddmpfoafjoofaa
open Go.RowKit
open M

theorem drop_wp (l : List Bool) (j : Nat) (h : j < l.length) : wp (l.drop j) = (l.getD j false).toNat :: wp (l.drop (j + 1)) := by
  rw [List.drop_eq_getElem_cons h, wp_cons, List.getD_eq_getElem?_getD, List.getElem?_eq_getElem h]; rfl
set_option maxRecDepth 100000 in
theorem at_ref (l : List Bool) (x : Nat) (w : World) (hl : l.length = 127) (hx : x < 128) :
    Calls Try.prog 18 #[.agg (boolCells l), .int .i64 x] w fun e w' => e = .returned (.int .i64 (ev x (wp l) : Nat)) ∧ Below w.heap.size w w' := by
  have HX0 : Hid (Row (w.alloc (.cells (boolCells l) 24)) w.heap.size 24 (boolCells l)) := heap_alloc_new _ _
  have HB0 : Hid (Below w.heap.size w (w.alloc (.cells (boolCells l) 24))) := (Below.refl _ _).alloc (Nat.le_refl _) _
  have HL := Lib.hid hl
  clear hl
  go_enter Try.func18, Try.ntmps18
  go_wp2
  generalize w.alloc (.cells (boolCells l) 24) = w1 at *
  go_loop [5, 6] (fun s i => ∃ k : Nat, k ≤ 127 ∧ i = .int .i64 ((k : Int) - 1) ∧ s = .int .i64 (ev x (wp (l.drop k)) : Nat)) (fun _ i => (intOf i + 1).toNat)
  case atStart => exact ⟨127, by omega, rfl, by rw [List.drop_of_length_le (by have := HL.out; omega)]; rfl⟩
  case round =>
    obtain ⟨k, hk, rfl, rfl⟩ := hrel
    cases k with
    | zero =>
      rw [show (((0 : Nat) : Int) - 1) = -1 from rfl]
      go_wp2
      go_ret
      exact ⟨rfl, HB0.out⟩
    | succ j =>
      rw [show (((j + 1 : Nat) : Int) - 1) = (j : Int) by omega]
      have c0 := word_at HX0.out j (by have := HL.out; omega)
      have HD := Lib.hid (drop_wp l j (by have := HL.out; omega))
      have hel := ev_lt x hx _ (wp_els (l.drop (j + 1)))
      obtain ⟨s, hs⟩ : ∃ s, ev x (wp (l.drop (j + 1))) = s := ⟨_, rfl⟩
      rw [hs] at hel ⊢
      have HS := Lib.hid hs
      have hmm := mul_lt s x hel hx
      obtain ⟨m, hm⟩ : ∃ m, mul s x = m := ⟨_, rfl⟩
      rw [hm] at hmm
      have HM : Hid (mul (el (s : Int)) (el (x : Int)) = m) := by unfold Hid; rw [el_nat s hel, el_nat x hx, hm]
      have HM2 := Lib.hid hm
      obtain ⟨b, hb⟩ : ∃ b, l.getD j false = b := ⟨_, rfl⟩
      rw [hb] at c0 HD
      have hxor : bits .xor .i64 (m : Int) 1 = ((m ^^^ 1 : Nat) : Int) := i64_xor_nat m 1 (by omega) (by omega)
      have hji : (j : Int) < 127 := by omega
      clear hb hs hm
      go_wp2_with fail
      refine (mul_ref _ _ _ ⟨by omega, by omega⟩ ⟨by omega, by omega⟩).mono ?_
      rintro e w' ⟨rfl, rfl⟩
      rw [HM.out]
      cases b
      · go_wp2
        go_round
        case rel =>
          refine ⟨j, by omega, by go_num, ?_⟩
          rw [HD.out]
          show _ = Value.int .i64 ((mul (ev x (wp (l.drop (j + 1)))) x ^^^ 0 : Nat) : Int)
          rw [HS.out, HM2.out, Nat.xor_zero]
        case measure => simp [intOf] <;> omega
      · go_wp2
        go_round
        case rel =>
          refine ⟨j, by omega, by go_num, ?_⟩
          rw [HD.out]
          show _ = Value.int .i64 ((mul (ev x (wp (l.drop (j + 1)))) x ^^^ 1 : Nat) : Int)
          rw [HS.out, HM2.out]
        case measure => simp [intOf] <;> omega
end Go.Proofs.Ytddmpfoafjoofaa
