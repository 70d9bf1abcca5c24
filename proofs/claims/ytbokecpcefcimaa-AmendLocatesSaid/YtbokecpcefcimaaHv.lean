/-
  The contract of layer 5's Generator. No conditions.
-/
import Derived.Test.YtbokecpcefcimaaHr
namespace Go.Proofs.Ytbokecpcefcimaa
open Go.RowKit
open M

/-- The product, as far as the loop has come. -/
def pk (k : Nat) : List Nat := (rts.take k).foldl tm [1]
theorem pk_succ (k : Nat) (h : k < 63) : pk (k + 1) = tm (pk k) (rts.getD k 0) := by
  have h2 : k < rts.length := by rw [rts_length]; exact h
  unfold pk
  rw [List.take_succ_eq_append_getElem h2, List.foldl_append, List.getD_eq_getElem?_getD, List.getElem?_eq_getElem h2]
  rfl
theorem pk_length (k : Nat) (h : k ≤ 63) : (pk k).length = k + 1 := by
  induction k with
  | zero => rfl
  | succ k ih => rw [pk_succ k (by omega), tm_length, ih (by omega)]
theorem rts_lt (k : Nat) : rts.getD k 0 < 128 := rts_els.getD k
theorem pk_els (k : Nat) (h : k ≤ 63) : Els (pk k) := by
  induction k with
  | zero => exact fun c hc => by simp [pk] at hc; omega
  | succ k ih => rw [pk_succ k (by omega)]; exact tm_els _ _ (rts_lt k) (ih (by omega))
theorem pk_gen : pk 63 = genT := by
  have : rts.take 63 = rts := List.take_of_length_le (by rw [rts_length]; exact Nat.le_refl _)
  unfold pk; rw [this]; exact rts_gen

set_option maxRecDepth 100000 in
set_option maxHeartbeats 1000000 in
theorem gen_any (w : World) :
    Calls Try.prog 27 #[] w fun e w' => ∃ g, w.heap.size ≤ g ∧ e = .returned (.slice (some ⟨g, 0, none⟩) 64 64) ∧ Row w' g 3 (natCells genT) ∧ Below w.heap.size w w' := by
  go_enter Try.func27, Try.ntmps27
  go_wp2_with fail
  refine (new_any _).mono ?_
  rintro e w1 ⟨rfl, hb, hf⟩
  have HB1 := Lib.hid hb
  have HF1 := Lib.hid hf
  clear hb hf
  go_wp2_with fail
  have HB2 : Hid (Below w.heap.size w (w1.alloc (.cells #[.int .i64 1] 3))) := HB1.out.alloc HB1.out.size _
  have HF2 : Hid (Fd (w1.alloc (.cells #[.int .i64 1] 3)) w.heap.size) := Row.alloc HF1.out _
  have HP2 : Hid (Row (w1.alloc (.cells #[.int .i64 1] 3)) w1.heap.size 3 (natCells (pk 0))) := heap_alloc_new _ _
  have hp := HB1.out.size
  clear HB1 HF1
  generalize w1.heap.size = b at *
  generalize w1.alloc (.cells #[.int .i64 1] 3) = w2 at *
  refine (roots_any _ _ HF2.out).mono ?_
  rintro e w3 ⟨v, rfl, hown, hb⟩
  have HB3 := Lib.hid (HB2.out.trans (hb.mono HB2.out.size))
  have HF3 := Lib.hid (Row.box HF2.out hb)
  have HP3 := Lib.hid (Row.box HP2.out hb)
  clear hb HB2 HF2 HP2
  obtain ⟨rg, rcap, rfl, hrg, hrl, hrc⟩ := own_cells hown (by omega)
  have HRC : Hid (∀ i, i < 63 → w3.cell? ⟨rg, i, none⟩ = some (.int .i64 (rts.getD i 0 : Nat))) := fun i hi => (hrc i hi).trans (vs_get rts i (by rw [rts_length]; exact hi))
  clear hown hrc hrg
  go_wp2
  go_loopw [3, 13] (fun v i wr => ∃ (k b : Nat), k ≤ 63 ∧ i = .int .i64 k ∧ v = .slice (some ⟨b, 0, none⟩) (k + 1) (k + 1) ∧ w.heap.size ≤ b ∧ Row wr b 3 (natCells (pk k)) ∧ Below w3.heap.size w3 wr) (fun _ i _ => 63 - (intOf i).toNat)
  case atStart => exact ⟨0, b, by omega, rfl, rfl, hp, HP3.out, Below.refl _ _⟩
  case round =>
    clear HP3 hp
    obtain ⟨k, b, hk, rfl, rfl, hp, hr, hb⟩ := hrel
    have HR := Lib.hid hr
    have HB := Lib.hid hb
    clear hr hb
    by_cases hlt : k < 63
    · have c0 : wr.cell? ⟨rg, k, none⟩ = some (.int .i64 (rts.getD k 0 : Nat)) := (HB.out.cell (p := ⟨rg, k, none⟩) hrl).trans (HRC.out k hlt)
      have ha := rts_lt k
      have HS := Lib.hid (pk_succ k hlt)
      have hl := pk_length k hk
      generalize rts.getD k 0 = a at *
      have HFR := Lib.hid (Row.below HF3.out HB.out HF3.out.lt)
      have hbl := Row.lt HR.out
      have HL := Lib.hid hl
      clear hl
      go_wp2_with fail
      have hT := tr_any (pk k) a w.heap.size b (k + 1) wr (pk_els k hk) ha (by have := HL.out; omega) (fun i hi => nat_at HR.out i hi) hbl HFR.out
      rw [HL.out] at hT
      refine hT.mono ?_
      rintro e w4 ⟨rfl, hr, hb⟩
      have HR4 := Lib.hid hr
      have HB4 := Lib.hid (HB.out.trans (hb.mono HB.out.size))
      have hs := HB.out.size
      have hs3 := HB3.out.size
      clear hr hb hT c0
      go_wp2
      go_roundw
      case rel => exact ⟨k + 1, _, by omega, by go_num, rfl, by omega, by rw [HS.out]; exact HR4.out, HB4.out⟩
      case measure => simp [intOf] <;> omega
    · obtain rfl : k = 63 := by omega
      have HE := Lib.hid pk_gen
      go_wp2
      go_ret
      exact ⟨b, hp, rfl, by rw [← HE.out]; exact HR.out, HB3.out.trans (HB.out.mono HB3.out.size)⟩
end Go.Proofs.Ytbokecpcefcimaa
