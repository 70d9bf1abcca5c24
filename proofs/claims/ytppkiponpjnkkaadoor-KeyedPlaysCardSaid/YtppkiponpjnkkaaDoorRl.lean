/-
  The contract of the reference's Num of layer 2. No conditions.
-/
import Derived.Test.YtppkiponpjnkkaaDoorRk
namespace Go.Proofs.YtppkiponpjnkkaaDoor
open Go.RowKit
open M
attribute [local go_sem] un_add un_sub un_xor un_or un_nonneg un_beq un_bne

/-- The text of a sign and a word, as far as its loop has come. -/
def numP (sg : UInt8) (x : BitVec 64) (j : Nat) : List UInt8 := sg :: (bytes8 x).take j
theorem ofB_append (a b : List UInt8) : ofB a ++ ofB b = ofB (a ++ b) := bl_inj (by rw [bl_append]; rfl)
theorem numP_succ (sg : UInt8) (x : BitVec 64) (j : Nat) (h : j < 8) : ofB (numP sg x j) ++ ofB [byteN x j] = ofB (numP sg x (j + 1)) := by
  rw [ofB_append]
  refine cases8 (p := fun j => ofB (numP sg x j ++ [byteN x j]) = ofB (numP sg x (j + 1))) ?_ ?_ ?_ ?_ ?_ ?_ ?_ ?_ j h <;> rfl
theorem numP_done (sg : UInt8) (n : Int) : numP sg (cw n) 8 = numText sg n := rfl
theorem conv_one (W : World) (g : Nat) (b : UInt8) (t : TypeId) (hg : W.heap.size = g) :
    (convert 41 9 (.slice (some ⟨g, 0, none⟩) 1 1)).run Tryd.prog (W.alloc (.cells #[.int .u8 (ub b)] t)) = .ok (.string (ofB [b])) (W.alloc (.cells #[.int .u8 (ub b)] t)) := by
  subst hg
  exact run_conv _ W.heap.size 0 1 1 [b] rfl fun i hi => by
    obtain rfl : i = 0 := by simp at hi; omega
    exact cell_of_row _ _ _ _ _ _ (row_new W _ rfl #[.int .u8 (ub b)] t)
theorem shr_byte (x : BitVec 64) (j : Nat) : un (shr x (8 * j)) % 256 = ub (byteN x j) := by
  rw [un_shr]; unfold ub; rw [byteN_nat]; omega
theorem shr_quo (x : BitVec 64) (j : Nat) : un (shr x (8 * j)) / 256 = un (shr x (8 * (j + 1))) := by
  rw [un_shr, un_shr, show 8 * (j + 1) = 8 * j + 8 by omega, Nat.pow_add, ← Nat.div_div_eq_div_mul]; omega

set_option maxHeartbeats 1000000 in
theorem refNum_any (k : List UInt8) (sg : UInt8) (n : Int) (w : World) (hk : k.length = 16) :
    Calls Tryd.prog 12 #[.agg (byteCells k), .int .u8 (ub sg), .int .i64 n] w fun e w' => e = .returned (.int .u64 (un (num k sg n))) ∧ Below w.heap.size w w' := by
  have HI := Lib.hid (key_info k hk)
  have kc := conv_one (w.alloc (.cells (byteCells k) 23)) (w.heap.size + 1) sg 5 (by simp)
  have HZ := Lib.hid (shr_zero (cw n))
  have hcw := un_cw n
  go_enter Tryd.func12, Tryd.ntmps12
  go_wp2
  clear kc hcw
  go_loopw [7, 8, 9] (fun s y i wr => ∃ j : Nat, j ≤ 8 ∧ i = .int .i64 j ∧ y = .int .u64 (un (shr (cw n) (8 * j))) ∧ s = .string (ofB (numP sg (cw n) j)) ∧ Row wr w.heap.size 23 (byteCells k) ∧ Below w.heap.size w wr) (fun _ _ i _ => 8 - (intOf i).toNat)
  case atStart => exact ⟨0, Nat.zero_le _, rfl, by rw [Nat.mul_zero, HZ.out], rfl, heap_alloc2_old _ _ _, ((Below.refl _ _).alloc (Nat.le_refl _) _).alloc (by simp) _⟩
  case round =>
    obtain ⟨j, hj, rfl, rfl, rfl, hr, hb⟩ := hrel
    have HR := Lib.hid hr
    have HB := Lib.hid hb
    clear hr hb
    by_cases hlt : j < 8
    · have hy := un_bd (shr (cw n) (8 * j))
      have hy1 := shr_byte (cw n) j
      have hq := shr_quo (cw n) j
      have hbd := ub_bd (byteN (cw n) j)
      have HS := Lib.hid (numP_succ sg (cw n) j hlt)
      obtain ⟨y, hyy⟩ : ∃ y, shr (cw n) (8 * j) = y := ⟨_, rfl⟩
      obtain ⟨b, hbb⟩ : ∃ b, byteN (cw n) j = b := ⟨_, rfl⟩
      rw [hyy] at hy hy1 hq ⊢
      rw [hbb] at hy1 hbd HS
      have HQ := Lib.hid hq
      have kc := conv_one wr wr.heap.size b 5 rfl
      have hy2 : IntKind.u8.wrap (ub b) = ub b := by rw [IntKind.wrap_u8']; omega
      have hsz : ¬ 9223372036854775807 < (ofB (numP sg (cw n) j)).size + (ofB [b]).size := by
        rw [ofB_size, ofB_size]; have : (numP sg (cw n) j).length ≤ 9 := by simp [numP, bytes8]; omega
        simp only [List.length_singleton]; omega
      clear hyy hbb hq
      go_wp2
      go_roundw
      case rel => exact ⟨j + 1, by omega, by go_num, by rw [← HQ.out], by rw [← HS.out], HR.out.alloc _, HB.out.alloc HB.out.size _⟩
      case measure => simp [intOf]; omega
    · obtain rfl : j = 8 := by omega
      go_wp2_with (refine wpList_load_row rfl 23 (.tmp 3) rfl w.heap.size rfl 23 (byteCells k) (0, 0) _ HR.out Tryd.underlying23 rfl HI.out ?_)
      refine (refSum_any k (ofB (numP sg (cw n) 8)) _ hk (by rw [ofB_size]; show 9 ≤ _; omega)).mono ?_
      rintro e w1 ⟨rfl, hb⟩
      go_wp2
      go_ret
      exact ⟨rfl, HB.out.trans (hb.mono HB.out.size)⟩
end Go.Proofs.YtppkiponpjnkkaaDoor
