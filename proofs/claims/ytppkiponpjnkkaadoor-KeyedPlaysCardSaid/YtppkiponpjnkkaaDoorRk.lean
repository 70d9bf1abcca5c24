/-
  The contracts of the reference's Frame, Bit and Num of layer 2. Conditions: a bit's number is 60 at most.
-/
import Derived.Test.YtppkiponpjnkkaaDoorRs
import Derived.Test.YtppkiponpjnkkaaDoorKc
namespace Go.Proofs.YtppkiponpjnkkaaDoor
open Go.RowKit
open M
attribute [local go_sem] un_add un_sub un_xor un_or un_nonneg un_beq un_bne

theorem refFrame_any (f : Int) (w : World) :
    Calls Tryd.prog 13 #[.int .i64 f] w fun e w' => e = .returned (.int .i64 (fr f : Nat)) ∧ w = w' := by
  have b1 : -1016 < f.tmod 1016 := by
    rcases Int.le_total 0 f with h | h
    · have := Int.tmod_nonneg 1016 h; omega
    · have h3 := Int.tmod_lt_of_pos (-f) (show (0 : Int) < 1016 by decide)
      rw [Int.neg_tmod] at h3; omega
  have b2 := Int.tmod_lt_of_pos f (show (0 : Int) < 1016 by decide)
  have he : f.tmod 1016 = f % 1016 ∨ f.tmod 1016 < 0 ∧ f.tmod 1016 + 1016 = f % 1016 := by
    rcases Int.le_total 0 f with h | h
    · exact Or.inl (Int.tmod_eq_emod_of_nonneg h)
    · have e : f.tmod 1016 = -((-f) % 1016) := by rw [← Int.tmod_eq_emod_of_nonneg (show 0 ≤ -f by omega), Int.neg_tmod, Int.neg_neg]
      omega
  have HE := Lib.hid he
  clear he
  have HF := Lib.hid (fr_int f)
  by_cases h0 : f.tmod 1016 < 0
  · go_enter Tryd.func13, Tryd.ntmps13
    go_wp2
    go_ret
    exact ⟨ret_eq (by rw [HF.out]; have := HE.out; omega), rfl⟩
  · go_enter Tryd.func13, Tryd.ntmps13
    go_wp2
    go_ret
    exact ⟨ret_eq (by rw [HF.out]; have := HE.out; omega), rfl⟩

/-- A word without its lowest bits. -/
def shr (x : BitVec 64) (i : Nat) : BitVec 64 := BitVec.ofNat 64 (x.toNat / 2 ^ i)
theorem un_shr (x : BitVec 64) (i : Nat) : un (shr x i) = (x.toNat / 2 ^ i : Nat) := by
  have : x.toNat / 2 ^ i < 18446744073709551616 := Nat.lt_of_le_of_lt (Nat.div_le_self _ _) x.isLt
  unfold shr; exact un_lit _ this
theorem shr_zero (x : BitVec 64) : shr x 0 = x := un_inj.1 (by rw [un_shr, Nat.pow_zero, Nat.div_one]; rfl)
theorem shr_half (x : BitVec 64) (i : Nat) : IntKind.u64.wrap ((un (shr x i)).tdiv 2) = un (shr x (i + 1)) := by
  have h := un_bd (shr x i)
  rw [Int.tdiv_eq_ediv_of_nonneg h.1, IntKind.wrap_u64]
  rw [un_shr] at h ⊢
  rw [un_shr, Nat.pow_succ, ← Nat.div_div_eq_div_mul]; omega
/-- A word's bit, as a number. -/
def bitI (x : BitVec 64) (i : Nat) : Int := if bitB x i then 1 else 0
theorem bitI_bd (x : BitVec 64) (i : Nat) : 0 ≤ bitI x i ∧ bitI x i ≤ 1 := by unfold bitI; cases bitB x i <;> simp
theorem shr_bit (x : BitVec 64) (i : Nat) : un (shr x i) % 2 = bitI x i := by
  rw [un_shr]; unfold bitI bitB
  by_cases h : x.toNat / 2 ^ i % 2 = 1
  · rw [show (x.toNat / 2 ^ i % 2 == 1) = true by rw [h]; rfl, if_pos rfl]; omega
  · have h0 : x.toNat / 2 ^ i % 2 = 0 := by omega
    rw [show (x.toNat / 2 ^ i % 2 == 1) = false by rw [h0]; rfl, if_neg (by decide)]; omega

theorem refBit_any (x : BitVec 64) (i : Nat) (w : World) (hi : i ≤ 60) :
    Calls Tryd.prog 23 #[.int .u64 (un x), .int .i64 i] w fun e w' => e = .returned (.int .i64 (bitI x i)) ∧ w = w' := by
  have HZ := Lib.hid (shr_zero x)
  go_enter Tryd.func23, Tryd.ntmps23
  go_wp2
  go_loop [0, 5] (fun v n => ∃ j : Nat, j ≤ i ∧ n = .int .i64 j ∧ v = .int .u64 (un (shr x j))) (fun _ n => i - (intOf n).toNat)
  case atStart => exact ⟨0, Nat.zero_le _, rfl, by rw [HZ.out]⟩
  case round =>
    obtain ⟨j, hj, rfl, rfl⟩ := hrel
    by_cases hlt : j < i
    · have HH := Lib.hid (shr_half x j)
      go_wp2
      go_round
      case rel => exact ⟨j + 1, by omega, by go_num, by rw [HH.out]⟩
      case measure => simp [intOf]; omega
    · obtain rfl : i = j := by omega
      have HB := Lib.hid (shr_bit x i)
      have hb := un_bd (shr x i)
      obtain ⟨y, hy⟩ : ∃ y, shr x i = y := ⟨_, rfl⟩
      rw [hy] at HB hb ⊢
      clear hy
      go_wp2
      go_ret
      exact ⟨ret_eq (by rw [← HB.out]), rfl⟩
end Go.Proofs.YtppkiponpjnkkaaDoor
