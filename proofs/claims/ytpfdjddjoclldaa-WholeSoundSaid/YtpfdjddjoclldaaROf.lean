/-
  trig's Turn: any angle's cosine and sine. Conditions: an int.
-/
import Derived.Test.YtpfdjddjoclldaaROe
namespace Go.Proofs.Ytpfdjddjoclldaa
open Go.RowKit
open M
theorem and511 (k : Int) (h1 : -9223372036854775808 ≤ k) (h2 : k ≤ 9223372036854775807) : bits .and .i64 k 511 = (ang k : Nat) := by
  show IntKind.i64.wrap ((BitVec.ofInt 64 k &&& BitVec.ofInt 64 511).toNat : Int) = _
  rw [BitVec.toNat_and, show (BitVec.ofInt 64 511).toNat = 2 ^ 9 - 1 by decide, Nat.and_two_pow_sub_one_eq_mod, BitVec.toNat_ofInt, IntKind.wrap_i64]
  unfold ang
  omega
theorem qts_bd (p : Int × Int) (h : -1073741824 ≤ p.1 ∧ p.1 ≤ 1073741824 ∧ -1073741824 ≤ p.2 ∧ p.2 ≤ 1073741824) : ∀ n : Nat, -1073741824 ≤ (qts p n).1 ∧ (qts p n).1 ≤ 1073741824 ∧ -1073741824 ≤ (qts p n).2 ∧ (qts p n).2 ≤ 1073741824
  | 0 => h
  | n + 1 => by
    have ih := qts_bd p h n
    show -1073741824 ≤ -(qts p n).2 ∧ -(qts p n).2 ≤ 1073741824 ∧ -1073741824 ≤ (qts p n).1 ∧ (qts p n).1 ≤ 1073741824
    omega
set_option maxRecDepth 100000 in
theorem turn_any (k : Int) (w : World) (hk1 : -9223372036854775808 ≤ k) (hk2 : k ≤ 9223372036854775807) :
    Calls Try.prog 55 #[.int .i64 k] w fun e w' => e = .returned (.tuple #[.int .i64 (trg k).1, .int .i64 (trg k).2]) ∧ Below w.heap.size w w' := by
  have HA := Lib.hid (and511 k hk1 hk2)
  have hm := ang_lt k
  have HT : Hid (trg k = qts (tab8.getD (ang k % 128) (0, 0)) (ang k / 128)) := rfl
  obtain ⟨m, hmm⟩ : ∃ m, ang k = m := ⟨_, rfl⟩
  rw [hmm] at HA hm HT
  have HTC := Lib.hid (tab8_cs (m % 128) (by omega))
  have HPB := Lib.hid (csN_bd (m % 128) 7 (by omega) (by omega))
  clear hk1 hk2 hmm
  go_enter Try.func55, Try.ntmps55
  go_wp2_with fail
  refine (halves_any _).mono ?_
  rintro e w1 ⟨rfl, hb1⟩
  rw [HA.out]
  have HB1 := Lib.hid hb1
  clear hb1
  go_wp2_with fail
  rw [show ((m : Int) % 128) = ((m % 128 : Nat) : Int) by omega]
  refine (within_any (m % 128) _ (by omega)).mono ?_
  rintro e w2 ⟨rfl, hb2⟩
  have HB := Lib.hid (HB1.out.trans (hb2.mono HB1.out.size))
  clear hb2 HB1
  rw [HTC.out] at HT
  obtain ⟨P, hP⟩ : ∃ P, csN (m % 128) 7 = P := ⟨_, rfl⟩
  rw [hP] at HT HPB ⊢
  obtain ⟨t, ht⟩ : ∃ t, m / 128 = t := ⟨_, rfl⟩
  rw [ht] at HT
  have HQB := Lib.hid (qts_bd P HPB.out)
  clear hP HTC HA
  obtain ⟨x, y⟩ := P
  go_wp2
  go_loopw [4, 5, 17] (fun a b i wr => ∃ n : Nat, n ≤ t ∧ i = .int .i64 n ∧ a = .int .i64 (qts (x, y) n).1 ∧ b = .int .i64 (qts (x, y) n).2 ∧ Below w.heap.size w wr) (fun _ _ i _ => t - (intOf i).toNat)
  case atStart => exact ⟨0, Nat.zero_le _, rfl, rfl, rfl, HB.out⟩
  case round =>
    obtain ⟨n, hn, rfl, rfl, rfl, h3⟩ := hrel
    have HBR := Lib.hid h3
    have HQ := HQB.out n
    have HS1 : Hid ((qts (x, y) (n + 1)).1 = -(qts (x, y) n).2) := rfl
    have HS2 : Hid ((qts (x, y) (n + 1)).2 = (qts (x, y) n).1) := rfl
    obtain ⟨a, ha⟩ : ∃ a, (qts (x, y) n).1 = a := ⟨_, rfl⟩
    obtain ⟨b, hb⟩ : ∃ b, (qts (x, y) n).2 = b := ⟨_, rfl⟩
    rw [ha, hb] at HQ ⊢
    rw [hb] at HS1
    rw [ha] at HS2
    have HAA := Lib.hid ha
    have HBB := Lib.hid hb
    clear ha hb h3
    rcases Nat.lt_or_ge n t with hlt | hge
    · go_wp2
      go_roundw
      case rel => exact ⟨n + 1, hlt, by go_num, by rw [HS1.out], by rw [HS2.out], HBR.out⟩
      case measure => simp [intOf]; omega
    · obtain rfl : n = t := by omega
      go_wp2
      go_ret2
      refine ⟨?_, HBR.out⟩
      rw [HT.out, HAA.out, HBB.out]
      rfl
end Go.Proofs.Ytpfdjddjoclldaa
