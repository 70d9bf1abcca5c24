/-
  The walk of the law BitsZeros. No conditions.
-/
import Derived.Test.YtnhbbdfjeaflcaaBp
namespace Go.Proofs.Ytnhbbdfjeaflcaa
open Go.RowKit
open M

def ones (l : List Bool) : Nat := (l.map Bool.toNat).sum
theorem ones_app (l : List Bool) (b : Bool) : ones (l ++ [b]) = ones l + b.toNat := by simp [ones]
theorem ones_zero (l : List Bool) : (ones l == 0) = allz l := by
  induction l with
  | nil => rfl
  | cons b l ih =>
    have e : ones (b :: l) = b.toNat + ones l := by simp [ones]
    rw [e]
    cases b
    · simpa [allz] using ih
    · simp [allz]
theorem ones_le (l : List Bool) : ones l ≤ l.length := by
  induction l with
  | nil => exact Nat.le_refl _
  | cons b l ih =>
    have e : ones (b :: l) = b.toNat + ones l := by simp [ones]
    have : b.toNat ≤ 1 := by cases b <;> decide
    rw [e, List.length_cons]; omega
theorem num_one (s : List UInt8) (a : Nat) : numOf (readB s a 1) = (sb s a).toNat := by
  simp [readB, numOf]

set_option maxHeartbeats 1000000 in
theorem zeros_big (s : ByteArray) (N : Nat) (w : World) (hs : 300 < s.size) (hm : s.size ≤ maxLen) :
    Calls Try.prog 8 #[.string s, .int .u8 N] w fun e w' => e = .returned (.bool true) ∧ Below w.heap.size w w' := by
  unfold maxLen at hm
  have hs' : (300 : Int) < (s.size : Int) := by omega
  go_enter Try.func8, Try.ntmps8
  go_wp2_with fail
  refine (awake_any _).mono ?_
  rintro e w1 ⟨rfl, hb⟩
  have HB := Lib.hid hb
  clear hb
  go_wp2_with fail
  refine (awake_any _).mono ?_
  rintro e w2 ⟨rfl, hb⟩
  have HB2 := Lib.hid (HB.out.trans (hb.mono HB.out.size))
  clear hb
  go_wp2
  go_ret
  exact ⟨rfl, HB2.out⟩

set_option maxHeartbeats 1000000 in
theorem zeros_walk (s : ByteArray) (N : Nat) (w : World) (hs : s.size ≤ 300) (hN : N < 256) :
    Calls Try.prog 8 #[.string s, .int .u8 N] w fun e w' => e = .returned (.bool true) ∧ Below w.heap.size w w' := by
  have hs1 : s.size ≤ 1099511627776 := by omega
  go_enter Try.func8, Try.ntmps8
  go_wp2_with fail
  refine (awake_any _).mono ?_
  rintro e w1 ⟨rfl, hb⟩
  have HB := Lib.hid hb
  clear hb
  go_wp2_with fail
  refine (new_any s _).mono ?_
  rintro e w2 ⟨rfl, hb, hr⟩
  have HB2 := Lib.hid (HB.out.trans (hb.mono HB.out.size))
  have hg : w.heap.size ≤ w1.heap.size := HB.out.size
  generalize w1.heap.size = g at *
  have HR2 := Lib.hid hr
  clear hb hr HB
  by_cases hmin : (N : Int) % 57 ≤ 8 * (s.size : Int)
  · obtain ⟨t, ht⟩ : ∃ t : Nat, N % 57 = t := ⟨_, rfl⟩
    have ht56 : t ≤ 56 := by omega
    have ht8 : t ≤ 8 * s.size := by omega
    have hti : (N : Int) % 57 = (t : Int) := by omega
    clear ht
    go_wp2_with fail
    refine (left_rd s 0 g _ hs1 (by omega) HR2.out).mono ?_
    rintro e w3 ⟨rfl, m3, rfl⟩
    go_wp2_with fail
    refine (get_ok t s 0 g _ ht56 hs1 (by omega) (HR2.out.drewN m3)).mono ?_
    rintro e w4 ⟨rfl, ho, hr⟩
    have HR4 := Lib.hid hr
    have HB4 := Lib.hid ((Below.drewN HB2.out m3).trans (ho.below hg))
    clear ho hr
    rw [Nat.zero_add] at HR4
    clear HB2 HR2
    go_wp2_with fail
    refine (zeros_rd s t g _ hs1 (by omega) HR4.out).mono ?_
    rintro e w5 ⟨rfl, hb⟩
    have HR5 : Hid (Rd w5 g s t) := HR4.out.box hb
    have HB5 := Lib.hid (HB4.out.trans (hb.mono HB4.out.size))
    clear hb HR4 HB4
    go_wp2_with fail
    refine (left_rd s t g _ hs1 (by omega) HR5.out).mono ?_
    rintro e w6 ⟨rfl, m6, rfl⟩
    go_wp2
    go_loopw [8] (fun v wr => ∃ j : Nat, t + j ≤ 8 * s.size ∧ v = .int .i64 (ones (readB (bl s) t j) : Nat) ∧ Rd wr g s (t + j) ∧ Below w.heap.size w wr) (fun _ wr => match wr.cell? ⟨g, 1, none⟩ with | some (.int _ n) => 8 * s.size - n.toNat | _ => 0)
    case atStart => exact ⟨0, by omega, rfl, HR5.out.drewN m6, Below.drewN HB5.out m6⟩
    case round =>
      clear HR5 HB5
      obtain ⟨j, hj, rfl, hr, hb⟩ := hrel
      have HR := Lib.hid hr
      have HB := Lib.hid hb
      have hme : (match wr.cell? ⟨g, 1, none⟩ with | some (.int _ n) => 8 * s.size - n.toNat | _ => 0) = 8 * s.size - (t + j) := by rw [hr.c1]; simp; omega
      have HME := Lib.hid hme
      clear hr hb hme
      have hon : ones (readB (bl s) t j) ≤ 2400 := Nat.le_trans (ones_le _) (by rw [readB_length]; omega)
      go_wp2_with fail
      refine (left_rd s (t + j) g _ hs1 hj HR.out).mono ?_
      rintro e w7 ⟨rfl, m7, rfl⟩
      by_cases hlt : t + j < 8 * s.size
      · go_wp2_with fail
        refine (get_ok 1 s (t + j) g _ (by decide) hs1 (by omega) (HR.out.drewN m7)).mono ?_
        rintro e w8 ⟨rfl, ho, hr⟩
        rw [num_one]
        have HR8 := Lib.hid hr
        have HB8 := Lib.hid ((Below.drewN HB.out m7).trans (ho.below hg))
        have HME2 : Hid ((match w8.cell? ⟨g, 1, none⟩ with | some (.int _ n) => 8 * s.size - n.toNat | _ => 0) = 8 * s.size - (t + j + 1)) := by unfold Hid; rw [hr.c1]; simp; omega
        have hbt : (sb (bl s) (t + j)).toNat ≤ 1 := by cases sb (bl s) (t + j) <;> decide
        have HON : Hid (ones (readB (bl s) t (j + 1)) = ones (readB (bl s) t j) + (sb (bl s) (t + j)).toNat) := by unfold Hid; rw [readB_succ, ones_app]
        clear ho hr
        go_wp2
        go_roundw
        case rel => exact ⟨j + 1, by omega, by rw [HON.out]; rfl, HR8.out, HB8.out⟩
        case measure => rw [HME.out, HME2.out]; omega
      · obtain rfl : j = 8 * s.size - t := by omega
        have hz : allz (readB (bl s) t (8 * s.size - t)) = (((ones (readB (bl s) t (8 * s.size - t)) : Nat) : Int) == 0) := by
          rw [← ones_zero]
          cases h : ones (readB (bl s) t (8 * s.size - t)) == 0
          · rw [beq_eq_false_iff_ne] at h
            symm
            rw [beq_eq_false_iff_ne]
            omega
          · rw [beq_iff_eq] at h
            rw [h]; rfl
        go_wp2_with fail
        refine (zeros_rd s (t + (8 * s.size - t)) g _ hs1 (by omega) (HR.out.drewN m7)).mono ?_
        rintro e w9 ⟨rfl, hb⟩
        have HB9 := Lib.hid ((Below.drewN HB.out m7).trans (hb.mono (Below.drewN HB.out m7).size))
        clear hb
        rw [show 8 * s.size - (t + (8 * s.size - t)) = 0 by omega, show allz (readB (bl s) (t + (8 * s.size - t)) 0) = true from rfl]
        go_wp2
        go_ret
        exact ⟨rfl, HB9.out⟩
  · obtain ⟨t, ht⟩ : ∃ t : Nat, 8 * s.size = t := ⟨_, rfl⟩
    have ht56 : t ≤ 56 := by omega
    have ht8 : t ≤ 8 * s.size := by omega
    have hmin2 : 8 * (s.size : Int) < (N : Int) % 57 := by omega
    go_wp2_with fail
    refine (left_rd s 0 g _ hs1 (by omega) HR2.out).mono ?_
    rintro e w3 ⟨rfl, m3, rfl⟩
    go_wp2_with fail
    refine (get_ok t s 0 g _ ht56 hs1 (by omega) (HR2.out.drewN m3)).mono ?_
    rintro e w4 ⟨rfl, ho, hr⟩
    have HR4 := Lib.hid hr
    have HB4 := Lib.hid ((Below.drewN HB2.out m3).trans (ho.below hg))
    clear ho hr
    rw [Nat.zero_add] at HR4
    clear HB2 HR2
    go_wp2_with fail
    refine (zeros_rd s t g _ hs1 (by omega) HR4.out).mono ?_
    rintro e w5 ⟨rfl, hb⟩
    have HR5 : Hid (Rd w5 g s t) := HR4.out.box hb
    have HB5 := Lib.hid (HB4.out.trans (hb.mono HB4.out.size))
    clear hb HR4 HB4
    go_wp2_with fail
    refine (left_rd s t g _ hs1 (by omega) HR5.out).mono ?_
    rintro e w6 ⟨rfl, m6, rfl⟩
    go_wp2
    go_loopw [8] (fun v wr => ∃ j : Nat, t + j ≤ 8 * s.size ∧ v = .int .i64 (ones (readB (bl s) t j) : Nat) ∧ Rd wr g s (t + j) ∧ Below w.heap.size w wr) (fun _ wr => match wr.cell? ⟨g, 1, none⟩ with | some (.int _ n) => 8 * s.size - n.toNat | _ => 0)
    case atStart => exact ⟨0, by omega, rfl, HR5.out.drewN m6, Below.drewN HB5.out m6⟩
    case round =>
      clear HR5 HB5
      obtain ⟨j, hj, rfl, hr, hb⟩ := hrel
      have HR := Lib.hid hr
      have HB := Lib.hid hb
      have hme : (match wr.cell? ⟨g, 1, none⟩ with | some (.int _ n) => 8 * s.size - n.toNat | _ => 0) = 8 * s.size - (t + j) := by rw [hr.c1]; simp; omega
      have HME := Lib.hid hme
      clear hr hb hme
      have hon : ones (readB (bl s) t j) ≤ 2400 := Nat.le_trans (ones_le _) (by rw [readB_length]; omega)
      go_wp2_with fail
      refine (left_rd s (t + j) g _ hs1 hj HR.out).mono ?_
      rintro e w7 ⟨rfl, m7, rfl⟩
      by_cases hlt : t + j < 8 * s.size
      · exfalso; omega
      · obtain rfl : j = 8 * s.size - t := by omega
        have hz : allz (readB (bl s) t (8 * s.size - t)) = (((ones (readB (bl s) t (8 * s.size - t)) : Nat) : Int) == 0) := by
          rw [← ones_zero]
          cases h : ones (readB (bl s) t (8 * s.size - t)) == 0
          · rw [beq_eq_false_iff_ne] at h
            symm
            rw [beq_eq_false_iff_ne]
            omega
          · rw [beq_iff_eq] at h
            rw [h]; rfl
        go_wp2_with fail
        refine (zeros_rd s (t + (8 * s.size - t)) g _ hs1 (by omega) (HR.out.drewN m7)).mono ?_
        rintro e w9 ⟨rfl, hb⟩
        have HB9 := Lib.hid ((Below.drewN HB.out m7).trans (hb.mono (Below.drewN HB.out m7).size))
        clear hb
        rw [show 8 * s.size - (t + (8 * s.size - t)) = 0 by omega, show allz (readB (bl s) (t + (8 * s.size - t)) 0) = true from rfl]
        go_wp2
        go_ret
        exact ⟨rfl, HB9.out⟩
theorem zeros_law (s : ByteArray) (N : Nat) (w : World) (hm : s.size ≤ maxLen) (hN : N < 256) :
    Calls Try.prog 8 #[.string s, .int .u8 N] w fun e w' => e = .returned (.bool true) ∧ Below w.heap.size w w' := by
  by_cases h : s.size ≤ 300
  · exact zeros_walk s N w h hN
  · exact zeros_big s N w (by omega) hm
end Go.Proofs.Ytnhbbdfjeaflcaa
