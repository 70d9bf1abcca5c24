/-
  dct's wheel: two points crossed. Conditions: a wheel of 16 points, points' numbers below 16, numbers up to 2^40.
-/
import Derived.Test.YtpfdjddjoclldaaRDc
import Derived.Test.YtpfdjddjoclldaaRM2
import Derived.Test.YtpfdjddjoclldaaREr
namespace Go.Proofs.Ytpfdjddjoclldaa
open Go.RowKit
open M
set_option maxRecDepth 100000 in
set_option maxHeartbeats 4000000 in
theorem wmeet_any (l : List (Int × Int)) (i j : Nat) (k : Int) (g : Nat) (w : World) (h : WAt w g l) (hl : l.length = 16) (hi : i < 16) (hj : j < 16) (hne : i ≠ j) (hbi : Bd 8589934592 (l.getD i (0, 0))) (hbj : Bd 8589934592 (l.getD j (0, 0))) (hk1 : -9223372036854775808 ≤ k) (hk2 : k ≤ 9223372036854775807) :
    Calls Try.prog 43 #[.pointer (some ⟨g, 0, none⟩), .int .i64 i, .int .i64 j, .int .i64 k] w fun e w' => e = .returned (.tuple #[]) ∧ WAt w' g ((l.set i (bfz (l.getD i (0, 0)) (l.getD j (0, 0)))).set j (bfw (l.getD i (0, 0)) (l.getD j (0, 0)) k)) ∧ Below g w w' := by
  have HFIN := Lib.hid (crs_meet l i j k hne)
  have HBW : Hid (bfw (l.getD i (0, 0)) (l.getD j (0, 0)) k = lft ((lft ((l.getD i (0, 0)).1, (l.getD j (0, 0)).1) 64).1, (lft ((l.getD i (0, 0)).2, (l.getD j (0, 0)).2) 64).1) k) := rfl
  have hv1 : Bd 8589934592 ((l.getD i (0, 0)).1, (l.getD j (0, 0)).1) := ⟨hbi.a1, hbi.a2, hbj.a1, hbj.a2⟩
  have hv2 : Bd 8589934592 ((l.getD i (0, 0)).2, (l.getD j (0, 0)).2) := ⟨hbi.b1, hbi.b2, hbj.b1, hbj.b2⟩
  have hp := lft_bd hv1 (by omega) 64
  have hq := lft_bd hv2 (by omega) 64
  have HC : Hid (∀ (m : Nat) (w : World), m < 2 → Calls Try.prog 38 #[.int .i64 (co m (l.getD i (0, 0))), .int .i64 (co m (l.getD j (0, 0))), .int .i64 64] w fun e w' =>
      e = .returned (.tuple #[.int .i64 (if m = 0 then (lft ((l.getD i (0, 0)).1, (l.getD j (0, 0)).1) 64).1 else (lft ((l.getD i (0, 0)).2, (l.getD j (0, 0)).2) 64).1), .int .i64 (if m = 0 then (lft ((l.getD i (0, 0)).1, (l.getD j (0, 0)).1) 64).2 else (lft ((l.getD i (0, 0)).2, (l.getD j (0, 0)).2) 64).2)]) ∧ Below w.heap.size w w') := by
    intro m w hm
    have : m = 0 ∨ m = 1 := by omega
    rcases this with rfl | rfl
    · exact turn_in _ 64 w (hv1.more (by omega)) (by omega) (by omega)
    · exact turn_in _ 64 w (hv2.more (by omega)) (by omega) (by omega)
  clear hv1 hv2 hbi hbj
  obtain ⟨P, hP⟩ : ∃ P, lft ((l.getD i (0, 0)).1, (l.getD j (0, 0)).1) 64 = P := ⟨_, rfl⟩
  obtain ⟨Q, hQ⟩ : ∃ Q, lft ((l.getD i (0, 0)).2, (l.getD j (0, 0)).2) 64 = Q := ⟨_, rfl⟩
  rw [hP, hQ] at HC HFIN HBW
  rw [hP] at hp
  rw [hQ] at hq
  have hpq : Bd 1099511627776 (P.1, Q.1) := ⟨by have := hp.a1; omega, by have := hp.a2; omega, by have := hq.a1; omega, by have := hq.a2; omega⟩
  have HPQ := Lib.hid hpq
  clear hP hQ hp hq hpq
  have HL := Lib.hid hl
  have HR0 := Lib.hid h
  clear hl h
  go_enter Try.func43, Try.ntmps43
  go_wp2
  go_loopw [9] (fun ii wr => ∃ m : Nat, m ≤ 2 ∧ ii = .int .i64 m ∧ WAt wr g (crs l j i P Q m) ∧ Below g w wr) (fun ii _ => 2 - (intOf ii).toNat)
  case atStart => exact ⟨0, by omega, rfl, HR0.out, Below.refl _ _⟩
  case round =>
    clear HR0
    obtain ⟨m, hm, rfl, h1, h2⟩ := hrel
    have HR := Lib.hid h1
    have HB := Lib.hid h2
    have HG := Lib.hid (Row.lt h1)
    clear h1 h2
    rcases Nat.lt_or_ge m 2 with hlt | hge
    · obtain ⟨e1, e2⟩ := crs_at l j i P Q m (by rw [HL.out]; exact hj) (by rw [HL.out]; exact hi) (Ne.symm hne) hlt
      have c0 := HR.out.cell (j * 2 + m) (by rw [crs_len, HL.out]; omega)
      have c1 := HR.out.cell (i * 2 + m) (by rw [crs_len, HL.out]; omega)
      rw [e1] at c0
      rw [e2] at c1
      clear e1 e2 hm
      have hT := fun w => HC.out m w hlt
      have HS1 := Lib.hid (crs_one l j i P Q m (by rw [HL.out]; exact hj) (Ne.symm hne) hlt)
      have HS2 := Lib.hid (crm_one l j i P Q m (by rw [HL.out]; exact hi) (Ne.symm hne) hlt)
      obtain ⟨x, hx⟩ : ∃ x, co m (l.getD i (0, 0)) = x := ⟨_, rfl⟩
      obtain ⟨y, hy⟩ : ∃ y, co m (l.getD j (0, 0)) = y := ⟨_, rfl⟩
      obtain ⟨p, hp⟩ : ∃ p, (if m = 0 then P.1 else Q.1) = p := ⟨_, rfl⟩
      obtain ⟨q, hq⟩ : ∃ q, (if m = 0 then P.2 else Q.2) = q := ⟨_, rfl⟩
      rw [hx] at c1
      rw [hy] at c0
      rw [hp] at HS1
      rw [hq] at HS2
      simp only [hx, hy, hp, hq] at hT
      have HT := Lib.hid hT
      clear hx hy hp hq hT HC
      have hiI : (i : Int) < 16 := by omega
      have hjI : (j : Int) < 16 := by omega
      have hmI : (m : Int) < 2 := by omega
      have hst : j * 2 + m ≠ i * 2 + m := by omega
      have hts : i * 2 + m ≠ j * 2 + m := by omega
      go_wp2
      go_region_with (go_at_call_of 38 (Value.int .i64 y); refine (HT.out _).mono ?_; rintro e w1 ⟨rfl, hb1⟩; have HR1 := Lib.hid (HR.out.drew.call hb1); have d0 := HR1.out.cell (j * 2 + m) (by rw [crs_len, HL.out]; omega); have d1 := HR1.out.cell (i * 2 + m) (by rw [crs_len, HL.out]; omega); have f := fun i => Row.free HR1.out i; have HB1 := Lib.hid hb1; clear hb1 c0 c1)
      all_goals
        clear d0 d1 f
        go_wp2
        go_roundw
        case rel =>
          exact ⟨m + 1, hlt, by go_num, (HR1.out.set _ p HS1.out).set _ q HS2.out, HB.out.trans (below_two HG.out HB1.out _ _ _ _)⟩
        case measure =>
          simp only [intOf]
          omega
    · obtain rfl : m = 2 := by omega
      obtain ⟨e1, _⟩ := crs_two l j i P Q (by rw [HL.out]; exact hj) (by rw [HL.out]; exact hi) (Ne.symm hne)
      have HE := Lib.hid e1
      clear hm hge e1 HC
      go_wp2_with fail
      refine (forth_any _ j k g _ HR.out (by rw [crs_len, HL.out]) hj (by rw [HE.out]; exact HPQ.out) hk1 hk2).mono ?_
      rintro e w1 ⟨rfl, h1, h2⟩
      rw [HE.out, ← HBW.out, HFIN.out] at h1
      have HR1 := Lib.hid h1
      have HB1 := Lib.hid h2
      clear h1 h2
      go_wp2
      go_end0
      exact ⟨rfl, HR1.out, HB.out.trans HB1.out⟩
end Go.Proofs.Ytpfdjddjoclldaa
