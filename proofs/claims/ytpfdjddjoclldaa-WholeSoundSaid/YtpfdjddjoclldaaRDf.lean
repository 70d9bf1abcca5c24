/-
  dct's wheel: two points' crossing undone. Conditions: a wheel of 16 points, points' numbers below 16, numbers up to 2^40.
-/
import Derived.Test.YtpfdjddjoclldaaRDd
import Derived.Test.YtpfdjddjoclldaaRM2
import Derived.Test.YtpfdjddjoclldaaREr
namespace Go.Proofs.Ytpfdjddjoclldaa
open Go.RowKit
open M
set_option maxRecDepth 100000 in
set_option maxHeartbeats 4000000 in
theorem wpart_any (l : List (Int × Int)) (i j : Nat) (k : Int) (g : Nat) (w : World) (h : WAt w g l) (hl : l.length = 16) (hi : i < 16) (hj : j < 16) (hne : i ≠ j) (hbi : Bd 8589934592 (l.getD i (0, 0))) (hbj : Bd 8589934592 (l.getD j (0, 0))) (hk1 : -9223372036854775808 ≤ k) (hk2 : k ≤ 9223372036854775807) :
    Calls Try.prog 46 #[.pointer (some ⟨g, 0, none⟩), .int .i64 i, .int .i64 j, .int .i64 k] w fun e w' => e = .returned (.tuple #[]) ∧ WAt w' g ((l.set i (ubz (l.getD i (0, 0)) (l.getD j (0, 0)) k)).set j (ubw (l.getD i (0, 0)) (l.getD j (0, 0)) k)) ∧ Below g w w' := by
  have hu := lfb_bd hbj (by omega) k
  have HBJ := Lib.hid (hbj.more (C := 1099511627776) (by omega))
  obtain ⟨u, hU⟩ : ∃ u, lfb (l.getD j (0, 0)) k = u := ⟨_, rfl⟩
  have HFIN := Lib.hid (crs_part l i j k hne u hU)
  rw [hU] at hu
  have HU := Lib.hid hU
  clear hU
  have hv1 : Bd 1099511627776 (u.1, (l.getD i (0, 0)).1) := ⟨by have := hu.a1; omega, by have := hu.a2; omega, by have := hbi.a1; omega, by have := hbi.a2; omega⟩
  have hv2 : Bd 1099511627776 (u.2, (l.getD i (0, 0)).2) := ⟨by have := hu.b1; omega, by have := hu.b2; omega, by have := hbi.b1; omega, by have := hbi.b2; omega⟩
  have HC : Hid (∀ (m : Nat) (w : World), m < 2 → Calls Try.prog 47 #[.int .i64 (co m u), .int .i64 (co m (l.getD i (0, 0))), .int .i64 64] w fun e w' =>
      e = .returned (.tuple #[.int .i64 (if m = 0 then (lfb (u.1, (l.getD i (0, 0)).1) 64).1 else (lfb (u.2, (l.getD i (0, 0)).2) 64).1), .int .i64 (if m = 0 then (lfb (u.1, (l.getD i (0, 0)).1) 64).2 else (lfb (u.2, (l.getD i (0, 0)).2) 64).2)]) ∧ Below w.heap.size w w') := by
    intro m w hm
    have : m = 0 ∨ m = 1 := by omega
    rcases this with rfl | rfl
    · exact back_in _ 64 w hv1 (by omega) (by omega)
    · exact back_in _ 64 w hv2 (by omega) (by omega)
  clear hv1 hv2 hbi hbj hu
  obtain ⟨P, hP⟩ : ∃ P, lfb (u.1, (l.getD i (0, 0)).1) 64 = P := ⟨_, rfl⟩
  obtain ⟨Q, hQ⟩ : ∃ Q, lfb (u.2, (l.getD i (0, 0)).2) 64 = Q := ⟨_, rfl⟩
  rw [hP, hQ] at HC HFIN
  clear hP hQ
  have HL0 := Lib.hid hl
  have HR0 := Lib.hid h
  clear hl h
  go_enter Try.func46, Try.ntmps46
  go_wp2_with fail
  refine (back_any l j k g _ HR0.out HL0.out hj HBJ.out hk1 hk2).mono ?_
  rintro e w1 ⟨rfl, h1, h2⟩
  rw [HU.out] at h1
  have e1 : l.getD i (0, 0) = (l.set j u).getD i (0, 0) := (getD_set_far _ _ _ _ _ (Ne.symm hne)).symm
  have e2 : u = (l.set j u).getD j (0, 0) := (getD_set_self _ _ _ _ (by rw [HL0.out]; exact hj)).symm
  have HL : Hid ((l.set j u).length = 16) := by unfold Hid; rw [List.length_set]; exact HL0.out
  have HC2 : Hid (∀ (m : Nat) (w : World), m < 2 → Calls Try.prog 47 #[.int .i64 (co m ((l.set j u).getD j (0, 0))), .int .i64 (co m ((l.set j u).getD i (0, 0))), .int .i64 64] w fun e w' =>
      e = .returned (.tuple #[.int .i64 (if m = 0 then P.1 else Q.1), .int .i64 (if m = 0 then P.2 else Q.2)]) ∧ Below w.heap.size w w') := by
    rw [← e1, ← e2]; exact HC.out
  clear HC e1 e2 HU HBJ
  obtain ⟨L, hL⟩ : ∃ L, l.set j u = L := ⟨_, rfl⟩
  rw [hL] at h1 HL HC2 HFIN
  clear hL
  have HC := HC2
  clear HC2
  have HR1 := Lib.hid h1
  have HB1 := Lib.hid h2
  clear h1 h2 HR0 HL0
  go_wp2
  go_loopw [13] (fun ii wr => ∃ m : Nat, m ≤ 2 ∧ ii = .int .i64 m ∧ WAt wr g (crs L i j P Q m) ∧ Below g w wr) (fun ii _ => 2 - (intOf ii).toNat)
  case atStart => exact ⟨0, by omega, rfl, HR1.out, HB1.out⟩
  case round =>
    clear HR1 HB1
    obtain ⟨m, hm, rfl, h1, h2⟩ := hrel
    have HR := Lib.hid h1
    have HB := Lib.hid h2
    have HG := Lib.hid (Row.lt h1)
    clear h1 h2
    rcases Nat.lt_or_ge m 2 with hlt | hge
    · obtain ⟨e1, e2⟩ := crs_at L i j P Q m (by rw [HL.out]; exact hi) (by rw [HL.out]; exact hj) hne hlt
      have c0 := HR.out.cell (i * 2 + m) (by rw [crs_len, HL.out]; omega)
      have c1 := HR.out.cell (j * 2 + m) (by rw [crs_len, HL.out]; omega)
      rw [e1] at c0
      rw [e2] at c1
      clear e1 e2 hm
      have hT := fun w => HC.out m w hlt
      have HS1 := Lib.hid (crs_one L i j P Q m (by rw [HL.out]; exact hi) hne hlt)
      have HS2 := Lib.hid (crm_one L i j P Q m (by rw [HL.out]; exact hj) hne hlt)
      obtain ⟨x, hx⟩ : ∃ x, co m (L.getD j (0, 0)) = x := ⟨_, rfl⟩
      obtain ⟨y, hy⟩ : ∃ y, co m (L.getD i (0, 0)) = y := ⟨_, rfl⟩
      obtain ⟨p, hp⟩ : ∃ p, (if m = 0 then P.1 else Q.1) = p := ⟨_, rfl⟩
      obtain ⟨q, hq⟩ : ∃ q, (if m = 0 then P.2 else Q.2) = q := ⟨_, rfl⟩
      rw [hx] at c1
      rw [hy] at c0
      rw [hp] at HS1
      rw [hq] at HS2
      simp only [hx, hy, hp, hq] at hT
      have HT := Lib.hid hT
      clear hx hy hp hq hT HC
      have hiI : (i : Int) < 16 := by omega
      have hjI : (j : Int) < 16 := by omega
      have hmI : (m : Int) < 2 := by omega
      have hst : i * 2 + m ≠ j * 2 + m := by omega
      have hts : j * 2 + m ≠ i * 2 + m := by omega
      go_wp2
      go_region_with (go_at_call_of 47 (Value.int .i64 y); refine (HT.out _).mono ?_; rintro e w1 ⟨rfl, hb1⟩; have HR1 := Lib.hid (HR.out.drew.call hb1); have d0 := HR1.out.cell (i * 2 + m) (by rw [crs_len, HL.out]; omega); have d1 := HR1.out.cell (j * 2 + m) (by rw [crs_len, HL.out]; omega); have f := fun i => Row.free HR1.out i; have HB1 := Lib.hid hb1; clear hb1 c0 c1)
      all_goals
        clear d0 d1 f
        go_wp2
        go_roundw
        case rel =>
          exact ⟨m + 1, hlt, by go_num, (HR1.out.set _ p HS1.out).set _ q HS2.out, HB.out.trans (below_two HG.out HB1.out _ _ _ _)⟩
        case measure =>
          simp only [intOf]
          omega
    · obtain rfl : m = 2 := by omega
      clear hm hge HC
      have h1 := HR.out
      rw [HFIN.out] at h1
      have HR1 := Lib.hid h1
      clear h1 HR
      go_wp2
      go_end0
      exact ⟨rfl, HR1.out, HB.out⟩
end Go.Proofs.Ytpfdjddjoclldaa
