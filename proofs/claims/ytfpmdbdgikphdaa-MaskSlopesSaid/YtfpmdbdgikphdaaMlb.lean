/-
  mask's Budget. Conditions: eight ints.
-/
import Derived.Test.YtfpmdbdgikphdaaMla
namespace Go.Proofs.Ytfpmdbdgikphdaa
open Go.RowKit
open M
theorem mx17 (a b : Nat) (w : World) : (Builtin.max_ #[3, 3] 3 #[.int .i64 (a : Int), .int .i64 (b : Int)]).run Try.prog w = .ok (.int .i64 ((max a b : Nat) : Int)) w := by
  have e : (if (b : Int) > (a : Int) then (b : Int) else (a : Int)) = ((max a b : Nat) : Int) := by split <;> omega
  simp [Builtin.max_, Builtin.max2]
  try omega
theorem hb17_iff (l : List Int) (b : Int) : hb17 l b = true ↔ rt17 l = true ∧ 0 ≤ b ∧ b < 8 := by
  unfold hb17 isb17
  rw [Bool.and_eq_true, decide_eq_true_eq]
  exact ⟨fun h => ⟨h.2, h.1.1, h.1.2⟩, fun h => ⟨⟨h.2.1, h.2.2⟩, h.1⟩⟩
theorem bdI_no (l : List Int) (b : Int) (h : hb17 l b = false) : bdI l b = 0 := by
  unfold bdI
  rw [if_neg]
  intro g
  rw [(hb17_iff l b).2 g] at h
  cases h
theorem mvI_no (l : List Int) (b : Int) (h : hb17 l b = false) : mvI l b = 0 := by
  unfold mvI
  rw [if_neg]
  intro g
  rw [(hb17_iff l b).2 g] at h
  cases h
set_option maxRecDepth 100000 in
set_option maxHeartbeats 1000000 in
theorem budget17_any (l : List Int) (b : Int) (w : World) (hl : l.length = 8) :
    Calls Try.prog 9 #[.agg (iCells l), .int .i64 b] w fun e w' => e = .returned (.int .i64 (bdI l b)) ∧ Below w.heap.size w w' := by
  have HL := Lib.hid hl
  have HSZ := Lib.hid (sds_size l hl)
  have HHB := Lib.hid fun w => hasbudget_any l b w hl
  have HR : Hid (Row (w.alloc (.cells (iCells l) 24)) w.heap.size 24 (iCells l)) := heap_alloc_new _ _
  have HB : Hid (Below w.heap.size w (w.alloc (.cells (iCells l) 24))) := (Below.refl _ _).alloc (Nat.le_refl _) _
  have HNO := Lib.hid (bdI_no l b)
  have HYES := Lib.hid (hb17_iff l b)
  have HIS : Hid (∀ (n : Nat), rt17 l = true → n < 8 → bdI l (n : Nat) = (bud (fun j => (l.getD j 0).toNat) n : Nat)) := Lib.hid fun n h1 h2 => by
    unfold bdI
    rw [if_pos ⟨h1, by omega, by omega⟩, Int.toNat_natCast]
  clear hl
  obtain ⟨g, hg⟩ : ∃ g, w.heap.size = g := ⟨_, rfl⟩
  rw [hg] at HR HB ⊢
  generalize hw1 : w.alloc (.cells (iCells l) 24) = w1 at *
  obtain ⟨R, hR⟩ : ∃ R, bdI l b = R := ⟨_, rfl⟩
  rw [hR] at HNO ⊢
  have HRR := Lib.hid fun _ : Unit => hR
  clear hR
  go_enter Try.func9, Try.ntmps9
  go_wp2_with (refine wpList_load_row rfl 24 (.tmp 2) rfl g rfl 24 (iCells l) (0, 0) _ HR.out Try.underlying24 rfl HSZ.out ?_)
  refine (HHB.out _).mono ?_
  rintro e w2 ⟨rfl, hb2⟩
  have HR2 := Lib.hid (Row.box HR.out hb2)
  have HB2 := Lib.hid (HB.out.trans (hb2.mono (Nat.le_of_lt (Row.lt HR.out))))
  clear HR HB hb2
  cases hq : hb17 l b
  · have HZ := Lib.hid (HNO.out hq)
    clear hq HNO HYES HIS
    go_wp2_with fail
    go_ret
    exact ⟨by rw [HZ.out]; rfl, HB2.out⟩
  · obtain ⟨hrt, hb1, hb8⟩ := HYES.out.1 hq
    obtain ⟨n, rfl⟩ : ∃ n : Nat, b = (n : Int) := ⟨b.toNat, by omega⟩
    have hn : n < 8 := by omega
    have HE := Lib.hid (HIS.out n hrt hn)
    obtain ⟨S, hS⟩ : ∃ S : Nat → Nat, (fun j => (l.getD j 0).toNat) = S := ⟨_, rfl⟩
    have hrr := (rt_iff l).1 hrt
    have hSj : ∀ j, j < 8 → l.getD j 0 = (S j : Int) ∧ S j ≤ 15 := fun j hj => by
      have h1 := hrr j hj
      have h2 : S j = (l.getD j 0).toNat := (congrFun hS j).symm
      omega
    have HSJ := Lib.hid hSj
    rw [hS] at HE
    have HN := Lib.hid hn
    have hnI : (n : Int) ≤ 7 := by omega
    clear hq HNO HYES HIS hrt hb1 hb8 hrr hSj hS hn HHB
    go_wp2_with fail
    refine (slope_any 1 _).mono ?_
    rintro e w3 ⟨g3, rfl, hr3, hb3⟩
    have HR3 := Lib.hid (Row.box HR2.out hb3)
    have HB3 := Lib.hid (HB2.out.trans (hb3.mono (Nat.le_of_lt (Row.lt HR2.out))))
    have HU3 := Lib.hid hr3
    clear HR2 HB2 hr3 hb3
    go_wp2_with fail
    refine (slope_any 2 _).mono ?_
    rintro e w4 ⟨g4, rfl, hr4, hb4⟩
    have HR := Lib.hid (Row.box HR3.out hb4)
    have HU := Lib.hid (Row.box HU3.out hb4)
    have HD := Lib.hid hr4
    have HB := Lib.hid (HB3.out.trans (hb4.mono (Nat.le_of_lt (Row.lt HR3.out))))
    clear HR3 HB3 HU3 hr4 hb4
    go_wp2_with (refine wpList_load_row rfl 24 (.tmp 2) rfl g rfl 24 (iCells l) (0, 0) _ HR.out Try.underlying24 rfl HSZ.out ?_)
    go_loop [7, 18] (fun mm jj => ∃ (j M : Nat), j ≤ 8 ∧ jj = .int .i64 j ∧ mm = .int .i64 (M : Int) ∧ M = budN S n j) (fun _ jj => 8 - (intOf jj).toNat)
    case atStart => exact ⟨0, 0, by omega, rfl, rfl, rfl⟩
    case round =>
      obtain ⟨j, M, hj, rfl, rfl, hM⟩ := hrel
      rcases Nat.lt_or_ge j 8 with hlt | hge
      · obtain ⟨hx, hsb⟩ := HSJ.out j hlt
        have hix := index_sds l HL.out j hlt
        rw [hx] at hix
        have HJ := Lib.hid hlt
        have hjI : (j : Int) < 8 := by omega
        have hp := pow2_le (S j) 15 hsb
        obtain ⟨V, hV⟩ : ∃ V : Nat, 4 * 2 ^ S j = V := ⟨_, rfl⟩
        have hVb : V ≤ 131072 := by omega
        have hsh : IntKind.i64.wrap (4 * 2 ^ S j) = (V : Int) := by
          have e : (4 * 2 ^ S j : Int) = (V : Int) := by rw [← hV]; push_cast; rfl
          rw [e, IntKind.wrap_i64]; omega
        have hsI : (0 : Int) ≤ (S j : Int) := by omega
        have HST := Lib.hid (show budN S n (j + 1) = max M (V / 2 ^ shf j n) by rw [hM, ← hV]; rfl)
        have HM := Lib.hid hM
        clear hj hM hlt hx hp hV
        by_cases hjn : j ≤ n
        · have hjnI : (j : Int) ≤ (n : Int) := by omega
          obtain ⟨d, hd⟩ : ∃ d, n - j = d := ⟨_, rfl⟩
          have hdI : (n : Int) - (j : Int) = (d : Int) := by omega
          have hd7 : d ≤ 7 := by have := HN.out; omega
          have HD7 := Lib.hid hd7
          have HT : Hid (V / 2 ^ (1 * d) = V / 2 ^ shf j n) := Lib.hid (by rw [shf, if_pos hjn, hd, Nat.one_mul])
          obtain ⟨q, hq⟩ : ∃ q, V / 2 ^ (1 * d) = q := ⟨_, rfl⟩
          have HQ := Lib.hid hq
          have HX := Lib.hid (show max M q = budN S n (j + 1) by rw [← hq, HST.out, HT.out])
          have HMX : Hid ((if M < q then (q : Int) else (M : Int)) = ((max M q : Nat) : Int)) := Lib.hid (by split <;> omega)
          clear hjn hd hd7 hq
          go_wp2_with fail
          refine (slopeof_any V 1 d q g3 _ HQ.out HU.out (by decide) HD7.out).mono ?_
          rintro e w5 ⟨rfl, rfl⟩
          go_wp2_with fail
          go_round
          case rel => exact ⟨j + 1, max M q, HJ.out, by go_num, by rw [HMX.out], HX.out⟩
          case measure =>
            have := HJ.out
            simp [intOf] <;> omega
        · have hjnI : ¬ ((j : Int) ≤ (n : Int)) := by omega
          obtain ⟨d, hd⟩ : ∃ d, j - n = d := ⟨_, rfl⟩
          have hdI : (j : Int) - (n : Int) = (d : Int) := by omega
          have hd7 : d ≤ 7 := by have := HJ.out; omega
          have HD7 := Lib.hid hd7
          have HT : Hid (V / 2 ^ (2 * d) = V / 2 ^ shf j n) := Lib.hid (by rw [shf, if_neg hjn, hd])
          obtain ⟨q, hq⟩ : ∃ q, V / 2 ^ (2 * d) = q := ⟨_, rfl⟩
          have HQ := Lib.hid hq
          have HX := Lib.hid (show max M q = budN S n (j + 1) by rw [← hq, HST.out, HT.out])
          have HMX : Hid ((if M < q then (q : Int) else (M : Int)) = ((max M q : Nat) : Int)) := Lib.hid (by split <;> omega)
          clear hjn hd hd7 hq
          go_wp2_with fail
          refine (slopeof_any V 2 d q g4 _ HQ.out HD.out (by decide) HD7.out).mono ?_
          rintro e w5 ⟨rfl, rfl⟩
          go_wp2_with fail
          go_round
          case rel => exact ⟨j + 1, max M q, HJ.out, by go_num, by rw [HMX.out], HX.out⟩
          case measure =>
            have := HJ.out
            simp [intOf] <;> omega
      · obtain rfl : j = 8 := by omega
        have HM := Lib.hid hM
        clear hj hge hM
        go_wp2_with fail
        go_ret
        exact ⟨by rw [← HRR.out (), HE.out, show bud S n = M from HM.out.symm]; rfl, HB.out⟩
end Go.Proofs.Ytfpmdbdgikphdaa
