/-
  The walk of the law BitsReads. Conditions: the arguments lie as they were opened.
-/
import Derived.Test.YtnhbbdfjeaflcaaBf
import Derived.Test.YtnhbbdfjeaflcaaFn
namespace Go.Proofs.Ytnhbbdfjeaflcaa
open Go.RowKit
open M

theorem readB_getD (s : List UInt8) (n i : Nat) (h : i < n) : (readB s 0 n).getD i false = sb s i := by
  unfold readB
  rw [List.getD_eq_getElem?_getD, List.getElem?_map, List.getElem?_range h]
  simp
theorem readB_at (s : List UInt8) (a n i : Nat) (h : i < n) : (readB s a n).getD i false = sb s (a + i) := by
  unfold readB
  rw [List.getD_eq_getElem?_getD, List.getElem?_map, List.getElem?_range h]
  rfl
theorem allz_succ (s : List UInt8) (a k : Nat) : allz (readB s a (k + 1)) = (allz (readB s a k) && !(sb s (a + k))) := by
  rw [readB_succ, allz_app]
theorem bit_zero (b : Bool) : ((((b.toNat : Nat) : Int)) == 0) = !b := by cases b <;> rfl

/-- What Get does, in one sentence. -/
theorem get_any (n : Int) (s : ByteArray) (a g : Nat) (w : World) (hs : s.size ≤ 1099511627776) (ha : a ≤ 8 * s.size) (h : Rd w g s a) :
    Calls Try.prog 14 #[.pointer (some ⟨g, 0, none⟩), .int .i64 n] w fun e w' =>
      ∃ x c : Int, ∃ a', e = .returned (.tuple #[.int .i64 x, .int .i64 c]) ∧ Only g w w' ∧ Rd w' g s a' ∧
        ((n < 0 ∨ 56 < n) ∧ x = 0 ∧ c = 1 ∧ a' = a ∨ (0 ≤ n ∧ n ≤ 56 ∧ (8 * s.size : Int) < a + n) ∧ x = 0 ∧ c = 2 ∧ a' = a ∨
          (0 ≤ n ∧ n ≤ 56 ∧ a + n.toNat ≤ 8 * s.size) ∧ x = (numOf (readB (bl s) a n.toNat) : Nat) ∧ c = 0 ∧ a' = a + n.toNat) := by
  by_cases hn : n < 0 ∨ 56 < n
  · refine (get_arg n _ w hn).mono ?_
    rintro e w' ⟨rfl, rfl⟩
    exact ⟨0, 1, a, rfl, Only.refl _ _, h, Or.inl ⟨hn, rfl, rfl, rfl⟩⟩
  · obtain ⟨m, rfl⟩ : ∃ m : Nat, n = m := ⟨n.toNat, by omega⟩
    by_cases hl : a + m ≤ 8 * s.size
    · refine (get_ok m s a g w (by omega) hs hl h).mono ?_
      rintro e w' ⟨rfl, ho, hr⟩
      exact ⟨_, _, _, rfl, ho, hr, Or.inr (Or.inr ⟨⟨by omega, by omega, by simpa using hl⟩, by simp, rfl, by simp⟩)⟩
    · refine (get_short m s a g w (by omega) hs ha (by omega) h).mono ?_
      rintro e w' ⟨rfl, ho, hr⟩
      exact ⟨_, _, _, rfl, ho, hr, Or.inr (Or.inl ⟨⟨by omega, by omega, by omega⟩, rfl, rfl, rfl⟩)⟩

set_option maxRecDepth 100000 in
set_option maxHeartbeats 8000000 in
theorem reads_walk (s : ByteArray) (xs : List Int) (l : Value) (w : World) (hs : s.size ≤ 300) (hl : xs.length ≤ 60) (hx : ∀ p ∈ xs, i64ok p) (h : IntsAt w l xs) :
    Calls Try.prog 6 #[.string s, l] w fun e w' => e = .returned (.bool true) ∧ Below w.heap.size w w' := by
  have hs1 : s.size ≤ 1099511627776 := by omega
  obtain ⟨a, lcap, rfl, hcells⟩ := h
  have HC := Lib.hid hcells
  have HX := Lib.hid hx
  clear hcells hx
  go_enter Try.func6, Try.ntmps6
  go_wp2_with fail
  refine (awake_any _).mono ?_
  rintro e w1 ⟨rfl, hb⟩
  have HB1 := Lib.hid hb
  have hw1 := hb.size
  clear hb
  go_wp2_with fail
  refine (new_any s _).mono ?_
  rintro e w2 ⟨rfl, hb, hr⟩
  obtain ⟨g, hg⟩ : ∃ g, w1.heap.size = g := ⟨_, rfl⟩
  rw [hg] at hr hb ⊢
  have HR2 := Lib.hid hr
  have HB2 := Lib.hid (HB1.out.trans (hb.mono (by omega)))
  have hg2 := hr.lt
  clear hb hr HB1
  go_wp2_with fail
  refine (all_any s _ (by omega)).mono ?_
  rintro e w3 ⟨v, rfl, hown, hb⟩
  have HR3 : Hid (Rd w3 g s 0) := Row.box HR2.out hb
  have HB3 := Lib.hid (HB2.out.trans (hb.mono HB2.out.size))
  have HVC : Hid (s.size = 0 ∧ v = .slice none 0 0 ∨ ∃ vb vcap, v = .slice (some ⟨vb, 0, none⟩) (8 * s.size) vcap ∧ vb < w3.heap.size ∧ g < vb ∧ 8 * s.size ≤ vcap ∧ vcap ≤ maxLen ∧ ∀ i, i < 8 * s.size → w3.cell? ⟨vb, i, none⟩ = some (.int .i64 ((sb (bl s) i).toNat : Nat))) := by
    have hba := own_bitsAt (by rw [readB_length]) hown
    rcases hown.2 with ⟨h1, h2⟩ | ⟨vb, vcap, cur, h1, h2, h3, h4, h5, h6, h7⟩
    · exact Or.inl ⟨by omega, h1⟩
    · refine Or.inr ⟨vb, vcap, h1, Row.lt h3, by omega, h4, h5, fun i hi => ?_⟩
      obtain ⟨a0, c0, e1, e2⟩ := hba
      rw [readB_length] at e1 e2
      obtain ⟨b', off', rfl, _, e3⟩ := e2 (by omega)
      rw [h1] at e1
      simp only [Value.slice.injEq, Option.some.injEq, Addr.mk.injEq, and_true, true_and] at e1
      obtain ⟨⟨rfl, rfl⟩, _⟩ := e1
      have := e3 i hi
      rwa [Nat.zero_add, readB_getD _ _ _ hi] at this
  clear hown hb HR2 HB2
  go_wp2
  go_loopw [7, 8] (fun p i wr => ∃ j a' : Nat, j ≤ xs.length ∧ i = .int .i64 j ∧ p = .int .i64 a' ∧ a' ≤ 8 * s.size ∧ Rd wr g s a' ∧ (∀ k, k ≠ g → k < w3.heap.size → wr.heap[k]? = w3.heap[k]?) ∧ Below w.heap.size w wr ∧ w3.heap.size ≤ wr.heap.size) (fun _ i _ => xs.length - (intOf i).toNat)
  case atStart => exact ⟨0, 0, Nat.zero_le _, rfl, rfl, Nat.zero_le _, HR3.out, fun _ _ _ => rfl, HB3.out, Nat.le_refl _⟩
  case round =>
    clear HR3 HB3
    obtain ⟨j, a', hj, rfl, rfl, ha', hr, hk, hb, hw3⟩ := hrel
    have HR := Lib.hid hr
    have HK := Lib.hid hk
    have HB := Lib.hid hb
    have hwr := hb.size
    clear hr hk hb
    by_cases hlt : j < xs.length
    · obtain ⟨b, off, rfl, hbw, hcc⟩ := HC.out (by omega)
      have hcj := hcc j hlt
      obtain ⟨n, hn⟩ : ∃ n, xs.getD j 0 = n := ⟨_, rfl⟩
      have hnok : i64ok n := by
        have e : xs.getD j 0 = xs[j] := by rw [List.getD_eq_getElem?_getD, List.getElem?_eq_getElem hlt]; rfl
        rw [← hn, e]; exact HX.out _ (List.getElem_mem hlt)
      rw [hn] at hcj
      have HCW := Lib.hid hcj
      have HNOK := Lib.hid hnok
      have c0 : wr.cell? ⟨b, off + j, none⟩ = some (.int .i64 n) := (HB.out.cell (p := ⟨b, off + j, none⟩) hbw).trans hcj
      have hji : (j : Int) < (xs.length : Int) := by omega
      clear hcc hcj hn hnok HC
      go_wp2_with fail
      refine (get_any n s a' g _ hs1 ha' HR.out).mono ?_
      rintro e w4 ⟨x, c, a2, rfl, ho, hr, hcase⟩
      have HR4 := Lib.hid hr
      have HB4 := Lib.hid (HB.out.trans (ho.below (by omega)))
      have HK4 : Hid (∀ k, k ≠ g → k < w3.heap.size → w4.heap[k]? = w3.heap[k]?) := fun k h1 h2 => (ho.block k h1).trans (HK.out k h1 h2)
      have d0 : w4.cell? ⟨b, off + j, none⟩ = some (.int .i64 n) := (HB4.out.cell (p := ⟨b, off + j, none⟩) hbw).trans HCW.out
      have hw4 : w3.heap.size ≤ w4.heap.size := by have := ho.size; omega
      clear ho hr HR HB HK c0
      rcases hcase with ⟨hbad, rfl, rfl, rfl⟩ | ⟨⟨hn0, hn1, hsh⟩, rfl, rfl, rfl⟩ | ⟨⟨hn0, hn1, hfit⟩, rfl, rfl, rfl⟩
      · rcases HVC.out with ⟨hs0, rfl⟩ | ⟨vb, vcap, rfl, hvb, hvg, hvcap, hvm, hvc⟩
        · clear HVC
          obtain rfl : a2 = 0 := by omega
          have HS0 := Lib.hid hs0
          clear hs0
          rcases hbad with hbad | hbad
          · go_wp2
            go_loop [13, 14] (fun z k => ∃ q : Nat, 0 + q ≤ 8 * s.size ∧ k = .int .i64 ((0 + q : Nat) : Int) ∧ z = .bool (allz (readB (bl s) (0) q))) (fun _ k => 8 * s.size - (intOf k).toNat)
            case atStart => exact ⟨0, by omega, rfl, rfl⟩
            case round =>
              obtain ⟨q, hq, rfl, rfl⟩ := hrel
              by_cases hq2 : 0 + q < 8 * s.size
              · exfalso; have := HS0.out; omega
              · have hqe : q = 8 * s.size - (0) := by omega
                have hend : ¬ (((0 + q : Nat) : Int) < ((8 * s.size : Nat) : Int)) := by omega
                have HZ0 : Hid (8 * s.size - (0) = 0) := by unfold Hid; have := HS0.out; omega
                have hend0 : ¬ ((8 * s.size : Nat) : Int) < 0 := by omega
                rw [hqe]
                have HAQ : Hid (0 + (8 * s.size - (0)) = 8 * s.size) := by unfold Hid; omega
                rw [HAQ.out]
                clear hqe
                go_wp2_with fail
                refine (left_rd s (0) g _ hs1 (by omega) HR4.out).mono ?_
                rintro e w5 ⟨rfl, m5, rfl⟩
                rw [HZ0.out]
                go_wp2_with fail
                refine (zeros_rd s (0) g _ hs1 (by omega) (HR4.out.drewN m5)).mono ?_
                rintro e w6 ⟨rfl, hb6⟩
                rw [HZ0.out, show allz (readB (bl s) (0) 0) = true from rfl]
                have hz13 : allz (readB (bl s) 0 (8 * s.size)) = true := by rw [show 8 * s.size = 0 by have := HS0.out; omega]; rfl
                have HR6 : Hid (Rd w6 g s (0)) := Row.box (HR4.out.drewN m5) hb6
                have HB6 := Lib.hid ((Below.drewN HB4.out m5).trans (hb6.mono (Below.drewN HB4.out m5).size))
                have HK6 : Hid (∀ k, k ≠ g → k < w3.heap.size → w6.heap[k]? = w3.heap[k]?) := fun k h1 h2 => (hb6.block k (by show k < w4.heap.size; omega)).trans (HK4.out k h1 h2)
                have hw6 : w3.heap.size ≤ w6.heap.size := Nat.le_trans hw4 hb6.size
                clear hb6
                go_wp2
                go_roundw
                case rel => exact ⟨j + 1, 0, by omega, by go_num, rfl, by omega, HR6.out, HK6.out, HB6.out, hw6⟩
                case measure => simp [intOf]; omega
          · have hbad2 : ¬ n < 0 := by omega
            go_wp2
            go_loop [13, 14] (fun z k => ∃ q : Nat, 0 + q ≤ 8 * s.size ∧ k = .int .i64 ((0 + q : Nat) : Int) ∧ z = .bool (allz (readB (bl s) (0) q))) (fun _ k => 8 * s.size - (intOf k).toNat)
            case atStart => exact ⟨0, by omega, rfl, rfl⟩
            case round =>
              obtain ⟨q, hq, rfl, rfl⟩ := hrel
              by_cases hq2 : 0 + q < 8 * s.size
              · exfalso; have := HS0.out; omega
              · have hqe : q = 8 * s.size - (0) := by omega
                have hend : ¬ (((0 + q : Nat) : Int) < ((8 * s.size : Nat) : Int)) := by omega
                have HZ0 : Hid (8 * s.size - (0) = 0) := by unfold Hid; have := HS0.out; omega
                have hend0 : ¬ ((8 * s.size : Nat) : Int) < 0 := by omega
                rw [hqe]
                have HAQ : Hid (0 + (8 * s.size - (0)) = 8 * s.size) := by unfold Hid; omega
                rw [HAQ.out]
                clear hqe
                go_wp2_with fail
                refine (left_rd s (0) g _ hs1 (by omega) HR4.out).mono ?_
                rintro e w5 ⟨rfl, m5, rfl⟩
                rw [HZ0.out]
                go_wp2_with fail
                refine (zeros_rd s (0) g _ hs1 (by omega) (HR4.out.drewN m5)).mono ?_
                rintro e w6 ⟨rfl, hb6⟩
                rw [HZ0.out, show allz (readB (bl s) (0) 0) = true from rfl]
                have hz13 : allz (readB (bl s) 0 (8 * s.size)) = true := by rw [show 8 * s.size = 0 by have := HS0.out; omega]; rfl
                have HR6 : Hid (Rd w6 g s (0)) := Row.box (HR4.out.drewN m5) hb6
                have HB6 := Lib.hid ((Below.drewN HB4.out m5).trans (hb6.mono (Below.drewN HB4.out m5).size))
                have HK6 : Hid (∀ k, k ≠ g → k < w3.heap.size → w6.heap[k]? = w3.heap[k]?) := fun k h1 h2 => (hb6.block k (by show k < w4.heap.size; omega)).trans (HK4.out k h1 h2)
                have hw6 : w3.heap.size ≤ w6.heap.size := Nat.le_trans hw4 hb6.size
                clear hb6
                go_wp2
                go_roundw
                case rel => exact ⟨j + 1, 0, by omega, by go_num, rfl, by omega, HR6.out, HK6.out, HB6.out, hw6⟩
                case measure => simp [intOf]; omega
        · have HVD := Lib.hid hvc
          clear hvc HVC
          rcases hbad with hbad | hbad
          · go_wp2
            go_loop [13, 14] (fun z k => ∃ q : Nat, a2 + q ≤ 8 * s.size ∧ k = .int .i64 ((a2 + q : Nat) : Int) ∧ z = .bool (allz (readB (bl s) (a2) q))) (fun _ k => 8 * s.size - (intOf k).toNat)
            case atStart => exact ⟨0, by omega, rfl, rfl⟩
            case round =>
              obtain ⟨q, hq, rfl, rfl⟩ := hrel
              by_cases hq2 : a2 + q < 8 * s.size
              · have e0 : w4.cell? ⟨vb, a2 + q, none⟩ = some (.int .i64 ((sb (bl s) (a2 + q)).toNat : Nat)) := (World.cell?_of_block (HK4.out vb (by omega) hvb)).trans (HVD.out (a2 + q) hq2)
                have HAZ := Lib.hid (allz_succ (bl s) (a2) q)
                have HBZ := Lib.hid (bit_zero (sb (bl s) (a2 + q)))
                obtain ⟨bb, hbb⟩ : ∃ bb, sb (bl s) (a2 + q) = bb := ⟨_, rfl⟩
                obtain ⟨zz, hzz⟩ : ∃ zz, allz (readB (bl s) (a2) q) = zz := ⟨_, rfl⟩
                obtain ⟨tt, htt⟩ : ∃ tt, a2 + q = tt := ⟨_, rfl⟩
                rw [hbb] at e0 HBZ HAZ
                rw [hzz] at HAZ ⊢
                rw [htt] at e0 hq2 ⊢
                have HTT := Lib.hid htt
                clear hbb hzz htt hq
                cases zz
                · go_wp2
                  go_round
                  case rel => exact ⟨q + 1, by have := HTT.out; omega, by have := HTT.out; congr 1; omega, by rw [HAZ.out]; rfl⟩
                  case measure => simp [intOf]; omega
                · go_wp2
                  go_round
                  case rel => exact ⟨q + 1, by have := HTT.out; omega, by have := HTT.out; congr 1; omega, by rw [HAZ.out, ← HBZ.out]; rfl⟩
                  case measure => simp [intOf]; omega
              · have hqe : q = 8 * s.size - (a2) := by omega
                have hend : ¬ (((a2 + q : Nat) : Int) < ((8 * s.size : Nat) : Int)) := by omega
                rw [hqe]
                have HAQ : Hid (a2 + (8 * s.size - (a2)) = 8 * s.size) := by unfold Hid; omega
                rw [HAQ.out]
                clear hqe
                go_wp2_with fail
                refine (left_rd s (a2) g _ hs1 (by omega) HR4.out).mono ?_
                rintro e w5 ⟨rfl, m5, rfl⟩
                go_wp2_with fail
                refine (zeros_rd s (a2) g _ hs1 (by omega) (HR4.out.drewN m5)).mono ?_
                rintro e w6 ⟨rfl, hb6⟩
                have HR6 : Hid (Rd w6 g s (a2)) := Row.box (HR4.out.drewN m5) hb6
                have HB6 := Lib.hid ((Below.drewN HB4.out m5).trans (hb6.mono (Below.drewN HB4.out m5).size))
                have HK6 : Hid (∀ k, k ≠ g → k < w3.heap.size → w6.heap[k]? = w3.heap[k]?) := fun k h1 h2 => (hb6.block k (by show k < w4.heap.size; omega)).trans (HK4.out k h1 h2)
                have hw6 : w3.heap.size ≤ w6.heap.size := Nat.le_trans hw4 hb6.size
                clear hb6
                go_wp2
                go_roundw
                case rel => exact ⟨j + 1, a2, by omega, by go_num, rfl, by omega, HR6.out, HK6.out, HB6.out, hw6⟩
                case measure => simp [intOf]; omega
          · have hbad2 : ¬ n < 0 := by omega
            go_wp2
            go_loop [13, 14] (fun z k => ∃ q : Nat, a2 + q ≤ 8 * s.size ∧ k = .int .i64 ((a2 + q : Nat) : Int) ∧ z = .bool (allz (readB (bl s) (a2) q))) (fun _ k => 8 * s.size - (intOf k).toNat)
            case atStart => exact ⟨0, by omega, rfl, rfl⟩
            case round =>
              obtain ⟨q, hq, rfl, rfl⟩ := hrel
              by_cases hq2 : a2 + q < 8 * s.size
              · have e0 : w4.cell? ⟨vb, a2 + q, none⟩ = some (.int .i64 ((sb (bl s) (a2 + q)).toNat : Nat)) := (World.cell?_of_block (HK4.out vb (by omega) hvb)).trans (HVD.out (a2 + q) hq2)
                have HAZ := Lib.hid (allz_succ (bl s) (a2) q)
                have HBZ := Lib.hid (bit_zero (sb (bl s) (a2 + q)))
                obtain ⟨bb, hbb⟩ : ∃ bb, sb (bl s) (a2 + q) = bb := ⟨_, rfl⟩
                obtain ⟨zz, hzz⟩ : ∃ zz, allz (readB (bl s) (a2) q) = zz := ⟨_, rfl⟩
                obtain ⟨tt, htt⟩ : ∃ tt, a2 + q = tt := ⟨_, rfl⟩
                rw [hbb] at e0 HBZ HAZ
                rw [hzz] at HAZ ⊢
                rw [htt] at e0 hq2 ⊢
                have HTT := Lib.hid htt
                clear hbb hzz htt hq
                cases zz
                · go_wp2
                  go_round
                  case rel => exact ⟨q + 1, by have := HTT.out; omega, by have := HTT.out; congr 1; omega, by rw [HAZ.out]; rfl⟩
                  case measure => simp [intOf]; omega
                · go_wp2
                  go_round
                  case rel => exact ⟨q + 1, by have := HTT.out; omega, by have := HTT.out; congr 1; omega, by rw [HAZ.out, ← HBZ.out]; rfl⟩
                  case measure => simp [intOf]; omega
              · have hqe : q = 8 * s.size - (a2) := by omega
                have hend : ¬ (((a2 + q : Nat) : Int) < ((8 * s.size : Nat) : Int)) := by omega
                rw [hqe]
                have HAQ : Hid (a2 + (8 * s.size - (a2)) = 8 * s.size) := by unfold Hid; omega
                rw [HAQ.out]
                clear hqe
                go_wp2_with fail
                refine (left_rd s (a2) g _ hs1 (by omega) HR4.out).mono ?_
                rintro e w5 ⟨rfl, m5, rfl⟩
                go_wp2_with fail
                refine (zeros_rd s (a2) g _ hs1 (by omega) (HR4.out.drewN m5)).mono ?_
                rintro e w6 ⟨rfl, hb6⟩
                have HR6 : Hid (Rd w6 g s (a2)) := Row.box (HR4.out.drewN m5) hb6
                have HB6 := Lib.hid ((Below.drewN HB4.out m5).trans (hb6.mono (Below.drewN HB4.out m5).size))
                have HK6 : Hid (∀ k, k ≠ g → k < w3.heap.size → w6.heap[k]? = w3.heap[k]?) := fun k h1 h2 => (hb6.block k (by show k < w4.heap.size; omega)).trans (HK4.out k h1 h2)
                have hw6 : w3.heap.size ≤ w6.heap.size := Nat.le_trans hw4 hb6.size
                clear hb6
                go_wp2
                go_roundw
                case rel => exact ⟨j + 1, a2, by omega, by go_num, rfl, by omega, HR6.out, HK6.out, HB6.out, hw6⟩
                case measure => simp [intOf]; omega
      · have hn2 : ¬ n < 0 := by omega
        have hn3 : ¬ 56 < n := by omega
        rcases HVC.out with ⟨hs0, rfl⟩ | ⟨vb, vcap, rfl, hvb, hvg, hvcap, hvm, hvc⟩
        · obtain rfl : a2 = 0 := by omega
          have hn4 : (0 : Int) < n := by omega
          have HS0 := Lib.hid hs0
          clear HVC hs0 hsh
          go_wp2
          go_loop [13, 14] (fun z k => ∃ q : Nat, 0 + q ≤ 8 * s.size ∧ k = .int .i64 ((0 + q : Nat) : Int) ∧ z = .bool (allz (readB (bl s) (0) q))) (fun _ k => 8 * s.size - (intOf k).toNat)
          case atStart => exact ⟨0, by omega, rfl, rfl⟩
          case round =>
            obtain ⟨q, hq, rfl, rfl⟩ := hrel
            by_cases hq2 : 0 + q < 8 * s.size
            · exfalso; have := HS0.out; omega
            · have hqe : q = 8 * s.size - (0) := by omega
              have hend : ¬ (((0 + q : Nat) : Int) < ((8 * s.size : Nat) : Int)) := by omega
              have HZ0 : Hid (8 * s.size - (0) = 0) := by unfold Hid; have := HS0.out; omega
              have hend0 : ¬ ((8 * s.size : Nat) : Int) < 0 := by omega
              rw [hqe]
              have HAQ : Hid (0 + (8 * s.size - (0)) = 8 * s.size) := by unfold Hid; omega
              rw [HAQ.out]
              clear hqe
              go_wp2_with fail
              refine (left_rd s (0) g _ hs1 (by omega) HR4.out).mono ?_
              rintro e w5 ⟨rfl, m5, rfl⟩
              rw [HZ0.out]
              go_wp2_with fail
              refine (zeros_rd s (0) g _ hs1 (by omega) (HR4.out.drewN m5)).mono ?_
              rintro e w6 ⟨rfl, hb6⟩
              rw [HZ0.out, show allz (readB (bl s) (0) 0) = true from rfl]
              have hz13 : allz (readB (bl s) 0 (8 * s.size)) = true := by rw [show 8 * s.size = 0 by have := HS0.out; omega]; rfl
              have HR6 : Hid (Rd w6 g s (0)) := Row.box (HR4.out.drewN m5) hb6
              have HB6 := Lib.hid ((Below.drewN HB4.out m5).trans (hb6.mono (Below.drewN HB4.out m5).size))
              have HK6 : Hid (∀ k, k ≠ g → k < w3.heap.size → w6.heap[k]? = w3.heap[k]?) := fun k h1 h2 => (hb6.block k (by show k < w4.heap.size; omega)).trans (HK4.out k h1 h2)
              have hw6 : w3.heap.size ≤ w6.heap.size := Nat.le_trans hw4 hb6.size
              clear hb6
              go_wp2
              go_roundw
              case rel => exact ⟨j + 1, 0, by omega, by go_num, rfl, by omega, HR6.out, HK6.out, HB6.out, hw6⟩
              case measure => simp [intOf]; omega
        · have HVD := Lib.hid hvc
          have hn4 : (8 * s.size : Int) - a2 < n := by omega
          clear hvc HVC
          go_wp2
          go_loop [13, 14] (fun z k => ∃ q : Nat, a2 + q ≤ 8 * s.size ∧ k = .int .i64 ((a2 + q : Nat) : Int) ∧ z = .bool (allz (readB (bl s) (a2) q))) (fun _ k => 8 * s.size - (intOf k).toNat)
          case atStart => exact ⟨0, by omega, rfl, rfl⟩
          case round =>
            obtain ⟨q, hq, rfl, rfl⟩ := hrel
            by_cases hq2 : a2 + q < 8 * s.size
            · have e0 : w4.cell? ⟨vb, a2 + q, none⟩ = some (.int .i64 ((sb (bl s) (a2 + q)).toNat : Nat)) := (World.cell?_of_block (HK4.out vb (by omega) hvb)).trans (HVD.out (a2 + q) hq2)
              have HAZ := Lib.hid (allz_succ (bl s) (a2) q)
              have HBZ := Lib.hid (bit_zero (sb (bl s) (a2 + q)))
              obtain ⟨bb, hbb⟩ : ∃ bb, sb (bl s) (a2 + q) = bb := ⟨_, rfl⟩
              obtain ⟨zz, hzz⟩ : ∃ zz, allz (readB (bl s) (a2) q) = zz := ⟨_, rfl⟩
              obtain ⟨tt, htt⟩ : ∃ tt, a2 + q = tt := ⟨_, rfl⟩
              rw [hbb] at e0 HBZ HAZ
              rw [hzz] at HAZ ⊢
              rw [htt] at e0 hq2 ⊢
              have HTT := Lib.hid htt
              clear hbb hzz htt hq
              cases zz
              · go_wp2
                go_round
                case rel => exact ⟨q + 1, by have := HTT.out; omega, by have := HTT.out; congr 1; omega, by rw [HAZ.out]; rfl⟩
                case measure => simp [intOf]; omega
              · go_wp2
                go_round
                case rel => exact ⟨q + 1, by have := HTT.out; omega, by have := HTT.out; congr 1; omega, by rw [HAZ.out, ← HBZ.out]; rfl⟩
                case measure => simp [intOf]; omega
            · have hqe : q = 8 * s.size - (a2) := by omega
              have hend : ¬ (((a2 + q : Nat) : Int) < ((8 * s.size : Nat) : Int)) := by omega
              rw [hqe]
              have HAQ : Hid (a2 + (8 * s.size - (a2)) = 8 * s.size) := by unfold Hid; omega
              rw [HAQ.out]
              clear hqe
              go_wp2_with fail
              refine (left_rd s (a2) g _ hs1 (by omega) HR4.out).mono ?_
              rintro e w5 ⟨rfl, m5, rfl⟩
              go_wp2_with fail
              refine (zeros_rd s (a2) g _ hs1 (by omega) (HR4.out.drewN m5)).mono ?_
              rintro e w6 ⟨rfl, hb6⟩
              have HR6 : Hid (Rd w6 g s (a2)) := Row.box (HR4.out.drewN m5) hb6
              have HB6 := Lib.hid ((Below.drewN HB4.out m5).trans (hb6.mono (Below.drewN HB4.out m5).size))
              have HK6 : Hid (∀ k, k ≠ g → k < w3.heap.size → w6.heap[k]? = w3.heap[k]?) := fun k h1 h2 => (hb6.block k (by show k < w4.heap.size; omega)).trans (HK4.out k h1 h2)
              have hw6 : w3.heap.size ≤ w6.heap.size := Nat.le_trans hw4 hb6.size
              clear hb6
              go_wp2
              go_roundw
              case rel => exact ⟨j + 1, a2, by omega, by go_num, rfl, by omega, HR6.out, HK6.out, HB6.out, hw6⟩
              case measure => simp [intOf]; omega
      · obtain ⟨N, rfl⟩ : ∃ N : Nat, n = N := ⟨n.toNat, by omega⟩
        rw [Int.toNat_natCast] at hfit HR4
        rw [Int.toNat_natCast]
        have hN : N ≤ 56 := by omega
        rcases HVC.out with ⟨hs0, rfl⟩ | ⟨vb, vcap, rfl, hvb, hvg, hvcap, hvm, hvc⟩
        · obtain rfl : a' = 0 := by omega
          obtain rfl : N = 0 := by omega
          have HS0 := Lib.hid hs0
          clear HVC hs0
          go_wp2_with fail
          refine (number_any (.slice none 0 0) [] _ (by decide) ⟨none, 0, rfl, fun h => by simp at h⟩).mono ?_
          rintro e w5 ⟨rfl, rfl⟩
          rw [show readB (bl s) 0 0 = [] from rfl]
          go_wp2
          go_loop [13, 14] (fun z k => ∃ q : Nat, 0 + 0 + q ≤ 8 * s.size ∧ k = .int .i64 ((0 + 0 + q : Nat) : Int) ∧ z = .bool (allz (readB (bl s) (0 + 0) q))) (fun _ k => 8 * s.size - (intOf k).toNat)
          case atStart => exact ⟨0, by omega, rfl, rfl⟩
          case round =>
            obtain ⟨q, hq, rfl, rfl⟩ := hrel
            by_cases hq2 : 0 + 0 + q < 8 * s.size
            · exfalso; have := HS0.out; omega
            · have hqe : q = 8 * s.size - (0 + 0) := by omega
              have hend : ¬ (((0 + 0 + q : Nat) : Int) < ((8 * s.size : Nat) : Int)) := by omega
              have HZ0 : Hid (8 * s.size - (0 + 0) = 0) := by unfold Hid; have := HS0.out; omega
              have hend0 : ¬ ((8 * s.size : Nat) : Int) < 0 := by omega
              rw [hqe]
              have HAQ : Hid (0 + 0 + (8 * s.size - (0 + 0)) = 8 * s.size) := by unfold Hid; omega
              rw [HAQ.out]
              clear hqe
              go_wp2_with fail
              refine (left_rd s (0 + 0) g _ hs1 (by omega) HR4.out).mono ?_
              rintro e w5 ⟨rfl, m5, rfl⟩
              rw [HZ0.out]
              go_wp2_with fail
              refine (zeros_rd s (0 + 0) g _ hs1 (by omega) (HR4.out.drewN m5)).mono ?_
              rintro e w6 ⟨rfl, hb6⟩
              rw [HZ0.out, show allz (readB (bl s) (0 + 0) 0) = true from rfl]
              have hz13 : allz (readB (bl s) 0 (8 * s.size)) = true := by rw [show 8 * s.size = 0 by have := HS0.out; omega]; rfl
              have HR6 : Hid (Rd w6 g s (0 + 0)) := Row.box (HR4.out.drewN m5) hb6
              have HB6 := Lib.hid ((Below.drewN HB4.out m5).trans (hb6.mono (Below.drewN HB4.out m5).size))
              have HK6 : Hid (∀ k, k ≠ g → k < w3.heap.size → w6.heap[k]? = w3.heap[k]?) := fun k h1 h2 => (hb6.block k (by show k < w4.heap.size; omega)).trans (HK4.out k h1 h2)
              have hw6 : w3.heap.size ≤ w6.heap.size := Nat.le_trans hw4 hb6.size
              clear hb6
              go_wp2
              go_roundw
              case rel => exact ⟨j + 1, 0 + 0, by omega, by go_num, rfl, by omega, HR6.out, HK6.out, HB6.out, hw6⟩
              case measure => simp [intOf]; omega
        · have HVD := Lib.hid hvc
          have hn4 : ¬ (8 * s.size : Int) - a' < (N : Int) := by omega
          clear hvc HVC
          have HBA : Hid (∀ cap2, vcap ≠ a' → BitsAt w4 (.slice (some ⟨vb, a', none⟩) N cap2) (readB (bl s) a' N)) := by
            intro cap2 _
            refine ⟨_, cap2, by rw [readB_length], fun _ => ⟨vb, a', rfl, by omega, fun i hi => ?_⟩⟩
            rw [readB_length] at hi
            rw [readB_at _ _ _ _ hi]
            exact (World.cell?_of_block (HK4.out vb (by omega) hvb)).trans (HVD.out (a' + i) (by omega))
          by_cases hca : vcap = a'
          · obtain rfl : N = 0 := by omega
            have hca' : a' = vcap := hca.symm
            clear hca
            subst hca'
            go_wp2_with fail
            refine (number_any _ (readB (bl s) a' 0) _ (by rw [readB_length]; omega) ⟨_, _, rfl, fun h => by simp [readB] at h⟩).mono ?_
            rintro e w5 ⟨rfl, rfl⟩
            go_wp2
            go_loop [13, 14] (fun z k => ∃ q : Nat, a' + 0 + q ≤ 8 * s.size ∧ k = .int .i64 ((a' + 0 + q : Nat) : Int) ∧ z = .bool (allz (readB (bl s) (a' + 0) q))) (fun _ k => 8 * s.size - (intOf k).toNat)
            case atStart => exact ⟨0, by omega, rfl, rfl⟩
            case round =>
              obtain ⟨q, hq, rfl, rfl⟩ := hrel
              by_cases hq2 : a' + 0 + q < 8 * s.size
              · have e0 : w4.cell? ⟨vb, a' + 0 + q, none⟩ = some (.int .i64 ((sb (bl s) (a' + 0 + q)).toNat : Nat)) := (World.cell?_of_block (HK4.out vb (by omega) hvb)).trans (HVD.out (a' + 0 + q) hq2)
                have HAZ := Lib.hid (allz_succ (bl s) (a' + 0) q)
                have HBZ := Lib.hid (bit_zero (sb (bl s) (a' + 0 + q)))
                obtain ⟨bb, hbb⟩ : ∃ bb, sb (bl s) (a' + 0 + q) = bb := ⟨_, rfl⟩
                obtain ⟨zz, hzz⟩ : ∃ zz, allz (readB (bl s) (a' + 0) q) = zz := ⟨_, rfl⟩
                obtain ⟨tt, htt⟩ : ∃ tt, a' + 0 + q = tt := ⟨_, rfl⟩
                rw [hbb] at e0 HBZ HAZ
                rw [hzz] at HAZ ⊢
                rw [htt] at e0 hq2 ⊢
                have HTT := Lib.hid htt
                clear hbb hzz htt hq
                cases zz
                · go_wp2
                  go_round
                  case rel => exact ⟨q + 1, by have := HTT.out; omega, by have := HTT.out; congr 1; omega, by rw [HAZ.out]; rfl⟩
                  case measure => simp [intOf]; omega
                · go_wp2
                  go_round
                  case rel => exact ⟨q + 1, by have := HTT.out; omega, by have := HTT.out; congr 1; omega, by rw [HAZ.out, ← HBZ.out]; rfl⟩
                  case measure => simp [intOf]; omega
              · have hqe : q = 8 * s.size - (a' + 0) := by omega
                have hend : ¬ (((a' + 0 + q : Nat) : Int) < ((8 * s.size : Nat) : Int)) := by omega
                rw [hqe]
                have HAQ : Hid (a' + 0 + (8 * s.size - (a' + 0)) = 8 * s.size) := by unfold Hid; omega
                rw [HAQ.out]
                clear hqe
                go_wp2_with fail
                refine (left_rd s (a' + 0) g _ hs1 (by omega) HR4.out).mono ?_
                rintro e w5 ⟨rfl, m5, rfl⟩
                go_wp2_with fail
                refine (zeros_rd s (a' + 0) g _ hs1 (by omega) (HR4.out.drewN m5)).mono ?_
                rintro e w6 ⟨rfl, hb6⟩
                have HR6 : Hid (Rd w6 g s (a' + 0)) := Row.box (HR4.out.drewN m5) hb6
                have HB6 := Lib.hid ((Below.drewN HB4.out m5).trans (hb6.mono (Below.drewN HB4.out m5).size))
                have HK6 : Hid (∀ k, k ≠ g → k < w3.heap.size → w6.heap[k]? = w3.heap[k]?) := fun k h1 h2 => (hb6.block k (by show k < w4.heap.size; omega)).trans (HK4.out k h1 h2)
                have hw6 : w3.heap.size ≤ w6.heap.size := Nat.le_trans hw4 hb6.size
                clear hb6
                go_wp2
                go_roundw
                case rel => exact ⟨j + 1, a' + 0, by omega, by go_num, rfl, by omega, HR6.out, HK6.out, HB6.out, hw6⟩
                case measure => simp [intOf]; omega
          · go_wp2_with fail
            refine (number_any _ (readB (bl s) a' N) _ (by rw [readB_length]; omega) (HBA.out _ hca)).mono ?_
            rintro e w5 ⟨rfl, rfl⟩
            go_wp2
            go_loop [13, 14] (fun z k => ∃ q : Nat, a' + N + q ≤ 8 * s.size ∧ k = .int .i64 ((a' + N + q : Nat) : Int) ∧ z = .bool (allz (readB (bl s) (a' + N) q))) (fun _ k => 8 * s.size - (intOf k).toNat)
            case atStart => exact ⟨0, by omega, rfl, rfl⟩
            case round =>
              obtain ⟨q, hq, rfl, rfl⟩ := hrel
              by_cases hq2 : a' + N + q < 8 * s.size
              · have e0 : w4.cell? ⟨vb, a' + N + q, none⟩ = some (.int .i64 ((sb (bl s) (a' + N + q)).toNat : Nat)) := (World.cell?_of_block (HK4.out vb (by omega) hvb)).trans (HVD.out (a' + N + q) hq2)
                have HAZ := Lib.hid (allz_succ (bl s) (a' + N) q)
                have HBZ := Lib.hid (bit_zero (sb (bl s) (a' + N + q)))
                obtain ⟨bb, hbb⟩ : ∃ bb, sb (bl s) (a' + N + q) = bb := ⟨_, rfl⟩
                obtain ⟨zz, hzz⟩ : ∃ zz, allz (readB (bl s) (a' + N) q) = zz := ⟨_, rfl⟩
                obtain ⟨tt, htt⟩ : ∃ tt, a' + N + q = tt := ⟨_, rfl⟩
                rw [hbb] at e0 HBZ HAZ
                rw [hzz] at HAZ ⊢
                rw [htt] at e0 hq2 ⊢
                have HTT := Lib.hid htt
                clear hbb hzz htt hq
                cases zz
                · go_wp2
                  go_round
                  case rel => exact ⟨q + 1, by have := HTT.out; omega, by have := HTT.out; congr 1; omega, by rw [HAZ.out]; rfl⟩
                  case measure => simp [intOf]; omega
                · go_wp2
                  go_round
                  case rel => exact ⟨q + 1, by have := HTT.out; omega, by have := HTT.out; congr 1; omega, by rw [HAZ.out, ← HBZ.out]; rfl⟩
                  case measure => simp [intOf]; omega
              · have hqe : q = 8 * s.size - (a' + N) := by omega
                have hend : ¬ (((a' + N + q : Nat) : Int) < ((8 * s.size : Nat) : Int)) := by omega
                rw [hqe]
                have HAQ : Hid (a' + N + (8 * s.size - (a' + N)) = 8 * s.size) := by unfold Hid; omega
                rw [HAQ.out]
                clear hqe
                go_wp2_with fail
                refine (left_rd s (a' + N) g _ hs1 (by omega) HR4.out).mono ?_
                rintro e w5 ⟨rfl, m5, rfl⟩
                go_wp2_with fail
                refine (zeros_rd s (a' + N) g _ hs1 (by omega) (HR4.out.drewN m5)).mono ?_
                rintro e w6 ⟨rfl, hb6⟩
                have HR6 : Hid (Rd w6 g s (a' + N)) := Row.box (HR4.out.drewN m5) hb6
                have HB6 := Lib.hid ((Below.drewN HB4.out m5).trans (hb6.mono (Below.drewN HB4.out m5).size))
                have HK6 : Hid (∀ k, k ≠ g → k < w3.heap.size → w6.heap[k]? = w3.heap[k]?) := fun k h1 h2 => (hb6.block k (by show k < w4.heap.size; omega)).trans (HK4.out k h1 h2)
                have hw6 : w3.heap.size ≤ w6.heap.size := Nat.le_trans hw4 hb6.size
                clear hb6
                go_wp2
                go_roundw
                case rel => exact ⟨j + 1, a' + N, by omega, by go_num, rfl, by omega, HR6.out, HK6.out, HB6.out, hw6⟩
                case measure => simp [intOf]; omega
    · obtain rfl : j = xs.length := by omega
      go_wp2
      go_ret
      exact ⟨rfl, HB.out⟩
end Go.Proofs.Ytnhbbdfjeaflcaa
