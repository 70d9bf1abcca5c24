/-
  PvqSplit, walked. No conditions.
-/
import Derived.Test.YtjdiecpbjajkiaaYj
namespace Go.Proofs.Ytjdiecpbjajkiaa
open Go.RowKit
open M
theorem vector_at (x y z : Int) (n k i : Nat) (w : World) (hx : x = n) (hy : y = k) (hz : z = i) (hn : n ≤ 8) (hk : k ≤ 12) (hi : i < cn13 n k) :
    Calls Try.prog 12 #[.int .i64 x, .int .i64 y, .int .i64 z] w fun e w' => (∃ a cap, e = .returned (.tuple #[.slice a n cap, .int .i64 0]) ∧ IntsAt w' (.slice a n cap) (vc13 n k i)) ∧ Below w.heap.size w w' := by
  subst hx hy hz
  refine (vector_any n k i w).mono ?_
  rintro e w' ⟨⟨v, rfl, hv⟩, hb⟩
  obtain ⟨h1, h2⟩ := vc_in n k i hn hk hi
  obtain ⟨g1, g2, g3⟩ := vc_all n k i hi
  rw [h1] at hv
  rw [h2]
  obtain ⟨a, cap, hva, hc⟩ := hv
  rw [g1] at hva
  subst hva
  exact ⟨⟨a, cap, rfl, a, cap, by rw [g1], hc⟩, hb⟩
theorem cn_wide (n k : Nat) : cn13 n k ≤ cn13 (n + 1) k := by
  have h := ah_mono (cn13 n) k 1 (2 * k + 1) (by omega)
  have e : ah (cn13 n) k 1 = 0 + cn13 n (k - sz 0) := rfl
  rw [show k - sz 0 = k from rfl] at e
  show cn13 n k ≤ ah (cn13 n) k (2 * k + 1)
  omega
theorem cn_null (n k : Nat) (h : cn13 n k = 0) : n = 0 ∧ 0 < k := by
  cases n with
  | zero =>
    refine ⟨rfl, ?_⟩
    cases k with
    | zero => exact absurd h (by decide)
    | succ k => omega
  | succ n => have := cn_pos n k; omega
/-- Where an IntsAt's numbers lie. -/
theorem ints_cells {w : World} {a : Option Addr} {n cap : Nat} {l : List Int} (h : IntsAt w (.slice a n cap) l) (hl : l.length = n) (hn : 0 < n) :
    ∃ b off, a = some ⟨b, off, none⟩ ∧ b < w.heap.size ∧ ∀ i, i < n → w.cell? ⟨b, off + i, none⟩ = some (.int .i64 (l.getD i 0)) := by
  obtain ⟨a', cap', he, hc⟩ := h
  obtain ⟨b, off, hb⟩ := hc (by omega)
  simp only [Value.slice.injEq] at he
  obtain ⟨rfl, _, _⟩ := he
  rw [hl] at hb
  exact ⟨b, off, hb⟩
theorem u32_mod (z : Int) (c : Nat) (h0 : 0 ≤ z) (hc : 0 < c) : ∃ A : Nat, z % (c : Int) = A ∧ z.tmod (c : Int) = A ∧ A < c := by
  refine ⟨(z % (c : Int)).toNat, ?_, ?_, ?_⟩
  · have := Int.emod_nonneg z (show (c : Int) ≠ 0 by omega); omega
  · rw [Int.tmod_eq_emod_of_nonneg h0]
    have := Int.emod_nonneg z (show (c : Int) ≠ 0 by omega); omega
  · have := Int.emod_nonneg z (show (c : Int) ≠ 0 by omega)
    have := Int.emod_lt_of_pos z (show 0 < (c : Int) by omega)
    omega
set_option maxRecDepth 100000 in
set_option maxHeartbeats 1000000 in
theorem split_law (a b : UInt8) (z : Int) (w : World) (hz : 0 ≤ z ∧ z ≤ 4294967295) :
    Calls Try.prog 8 #[.int .u8 (ub a), .int .u8 (ub b), .int .u32 z] w fun e w' => e = .returned (.bool true) ∧ Below w.heap.size w w' := by
  obtain ⟨ha1, ha2⟩ := ub_bd a
  obtain ⟨hb1, hb2⟩ := ub_bd b
  obtain ⟨hz1, hz2⟩ := hz
  generalize ub a = x at *
  generalize ub b = y at *
  obtain ⟨m, hm⟩ : ∃ m : Nat, x % 8 = m := ⟨(x % 8).toNat, by omega⟩
  obtain ⟨q, hq⟩ : ∃ q : Nat, y % 13 = q := ⟨(y % 13).toNat, by omega⟩
  have hmI : (m : Int) < 8 := by omega
  have hqI : (q : Int) < 13 := by omega
  have HAW := Lib.hid awake_any
  have e0 : (1 : Int) + (m : Int) - 1 = (m : Int) := by omega
  have C1 := Lib.hid fun w => count_at (m : Int) (q : Int) m q w rfl rfl (by omega) (by omega)
  have hcb := cn_big m q (by omega) (by omega)
  by_cases hc0 : cn13 m q = 0
  · obtain ⟨h1, h2⟩ := cn_null m q hc0
    rw [hc0] at C1
    subst h1
    have hq0 : (0 : Int) < (q : Int) := by omega
    go_enter Try.func8, Try.ntmps8
    go_wp2_with fail
    refine (HAW.out w).mono ?_
    rintro e w1 ⟨rfl, hb⟩
    have HB1 := Lib.hid hb
    clear hb
    go_wp2_with fail
    refine (C1.out w1).mono ?_
    rintro e w2 ⟨rfl, hb⟩
    have HB2 := Lib.hid (HB1.out.trans (hb.mono HB1.out.size))
    clear hb HB1
    go_wp2
    go_ret
    exact ⟨rfl, HB2.out⟩
  · obtain ⟨A, hA1, hA2, hA3⟩ := u32_mod z (cn13 m q) hz1 (by omega)
    have hW := cn_wide m q
    obtain ⟨n1, hn1⟩ : ∃ n1, m + 1 = n1 := ⟨_, rfl⟩
    have HZ := Lib.hid (vc_zero m q A hA3)
    rw [hn1] at hW HZ
    have V1 := Lib.hid fun w => vector_at (n1 : Int) (q : Int) (A : Int) n1 q A w rfl rfl rfl (by omega) (by omega) (by omega)
    have V2 := Lib.hid fun w => vector_at (m : Int) (q : Int) (A : Int) m q A w rfl rfl rfl (by omega) (by omega) hA3
    have HL2 := Lib.hid (vc_all m q A hA3).1
    have HL1 : Hid ((vc13 n1 q A).length = n1) := Lib.hid (by rw [HZ.out, List.length_cons, HL2.out, hn1])
    obtain ⟨c, hc⟩ : ∃ c, cn13 m q = c := ⟨_, rfl⟩
    rw [hc] at C1 hcb hA1 hA2 hc0
    have hcI : (c : Int) ≠ 0 := by omega
    have hcp : (0 : Int) < (c : Int) := by omega
    have hcz : ((c : Int) == 0) = false := by rw [beq_eq_false_iff_ne]; omega
    have HM := Lib.hid (show m < 8 by omega)
    have HN1 := Lib.hid hn1
    have e5 : 1 + (m : Int) = (n1 : Int) := by omega
    have e6 : (n1 : Int) - 1 = (m : Int) := by omega
    have hnI : (n1 : Int) ≤ 8 := by omega
    clear hc hA3 hW e0 hn1
    obtain ⟨VA, hVA⟩ : ∃ VA, vc13 n1 q A = VA := ⟨_, rfl⟩
    obtain ⟨VB, hVB⟩ : ∃ VB, vc13 m q A = VB := ⟨_, rfl⟩
    rw [hVA] at V1 HZ HL1
    rw [hVB] at V2 HZ HL2
    clear hVA hVB
    have HP : Hid (0 < n1) := Lib.hid (by have := HN1.out; omega)
    go_enter Try.func8, Try.ntmps8
    go_wp2_with fail
    refine (HAW.out w).mono ?_
    rintro e w1 ⟨rfl, hb⟩
    have HB1 := Lib.hid hb
    clear hb
    go_wp2_with fail
    refine (C1.out w1).mono ?_
    rintro e w2 ⟨rfl, hb⟩
    have HB2 := Lib.hid (HB1.out.trans (hb.mono HB1.out.size))
    clear hb HB1
    go_wp2_with fail
    refine (V1.out w2).mono ?_
    rintro e w3 ⟨⟨a1, cap1, rfl, hi1⟩, hb⟩
    obtain ⟨b1, o1, rfl, hl1, hc1⟩ := ints_cells hi1 HL1.out HP.out
    have HC1 := Lib.hid hc1
    have HL3 := Lib.hid hl1
    have HB3 := Lib.hid (HB2.out.trans (hb.mono HB2.out.size))
    clear hb HB2 hi1 hc1 hl1
    go_wp2_with fail
    refine (V2.out w3).mono ?_
    rintro e w4 ⟨⟨a2, cap2, rfl, hi2⟩, hb⟩
    have HC1 := Lib.hid fun i hi => (hb.cell (p := ⟨b1, o1 + i, none⟩) HL3.out).trans (HC1.out i hi)
    have HC2 := Lib.hid fun h => ints_cells hi2 HL2.out h
    have HL4 := Lib.hid (Nat.lt_of_lt_of_le HL3.out hb.size)
    have HB4 := Lib.hid (HB3.out.trans (hb.mono HB3.out.size))
    clear hb HB3 hi2
    have c0 := HC1.out 0 HP.out
    rw [HZ.out] at c0
    rw [Nat.add_zero, List.getD_cons_zero] at c0
    go_wp2_with fail
    clear c0 hA1 hA2 hcz hcI hcp hcb C1 V1 V2 HAW e5 e6
    go_loopw [15] (fun jj wr => ∃ j : Nat, j ≤ m ∧ jj = .int .i64 j ∧ Below w4.heap.size w4 wr) (fun jj _ => m - (intOf jj).toNat)
    case atStart => exact ⟨0, by omega, rfl, Below.refl _ _⟩
    case round =>
      obtain ⟨j, hj, rfl, hbw⟩ := hrel
      rcases Nat.lt_or_ge j m with hlt | hge
      · obtain ⟨b2, o2, rfl, hl2, hc2⟩ := HC2.out (by omega)
        have g1 := (hbw.cell (p := ⟨b1, o1 + (j + 1), none⟩) HL4.out).trans (HC1.out (j + 1) (by have := HN1.out; omega))
        have g2 := (hbw.cell (p := ⟨b2, o2 + j, none⟩) hl2).trans (hc2 j hlt)
        rw [HZ.out, List.getD_cons_succ] at g1
        generalize VB.getD j 0 = x0 at g1 g2
        have HB := Lib.hid (below_drew1 hbw)
        have HJ := Lib.hid hlt
        have ej : IntKind.i64.wrap ((j : Int) + 1) = ((j + 1 : Nat) : Int) := wi_eq _ _ (by omega) (by omega) (by omega)
        have ej2 : ((j + 1 : Nat) : Int) < (n1 : Int) := by have := HN1.out; omega
        have hjm : (j : Int) < (m : Int) := by omega
        obtain ⟨j1, hj1⟩ : ∃ j1, j + 1 = j1 := ⟨_, rfl⟩
        rw [hj1] at g1 ej ej2
        have HJ1 := Lib.hid hj1
        clear hc2 hj hbw hl2 hj1 HC2
        go_wp2_with fail
        refine wp_region_still_lit (by kernel_rfl) (by kernel_rfl) ?_
        repeat still_step
        refine wpStill_nil ?_
        rw [show ({ wr with drawn := wr.drawn + 1 } : World) = wr.drew from rfl]
        clear g1 g2
        generalize wr.drew = w6 at *
        go_wp2_with fail
        go_roundw
        case rel => exact ⟨j1, by have := HJ1.out; have := HJ.out; omega, rfl, HB.out⟩
        case measure =>
          have h1 := HJ1.out
          subst h1
          exact ms13 m j HJ.out
      · obtain rfl : j = m := by omega
        have HB := Lib.hid (HB4.out.trans (hbw.mono HB4.out.size))
        clear hbw HC2 HC1
        go_wp2
        go_ret
        exact ⟨rfl, HB.out⟩
end Go.Proofs.Ytjdiecpbjajkiaa
