/-
  BandDoubles: of coefficients doubled the step is one more, as long as it may be, and they weren't soft. Conditions: four ints.
-/
import Derived.Test.YtagcdnglipdldaaBnh
namespace Go.Proofs.Ytagcdnglipdldaa
open Go.RowKit
open M
theorem gm16_twice (a b c d : Int) : gm16 [2 * a, 2 * b, 2 * c, 2 * d] = 2 * gm16 [a, b, c, d] := by
  rw [gm16_cells, gm16_cells]
  omega
theorem twice_facts (G s e : Nat) (hs : stp G = s) (he : stp (2 * G) = e) : s ≤ 15 ∧ e ≤ 15 ∧ s ≤ e ∧ e ≤ s + 1 ∧ (s = 0 ∨ e = min (s + 1) 15) := by
  have h1 := stp_twice G
  have h2 := stp_le G
  have h3 := stp_le (2 * G)
  rw [hs, he] at h1
  rw [hs] at h2
  rw [he] at h3
  omega
theorem min_step (s : Nat) (w : World) : (Builtin.min_ #[3, 3] 3 #[.int .i64 ((s : Int) + 1), .int .i64 15]).run Try.prog w = .ok (.int .i64 ((min (s + 1) 15 : Nat) : Int)) w := by
  simp [Builtin.min_, Builtin.min2]
  omega
set_option maxRecDepth 100000 in
set_option maxHeartbeats 1000000 in
theorem doubles_law (l : List Int) (w : World) (hl : l.length = 4) :
    Calls Try.prog 6 #[.agg (iCells l)] w fun e w' => e = .returned (.bool true) ∧ Below w.heap.size w w' := by
  have HL := Lib.hid hl
  obtain ⟨g, hg⟩ : ∃ g, w.heap.size = g := ⟨_, rfl⟩
  have HR : Hid (Row (w.alloc (.cells (iCells l) 23)) g 23 (iCells l)) := Lib.hid (hg ▸ heap_alloc_new _ _)
  have HB : Hid (Below g w (w.alloc (.cells (iCells l) 23))) := Lib.hid ((Below.refl _ _).alloc (by omega) _)
  have HG := Lib.hid hg
  clear hl
  rw [hg]
  clear hg
  go_enter Try.func6, Try.ntmps6
  go_wp2_with fail
  rw [HG.out]
  generalize w.alloc (.cells (iCells l) 23) = w1 at *
  refine (awake16_any _).mono ?_
  rintro e w2 ⟨rfl, hb2⟩
  have HR2 := Lib.hid (Row.box HR.out hb2)
  have HB2 := Lib.hid (HB.out.trans (hb2.mono (Nat.le_of_lt (Row.lt HR.out))))
  clear HR HB hb2
  go_wp2_with fail
  go_loopw [3] (fun ii wr => ∃ (k : Nat) (L : List Int), k ≤ 4 ∧ ii = .int .i64 k ∧ L.length = 4 ∧ (∀ j, j < k → -1125899906842624 < L.getD j 0 ∧ L.getD j 0 < 1125899906842624) ∧ Row wr g 23 (iCells L) ∧ Below g w wr) (fun ii _ => 4 - (intOf ii).toNat)
  case atStart => exact ⟨0, l, by omega, rfl, HL.out, fun j hj => by omega, HR2.out, HB2.out⟩
  case round =>
    clear HR2 HB2
    obtain ⟨k, L, hk, rfl, hL, hall, h1, h4⟩ := hrel
    have HR := Lib.hid h1
    have HB := Lib.hid h4
    have HL2 := Lib.hid hL
    have HAL := Lib.hid hall
    clear h1 h4 hL hall
    rcases Nat.lt_or_ge k 4 with hlt | hge
    · have HK := Lib.hid hlt
      have hkI : (k : Int) < 4 := by omega
      have c0 := i_at HR.out k (by rw [HL2.out]; exact hlt)
      have z0 := frozen_of_row _ _ k _ _ HR.out
      obtain ⟨x, hx⟩ : ∃ x, L.getD k 0 = x := ⟨_, rfl⟩
      rw [hx] at c0
      have hy := rem50 x
      obtain ⟨y, hxy⟩ : ∃ y, x.tmod 1125899906842624 = y := ⟨_, rfl⟩
      rw [hxy] at hy
      have HY := Lib.hid hy
      have hwy : IntKind.i64.wrap y = y := by rw [IntKind.wrap_i64]; omega
      clear hk hlt hx hy
      go_wp2_with fail
      go_roundw
      case rel =>
        refine ⟨k + 1, L.set k y, HK.out, by go_num, by rw [List.length_set]; exact HL2.out, fun j hj => ?_, ?_, HB.out.setCell (by simp) _⟩
        · have e : (L.set k y).getD j 0 = if k = j then y else L.getD j 0 := by
            rw [List.getD_eq_getElem?_getD, List.getElem?_set]
            by_cases h : k = j
            · subst h; rw [if_pos rfl, if_pos (by rw [HL2.out]; exact HK.out), if_pos rfl]; rfl
            · rw [if_neg h, if_neg h, ← List.getD_eq_getElem?_getD]
          rw [e]
          by_cases h : k = j
          · rw [if_pos h]; exact HY.out
          · rw [if_neg h]; exact HAL.out j (by omega)
        · rw [← iCells_set]; exact Row.set HR.out k _
      case measure =>
        have := HK.out
        simp [intOf] <;> omega
    · obtain rfl : k = 4 := by omega
      obtain ⟨a, b, c, d, rfl⟩ := four_list L HL2.out
      have ba := HAL.out 0 (by omega)
      have bb := HAL.out 1 (by omega)
      have bc := HAL.out 2 (by omega)
      have bd := HAL.out 3 (by omega)
      simp only [List.getD_cons_zero, List.getD_cons_succ] at ba bb bc bd
      clear hk hge HAL HL2
      have HSZ := Lib.hid (four_size [a, b, c, d] rfl)
      go_wp2_with (refine wpList_load_row rfl 23 (.tmp 1) rfl g rfl 23 (iCells [a, b, c, d]) (0, 0) _ HR.out Try.underlying23 rfl HSZ.out ?_)
      refine (step16_any [a, b, c, d] _ rfl).mono ?_
      rintro e w3 ⟨rfl, hb3⟩
      have HR3 := Lib.hid (Row.box HR.out hb3)
      have HB3 := Lib.hid (HB.out.trans (hb3.mono (Nat.le_of_lt (Row.lt HR.out))))
      clear HR HB hb3
      have hG2 := gm16_twice a b c d
      obtain ⟨G, hG⟩ : ∃ G, gm16 [a, b, c, d] = G := ⟨_, rfl⟩
      rw [hG] at hG2
      rw [hG]
      obtain ⟨s, hs⟩ : ∃ s, stp G = s := ⟨_, rfl⟩
      rw [hs]
      obtain ⟨e, he⟩ : ∃ e, stp (2 * G) = e := ⟨_, rfl⟩
      have HS2 : Hid (∀ w, Calls Try.prog 11 #[.agg #[.int .i64 (2 * a), .int .i64 (2 * b), .int .i64 (2 * c), .int .i64 (2 * d)]] w fun e1 w' => e1 = .returned (.int .i64 (e : Nat)) ∧ Below w.heap.size w w') := Lib.hid fun w => by
        have := step16_cells (2 * a) (2 * b) (2 * c) (2 * d) w
        rw [hG2, he] at this
        exact this
      have HF := Lib.hid (twice_facts G s e hs he)
      have c0 := i_at HR3.out 0 (by simp)
      have c1 := i_at HR3.out 1 (by simp)
      have c2 := i_at HR3.out 2 (by simp)
      have c3 := i_at HR3.out 3 (by simp)
      simp only [List.getD_cons_zero, List.getD_cons_succ] at c0 c1 c2 c3
      have w0 : IntKind.i64.wrap (2 * a) = 2 * a := by rw [IntKind.wrap_i64]; omega
      have w1' : IntKind.i64.wrap (2 * b) = 2 * b := by rw [IntKind.wrap_i64]; omega
      have w2' : IntKind.i64.wrap (2 * c) = 2 * c := by rw [IntKind.wrap_i64]; omega
      have w3' : IntKind.i64.wrap (2 * d) = 2 * d := by rw [IntKind.wrap_i64]; omega
      have hz : ∀ w, (zeroValue 23).run Try.prog w = .ok (.agg #[.int .i64 0, .int .i64 0, .int .i64 0, .int .i64 0]) w := four_z16
      clear hG hs he hG2 ba bb bc bd
      go_wp2_with fail
      refine (HS2.out _).mono ?_
      rintro e1 w5 ⟨rfl, hb5⟩
      have HB5 := Lib.hid (HB3.out.trans (hb5.mono (Nat.le_of_lt (Row.lt HR3.out))))
      clear c0 c1 c2 c3 HS2 HR3 HB3 hb5 hz
      obtain ⟨hs15, he15, h1, h2, h3⟩ := HF.out
      have hge : (e : Int) ≥ (s : Int) := by omega
      have hw1 : IntKind.i64.wrap ((s : Int) + 1) = (s : Int) + 1 := by rw [IntKind.wrap_i64]; omega
      have hle : (e : Int) ≤ (s : Int) + 1 := by omega
      have hmn := min_step s
      obtain ⟨v, hv⟩ : ∃ v : Nat, min (s + 1) 15 = v := ⟨_, rfl⟩
      rw [hv] at hmn
      by_cases e0 : s = 0
      · have hle1 : (e : Int) ≤ 1 := by omega
        have hge0 : (e : Int) ≥ 0 := by omega
        clear h1 h2 h3 HF hv
        subst e0
        go_wp2_with fail
        go_ret
        exact ⟨rfl, HB5.out⟩
      · obtain rfl : e = v := by omega
        have hn0 : ¬ (s : Int) = 0 := by omega
        clear h1 h2 h3 HF hv
        go_wp2_with fail
        go_ret
        exact ⟨rfl, HB5.out⟩
end Go.Proofs.Ytagcdnglipdldaa
