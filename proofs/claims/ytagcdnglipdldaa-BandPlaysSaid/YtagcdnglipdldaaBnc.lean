/-
  band's Step: the step of the greatest of four. Conditions: four numbers.
-/
import Derived.Test.YtagcdnglipdldaaBnb
import Derived.Test.YtagcdnglipdldaaRfa
import Derived.Stop.Joined
import Derived.Deep.RegionWith
namespace Go.Proofs.Ytagcdnglipdldaa
open Go.RowKit
open M
theorem ints_row16 {w : World} {g : Nat} {t : TypeId} {f : List Int} (h : Row w g t (iCells f)) (c : Nat) : IntsAt w (.slice (some ⟨g, 0, none⟩) f.length c) f :=
  ⟨_, c, rfl, fun _ => ⟨g, 0, rfl, Row.lt h, fun i hi => by rw [Nat.zero_add]; exact i_at h i hi⟩⟩
theorem grt_gm (l : List Int) (T : Nat) (hl : l.length = 4) : l.any (grt (T : Int)) = !decide (gm16 l ≤ T) := by
  match l, hl with
  | [a, b, c, d], _ =>
    unfold gm16 grt
    simp only [List.any_cons, List.any_nil, Bool.or_false, List.getD_cons_zero, List.getD_cons_succ]
    rw [Bool.eq_iff_iff]
    simp only [Bool.or_eq_true, decide_eq_true_eq, Bool.not_eq_true', decide_eq_false_iff_not]
    omega
set_option maxRecDepth 100000 in
set_option maxHeartbeats 1000000 in
theorem step16_any (l : List Int) (w : World) (hl : l.length = 4) :
    Calls Try.prog 11 #[.agg (iCells l)] w fun e w' => e = .returned (.int .i64 (stp (gm16 l) : Nat)) ∧ Below w.heap.size w w' := by
  have HL := Lib.hid hl
  have HR : Hid (Row (w.alloc (.cells (iCells l) 23)) w.heap.size 23 (iCells l)) := Lib.hid (heap_alloc_new _ _)
  have HB : Hid (Below w.heap.size w (w.alloc (.cells (iCells l) 23))) := Lib.hid ((Below.refl _ _).alloc (Nat.le_refl _) _)
  clear hl
  go_enter Try.func11, Try.ntmps11
  go_wp2_with fail
  generalize w.alloc (.cells (iCells l) 23) = w1 at *
  obtain ⟨g, hg⟩ : ∃ g, w.heap.size = g := ⟨_, rfl⟩
  rw [hg] at HR HB ⊢
  have hgw := Lib.hid hg
  clear hg
  go_loopw [3] (fun ii wr => ∃ (s : Nat), s ≤ 15 ∧ ii = .int .i64 s ∧ stpN (gm16 l) s (15 - s) = stp (gm16 l) ∧ Row wr g 23 (iCells l) ∧ Below g w wr) (fun ii _ => 15 - (intOf ii).toNat)
  case atStart => exact ⟨0, by omega, rfl, rfl, HR.out, HB.out⟩
  case round =>
    obtain ⟨s, hs, rfl, hst, hr, hb⟩ := hrel
    have HST := Lib.hid hst
    have HRR := Lib.hid hr
    have HBB := Lib.hid hb
    clear hst hr hb HR HB
    rcases Nat.lt_or_ge s 15 with hlt | hge
    · have hsI : (s : Int) < 15 := by omega
      obtain ⟨T, hT⟩ : ∃ T : Nat, 6 * 2 ^ s = T := ⟨_, rfl⟩
      have HT := Lib.hid hT
      have HS := Lib.hid hlt
      have hTb : (T : Int) ≤ 9223372036854775807 := by
        have := pow2_le s 14 (by omega)
        omega
      have HTB := Lib.hid hTb
      have hN : stpN (gm16 l) s (15 - s) = if gm16 l ≤ 6 * 2 ^ s then s else stpN (gm16 l) (s + 1) (15 - (s + 1)) := by
        have e : 15 - s = (15 - (s + 1)) + 1 := by have := HS.out; omega
        rw [e]
        rfl
      rw [HST.out, hT] at hN
      have HN := Lib.hid hN
      have HGM := Lib.hid (grt_gm l T HL.out)
      clear hs hlt hT hTb hN HST
      go_wp2_with fail
      go_region_with (first
        | (go_at_call 21; refine (toog_any s T _ (Nat.le_of_lt_succ HS.out) HT.out).mono ?_; rintro e w6 ⟨gb, rfl, hcb, hb6⟩; have HR6 := Lib.hid (Row.box (w := wr.drew) HRR.out hb6); have HB6 := Lib.hid ((below_drew1 HBB.out).trans (hb6.mono (show g ≤ wr.heap.size from Nat.le_of_lt (Row.lt HRR.out)))); have HCB := Lib.hid hcb; clear hcb hb6 HRR HBB)
        | (go_at_call 20; refine (gcontains_any T l _ gb w6 (by have := ints_row16 HR6.out 4; rw [HL.out] at this; exact this) (by rw [HL.out]; decide) HCB.out (by omega) HTB.out).mono ?_; rintro e w7 ⟨rfl, rfl⟩; rw [HGM.out]))
      (try simp only [List.getElem_toArray, List.getElem_cons_succ, List.getElem_cons_zero, Act.put, List.setIfInBounds_toArray, List.set_cons_zero, List.set_cons_succ])
      by_cases hf : gm16 l ≤ T
      · rw [if_pos hf] at HN
        rw [decide_eq_true hf]
        clear hf HGM
        go_wp2_with fail
        go_ret
        exact ⟨by rw [HN.out]; rfl, by rw [hgw.out]; exact HB6.out⟩
      · rw [if_neg hf] at HN
        rw [decide_eq_false hf]
        clear hf HGM
        go_wp2_with fail
        go_roundw
        case rel => exact ⟨s + 1, HS.out, by go_num, HN.out.symm, HR6.out, HB6.out⟩
        case measure =>
          have := HS.out
          simp [intOf] <;> omega
    · obtain rfl : s = 15 := by omega
      clear hs hge
      go_wp2_with fail
      go_region
      go_wp2_with fail
      go_ret
      exact ⟨by rw [← HST.out]; rfl, by rw [hgw.out]; exact below_drew1 HBB.out⟩
end Go.Proofs.Ytagcdnglipdldaa
