/-
  mask's All. Conditions: eight ints.
-/
import Derived.Test.YtfpmdbdgikphdaaMlb
namespace Go.Proofs.Ytfpmdbdgikphdaa
open Go.RowKit
open M
/-- What All has put, as far as k. -/
def al17 (l : List Int) (k : Nat) : List Int := (List.range 8).map fun b => if b < k then bdI l (b : Nat) else 0
theorem al17_len (l : List Int) (k : Nat) : (al17 l k).length = 8 := by simp [al17]
theorem al17_get (l : List Int) (k b : Nat) (h : b < 8) : (al17 l k).getD b 0 = if b < k then bdI l (b : Nat) else 0 := by
  unfold al17
  rw [List.getD_eq_getElem?_getD, List.getElem?_map, List.getElem?_range h]
  rfl
theorem al17_zero (l : List Int) : al17 l 0 = zs8 := list_eqn 8 _ _ (al17_len l 0) zs8_length fun j hj => by
  rw [al17_get _ _ _ hj, if_neg (by omega)]
  unfold zs8
  rw [List.getD_eq_getElem?_getD, List.getElem?_replicate, if_pos hj]; rfl
theorem al17_all (l : List Int) : al17 l 8 = alL l := list_eqn 8 _ _ (al17_len l 8) (alL_len l) fun j hj => by
  rw [al17_get _ _ _ hj, if_pos hj, alL_get _ _ hj]
theorem al17_set (l : List Int) (k : Nat) (h : k < 8) : (al17 l k).set k (bdI l (k : Nat)) = al17 l (k + 1) := by
  refine list_eqn 8 _ _ (by rw [List.length_set, al17_len]) (al17_len _ _) fun j hj => ?_
  rw [set_getD13 _ _ _ _ (by rw [al17_len]; exact h), al17_get _ _ _ hj, al17_get _ _ _ hj]
  by_cases e : j = k
  · rw [if_pos e, if_pos (by omega), e]
  · rw [if_neg e]
    by_cases q : j < k
    · rw [if_pos q, if_pos (by omega)]
    · rw [if_neg q, if_neg (by omega)]
set_option maxRecDepth 100000 in
set_option maxHeartbeats 1000000 in
theorem all17_any (l : List Int) (w : World) (hl : l.length = 8) :
    Calls Try.prog 18 #[.agg (iCells l)] w fun e w' => e = .returned (.agg (iCells (alL l))) ∧ Below w.heap.size w w' := by
  have HL := Lib.hid hl
  have HSZ := Lib.hid (sds_size l hl)
  have HBU := Lib.hid fun (b : Int) w => budget17_any l b w hl
  have hz := sds_zero
  obtain ⟨g, hg⟩ : ∃ g, w.heap.size = g := ⟨_, rfl⟩
  have HR : Hid (Row (((w.alloc (.cells (iCells l) 24)).alloc (.cells (iCells zs8) 24)).alloc (.cells (iCells zs8) 24)) g 24 (iCells l)) := Lib.hid (hg ▸ Row.alloc (Row.alloc (heap_alloc_new _ _) _) _)
  have HA : Hid (Row (((w.alloc (.cells (iCells l) 24)).alloc (.cells (iCells zs8) 24)).alloc (.cells (iCells zs8) 24)) (g + 1) 24 (iCells zs8)) := Lib.hid (Row.alloc (row_new _ _ (by simp [hg]) _ _) _)
  have HC : Hid (Row (((w.alloc (.cells (iCells l) 24)).alloc (.cells (iCells zs8) 24)).alloc (.cells (iCells zs8) 24)) (g + 1 + 1) 24 (iCells zs8)) := Lib.hid (row_new _ _ (by simp [hg]) _ _)
  have HB : Hid (Below g w (((w.alloc (.cells (iCells l) 24)).alloc (.cells (iCells zs8) 24)).alloc (.cells (iCells zs8) 24))) := Lib.hid ((((Below.refl _ _).alloc (by omega) _).alloc (by simp; omega) _).alloc (by simp; omega) _)
  have HG := Lib.hid hg
  have H0 := Lib.hid (al17_zero l)
  clear hl
  rw [hg]
  clear hg
  go_enter Try.func18, Try.ntmps18
  go_wp2_with fail
  rw [HG.out]
  generalize ((w.alloc (.cells (iCells l) 24)).alloc (.cells (iCells zs8) 24)).alloc (.cells (iCells zs8) 24) = w1 at *
  clear hz
  go_loopw [4, 5] (fun bb ii wr => ∃ (k : Nat), k ≤ 8 ∧ ii = .int .i64 k ∧ Row wr g 24 (iCells l) ∧ Row wr (g + 1) 24 (iCells zs8) ∧ Row wr (g + 1 + 1) 24 (iCells (al17 l k)) ∧ Below g w wr) (fun _ ii _ => 8 - (intOf ii).toNat)
  case atStart => exact ⟨0, by omega, rfl, HR.out, HA.out, by rw [H0.out]; exact HC.out, HB.out⟩
  case round =>
    clear HR HA HC HB
    obtain ⟨k, hk, rfl, h1, h2, h3, h4⟩ := hrel
    have HR := Lib.hid h1
    have HA := Lib.hid h2
    have HC := Lib.hid h3
    have HB := Lib.hid h4
    clear h1 h2 h3 h4
    rcases Nat.lt_or_ge k 8 with hlt | hge
    · have HK := Lib.hid hlt
      have hkI : (k : Int) < 8 := by omega
      have HST := Lib.hid (al17_set l k hlt)
      have HLN := Lib.hid (al17_len l k)
      have HBK := Lib.hid fun w => HBU.out (k : Int) w
      clear hk hlt
      go_wp2_with (refine wpList_load_row rfl 24 (.tmp 1) rfl g rfl 24 (iCells l) (0, 0) _ HR.out Try.underlying24 rfl HSZ.out ?_)
      refine (HBK.out _).mono ?_
      rintro e w3 ⟨rfl, hb3⟩
      have HR3 := Lib.hid (Row.box HR.out hb3)
      have HA3 := Lib.hid (Row.box HA.out hb3)
      have HC3 := Lib.hid (Row.box HC.out hb3)
      have HB3 := Lib.hid (HB.out.trans (hb3.mono (Nat.le_of_lt (Row.lt HR.out))))
      clear HR HA HC HB hb3 HBK HBU
      generalize bdI l (k : Int) = x at *
      generalize al17 l k = L at *
      have c0 := i_at HC3.out k (by rw [HLN.out]; exact HK.out)
      have z0 := frozen_of_row _ _ k _ _ HC3.out
      go_wp2_with fail
      go_roundw
      case rel =>
        refine ⟨k + 1, HK.out, by go_num, Row.far HR3.out (by simp; omega) _, Row.far HA3.out (by simp) _, ?_, HB3.out.setCell (by simp; omega) _⟩
        rw [← HST.out, ← iCells_set]; exact Row.set HC3.out k _
      case measure =>
        have := HK.out
        simp [intOf] <;> omega
    · obtain rfl : k = 8 := by omega
      have HE := Lib.hid (al17_all l)
      have HLN := Lib.hid (al17_len l 8)
      clear hk hge HBU
      generalize al17 l 8 = L at *
      have HSZ2 := Lib.hid (sds_size L HLN.out)
      have HSS := Lib.hid (sds_same zs8 L zs8_length HLN.out)
      go_wp2_with (first
        | (refine wpList_load_row rfl 24 (.tmp 3) rfl (g + 1 + 1) rfl 24 (iCells L) (0, 0) _ HC.out Try.underlying24 rfl HSZ2.out ?_)
        | (refine wpList_store_row rfl 24 (.tmp 2) (.tmp 14) rfl (g + 1) (iCells L) rfl rfl 24 (iCells zs8) HA.out HSZ2.out HSS.out (iCells_one L) ?_))
      refine bodyPost_ret (v := .agg (iCells L)) (results_cell_row Try.results18 _ _ (g + 1) 24 (iCells L) (0, 0) _ rfl (Row.setRow HA.out _) Try.underlying24 rfl HSZ2.out) rfl ⟨by rw [HE.out], below_setRow HB.out (by omega) _⟩
end Go.Proofs.Ytfpmdbdgikphdaa
