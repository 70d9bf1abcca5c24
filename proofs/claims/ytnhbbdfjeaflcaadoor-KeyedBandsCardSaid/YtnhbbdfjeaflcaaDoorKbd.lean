/-
  The walk of the law KeyedBands: it returns true, and nothing that was there is changed. Condition: the signs lie as the program's text lays them.
-/
import Derived.Test.YtnhbbdfjeaflcaaDoorKc
namespace Go.Proofs.YtnhbbdfjeaflcaaDoor
open Go.RowKit
open M

theorem kord_once (k : List UInt8) (sg : UInt8) (n : Nat) (hn : 1 ≤ n) : (kord k sg n).length = n ∧ (kord k sg n).Nodup ∧ ∀ i, i < n → (kord k sg n).getD i 0 < n :=
  ⟨ord_length _ _, ord_nodup _ (jn_le _ _) _ hn, fun _ hi => ord_at _ (jn_le _ _) _ _ hi⟩
theorem tmod_bd (n : Int) : -1000000 < n.tmod 1000000 ∧ n.tmod 1000000 < 1000000 := by
  have h1 := Int.tmod_lt_of_pos n (show (0 : Int) < 1000000 by decide)
  rcases Int.le_total 0 n with h | h
  · have := Int.tmod_nonneg 1000000 h; omega
  · have h3 := Int.tmod_lt_of_pos (-n) (show (0 : Int) < 1000000 by decide)
    rw [Int.neg_tmod] at h3; omega
theorem own_below {w w' : World} {base n size : Nat} {e : TypeId} {v : Value} {xs : List Value} (h : w.ownsRow base e size v n xs) (hb : Below w.heap.size w w') : w'.ownsRow base e size v n xs := by
  refine ⟨h.1, ?_⟩
  rcases h.2 with h0 | ⟨g, cap, cur, h1, h2, h3, h4⟩
  · exact Or.inl h0
  · exact Or.inr ⟨g, cap, cur, h1, h2, (hb.block g (Row.lt h3)).trans h3, h4⟩
/-- The first j of a list, as they were appended. -/
def natV (l : List Nat) (j : Nat) : List Value := (l.take j).map fun x : Nat => Value.int .i64 (x : Int)
theorem natV_succ (l : List Nat) (j : Nat) (h : j < l.length) : natV l (j + 1) = natV l j ++ [.int .i64 (l.getD j 0 : Nat)] := by
  unfold natV
  rw [List.take_succ_eq_append_getElem h, List.map_append, List.getD, List.getElem?_eq_getElem h]
  rfl
theorem natV_get (l : List Nat) (i : Nat) (h : i < l.length) : (natV l l.length)[i]? = some (.int .i64 (l.getD i 0 : Nat)) := by
  unfold natV
  simp [h]
theorem bandOf_at (k : List UInt8) (m : Int) (j : Nat) (hj : j < 8) : bandOf k (m * 8 + j) = (kord k (UInt8.ofNat (128 + (m % 127).toNat)) 8).getD j 0 := by
  have e : fr (m * 8 + j) = 8 * (m % 127).toNat + j := by unfold fr; omega
  unfold bandOf
  rw [e, show (8 * (m % 127).toNat + j) / 8 = (m % 127).toNat by omega, show (8 * (m % 127).toNat + j) % 8 = j by omega]
theorem placeOf_at (k : List UInt8) (m : Int) (j : Nat) (hj : j < 127) : placeOf k (m * 1016 + j) = (kord k 112 127).getD j 0 := by
  have e : fr (m * 1016 + j) = j := by unfold fr; omega
  unfold placeOf
  rw [e, show j % 127 = j by omega]

set_option maxRecDepth 100000 in
set_option maxHeartbeats 2000000 in
theorem bands_law (k : List UInt8) (n : Int) (w : World) (hk : k.length = 16) (h : Signs w) :
    Calls Tryd.prog 3 #[.agg (byteCells k), .int .i64 n] w fun e w' => e = .returned (.bool true) ∧ Below w.heap.size w w' := by
  obtain ⟨i0, hi0, hz0, hz1, hz2⟩ := info_parts int_info
  have HT := Lib.hid (And.intro hi0 (And.intro hz0 (And.intro hz1 hz2)))
  clear hi0 hz0 hz1 hz2
  have b1 := (tmod_bd n).1
  have b2 := (tmod_bd n).2
  have hb0 : Below w.heap.size w (w.alloc (.cells (byteCells k) 23)) := (Below.refl _ _).alloc (Nat.le_refl _) _
  have HG := Lib.hid (h.below hb0 h.lt)
  have HR0 : Hid (Row (w.alloc (.cells (byteCells k) 23)) w.heap.size 23 (byteCells k)) := heap_alloc_new _ _
  have HB0 := Lib.hid hb0
  have HI := Lib.hid (key_info k hk)
  clear h hb0
  go_enter Tryd.func3, Tryd.ntmps3
  go_wp2_with fail
  refine (awake_any _ HG.out).mono ?_
  rintro e w1 ⟨rfl, hb⟩
  have HR1 := Lib.hid (HR0.out.below hb HR0.out.lt)
  have HB1 := Lib.hid (HB0.out.trans (hb.mono HB0.out.size))
  have HG1 := Lib.hid (HG.out.below hb HG.out.lt)
  clear hb HR0 HB0 HG
  go_wp2_with fail
  generalize n.tmod 1000000 = m at *
  obtain ⟨L, hL⟩ : ∃ L, kord k (UInt8.ofNat (128 + (m % 127).toNat)) 8 = L := ⟨_, rfl⟩
  have hLo := kord_once k (UInt8.ofNat (128 + (m % 127).toNat)) 8 (by omega)
  rw [hL] at hLo
  have HLO := Lib.hid hLo
  have HAT := Lib.hid (bandOf_at k m)
  have HLL := Lib.hid hL
  clear hLo hL
  go_loopw [6, 8] (fun v i wr => ∃ j : Nat, j ≤ 8 ∧ i = .int .i64 j ∧ wr.ownsRow w1.heap.size 3 1 v j (natV L j) ∧ Below w1.heap.size w1 wr) (fun _ i _ => 8 - (intOf i).toNat)
  case atStart => exact ⟨0, Nat.zero_le _, rfl, World.ownsRow_nil _ _ _ _, Below.refl _ _⟩
  case round =>
    obtain ⟨j, hj, rfl, hown, hb⟩ := hrel
    have HO := Lib.hid hown
    have HB := Lib.hid hb
    have HR := Lib.hid (HR1.out.below hb HR1.out.lt)
    have HS := Lib.hid (HG1.out.below hb HG1.out.lt)
    clear hown hb
    by_cases hlt : j < 8
    · go_wp2_with (refine wpList_load_row rfl 23 (.tmp 2) rfl w.heap.size rfl 23 (byteCells k) (0, 0) _ HR.out Tryd.underlying23 rfl HI.out ?_)
      refine (band_any k (m * 8 + j) _ hk HS.out).mono ?_
      rintro e w2 ⟨rfl, hb⟩
      rw [HAT.out j hlt, HLL.out]
      have HO2 := Lib.hid (own_below HO.out hb)
      have HB2 := Lib.hid (HB.out.trans (hb.mono HB.out.size))
      clear hb HO HB HR HS
      go_wp2_with (at_builtin; refine wpList_append_own _ rfl _ _ 25 rfl w1.heap.size 3 i0 (.int .i64 0) 1 8 Tryd.underlying25 HT.out.1 HT.out.2.1 HT.out.2.2.1 HT.out.2.2.2 rfl (by decide) _ _ _ rfl (HO2.out.alloc _) ⟨w2.heap.size, 0, none⟩ 1 1 [.int .i64 (L.getD j 0 : Nat)] rfl rfl (one_new _ _ rfl _ _) one_cell ?c3 ?c4 ?c5 ?_)
      case c3 => unfold maxLen; omega
      case c4 => omega
      case c5 => have := HB2.out.size; simp; omega
      intro v' w3 hown' hgrow _
      have R : Hid (w3.ownsRow w1.heap.size 3 1 v' (j + 1) (natV L (j + 1)) ∧ Below w1.heap.size w1 w3) :=
        ⟨by rw [natV_succ L j (by rw [HLO.out.1]; exact hlt)]; exact hown', (HB2.out.alloc HB2.out.size _).grown hgrow (by have := HB2.out.size; simp; omega) (fun k hk => own_ge HO2.out k hk)⟩
      clear hown' hgrow HO2 HB2
      go_wp2
      go_roundw
      case rel => exact ⟨j + 1, by omega, by go_num, R.out⟩
      case measure => simp [intOf]; omega
    · obtain rfl : j = 8 := by omega
      rename World => wa
      obtain ⟨g, cap, rfl, hgb, hgl, hgc⟩ := own_cells HO.out (by omega)
      have HGC := Lib.hid (And.intro hgl hgc)
      have HBW := Lib.hid (HB1.out.trans (HB.out.mono HB1.out.size))
      clear hgb hgl hgc HO HB HAT HLL
      obtain ⟨L2, hL2⟩ : ∃ L2, kord k 112 127 = L2 := ⟨_, rfl⟩
      have hLo2 := kord_once k 112 127 (by omega)
      rw [hL2] at hLo2
      have HLO2 := Lib.hid hLo2
      obtain ⟨M, hM⟩ : ∃ M, m * 1016 = M := ⟨_, rfl⟩
      have HAT2 := Lib.hid (placeOf_at k m)
      rw [hM] at HAT2
      have hM1 : -1016000000 ≤ M := by omega
      have hM2 : M ≤ 1016000000 := by omega
      clear b1 b2 HR1 HB1 HG1 hj hlt
      obtain ⟨T, hT⟩ : ∃ T : Nat, T = 127 := ⟨_, rfl⟩
      have HTT := Lib.hid hT
      clear hT
      have HLL2 := Lib.hid hL2
      clear hLo2 hL2
      rw [show ((8 : Nat) : Int) = (8 : Int) from rfl]
      go_wp2_with fail
      go_loopw [7, 9] (fun v i wr => ∃ j : Nat, j ≤ T ∧ i = .int .i64 j ∧ wr.ownsRow wa.heap.size 3 1 v j (natV L2 j) ∧ Below wa.heap.size wa wr) (fun _ i _ => T - (intOf i).toNat)
      case atStart => exact ⟨0, Nat.zero_le _, rfl, World.ownsRow_nil _ _ _ _, Below.refl _ _⟩
      case round =>
        obtain ⟨j, hj2, rfl, hown, hb⟩ := hrel
        have HO := Lib.hid hown
        have HB := Lib.hid hb
        have HR2 := Lib.hid (HR.out.below hb HR.out.lt)
        have HS2 := Lib.hid (HS.out.below hb HS.out.lt)
        clear hown hb
        by_cases hlt2 : j < T
        · have hji : (j : Int) < 127 := by have := HTT.out; omega
          have hj7 : j < 127 := by omega
          go_wp2_with (refine wpList_load_row rfl 23 (.tmp 2) rfl w.heap.size rfl 23 (byteCells k) (0, 0) _ HR2.out Tryd.underlying23 rfl HI.out ?_)
          refine (place_any k (M + j) _ hk HS2.out).mono ?_
          rintro e w2 ⟨rfl, hb⟩
          rw [HAT2.out j hj7, HLL2.out]
          have HO2 := Lib.hid (own_below HO.out hb)
          have HB2 := Lib.hid (HB.out.trans (hb.mono HB.out.size))
          clear hb HO HB HR2 HS2
          go_wp2_with (at_builtin; refine wpList_append_own _ rfl _ _ 25 rfl wa.heap.size 3 i0 (.int .i64 0) 1 8 Tryd.underlying25 HT.out.1 HT.out.2.1 HT.out.2.2.1 HT.out.2.2.2 rfl (by decide) _ _ _ rfl (HO2.out.alloc _) ⟨w2.heap.size, 0, none⟩ 1 1 [.int .i64 (L2.getD j 0 : Nat)] rfl rfl (one_new _ _ rfl _ _) one_cell ?d3 ?d4 ?d5 ?_)
          case d3 => unfold maxLen; omega
          case d4 => omega
          case d5 => have := HB2.out.size; simp; omega
          intro v' w3 hown' hgrow _
          have R : Hid (w3.ownsRow wa.heap.size 3 1 v' (j + 1) (natV L2 (j + 1)) ∧ Below wa.heap.size wa w3) :=
            ⟨by rw [natV_succ L2 j (by rw [HLO2.out.1]; exact hj7)]; exact hown', (HB2.out.alloc HB2.out.size _).grown hgrow (by have := HB2.out.size; simp; omega) (fun k hk => own_ge HO2.out k hk)⟩
          clear hown' hgrow HO2 HB2
          go_wp2
          go_roundw
          case rel => exact ⟨j + 1, by omega, by go_num, R.out⟩
          case measure => simp [intOf]; omega
        · obtain rfl : j = T := by omega
          have hTI : ¬ ((j : Int) < 127) := by have := HTT.out; omega
          have hT := HTT.out
          rw [hT] at HO
          clear hT
          obtain ⟨g2, cap2, rfl, hgb, hgl, hgc⟩ := own_cells HO.out (by omega)
          have HGC2 := Lib.hid (And.intro hgl hgc)
          clear hgb hgl hgc HO
          have hc1 : ∀ i, i < 8 → wr.cell? ⟨g, i, none⟩ = some (.int .i64 (L.getD i 0 : Nat)) := fun i hi => by
            rw [HB.out.cell (p := ⟨g, i, none⟩) HGC.out.1, HGC.out.2 i hi]
            have := natV_get L i (by rw [HLO.out.1]; exact hi)
            rwa [HLO.out.1] at this
          have hc2 : ∀ i, i < 127 → wr.cell? ⟨g2, i, none⟩ = some (.int .i64 (L2.getD i 0 : Nat)) := fun i hi => by
            rw [HGC2.out.2 i hi]
            have := natV_get L2 i (by rw [HLO2.out.1]; exact hi)
            rwa [HLO2.out.1] at this
          have HC1 := Lib.hid hc1
          have HC2 := Lib.hid hc2
          clear hc1 hc2
          go_wp2_with fail
          refine (once_any L 8 g cap _ HLO.out.1 (by omega) (by omega) HLO.out.2.1 HLO.out.2.2 (Nat.lt_of_lt_of_le HGC.out.1 HB.out.size) HC1.out).mono ?_
          rintro e w4 ⟨rfl, hb4⟩
          have HB4 := Lib.hid hb4
          clear hb4
          go_wp2_with fail
          refine (once_any L2 127 g2 cap2 _ HLO2.out.1 (by omega) (by omega) HLO2.out.2.1 HLO2.out.2.2 (Nat.lt_of_lt_of_le HGC2.out.1 HB4.out.size) (fun i hi => (HB4.out.cell (p := ⟨g2, i, none⟩) HGC2.out.1).trans (HC2.out i hi))).mono ?_
          rintro e w5 ⟨rfl, hb5⟩
          have HB5 := Lib.hid hb5
          clear hb5
          go_wp2
          go_ret
          exact ⟨rfl, HBW.out.trans ((HB.out.trans ((HB4.out.trans (HB5.out.mono HB4.out.size)).mono HB.out.size)).mono HBW.out.size)⟩
end Go.Proofs.YtnhbbdfjeaflcaaDoor
