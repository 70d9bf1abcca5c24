/-
  Contracts and plain facts that the laws share; each piece is headed by what it holds and its conditions.
-/
import Derived.Test.YtalbcimnnihmnaaGreatQS17
import Derived.Test.YtalbcimnnihmnaaGreatQS9
import Derived.Test.YtalbcimnnihmnaaGreatQS8
import Derived.Test.YtalbcimnnihmnaaGreatQS5
import Derived.Test.YtalbcimnnihmnaaGreatQS2
import Derived.Deep.WholeRow
import Derived.DeepKeys
import Derived.StillTailTactics

/- Layer 20: a frame brought into its range, as band's Clamp answers it. Conditions: a frame's 32 numbers. -/
namespace Go.Proofs.YtalbcimnnihmnaaGreat
open Go.RowKit
open M
theorem clm_cg (f : List Int) (hf : f.length = 32) : clm f = cg20 f := by
  refine list_eq16 32 _ _ (clm_len f hf) (cq20_len _ _) fun j hj => ?_
  rw [clm_get f j (by omega)]
  unfold cg20 cq20
  rw [tm_getD 32 _ j hj, if_pos hj]
  rfl
theorem clamp20_any (f : List Int) (w : World) (hf : f.length = 32) :
    Calls Tryz.prog 13 #[.agg (iCells f)] w fun e w' => e = .returned (.agg (iCells (cg20 f))) ∧ Below w.heap.size w w' := by
  rw [← clm_cg f hf]
  exact clamp_any f w hf
theorem cg20_getD (f : List Int) (k : Nat) (hk : k < 32) : (cg20 f).getD k 0 = cl20 (f.getD k 0) := by
  unfold cg20 cq20
  rw [tm_getD 32 _ k hk, if_pos hk]
end Go.Proofs.YtalbcimnnihmnaaGreat

/- The distance of four coefficients from pulses, as it is summed up (plain). No conditions but those that each fact names. -/
namespace Go.Proofs.YtalbcimnnihmnaaGreat
open Go.RowKit
open M
/-- The distance, as far as j coefficients. -/
def ds14 (c y : List Int) (G : Int) : Nat → Int
  | 0 => 0
  | j + 1 => ds14 c y G j + ((c.getD j 0 - y.getD j 0 * G).natAbs : Int)
theorem ds14_succ (c y : List Int) (G : Int) (j : Nat) : ds14 c y G (j + 1) = ds14 c y G j + ((c.getD j 0 - y.getD j 0 * G).natAbs : Int) := rfl
theorem ds14_dis (c y : List Int) (G : Int) : ds14 c y G 4 = dis (fun i => c.getD i 0) (fun i => y.getD i 0) G := by
  have h : ∀ t : Int, (t.natAbs : Int) = ab t := fun t => by unfold ab; omega
  simp only [ds14, dis, s4, h]
  omega
theorem ds14_bd (c y : List Int) (G : Int) (hx : ∀ j, j < 4 → ((c.getD j 0 - y.getD j 0 * G).natAbs : Int) ≤ 4398046511104) (j : Nat) (hj : j ≤ 4) : 0 ≤ ds14 c y G j ∧ ds14 c y G j ≤ 4398046511104 * j := by
  induction j with
  | zero => exact ⟨Int.le_refl _, Int.le_refl _⟩
  | succ j ih =>
    have h1 := ih (by omega)
    have h2 := hx j (by omega)
    show 0 ≤ ds14 c y G j + _ ∧ ds14 c y G j + _ ≤ _
    omega
end Go.Proofs.YtalbcimnnihmnaaGreat

/- Four numbers by value, as an array and as pulses: how they lie, their zero value, that == tells whether they are the same. No conditions but those that each fact names. -/
namespace Go.Proofs.YtalbcimnnihmnaaGreat
open Go.RowKit
open M
theorem pulses_info : (Tryz.prog.info? 27).map (fun i => (i.zero, i.size)) = some (some (.agg (iCells z4)), 4) := by kernel_rfl
theorem pulses_zero (w : World) : (zeroValue 27).run Tryz.prog w = .ok (.agg (iCells z4)) w := (zero_of_info pulses_info).1 w
theorem pulses_size (l : List Int) (h : l.length = 4) : (Tryz.prog.info? 27).map (·.size) = some (iCells l).size := by
  rw [iCells_size, h]; exact (zero_of_info pulses_info).2
theorem pulses_eq (a b : List Int) (ha : a.length = 4) (hb : b.length = 4) (w : World) :
    (Op.equalIn 10000 27 (.agg (iCells a)) (.agg (iCells b))).run Tryz.prog w = .ok (a == b) w := by
  obtain ⟨i, hi⟩ := int_infoS
  rw [show (10000 : Nat) = 9998 + 1 + 1 from rfl, run_equalIn_array w (9998 + 1) _ _ Tryz.underlying27 hi, ints_itemsS 9998 a b w (by omega) _ (fun j hj => by have := List.mem_range.1 hj; omega), all_sameS a b (by omega) 4 ha.symm]
theorem index_pulses (l : List Int) (hl : l.length = 4) (k : Nat) (hk : k < 4) (w : World) :
    (Instr.index 27 (.agg (iCells l)) (.int .i64 k)).run Tryz.prog w = .ok (.int .i64 (l.getD k 0)) w := by
  obtain ⟨i, hi, _, _, _⟩ := info_parts int_info
  have c := iCells_get l k (by omega)
  simp [Instr.index, run_underlying Tryz.underlying27, asIntOf, hk, run_sizeOf w hi, cells_intS, c, go_sem]
end Go.Proofs.YtalbcimnnihmnaaGreat

/- pulse's small functions: a number's size, whether a step may be, its gain, a sign, whether numbers are within; Coefs, Distance. Conditions: those that each fact names. -/
namespace Go.Proofs.YtalbcimnnihmnaaGreat
open Go.RowKit
open M
theorem psize_any (x : Int) (w : World) (h1 : -9223372036854775807 ≤ x) (h2 : x ≤ 9223372036854775807) :
    Calls Tryz.prog 69 #[.int .i64 x] w fun e w' => e = .returned (.int .i64 (ab x)) ∧ w' = w := by
  have hw : wrap64 (-x) = -x := by rw [wrap64]; omega
  by_cases h : -x > x
  · have ha : ab x = -x := by unfold ab; omega
    rw [ha]
    go_enter Tryz.func69, Tryz.ntmps69
    go_wp2
    go_ret
    exact ⟨rfl, rfl⟩
  · have ha : ab x = x := by unfold ab; omega
    rw [ha]
    go_enter Tryz.func69, Tryz.ntmps69
    go_wp2
    go_ret
    exact ⟨rfl, rfl⟩
theorem step_any (s : Nat) (w : World) (hs : s ≤ 15) :
    Calls Tryz.prog 43 #[.int .i64 (s : Int)] w fun e w' => e = .returned (.bool true) ∧ w' = w := by
  have h1 : (s : Int) ≤ 15 := by omega
  go_enter Tryz.func43, Tryz.ntmps43
  go_wp2
  go_ret
  exact ⟨rfl, rfl⟩
theorem wr_id14 (x : Int) (h1 : -4611686018427387904 ≤ x) (h2 : x ≤ 4611686018427387904) : wrap64 x = x := by rw [wrap64]; omega
theorem shl15 (s : Nat) (hs : s ≤ 15) : IntKind.i64.wrap (2 ^ s) = (2 : Int) ^ s := by
  have := pow15 s hs
  exact wi_id _ (by omega) (by omega)
theorem gain_any (s : Nat) (w : World) (hs : s ≤ 15) :
    Calls Tryz.prog 46 #[.int .i64 (s : Int)] w fun e w' => e = .returned (.int .i64 ((2 : Int) ^ s)) ∧ w' = w := by
  have h1 : (s : Int) ≤ 15 := by omega
  have HS := fun w => step_any s w hs
  have HW3 : Hid (wrap64 ((2 : Int) ^ s) = (2 : Int) ^ s) := Lib.hid (by have := pow15 s hs; exact wr_id14 _ (by omega) (by omega))
  go_enter Tryz.func46, Tryz.ntmps46
  go_wp2_with fail
  refine (HS _).mono ?_
  rintro e w1 ⟨rfl, rfl⟩
  clear HS
  go_wp2
  go_ret
  refine ⟨?_, rfl⟩
  show Ending.returned (.int .i64 (wrap64 ((2 : Int) ^ s))) = _
  rw [HW3.out]
theorem sign_any (x : Int) (w : World) :
    Calls Tryz.prog 48 #[.int .i64 x] w fun e w' => e = .returned (.int .i64 (if 0 ≤ x then 1 else -1)) ∧ w' = w := by
  by_cases h : x < 0
  · rw [if_neg (by omega)]
    go_enter Tryz.func48, Tryz.ntmps48
    go_wp2
    go_ret
    exact ⟨rfl, rfl⟩
  · rw [if_pos (by omega)]
    go_enter Tryz.func48, Tryz.ntmps48
    go_wp2
    go_ret
    exact ⟨rfl, rfl⟩
set_option maxRecDepth 100000 in
theorem within_yes (g : Int) (l : List Int) (w : World) (hl : l.length = 4) (hg0 : 0 ≤ g) (hg1 : g ≤ 2000000) (h : ∀ j, j < 4 → -g ≤ l.getD j 0 ∧ l.getD j 0 ≤ g) :
    Calls Tryz.prog 44 #[.int .i64 g, .agg (iCells l)] w fun e w' => e = .returned (.bool true) ∧ Below w.heap.size w w' := by
  have HH := Lib.hid h
  have HIX := Lib.hid (index_four l hl)
  have HSZ := Lib.hid (four_size l hl)
  have HR : Hid (Row (w.alloc (.cells (iCells l) 26)) w.heap.size 26 (iCells l)) := Lib.hid (heap_alloc_new _ _)
  have HB : Hid (Below w.heap.size w (w.alloc (.cells (iCells l) 26))) := Lib.hid ((Below.refl _ _).alloc (Nat.le_refl _) _)
  have hw : IntKind.i64.wrap (-g) = -g := wi_id _ (by omega) (by omega)
  clear h hl
  go_enter Tryz.func44, Tryz.ntmps44
  go_wp2_with (refine wpList_load_row rfl 26 (.tmp 3) rfl w.heap.size rfl 26 (iCells l) (0, 0) _ HR.out Tryz.underlying26 rfl HSZ.out ?_)
  go_loop [8] (fun i => ∃ (k : Nat), k ≤ 4 ∧ i = .int .i64 k) (fun i => 4 - (intOf i).toNat)
  case atStart => exact ⟨0, by omega, rfl⟩
  case round =>
    obtain ⟨k, hk, rfl⟩ := hrel
    rcases Nat.lt_or_ge k 4 with hlt | hge
    · have hx := HH.out k hlt
      have hix := HIX.out k hlt
      have HK := Lib.hid hlt
      have hkI : (k : Int) < 4 := by omega
      obtain ⟨x, hxx⟩ : ∃ x, l.getD k 0 = x := ⟨_, rfl⟩
      rw [hxx] at hx hix
      obtain ⟨hx1, hx2⟩ := hx
      clear hxx hlt hk
      go_wp2_with fail
      go_round
      case rel => exact ⟨k + 1, HK.out, by go_num⟩
      case measure =>
        have := HK.out
        simp [intOf] <;> omega
    · obtain rfl : k = 4 := by omega
      clear hk hge
      go_wp2_with fail
      go_ret
      exact ⟨rfl, HB.out⟩
/-- What pulses stand for. -/
def cf14 (y : List Int) (G : Int) : List Int := y.map fun n => n * G
theorem cf14_len (y : List Int) (G : Int) : (cf14 y G).length = y.length := by simp [cf14]
theorem cf14_get (y : List Int) (G : Int) (k : Nat) : (cf14 y G).getD k 0 = y.getD k 0 * G := by
  simp only [cf14, List.getD_eq_getElem?_getD, List.getElem?_map]
  cases y[k]? <;> simp
/-- .. as far as k. -/
def cfk (y : List Int) (G : Int) (k : Nat) : List Int := (List.range 4).map fun i => if i < k then y.getD i 0 * G else 0
theorem cfk_len (y : List Int) (G : Int) (k : Nat) : (cfk y G k).length = 4 := by simp [cfk]
theorem cfk_zero (y : List Int) (G : Int) : cfk y G 0 = z4 := by simp [cfk, z4]; rfl
theorem cfk_set (y : List Int) (G : Int) (k : Nat) : (cfk y G k).set k (y.getD k 0 * G) = cfk y G (k + 1) := by
  apply List.ext_getElem
  · simp [cfk]
  · intro i h1 h2
    simp only [cfk, List.getElem_set, List.getElem_map, List.getElem_range]
    by_cases e : k = i
    · subst e
      rw [if_pos rfl, if_pos (by omega)]
    · rw [if_neg e]
      by_cases e2 : i < k
      · rw [if_pos e2, if_pos (by omega)]
      · rw [if_neg e2, if_neg (by omega)]
theorem cfk_full (y : List Int) (G : Int) (hy : y.length = 4) : cfk y G 4 = cf14 y G := by
  obtain ⟨a, b, c, d, rfl⟩ := four_list y hy
  rfl
set_option maxRecDepth 100000 in
set_option maxHeartbeats 1000000 in
theorem coefs_any (y : List Int) (s : Nat) (w : World) (hy : y.length = 4) (hs : s ≤ 15) (h : ∀ j, j < 4 → -12 ≤ y.getD j 0 ∧ y.getD j 0 ≤ 12) :
    Calls Tryz.prog 33 #[.agg (iCells y), .int .i64 (s : Int)] w fun e w' => e = .returned (.agg (iCells (cf14 y ((2 : Int) ^ s)))) ∧ Below w.heap.size w w' := by
  have HF := Lib.hid fun G => cfk_full y G hy
  have HSP := Lib.hid (pulses_size y hy)
  have HLN : Hid (∀ G, (cf14 y G).length = 4) := Lib.hid fun G => by rw [cf14_len, hy]
  have HW := Lib.hid fun w => within_yes 12 y w hy (by omega) (by omega) h
  have HIX := Lib.hid (index_pulses y hy)
  obtain ⟨a, b, c, d, rfl⟩ := four_list y hy
  have hG := pow15 s hs
  have HS := fun w => step_any s w hs
  have HGN := fun w => gain_any s w hs
  obtain ⟨G, hGG⟩ : ∃ G, (2 : Int) ^ s = G := ⟨_, rfl⟩
  rw [hGG] at hG
  simp only [hGG] at HGN
  rw [hGG]
  have HHH := Lib.hid h
  have hsI : (s : Int) ≤ 15 := by omega
  clear hGG hs h hy
  have hz := four_zero
  have hr : Row (((w.alloc (.cells (iCells [a, b, c, d]) 27)).alloc (.cells (iCells z4) 26)).alloc (.cells (iCells z4) 26)) w.heap.size 27 (iCells [a, b, c, d]) := (Row.alloc (heap_alloc_new _ _) _).alloc _
  have hr1 : Row (((w.alloc (.cells (iCells [a, b, c, d]) 27)).alloc (.cells (iCells z4) 26)).alloc (.cells (iCells z4) 26)) (w.heap.size + 1) 26 (iCells z4) := Row.alloc (row_new _ _ (by simp) _ _) _
  have hr2 : Row (((w.alloc (.cells (iCells [a, b, c, d]) 27)).alloc (.cells (iCells z4) 26)).alloc (.cells (iCells z4) 26)) (w.heap.size + 1 + 1) 26 (iCells z4) := row_new _ _ (by simp) _ _
  have HB : Hid (Below w.heap.size w (((w.alloc (.cells (iCells [a, b, c, d]) 27)).alloc (.cells (iCells z4) 26)).alloc (.cells (iCells z4) 26))) := Lib.hid ((((Below.refl _ _).alloc (Nat.le_refl _) _).alloc (by simp) _).alloc (by simp; omega) _)
  have HR1 := Lib.hid hr1
  have HR2 := Lib.hid hr2
  have HR := Lib.hid hr
  have c0 := i_at hr 0 (by simp)
  have c1 := i_at hr 1 (by simp)
  have c2 := i_at hr 2 (by simp)
  have c3 := i_at hr 3 (by simp)
  simp only [List.getD_cons_zero, List.getD_cons_succ] at c0 c1 c2 c3
  clear hr hr1 hr2
  go_enter Tryz.func33, Tryz.ntmps33
  go_wp2_with fail
  refine (HS _).mono ?_
  rintro e w1 ⟨rfl, rfl⟩
  generalize ((w.alloc (.cells (iCells [a, b, c, d]) 27)).alloc (.cells (iCells z4) 26)).alloc (.cells (iCells z4) 26) = w1 at *
  obtain ⟨g, hg⟩ : ∃ g, w.heap.size = g := ⟨_, rfl⟩
  rw [hg] at HR HR1 HR2 c0 c1 c2 c3
  rw [hg]
  have HGG := Lib.hid fun _ : Unit => hg
  clear hg HS
  go_wp2_with fail
  refine (HW.out _).mono ?_
  rintro e w2 ⟨rfl, hb⟩
  have HR := Lib.hid (HR.out.box hb)
  have HR2 := Lib.hid (HR2.out.box hb)
  have HR1 := Lib.hid (HR1.out.box hb)
  have HB := Lib.hid (HB.out.trans (hb.mono HB.out.size))
  clear hb c0 c1 c2 c3 HW
  generalize w2 = w3 at *
  have HX : Hid (∀ j, j < 4 → -12 ≤ [a, b, c, d].getD j 0 ∧ [a, b, c, d].getD j 0 ≤ 12) := HHH
  generalize hyy : [a, b, c, d] = y at *
  have HYE := Lib.hid fun _ : Unit => hyy
  clear hyy
  clear HHH
  go_wp2_with (refine wpList_load_row rfl 27 (.tmp 2) rfl g rfl 27 (iCells y) (0, 0) _ HR.out Tryz.underlying27 rfl HSP.out ?_)
  clear HR hz
  go_loopw [18] (fun ii wr => ∃ (k : Nat), k ≤ 4 ∧ ii = .int .i64 k ∧ Row wr (g + 1) 26 (iCells z4) ∧ Row wr (g + 1 + 1) 26 (iCells (cfk y G k)) ∧ Below w.heap.size w wr) (fun ii _ => 4 - (intOf ii).toNat)
  case atStart => exact ⟨0, by omega, rfl, HR1.out, by rw [cfk_zero]; exact HR2.out, HB.out⟩
  case round =>
    clear HR1 HR2 HB
    obtain ⟨k, hk, rfl, hR1, hR2, hB⟩ := hrel
    have HR1 := Lib.hid hR1
    have HR2 := Lib.hid hR2
    have HB := Lib.hid hB
    rcases Nat.lt_or_ge k 4 with hlt | hge
    · have hx := HX.out k hlt
      have hix := HIX.out k hlt
      have HST := Lib.hid (cfk_set y G k)
      have HK := Lib.hid hlt
      have hkI : (k : Int) < 4 := by omega
      have cz := i_at hR2 k (by rw [cfk_len]; exact hlt)
      have fz := hR2.free k
      obtain ⟨x, hxx⟩ : ∃ x, y.getD k 0 = x := ⟨_, rfl⟩
      rw [hxx] at hx hix HST
      obtain ⟨hx1, hx2⟩ := hx
      have hm := mul14 x G (by omega) (by omega) (by omega) hG.1
      obtain ⟨p, hp⟩ : ∃ p, x * G = p := ⟨_, rfl⟩
      rw [hp] at hm HST
      have e1 : IntKind.i64.wrap (x * G) = p := by rw [hp]; exact wi_id _ (by omega) (by omega)
      have e2 : wrap64 (x * G) = p := by rw [hp]; exact wr_id14 _ (by omega) (by omega)
      clear hxx hlt hk hm hp hR1 hR2 hB hx1 hx2
      go_wp2_with fail
      refine (HGN _).mono ?_
      rintro e w2 ⟨rfl, rfl⟩
      go_wp2_with fail
      go_roundw
      case rel => exact ⟨k + 1, HK.out, by go_num, HR1.out.far (by simp) _, by rw [← HST.out, ← iCells_set]; exact HR2.out.set k _, Below.setCell HB.out (p := ⟨g + 1 + 1, k, none⟩) (by have := HGG.out (); simp only; omega) _⟩
      case measure =>
        have := HK.out
        simp [intOf] <;> omega
    · obtain rfl : k = 4 := by omega
      rw [HF.out G] at HR2
      clear hk hge hR1 hR2 hB
      have HSC := Lib.hid (four_size (cf14 y G) (HLN.out G))
      have HSS := Lib.hid (four_same z4 (cf14 y G) rfl (HLN.out G))
      go_wp2_with (first
        | (refine wpList_load_row rfl 26 (.tmp 5) rfl (g + 1 + 1) rfl 26 (iCells (cf14 y G)) (0, 0) _ HR2.out Tryz.underlying26 rfl HSC.out ?_)
        | (refine wpList_store_row rfl 26 (.tmp 4) (.tmp 29) rfl (g + 1) (iCells (cf14 y G)) rfl rfl 26 (iCells z4) HR1.out HSC.out HSS.out (iCells_one _) ?_))
      refine bodyPost_ret (v := .agg (iCells (cf14 y G))) (results_cell_row Tryz.results33 _ _ (g + 1) 26 (iCells (cf14 y G)) (0, 0) _ rfl (Row.setRow HR1.out _) Tryz.underlying26 rfl HSC.out) rfl ⟨by rw [HYE.out ()], below_setRow HB.out (by have := HGG.out (); omega) _⟩
end Go.Proofs.YtalbcimnnihmnaaGreat
