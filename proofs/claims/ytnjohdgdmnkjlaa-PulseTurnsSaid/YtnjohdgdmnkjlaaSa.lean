/-
  pulse's small functions: a number's size, whether a step may be, its gain, a sign, whether numbers are within; Coefs, Distance. Conditions: those that each fact names.
-/
import Derived.Test.YtnjohdgdmnkjlaaDi
import Derived.Test.YtnjohdgdmnkjlaaGa
import Derived.Test.YtnjohdgdmnkjlaaSv
import Derived.StillTailTactics
namespace Go.Proofs.Ytnjohdgdmnkjlaa
open Go.RowKit
open M
theorem psize_any (x : Int) (w : World) (h1 : -9223372036854775807 ≤ x) (h2 : x ≤ 9223372036854775807) :
    Calls Try.prog 28 #[.int .i64 x] w fun e w' => e = .returned (.int .i64 (ab x)) ∧ w' = w := by
  have hw : wrap64 (-x) = -x := by rw [wrap64]; omega
  by_cases h : -x > x
  · have ha : ab x = -x := by unfold ab; omega
    rw [ha]
    go_enter Try.func28, Try.ntmps28
    go_wp2
    go_ret
    exact ⟨rfl, rfl⟩
  · have ha : ab x = x := by unfold ab; omega
    rw [ha]
    go_enter Try.func28, Try.ntmps28
    go_wp2
    go_ret
    exact ⟨rfl, rfl⟩
theorem step_any (s : Nat) (w : World) (hs : s ≤ 15) :
    Calls Try.prog 17 #[.int .i64 (s : Int)] w fun e w' => e = .returned (.bool true) ∧ w' = w := by
  have h1 : (s : Int) ≤ 15 := by omega
  go_enter Try.func17, Try.ntmps17
  go_wp2
  go_ret
  exact ⟨rfl, rfl⟩
theorem wr_id14 (x : Int) (h1 : -4611686018427387904 ≤ x) (h2 : x ≤ 4611686018427387904) : wrap64 x = x := by rw [wrap64]; omega
theorem shl15 (s : Nat) (hs : s ≤ 15) : IntKind.i64.wrap (2 ^ s) = (2 : Int) ^ s := by
  have := pow15 s hs
  exact wi_id _ (by omega) (by omega)
theorem gain_any (s : Nat) (w : World) (hs : s ≤ 15) :
    Calls Try.prog 20 #[.int .i64 (s : Int)] w fun e w' => e = .returned (.int .i64 ((2 : Int) ^ s)) ∧ w' = w := by
  have h1 : (s : Int) ≤ 15 := by omega
  have HS := fun w => step_any s w hs
  have HW3 : Hid (wrap64 ((2 : Int) ^ s) = (2 : Int) ^ s) := Lib.hid (by have := pow15 s hs; exact wr_id14 _ (by omega) (by omega))
  go_enter Try.func20, Try.ntmps20
  go_wp2_with fail
  refine (HS _).mono ?_
  rintro e w1 ⟨rfl, rfl⟩
  clear HS
  go_wp2
  go_ret
  refine ⟨?_, rfl⟩
  show Ending.returned (.int .i64 (wrap64 ((2 : Int) ^ s))) = _
  rw [HW3.out]
theorem sign_any (x : Int) (w : World) :
    Calls Try.prog 22 #[.int .i64 x] w fun e w' => e = .returned (.int .i64 (if 0 ≤ x then 1 else -1)) ∧ w' = w := by
  by_cases h : x < 0
  · rw [if_neg (by omega)]
    go_enter Try.func22, Try.ntmps22
    go_wp2
    go_ret
    exact ⟨rfl, rfl⟩
  · rw [if_pos (by omega)]
    go_enter Try.func22, Try.ntmps22
    go_wp2
    go_ret
    exact ⟨rfl, rfl⟩
set_option maxRecDepth 100000 in
theorem within_yes (g : Int) (l : List Int) (w : World) (hl : l.length = 4) (hg0 : 0 ≤ g) (hg1 : g ≤ 2000000) (h : ∀ j, j < 4 → -g ≤ l.getD j 0 ∧ l.getD j 0 ≤ g) :
    Calls Try.prog 18 #[.int .i64 g, .agg (iCells l)] w fun e w' => e = .returned (.bool true) ∧ Below w.heap.size w w' := by
  have HH := Lib.hid h
  have HIX := Lib.hid (index_four l hl)
  have HSZ := Lib.hid (four_size l hl)
  have HR : Hid (Row (w.alloc (.cells (iCells l) 22)) w.heap.size 22 (iCells l)) := Lib.hid (heap_alloc_new _ _)
  have HB : Hid (Below w.heap.size w (w.alloc (.cells (iCells l) 22))) := Lib.hid ((Below.refl _ _).alloc (Nat.le_refl _) _)
  have hw : IntKind.i64.wrap (-g) = -g := wi_id _ (by omega) (by omega)
  clear h hl
  go_enter Try.func18, Try.ntmps18
  go_wp2_with (refine wpList_load_row rfl 22 (.tmp 3) rfl w.heap.size rfl 22 (iCells l) (0, 0) _ HR.out Try.underlying22 rfl HSZ.out ?_)
  go_loop [8] (fun i => ∃ (k : Nat), k ≤ 4 ∧ i = .int .i64 k) (fun i => 4 - (intOf i).toNat)
  case atStart => exact ⟨0, by omega, rfl⟩
  case round =>
    obtain ⟨k, hk, rfl⟩ := hrel
    rcases Nat.lt_or_ge k 4 with hlt | hge
    · have hx := HH.out k hlt
      have hix := HIX.out k hlt
      have HK := Lib.hid hlt
      have hkI : (k : Int) < 4 := by omega
      obtain ⟨x, hxx⟩ : ∃ x, l.getD k 0 = x := ⟨_, rfl⟩
      rw [hxx] at hx hix
      obtain ⟨hx1, hx2⟩ := hx
      clear hxx hlt hk
      go_wp2_with fail
      go_round
      case rel => exact ⟨k + 1, HK.out, by go_num⟩
      case measure =>
        have := HK.out
        simp [intOf] <;> omega
    · obtain rfl : k = 4 := by omega
      clear hk hge
      go_wp2_with fail
      go_ret
      exact ⟨rfl, HB.out⟩
/-- What pulses stand for. -/
def cf14 (y : List Int) (G : Int) : List Int := y.map fun n => n * G
theorem cf14_len (y : List Int) (G : Int) : (cf14 y G).length = y.length := by simp [cf14]
theorem cf14_get (y : List Int) (G : Int) (k : Nat) : (cf14 y G).getD k 0 = y.getD k 0 * G := by
  simp only [cf14, List.getD_eq_getElem?_getD, List.getElem?_map]
  cases y[k]? <;> simp
/-- .. as far as k. -/
def cfk (y : List Int) (G : Int) (k : Nat) : List Int := (List.range 4).map fun i => if i < k then y.getD i 0 * G else 0
theorem cfk_len (y : List Int) (G : Int) (k : Nat) : (cfk y G k).length = 4 := by simp [cfk]
theorem cfk_zero (y : List Int) (G : Int) : cfk y G 0 = z4 := by simp [cfk, z4]; rfl
theorem cfk_set (y : List Int) (G : Int) (k : Nat) : (cfk y G k).set k (y.getD k 0 * G) = cfk y G (k + 1) := by
  apply List.ext_getElem
  · simp [cfk]
  · intro i h1 h2
    simp only [cfk, List.getElem_set, List.getElem_map, List.getElem_range]
    by_cases e : k = i
    · subst e
      rw [if_pos rfl, if_pos (by omega)]
    · rw [if_neg e]
      by_cases e2 : i < k
      · rw [if_pos e2, if_pos (by omega)]
      · rw [if_neg e2, if_neg (by omega)]
theorem cfk_full (y : List Int) (G : Int) (hy : y.length = 4) : cfk y G 4 = cf14 y G := by
  obtain ⟨a, b, c, d, rfl⟩ := four_list y hy
  rfl
set_option maxRecDepth 100000 in
set_option maxHeartbeats 1000000 in
theorem coefs_any (y : List Int) (s : Nat) (w : World) (hy : y.length = 4) (hs : s ≤ 15) (h : ∀ j, j < 4 → -12 ≤ y.getD j 0 ∧ y.getD j 0 ≤ 12) :
    Calls Try.prog 16 #[.agg (iCells y), .int .i64 (s : Int)] w fun e w' => e = .returned (.agg (iCells (cf14 y ((2 : Int) ^ s)))) ∧ Below w.heap.size w w' := by
  have HF := Lib.hid fun G => cfk_full y G hy
  have HSP := Lib.hid (pulses_size y hy)
  have HLN : Hid (∀ G, (cf14 y G).length = 4) := Lib.hid fun G => by rw [cf14_len, hy]
  have HW := Lib.hid fun w => within_yes 12 y w hy (by omega) (by omega) h
  have HIX := Lib.hid (index_pulses y hy)
  obtain ⟨a, b, c, d, rfl⟩ := four_list y hy
  have hG := pow15 s hs
  have HS := fun w => step_any s w hs
  have HGN := fun w => gain_any s w hs
  obtain ⟨G, hGG⟩ : ∃ G, (2 : Int) ^ s = G := ⟨_, rfl⟩
  rw [hGG] at hG
  simp only [hGG] at HGN
  rw [hGG]
  have HHH := Lib.hid h
  have hsI : (s : Int) ≤ 15 := by omega
  clear hGG hs h hy
  have hz := four_zero
  have hr : Row (((w.alloc (.cells (iCells [a, b, c, d]) 26)).alloc (.cells (iCells z4) 22)).alloc (.cells (iCells z4) 22)) w.heap.size 26 (iCells [a, b, c, d]) := (Row.alloc (heap_alloc_new _ _) _).alloc _
  have hr1 : Row (((w.alloc (.cells (iCells [a, b, c, d]) 26)).alloc (.cells (iCells z4) 22)).alloc (.cells (iCells z4) 22)) (w.heap.size + 1) 22 (iCells z4) := Row.alloc (row_new _ _ (by simp) _ _) _
  have hr2 : Row (((w.alloc (.cells (iCells [a, b, c, d]) 26)).alloc (.cells (iCells z4) 22)).alloc (.cells (iCells z4) 22)) (w.heap.size + 1 + 1) 22 (iCells z4) := row_new _ _ (by simp) _ _
  have HB : Hid (Below w.heap.size w (((w.alloc (.cells (iCells [a, b, c, d]) 26)).alloc (.cells (iCells z4) 22)).alloc (.cells (iCells z4) 22))) := Lib.hid ((((Below.refl _ _).alloc (Nat.le_refl _) _).alloc (by simp) _).alloc (by simp; omega) _)
  have HR1 := Lib.hid hr1
  have HR2 := Lib.hid hr2
  have HR := Lib.hid hr
  have c0 := i_at hr 0 (by simp)
  have c1 := i_at hr 1 (by simp)
  have c2 := i_at hr 2 (by simp)
  have c3 := i_at hr 3 (by simp)
  simp only [List.getD_cons_zero, List.getD_cons_succ] at c0 c1 c2 c3
  clear hr hr1 hr2
  go_enter Try.func16, Try.ntmps16
  go_wp2_with fail
  refine (HS _).mono ?_
  rintro e w1 ⟨rfl, rfl⟩
  generalize ((w.alloc (.cells (iCells [a, b, c, d]) 26)).alloc (.cells (iCells z4) 22)).alloc (.cells (iCells z4) 22) = w1 at *
  obtain ⟨g, hg⟩ : ∃ g, w.heap.size = g := ⟨_, rfl⟩
  rw [hg] at HR HR1 HR2 c0 c1 c2 c3
  rw [hg]
  have HGG := Lib.hid fun _ : Unit => hg
  clear hg HS
  go_wp2_with fail
  refine (HW.out _).mono ?_
  rintro e w2 ⟨rfl, hb⟩
  have HR := Lib.hid (HR.out.box hb)
  have HR2 := Lib.hid (HR2.out.box hb)
  have HR1 := Lib.hid (HR1.out.box hb)
  have HB := Lib.hid (HB.out.trans (hb.mono HB.out.size))
  clear hb c0 c1 c2 c3 HW
  generalize w2 = w3 at *
  have HX : Hid (∀ j, j < 4 → -12 ≤ [a, b, c, d].getD j 0 ∧ [a, b, c, d].getD j 0 ≤ 12) := HHH
  generalize hyy : [a, b, c, d] = y at *
  have HYE := Lib.hid fun _ : Unit => hyy
  clear hyy
  clear HHH
  go_wp2_with (refine wpList_load_row rfl 26 (.tmp 2) rfl g rfl 26 (iCells y) (0, 0) _ HR.out Try.underlying26 rfl HSP.out ?_)
  clear HR hz
  go_loopw [18] (fun ii wr => ∃ (k : Nat), k ≤ 4 ∧ ii = .int .i64 k ∧ Row wr (g + 1) 22 (iCells z4) ∧ Row wr (g + 1 + 1) 22 (iCells (cfk y G k)) ∧ Below w.heap.size w wr) (fun ii _ => 4 - (intOf ii).toNat)
  case atStart => exact ⟨0, by omega, rfl, HR1.out, by rw [cfk_zero]; exact HR2.out, HB.out⟩
  case round =>
    clear HR1 HR2 HB
    obtain ⟨k, hk, rfl, hR1, hR2, hB⟩ := hrel
    have HR1 := Lib.hid hR1
    have HR2 := Lib.hid hR2
    have HB := Lib.hid hB
    rcases Nat.lt_or_ge k 4 with hlt | hge
    · have hx := HX.out k hlt
      have hix := HIX.out k hlt
      have HST := Lib.hid (cfk_set y G k)
      have HK := Lib.hid hlt
      have hkI : (k : Int) < 4 := by omega
      have cz := i_at hR2 k (by rw [cfk_len]; exact hlt)
      have fz := hR2.free k
      obtain ⟨x, hxx⟩ : ∃ x, y.getD k 0 = x := ⟨_, rfl⟩
      rw [hxx] at hx hix HST
      obtain ⟨hx1, hx2⟩ := hx
      have hm := mul14 x G (by omega) (by omega) (by omega) hG.1
      obtain ⟨p, hp⟩ : ∃ p, x * G = p := ⟨_, rfl⟩
      rw [hp] at hm HST
      have e1 : IntKind.i64.wrap (x * G) = p := by rw [hp]; exact wi_id _ (by omega) (by omega)
      have e2 : wrap64 (x * G) = p := by rw [hp]; exact wr_id14 _ (by omega) (by omega)
      clear hxx hlt hk hm hp hR1 hR2 hB hx1 hx2
      go_wp2_with fail
      refine (HGN _).mono ?_
      rintro e w2 ⟨rfl, rfl⟩
      go_wp2_with fail
      go_roundw
      case rel => exact ⟨k + 1, HK.out, by go_num, HR1.out.far (by simp) _, by rw [← HST.out, ← iCells_set]; exact HR2.out.set k _, Below.setCell HB.out (p := ⟨g + 1 + 1, k, none⟩) (by have := HGG.out (); simp only; omega) _⟩
      case measure =>
        have := HK.out
        simp [intOf] <;> omega
    · obtain rfl : k = 4 := by omega
      rw [HF.out G] at HR2
      clear hk hge hR1 hR2 hB
      have HSC := Lib.hid (four_size (cf14 y G) (HLN.out G))
      have HSS := Lib.hid (four_same z4 (cf14 y G) rfl (HLN.out G))
      go_wp2_with (first
        | (refine wpList_load_row rfl 22 (.tmp 5) rfl (g + 1 + 1) rfl 22 (iCells (cf14 y G)) (0, 0) _ HR2.out Try.underlying22 rfl HSC.out ?_)
        | (refine wpList_store_row rfl 22 (.tmp 4) (.tmp 29) rfl (g + 1) (iCells (cf14 y G)) rfl rfl 22 (iCells z4) HR1.out HSC.out HSS.out (iCells_one _) ?_))
      refine bodyPost_ret (v := .agg (iCells (cf14 y G))) (results_cell_row Try.results16 _ _ (g + 1) 22 (iCells (cf14 y G)) (0, 0) _ rfl (Row.setRow HR1.out _) Try.underlying22 rfl HSC.out) rfl ⟨by rw [HYE.out ()], below_setRow HB.out (by have := HGG.out (); omega) _⟩
set_option maxRecDepth 100000 in
set_option maxHeartbeats 1000000 in
theorem distance_any (c y : List Int) (s : Nat) (w : World) (hc : c.length = 4) (hy : y.length = 4) (hs : s ≤ 15) (hx : ∀ j, j < 4 → -1048576 ≤ c.getD j 0 ∧ c.getD j 0 ≤ 1048576) (h : ∀ j, j < 4 → -12 ≤ y.getD j 0 ∧ y.getD j 0 ≤ 12) :
    Calls Try.prog 13 #[.agg (iCells c), .agg (iCells y), .int .i64 (s : Int)] w fun e w' => e = .returned (.int .i64 (dis (fun i => c.getD i 0) (fun i => y.getD i 0) ((2 : Int) ^ s))) ∧ Below w.heap.size w w' := by
  have HW := Lib.hid fun w => within_yes 12 y w hy (by omega) (by omega) h
  have HWC := Lib.hid fun w => within_yes 1048576 c w hc (by omega) (by omega) hx
  have HSP := Lib.hid (pulses_size y hy)
  have HSC := Lib.hid (four_size c hc)
  have HCO := Lib.hid fun w => coefs_any y s w hy hs h
  have HIX := Lib.hid fun G => index_four (cf14 y G) (by rw [cf14_len, hy])
  obtain ⟨y0, y1, y2, y3, rfl⟩ := four_list y hy
  obtain ⟨x0, x1, x2, x3, rfl⟩ := four_list c hc
  have hG := pow15 s hs
  have HS := fun w => step_any s w hs
  obtain ⟨G, hGG⟩ : ∃ G, (2 : Int) ^ s = G := ⟨_, rfl⟩
  rw [hGG] at hG HCO
  have HX := Lib.hid fun j (hj : j < 4) => mul14 ([y0, y1, y2, y3].getD j 0) G (by have := h j hj; omega) (by have := h j hj; omega) (by omega) hG.1
  have HD := Lib.hid (ds14_bd [x0, x1, x2, x3] [y0, y1, y2, y3] G (fun j hj => by have h1 := hx j hj; have h2 := HX.out j hj; omega))
  have HDS := Lib.hid (ds14_dis [x0, x1, x2, x3] [y0, y1, y2, y3] G)
  rw [hGG]
  have HHH := Lib.hid h
  have HXX := Lib.hid hx
  have hsI : (s : Int) ≤ 15 := by omega
  clear hGG hs h hy hx hc
  have hr : Row ((w.alloc (.cells (iCells [x0, x1, x2, x3]) 22)).alloc (.cells (iCells [y0, y1, y2, y3]) 26)) w.heap.size 22 (iCells [x0, x1, x2, x3]) := heap_alloc2_old _ _ _
  have hr1 : Row ((w.alloc (.cells (iCells [x0, x1, x2, x3]) 22)).alloc (.cells (iCells [y0, y1, y2, y3]) 26)) (w.heap.size + 1) 26 (iCells [y0, y1, y2, y3]) := heap_alloc2_new _ _ _
  have HB : Hid (Below w.heap.size w ((w.alloc (.cells (iCells [x0, x1, x2, x3]) 22)).alloc (.cells (iCells [y0, y1, y2, y3]) 26))) := Lib.hid (((Below.refl _ _).alloc (Nat.le_refl _) _).alloc (by simp) _)
  have HR1 := Lib.hid hr1
  have HR := Lib.hid hr
  have c0 := i_at hr1 0 (by simp)
  have c1 := i_at hr1 1 (by simp)
  have c2 := i_at hr1 2 (by simp)
  have c3 := i_at hr1 3 (by simp)
  simp only [List.getD_cons_zero, List.getD_cons_succ] at c0 c1 c2 c3
  clear hr hr1
  go_enter Try.func13, Try.ntmps13
  go_wp2_with fail
  refine (HS _).mono ?_
  rintro e w1 ⟨rfl, rfl⟩
  generalize (w.alloc (.cells (iCells [x0, x1, x2, x3]) 22)).alloc (.cells (iCells [y0, y1, y2, y3]) 26) = w1 at *
  obtain ⟨g, hg⟩ : ∃ g, w.heap.size = g := ⟨_, rfl⟩
  rw [hg] at HR HR1 c0 c1 c2 c3
  rw [hg]
  have HGG := Lib.hid fun _ : Unit => hg
  clear hg HS
  go_wp2_with fail
  refine (HW.out _).mono ?_
  rintro e w2 ⟨rfl, hb⟩
  have hr := HR.out.box hb
  have HR := Lib.hid hr
  have HR1 := Lib.hid (HR1.out.box hb)
  have HB := Lib.hid (HB.out.trans (hb.mono HB.out.size))
  clear hb c0 c1 c2 c3 HW
  have c0 := i_at hr 0 (by simp)
  have c1 := i_at hr 1 (by simp)
  have c2 := i_at hr 2 (by simp)
  have c3 := i_at hr 3 (by simp)
  simp only [List.getD_cons_zero, List.getD_cons_succ] at c0 c1 c2 c3
  clear hr
  go_wp2_with fail
  refine (HWC.out _).mono ?_
  rintro e w3 ⟨rfl, hb⟩
  have HR := Lib.hid (HR.out.box hb)
  have HR1 := Lib.hid (HR1.out.box hb)
  have HB := Lib.hid (HB.out.trans (hb.mono HB.out.size))
  clear hb c0 c1 c2 c3 HWC
  go_wp2_with (refine wpList_load_row rfl 26 (.tmp 4) rfl (g + 1) rfl 26 (iCells [y0, y1, y2, y3]) (0, 0) _ HR1.out Try.underlying26 rfl HSP.out ?_)
  refine (HCO.out _).mono ?_
  rintro e w4 ⟨rfl, hb⟩
  have HR := Lib.hid (HR.out.box hb)
  have HB := Lib.hid (HB.out.trans (hb.mono HB.out.size))
  clear hb HCO HR1
  generalize hyy : [y0, y1, y2, y3] = y at *
  generalize hcc : [x0, x1, x2, x3] = c at *
  have HYE := Lib.hid fun _ : Unit => hyy
  have HCE := Lib.hid fun _ : Unit => hcc
  have HLC : Hid (c.length = 4) := Lib.hid (by rw [← hcc]; rfl)
  clear hyy hcc
  go_wp2_with fail
  go_loop [7, 26] (fun nn ii => ∃ (j : Nat) (q : Int), j ≤ 4 ∧ ii = .int .i64 j ∧ nn = .int .i64 q ∧ q = ds14 c y G j) (fun _ ii => 4 - (intOf ii).toNat)
  case atStart => exact ⟨0, 0, by omega, rfl, rfl, rfl⟩
  case round =>
    obtain ⟨j, q, hj, rfl, rfl, hq⟩ := hrel
    rcases Nat.lt_or_ge j 4 with hlt | hge
    · have c0 := i_at HR.out j (by rw [HLC.out]; exact hlt)
      have hjI : (j : Int) < 4 := by omega
      have h1 := HX.out j hlt
      have h2 := HXX.out j hlt
      have h3 := HD.out j hj
      have hst := ds14_succ c y G j
      have hix := HIX.out G j hlt
      rw [← hq] at h3 hst
      obtain ⟨a, ha⟩ : ∃ a, c.getD j 0 = a := ⟨_, rfl⟩
      rw [ha] at hst h2 c0
      rw [cf14_get] at hix
      obtain ⟨p, hp⟩ : ∃ p, y.getD j 0 * G = p := ⟨_, rfl⟩
      rw [hp] at h1 hst hix
      obtain ⟨r, hr⟩ : ∃ r, a - p = r := ⟨_, rfl⟩
      rw [hr] at hst
      have RS := fun w => psize_any r w (by omega) (by omega)
      have hab : ((r.natAbs : Nat) : Int) = ab r := by unfold ab; omega
      rw [hab] at hst
      have hb0 : 0 ≤ ab r ∧ ab r ≤ 4398046511104 := by unfold ab; omega
      obtain ⟨t, ht⟩ : ∃ t, ab r = t := ⟨_, rfl⟩
      rw [ht] at hst hb0
      simp only [ht] at RS
      have e2 : IntKind.i64.wrap (a - p) = r := by rw [hr]; exact wi_id _ (by omega) (by omega)
      have e2' : wrap64 (a - p) = r := by rw [hr]; exact wr_id14 _ (by omega) (by omega)
      have e3 : IntKind.i64.wrap (q + t) = q + t := wi_id _ (by omega) (by omega)
      obtain ⟨q2, hq2⟩ : ∃ q2, q + t = q2 := ⟨_, rfl⟩
      rw [hq2] at hst
      have e4 : IntKind.i64.wrap (q + t) = q2 := by rw [e3, hq2]
      have e4' : wrap64 (q + t) = q2 := by rw [hq2]; exact wr_id14 _ (by omega) (by omega)
      have HQ := Lib.hid hst.symm
      have HJ := Lib.hid hlt
      clear e3 hst hq2 ht hr hp ha hab hb0 hj h1 h2 h3 hq hlt
      go_wp2_with fail
      refine (RS _).mono ?_
      rintro e w2 ⟨rfl, rfl⟩
      go_wp2_with fail
      go_round
      case rel => exact ⟨j + 1, q2, HJ.out, by go_num, rfl, HQ.out⟩
      case measure =>
        have := HJ.out
        simp [intOf] <;> omega
    · obtain rfl : j = 4 := by omega
      have HQ := Lib.hid (hq.trans HDS.out)
      clear hj hge hq
      go_wp2_with fail
      go_ret
      refine ⟨?_, HB.out⟩
      rw [HYE.out (), HCE.out ()]
      show Ending.returned (.int .i64 q) = _
      rw [HQ.out]
      rfl
end Go.Proofs.Ytnjohdgdmnkjlaa
