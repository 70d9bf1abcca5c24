/-
  The walk of the law AmendLocates. Conditions: bytes; the lists lie as they were opened.
-/
import Derived.Test.YtbokecpcefcimaaNo
import Derived.Test.YtbokecpcefcimaaJc
import Derived.Test.YtbokecpcefcimaaIw
namespace Go.Proofs.Ytbokecpcefcimaa
open Go.RowKit
open M
attribute [local go_sem] un_beq un_bne un_xor

/-- A slice of numbers, opened. -/
theorem ints_open {W : World} {a : Option Addr} {n cap : Nat} {xs : List Int} (h : IntsAt W (.slice a n cap) xs) : 0 < xs.length → ∃ b off, a = some ⟨b, off, none⟩ ∧ b < W.heap.size ∧ ∀ i, i < xs.length → W.cell? ⟨b, off + i, none⟩ = some (.int .i64 (xs.getD i 0)) := by
  obtain ⟨a', cap', hv, hc⟩ := h
  injection hv with hv1 hv2 hv3
  subst hv1
  exact hc
theorem ints_nat {W : World} {a : Option Addr} {n cap : Nat} {l : List Nat} (h : IntsAt W (.slice a n cap) (castL l)) : 0 < l.length → ∃ b off, a = some ⟨b, off, none⟩ ∧ b < W.heap.size ∧ ∀ i, i < l.length → W.cell? ⟨b, off + i, none⟩ = some (.int .i64 (l.getD i 0 : Nat)) := by
  intro hp
  obtain ⟨b, off, h1, h2, h3⟩ := ints_open h (by rw [castL_length]; exact hp)
  refine ⟨b, off, h1, h2, fun i hi => ?_⟩
  rw [h3 i (by rw [castL_length]; exact hi), castL_getD]
theorem ints_form {W : World} {v : Value} {l : List Nat} (h : IntsAt W v (castL l)) : ∃ a cap, v = .slice a l.length cap ∧ (0 < l.length → ∃ b off, a = some ⟨b, off, none⟩ ∧ b < W.heap.size ∧ ∀ i, i < l.length → W.cell? ⟨b, off + i, none⟩ = some (.int .i64 (l.getD i 0 : Nat))) := by
  have h' := h
  obtain ⟨a, cap, rfl, _⟩ := h
  rw [castL_length] at h' ⊢
  exact ⟨a, cap, rfl, ints_nat h'⟩
theorem ints_quiet {W W' : World} {v : Value} {xs : List Int} (h : IntsAt W v xs) (q : Qt W W') : IntsAt W' v xs := by
  obtain ⟨nd, rfl⟩ := q
  exact h
/-- Marks at a word's places make that word. -/
theorem mk6_pos (v : List Bool) (j : Nat) (hj : j ≤ 127) : mk6 w0 (pos v j) = (List.range 127).map fun i => if i < j then v.getD i false else false := by
  induction j with
  | zero =>
    show w0 = _
    rw [tab_congr 127 _ (fun _ => false) (fun i _ => if_neg (by omega)), List.map_const', List.length_range]
    rfl
  | succ j ih =>
    have ih := ih (by omega)
    unfold pos
    by_cases hb : v.getD j false = true
    · rw [if_pos hb, mk6_snoc, ih]
      apply tab_set
      · rw [if_pos (by omega), hb]
      · intro i e
        rcases Nat.lt_or_ge i j with h1 | h1
        · rw [if_pos h1, if_pos (by omega)]
        · rw [if_neg (by omega), if_neg (by omega)]
    · rw [if_neg hb, ih]
      apply tab_congr
      intro i _
      by_cases e : i = j
      · subst e
        rw [if_neg (by omega), if_pos (by omega)]
        cases h : v.getD i false
        · rfl
        · exact absurd h hb
      · rcases Nat.lt_or_ge i j with h1 | h1
        · rw [if_pos h1, if_pos (by omega)]
        · rw [if_neg (by omega), if_neg (by omega)]
theorem mk6_all (v : List Bool) (h : v.length = 127) : mk6 w0 (pos v 127) = v := by
  rw [mk6_pos v 127 (by omega), tab_congr 127 _ (fun i => v.getD i false) (fun i hi => if_pos hi), tab_of _ false 127 h]
theorem pos_count (v : List Bool) (h : v.length = 127) : (pos v 127).length = v.count true := by
  rw [pos_length v 127 (by omega), ← h, List.take_length]
/-- Of the syndromes of a word with ten bits at most its places are found. -/
theorem loc_word (u : List Bool) (ok : Bool) (ps : List Nat) (hu : u.length = 127) (hc : u.count true ≤ 10) (h : Loc (castL (syn u)) ok ps) : ok = true ∧ ps = pos u 127 := by
  rcases h with ⟨h1, v, h2, h3, h4, h5⟩ | ⟨_, _, h3⟩
  · refine ⟨h1, ?_⟩
    have e : v = u := sq_one v u h2 hu h3 hc fun n hn => sq_of_syn _ _ (castL_inj _ _ h4) n hn
    rw [h5, e]
  · exact absurd rfl (h3 u hu hc)
set_option maxRecDepth 100000 in
set_option maxHeartbeats 2000000 in
theorem loc_big (l1 l2 : Value) (xs zs : List Int) (w : World) (hl : 40 < xs.length ∨ 60 < zs.length) (hm1 : xs.length ≤ maxLen) (hm2 : zs.length ≤ maxLen) (h1 : BytesAt w l1 xs) (h2 : IntsAt w l2 zs) :
    Calls Try.prog 6 #[l1, l2] w fun e w' => e = .returned (.bool true) ∧ Below w.heap.size w w' := by
  unfold maxLen at hm1 hm2
  obtain ⟨a1, c1, rfl, hcells⟩ := h1
  clear hcells
  obtain ⟨a2, c2, rfl, hcells⟩ := h2
  clear hcells
  by_cases hx : 40 < xs.length
  · have hl' : (xs.length : Int) > 40 := by omega
    clear hl
    go_enter Try.func6, Try.ntmps6
    go_wp2_with fail
    refine (awake_any _).mono ?_
    rintro e w1 ⟨rfl, hb⟩
    have HB := Lib.hid hb
    clear hb
    go_wp2_with fail
    refine (awake_any _).mono ?_
    rintro e w2 ⟨rfl, hb⟩
    have HB2 := Lib.hid (HB.out.trans (hb.mono HB.out.size))
    clear hb
    go_wp2
    go_ret
    exact ⟨rfl, HB2.out⟩
  · have hl' : ¬ ((xs.length : Int) > 40) := by omega
    have hl2 : (zs.length : Int) > 60 := by omega
    clear hl
    go_enter Try.func6, Try.ntmps6
    go_wp2_with fail
    refine (awake_any _).mono ?_
    rintro e w1 ⟨rfl, hb⟩
    have HB := Lib.hid hb
    clear hb
    go_wp2_with fail
    refine (awake_any _).mono ?_
    rintro e w2 ⟨rfl, hb⟩
    have HB2 := Lib.hid (HB.out.trans (hb.mono HB.out.size))
    clear hb
    go_wp2
    go_ret
    exact ⟨rfl, HB2.out⟩
set_option maxRecDepth 100000 in
set_option maxHeartbeats 4000000 in
theorem loc_walk (l1 l2 : Value) (xs zs : List Int) (w : World) (hl1 : xs.length ≤ 40) (hl2 : zs.length ≤ 60) (hp1 : ∀ p ∈ xs, 0 ≤ p ∧ p ≤ 255) (h1 : BytesAt w l1 xs) (h2 : IntsAt w l2 zs) :
    Calls Try.prog 6 #[l1, l2] w fun e w' => e = .returned (.bool true) ∧ Below w.heap.size w w' := by
  have HI1 := Lib.hid h1
  have HI2 := Lib.hid h2
  have HP1 := Lib.hid hp1
  obtain ⟨ab1, lc1, rfl, hcells⟩ := h1
  clear hcells hp1
  obtain ⟨ab2, lc2, rfl, hcells⟩ := h2
  clear hcells
  have hl' : ¬ ((xs.length : Int) > 40) := by omega
  have hl'' : ¬ (40 < (xs.length : Int)) := by omega
  have hk' : ¬ ((zs.length : Int) > 60) := by omega
  have hk'' : ¬ (60 < (zs.length : Int)) := by omega
  have hlu : (mk6 w0 (plc6 xs)).length = 127 := by rw [mk6_length, w0_length]
  have HHO := Lib.hid (fun W V h => holes_any xs V W (by omega) HP1.out h)
  obtain ⟨u, hu⟩ : ∃ m, mk6 w0 (plc6 xs) = m := ⟨_, rfl⟩
  rw [hu] at hlu HHO
  clear hu
  have HCT := Lib.hid (fun j (hj : j < 127) => count_take u j (by rw [hlu]; exact hj))
  have HCE : Hid ((u.take 127).count true = u.count true) := by unfold Hid; rw [← hlu, List.take_length]
  have HCM : Hid (∀ j, (u.take j).count true ≤ 127) := fun j => by
    have h1 := count_le (u.take j)
    rw [List.length_take] at h1
    omega
  have HLu := Lib.hid (hlu)
  have HSuW := Lib.hid fun _ : Unit => word_size u HLu.out
  have HSuA := Lib.hid fun _ : Unit => arr_size u HLu.out
  clear hlu
  have hz := word_zero
  have hza := arr_zero
  go_enter Try.func6, Try.ntmps6
  go_wp2_with fail
  refine (awake_any _).mono ?_
  rintro e w1 ⟨rfl, hb⟩
  have HI1_1 := Lib.hid (HI1.out.below hb)
  have HI2_1 := Lib.hid (HI2.out.below hb)
  have HB_1 := Lib.hid hb
  clear hb HI1 HI2
  go_wp2_with fail
  refine (HHO.out _ _ HI1_1.out).mono ?_
  rintro e w2 ⟨rfl, hb⟩
  have HI1_2 := Lib.hid (HI1_1.out.below hb)
  have HI2_2 := Lib.hid (HI2_1.out.below hb)
  have HB_2 := Lib.hid (HB_1.out.trans (hb.mono HB_1.out.size))
  clear hb HI1_1 HI2_1 HB_1
  have H0 : Hid (Row (w2.alloc (.cells (boolCells w0) 25)) w2.heap.size 25 (boolCells w0)) := heap_alloc_new _ _
  have HS0 : Hid (Unit → (boolCells w0).size = (boolCells u).size) := by intro _; rw [boolCells_size, boolCells_size, w0_length, HLu.out]
  go_upto_region 4 with (first
      | (refine wpList_store_row rfl 25 (.tmp 5) (.tmp 31) rfl w2.heap.size (boolCells u) rfl rfl 25 (boolCells w0) H0.out (HSuA.out ()) (HS0.out ()) (boolCells_one u) ?_))
  have hgs := HB_2.out.size
  have H5_3 : Hid (Row ((w2.alloc (.cells (boolCells w0) 25)).setRow w2.heap.size (boolCells u)) w2.heap.size 25 (boolCells u)) := Row.setRow H0.out _
  have HB_3 : Hid (Below w.heap.size w ((w2.alloc (.cells (boolCells w0) 25)).setRow w2.heap.size (boolCells u))) := below_setRow (HB_2.out.alloc hgs _) hgs _
  have hgb5 : w.heap.size ≤ w2.heap.size := hgs
  have HI1_3 := Lib.hid (HI1_2.out.below (W' := ((w2.alloc (.cells (boolCells w0) 25)).setRow w2.heap.size (boolCells u))) (below_setRow ((Below.refl _ _).alloc (Nat.le_refl _) _) (Nat.le_refl _) _))
  have HI2_3 := Lib.hid (HI2_2.out.below (W' := ((w2.alloc (.cells (boolCells w0) 25)).setRow w2.heap.size (boolCells u))) (below_setRow ((Below.refl _ _).alloc (Nat.le_refl _) _) (Nat.le_refl _) _))
  clear H0 HS0 HB_2 HI1_2 HI2_2 hgs 
  generalize ((w2.alloc (.cells (boolCells w0) 25)).setRow w2.heap.size (boolCells u)) = w3 at *
  generalize w2.heap.size = g5 at *
  clear HI1_3 hza
  rw [show decide ((40 : Int) < (xs.length : Int)) = false by rw [decide_eq_false_iff_not]; omega, show decide ((60 : Int) < (zs.length : Int)) = false by rw [decide_eq_false_iff_not]; omega]
  have HIW := Lib.hid HI2_3.out
  go_wp2
  go_loopw [6, 7] (fun c i wr => ∃ j : Nat, j ≤ 127 ∧ i = .int .i64 (j : Nat) ∧ c = .int .i64 ((u.take j).count true : Nat) ∧ Row wr g5 25 (boolCells u) ∧ wr = w3) (fun _ i _ => 127 - (intOf i).toNat)
  case atStart => exact ⟨0, by omega, rfl, rfl, H5_3.out, rfl⟩
  case round =>
    obtain ⟨j, hj, rfl, rfl, q1, rfl⟩ := hrel
    have H5 := Lib.hid q1
    clear q1
    by_cases hlt : j < 127
    · have c0 := word_at H5.out j (by rw [HLu.out]; exact hlt)
      have HN := Lib.hid (HCT.out j hlt)
      have hcm := HCM.out j
      obtain ⟨p, hp⟩ : ∃ p, u.getD j false = p := ⟨_, rfl⟩
      rw [hp] at c0 HN
      obtain ⟨d, hd⟩ : ∃ d, (u.take j).count true = d := ⟨_, rfl⟩
      rw [hd] at HN hcm ⊢
      clear hp hd hz
      cases p
      all_goals
        go_wp2
        go_roundw
        case rel => exact ⟨j + 1, by omega, by go_num, by rw [HN.out]; simp, H5.out, by first | rfl | trivial⟩
        case measure => simp [intOf] <;> omega
    · obtain rfl : j = 127 := by omega
      rw [HCE.out]
      have hcm := HCM.out 127
      rw [HCE.out] at hcm
      clear HCT HCM hlt hj
      clear HIW
      clear H5_3
      go_wp2_with (first
          | (refine wpList_load_row rfl 25 (.tmp 5) rfl g5 rfl 25 (boolCells u) (0, 0) _ H5.out Try.underlying25 rfl (HSuA.out ()) ?_))
      refine (syn_any u _ HLu.out).mono ?_
      rintro e w4 ⟨g, hg, rfl, hr, hb⟩
      have H5_4 := Lib.hid (H5.out.box hb)
      have HI2_4 := Lib.hid (HI2_3.out.below hb)
      have HB_4 := Lib.hid (HB_3.out.trans (hb.mono HB_3.out.size))
      clear hb H5 HI2_3 HB_3
      have HRI := Lib.hid (row_ints (cap := 20) hr (syn_length u))
      clear hr hg
      go_wp2_with fail
      refine (locate_any (castL (syn u)) _ _ HRI.out).mono ?_
      rintro e w5 ⟨r, ok, ps, rfl, hin, hloc, hb⟩
      have H5_5 := Lib.hid (H5_4.out.box hb)
      have HI2_5 := Lib.hid (HI2_4.out.below hb)
      have HB_5 := Lib.hid (HB_4.out.trans (hb.mono HB_4.out.size))
      clear hb H5_4 HI2_4 HB_4
      have HIN := Lib.hid hin
      have HLC := Lib.hid hloc
      clear hin hloc HRI
      obtain ⟨n, hn⟩ : ∃ n, u.count true = n := ⟨_, rfl⟩
      rw [hn] at hcm ⊢
      have HNU := Lib.hid hn
      clear hn HCE
      by_cases h10 : n ≤ 10
      · obtain ⟨rfl, rfl⟩ := loc_word u ok ps HLu.out (by rw [HNU.out]; exact h10) HLC.out
        have hpc := pos_count u HLu.out
        rw [HNU.out] at hpc
        have HPLT := Lib.hid (pos_lt u 127)
        have HPBT := Lib.hid (pos_bit u 127)
        have HPRI := Lib.hid (pos_rise u 127)
        have HOP := Lib.hid (ints_form HIN.out)
        obtain ⟨ra, rc, hra, hop⟩ := HOP.out
        subst hra
        clear HOP HLC HIN
        have HOP := Lib.hid hop
        clear hop
        rw [hpc] at HOP HPRI ⊢
        have HPC := Lib.hid hpc
        generalize pos u 127 = qs at *
        have hn10 : (n : Int) ≤ 10 := by omega
        have dn10 : decide ((n : Int) ≤ 10) = true := by rw [decide_eq_true_iff]; omega
        clear hpc
        go_wp2
        go_loopw [10] (fun i wr => ∃ j : Nat, j ≤ n ∧ i = .int .i64 (j : Nat) ∧ Qt w5 wr) (fun i _ => n - (intOf i).toNat)
        case atStart => exact ⟨0, by omega, rfl, Qt.refl _⟩
        case round =>
          obtain ⟨j, hj, rfl, hqt⟩ := hrel
          have HQT := Lib.hid hqt
          clear hqt
          by_cases hlt : j < n
          · obtain ⟨b, off, rfl, hbg, hcc⟩ := HOP.out (by omega)
            have c0 : wr.cell? ⟨b, off + j, none⟩ = some (.int .i64 (qs.getD j 0 : Nat)) := by
              obtain ⟨nd, rfl⟩ := HQT.out; exact hcc j hlt
            have hmem := getD_mem qs j (by rw [HPC.out]; exact hlt)
            have hp := HPLT.out _ hmem
            have hbt := HPBT.out _ hmem
            obtain ⟨p, hpe⟩ : ∃ p, qs.getD j 0 = p := ⟨_, rfl⟩
            rw [hpe] at c0 hp hbt
            have HRW := Lib.hid (HQT.out.row H5_5.out)
            have c1 := word_at HRW.out p (by rw [HLu.out]; exact hp)
            rw [hbt] at c1
            have hjn : (j : Int) < (n : Int) := by omega
            have hp0 : (p : Int) < 127 := by omega
            clear hmem hbt
            by_cases hj0 : j = 0
            · subst hj0
              rw [Nat.add_zero] at c0
              clear hpe hcc hz
              go_wp2
              go_quiet (fail)
              go_wp2
              go_roundw
              case rel => exact ⟨1, by omega, by go_num, HQT.out.trans (Qt.of _ _)⟩
              case measure => simp [intOf] <;> omega
            · obtain ⟨i, hi⟩ : ∃ i, j = i + 1 := ⟨j - 1, by omega⟩
              have c2 : wr.cell? ⟨b, off + i, none⟩ = some (.int .i64 (qs.getD i 0 : Nat)) := by
                obtain ⟨nd, rfl⟩ := HQT.out; exact hcc i (by omega)
              have hri := HPRI.out i (by omega)
              rw [← hi, hpe] at hri
              obtain ⟨p1, hp1⟩ : ∃ p, qs.getD i 0 = p := ⟨_, rfl⟩
              rw [hp1] at c2 hri
              have hji : (j : Int) - 1 = (i : Int) := by omega
              have hin : (i : Int) < (n : Int) := by omega
              have dj0 : decide ((j : Int) > 0) = true := by rw [decide_eq_true_iff]; omega
              have dj1 : decide (0 < (j : Int)) = true := by rw [decide_eq_true_iff]; omega
              have dj3 : decide (0 < j) = true := by rw [decide_eq_true_iff]; omega
              have hj3 : 0 < j := by omega
              have dj4 : decide (p ≤ p1) = false := by rw [decide_eq_false_iff_not]; omega
              have hj4 : ¬ (p ≤ p1) := by omega
              have dj2 : decide ((p : Int) ≤ (p1 : Int)) = false := by rw [decide_eq_false_iff_not]; omega
              have hj1 : (j : Int) > 0 := by omega
              have hj2 : ¬ ((p : Int) ≤ (p1 : Int)) := by omega
              clear hi hp1 hpe hcc hri hz
              go_wp2
              go_quiet (fail)
              go_wp2
              go_roundw
              case rel => exact ⟨j + 1, by omega, by go_num, HQT.out.trans (Qt.of _ _)⟩
              case measure => simp [intOf] <;> omega
          · obtain rfl : j = n := by omega
            have HBX : Hid (Below w.heap.size w wr) := HQT.out.below HB_5.out
            have HI2X : Hid (IntsAt wr (.slice ab2 zs.length lc2) zs) := ints_quiet HI2_5.out HQT.out
            clear HOP HPLT HPBT HPRI HPC H5_5 HB_5 HI2_5 hlt HQT
            go_wp2_with fail
            refine (locate_any zs _ _ HI2X.out).mono ?_
            rintro e w26 ⟨r2, ok2, ps2, rfl, hin2, hloc2, hb⟩
            have HI2_26 := Lib.hid (HI2X.out.below hb)
            have HB_26 := Lib.hid (HBX.out.trans (hb.mono HBX.out.size))
            clear hb HI2X HBX
            have HIN2 := Lib.hid hin2
            obtain ⟨ra2, rc2, hr2, _⟩ := hin2
            rw [castL_length] at hr2
            subst hr2
            cases ok2
            · have hps : ps2 = [] := by
                rcases hloc2 with ⟨h, _⟩ | ⟨_, h, _⟩
                · cases h
                · exact h
              subst hps
              clear hloc2 HIN2 HI2_26 hz
              rw [show ([] : List Nat).length = 0 from rfl]
              go_wp2
              go_ret
              exact ⟨rfl, HB_26.out⟩
            · have hex : ∃ v : List Bool, v.length = 127 ∧ v.count true ≤ 10 ∧ castL (syn v) = zs ∧ ps2 = pos v 127 := by
                rcases hloc2 with ⟨_, h⟩ | ⟨h, _⟩
                · exact h
                · cases h
              obtain ⟨v, hlv, hcv, hsv, hpv⟩ := hex
              clear hloc2
              have hn2 : ps2.length ≤ 10 := by rw [hpv, pos_count v hlv]; exact hcv
              have HPLT : Hid (∀ i ∈ ps2, i < 127) := by rw [hpv]; exact pos_lt v 127
              have HPRI : Hid (∀ k, k + 1 < ps2.length → ps2.getD k 0 < ps2.getD (k + 1) 0) := by rw [hpv]; exact pos_rise v 127
              have HMT := Lib.hid (mk6_take w0 ps2)
              have HMA : Hid (mk6 w0 (ps2.take ps2.length) = v) := by rw [List.take_length, hpv]; exact mk6_all v hlv
              have HML : Hid (∀ j, (mk6 w0 (ps2.take j)).length = 127) := fun j => by rw [mk6_length, w0_length]
              have HO2 := Lib.hid (ints_nat HIN2.out)
              have hlz : zs.length = 20 := by rw [← hsv, castL_length, syn_length]
              have HOZ := Lib.hid (ints_open HI2_26.out)
              rw [hlz] at HOZ ⊢
              have HZS : Hid (∀ j, zs.getD j 0 = ((syn v).getD j 0 : Nat)) := fun j => by rw [← hsv, castL_getD]
              have HLv := Lib.hid hlv
              have HSvW := Lib.hid fun _ : Unit => word_size v hlv
              clear hpv hsv hlv hcv hlz
              obtain ⟨n2, hn2e⟩ : ∃ n2, ps2.length = n2 := ⟨_, rfl⟩
              have HPN := Lib.hid hn2e
              rw [hn2e] at hn2 HMA HPRI HO2 ⊢
              clear hn2e HIN2 HI2_26
              have hgs := HB_26.out.size
              have H13 : Hid (Row (w26.alloc (.cells (boolCells w0) 32)) w26.heap.size 32 (boolCells (mk6 w0 (ps2.take 0)))) := heap_alloc_new _ _
              have HBA : Hid (Below w26.heap.size w26 (w26.alloc (.cells (boolCells w0) 32))) := (Below.refl _ _).alloc (Nat.le_refl _) _
              go_wp2
              clear hz
              generalize w26.alloc (.cells (boolCells w0) 32) = wa at *
              generalize w26.heap.size = g13 at *
              go_loopw [14] (fun i wr => ∃ j : Nat, j ≤ n2 ∧ i = .int .i64 (j : Nat) ∧ Row wr g13 32 (boolCells (mk6 w0 (ps2.take j))) ∧ Below g13 w26 wr) (fun i _ => n2 - (intOf i).toNat)
              case atStart => exact ⟨0, by omega, rfl, H13.out, HBA.out⟩
              case round =>
                clear H13 HBA wa
                obtain ⟨j, hj, rfl, q1, q2⟩ := hrel
                have HR := Lib.hid q1
                have HBW := Lib.hid q2
                clear q1 q2
                by_cases hlt : j < n2
                · obtain ⟨b, off, rfl, hbg, hcc⟩ := HO2.out (by omega)
                  have c0 := (HBW.out.cell (p := ⟨b, off + j, none⟩) hbg).trans (hcc j hlt)
                  have hp := HPLT.out _ (getD_mem ps2 j (by rw [HPN.out]; exact hlt))
                  have HT := Lib.hid (HMT.out j (by rw [HPN.out]; exact hlt))
                  obtain ⟨p, hpe⟩ : ∃ p, ps2.getD j 0 = p := ⟨_, rfl⟩
                  rw [hpe] at c0 hp HT
                  have c1 := word_at HR.out p (by rw [HML.out]; exact hp)
                  have f1 := HR.out.free p
                  generalize (mk6 w0 (ps2.take j)).getD p false = old at *
                  have hjn : (j : Int) < (n2 : Int) := by omega
                  have hp0 : (p : Int) < 127 := by omega
                  have dp0 : decide ((p : Int) < 0) = false := by rw [decide_eq_false_iff_not]; omega
                  have dp1 : decide ((p : Int) > 126) = false := by rw [decide_eq_false_iff_not]; omega
                  have dp2 : decide (126 < (p : Int)) = false := by rw [decide_eq_false_iff_not]; omega
                  have hp3 : ¬ ((p : Int) < 0) := by omega
                  have hp4 : ¬ ((p : Int) > 126) := by omega
                  have HEND : Hid (∀ nd, Row ((wr.setCell ⟨g13, p, none⟩ (.bool true)).drewN nd) g13 32 (boolCells (mk6 w0 (ps2.take (j + 1)))) ∧ Below g13 w26 ((wr.setCell ⟨g13, p, none⟩ (.bool true)).drewN nd)) := by
                    intro nd
                    refine ⟨?_, Below.drewN (HBW.out.setCell (p := ⟨g13, p, none⟩) (Nat.le_refl _) _) nd⟩
                    rw [HT.out, ← boolCells_set]
                    exact (HR.out.set p _).drewN nd
                  by_cases hj0 : j = 0
                  · subst hj0
                    rw [Nat.add_zero] at c0
                    clear hpe hcc
                    go_wp2
                    go_quiet (fail)
                    go_wp2
                    go_roundw
                    case rel => exact ⟨1, by omega, by go_num, (HEND.out _).1, (HEND.out _).2⟩
                    case measure => simp [intOf] <;> omega
                  · obtain ⟨i, hi⟩ : ∃ i, j = i + 1 := ⟨j - 1, by omega⟩
                    have c2 := (HBW.out.cell (p := ⟨b, off + i, none⟩) hbg).trans (hcc i (by omega))
                    have hri := HPRI.out i (by omega)
                    rw [← hi, hpe] at hri
                    obtain ⟨p1, hp1⟩ : ∃ p, ps2.getD i 0 = p := ⟨_, rfl⟩
                    rw [hp1] at c2 hri
                    have hji : (j : Int) - 1 = (i : Int) := by omega
                    have hin : (i : Int) < (n2 : Int) := by omega
                    have dj0 : decide ((j : Int) > 0) = true := by rw [decide_eq_true_iff]; omega
                    have dj1 : decide (0 < (j : Int)) = true := by rw [decide_eq_true_iff]; omega
                    have dj3 : decide (0 < j) = true := by rw [decide_eq_true_iff]; omega
                    have hj3 : 0 < j := by omega
                    have dj4 : decide (p ≤ p1) = false := by rw [decide_eq_false_iff_not]; omega
                    have hj4 : ¬ (p ≤ p1) := by omega
                    have dj2 : decide ((p : Int) ≤ (p1 : Int)) = false := by rw [decide_eq_false_iff_not]; omega
                    have hj1 : (j : Int) > 0 := by omega
                    have hj2 : ¬ ((p : Int) ≤ (p1 : Int)) := by omega
                    clear hi hp1 hpe hcc hri
                    go_wp2
                    go_quiet (fail)
                    go_wp2
                    go_roundw
                    case rel => exact ⟨j + 1, by omega, by go_num, (HEND.out _).1, (HEND.out _).2⟩
                    case measure => simp [intOf] <;> omega
                · obtain rfl : j = n2 := by omega
                  have H13 : Hid (Row wr g13 32 (boolCells v)) := by rw [← HMA.out]; exact HR.out
                  have HBV : Hid (Below w.heap.size w wr) := HB_26.out.trans (HBW.out.mono hgs)
                  clear HR HB_26 HMA HMT HML HPRI HPLT HO2 hlt
                  go_wp2_with (first
                      | (refine wpList_load_row rfl 32 (.tmp 13) rfl g13 rfl 32 (boolCells v) (0, 0) _ H13.out Try.underlying32 rfl (HSvW.out ()) ?_))
                  refine (syn_any v _ HLv.out).mono ?_
                  rintro e wc ⟨g3, hg3, rfl, hr, hb⟩
                  have HS3 := Lib.hid hr
                  have HBC := Lib.hid (HBV.out.trans (hb.mono HBV.out.size))
                  have HOC : Hid (∃ b off, ab2 = some ⟨b, off, none⟩ ∧ ∀ i, i < 20 → wc.cell? ⟨b, off + i, none⟩ = some (.int .i64 (zs.getD i 0))) := by
                    obtain ⟨b, off, h1, h2, h3⟩ := HOZ.out (by omega)
                    have h4 := HBW.out.size
                    exact ⟨b, off, h1, fun i hi => ((hb.cell (p := ⟨b, off + i, none⟩) (show b < wr.heap.size by have h5 := H13.out.lt; have h6 := h2; omega)).trans (HBW.out.cell (p := ⟨b, off + i, none⟩) h2)).trans (h3 i hi)⟩
                  have hn3 : (j : Int) ≤ 10 := by omega
                  clear hr hb hg3 HBV H13 HOZ HBW
                  go_wp2
                  go_loopw [16] (fun i wr => ∃ k : Nat, k ≤ 20 ∧ i = .int .i64 (k : Nat) ∧ Qt wc wr) (fun i _ => 20 - (intOf i).toNat)
                  case atStart => exact ⟨0, by omega, rfl, Qt.refl _⟩
                  case round =>
                    obtain ⟨k, hk, rfl, hqt⟩ := hrel
                    have HQT := Lib.hid hqt
                    clear hqt
                    by_cases hlt : k < 20
                    · obtain ⟨b, off, rfl, hcc⟩ := HOC.out
                      have c0 : wr.cell? ⟨b, off + k, none⟩ = some (.int .i64 (zs.getD k 0)) := by
                        obtain ⟨nd, rfl⟩ := HQT.out; exact hcc k hlt
                      have c1 : wr.cell? ⟨g3, k, none⟩ = some (.int .i64 ((syn v).getD k 0 : Nat)) := nat_at (HQT.out.row HS3.out) k (by rw [syn_length]; exact hlt)
                      rw [HZS.out] at c0
                      generalize (syn v).getD k 0 = y at *
                      have hk3 : (k : Int) < 20 := by omega
                      clear hcc
                      go_wp2
                      go_quiet (fail)
                      go_wp2
                      go_roundw
                      case rel => exact ⟨k + 1, by omega, by go_num, HQT.out.trans (Qt.of _ _)⟩
                      case measure => simp [intOf] <;> omega
                    · obtain rfl : k = 20 := by omega
                      have HBE := Lib.hid (HQT.out.below HBC.out)
                      go_wp2
                      go_ret
                      exact ⟨by first | rfl | simp [hn3], HBE.out⟩
      · have hn10 : ¬ ((n : Int) ≤ 10) := by omega
        have HBX := HB_5
        have HI2X := HI2_5
        clear HB_5 HI2_5 HLC HIN
        go_wp2_with fail
        refine (locate_any zs _ _ HI2X.out).mono ?_
        rintro e w26 ⟨r2, ok2, ps2, rfl, hin2, hloc2, hb⟩
        have HI2_26 := Lib.hid (HI2X.out.below hb)
        have HB_26 := Lib.hid (HBX.out.trans (hb.mono HBX.out.size))
        clear hb HI2X HBX
        have HIN2 := Lib.hid hin2
        obtain ⟨ra2, rc2, hr2, _⟩ := hin2
        rw [castL_length] at hr2
        subst hr2
        cases ok2
        · have hps : ps2 = [] := by
            rcases hloc2 with ⟨h, _⟩ | ⟨_, h, _⟩
            · cases h
            · exact h
          subst hps
          clear hloc2 HIN2 HI2_26 hz
          rw [show ([] : List Nat).length = 0 from rfl]
          go_wp2
          go_ret
          exact ⟨rfl, HB_26.out⟩
        · have hex : ∃ v : List Bool, v.length = 127 ∧ v.count true ≤ 10 ∧ castL (syn v) = zs ∧ ps2 = pos v 127 := by
            rcases hloc2 with ⟨_, h⟩ | ⟨h, _⟩
            · exact h
            · cases h
          obtain ⟨v, hlv, hcv, hsv, hpv⟩ := hex
          clear hloc2
          have hn2 : ps2.length ≤ 10 := by rw [hpv, pos_count v hlv]; exact hcv
          have HPLT : Hid (∀ i ∈ ps2, i < 127) := by rw [hpv]; exact pos_lt v 127
          have HPRI : Hid (∀ k, k + 1 < ps2.length → ps2.getD k 0 < ps2.getD (k + 1) 0) := by rw [hpv]; exact pos_rise v 127
          have HMT := Lib.hid (mk6_take w0 ps2)
          have HMA : Hid (mk6 w0 (ps2.take ps2.length) = v) := by rw [List.take_length, hpv]; exact mk6_all v hlv
          have HML : Hid (∀ j, (mk6 w0 (ps2.take j)).length = 127) := fun j => by rw [mk6_length, w0_length]
          have HO2 := Lib.hid (ints_nat HIN2.out)
          have hlz : zs.length = 20 := by rw [← hsv, castL_length, syn_length]
          have HOZ := Lib.hid (ints_open HI2_26.out)
          rw [hlz] at HOZ ⊢
          have HZS : Hid (∀ j, zs.getD j 0 = ((syn v).getD j 0 : Nat)) := fun j => by rw [← hsv, castL_getD]
          have HLv := Lib.hid hlv
          have HSvW := Lib.hid fun _ : Unit => word_size v hlv
          clear hpv hsv hlv hcv hlz
          obtain ⟨n2, hn2e⟩ : ∃ n2, ps2.length = n2 := ⟨_, rfl⟩
          have HPN := Lib.hid hn2e
          rw [hn2e] at hn2 HMA HPRI HO2 ⊢
          clear hn2e HIN2 HI2_26
          have hgs := HB_26.out.size
          have H13 : Hid (Row (w26.alloc (.cells (boolCells w0) 32)) w26.heap.size 32 (boolCells (mk6 w0 (ps2.take 0)))) := heap_alloc_new _ _
          have HBA : Hid (Below w26.heap.size w26 (w26.alloc (.cells (boolCells w0) 32))) := (Below.refl _ _).alloc (Nat.le_refl _) _
          go_wp2
          clear hz
          generalize w26.alloc (.cells (boolCells w0) 32) = wa at *
          generalize w26.heap.size = g13 at *
          go_loopw [14] (fun i wr => ∃ j : Nat, j ≤ n2 ∧ i = .int .i64 (j : Nat) ∧ Row wr g13 32 (boolCells (mk6 w0 (ps2.take j))) ∧ Below g13 w26 wr) (fun i _ => n2 - (intOf i).toNat)
          case atStart => exact ⟨0, by omega, rfl, H13.out, HBA.out⟩
          case round =>
            clear H13 HBA wa
            obtain ⟨j, hj, rfl, q1, q2⟩ := hrel
            have HR := Lib.hid q1
            have HBW := Lib.hid q2
            clear q1 q2
            by_cases hlt : j < n2
            · obtain ⟨b, off, rfl, hbg, hcc⟩ := HO2.out (by omega)
              have c0 := (HBW.out.cell (p := ⟨b, off + j, none⟩) hbg).trans (hcc j hlt)
              have hp := HPLT.out _ (getD_mem ps2 j (by rw [HPN.out]; exact hlt))
              have HT := Lib.hid (HMT.out j (by rw [HPN.out]; exact hlt))
              obtain ⟨p, hpe⟩ : ∃ p, ps2.getD j 0 = p := ⟨_, rfl⟩
              rw [hpe] at c0 hp HT
              have c1 := word_at HR.out p (by rw [HML.out]; exact hp)
              have f1 := HR.out.free p
              generalize (mk6 w0 (ps2.take j)).getD p false = old at *
              have hjn : (j : Int) < (n2 : Int) := by omega
              have hp0 : (p : Int) < 127 := by omega
              have dp0 : decide ((p : Int) < 0) = false := by rw [decide_eq_false_iff_not]; omega
              have dp1 : decide ((p : Int) > 126) = false := by rw [decide_eq_false_iff_not]; omega
              have dp2 : decide (126 < (p : Int)) = false := by rw [decide_eq_false_iff_not]; omega
              have hp3 : ¬ ((p : Int) < 0) := by omega
              have hp4 : ¬ ((p : Int) > 126) := by omega
              have HEND : Hid (∀ nd, Row ((wr.setCell ⟨g13, p, none⟩ (.bool true)).drewN nd) g13 32 (boolCells (mk6 w0 (ps2.take (j + 1)))) ∧ Below g13 w26 ((wr.setCell ⟨g13, p, none⟩ (.bool true)).drewN nd)) := by
                intro nd
                refine ⟨?_, Below.drewN (HBW.out.setCell (p := ⟨g13, p, none⟩) (Nat.le_refl _) _) nd⟩
                rw [HT.out, ← boolCells_set]
                exact (HR.out.set p _).drewN nd
              by_cases hj0 : j = 0
              · subst hj0
                rw [Nat.add_zero] at c0
                clear hpe hcc
                go_wp2
                go_quiet (fail)
                go_wp2
                go_roundw
                case rel => exact ⟨1, by omega, by go_num, (HEND.out _).1, (HEND.out _).2⟩
                case measure => simp [intOf] <;> omega
              · obtain ⟨i, hi⟩ : ∃ i, j = i + 1 := ⟨j - 1, by omega⟩
                have c2 := (HBW.out.cell (p := ⟨b, off + i, none⟩) hbg).trans (hcc i (by omega))
                have hri := HPRI.out i (by omega)
                rw [← hi, hpe] at hri
                obtain ⟨p1, hp1⟩ : ∃ p, ps2.getD i 0 = p := ⟨_, rfl⟩
                rw [hp1] at c2 hri
                have hji : (j : Int) - 1 = (i : Int) := by omega
                have hin : (i : Int) < (n2 : Int) := by omega
                have dj0 : decide ((j : Int) > 0) = true := by rw [decide_eq_true_iff]; omega
                have dj1 : decide (0 < (j : Int)) = true := by rw [decide_eq_true_iff]; omega
                have dj3 : decide (0 < j) = true := by rw [decide_eq_true_iff]; omega
                have hj3 : 0 < j := by omega
                have dj4 : decide (p ≤ p1) = false := by rw [decide_eq_false_iff_not]; omega
                have hj4 : ¬ (p ≤ p1) := by omega
                have dj2 : decide ((p : Int) ≤ (p1 : Int)) = false := by rw [decide_eq_false_iff_not]; omega
                have hj1 : (j : Int) > 0 := by omega
                have hj2 : ¬ ((p : Int) ≤ (p1 : Int)) := by omega
                clear hi hp1 hpe hcc hri
                go_wp2
                go_quiet (fail)
                go_wp2
                go_roundw
                case rel => exact ⟨j + 1, by omega, by go_num, (HEND.out _).1, (HEND.out _).2⟩
                case measure => simp [intOf] <;> omega
            · obtain rfl : j = n2 := by omega
              have H13 : Hid (Row wr g13 32 (boolCells v)) := by rw [← HMA.out]; exact HR.out
              have HBV : Hid (Below w.heap.size w wr) := HB_26.out.trans (HBW.out.mono hgs)
              clear HR HB_26 HMA HMT HML HPRI HPLT HO2 hlt
              go_wp2_with (first
                  | (refine wpList_load_row rfl 32 (.tmp 13) rfl g13 rfl 32 (boolCells v) (0, 0) _ H13.out Try.underlying32 rfl (HSvW.out ()) ?_))
              refine (syn_any v _ HLv.out).mono ?_
              rintro e wc ⟨g3, hg3, rfl, hr, hb⟩
              have HS3 := Lib.hid hr
              have HBC := Lib.hid (HBV.out.trans (hb.mono HBV.out.size))
              have HOC : Hid (∃ b off, ab2 = some ⟨b, off, none⟩ ∧ ∀ i, i < 20 → wc.cell? ⟨b, off + i, none⟩ = some (.int .i64 (zs.getD i 0))) := by
                obtain ⟨b, off, h1, h2, h3⟩ := HOZ.out (by omega)
                have h4 := HBW.out.size
                exact ⟨b, off, h1, fun i hi => ((hb.cell (p := ⟨b, off + i, none⟩) (show b < wr.heap.size by have h5 := H13.out.lt; have h6 := h2; omega)).trans (HBW.out.cell (p := ⟨b, off + i, none⟩) h2)).trans (h3 i hi)⟩
              have hn3 : (j : Int) ≤ 10 := by omega
              clear hr hb hg3 HBV H13 HOZ HBW
              go_wp2
              go_loopw [16] (fun i wr => ∃ k : Nat, k ≤ 20 ∧ i = .int .i64 (k : Nat) ∧ Qt wc wr) (fun i _ => 20 - (intOf i).toNat)
              case atStart => exact ⟨0, by omega, rfl, Qt.refl _⟩
              case round =>
                obtain ⟨k, hk, rfl, hqt⟩ := hrel
                have HQT := Lib.hid hqt
                clear hqt
                by_cases hlt : k < 20
                · obtain ⟨b, off, rfl, hcc⟩ := HOC.out
                  have c0 : wr.cell? ⟨b, off + k, none⟩ = some (.int .i64 (zs.getD k 0)) := by
                    obtain ⟨nd, rfl⟩ := HQT.out; exact hcc k hlt
                  have c1 : wr.cell? ⟨g3, k, none⟩ = some (.int .i64 ((syn v).getD k 0 : Nat)) := nat_at (HQT.out.row HS3.out) k (by rw [syn_length]; exact hlt)
                  rw [HZS.out] at c0
                  generalize (syn v).getD k 0 = y at *
                  have hk3 : (k : Int) < 20 := by omega
                  clear hcc
                  go_wp2
                  go_quiet (fail)
                  go_wp2
                  go_roundw
                  case rel => exact ⟨k + 1, by omega, by go_num, HQT.out.trans (Qt.of _ _)⟩
                  case measure => simp [intOf] <;> omega
                · obtain rfl : k = 20 := by omega
                  have HBE := Lib.hid (HQT.out.below HBC.out)
                  go_wp2
                  go_ret
                  exact ⟨by first | rfl | simp [hn3], HBE.out⟩
theorem loc_any (l1 l2 : Value) (xs zs : List Int) (w : World) (hm1 : xs.length ≤ maxLen) (hm2 : zs.length ≤ maxLen) (hp1 : ∀ p ∈ xs, 0 ≤ p ∧ p ≤ 255) (h1 : BytesAt w l1 xs) (h2 : IntsAt w l2 zs) :
    Calls Try.prog 6 #[l1, l2] w fun e w' => e = .returned (.bool true) ∧ Below w.heap.size w w' := by
  by_cases hb : 40 < xs.length ∨ 60 < zs.length
  · exact loc_big l1 l2 xs zs w hb hm1 hm2 h1 h2
  · exact loc_walk l1 l2 xs zs w (by omega) (by omega) hp1 h1 h2
end Go.Proofs.Ytbokecpcefcimaa
