/-
  Contracts and plain facts that the laws share; each piece is headed by what it holds and its conditions.
-/
import Derived.Test.YtoohahjmiljpgaaQS13
import Derived.Test.YtoohahjmiljpgaaQS18
import Derived.Test.YtoohahjmiljpgaaQS15
import Derived.Test.YtoohahjmiljpgaaQS7
import Derived.Deep.RegionWith
import Derived.StillTailTactics

/- pvq's Index. Conditions: lists of numbers as they lie. -/
namespace Go.Proofs.Ytoohahjmiljpgaa
open Go.RowKit
open M
set_option maxRecDepth 100000 in
set_option maxHeartbeats 1000000 in
theorem index_any (l : List Int) (v : Value) (w : World) (hv : IntsAt w v l) (hl : l.length ≤ maxLen) :
    Calls Try.prog 46 #[v] w fun e w' => e = .returned (.tuple #[.int .i64 (ixI l), .int .i64 (ixE l)]) ∧ Below w.heap.size w w' := by
  have HP := pulses_any l v w hv hl
  by_cases h12 : 12 < pu13 l
  · have HI : Hid (ixI l = 0) := Lib.hid (if_pos h12)
    have HE : Hid (ixE l = 7) := Lib.hid (if_pos h12)
    generalize pu13 l = p at *
    have hpI : (12 : Int) < (p : Int) := by omega
    clear hv hl
    go_enter Try.func46, Try.ntmps46
    go_wp2_with fail
    refine HP.mono ?_
    rintro e w1 ⟨rfl, rfl⟩
    go_wp2
    go_ret2
    exact ⟨by rw [HI.out, HE.out]; rfl, Below.refl _ _⟩
  · have HI : Hid (ixI l = (ix13 l : Int)) := Lib.hid (if_neg h12)
    have HE : Hid (ixE l = 0) := Lib.hid (if_neg h12)
    have h8 : l.length ≤ 8 := by
      rcases Nat.lt_or_ge 8 l.length with h | h
      · rw [pu_long l h] at h12; omega
      · exact h
    have hpl : pu13 l = pl13 l := by
      have := pu_in l h8
      omega
    rw [hpl] at HP h12
    have hp12 : pl13 l ≤ 12 := by omega
    have HIB := Lib.hid (ix_big l h8 hp12)
    have HPD := Lib.hid (pl_drop l)
    have HXD := Lib.hid (ix_drop l)
    have HPB := Lib.hid (pl_dropped l)
    have HP0 : Hid (pl13 (l.drop 0) = pl13 l) := Lib.hid rfl
    have HX0 : Hid (ix13 (l.drop 0) = ix13 l) := Lib.hid rfl
    have HXL : Hid (ix13 (l.drop l.length) = 0) := Lib.hid (by rw [List.drop_length]; rfl)
    obtain ⟨a, cap, rfl, hcell⟩ := hv
    obtain ⟨L, hL⟩ : ∃ L, l.length = L := ⟨_, rfl⟩
    rw [hL] at hcell HXD HXL HPD HP h8 ⊢
    clear hL hl hpl
    obtain ⟨K0, hK0⟩ : ∃ K0, pl13 l = K0 := ⟨_, rfl⟩
    rw [hK0] at HP h12 hp12 HP0 HPB
    obtain ⟨X0, hX0⟩ : ∃ X0, ix13 l = X0 := ⟨_, rfl⟩
    rw [hX0] at HI HIB HX0
    clear hK0 hX0
    have hkI : ¬ (12 : Int) < (K0 : Int) := by omega
    have HCA := counts_any
    have HCP := counts_put
    have HTL := Lib.hid (tf_len 117)
    have HTC := Lib.hid fun n k h1 h2 => tf_cell 117 n k h1 h2 (by omega)
    generalize tf13 117 = T at HCA HCP HTL HTC
    go_enter Try.func46, Try.ntmps46
    go_wp2_with fail
    refine HP.mono ?_
    rintro e w1 ⟨rfl, rfl⟩
    clear HP
    go_wp2_with fail
    refine (HCA w1).mono ?_
    rintro e w2 ⟨rfl, hb2⟩
    have hz := counts_zero w2
    have hst := HCP w2
    have hsz : (iCells T).size = 117 := by rw [iCells_size, HTL.out]
    have HR : Hid (Row (w2.alloc (.cells (iCells T) 85)) w2.heap.size 85 (iCells T)) := heap_alloc_new _ _
    have HB := Lib.hid (hb2.alloc hb2.size (.cells (iCells T) 85))
    have HG := Lib.hid hb2.size
    clear hb2
    go_wp2_with fail
    clear hz hst hsz HCA HCP
    generalize w2.heap.size = g at *
    generalize w2.alloc (.cells (iCells T) 85) = w3 at *
    go_loopw [4, 6, 19] (fun kk ii pp wr => ∃ p K I : Nat, p ≤ L ∧ pp = .int .i64 p ∧ kk = .int .i64 K ∧ ii = .int .i64 I ∧ K = pl13 (l.drop p) ∧ I + ix13 (l.drop p) = X0 ∧ Row wr g 85 (iCells T) ∧ Below w1.heap.size w1 wr) (fun _ _ pp _ => L - (intOf pp).toNat)
    case atStart => exact ⟨0, K0, 0, by omega, rfl, rfl, rfl, HP0.out.symm, by rw [HX0.out]; omega, HR.out, HB.out⟩
    case round =>
      clear HR HB HP0 HX0
      obtain ⟨p, K, I, hp, rfl, rfl, rfl, hK, hI, hR, hB⟩ := hrel
      rcases Nat.lt_or_ge p L with hlt | hge
      · obtain ⟨b, off, rfl, hbs, hcs⟩ := hcell (by omega)
        have c0 := (hB.cell (p := ⟨b, off + p, none⟩) hbs).trans (hcs p hlt)
        obtain ⟨m, hm⟩ : ∃ m, m = L - 1 - p := ⟨_, rfl⟩
        have hxd := HXD.out p hlt
        have hpd := HPD.out p hlt
        have hpb := HPB.out p
        obtain ⟨x, hx⟩ : ∃ x, l.getD p 0 = x := ⟨_, rfl⟩
        obtain ⟨K2, hK2⟩ : ∃ K2, K2 = pl13 (l.drop (p + 1)) := ⟨_, rfl⟩
        obtain ⟨X2, hX2⟩ : ∃ X2, X2 = ix13 (l.drop (p + 1)) := ⟨_, rfl⟩
        rw [hx] at c0 hxd hpd
        rw [← hK2] at hpd
        rw [← hK, ← hm, ← hX2] at hxd
        rw [← hK] at hpd hpb
        rw [hxd] at hI
        have HK2 := Lib.hid hK2
        have HX2 := Lib.hid hX2
        have HPD1 := Lib.hid hpd
        have HI2 := Lib.hid hI
        have HMD := Lib.hid hm
        have HR := Lib.hid hR
        have HB := Lib.hid hB
        have HKB : Hid (K ≤ 12) := Lib.hid (by omega)
        have ew1 : (L : Int) - 1 = ((L - 1 : Nat) : Int) := by omega
        have ew2 : ((L - 1 : Nat) : Int) - (p : Int) = (m : Int) := by omega
        have hm8 : (m : Int) < 9 := by omega
        have hL8 : (L : Int) ≤ 8 := by omega
        have hpL : (p : Int) < 8 := by omega
        clear hcs hcell hx hK2 hX2 hxd hpd hpb hI hm hR hB hK
        go_wp2_with fail
        refine (ordered_any wr).mono ?_
        rintro e w4 ⟨rfl, rfl⟩
        have HC0 : (wr.alloc (.cells #[.int .i64 (unr 0)] 3)).cell? ⟨wr.heap.size, 0, none⟩ = some (.int .i64 (unr 0)) := box_cell13 _ _ _
        have HF0 : (wr.alloc (.cells #[.int .i64 (unr 0)] 3)).frozen? ⟨wr.heap.size, 0, none⟩ = false := Row.free (row_new _ _ rfl #[.int .i64 (unr 0)] 3) 0
        have hR4 : Row (wr.alloc (.cells #[.int .i64 (unr 0)] 3)) g 85 (iCells T) := Row.alloc HR.out _
        have hB4 := HB.out.alloc HB.out.size (.cells #[.int .i64 (unr 0)] 3)
        have HCG : Hid (g ≠ wr.heap.size) := Lib.hid (by have := Row.lt HR.out; omega)
        have HCB := Lib.hid HB.out.size
        have HCS := Lib.hid (show Row (wr.alloc (.cells #[.int .i64 (unr 0)] 3)) wr.heap.size 3 #[.int .i64 (unr 0)] from row_new _ _ rfl _ _)
        obtain ⟨c, hc⟩ : ∃ c, wr.heap.size = c := ⟨_, rfl⟩
        rw [hc] at HC0 HF0 HCG HCB HCS ⊢
        clear HR HB hc
        have HN0 := next_any 0 c _ (by omega) HC0 HF0
        have HR4 := Lib.hid (hR4.far (p := ⟨c, 0, none⟩) HCG.out (.int .i64 (unr (0 + 1))))
        have HB4 := Lib.hid (hB4.setCell (p := ⟨c, 0, none⟩) HCB.out (.int .i64 (unr (0 + 1))))
        have HC4 := Lib.hid (Row.set HCS.out 0 (.int .i64 (unr (0 + 1))))
        clear hR4 hB4 HC0 HF0 HCS
        generalize wr.alloc (.cells #[.int .i64 (unr 0)] 3) = w4 at *
        go_wp2_with fail
        refine HN0.mono ?_
        rintro e w5 ⟨rfl, rfl⟩
        clear HN0
        generalize w4.setCell ⟨c, 0, none⟩ (.int .i64 (unr (0 + 1))) = w5 at *
        go_wp2_with fail
        go_loopw [6, 11] (fun ii ff ws => ∃ r J : Nat, r ≤ rk x ∧ ff = .int .i64 (unr r) ∧ ii = .int .i64 J ∧ J = I + ah (cn13 m) K r ∧ Row ws c 3 #[.int .i64 (unr (r + 1))] ∧ Row ws g 85 (iCells T) ∧ Below w1.heap.size w1 ws) (fun _ ff _ => rk x - rk (intOf ff))
        case atStart => exact ⟨0, I, by omega, rfl, rfl, rfl, HC4.out, HR4.out, HB4.out⟩
        case round =>
          clear HR4 HB4 HC4
          obtain ⟨r, J, hr, rfl, rfl, hJ, hC, hR, hB⟩ := hrel
          have HRK := Lib.hid (rk_le x)
          have HR := Lib.hid hR
          have HB := Lib.hid hB
          have HC := Lib.hid hC
          have HJ := Lib.hid hJ
          clear hR hB hC hJ
          by_cases hrx : r = rk x
          · have hux : unr r = x := (unr_eq r x).2 hrx
            have HRX := Lib.hid hrx
            clear hrx
            rw [hux]
            go_wp2_with fail
            have HSZ := size_any x wr (by have := HPD1.out; have := HKB.out; omega) (by have := HPD1.out; have := HKB.out; omega)
            obtain ⟨ax, hax⟩ : ∃ ax, x.natAbs = ax := ⟨_, rfl⟩
            have HKX := HPD1.out
            rw [hax] at HSZ HKX
            refine HSZ.mono ?_
            rintro e w6 ⟨rfl, rfl⟩
            have ewk := wr_sub _ _ _ HKX (Nat.le_trans HKB.out (by decide))
            clear HSZ HKX hax
            go_wp2_with fail
            go_roundw
            case rel => exact ⟨p + 1, K2, J, hlt, by go_num, by go_num, rfl, HK2.out, by rw [← HX2.out, HJ.out, HRX.out, ← HI2.out, Nat.add_assoc], HR.out, HB.out⟩
            case measure =>
              exact ms13 L p hlt
          · have hux : ¬ unr r = x := fun h => hrx ((unr_eq r x).1 h)
            have HLT : Hid (r < rk x) := Lib.hid (by omega)
            obtain ⟨s, hs⟩ : ∃ s, sz r = s := ⟨_, rfl⟩
            have h24 : rk x ≤ 24 := by have h2 := HRK.out; have h3 := HPD1.out; have h4 := HKB.out; omega
            have hsK : s ≤ K := by
              have h1 := HLT.out
              have h2 := HRK.out
              have h3 := HPD1.out
              unfold sz at hs
              omega
            obtain ⟨z, hz⟩ : ∃ z, z = K - s := ⟨_, rfl⟩
            have hz13 : z < 13 := by have := HKB.out; omega
            have c3 := i_at HR.out (m * 13 + z) (by rw [HTL.out]; omega)
            rw [HTC.out _ _ (by omega) hz13] at c3
            have hah := ah_one_more (cn13 m) K r
            have hmo := ah_mono (cn13 m) K (r + 1) (rk x) HLT.out
            rw [hs, ← hz] at hah
            have HSZ := fun w => size_any (unr r) w (by have := unr_bd r (by omega); omega) (by have := unr_bd r (by omega); omega)
            rw [unr_sz, hs] at HSZ
            have HRd : Row wr.drew g 85 (iCells T) := HR.out
            have HBd := below_drew1 HB.out
            have HCd : Row wr.drew c 3 #[.int .i64 (unr (r + 1))] := HC.out
            have HNX := next_any (r + 1) c wr.drew (by omega) (cell_of_row _ _ 0 _ _ (0, 0) HCd) (HCd.free 0)
            obtain ⟨J2, hJ2⟩ : ∃ J2, J2 = I + ah (cn13 m) K (r + 1) := ⟨_, rfl⟩
            have hJB : (J2 : Int) ≤ 152587890625 := Int.le_trans (ix_le _ _ (by have := HI2.out; omega)) HIB.out
            have hJJ : (J : Int) + (cn13 m z : Int) = (J2 : Int) := by rw [hJ2, HJ.out, Int.natCast_add, Int.natCast_add, hah, Int.add_assoc]
            have HJ2 := Lib.hid hJ2
            have HR2 := Lib.hid (HRd.far (p := ⟨c, 0, none⟩) HCG.out (.int .i64 (unr (r + 1 + 1))))
            have HB2 := Lib.hid (HBd.setCell (p := ⟨c, 0, none⟩) HCB.out (.int .i64 (unr (r + 1 + 1))))
            have HC2 := Lib.hid (Row.set HCd 0 (.int .i64 (unr (r + 1 + 1))))
            have HMS := Lib.hid (show rk x - rk (unr (r + 1)) < rk x - rk (unr r) by rw [rk_unr, rk_unr]; have := HLT.out; omega)
            have ewz2 : IntKind.i64.wrap ((K : Int) - (s : Int)) = (z : Int) := wi_sub _ _ _ (by omega) (by have := HKB.out; omega)
            have hzI : (z : Int) < 13 := by omega
            have hJW := wi_eq _ _ hJJ (by omega) hJB
            generalize (cn13 m z : Int) = q at *
            clear hJJ hah hmo hJ2 hs hsK hz HR HB HC HRK HJ hrx h24 HRd HBd HCd
            go_wp2_with fail
            refine wp_region_still_tail 10 (by kernel_rfl) (by kernel_rfl) ?_
            simp only [List.take_succ_cons, List.take_zero, List.drop_succ_cons, List.drop_zero]
            repeat still_step
            still_call (HSZ _)
            repeat still_step
            refine wpStill_nil ?_
            change wpList _ _ _ _ _ wr.drew
            clear c3 HSZ
            generalize wr.drew = w6 at *
            go_wp2_with fail
            refine HNX.mono ?_
            rintro e w7 ⟨rfl, rfl⟩
            clear HNX
            generalize w6.setCell ⟨c, 0, none⟩ (.int .i64 (unr (r + 1 + 1))) = w7 at *
            go_wp2_with fail
            go_roundw
            case rel => exact ⟨r + 1, J2, HLT.out, rfl, by go_num, HJ2.out, HC2.out, HR2.out, HB2.out⟩
            case measure => exact HMS.out
      · obtain rfl : p = L := by omega
        have HIX : Hid (I = X0) := Lib.hid (by rw [HXL.out] at hI; omega)
        have HB := Lib.hid hB
        clear hB hR hI hK hcell
        go_wp2_with fail
        go_ret2
        exact ⟨by rw [HI.out, HE.out, HIX.out]; rfl, HB.out⟩
end Go.Proofs.Ytoohahjmiljpgaa

/- band's Right, for layers that call no other part of band. Conditions: eight steps. -/
namespace Go.Proofs.Ytoohahjmiljpgaa
open Go.RowKit
open M
/-- Whether a step may be. -/
def isq (n : Int) : Bool := decide (0 ≤ n ∧ n ≤ 15)
theorem isstep_anyR (n : Int) (w : World) : Calls Try.prog 80 #[.int .i64 n] w fun e w' => e = .returned (.bool (isq n)) ∧ w' = w := by
  by_cases h1 : n < 0
  · have e : isq n = false := decide_eq_false (by omega)
    have h2 : ¬ n ≥ 0 := by omega
    rw [e]
    clear e
    go_enter Try.func80, Try.ntmps80
    go_wp2
    go_ret
    exact ⟨rfl, rfl⟩
  · by_cases h2 : n ≤ 15
    · have e : isq n = true := decide_eq_true (by omega)
      have h3 : n ≥ 0 := by omega
      rw [e]
      clear e
      go_enter Try.func80, Try.ntmps80
      go_wp2
      go_ret
      exact ⟨rfl, rfl⟩
    · have e : isq n = false := decide_eq_false (by omega)
      have h3 : n ≥ 0 := by omega
      rw [e]
      clear e
      go_enter Try.func80, Try.ntmps80
      go_wp2
      go_ret
      exact ⟨rfl, rfl⟩
theorem index_sds (l : List Int) (hl : l.length = 8) (k : Nat) (hk : k < 8) (w : World) :
    (Instr.index 27 (.agg (iCells l)) (.int .i64 k)).run Try.prog w = .ok (.int .i64 (l.getD k 0)) w := by
  obtain ⟨i, hi, _, _, _⟩ := info_parts int_info
  have c := iCells_get l k (by omega)
  simp [Instr.index, run_underlying Try.underlying27, asIntOf, hk, run_sizeOf w hi, (show Try.prog.cellsOf 3 = 1 by kernel_rfl), c, go_sem]
set_option maxRecDepth 100000 in
set_option maxHeartbeats 1000000 in
theorem right17_any (l : List Int) (w : World) (hl : l.length = 8) :
    Calls Try.prog 58 #[.agg (iCells l)] w fun e w' => e = .returned (.bool (rt17 l)) ∧ Below w.heap.size w w' := by
  have HR : Hid (Row (w.alloc (.cells (iCells l) 27)) w.heap.size 27 (iCells l)) := heap_alloc_new _ _
  have HB : Hid (Below w.heap.size w (w.alloc (.cells (iCells l) 27))) := (Below.refl _ _).alloc (Nat.le_refl _) _
  have HL := Lib.hid hl
  have HSZ := Lib.hid (sds_size l hl)
  have HIS := fun n w => isstep_anyR n w
  have HNO : Hid (∀ k, k < 8 → isq (l.getD k 0) = false → rt17 l = false) := Lib.hid fun k hk h => b_no (rt_iff l) fun g => by
    have := g k hk
    rw [isq, decide_eq_false_iff_not] at h
    exact h this
  have HYES : Hid ((∀ j, j < 8 → isq (l.getD j 0) = true) → rt17 l = true) := Lib.hid fun h => (rt_iff l).2 fun j hj => of_decide_eq_true (h j hj)
  generalize rt17 l = R at *
  clear hl
  go_enter Try.func58, Try.ntmps58
  go_wp2_with (refine wpList_load_row rfl 27 (.tmp 1) rfl w.heap.size rfl 27 (iCells l) (0, 0) _ HR.out Try.underlying27 rfl HSZ.out ?_)
  clear HR
  generalize w.alloc (.cells (iCells l) 27) = w1 at *
  go_loop [6] (fun ii => ∃ k : Nat, k ≤ 8 ∧ ii = .int .i64 k ∧ ∀ j, j < k → isq (l.getD j 0) = true) (fun ii => 8 - (intOf ii).toNat)
  case atStart => exact ⟨0, by omega, rfl, fun j hj => by omega⟩
  case round =>
    obtain ⟨k, hk, rfl, hall⟩ := hrel
    have HA := Lib.hid hall
    clear hall
    rcases Nat.lt_or_ge k 8 with hlt | hge
    · have hix := index_sds l HL.out k hlt
      have HN := Lib.hid (HNO.out k hlt)
      have HST : Hid (isq (l.getD k 0) = true → ∀ j, j < k + 1 → isq (l.getD j 0) = true) := Lib.hid fun h j hj => by
        rcases Nat.lt_or_ge j k with hl | hg
        · exact HA.out j hl
        · obtain rfl : j = k := by omega
          exact h
      obtain ⟨x, hx⟩ : ∃ x, l.getD k 0 = x := ⟨_, rfl⟩
      rw [hx] at hix HN HST
      clear hx hk
      go_wp2_with fail
      refine (HIS x _).mono ?_
      rintro e w2 ⟨rfl, rfl⟩
      cases hb : isq x
      · go_wp2_with fail
        go_ret
        exact ⟨by rw [HN.out hb]; rfl, HB.out⟩
      · go_wp2_with fail
        go_round
        case rel => exact ⟨k + 1, hlt, by go_num, HST.out hb⟩
        case measure => simp [intOf] <;> omega
    · obtain rfl : k = 8 := by omega
      have HT := Lib.hid (HYES.out HA.out)
      clear hk hge HA
      go_wp2_with fail
      go_ret
      exact ⟨by rw [HT.out]; rfl, HB.out⟩
end Go.Proofs.Ytoohahjmiljpgaa
