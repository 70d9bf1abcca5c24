/-
  MaskLeast, walked. Conditions: eight ints; what mask's All, Budget and Moves answer.
-/
import Derived.Test.YtfpmdbdgikphdaaMkb
import Derived.Test.YtfpmdbdgikphdaaDr
namespace Go.Proofs.Ytfpmdbdgikphdaa
open Go.RowKit
open M
theorem inc_min (v : Int) (w : World) : (Builtin.min_ #[3, 3] 3 #[.int .i64 v, .int .i64 15]).run Try.prog w = .ok (.int .i64 (min v 15)) w := by
  simp [Builtin.min_, Builtin.min2]
  repeat' split
  all_goals omega
set_option maxRecDepth 100000 in
set_option maxHeartbeats 1000000 in
theorem least17_law (HA : AllOk) (HBu : BudOk) (HMo : MovOk) (x : List Int) (a b : UInt8) (w : World) (hx : x.length = 8) :
    Calls Try.prog 3 #[.agg (iCells x), .int .u8 (ub a), .int .u8 (ub b)] w fun e w' => e = .returned (.bool true) ∧ Below w.heap.size w w' := by
  obtain ⟨ha1, ha2⟩ := ub_bd a
  obtain ⟨hb1, hb2⟩ := ub_bd b
  generalize ub a = y at *
  generalize ub b = z at *
  obtain ⟨q, hq⟩ : ∃ m : Nat, y % 8 = m := ⟨(y % 8).toNat, by omega⟩
  obtain ⟨s, hs⟩ : ∃ m : Nat, z % 8 = m := ⟨(z % 8).toNat, by omega⟩
  have hqN : q < 8 := by omega
  have hsN : s < 8 := by omega
  have HAW := Lib.hid fun w => awake17_any HA w
  have HH := Lib.hid fun w => held17_any x w hx
  have HRT := hd17_right x
  have HLH := hd17_len x 8
  obtain ⟨h, hh⟩ : ∃ h, hd17 x 8 = h := ⟨_, rfl⟩
  rw [hh] at HH HRT HLH
  have HBD := (rt_iff h).1 HRT
  have HB1 := fun w => HBu h (q : Int) w HLH
  have HM1 := fun w => HMo h (q : Int) w HLH
  rw [bdI_in h q HRT hqN] at HB1
  have hmv : mvI h (q : Int) = (bud (fun j => (h.getD j 0).toNat) q / 2 ^ (h.getD q 0).toNat : Nat) := by
    unfold mvI
    rw [if_pos ⟨HRT, by omega, by omega⟩, Int.toNat_natCast]
  rw [hmv] at HM1
  have hlst := bud_least (fun j => (h.getD j 0).toNat) q hqN
  have hwb := bud_small h q HRT
  obtain ⟨v, hv⟩ : ∃ v, h.getD s 0 = v := ⟨_, rfl⟩
  have hvb := HBD s hsN
  rw [hv] at hvb
  have HRT2 : rt17 (h.set s (min (v + 1) 15)) = true := (rt_iff _).2 fun j hj => by
    rw [set_getD13 _ _ _ _ (by rw [HLH]; exact hsN)]
    have := HBD j hj
    split <;> omega
  have HL2 : (h.set s (min (v + 1) 15)).length = 8 := by rw [List.length_set, HLH]
  have HB2 := fun w => HBu (h.set s (min (v + 1) 15)) (q : Int) w HL2
  rw [bdI_in _ q HRT2 hqN] at HB2
  have hmo := bud_mono (fun j => (h.getD j 0).toNat) (fun j => ((h.set s (min (v + 1) 15)).getD j 0).toNat) q fun j hj => by
    show (h.getD j 0).toNat ≤ ((h.set s (min (v + 1) 15)).getD j 0).toNat
    rw [set_getD13 _ _ _ _ (by rw [HLH]; exact hsN)]
    by_cases e : j = s
    · rw [if_pos e, e, hv]; omega
    · rw [if_neg e]; omega
  have hw2 := bud_small _ q HRT2
  obtain ⟨W2, hW2⟩ : ∃ n, bud (fun j => ((h.set s (min (v + 1) 15)).getD j 0).toNat) q = n := ⟨_, rfl⟩
  rw [hW2] at HB2 hmo hw2
  obtain ⟨W, hW⟩ : ∃ n, bud (fun j => (h.getD j 0).toNat) q = n := ⟨_, rfl⟩
  rw [hW] at HB1 HM1 hlst hwb hmo
  have hgq := HBD q hqN
  obtain ⟨t, ht⟩ : ∃ t : Nat, (h.getD q 0).toNat = t := ⟨_, rfl⟩
  simp only [ht] at hlst HM1
  have hgt : h.getD q 0 = (t : Int) := by omega
  have hM4 : 4 ≤ W / 2 ^ t := (Nat.le_div_iff_mul_le (Nat.two_pow_pos t)).2 hlst
  have hMb : W / 2 ^ t ≤ W := Nat.div_le_self _ _
  obtain ⟨m, hm⟩ : ∃ m, W / 2 ^ t = m := ⟨_, rfl⟩
  rw [hm] at HM1 hM4 hMb
  have HGN := fun w => rgain_any t w (by omega)
  have hpb := pow15 t (by omega)
  have hlI : 4 * (2 : Int) ^ t ≤ (W : Int) := by
    have e : ((2 ^ t : Nat) : Int) = (2 : Int) ^ t := by simp
    rw [← e]; omega
  obtain ⟨P, hP⟩ : ∃ P : Int, (2 : Int) ^ t = P := ⟨_, rfl⟩
  rw [hP] at hpb hlI
  simp only [hP] at HGN
  obtain ⟨hP1, hP2⟩ := hpb
  obtain ⟨G, hG⟩ : ∃ G : Nat, 4 * P = (G : Int) := ⟨(4 * P).toNat, by omega⟩
  have n0 : ¬ (W : Int) < (G : Int) := by omega
  have n1 : ¬ W < G := by omega
  have n2 : ¬ (m : Int) < 4 := by omega
  have n3 : ¬ m < 4 := by omega
  have n4 : (W : Int) ≤ (W2 : Int) := by omega
  have hGb : (G : Int) ≤ 131072 := by omega
  have ewG : IntKind.i64.wrap (4 * P) = (G : Int) := by rw [IntKind.wrap_i64]; omega
  have HB1 := Lib.hid HB1
  have HB2 := Lib.hid HB2
  have HM1 := Lib.hid HM1
  have HGN := Lib.hid HGN
  have HSET := Lib.hid (iCells_set h s (min (v + 1) 15))
  obtain ⟨h2, hh2⟩ : ∃ h2, h.set s (min (v + 1) 15) = h2 := ⟨_, rfl⟩
  rw [hh2] at HB2 HSET HL2
  have hv1 : IntKind.i64.wrap (v + 1) = v + 1 := by rw [IntKind.wrap_i64]; omega
  have hmin := fun w => inc_min (v + 1) w
  obtain ⟨u, hu⟩ : ∃ u, min (v + 1) 15 = u := ⟨_, rfl⟩
  rw [hu] at hmin HSET
  have HX := Lib.hid (i8_size x hx)
  have hz := sds_zero
  have HSS := Lib.hid (sds_size h HLH)
  have HSX := Lib.hid (sds_same zs8 h zs8_length HLH)
  have HS2 := Lib.hid (sds_size h2 HL2)
  have HLH := Lib.hid HLH
  have HGQ := Lib.hid hgt
  have HVS := Lib.hid hv
  have HQN := Lib.hid hqN
  have HSN := Lib.hid hsN
  have hqI : (q : Int) < 8 := by omega
  have hsI : (s : Int) < 8 := by omega
  have HR : Hid (Row (w.alloc (.cells (iCells x) 22)) w.heap.size 22 (iCells x)) := Lib.hid (heap_alloc_new _ _)
  have HB : Hid (Below w.heap.size w (w.alloc (.cells (iCells x) 22))) := Lib.hid ((Below.refl _ _).alloc (Nat.le_refl _) _)
  clear hx HRT hh HA HBu HMo HBD HRT2 HL2 hmv hlst hwb hv hvb hmo hw2 hW2 hW hgq ht hgt hM4 hMb hm hlI hP hh2 hu hqN hsN hG
  go_enter Try.func3, Try.ntmps3
  go_wp2_with fail
  generalize w.alloc (.cells (iCells x) 22) = w1 at *
  refine (HAW.out _).mono ?_
  rintro e w2 ⟨rfl, hb⟩
  have HR := Lib.hid (HR.out.box hb)
  have HB := Lib.hid (HB.out.trans (hb.mono HB.out.size))
  clear hb
  go_wp2_with (refine wpList_load_row rfl 22 (.tmp 3) rfl w.heap.size rfl 22 (iCells x) (0, 0) _ HR.out Try.underlying22 rfl HX.out ?_)
  refine (HH.out _).mono ?_
  rintro e w3 ⟨rfl, hb⟩
  have HB := Lib.hid (HB.out.trans (hb.mono HB.out.size))
  clear hb HR
  have HR : Hid (Row (w3.alloc (.cells (iCells zs8) 24)) w3.heap.size 24 (iCells zs8)) := Lib.hid (heap_alloc_new _ _)
  go_upto_region 4 with (refine wpList_store_row rfl 24 (.tmp 7) (.tmp 13) rfl w3.heap.size (iCells h) rfl rfl 24 (iCells zs8) HR.out HSS.out HSX.out (iCells_one _) ?_)
  have HGS := Lib.hid HB.out.size
  have HB := Lib.hid (below_setRow (HB.out.alloc HB.out.size (.cells (iCells zs8) 24)) HB.out.size (iCells h))
  have HR := Lib.hid (Row.setRow HR.out (iCells h))
  generalize (w3.alloc (.cells (iCells zs8) 24)).setRow w3.heap.size (iCells h) = w5 at *
  obtain ⟨g, hg⟩ : ∃ g, w3.heap.size = g := ⟨_, rfl⟩
  rw [hg] at HR HGS ⊢
  clear hg hz
  go_upto_region 5 with fail
  rw [hq]
  clear hq ha1 ha2
  go_wp2_with (refine wpList_load_row rfl 24 (.tmp 7) rfl g rfl 24 (iCells h) (0, 0) _ HR.out Try.underlying24 rfl HSS.out ?_)
  refine (HB1.out _).mono ?_
  rintro e w6 ⟨rfl, hb⟩
  have HR := Lib.hid (HR.out.box hb)
  have HB := Lib.hid (HB.out.trans (hb.mono HB.out.size))
  have c0 := i_at HR.out q (by rw [HLH.out]; exact HQN.out)
  rw [HGQ.out] at c0
  clear hb
  go_wp2_with fail
  refine (HGN.out _).mono ?_
  rintro e w7 ⟨rfl, rfl⟩
  go_wp2_with (refine g_load_row (by rfl) 24 (.tmp 7) rfl g rfl 24 (iCells h) (0, 0) _ HR.out Try.underlying24 rfl HSS.out ?_)
  refine (HM1.out _).mono ?_
  rintro e w8 ⟨rfl, hb⟩
  have HR := Lib.hid (HR.out.box hb)
  have HB := Lib.hid (HB.out.trans (hb.mono HB.out.size))
  have c1 := i_at HR.out s (by rw [HLH.out]; exact HSN.out)
  rw [HVS.out] at c1
  have f1 := HR.out.free s
  have HROW := Lib.hid (show Row (w8.setCell ⟨g, s, none⟩ (.int .i64 u)) g 24 (iCells h2) by
    have h := HR.out.set s (.int .i64 u)
    rw [HSET.out] at h
    exact h)
  have HB := Lib.hid (Below.setCell HB.out (p := ⟨g, s, none⟩) (by have := HGS.out; simp only; omega) (.int .i64 u))
  clear hb c0
  go_upto_region 9 with fail
  clear c1 f1 hmin
  generalize w8.setCell ⟨g, s, none⟩ (.int .i64 u) = w9 at *
  go_wp2_with (refine wpList_load_row rfl 24 (.tmp 7) rfl g rfl 24 (iCells h2) (0, 0) _ HROW.out Try.underlying24 rfl HS2.out ?_)
  refine (HB2.out _).mono ?_
  rintro e w6 ⟨rfl, hb⟩
  have HB := Lib.hid (HB.out.trans (hb.mono HB.out.size))
  clear hb
  go_wp2_with fail
  go_ret
  exact ⟨rfl, HB.out⟩
end Go.Proofs.Ytfpmdbdgikphdaa
