/-
  GiveLouder, walked. Conditions: eight ints, a number below 2^16, one below 2^8; what give's Pulses answers.
-/
import Derived.Test.YtkjbobgmnpifoaaQGvb
namespace Go.Proofs.Ytkjbobgmnpifoaa
open Go.RowKit
open M
/-- Steps greater by m, as far as i. -/
def lm18 (h : List Int) (m i : Nat) : List Int := (List.range 8).map fun p => if p < i then h.getD p 0 + (m : Int) else h.getD p 0
theorem lm18_len (h : List Int) (m i : Nat) : (lm18 h m i).length = 8 := by simp [lm18]
theorem lm18_get (h : List Int) (m i p : Nat) (hp : p < 8) : (lm18 h m i).getD p 0 = if p < i then h.getD p 0 + (m : Int) else h.getD p 0 := by
  unfold lm18
  rw [List.getD_eq_getElem?_getD, List.getElem?_map, List.getElem?_range hp]
  rfl
theorem lm18_at (h : List Int) (m i : Nat) (hi : i < 8) : (lm18 h m i).getD i 0 = h.getD i 0 := by rw [lm18_get _ _ _ _ hi, if_neg (by omega)]
theorem lm18_all (h : List Int) (m j : Nat) (hj : j < 8) : (lm18 h m 8).getD j 0 = h.getD j 0 + (m : Int) := by rw [lm18_get _ _ _ _ hj, if_pos hj]
theorem lm18_zero (h : List Int) (m : Nat) (hl : h.length = 8) : lm18 h m 0 = h := list_eqn 8 _ _ (lm18_len h m 0) hl fun j hj => by rw [lm18_get _ _ _ _ hj, if_neg (by omega)]
theorem lm18_set (h : List Int) (m i : Nat) (hi : i < 8) : (lm18 h m i).set i (h.getD i 0 + (m : Int)) = lm18 h m (i + 1) := by
  refine list_eqn 8 _ _ (by rw [List.length_set, lm18_len]) (lm18_len _ _ _) fun j hj => ?_
  rw [set_getD13 _ _ _ _ (by rw [lm18_len]; exact hi), lm18_get _ _ _ _ hj, lm18_get _ _ _ _ hj]
  by_cases e : j = i
  · rw [if_pos e, if_pos (by omega), e]
  · rw [if_neg e]
    by_cases q : j < i
    · rw [if_pos q, if_pos (by omega)]
    · rw [if_neg q, if_neg (by omega)]
theorem bst_ext (s s' : Nat → Int) (k : Nat → Nat) (l n : Nat) (h : ∀ b, b < n → s b = s' b) : bst s k l n = bst s' k l n := by
  induction n with
  | zero => rfl
  | succ n ih =>
    have e := ih fun b hb => h b (by omega)
    have hn := h n (by omega)
    unfold bst
    rw [e]
    cases hb : bst s' k l n with
    | none => rfl
    | some a =>
      have ha := bst_lt s' k l n a hb
      simp only
      rw [h a (by omega), hn]
theorem gvn_ext (s s' : Nat → Int) (h : ∀ b, b < 8 → s b = s' b) (f : Nat) : ∀ (k : Nat → Nat) (l : Nat), gvn s k l f = gvn s' k l f := by
  induction f with
  | zero => intro k l; rfl
  | succ f ih =>
    intro k l
    unfold gvn
    rw [bst_ext s s' k l 8 h]
    cases bst s' k l 8 with
    | none => rfl
    | some a => exact ih _ _
theorem giv_ext (s s' : Nat → Int) (h : ∀ b, b < 8 → s b = s' b) (l : Nat) : giv s l = giv s' l := by
  unfold giv
  rw [gvn_ext s s' h]
set_option maxRecDepth 100000 in
set_option maxHeartbeats 2000000 in
theorem louder18_law (HP : PulOk) (x : List Int) (n : Int) (by8 : UInt8) (w : World) (hx : x.length = 8) (hn0 : 0 ≤ n) (hn1 : n ≤ 65535) :
    Calls Try.prog 4 #[.agg (iCells x), .int .u16 n, .int .u8 (ub by8)] w fun e w' => e = .returned (.bool true) ∧ Below w.heap.size w w' := by
  obtain ⟨hz1, hz2⟩ := ub_bd by8
  generalize ub by8 = z at *
  obtain ⟨q, hq⟩ : ∃ m : Nat, n.tmod 1000 = m := ⟨(n.tmod 1000).toNat, by have := Int.tmod_nonneg 1000 hn0; omega⟩
  have hq9 : q ≤ 999 := by have := Int.tmod_lt_of_pos n (show (0 : Int) < 1000 by decide); omega
  obtain ⟨hp1, hp2⟩ := pu18_in x q (by omega)
  have HPU := Lib.hid fun w => HP (hd17 x 8) (q : Int) w (hd17_len x 8)
  rw [hp1, hp2] at HPU
  have HLH := hd17_len x 8
  have HBD := Lib.hid (hd17_bd x)
  obtain ⟨h, hh⟩ : ∃ h, hd17 x 8 = h := ⟨_, rfl⟩
  have HH := Lib.hid fun w => held18_any x w hx
  rw [hh] at HPU HH HLH HBD
  have HPM : Hid (∀ (c : Nat) (m : List Int) (w : World), m.length = 8 → (∀ j, j < 8 → m.getD j 0 = h.getD j 0 + (c : Int)) → (∀ j, j < 8 → 0 ≤ m.getD j 0 ∧ m.getD j 0 ≤ 15) → Calls Try.prog 8 #[.agg (iCells m), .int .i64 (q : Int)] w fun e w' => e = .returned (.tuple #[.agg (iCells (kl18 (giv (fun b => h.getD b 0) q))), .int .i64 0]) ∧ Below w.heap.size w w') := Lib.hid fun c m w hm h1 h2 => by
    have hk := HP m (q : Int) w hm
    have ho : ok18 m (q : Int) := ⟨(rt_iff m).2 h2, by omega, by omega⟩
    unfold puI puE at hk
    rw [if_pos ho, if_pos ho, Int.toNat_natCast, giv_ext (fun b => m.getD b 0) (fun b => h.getD b 0 + (c : Int)) (fun b hb => h1 b hb), giv_louder (fun b => h.getD b 0) (fun b => h.getD b 0 + (c : Int)) (c : Int) (fun b => rfl)] at hk
    exact hk
  obtain ⟨k, hk⟩ : ∃ k, giv (fun b => h.getD b 0) q = k := ⟨_, rfl⟩
  rw [hk] at HPU HPM
  have HAW := Lib.hid fun w => awake18_any HP w
  have HX := Lib.hid (i8_size x hx)
  have HSH := Lib.hid (i8_size h HLH)
  have HXH := Lib.hid (sds_same zs8 h zs8_length HLH)
  have HKL := Lib.hid (kl18_len k)
  obtain ⟨K, hK⟩ : ∃ K, kl18 k = K := ⟨_, rfl⟩
  rw [hK] at HPU HKL HPM
  have HKS := Lib.hid (i8_size K HKL.out)
  have HKX := Lib.hid (sds_same zs8 K zs8_length HKL.out)
  have hz := i8_zero
  have HLH := Lib.hid HLH
  have HEQ : Hid (∀ w, (Op.equalIn 10000 22 (.agg (iCells K)) (.agg (iCells K))).run Try.prog w = .ok true w) := Lib.hid fun w => by
    have := eight_eq K K HKL.out HKL.out w
    rw [beq_self_eq_true] at this
    exact this
  have hqI : (q : Int) ≤ 999 := by omega
  have HR : Hid (Row (w.alloc (.cells (iCells x) 22)) w.heap.size 22 (iCells x)) := Lib.hid (heap_alloc_new _ _)
  have HB : Hid (Below w.heap.size w (w.alloc (.cells (iCells x) 22))) := Lib.hid ((Below.refl _ _).alloc (Nat.le_refl _) _)
  clear hx hp1 hp2 hh hk hK HP
  go_enter Try.func4, Try.ntmps4
  go_wp2_with fail
  generalize w.alloc (.cells (iCells x) 22) = w1 at *
  refine (HAW.out _).mono ?_
  rintro e w2 ⟨rfl, hb⟩
  have HR := Lib.hid (HR.out.box hb)
  have HB := Lib.hid (HB.out.trans (hb.mono HB.out.size))
  clear hb
  go_wp2_with (refine wpList_load_row rfl 22 (.tmp 3) rfl w.heap.size rfl 22 (iCells x) (0, 0) _ HR.out Try.underlying22 rfl HX.out ?_)
  refine (HH.out _).mono ?_
  rintro e w3 ⟨rfl, hb⟩
  have HR := Lib.hid (HR.out.box hb)
  have HB := Lib.hid (HB.out.trans (hb.mono HB.out.size))
  clear hb
  have HN : Hid (Row (w3.alloc (.cells (iCells zs8) 22)) w3.heap.size 22 (iCells zs8)) := Lib.hid (heap_alloc_new _ _)
  go_upto_region 5 with (refine wpList_store_row rfl 22 (.tmp 8) (.tmp 23) rfl w3.heap.size (iCells h) rfl rfl 22 (iCells zs8) HN.out HSH.out HXH.out (iCells_one _) ?_)
  have HGS := Lib.hid HB.out.size
  have HB := Lib.hid (below_laid HB.out (.cells (iCells zs8) 22) (iCells h))
  have HA := Lib.hid (Row.setRow HN.out (iCells h))
  generalize (w3.alloc (.cells (iCells zs8) 22)).setRow w3.heap.size (iCells h) = w4 at *
  obtain ⟨ga, hg⟩ : ∃ g, w3.heap.size = g := ⟨_, rfl⟩
  rw [hg] at HA HGS  ⊢
  clear hg HN
  go_wp2_with (refine wpList_load_row rfl 22 (.tmp 8) rfl ga rfl 22 (iCells h) (0, 0) _ HA.out Try.underlying22 rfl HSH.out ?_)
  refine (HPU.out _).mono ?_
  rintro e w5 ⟨rfl, hb⟩
  have HA := Lib.hid (HA.out.box hb)
  have HB := Lib.hid (HB.out.trans (hb.mono HB.out.size))
  clear hb
  have HGA := HGS
  have HN : Hid (Row (w5.alloc (.cells (iCells zs8) 22)) w5.heap.size 22 (iCells zs8)) := Lib.hid (heap_alloc_new _ _)
  go_upto_region 6 with (refine wpList_store_row rfl 22 (.tmp 9) (.tmp 28) rfl w5.heap.size (iCells K) rfl rfl 22 (iCells zs8) HN.out HKS.out HKX.out (iCells_one _) ?_)
  have HGS := Lib.hid HB.out.size
  have NHAHK := Lib.hid (Nat.ne_of_lt (Row.lt HA.out))
  have HA := Lib.hid (row_laid HA.out (.cells (iCells zs8) 22) (iCells K))
  have HB := Lib.hid (below_laid HB.out (.cells (iCells zs8) 22) (iCells K))
  have HK := Lib.hid (Row.setRow HN.out (iCells K))
  generalize (w5.alloc (.cells (iCells zs8) 22)).setRow w5.heap.size (iCells K) = w6 at *
  obtain ⟨gk, hg⟩ : ∃ g, w5.heap.size = g := ⟨_, rfl⟩
  rw [hg] at HK HGS NHAHK ⊢
  clear hg HN
  go_wp2_with fail
  go_loopw [11, 12] (fun tt ii wr => ∃ (i T : Nat), i ≤ 8 ∧ T ≤ 15 ∧ tt = .int .i64 (T : Int) ∧ ii = .int .i64 (i : Int) ∧ (∀ j, j < i → h.getD j 0 ≤ (T : Int)) ∧ wr = w6) (fun _ ii _ => 8 - (intOf ii).toNat)
  case atStart => exact ⟨0, 0, by omega, by omega, rfl, rfl, fun j hj => by omega, rfl⟩
  case round =>
    obtain ⟨i, T, hi8, hT, rfl, rfl, hall, rfl⟩ := hrel
    have HALL := Lib.hid hall
    clear hall
    rcases Nat.lt_or_ge i 8 with hlt | hge
    · have HI := Lib.hid hlt
      have HT := Lib.hid hT
      have hiI : (i : Int) < 8 := by omega
      have c0 := i_at HA.out i (by rw [HLH.out]; exact hlt)
      have hb := HBD.out i hlt
      obtain ⟨u, hu⟩ : ∃ u : Nat, h.getD i 0 = (u : Int) := ⟨(h.getD i 0).toNat, by omega⟩
      rw [hu] at c0 hb
      have HU := Lib.hid fun _ : Unit => hu
      have HU15 := Lib.hid (show u ≤ 15 by omega)
      have HMX : Hid ((if T < u then (u : Int) else (T : Int)) = ((max T u : Nat) : Int)) := Lib.hid (by split <;> omega)
      clear hi8 hlt hT hu hb
      go_wp2_with fail
      go_roundw
      case rel => exact ⟨i + 1, max T u, HI.out, by have := HT.out; have := HU15.out; omega, by rw [HMX.out], by go_num, fun j hj => by
        rcases Nat.lt_or_ge j i with h2 | h2
        · have := HALL.out j h2
          omega
        · obtain rfl : j = i := by omega
          rw [HU.out ()]; omega, by first | trivial | rfl⟩
      case measure =>
        have := HI.out
        simp [intOf] <;> omega
    · obtain rfl : i = 8 := by omega
      obtain ⟨d, hd⟩ : ∃ d : Nat, 16 - T = d := ⟨_, rfl⟩
      have hdI : (16 : Int) - (T : Int) = (d : Int) := by omega
      have hd0 : (d : Int) ≠ 0 := by omega
      have hd1 : ¬ (d : Int) = 0 := by omega
      have hd2 : ¬ d = 0 := by omega
      have hdb : (d : Int) ≤ 16 := by omega
      have hTI : (T : Int) ≤ 15 := by omega
      obtain ⟨m, hm⟩ : ∃ m : Nat, z.tmod (d : Int) = m := ⟨(z.tmod (d : Int)).toNat, by have := Int.tmod_nonneg (d : Int) hz1; omega⟩
      have hmb : m < d := by have := Int.tmod_lt_of_pos z (show (0 : Int) < (d : Int) by omega); omega
      have HM15 := Lib.hid (show T + m ≤ 15 by omega)
      have hmI : (m : Int) ≤ 15 := by omega
      clear hi8 hge hd hmb hT
      go_wp2_with fail
      go_loopw [14] (fun ii wr => ∃ (i : Nat), i ≤ 8 ∧ ii = .int .i64 (i : Int) ∧ Row wr ga 22 (iCells (lm18 h m i)) ∧ Row wr gk 22 (iCells K) ∧ Below w.heap.size w wr) (fun ii _ => 8 - (intOf ii).toNat)
      case atStart => exact ⟨0, by omega, rfl, by rw [lm18_zero h m HLH.out]; exact HA.out, HK.out, HB.out⟩
      case round =>
        clear HA HK HB
        obtain ⟨i, hi8, rfl, hra, hrk, hb⟩ := hrel
        have HA := Lib.hid hra
        have HK := Lib.hid hrk
        have HB := Lib.hid hb
        clear hrk hb
        rcases Nat.lt_or_ge i 8 with hlt | hge
        · have HI := Lib.hid hlt
          have hiI : (i : Int) < 8 := by omega
          have c0 := i_at hra i (by rw [lm18_len]; exact hlt)
          rw [lm18_at h m i hlt] at c0
          have hb := HBD.out i hlt
          obtain ⟨u, hu⟩ : ∃ u, h.getD i 0 = u := ⟨_, rfl⟩
          have hs := lm18_set h m i hlt
          rw [hu] at c0 hb hs
          obtain ⟨hb1, hb2⟩ := hb
          have HROW := Lib.hid (show Row (wr.setCell ⟨ga, i, none⟩ (.int .i64 (u + (m : Int)))) ga 22 (iCells (lm18 h m (i + 1))) by
            have h2 := hra.set i (.int .i64 (u + (m : Int)))
            rw [iCells_set, hs] at h2
            exact h2)
          have f0 := hra.free i
          have HK := Lib.hid (Row.far HK.out (p := ⟨ga, i, none⟩) (by have := NHAHK.out; simp only; omega) (.int .i64 (u + (m : Int))))
          have HB := Lib.hid (Below.setCell HB.out (p := ⟨ga, i, none⟩) (by have := HGA.out; simp only; omega) (.int .i64 (u + (m : Int))))
          clear hi8 hlt hra hu hs
          go_wp2_with fail
          go_roundw
          case rel => exact ⟨i + 1, HI.out, by go_num, HROW.out, HK.out, HB.out⟩
          case measure =>
            have := HI.out
            simp [intOf] <;> omega
        · obtain rfl : i = 8 := by omega
          have HPL := Lib.hid fun w => HPM.out m (lm18 h m 8) w (lm18_len h m 8) (fun j hj => lm18_all h m j hj) (fun j hj => by
            rw [lm18_all h m j hj]
            have h1 := HBD.out j hj
            have h2 := HALL.out j hj
            have h3 := HM15.out
            omega)
          have HLL := Lib.hid (lm18_len h m 8)
          clear hi8 hge hra HPM
          generalize lm18 h m 8 = M at *
          have HSM := Lib.hid (i8_size M HLL.out)
          generalize hwr : wr = w30 at *
          clear hwr
          go_wp2_with (refine wpList_load_row rfl 22 (.tmp 8) rfl ga rfl 22 (iCells M) (0, 0) _ HA.out Try.underlying22 rfl HSM.out ?_)
          refine (HPL.out _).mono ?_
          rintro e w31 ⟨rfl, hb⟩
          have HA := Lib.hid (HA.out.box hb)
          have HK := Lib.hid (HK.out.box hb)
          have HB := Lib.hid (HB.out.trans (hb.mono HB.out.size))
          clear hb
          have HN : Hid (Row (w31.alloc (.cells (iCells zs8) 22)) w31.heap.size 22 (iCells zs8)) := Lib.hid (heap_alloc_new _ _)
          go_upto_region 19 with (refine wpList_store_row rfl 22 (.tmp 15) (.tmp 61) rfl w31.heap.size (iCells K) rfl rfl 22 (iCells zs8) HN.out HKS.out HKX.out (iCells_one _) ?_)
          have HGS := Lib.hid HB.out.size
          have NHAHZ := Lib.hid (Nat.ne_of_lt (Row.lt HA.out))
          have NHKHZ := Lib.hid (Nat.ne_of_lt (Row.lt HK.out))
          have HA := Lib.hid (row_laid HA.out (.cells (iCells zs8) 22) (iCells K))
          have HK := Lib.hid (row_laid HK.out (.cells (iCells zs8) 22) (iCells K))
          have HB := Lib.hid (below_laid HB.out (.cells (iCells zs8) 22) (iCells K))
          have HZ := Lib.hid (Row.setRow HN.out (iCells K))
          generalize (w31.alloc (.cells (iCells zs8) 22)).setRow w31.heap.size (iCells K) = w32 at *
          obtain ⟨gz, hg⟩ : ∃ g, w31.heap.size = g := ⟨_, rfl⟩
          rw [hg] at HZ HGS NHAHZ NHKHZ ⊢
          clear hg HN
          have hEQ := HEQ.out
          go_wp2_with (first
            | (refine g_load_row (by rfl) 22 (.tmp 15) rfl gz rfl 22 (iCells K) (0, 0) _ HZ.out Try.underlying22 rfl HKS.out ?_)
            | (refine g_load_row (by rfl) 22 (.tmp 9) rfl gk rfl 22 (iCells K) (0, 0) _ HK.out Try.underlying22 rfl HKS.out ?_))
          go_ret
          exact ⟨rfl, HB.out⟩
end Go.Proofs.Ytkjbobgmnpifoaa
