/-
  Contracts and plain facts that the laws share; each piece is headed by what it holds and its conditions.
-/
import Derived.Test.YtoohahjmiljpgaaQS6
import Derived.Test.YtoohahjmiljpgaaQS10
import Derived.Test.YtoohahjmiljpgaaQS7
import Derived.Test.YtoohahjmiljpgaaQS11
import Derived.Test.YtoohahjmiljpgaaQRfe
import Derived.Test.YtoohahjmiljpgaaQS14
import Derived.Test.YtoohahjmiljpgaaQS5
import Derived.Test.YtoohahjmiljpgaaQS9
import Derived.Deep.RegionWith
import Derived.StillTailTactics

/- The statements' own Shape of layer 19 (steps, and bands' pulses' numbers), for rows of layers 19, 22, 23. Conditions: a size from 12 to 24; what the reference's Count answers. -/
namespace Go.Proofs.Ytoohahjmiljpgaa
open Go.RowKit
open M
/-- A statement's steps: a shape's first numbers, as far as b. -/
def shs (x : List Int) (b : Nat) : List Int := (List.range 40).map fun p => if p < b then x.getD p 0 % 16 else 0
/-- .. alone. -/
def shd (x : List Int) : List Int := (List.range 8).map fun p => x.getD p 0 % 16
def shk (x : List Int) (n : Nat) : Nat → Nat := giv (fun b => (shd x).getD b 0) n
/-- Band b's pulses. -/
def shy (x l : List Int) (n b : Nat) : List Int := vc13 4 (shk x n b) (l.getD b 0 % (cn13 4 (shk x n b) : Int)).toNat
/-- A statement's shape, with the first q of its bands' numbers. -/
def shq (x l : List Int) (n q : Nat) : List Int := (List.range 40).map fun p => if p < 8 then x.getD p 0 % 16 else if p < 8 + q then (shy x l n ((p - 8) / 4)).getD ((p - 8) % 4) 0 else 0
def shp (x l : List Int) (n : Nat) : List Int := shq x l n 32
theorem shs_len (x : List Int) (b : Nat) : (shs x b).length = 40 := by simp [shs]
theorem shq_len (x l : List Int) (n q : Nat) : (shq x l n q).length = 40 := by simp [shq]
theorem shd_len (x : List Int) : (shd x).length = 8 := by simp [shd]
theorem shs_zero (x : List Int) : shs x 0 = z40 := by
  refine Eq.symm (tm_ext z40 40 _ z40_length fun p hp => ?_)
  rw [if_neg (by omega)]
  unfold z40
  rw [List.getD_eq_getElem?_getD, List.getElem?_replicate, if_pos hp]
  rfl
theorem shs_set (x : List Int) (b : Nat) (hb : b < 8) : (shs x b).set b (x.getD b 0 % 16) = shs x (b + 1) := by
  refine tm_ext _ 40 _ (by rw [List.length_set, shs_len]) fun p hp => ?_
  rw [set_getD13 _ _ _ _ (by rw [shs_len]; omega)]
  unfold shs
  rw [tm_getD 40 _ p hp]
  by_cases e : p = b
  · rw [if_pos e, if_pos (by omega), e]
  · rw [if_neg e]
    by_cases h : p < b
    · rw [if_pos h, if_pos (by omega)]
    · rw [if_neg h, if_neg (by omega)]
theorem shs_full (x l : List Int) (n : Nat) : shs x 8 = shq x l n 0 := by
  unfold shs shq
  apply List.map_congr_left
  intro p _
  by_cases h : p < 8
  · rw [if_pos h, if_pos h]
  · rw [if_neg h, if_neg h, if_neg (by omega)]
theorem shd_of (x : List Int) : pto (shs x 8) 0 8 = shd x := by
  refine tm_ext _ 8 _ (pto_len _ _ _) fun p hp => ?_
  rw [pto_getD _ _ _ _ hp]
  unfold shs
  rw [Nat.zero_add, tm_getD 40 _ p (by omega), if_pos hp]
theorem shd_at (x : List Int) (b : Nat) (hb : b < 8) : (shd x).getD b 0 = x.getD b 0 % 16 := tm_getD 8 _ b hb
theorem shd_bd (x : List Int) (b : Nat) (hb : b < 8) : 0 ≤ (shd x).getD b 0 ∧ (shd x).getD b 0 ≤ 15 := by
  rw [shd_at x b hb]; omega
theorem shq_set (x l : List Int) (n b i : Nat) (hb : b < 8) (hi : i < 4) : (shq x l n (4 * b + i)).set (8 + b * 4 + i) ((shy x l n b).getD i 0) = shq x l n (4 * b + (i + 1)) := by
  refine tm_ext _ 40 _ (by rw [List.length_set, shq_len]) fun p hp => ?_
  rw [set_getD13 _ _ _ _ (by rw [shq_len]; omega)]
  unfold shq
  rw [tm_getD 40 _ p hp]
  by_cases h8 : p < 8
  · rw [if_neg (by omega), if_pos h8, if_pos h8]
  · rw [if_neg h8, if_neg h8]
    by_cases e : p = 8 + b * 4 + i
    · rw [if_pos e, if_pos (by omega), show (p - 8) / 4 = b by omega, show (p - 8) % 4 = i by omega]
    · rw [if_neg e]
      by_cases h : p < 8 + (4 * b + i)
      · rw [if_pos h, if_pos (by omega)]
      · rw [if_neg h, if_neg (by omega)]
theorem sh_side8 : (Try.prog.info? 27).map (·.size) = some 8 := by kernel_rfl
set_option maxRecDepth 100000 in
set_option maxHeartbeats 4000000 in
theorem lshape_any (HC : CtOk) (x l : List Int) (z : Nat) (w : World) (hx : x.length = 8) (hl : l.length = 8) (hlb : ∀ v ∈ l, 0 ≤ v ∧ v ≤ 4294967295) (hz1 : 12 ≤ z) (hz2 : z ≤ 24) :
    Calls Try.prog 9 #[.agg (iCells x), .agg (vCells l), .int .i64 (z : Int)] w fun e w' => e = .returned (.agg (iCells (shp x l (8 * z - 64)))) ∧ Below w.heap.size w w' := by
  have hz40 := s40_zero
  have HR2 : Hid (Row ((((w.alloc (.cells (iCells x) 23)).alloc (.cells (vCells l) 25)).alloc (.cells (iCells z40) 32)).alloc (.cells (iCells z40) 32)) w.heap.size 23 (iCells x)) := Lib.hid (((Row.alloc (heap_alloc_new _ _) _).alloc _).alloc _)
  have HRL : Hid (Row ((((w.alloc (.cells (iCells x) 23)).alloc (.cells (vCells l) 25)).alloc (.cells (iCells z40) 32)).alloc (.cells (iCells z40) 32)) (w.heap.size + 1) 25 (vCells l)) := Lib.hid ((Row.alloc (row_new _ _ (by simp) _ _) _).alloc _)
  have HR4 : Hid (Row ((((w.alloc (.cells (iCells x) 23)).alloc (.cells (vCells l) 25)).alloc (.cells (iCells z40) 32)).alloc (.cells (iCells z40) 32)) (w.heap.size + 1 + 1) 32 (iCells z40)) := Lib.hid (Row.alloc (row_new _ _ (by simp) _ _) _)
  have HR5 : Hid (Row ((((w.alloc (.cells (iCells x) 23)).alloc (.cells (vCells l) 25)).alloc (.cells (iCells z40) 32)).alloc (.cells (iCells z40) 32)) (w.heap.size + 1 + 1 + 1) 32 (iCells z40)) := Lib.hid (row_new _ _ (by simp) _ _)
  have HB : Hid (Below w.heap.size w ((((w.alloc (.cells (iCells x) 23)).alloc (.cells (vCells l) 25)).alloc (.cells (iCells z40) 32)).alloc (.cells (iCells z40) 32))) := Lib.hid (((((Below.refl _ _).alloc (Nat.le_refl _) _).alloc (by simp) _).alloc (by simp; omega) _).alloc (by simp; omega) _)
  have HCC := Lib.hid HC
  have HX := Lib.hid hx
  have HL := Lib.hid hl
  have HLB := Lib.hid hlb
  have HZ := Lib.hid (And.intro hz1 hz2)
  clear HC hx hl hlb hz1 hz2
  go_enter Try.func9, Try.ntmps9
  go_wp2_with fail
  generalize (((w.alloc (.cells (iCells x) 23)).alloc (.cells (vCells l) 25)).alloc (.cells (iCells z40) 32)).alloc (.cells (iCells z40) 32) = w1 at *
  obtain ⟨g, hg⟩ : ∃ g, w.heap.size = g := ⟨_, rfl⟩
  have HG := Lib.hid fun _ : Unit => hg
  rw [hg] at HR2 HRL HR4 HR5
  rw [hg]
  clear hg hz40
  go_loopw [8] (fun ii wr => ∃ (b : Nat), b ≤ 8 ∧ ii = .int .i64 (b : Int) ∧ Row wr g 23 (iCells x) ∧ Row wr (g + 1) 25 (vCells l) ∧ Row wr (g + 1 + 1) 32 (iCells z40) ∧ Row wr (g + 1 + 1 + 1) 32 (iCells (shs x b)) ∧ Below w.heap.size w wr) (fun ii _ => 8 - (intOf ii).toNat)
  case atStart => exact ⟨0, by omega, rfl, HR2.out, HRL.out, HR4.out, by rw [shs_zero]; exact HR5.out, HB.out⟩
  case round =>
    clear HR2 HRL HR4 HR5 HB
    obtain ⟨b, hb8, rfl, hr2, hrl, hr4, hr5, hb⟩ := hrel
    have HR2 := Lib.hid hr2
    have HRL := Lib.hid hrl
    have HR4 := Lib.hid hr4
    have HR5 := Lib.hid hr5
    have HB := Lib.hid hb
    rcases Nat.lt_or_ge b 8 with hlt | hge
    · have hbI : (b : Int) < 8 := by omega
      have HK := Lib.hid hlt
      have c0 := i_at hr2 b (by rw [HX.out]; exact hlt)
      have c1 := i_at hr5 b (by rw [shs_len]; omega)
      have f0 := hr5.free b
      have ha := and15 (x.getD b 0)
      have HROW := Lib.hid (show Row (wr.setCell ⟨g + 1 + 1 + 1, b, none⟩ (.int .i64 (x.getD b 0 % 16))) (g + 1 + 1 + 1) 32 (iCells (shs x (b + 1))) by
        have h := hr5.set b (.int .i64 (x.getD b 0 % 16))
        rw [iCells_set, shs_set x b hlt] at h
        exact h)
      obtain ⟨v, hv⟩ : ∃ v, x.getD b 0 = v := ⟨_, rfl⟩
      rw [hv] at c0 ha HROW
      clear hb8 hlt hv hr2 hrl hr4 hr5 hb
      go_wp2_with fail
      go_roundw
      case rel => exact ⟨b + 1, HK.out, by go_num, HR2.out.far (p := ⟨g + 1 + 1 + 1, b, none⟩) (by simp only; omega) _, HRL.out.far (p := ⟨g + 1 + 1 + 1, b, none⟩) (by simp only; omega) _, HR4.out.far (p := ⟨g + 1 + 1 + 1, b, none⟩) (by simp only; omega) _, HROW.out, Below.setCell HB.out (p := ⟨g + 1 + 1 + 1, b, none⟩) (by have := HG.out (); simp only; omega) _⟩
      case measure =>
        have := HK.out
        simp [intOf] <;> omega
    · obtain rfl : b = 8 := by omega
      rw [show ((8 : Nat) : Int) = 8 from rfl]
      clear hb8 hge hr2 hrl hr4 hr5 hb
      have hz := HZ.out
      obtain ⟨n, hn⟩ : ∃ n : Nat, 8 * z - 64 = n := ⟨_, rfl⟩
      have e1 : IntKind.i64.wrap (8 * (z : Int)) = 8 * (z : Int) := by rw [IntKind.wrap_i64]; omega
      have e2 : IntKind.i64.wrap (8 * (z : Int) - 64) = (n : Int) := by rw [IntKind.wrap_i64]; omega
      have HN := Lib.hid fun _ : Unit => hn
      have HGV := Lib.hid fun w => rgive_any HCC.out (shd x) n w (shd_len x) (fun j hj => shd_bd x j hj) (by omega)
      rw [show giv (fun b => (shd x).getD b 0) n = shk x n from rfl] at HGV
      have HK12 := Lib.hid (show ∀ b, b < 8 → shk x n b ≤ 12 from (giv_all _ _).1)
      have hz8 := e8_zero
      have HLE := Lib.hid (show 0 + 8 ≤ (shs x 8).length by rw [shs_len]; omega)
      have HPD := Lib.hid (shd_of x)
      clear hz hn
      go_wp2_with (refine wpList_load_pto rfl 27 (.tmp 26) rfl (g + 1 + 1 + 1) 0 8 rfl 32 (shs x 8) _ HR5.out HLE.out Try.underlying27 rfl sh_side8 ?_; rw [HPD.out])
      refine (HGV.out _).mono ?_
      rintro e w3 ⟨rfl, hb⟩
      have HRL := Lib.hid (HRL.out.box hb)
      have HR4 := Lib.hid (HR4.out.box hb)
      have HR5 := Lib.hid (HR5.out.box hb)
      rw [shs_full x l n] at HR5
      have HB := Lib.hid (HB.out.trans (hb.mono HB.out.size))
      have HYY := Lib.hid (show ∀ b, shy x l n b = vc13 4 (shk x n b) (l.getD b 0 % (cn13 4 (shk x n b) : Int)).toNat from fun _ => rfl)
      obtain ⟨K, hK⟩ : ∃ K, shk x n = K := ⟨_, rfl⟩
      rw [hK] at HK12 HYY ⊢
      clear hb hK HGV e1 e2 HR2 HPD HLE
      have HK : Hid (Row (w3.alloc (.cells (iCells e8z) 23)) w3.heap.size 23 (iCells e8z)) := Lib.hid (heap_alloc_new _ _)
      have HSK := Lib.hid (e8_size (kl18 K) (kl18_len K))
      have HSE := Lib.hid (show (iCells e8z).size = (iCells (kl18 K)).size by rw [iCells_size, iCells_size, kl18_len]; rfl)
      go_wp2_with (refine wpList_store_row rfl 23 (.tmp 9) (.tmp 31) rfl w3.heap.size (iCells (kl18 K)) rfl rfl 23 (iCells e8z) HK.out HSK.out HSE.out (iCells_one _) ?_)
      have hne : g + 1 ≠ w3.heap.size ∧ g + 1 + 1 ≠ w3.heap.size ∧ g + 1 + 1 + 1 ≠ w3.heap.size := by have := HR5.out.lt; omega
      have HRL := Lib.hid (show Row ((w3.alloc (.cells (iCells e8z) 23)).setRow w3.heap.size (iCells (kl18 K))) (g + 1) 25 (vCells l) from (setRow_other _ _ _ _ hne.1).trans (Row.alloc HRL.out _))
      have HR4 := Lib.hid (show Row ((w3.alloc (.cells (iCells e8z) 23)).setRow w3.heap.size (iCells (kl18 K))) (g + 1 + 1) 32 (iCells z40) from (setRow_other _ _ _ _ hne.2.1).trans (Row.alloc HR4.out _))
      have HR5 := Lib.hid (show Row ((w3.alloc (.cells (iCells e8z) 23)).setRow w3.heap.size (iCells (kl18 K))) (g + 1 + 1 + 1) 32 (iCells (shq x l n 0)) from (setRow_other _ _ _ _ hne.2.2).trans (Row.alloc HR5.out _))
      have HNE := Lib.hid hne
      have HB := Lib.hid (below_setRow (HB.out.alloc HB.out.size (.cells (iCells e8z) 23)) HB.out.size (iCells (kl18 K)))
      have HK := Lib.hid (Row.setRow HK.out (iCells (kl18 K)))
      generalize (w3.alloc (.cells (iCells e8z) 23)).setRow w3.heap.size (iCells (kl18 K)) = w4 at *
      obtain ⟨g8, hg8⟩ : ∃ g, w3.heap.size = g := ⟨_, rfl⟩
      rw [hg8] at HK HNE ⊢
      clear hg8 hz8 hne
      go_loopw [10] (fun ii wr => ∃ (b : Nat), b ≤ 8 ∧ ii = .int .i64 (b : Int) ∧ Row wr (g + 1) 25 (vCells l) ∧ Row wr (g + 1 + 1) 32 (iCells z40) ∧ Row wr (g + 1 + 1 + 1) 32 (iCells (shq x l n (4 * b))) ∧ Row wr g8 23 (iCells (kl18 K)) ∧ Below w.heap.size w wr) (fun ii _ => 8 - (intOf ii).toNat)
      case atStart => exact ⟨0, by omega, rfl, HRL.out, HR4.out, HR5.out, HK.out, HB.out⟩
      case round =>
        clear HRL HR4 HR5 HK HB
        obtain ⟨b, hb8, rfl, hrl, hr4, hr5, hrk, hb⟩ := hrel
        have HRL := Lib.hid hrl
        have HR4 := Lib.hid hr4
        have HR5 := Lib.hid hr5
        have HRK := Lib.hid hrk
        have HB := Lib.hid hb
        rcases Nat.lt_or_ge b 8 with hlt | hge
        · have hbI : (b : Int) < 8 := by omega
          have HJ := Lib.hid hlt
          have c8 := i_at hrk b (by rw [kl18_len]; exact hlt)
          rw [kl18_at K b hlt] at c8
          have hk12 := HK12.out b hlt
          have hlb := HLB.out (l.getD b 0) (by rw [List.getD_eq_getElem?_getD, List.getElem?_eq_getElem (by rw [HL.out]; exact hlt)]; exact List.getElem_mem _)
          have hcp := cn_pos 3 (K b)
          obtain ⟨A, hA1, hA2, hA3⟩ := u32_mod (l.getD b 0) (cn13 4 (K b)) hlb.1 hcp
          have hyy := HYY.out b
          rw [hA1, Int.toNat_natCast] at hyy
          have HCN := Lib.hid fun w => count_any 4 (K b : Int) w
          rw [show cnI 4 (K b : Int) = (cn13 4 (K b) : Int) from cnI_in 4 (K b) (by omega) hk12] at HCN
          have HV := Lib.hid fun w => vector_at_new 4 (K b : Int) (A : Int) 4 (K b) A w rfl rfl rfl (by omega) hk12 hA3
          rw [← hyy] at HV
          have HYL := Lib.hid (show (shy x l n b).length = 4 by rw [hyy]; exact (vc_all 4 (K b) A hA3).1)
          obtain ⟨c, hc⟩ : ∃ c, cn13 4 (K b) = c := ⟨_, rfl⟩
          rw [hc] at HCN hcp hA2
          have hcI : (c : Int) ≠ 0 := by omega
          have hcz : ((c : Int) == 0) = false := by rw [beq_eq_false_iff_ne]; omega
          have huw := sh_u32 _ hlb.1 hlb.2
          clear hb8 hlt hrl hr4 hr5 hrk hb hyy hA1 hA3 hc hk12 hlb hcp
          obtain ⟨kb, hkb⟩ : ∃ kb, K b = kb := ⟨_, rfl⟩
          rw [hkb] at c8 HCN HV
          have HKB := Lib.hid hkb
          clear hkb
          go_wp2_with fail
          refine (HCN.out _).mono ?_
          rintro e w5 ⟨rfl, hb⟩
          have HRL := Lib.hid (HRL.out.box hb)
          have HR4 := Lib.hid (HR4.out.box hb)
          have HR5 := Lib.hid (HR5.out.box hb)
          have HRK := Lib.hid (HRK.out.box hb)
          have HB := Lib.hid (HB.out.trans (hb.mono HB.out.size))
          clear hb c8 HCN
          go_wp2_with fail
          have c9 := vrow_at (w := w5.drew) HRL.out b (by rw [HL.out]; exact HJ.out)
          have c8 : w5.drew.cell? ⟨g8, b, none⟩ = some (.int .i64 (kb : Int)) := by
            have h := i_at (w := w5.drew) HRK.out b (by rw [kl18_len]; exact HJ.out)
            rw [kl18_at K b HJ.out, HKB.out] at h
            exact h
          obtain ⟨lv, hlv⟩ : ∃ v, l.getD b 0 = v := ⟨_, rfl⟩
          rw [hlv] at c9 hA2 huw
          have HVS := Lib.hid (HV w5.drew)
          clear hlv HV
          go_region_with (go_at_call 19; refine HVS.out.mono ?_; rintro e w6 ⟨⟨a, cap, rfl, hi, hn⟩, hb⟩; have HRL := Lib.hid (Row.box (w := w5.drew) HRL.out hb); have HR4 := Lib.hid (Row.box (w := w5.drew) HR4.out hb); have HR5P := HR5; have HR5 := Lib.hid (Row.box (w := w5.drew) HR5.out hb); have HRK := Lib.hid (Row.box (w := w5.drew) HRK.out hb); have HB := Lib.hid ((below_drew1 HB.out).trans (hb.mono HB.out.size)); have HLT := Lib.hid (Row.lt (w := w5.drew) HR5P.out); have HI := Lib.hid hi; have HN2 := Lib.hid hn; clear hi hn hb c8 c9)
          all_goals
            try simp only [List.getElem_toArray, List.getElem_cons_succ, List.getElem_cons_zero, Act.put, List.setIfInBounds_toArray, List.set_cons_zero, List.set_cons_succ]
            obtain ⟨b1, o1, rfl, hl1, hc1⟩ := ints_cells HI.out HYL.out (by omega)
            have HNB : Hid (b1 ≠ g + 1 + 1 + 1) := Lib.hid (by have h1 := HN2.out b1 o1 none 4 cap rfl; have h2 := HLT.out; omega)
            have HC1 := Lib.hid hc1
            clear hl1 hc1 HI HN2 HLT
            go_wp2_with fail
            go_loopw [14] (fun ii wr => ∃ (i : Nat), i ≤ 4 ∧ ii = .int .i64 (i : Int) ∧ Row wr (g + 1) 25 (vCells l) ∧ Row wr (g + 1 + 1) 32 (iCells z40) ∧ Row wr (g + 1 + 1 + 1) 32 (iCells (shq x l n (4 * b + i))) ∧ Row wr g8 23 (iCells (kl18 K)) ∧ (∀ i, i < 4 → wr.cell? ⟨b1, o1 + i, none⟩ = some (.int .i64 ((shy x l n b).getD i 0))) ∧ Below w.heap.size w wr) (fun ii _ => 4 - (intOf ii).toNat)
            case atStart => exact ⟨0, by omega, rfl, HRL.out, HR4.out, HR5.out, HRK.out, HC1.out, HB.out⟩
            case round =>
              clear HRL HR4 HR5 HRK HC1 HB
              obtain ⟨i, hi4, rfl, hrl, hr4, hr5, hrk, hc1, hb⟩ := hrel
              have HRL := Lib.hid hrl
              have HR4 := Lib.hid hr4
              have HR5 := Lib.hid hr5
              have HRK := Lib.hid hrk
              have HC1 := Lib.hid hc1
              have HB := Lib.hid hb
              rcases Nat.lt_or_ge i 4 with hlt | hge
              · have hiI : (i : Int) < 4 := by omega
                have HI := Lib.hid hlt
                have c0 : wr.drew.cell? ⟨b1, o1 + i, none⟩ = some (.int .i64 ((shy x l n b).getD i 0)) := hc1 i hlt
                have c1 := i_at (w := wr.drew) hr5 (8 + b * 4 + i) (by rw [shq_len]; have := HJ.out; omega)
                have f1 := Row.free (w := wr.drew) hr5 (8 + b * 4 + i)
                have HSET := Lib.hid (shq_set x l n b i HJ.out hlt)
                obtain ⟨v, hv⟩ : ∃ v, (shy x l n b).getD i 0 = v := ⟨_, rfl⟩
                rw [hv] at c0 HSET
                have HRL2 := Lib.hid (Row.far (w := wr.drew) (p := ⟨g + 1 + 1 + 1, 8 + b * 4 + i, none⟩) hrl (by simp only; omega) (.int .i64 v))
                have HR42 := Lib.hid (Row.far (w := wr.drew) (p := ⟨g + 1 + 1 + 1, 8 + b * 4 + i, none⟩) hr4 (by simp only; omega) (.int .i64 v))
                have HRK2 := Lib.hid (Row.far (w := wr.drew) (p := ⟨g + 1 + 1 + 1, 8 + b * 4 + i, none⟩) hrk (by have := HNE.out; simp only; omega) (.int .i64 v))
                have HB2 := Lib.hid (Below.setCell (below_drew1 hb) (p := ⟨g + 1 + 1 + 1, 8 + b * 4 + i, none⟩) (by have := HG.out (); simp only; omega) (.int .i64 v))
                have HR52 := Lib.hid (show Row (wr.drew.setCell ⟨g + 1 + 1 + 1, 8 + b * 4 + i, none⟩ (.int .i64 v)) (g + 1 + 1 + 1) 32 (iCells (shq x l n (4 * b + (i + 1)))) by
                  have h := Row.set (w := wr.drew) hr5 (8 + b * 4 + i) (.int .i64 v)
                  rw [iCells_set, HSET.out] at h
                  exact h)
                have HC12 : Hid (∀ j, j < 4 → (wr.drew.setCell ⟨g + 1 + 1 + 1, 8 + b * 4 + i, none⟩ (.int .i64 v)).cell? ⟨b1, o1 + j, none⟩ = some (.int .i64 ((shy x l n b).getD j 0))) := Lib.hid fun j hj => by
                  rw [World.cell?_setCell_other (h := fun e => HNB.out (by injection e with e1; first | exact e1 | exact e1.symm))]
                  exact hc1 j hj
                clear hi4 hlt hrl hr4 hr5 hrk hc1 hb hv HRL HR4 HR5 HRK HC1 HB HSET
                go_wp2_with fail
                go_region
                go_wp2_with fail
                go_roundw
                case rel => exact ⟨i + 1, HI.out, by go_num, HRL2.out, HR42.out, HR52.out, HRK2.out, HC12.out, HB2.out⟩
                case measure =>
                  have := HI.out
                  simp [intOf] <;> omega
              · obtain rfl : i = 4 := by omega
                clear hi4 hge hrl hr4 hr5 hrk hc1 hb
                go_wp2_with fail
                go_roundw
                case rel => exact ⟨b + 1, HJ.out, by go_num, HRL.out, HR4.out, HR5.out, HRK.out, HB.out⟩
                case measure =>
                  have := HJ.out
                  simp [intOf] <;> omega
        · obtain rfl : b = 8 := by omega
          rw [show 4 * 8 = 32 from rfl] at hr5
          have HR5 := Lib.hid hr5
          have HSF := Lib.hid (s40_size (shq x l n 32) (shq_len _ _ _ _))
          have HSX := Lib.hid (show (iCells z40).size = (iCells (shq x l n 32)).size by rw [iCells_size, iCells_size, shq_len]; rfl)
          clear hb8 hge hrl hr4 hr5 hrk hb
          go_wp2_with (first
            | (refine wpList_load_row rfl 32 (.tmp 7) rfl (g + 1 + 1 + 1) rfl 32 (iCells (shq x l n 32)) (0, 0) _ HR5.out Try.underlying32 rfl HSF.out ?_)
            | (refine wpList_store_row rfl 32 (.tmp 6) (.tmp 74) rfl (g + 1 + 1) (iCells (shq x l n 32)) rfl rfl 32 (iCells z40) HR4.out HSF.out HSX.out (iCells_one _) ?_))
          refine bodyPost_ret (v := .agg (iCells (shq x l n 32))) (results_cell_row Try.results9 _ _ (g + 1 + 1) 32 (iCells (shq x l n 32)) (0, 0) _ rfl (Row.setRow HR4.out _) Try.underlying32 rfl HSF.out) rfl ⟨by rw [HN.out ()]; rfl, by rw [← HG.out ()]; exact below_setRow HB.out (by have := HG.out (); omega) _⟩
end Go.Proofs.Ytoohahjmiljpgaa

/- The statements' own shapes are right for their size. No conditions but a size from 12 to 24. -/
namespace Go.Proofs.Ytoohahjmiljpgaa
open Go.RowKit
open M
/-- The statements' shapes are right. -/
theorem shp_right (x l : List Int) (z : Nat) (hz1 : 12 ≤ z) (hz2 : z ≤ 24) : rg19 (shp x l (8 * z - 64)) (z : Int) = true := by
  have hsd : sds (shp x l (8 * z - 64)) = shd x := by
    unfold sds pto shd
    apply List.map_congr_left
    intro p hp
    have h8 := List.mem_range.1 hp
    unfold shp shq
    rw [Nat.zero_add, tm_getD _ _ _ (by omega), if_pos h8]
  have hk : ∀ b, gk19 (shp x l (8 * z - 64)) (8 * z - 64) b = shk x (8 * z - 64) b := fun b => by
    unfold gk19 shk
    rw [hsd]
  have hk12 : ∀ b, b < 8 → shk x (8 * z - 64) b ≤ 12 := fun b hb => (giv_all _ _).1 b hb
  have hv : ∀ b, b < 8 → (vc13 4 (shk x (8 * z - 64) b) (l.getD b 0 % (cn13 4 (shk x (8 * z - 64) b) : Int)).toNat).length = 4 ∧ pl13 (shy x l (8 * z - 64) b) = shk x (8 * z - 64) b := fun b hb => by
    have h1 := (btc_bits _ (hk12 b hb)).2.2
    have h2 := Int.emod_nonneg (l.getD b 0) (show (cn13 4 (shk x (8 * z - 64) b) : Int) ≠ 0 by omega)
    have h3 := Int.emod_lt_of_pos (l.getD b 0) (show 0 < (cn13 4 (shk x (8 * z - 64) b) : Int) by omega)
    have h4 := vc_all 4 (shk x (8 * z - 64) b) (l.getD b 0 % (cn13 4 (shk x (8 * z - 64) b) : Int)).toNat (by omega)
    exact ⟨h4.1, h4.2.1⟩
  have hsy : ∀ b, b < 8 → sys (shp x l (8 * z - 64)) b = shy x l (8 * z - 64) b := fun b hb => by
    unfold sys pto
    refine (tm_ext _ 4 _ (hv b hb).1 fun i hi => ?_).symm
    unfold shp shq
    rw [tm_getD _ _ _ (by omega), if_neg (by omega), if_pos (by omega), show (8 + b * 4 + i - 8) / 4 = b by omega, show (8 + b * 4 + i - 8) % 4 = i by omega]
    rfl
  refine rg_yes _ _ (by omega) ?_ fun b hb => ?_
  · rw [hsd]
    exact (rt_iff _).2 fun j hj => shd_bd x j hj
  · rw [show (8 * (z : Int) - 64).toNat = 8 * z - 64 by omega, hk b, hsy b hb, pu_pl _ (by rw [(hv b hb).2]; exact hk12 b hb), (hv b hb).2]
theorem shp_len (x l : List Int) (n : Nat) : (shp x l n).length = 40 := shq_len x l n 32
end Go.Proofs.Ytoohahjmiljpgaa

/- Eight steps by value (api.Side): how they lie, their zero value, that == tells whether two are the same, their index. No conditions but those that each fact names. (Bne has the like under other names.) -/
namespace Go.Proofs.Ytoohahjmiljpgaa
open Go.RowKit
open M
/-- Eight zeros. -/
def zs8 : List Int := List.replicate 8 0
theorem zs8_length : zs8.length = 8 := by unfold zs8; rw [List.length_replicate]
theorem sds_info : (Try.prog.info? 27).map (fun i => (i.zero, i.size)) = some (some (.agg (iCells zs8)), 8) := by kernel_rfl
theorem sds_zero (w : World) : (zeroValue 27).run Try.prog w = .ok (.agg (iCells zs8)) w := (zero_of_info sds_info).1 w
theorem sds_size (l : List Int) (h : l.length = 8) : (Try.prog.info? 27).map (·.size) = some (iCells l).size := by
  rw [iCells_size, h]; exact (zero_of_info sds_info).2
theorem i8_info : (Try.prog.info? 23).map (fun i => (i.zero, i.size)) = some (some (.agg (iCells zs8)), 8) := by kernel_rfl
theorem i8_zero (w : World) : (zeroValue 23).run Try.prog w = .ok (.agg (iCells zs8)) w := (zero_of_info i8_info).1 w
theorem i8_size (l : List Int) (h : l.length = 8) : (Try.prog.info? 23).map (·.size) = some (iCells l).size := by
  rw [iCells_size, h]; exact (zero_of_info i8_info).2
theorem sds_same (l m : List Int) (h : l.length = 8) (k : m.length = 8) : (iCells l).size = (iCells m).size := by
  rw [iCells_size, iCells_size, h, k]
theorem sds_eq (a b : List Int) (ha : a.length = 8) (hb : b.length = 8) (w : World) :
    (Op.equalIn 10000 27 (.agg (iCells a)) (.agg (iCells b))).run Try.prog w = .ok (a == b) w := by
  obtain ⟨i, hi⟩ := int_infoS
  rw [show (10000 : Nat) = 9998 + 1 + 1 from rfl, run_equalIn_array w (9998 + 1) _ _ Try.underlying27 hi, ints_itemsS 9998 a b w (by omega) _ (fun j hj => by have := List.mem_range.1 hj; omega), all_sameS a b (by omega) 8 ha.symm]
end Go.Proofs.Ytoohahjmiljpgaa

/- A row stays, when another one is laid and filled; == of eight ints. No conditions but those that each fact names. -/
namespace Go.Proofs.Ytoohahjmiljpgaa
open Go.RowKit
open M
/-- A row stays, when another one is laid and filled. -/
theorem row_laid {W : World} {g : Nat} {t : TypeId} {cs : Array Value} (h : Row W g t cs) (o : Obj) (ds : Array Value) : Row ((W.alloc o).setRow W.heap.size ds) g t cs :=
  (setRow_other _ _ _ _ (Nat.ne_of_lt (Row.lt h))).trans (Row.alloc h _)
theorem below_laid {w W : World} (h : Below w.heap.size w W) (o : Obj) (ds : Array Value) : Below w.heap.size w ((W.alloc o).setRow W.heap.size ds) :=
  below_setRow (h.alloc h.size o) h.size ds
theorem eight_eq (a b : List Int) (ha : a.length = 8) (hb : b.length = 8) (w : World) :
    (Op.equalIn 10000 23 (.agg (iCells a)) (.agg (iCells b))).run Try.prog w = .ok (a == b) w := by
  obtain ⟨i, hi⟩ := int_infoS
  rw [show (10000 : Nat) = 9998 + 1 + 1 from rfl, run_equalIn_array w (9998 + 1) _ _ Try.underlying23 hi, ints_itemsS 9998 a b w (by omega) _ (fun j hj => by have := List.mem_range.1 hj; omega), all_sameS a b (by omega) 8 ha.symm]
end Go.Proofs.Ytoohahjmiljpgaa
