/-
  The reference of layer 9: Down, Part, Factors, Small, Turn. Conditions: those that each names.
-/
import Derived.Test.YtdnchnhflfcdkaaQEf
import Derived.Test.YtdnchnhflfcdkaaQOg
namespace Go.Proofs.Ytdnchnhflfcdkaa
open Go.RowKit
open M
theorem down_of (n d : Int) (hd : 0 < d) : n / d = if n.tmod d < 0 then n.tdiv d - 1 else n.tdiv d := by
  have h1 := Int.tdiv_eq_ediv (a := n) (b := d)
  have h2 := Int.tmod_eq_emod (a := n) (b := d)
  have h3 := Int.emod_nonneg n (show d ≠ 0 by omega)
  have h4 := Int.emod_lt_of_pos n hd
  rw [Int.sign_eq_one_of_pos hd] at h1
  by_cases c : 0 ≤ n ∨ d ∣ n
  · rw [if_pos c] at h1 h2
    rw [if_neg (by omega)]
    omega
  · rw [if_neg c] at h1 h2
    rw [if_pos (by omega)]
    omega
theorem down_size (n d : Int) (hd : 0 < d) (h1 : -4611686018427387904 ≤ n) (h2 : n ≤ 4611686018427387904) : -4611686018427387905 ≤ n / d ∧ n / d ≤ 4611686018427387905 := by
  have e := Int.mul_ediv_add_emod n d
  have h3 := Int.emod_nonneg n (show d ≠ 0 by omega)
  have h4 := Int.emod_lt_of_pos n hd
  constructor
  · apply Int.not_lt.1
    intro hlt
    have : d * (n / d) ≤ 1 * (n / d) := Int.mul_le_mul_of_nonpos_right (by omega) (by omega)
    have h6 : d * (n / d) ≤ d * (-4611686018427387906) := Int.mul_le_mul_of_nonneg_left (by omega) (by omega)
    omega
  · apply Int.not_lt.1
    intro hlt
    have : 1 * (n / d) ≤ d * (n / d) := Int.mul_le_mul_of_nonneg_right (by omega) (by omega)
    omega
set_option maxRecDepth 100000 in
theorem down9_ref (n d : Int) (w : World) (h1 : -4611686018427387904 ≤ n) (h2 : n ≤ 4611686018427387904) (h3 : 0 < d) (h4 : d ≤ 4611686018427387904) :
    Calls Try.prog 53 #[.int .i64 n, .int .i64 d] w fun e w' => e = .returned (.int .i64 (n / d)) ∧ w = w' := by
  have HE := Lib.hid (down_of n d h3)
  have HZ := down_size n d h3 h1 h2
  have hq : -4611686018427387905 ≤ n.tdiv d ∧ n.tdiv d ≤ 4611686018427387906 := by
    have := HE.out
    split at this <;> omega
  by_cases h0 : n.tmod d < 0
  · have HH := Lib.hid h0
    go_enter Try.func53, Try.ntmps53
    go_wp2
    go_ret
    refine ⟨ret_eq ?_, rfl⟩
    rw [HE.out, if_pos HH.out]
    try rfl
  · have HH := Lib.hid h0
    go_enter Try.func53, Try.ntmps53
    go_wp2
    go_ret
    refine ⟨ret_eq ?_, rfl⟩
    rw [HE.out, if_neg (Int.not_lt.2 HH.out)]
    try rfl
theorem part_ref (x m : Int) (w : World) (h1 : -70368744177664 ≤ x) (h2 : x ≤ 70368744177664) (h3 : 0 ≤ m) (h4 : m ≤ 32768) :
    Calls Try.prog 49 #[.int .i64 x, .int .i64 m] w fun e w' => e = .returned (.int .i64 (prt x m)) ∧ w = w' := by
  have hp := mul61 x m h1 h2 h3 h4
  have HP : Hid (prt x m = (x * m + 16384) / 32768) := rfl
  go_enter Try.func49, Try.ntmps49
  go_wp2_with fail
  refine (down9_ref _ 32768 _ (by omega) (by omega) (by omega) (by omega)).mono ?_
  rintro e w' ⟨rfl, rfl⟩
  go_wp2
  go_ret
  exact ⟨ret_eq HP.out.symm, rfl⟩
set_option maxRecDepth 100000 in
theorem factors_ref (k : Nat) (w : World) (h : k ≤ 64) :
    Calls Try.prog 48 #[.int .i64 k] w fun e w' => e = .returned (.tuple #[.int .i64 (facG k).1, .int .i64 (facG k).2]) ∧ w = w' := by
  by_cases e0 : k = 0
  · subst e0
    have HF := Lib.hid (facG_low 0 (by omega))
    go_enter Try.func48, Try.ntmps48
    go_wp2
    go_ret2
    exact ⟨by show _ = Ending.returned (Value.tuple #[.int .i64 (facG 0).1, .int .i64 (facG 0).2]); rw [HF.out]; rfl, rfl⟩
  · have HF : Hid (facG k = facOf k) := by
      unfold Hid
      rw [facG_nat k (by omega), fac9_of k (by omega)]
    have HT := Lib.hid (trg_small k (by omega))
    have HB := Lib.hid (tab_bd9 k (by omega) (by omega))
    have HO : Hid (facOf k = (((1073741824 - (tab8.getD k (0, 0)).1) * 32768 + (tab8.getD k (0, 0)).2 / 2) / (tab8.getD k (0, 0)).2, ((tab8.getD k (0, 0)).2 + 16384) / 32768)) := if_neg (by omega)
    obtain ⟨P, hP⟩ : ∃ P, tab8.getD k (0, 0) = P := ⟨_, rfl⟩
    rw [hP] at HT HB HO
    clear hP
    obtain ⟨c, s⟩ := P
    go_enter Try.func48, Try.ntmps48
    go_wp2_with fail
    refine (turn_ref k _ (by omega) (by omega)).mono ?_
    rintro e w1 ⟨rfl, rfl⟩
    rw [HT.out]
    have hb := HB.out
    go_wp2_with fail
    refine (down9_ref _ 2 _ (by omega) (by omega) (by omega) (by omega)).mono ?_
    rintro e w1 ⟨rfl, rfl⟩
    go_wp2_with fail
    refine (down9_ref _ s _ (by omega) (by omega) (by omega) (by omega)).mono ?_
    rintro e w1 ⟨rfl, rfl⟩
    go_wp2_with fail
    refine (down9_ref _ 32768 _ (by omega) (by omega) (by omega) (by omega)).mono ?_
    rintro e w1 ⟨rfl, rfl⟩
    go_wp2
    go_ret2
    refine ⟨?_, rfl⟩
    rw [HF.out, HO.out]
    rfl
/-- Three steps, ahead of the quarters. -/
def lrl (s : Int) (f v : Int × Int) : Int × Int := ln 1 s f (rs 1 s f (ln 1 s f v))
set_option maxRecDepth 100000 in
theorem small_ref (v : Int × Int) (k : Nat) (s : Int) (w : World) (hk : k ≤ 64) (hs : s = 1 ∨ s = -1) (hv : Bd 1099511627776 v) :
    Calls Try.prog 42 #[.int .i64 v.1, .int .i64 v.2, .int .i64 k, .int .i64 s] w fun e w' => e = .returned (.tuple #[.int .i64 (lrl s (facG k) v).1, .int .i64 (lrl s (facG k) v).2]) ∧ w = w' := by
  obtain ⟨f1, f2, f3, f4⟩ := facG_bd k
  have g1 := hv.ln (f := facG k) (z := 1) (s := s) (by omega) ⟨f1, f2⟩ (Or.inl rfl) hs
  have g2 := g1.rs (f := facG k) (z := 1) (s := s) (by omega) ⟨f3, f4⟩ (Or.inl rfl) hs
  have HG1 := Lib.hid g1
  have HG2 := Lib.hid g2
  have HV := Lib.hid hv
  clear g1 g2 hv
  obtain ⟨F, hF⟩ : ∃ F, facG k = F := ⟨_, rfl⟩
  have HF := Lib.hid hF
  rw [hF] at f1 f2 f3 f4 HG1 HG2 ⊢
  clear hF
  obtain ⟨p, q⟩ := F
  obtain ⟨a, b⟩ := v
  simp only at f1 f2 f3 f4
  have v1 := HV.out.a1
  have v2 := HV.out.a2
  have v3 := HV.out.b1
  have v4 := HV.out.b2
  simp only at v1 v2 v3 v4
  have w1 := HG1.out.a1
  have w2 := HG1.out.a2
  have x3 := HG2.out.b1
  have x4 := HG2.out.b2
  simp only [ln, rs, Int.one_mul] at w1 w2 x3 x4
  have y1 := prt_bd b p 1099511627776 (by omega) v3 v4 f1 f2
  obtain ⟨P1, hP1⟩ : ∃ P1, prt b p = P1 := ⟨_, rfl⟩
  rw [hP1] at w1 w2 x3 x4 y1
  have y2 := prt_bd (a - s * P1) q 2199023255553 (by omega) (by omega) (by omega) f3 f4
  obtain ⟨P2, hP2⟩ : ∃ P2, prt (a - s * P1) q = P2 := ⟨_, rfl⟩
  rw [hP2] at x3 x4 y2
  have y3 := prt_bd (b + s * P2) p 4398046511107 (by omega) (by omega) (by omega) f1 f2
  obtain ⟨P3, hP3⟩ : ∃ P3, prt (b + s * P2) p = P3 := ⟨_, rfl⟩
  rw [hP3] at y3
  have s1 : -1099511627777 ≤ s * P1 ∧ s * P1 ≤ 1099511627777 := by rcases hs with rfl | rfl <;> omega
  have s2 : -2199023255554 ≤ s * P2 ∧ s * P2 ≤ 2199023255554 := by rcases hs with rfl | rfl <;> omega
  have s3 : -4398046511108 ≤ s * P3 ∧ s * P3 ≤ 4398046511108 := by rcases hs with rfl | rfl <;> omega
  have HE : Hid (lrl s (p, q) (a, b) = (a - s * P1 - s * P3, b + s * P2)) := by
    unfold Hid
    simp only [lrl, ln, rs, Int.one_mul, hP1, hP2, hP3]
  have H1 := Lib.hid hP1
  have H2 := Lib.hid hP2
  have H3 := Lib.hid hP3
  clear hP1 hP2 hP3 y1 y2 y3 w1 w2 x3 x4 HG1 HG2 HV
  go_enter Try.func42, Try.ntmps42
  go_wp2_with fail
  refine (factors_ref k _ hk).mono ?_
  rintro e w' ⟨rfl, rfl⟩
  rw [HF.out]
  go_wp2_with fail
  refine (part_ref b p _ (by omega) (by omega) f1 f2).mono ?_
  rintro e w' ⟨rfl, rfl⟩
  rw [H1.out]
  go_wp2_with fail
  refine (part_ref (a - s * P1) q _ (by omega) (by omega) f3 f4).mono ?_
  rintro e w' ⟨rfl, rfl⟩
  rw [H2.out]
  go_wp2_with fail
  refine (part_ref (b + s * P2) p _ (by omega) (by omega) f1 f2).mono ?_
  rintro e w' ⟨rfl, rfl⟩
  rw [H3.out]
  go_wp2
  go_ret2
  refine ⟨?_, rfl⟩
  rw [HE.out]
  rfl
theorem lrl_lft (v : Int × Int) (k : Int) : lft v k = qts (lrl (bgS k) (facG (bgR k)) v) (bgN k) := by
  rw [← tS_lft]
  show spn 1 _ _ = _
  rw [spn_one]
  unfold lrl bgF
  rw [facG_nat _ (bgR_bd k)]
set_option maxRecDepth 100000 in
set_option maxHeartbeats 1000000 in
theorem turn9_ref (v : Int × Int) (k : Int) (w : World) (hv : Bd 1099511627776 v) (hk1 : -9223372036854775808 ≤ k) (hk2 : k ≤ 9223372036854775807) :
    Calls Try.prog 27 #[.int .i64 v.1, .int .i64 v.2, .int .i64 k] w fun e w' => e = .returned (.tuple #[.int .i64 (lft v k).1, .int .i64 (lft v k).2]) ∧ w = w' := by
  have HL := Lib.hid (lrl_lft v k)
  have hm := ang_lt k
  have HR : Hid (bgR k = if ang k % 128 ≤ 64 then ang k % 128 else 128 - ang k % 128) := rfl
  have HS : Hid (bgS k = if ang k % 128 ≤ 64 then 1 else -1) := rfl
  have HN : Hid (bgN k = if ang k % 128 ≤ 64 then ang k / 128 else ang k / 128 + 1) := rfl
  have hbd : Bd 17592186044416 (lrl (bgS k) (facG (bgR k)) v) := by
    have := tS_bd k v hv 3
    unfold lrl
    unfold tS bgF at this
    rwa [← facG_nat _ (bgR_bd k)] at this
  have HBQ : Hid (∀ n : Nat, Bd 17592186044416 (qts (lrl (bgS k) (facG (bgR k)) v) n)) := fun n => by rw [← spn_one]; exact hbd.spn (Or.inl rfl) n
  have HE : Hid (((ang k : Nat) : Int) = if k.tmod 512 < 0 then k.tmod 512 + 512 else k.tmod 512) := by
    unfold Hid ang
    rcases (show k < 0 ∨ 0 ≤ k by omega) with e | e
    · obtain ⟨m, rfl⟩ : ∃ m : Int, k = -m := ⟨-k, by omega⟩
      rw [Int.neg_tmod, Int.tmod_eq_emod_of_nonneg (by omega)]
      split <;> omega
    · rw [Int.tmod_eq_emod_of_nonneg e, if_neg (by omega)]
      omega
  have HV := Lib.hid hv
  clear hbd hv
  obtain ⟨m, hmm⟩ : ∃ m, ang k = m := ⟨_, rfl⟩
  rw [hmm] at hm HR HS HN HE
  obtain ⟨z, hz⟩ : ∃ z, k.tmod 512 = z := ⟨_, rfl⟩
  have HZ := Lib.hid hz
  rw [hz] at HE
  have hz1 : -512 ≤ z ∧ z < 512 := by
    have := HE.out
    split at this <;> omega
  clear hmm hz
  obtain ⟨r, hr⟩ : ∃ r, m % 128 = r := ⟨_, rfl⟩
  obtain ⟨t, ht⟩ : ∃ t, m / 128 = t := ⟨_, rfl⟩
  rw [hr] at HR HS HN
  rw [ht] at HN
  have HMR : Hid ((m : Int) % 128 = (r : Int)) := by unfold Hid; omega
  have HMT : Hid ((m : Int) / 128 = (t : Int)) := by unfold Hid; omega
  have hr7 : r < 128 := by omega
  have ht4 : t < 4 := by omega
  clear hr ht hm
  obtain ⟨a, b⟩ := v
  by_cases h0 : z < 0
  all_goals
    have HVV := HE.out
    first
      | rw [if_pos h0] at HVV
      | rw [if_neg h0] at HVV
    by_cases h64 : r ≤ 64
    · have HR1 := HR.out
      have HS1 := HS.out
      have HN1 := HN.out
      rw [if_pos h64] at HR1 HS1 HN1
      have HL1 := HL.out
      have HBQ1 := HBQ.out
      rw [HR1, HS1] at HL1 HBQ1
      rw [HN1] at HL1
      clear HL HBQ HR1 HS1 HN1 HR HS HN
      obtain ⟨P, hP⟩ : ∃ P, lrl 1 (facG ((r : Nat) : Int)) (a, b) = P := ⟨_, rfl⟩
      rw [hP] at HL1 HBQ1
      have HP := Lib.hid hP
      have HL := Lib.hid HL1
      have HBQ := Lib.hid HBQ1
      have HVW := Lib.hid HVV
      clear hP HL1 HBQ1
      have hzz := HZ.out
      have hmr := HMR.out
      go_enter Try.func27, Try.ntmps27
      go_wp2_with fail
      clear hzz hmr
      rw [← HVW.out, HMR.out, HMT.out]
      refine (small_ref (a, b) r 1 _ (by omega) (Or.inl rfl) HV.out).mono ?_
      rintro e w' ⟨rfl, rfl⟩
      rw [HP.out]
      clear HP HVW HVV HE HZ hz1 h0 HV HMR HMT
      obtain ⟨T, hT⟩ : ∃ T, t = T := ⟨_, rfl⟩
      rw [hT] at HL
      have hTI : (t : Int) = (T : Int) := by omega
      have HTI := Lib.hid hTI
      have hT5 : T ≤ 5 := by omega
      clear hT hTI
      obtain ⟨x0, y0⟩ := P
      go_wp2
      try rw [HTI.out]
      clear HTI
      go_loop [0, 1, 9] (fun a b i => ∃ n : Nat, n ≤ T ∧ i = .int .i64 n ∧ a = .int .i64 (qts (x0, y0) n).1 ∧ b = .int .i64 (qts (x0, y0) n).2) (fun _ _ i => T - (intOf i).toNat)
      case atStart => exact ⟨0, Nat.zero_le _, rfl, rfl, rfl⟩
      case round =>
        obtain ⟨n, hn, rfl, rfl, rfl⟩ := hrel
        obtain ⟨q1, q2, q3, q4⟩ := HBQ.out n
        have HS1 : Hid ((qts (x0, y0) (n + 1)).1 = -(qts (x0, y0) n).2) := rfl
        have HS2 : Hid ((qts (x0, y0) (n + 1)).2 = (qts (x0, y0) n).1) := rfl
        obtain ⟨x, hx⟩ : ∃ x, (qts (x0, y0) n).1 = x := ⟨_, rfl⟩
        obtain ⟨y, hy⟩ : ∃ y, (qts (x0, y0) n).2 = y := ⟨_, rfl⟩
        rw [hx] at q1 q2
        rw [hy] at q3 q4
        rw [hx, hy]
        rw [hy] at HS1
        rw [hx] at HS2
        have HAA := Lib.hid hx
        have HBB := Lib.hid hy
        clear hx hy
        rcases Nat.lt_or_ge n T with hlt | hge
        · go_wp2
          go_round
          case rel => exact ⟨n + 1, hlt, by go_num, by rw [HS1.out], by rw [HS2.out]⟩
          case measure => simp [intOf]; omega
        · obtain rfl : n = T := by omega
          go_wp2
          go_ret2
          refine ⟨?_, rfl⟩
          rw [HL.out, HAA.out, HBB.out]
          rfl
    · have HR1 := HR.out
      have HS1 := HS.out
      have HN1 := HN.out
      rw [if_neg h64] at HR1 HS1 HN1
      have HL1 := HL.out
      have HBQ1 := HBQ.out
      rw [HR1, HS1] at HL1 HBQ1
      rw [HN1] at HL1
      clear HL HBQ HR1 HS1 HN1 HR HS HN
      obtain ⟨P, hP⟩ : ∃ P, lrl (-1) (facG (((128 - r) : Nat) : Int)) (a, b) = P := ⟨_, rfl⟩
      rw [hP] at HL1 HBQ1
      have HP := Lib.hid hP
      have HL := Lib.hid HL1
      have HBQ := Lib.hid HBQ1
      have HVW := Lib.hid HVV
      clear hP HL1 HBQ1
      have hzz := HZ.out
      have hmr := HMR.out
      go_enter Try.func27, Try.ntmps27
      go_wp2_with fail
      clear hzz hmr
      rw [← HVW.out, HMR.out, HMT.out]
      rw [show (128 : Int) - (r : Int) = ((128 - r : Nat) : Int) by omega]
      refine (small_ref (a, b) (128 - r) (-1) _ (by omega) (Or.inr rfl) HV.out).mono ?_
      rintro e w' ⟨rfl, rfl⟩
      rw [HP.out]
      clear HP HVW HVV HE HZ hz1 h0 HV HMR HMT
      obtain ⟨T, hT⟩ : ∃ T, t + 1 = T := ⟨_, rfl⟩
      rw [hT] at HL
      have hTI : (t : Int) + 1 = (T : Int) := by omega
      have HTI := Lib.hid hTI
      have hT5 : T ≤ 5 := by omega
      clear hT hTI
      obtain ⟨x0, y0⟩ := P
      go_wp2
      try rw [HTI.out]
      clear HTI
      go_loop [0, 1, 9] (fun a b i => ∃ n : Nat, n ≤ T ∧ i = .int .i64 n ∧ a = .int .i64 (qts (x0, y0) n).1 ∧ b = .int .i64 (qts (x0, y0) n).2) (fun _ _ i => T - (intOf i).toNat)
      case atStart => exact ⟨0, Nat.zero_le _, rfl, rfl, rfl⟩
      case round =>
        obtain ⟨n, hn, rfl, rfl, rfl⟩ := hrel
        obtain ⟨q1, q2, q3, q4⟩ := HBQ.out n
        have HS1 : Hid ((qts (x0, y0) (n + 1)).1 = -(qts (x0, y0) n).2) := rfl
        have HS2 : Hid ((qts (x0, y0) (n + 1)).2 = (qts (x0, y0) n).1) := rfl
        obtain ⟨x, hx⟩ : ∃ x, (qts (x0, y0) n).1 = x := ⟨_, rfl⟩
        obtain ⟨y, hy⟩ : ∃ y, (qts (x0, y0) n).2 = y := ⟨_, rfl⟩
        rw [hx] at q1 q2
        rw [hy] at q3 q4
        rw [hx, hy]
        rw [hy] at HS1
        rw [hx] at HS2
        have HAA := Lib.hid hx
        have HBB := Lib.hid hy
        clear hx hy
        rcases Nat.lt_or_ge n T with hlt | hge
        · go_wp2
          go_round
          case rel => exact ⟨n + 1, hlt, by go_num, by rw [HS1.out], by rw [HS2.out]⟩
          case measure => simp [intOf]; omega
        · obtain rfl : n = T := by omega
          go_wp2
          go_ret2
          refine ⟨?_, rfl⟩
          rw [HL.out, HAA.out, HBB.out]
          rfl
end Go.Proofs.Ytdnchnhflfcdkaa
