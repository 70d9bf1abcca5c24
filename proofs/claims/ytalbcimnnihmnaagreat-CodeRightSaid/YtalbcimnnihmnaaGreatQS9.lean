/-
  Contracts and plain facts that the laws share; each piece is headed by what it holds and its conditions.
-/
import Derived.Test.YtalbcimnnihmnaaGreatQS7
import Derived.Test.YtalbcimnnihmnaaGreatQS8
import Derived.Test.YtalbcimnnihmnaaGreatQS4
import Derived.Test.YtalbcimnnihmnaaGreatQS5
import Derived.Deep.WholeRow

/- Layer 19, plain: what a text is read as, and what tells that it can't be; that what is laid is read as it was, and what is read is what is laid of it; that a text with one byte changed isn't sealed. No conditions but those that each fact names. -/
namespace Go.Proofs.YtalbcimnnihmnaaGreat
open Go.RowKit
open M
/-- A shape's steps and its bands' numbers. -/
def sdN (l : List Int) : List Nat := (sds l).map Int.toNat
def ixN (l : List Int) : List Nat := (List.range 8).map fun b => ix13 (sys l b)
/-- A text without its sum; its fields. -/
def bd19 (s : ByteArray) : List UInt8 := (bl s).take (s.size - 2)
def fr19 (s : ByteArray) : Nat := (rdF (bd19 s) 0 hdW).getD 0 0
def sd19 (s : ByteArray) : List Nat := (rdF (bd19 s) 0 hdW).tail
def kp19 (s : ByteArray) : Nat → Nat := kpl (sd19 s) s.size
def ix19 (s : ByteArray) : List Nat := rdF (bd19 s) 48 (wds (sd19 s) s.size)
def lo19 (s : ByteArray) : Nat := (wds (sd19 s) s.size).sum
/-- Is it sealed? Are its fields such as are laid? -/
def so19 (s : ByteArray) : Bool := crun r15 (tbt (bl s)) == 0
def fo19 (s : ByteArray) : Bool := ((List.range 8).all fun b => decide ((ix19 s).getD b 0 < cn13 4 (kp19 s b))) && (readB (bd19 s) (48 + lo19 s) (8 * s.size - 64 - lo19 s) == List.replicate (8 * s.size - 64 - lo19 s) false)
/-- What it is read as: an error's number; a frame's number and a shape. -/
def e19 (s : ByteArray) : Int := if 12 ≤ s.size ∧ s.size ≤ 24 then if so19 s = true then if fo19 s = true then 0 else 3 else 4 else 1
def sh19 (s : ByteArray) : List Int := (List.range 40).map fun p => if p < 8 then ((sd19 s).getD p 0 : Int) else (vc13 4 (kp19 s ((p - 8) / 4)) ((ix19 s).getD ((p - 8) / 4) 0)).getD ((p - 8) % 4) 0
def pk0 : List Int := List.replicate 41 0
def p19 (s : ByteArray) : List Int := if e19 s = 0 then (fr19 s : Int) :: sh19 s else pk0
theorem e19_yes (s : ByteArray) (h : e19 s = 0) : (12 ≤ s.size ∧ s.size ≤ 24) ∧ so19 s = true ∧ fo19 s = true := by
  unfold e19 at h
  by_cases h1 : 12 ≤ s.size ∧ s.size ≤ 24
  · rw [if_pos h1] at h
    by_cases h2 : so19 s = true
    · rw [if_pos h2] at h
      by_cases h3 : fo19 s = true
      · exact ⟨h1, h2, h3⟩
      · rw [if_neg h3] at h; cases h
    · rw [if_neg h2] at h; cases h
  · rw [if_neg h1] at h; cases h
theorem hd_split (L : List Nat) (h : L.length = 9) : L = L.getD 0 0 :: L.tail := by
  cases L with
  | nil => cases h
  | cons a L => rfl
theorem rd_hd (s : ByteArray) : rdF (bd19 s) 0 hdW = fr19 s :: sd19 s := hd_split _ (rdF_len _ _ _)
theorem sd19_len (s : ByteArray) : (sd19 s).length = 8 := by
  unfold sd19
  rw [List.length_tail, rdF_len]
  rfl
theorem tail_getD (L : List Nat) (i : Nat) : L.tail.getD i 0 = L.getD (i + 1) 0 := by
  cases L with
  | nil => simp
  | cons a L => rfl
theorem sd19_lt (s : ByteArray) (i : Nat) (h : i < 8) : (sd19 s).getD i 0 < 16 := by
  unfold sd19
  rw [tail_getD]
  have h1 := rdF_lt (bd19 s) hdW 0 (i + 1) (by rw [show hdW.length = 9 from rfl]; omega)
  have h2 : hdW.getD (i + 1) 0 = 4 := by
    rcases (show i = 0 ∨ i = 1 ∨ i = 2 ∨ i = 3 ∨ i = 4 ∨ i = 5 ∨ i = 6 ∨ i = 7 by omega) with rfl | rfl | rfl | rfl | rfl | rfl | rfl | rfl <;> rfl
  rw [h2] at h1
  exact h1
theorem fr19_lt (s : ByteArray) : fr19 s < 65536 := rdF_lt (bd19 s) hdW 0 0 (by decide)
theorem ix19_len (s : ByteArray) : (ix19 s).length = 8 := by
  unfold ix19
  rw [rdF_len, wds_len]
theorem kp19_le (s : ByteArray) (b : Nat) (h : b < 8) : kp19 s b ≤ 12 := (giv_all _ _).1 b h
theorem sh19_len (s : ByteArray) : (sh19 s).length = 40 := by simp [sh19]
theorem fo_ix (s : ByteArray) (h : fo19 s = true) (b : Nat) (hb : b < 8) : (ix19 s).getD b 0 < cn13 4 (kp19 s b) := by
  unfold fo19 at h
  rw [Bool.and_eq_true, List.all_eq_true] at h
  exact of_decide_eq_true (h.1 b (List.mem_range.2 hb))
theorem fo_zero (s : ByteArray) (h : fo19 s = true) : readB (bd19 s) (48 + lo19 s) (8 * s.size - 64 - lo19 s) = List.replicate (8 * s.size - 64 - lo19 s) false := by
  unfold fo19 at h
  rw [Bool.and_eq_true, beq_iff_eq] at h
  exact h.2
theorem sh_sds (s : ByteArray) (p : Nat) (h : p < 8) : (sds (sh19 s)).getD p 0 = ((sd19 s).getD p 0 : Int) := by
  unfold sds
  rw [pto_getD _ _ _ _ h, Nat.zero_add]
  unfold sh19
  rw [tm_getD _ _ _ (by omega), if_pos h]
theorem sh_sys (s : ByteArray) (hf : fo19 s = true) (b : Nat) (hb : b < 8) : sys (sh19 s) b = vc13 4 (kp19 s b) ((ix19 s).getD b 0) := by
  have hl := (vc_all 4 (kp19 s b) _ (fo_ix s hf b hb)).1
  unfold sys pto
  refine (tm_ext _ 4 _ hl fun i hi => ?_).symm
  unfold sh19
  rw [tm_getD _ _ _ (by omega), if_neg (by omega), show (8 + b * 4 + i - 8) / 4 = b by omega, show (8 + b * 4 + i - 8) % 4 = i by omega]
theorem pl_each : ∀ (y : List Int) (j : Nat), (y.getD j 0).natAbs ≤ pl13 y
  | [], j => by simp
  | x :: r, 0 => by show x.natAbs ≤ x.natAbs + pl13 r; omega
  | x :: r, j + 1 => by
    have := pl_each r j
    show (r.getD j 0).natAbs ≤ x.natAbs + pl13 r
    omega
theorem kpl_gk (l : List Int) (z : Nat) (hr : rt17 (sds l) = true) : kpl (sdN l) z = gk19 l (8 * z - 64) := by
  have hb := (rt_iff _).1 hr
  have hlen : (sds l).length = 8 := pto_len _ _ _
  unfold kpl gk19
  congr 1
  funext b
  unfold sdN
  rcases Nat.lt_or_ge b 8 with h | h
  · have := hb b h
    rw [List.getD_eq_getElem?_getD, List.getElem?_map, List.getD_eq_getElem?_getD, List.getElem?_eq_getElem (by omega)]
    rw [List.getD_eq_getElem?_getD, List.getElem?_eq_getElem (by omega)] at this
    simp only [Option.map_some, Option.getD_some] at this ⊢
    omega
  · rw [List.getD_eq_getElem?_getD, List.getElem?_map, List.getD_eq_getElem?_getD, List.getElem?_eq_none (by omega)]
    rfl
theorem gk_le (l : List Int) (n b : Nat) (h : b < 8) : gk19 l n b ≤ 12 := (giv_all _ _).1 b h
/-- What a right shape is. -/
theorem rg_parts (l : List Int) (z : Nat) (h : rg19 l (z : Int) = true) : (12 ≤ z ∧ z ≤ 24) ∧ rt17 (sds l) = true ∧ ∀ b, b < 8 → pl13 (sys l b) = gk19 l (8 * z - 64) b := by
  unfold rg19 at h
  rw [Bool.and_eq_true, Bool.and_eq_true, decide_eq_true_eq, List.all_eq_true] at h
  obtain ⟨⟨h1, h2⟩, h3⟩ := h
  refine ⟨by omega, h2, fun b hb => ?_⟩
  have h4 := of_decide_eq_true (h3 b (List.mem_range.2 hb))
  rw [show (8 * (z : Int) - 64).toNat = 8 * z - 64 by omega] at h4
  have h5 := gk_le l (8 * z - 64) b hb
  have h6 : pu19 (sys l b) ≤ 12 := by omega
  unfold pu19 at h4 h6
  split at h4
  · rename_i hw
    rw [if_pos hw] at h6
    omega
  · rename_i hw
    rw [if_neg hw] at h6
    omega
theorem lb_all (fr : Nat) (l : List Int) : lb19 fr l 8 = layF (hdF fr (sdN l)) := by
  unfold sdN sds pto hdF
  simp only [List.range_succ, List.range_zero, List.nil_append, List.cons_append, List.map_cons, List.map_nil, Nat.zero_add]
  simp only [layF, lb19, List.append_assoc, List.append_nil]
theorem yb_all (fr : Nat) (l : List Int) : yb19 fr l 8 = lb19 fr l 8 ++ layF ((ixN l).zip ((List.range 8).map fun b => btc (pl13 (sys l b)))) := by
  unfold ixN
  simp only [List.range_succ, List.range_zero, List.nil_append, List.cons_append, List.map_cons, List.map_nil, List.zip_cons_cons, List.zip_nil_left, layF, yb19, List.append_assoc, List.append_nil]
theorem pb_pkb (fr z : Nat) (l : List Int) (h : rg19 l (z : Int) = true) : pb19 fr l z = pkb fr (sdN l) (ixN l) z := by
  obtain ⟨⟨h1, h2⟩, h3, h4⟩ := rg_parts l z h
  have hw : (List.range 8).map (fun b => btc (pl13 (sys l b))) = wds (sdN l) z := by
    unfold wds
    apply List.map_congr_left
    intro b hb
    rw [kpl_gk l z h3, h4 b (List.mem_range.1 hb)]
  have hsl : (sdN l).length = 8 := by unfold sdN; rw [List.length_map]; exact pto_len _ _ _
  have hil : (ixN l).length = (wds (sdN l) z).length := by rw [wds_len]; simp [ixN]
  have hy : yb19 fr l 8 = layF (hdF fr (sdN l)) ++ layF ((ixN l).zip (wds (sdN l) z)) := by rw [yb_all, lb_all, hw]
  have hlen : (yb19 fr l 8).length = 48 + (wds (sdN l) z).sum := by rw [hy, List.length_append, hd_len fr _ hsl, layF_len, zip_snd _ _ hil]
  have hz8 : 8 * z - 16 - (48 + (wds (sdN l) z).sum) = 8 * z - 64 - (wds (sdN l) z).sum := by omega
  unfold pb19
  rw [hlen, hz8, hy]
  rfl
theorem ix_fits : ∀ k, k ≤ 12 → cn13 4 k ≤ 2 ^ btc k := by decide +kernel
/-- A packet's text: its bytes, their sum behind them. -/
theorem ly_bl (fr z : Nat) (l : List Int) : bl (ly19 fr l z) = sl15 (pack (pb19 fr l z)) := by
  unfold ly19
  rw [bl_append, bl_ofB]
  rfl
theorem ly_size (fr z : Nat) (l : List Int) (h : rg19 l (z : Int) = true) : (ly19 fr l z).size = z := by
  have h1 : (bl (ly19 fr l z)).length = z := by
    rw [ly_bl, sl_len, pack_length, pb_pkb fr z l h]
    have hz := (rg_parts l z h).1
    rw [pkb_len fr _ _ z (by unfold sdN; rw [List.length_map]; exact pto_len _ _ _) (by simp [ixN]) hz.1]
    omega
  exact h1
theorem ly_body (fr z : Nat) (l : List Int) (h : rg19 l (z : Int) = true) : bd19 (ly19 fr l z) = pack (pkb fr (sdN l) (ixN l) z) := by
  have hz := (rg_parts l z h).1
  have hp : (pack (pkb fr (sdN l) (ixN l) z)).length = z - 2 := by
    rw [pack_length, pkb_len fr _ _ z (by unfold sdN; rw [List.length_map]; exact pto_len _ _ _) (by simp [ixN]) hz.1]
    omega
  unfold bd19
  rw [ly_size fr z l h, ly_bl, pb_pkb fr z l h, ← hp]
  exact sl_take _
theorem ly_sealed (fr z : Nat) (l : List Int) : so19 (ly19 fr l z) = true := by
  unfold so19
  rw [ly_bl, beq_iff_eq]
  exact sl_zero _
theorem ix_bits (l : List Int) (z : Nat) (h : rg19 l (z : Int) = true) (b : Nat) (hb : b < 8) : (ixN l).getD b 0 < cn13 4 (kpl (sdN l) z b) ∧ (ixN l).getD b 0 < 2 ^ btc (kpl (sdN l) z b) ∧ kpl (sdN l) z b = pl13 (sys l b) ∧ (ixN l).getD b 0 = ix13 (sys l b) := by
  obtain ⟨_, h3, h4⟩ := rg_parts l z h
  have e1 : (ixN l).getD b 0 = ix13 (sys l b) := by
    unfold ixN
    rw [List.getD_eq_getElem?_getD, List.getElem?_map, List.getElem?_range hb]
    rfl
  have e2 : kpl (sdN l) z b = pl13 (sys l b) := by rw [kpl_gk l z h3, h4 b hb]
  have hlen : (sys l b).length = 4 := pto_len _ _ _
  have h5 := ix_lt (sys l b)
  rw [hlen] at h5
  have h6 := gk_le l (8 * z - 64) b hb
  have h7 := ix_fits (pl13 (sys l b)) (by rw [h4 b hb]; exact h6)
  rw [e1, e2]
  exact ⟨h5, by omega, rfl, rfl⟩
theorem ly_fields (fr z : Nat) (l : List Int) (h : rg19 l (z : Int) = true) (hf : fr < 65536) :
    fr19 (ly19 fr l z) = fr ∧ sd19 (ly19 fr l z) = sdN l ∧ ix19 (ly19 fr l z) = ixN l ∧ fo19 (ly19 fr l z) = true := by
  obtain ⟨hz, h3, h4⟩ := rg_parts l z h
  have hb := (rt_iff _).1 h3
  have hsl : (sdN l).length = 8 := by unfold sdN; rw [List.length_map]; exact pto_len _ _ _
  have hil : (ixN l).length = 8 := by simp [ixN]
  obtain ⟨p1, p2, p3⟩ := pkb_back fr (sdN l) (ixN l) z hsl hil hf (fun x hx => by
    obtain ⟨i, hi, rfl⟩ := List.getElem_of_mem hx
    have h8 : i < 8 := by omega
    have h9 := hb i h8
    have h10 : (sds l).length = 8 := pto_len _ _ _
    rw [List.getD_eq_getElem?_getD, List.getElem?_eq_getElem (by omega)] at h9
    simp only [sdN, List.getElem_map, Option.getD_some] at h9 ⊢
    omega) (fun b hb => (ix_bits l z h b hb).2.1)
  have q1 : fr19 (ly19 fr l z) = fr := by unfold fr19; rw [ly_body fr z l h, p1]; rfl
  have q2 : sd19 (ly19 fr l z) = sdN l := by unfold sd19; rw [ly_body fr z l h, p1]; rfl
  have q3 : ix19 (ly19 fr l z) = ixN l := by unfold ix19; rw [ly_body fr z l h, q2, ly_size fr z l h, p2]
  refine ⟨q1, q2, q3, ?_⟩
  unfold fo19 lo19 kp19
  rw [q3, q2, ly_size fr z l h, ly_body fr z l h, p3, Bool.and_eq_true, beq_self_eq_true, List.all_eq_true]
  exact ⟨fun b hb => decide_eq_true (ix_bits l z h b (List.mem_range.1 hb)).1, rfl⟩
/-- What is laid is read as it was. -/
theorem ly_back (fr z : Nat) (l : List Int) (hl : l.length = 40) (h : rg19 l (z : Int) = true) (hf : fr < 65536) : e19 (ly19 fr l z) = 0 ∧ p19 (ly19 fr l z) = (fr : Int) :: l := by
  obtain ⟨hz, h3, h4⟩ := rg_parts l z h
  obtain ⟨q1, q2, q3, q4⟩ := ly_fields fr z l h hf
  have he : e19 (ly19 fr l z) = 0 := by
    unfold e19
    rw [ly_size fr z l h, if_pos hz, if_pos (ly_sealed fr z l), if_pos q4]
  refine ⟨he, ?_⟩
  unfold p19
  rw [if_pos he, q1]
  congr 1
  refine (tm_ext l 40 _ hl fun p hp => ?_).symm
  unfold kp19
  rw [q2, q3, ly_size fr z l h]
  by_cases h8 : p < 8
  · rw [if_pos h8]
    have hb := (rt_iff _).1 h3 p h8
    have h10 : (sds l).length = 8 := pto_len _ _ _
    have e : (sds l).getD p 0 = l.getD p 0 := by
      unfold sds
      rw [pto_getD _ _ _ _ h8, Nat.zero_add]
    rw [← e]
    unfold sdN
    rw [List.getD_eq_getElem?_getD (l := (sds l).map Int.toNat), List.getElem?_map]
    rw [List.getD_eq_getElem?_getD, List.getElem?_eq_getElem (by omega)] at hb ⊢
    simp only [Option.map_some, Option.getD_some] at hb ⊢
    omega
  · rw [if_neg h8]
    obtain ⟨b, i, hb, hi, rfl⟩ : ∃ b i, b < 8 ∧ i < 4 ∧ p = 8 + b * 4 + i := ⟨(p - 8) / 4, (p - 8) % 4, by omega, by omega, by omega⟩
    rw [show (8 + b * 4 + i - 8) / 4 = b by omega, show (8 + b * 4 + i - 8) % 4 = i by omega]
    obtain ⟨_, _, k3, k4⟩ := ix_bits l z h b hb
    have hlen : (sys l b).length = 4 := pto_len _ _ _
    have hv := vc_ix (sys l b)
    rw [hlen] at hv
    rw [k3, k4, hv]
    unfold sys
    rw [pto_getD _ _ _ _ hi]
/-- What is read is what is laid of it. -/
theorem ly_only (s : ByteArray) (h : e19 s = 0) : rg19 (sh19 s) (s.size : Int) = true ∧ ly19 (fr19 s) (sh19 s) s.size = s := by
  obtain ⟨hz, hs, hf⟩ := e19_yes s h
  have hrt : rt17 (sds (sh19 s)) = true := (rt_iff _).2 fun j hj => by
    rw [sh_sds s j hj]
    have := sd19_lt s j hj
    omega
  have hsd : sdN (sh19 s) = sd19 s := by
    apply List.ext_getElem
    · rw [sd19_len]; unfold sdN; rw [List.length_map]; exact pto_len _ _ _
    · intro i h1 h2
      have h8 : i < 8 := by rw [sd19_len] at h2; exact h2
      have := sh_sds s i h8
      rw [List.getD_eq_getElem?_getD, List.getD_eq_getElem?_getD, List.getElem?_eq_getElem (by rw [show (sds (sh19 s)).length = 8 from pto_len _ _ _]; exact h8), List.getElem?_eq_getElem h2] at this
      simp only [Option.getD_some] at this
      simp only [sdN, List.getElem_map]
      omega
  have hgk : ∀ b, b < 8 → gk19 (sh19 s) (8 * s.size - 64) b = kp19 s b := fun b _ => by
    have := congrFun (kpl_gk (sh19 s) s.size hrt) b
    rw [hsd] at this
    exact this.symm
  have hv := fun b (hb : b < 8) => vc_all 4 (kp19 s b) _ (fo_ix s hf b hb)
  have hpl : ∀ b, b < 8 → pl13 (sys (sh19 s) b) = kp19 s b := fun b hb => by rw [sh_sys s hf b hb]; exact (hv b hb).2.1
  have hrg : rg19 (sh19 s) (s.size : Int) = true := rg_yes _ _ (by omega) hrt fun b hb => by
    rw [show (8 * (s.size : Int) - 64).toNat = 8 * s.size - 64 by omega, hgk b hb, pu_pl _ (by rw [hpl b hb]; exact kp19_le s b hb), hpl b hb]
  refine ⟨hrg, ?_⟩
  have hix : ixN (sh19 s) = ix19 s := by
    apply List.ext_getElem
    · rw [ix19_len]; simp [ixN]
    · intro b h1 h2
      have h8 : b < 8 := by rw [ix19_len] at h2; exact h2
      have e := (hv b h8).2.2
      rw [List.getD_eq_getElem?_getD, List.getElem?_eq_getElem h2] at e
      simp only [ixN, List.getElem_map, List.getElem_range]
      rw [sh_sys s hf b h8, List.getD_eq_getElem?_getD, List.getElem?_eq_getElem h2]
      exact e
  have hbl : (bl s).length = s.size := rfl
  have hbd : (bd19 s).length = s.size - 2 := by unfold bd19; rw [List.length_take]; omega
  have hpk := pkb_only (bd19 s) s.size (fr19 s) (sd19 s) hz.1 hbd (rd_hd s) (fo_zero s hf)
  apply bl_inj
  rw [ly_bl, pb_pkb _ _ _ hrg, hsd, hix]
  unfold ix19
  rw [hpk]
  have hsz : (bl s).length = (s.size - 2) + 2 := by omega
  have hso : crun r15 (tbt (bl s)) = 0 := by unfold so19 at hs; exact beq_iff_eq.1 hs
  have hsi := (sealed_iff (bl s) (s.size - 2) hsz).2 hso
  have e2 := last_two (bl s) (s.size - 2) hsz
  have e3 := congrArg bl hsi
  rw [bl_extract, ofB_bl, bl_extract, List.drop_zero] at e3
  unfold sl15 bd19
  have e4 : (bl s).drop (s.size - 2) = [UInt8.ofNat (sm15 65535 ((bl s).take (s.size - 2)) / 256), UInt8.ofNat (sm15 65535 ((bl s).take (s.size - 2)) % 256)] := by
    rw [List.take_of_length_le (by rw [List.length_drop]; omega), Nat.sub_zero] at e3
    exact e3
  rw [← e4, List.take_append_drop]
/-- A byte changed: it isn't sealed. -/
theorem spoilt19 (L : List UInt8) (i : Nat) (m : UInt8) (hi : i < L.length) (hm : m ≠ 0) (h : crun r15 (tbt L) = 0) : ¬ crun r15 (tbt (L.set i (L.getD i 0 ^^^ m))) = 0 := by
  intro h2
  have hl : (tbt L).length = (tbt (L.set i (L.getD i 0 ^^^ m))).length := by rw [tbt_len, tbt_len, List.length_set]
  have e := burst_same r15 (tbt L) (tbt (L.set i (L.getD i 0 ^^^ m))) (8 * i) hl (fun j hj hjj => by
    rw [tbt_len] at hj
    rw [tbt_at _ _ hj, tbt_at _ _ (by rw [List.length_set]; exact hj)]
    unfold bt15
    rw [gD_set _ _ _ _ _ hi, if_neg (by omega)]) h h2
  apply hm
  have hb : ∀ k, k < 8 → (L.getD i 0).toNat.testBit (7 - k) = (L.getD i 0 ^^^ m).toNat.testBit (7 - k) := fun k hk => by
    have e1 := congrArg (fun l => l.getD (8 * i + k) false) e
    rw [tbt_at _ _ (by omega), tbt_at _ _ (by rw [List.length_set]; omega), bt_test, bt_test, gD_set _ _ _ _ _ hi, show (8 * i + k) / 8 = i by omega, show (8 * i + k) % 8 = k by omega, if_pos rfl] at e1
    exact e1
  have hx : L.getD i 0 = L.getD i 0 ^^^ m := by
    apply UInt8.toNat_inj.1
    apply Nat.eq_of_testBit_eq
    intro j
    rcases Nat.lt_or_ge j 8 with h8 | h8
    · have := hb (7 - j) (by omega)
      rwa [show 7 - (7 - j) = j by omega] at this
    · rw [Nat.testBit_lt_two_pow (Nat.lt_of_lt_of_le (UInt8.toNat_lt _) (Nat.pow_le_pow_right (by decide) h8)), Nat.testBit_lt_two_pow (Nat.lt_of_lt_of_le (UInt8.toNat_lt _) (Nat.pow_le_pow_right (by decide) h8))]
  generalize L.getD i 0 = a at hx
  have : a ^^^ a = a ^^^ (a ^^^ m) := by rw [← hx]
  rw [← UInt8.xor_assoc, UInt8.xor_self, UInt8.zero_xor] at this
  exact this.symm
end Go.Proofs.YtalbcimnnihmnaaGreat

/- Layer 20, plain: a frame's shape is right for its size; its pulses are as near as any; its coefficients are no more than 12 gains. No program is named here. No conditions but those that each fact names. -/
namespace Go.Proofs.YtalbcimnnihmnaaGreat
open Go.RowKit
open M
theorem sh20_len (f : List Int) (n : Nat) : (sh20 f n).length = 40 := sq20_len _ _ _
theorem sds_sh (f : List Int) (n : Nat) : sds (sh20 f n) = sds (sp20 (cg20 f) 8) := by
  unfold sds pto
  apply List.map_congr_left
  intro p hp
  have h8 := List.mem_range.1 hp
  unfold sh20
  rw [Nat.zero_add, sq20_step _ _ _ _ h8]
  unfold sp20
  rw [tm_getD _ _ _ (by omega), if_pos h8]
theorem sds_at20 (f : List Int) (n p : Nat) (h : p < 8) : (sds (sh20 f n)).getD p 0 = (sd20 (cg20 f) p : Int) := by
  unfold sds
  rw [pto_getD _ _ _ _ h, Nat.zero_add]
  exact sq20_step _ _ _ _ h
theorem yy_len (F : List Int) (n b : Nat) : (yy20 F n b).length = 4 := rfl
theorem sys_sh (f : List Int) (n b : Nat) (hb : b < 8) : sys (sh20 f n) b = yy20 (cg20 f) n b := by
  unfold sys pto
  refine (tm_ext _ 4 _ (yy_len _ _ _) fun i hi => ?_).symm
  unfold sh20 sq20
  rw [tm_getD _ _ _ (by omega), if_neg (by omega), if_pos (by omega), show (8 + b * 4 + i - 8) / 4 = b by omega, show (8 + b * 4 + i - 8) % 4 = i by omega]
theorem four_pl (l : List Int) (h : l.length = 4) : ((pl13 l : Nat) : Int) = s4 fun i => ((l.getD i 0).natAbs : Int) := by
  match l, h with
  | [a, b, c, d], _ =>
    show ((a.natAbs + (b.natAbs + (c.natAbs + (d.natAbs + 0))) : Nat) : Int) = (a.natAbs : Int) + b.natAbs + c.natAbs + d.natAbs
    omega
theorem found_pl (c : Nat → Int) (G : Int) (n : Nat) : pl13 (fl4 c G n) = n := by
  have h1 := four_pl (fl4 c G n) rfl
  have h2 := fnd_sum c G n
  have h3 : s4 (fun i => (((fl4 c G n).getD i 0).natAbs : Int)) = s4 (fun i => ((fnd c G n i).natAbs : Int)) := rfl
  rw [h3, h2] at h1
  omega
theorem found_near (c : Nat → Int) (l : List Int) (G : Int) (n : Nat) (hG : 0 ≤ G) (hl : l.length = 4) (hp : pl13 l = n) : dis c (fun i => (fl4 c G n).getD i 0) G ≤ dis c (fun i => l.getD i 0) G := by
  have e : dis c (fun i => (fl4 c G n).getD i 0) G = dis c (fnd c G n) G := rfl
  rw [e]
  refine fnd_least c _ G hG n ?_
  rw [← four_pl l hl, hp]
theorem gk_sh (f : List Int) (n b : Nat) : gk19 (sh20 f n) n b = kk20 (cg20 f) n b := by
  unfold gk19 kk20
  rw [sds_sh]
theorem kk_le (F : List Int) (n b : Nat) (hb : b < 8) : kk20 F n b ≤ 12 := (giv_all _ _).1 b hb
theorem pl_sh (f : List Int) (n b : Nat) (hb : b < 8) : pl13 (sys (sh20 f n) b) = kk20 (cg20 f) n b := by
  rw [sys_sh _ _ _ hb]
  exact found_pl _ _ _
/-- A frame's shape is right. -/
theorem sh_right (f : List Int) (z : Nat) (h1 : 12 ≤ z) (h2 : z ≤ 24) : rg19 (sh20 f (8 * z - 64)) (z : Int) = true := by
  refine rg_yes _ _ (by omega) ((rt_iff _).2 fun j hj => ?_) fun b hb => ?_
  · rw [sds_at20 _ _ _ hj]
    have := sd20_le (cg20 f) j
    omega
  · rw [show (8 * (z : Int) - 64).toNat = 8 * z - 64 by omega, gk_sh, pu_pl _ (by rw [pl_sh _ _ _ hb]; exact kk_le _ _ _ hb), pl_sh _ _ _ hb]
/-- A shape with other pulses in its first b bands. -/
def ot20 (S : List Int) (g : Nat → List Int) (b : Nat) : List Int := (List.range 40).map fun p => if 8 ≤ p ∧ p < 8 + 4 * b then (g ((p - 8) / 4)).getD ((p - 8) % 4) 0 else S.getD p 0
theorem ot_len (S : List Int) (g : Nat → List Int) (b : Nat) : (ot20 S g b).length = 40 := by simp [ot20]
theorem ot_zero (S : List Int) (g : Nat → List Int) (h : S.length = 40) : ot20 S g 0 = S := (tm_ext S 40 _ h fun p hp => by rw [if_neg (by omega)]).symm
theorem ot_at (S : List Int) (g : Nat → List Int) (b p : Nat) (h : p < 40) : (ot20 S g b).getD p 0 = if 8 ≤ p ∧ p < 8 + 4 * b then (g ((p - 8) / 4)).getD ((p - 8) % 4) 0 else S.getD p 0 := tm_getD 40 _ p h
theorem ot_put (S : List Int) (g : Nat → List Int) (b : Nat) (hb : b < 8) (hg : (g b).length = 4) : ppu (ot20 S g b) (8 + b * 4) (g b) = ot20 S g (b + 1) := by
  refine tm_ext _ 40 _ (by rw [ppu_len, ot_len]) fun p hp => ?_
  rw [ppu_getD _ _ _ _ (by rw [ot_len]; exact hp), hg, ot_at _ _ _ _ hp]
  by_cases h2 : 8 + b * 4 ≤ p ∧ p < 8 + b * 4 + 4
  · rw [if_pos h2, if_pos (by omega), show (p - 8) / 4 = b by omega, show (p - 8) % 4 = p - (8 + b * 4) by omega]
  · rw [if_neg h2]
    by_cases h3 : 8 ≤ p ∧ p < 8 + 4 * b
    · rw [if_pos h3, if_pos (by omega)]
    · rw [if_neg h3, if_neg (by omega)]
theorem ot_old (S : List Int) (g : Nat → List Int) (k b : Nat) (hb : b < 8) (h : k ≤ b) : sys (ot20 S g k) b = sys S b := by
  unfold sys pto
  apply List.map_congr_left
  intro i hi
  have := List.mem_range.1 hi
  rw [ot_at _ _ _ _ (by omega), if_neg (by omega)]
theorem ot_sys (S : List Int) (g : Nat → List Int) (b : Nat) (hb : b < 8) (hg : (g b).length = 4) : sys (ot20 S g 8) b = g b := by
  unfold sys pto
  refine (tm_ext _ 4 _ hg fun i hi => ?_).symm
  rw [ot_at _ _ _ _ (by omega), if_pos (by omega), show (8 + b * 4 + i - 8) / 4 = b by omega, show (8 + b * 4 + i - 8) % 4 = i by omega]
theorem ot_step (S : List Int) (g : Nat → List Int) (b p : Nat) (h : p < 8) : (ot20 S g b).getD p 0 = S.getD p 0 := by
  rw [ot_at _ _ _ _ (by omega), if_neg (by omega)]
/-- How far, band by band. -/
def eb20 (f S : List Int) (b : Nat) : Nat := (cl20 (f.getD (4 * b) 0) - co20 S (4 * b)).natAbs + (cl20 (f.getD (4 * b + 1) 0) - co20 S (4 * b + 1)).natAbs + (cl20 (f.getD (4 * b + 2) 0) - co20 S (4 * b + 2)).natAbs + (cl20 (f.getD (4 * b + 3) 0) - co20 S (4 * b + 3)).natAbs
theorem er_four (f S : List Int) (b : Nat) : er20 f S (4 * b + 4) = er20 f S (4 * b) + eb20 f S b := by
  show er20 f S (4 * b) + _ + _ + _ + _ = _
  unfold eb20
  omega
theorem er_le (f S S' : List Int) (h : ∀ b, b < 8 → eb20 f S b ≤ eb20 f S' b) : ∀ b, b ≤ 8 → er20 f S (4 * b) ≤ er20 f S' (4 * b)
  | 0, _ => Nat.le_refl _
  | b + 1, hb => by
    have h1 := er_le f S S' h b (by omega)
    have h2 := h b (by omega)
    rw [show 4 * (b + 1) = 4 * b + 4 by omega, er_four, er_four]
    omega
/-- A band's distance, by its pulses. -/
theorem eb_dis (f S : List Int) (b : Nat) (s : Nat) (hb : b < 8) (hs : S.getD b 0 = (s : Int)) (h15 : s ≤ 15) (hw : fw19 (sys S b) = true) : ((eb20 f S b : Nat) : Int) = dis (fun i => (bd16 (cg20 f) b).getD i 0) (fun i => (sys S b).getD i 0) ((2 : Int) ^ s) := by
  have hc : ∀ i, i < 4 → co20 S (4 * b + i) = (sys S b).getD i 0 * (2 : Int) ^ s := fun i hi => by
    rw [co20_is S b (4 * b + i) (by omega) (by rw [hs]; omega) hw, hs, Int.toNat_natCast]
    unfold sys
    rw [pto_getD _ _ _ _ hi, show 8 + (4 * b + i) = 8 + b * 4 + i by omega]
  have hf : ∀ i, i < 4 → cl20 (f.getD (4 * b + i) 0) = (bd16 (cg20 f) b).getD i 0 := fun i hi => by
    have h1 : (cg20 f).getD (4 * b + i) 0 = cl20 (f.getD (4 * b + i) 0) := by
      unfold cg20 cq20
      rw [tm_getD _ _ _ (by omega), if_pos (by omega)]
    rw [← h1]
    rcases (show i = 0 ∨ i = 1 ∨ i = 2 ∨ i = 3 by omega) with rfl | rfl | rfl | rfl <;> rfl
  have hf0 := hf 0 (by decide)
  have hc0 := hc 0 (by decide)
  rw [Nat.add_zero] at hf0 hc0
  unfold eb20
  rw [hf0, hf 1 (by decide), hf 2 (by decide), hf 3 (by decide), hc0, hc 1 (by decide), hc 2 (by decide), hc 3 (by decide)]
  unfold dis s4 ab
  push_cast
  omega
/-- No other pulses, as many in each band, are nearer. -/
theorem sh_near (f : List Int) (n : Nat) (g : Nat → List Int) (hg : ∀ b, b < 8 → (g b).length = 4 ∧ pl13 (g b) = kk20 (cg20 f) n b) : er20 f (sh20 f n) 32 ≤ er20 f (ot20 (sh20 f n) g 8) 32 := by
  refine er_le f _ _ (fun b hb => ?_) 8 (Nat.le_refl _)
  obtain ⟨h4, hp⟩ := hg b hb
  have hs : (sh20 f n).getD b 0 = (sd20 (cg20 f) b : Int) := sq20_step _ _ _ _ hb
  have hk := kk_le (cg20 f) n b hb
  have w1 : fw19 (sys (sh20 f n) b) = true := (fw_iff _).2 fun j _ => by
    have := pl_each (sys (sh20 f n) b) j
    rw [pl_sh _ _ _ hb] at this
    omega
  have w2 : fw19 (sys (ot20 (sh20 f n) g 8) b) = true := (fw_iff _).2 fun j _ => by
    rw [ot_sys _ _ _ hb h4]
    have := pl_each (g b) j
    rw [hp] at this
    omega
  have e1 := eb_dis f (sh20 f n) b _ hb hs (sd20_le _ _) w1
  have e2 := eb_dis f (ot20 (sh20 f n) g 8) b _ hb (by rw [ot_step _ _ _ _ hb]; exact hs) (sd20_le _ _) w2
  rw [sys_sh _ _ _ hb] at e1
  rw [ot_sys _ _ _ hb h4] at e2
  have hG : (0 : Int) ≤ (2 : Int) ^ sd20 (cg20 f) b := by have := (pow15 _ (sd20_le (cg20 f) b)).2; omega
  have h := found_near (fun i => (bd16 (cg20 f) b).getD i 0) (g b) _ (kk20 (cg20 f) n b) hG h4 hp
  have h2 : dis (fun i => (bd16 (cg20 f) b).getD i 0) (fun i => (yy20 (cg20 f) n b).getD i 0) ((2 : Int) ^ sd20 (cg20 f) b) ≤ dis (fun i => (bd16 (cg20 f) b).getD i 0) (fun i => (g b).getD i 0) ((2 : Int) ^ sd20 (cg20 f) b) := h
  rw [← e1, ← e2] at h2
  omega
/-- No coefficient is more than 12 gains of its band. -/
theorem co_loud (S : List Int) (p s : Nat) (hs : S.getD (p / 4) 0 = (s : Int)) (h15 : s ≤ 15) : -(12 * (2 : Int) ^ s) ≤ co20 S p ∧ co20 S p ≤ 12 * (2 : Int) ^ s := by
  have hG := pow15 s h15
  unfold co20
  split
  · rename_i h
    obtain ⟨_, h2⟩ := h
    have h3 := (fw_iff _).1 h2 (p % 4) (by omega)
    rw [pto_getD _ _ _ _ (by omega), show 8 + p / 4 * 4 + p % 4 = 8 + p by omega] at h3
    rw [hs, Int.toNat_natCast]
    generalize S.getD (8 + p) 0 = y at *
    generalize (2 : Int) ^ s = G at *
    have h4 : y = -12 ∨ y = -11 ∨ y = -10 ∨ y = -9 ∨ y = -8 ∨ y = -7 ∨ y = -6 ∨ y = -5 ∨ y = -4 ∨ y = -3 ∨ y = -2 ∨ y = -1 ∨ y = 0 ∨ y = 1 ∨ y = 2 ∨ y = 3 ∨ y = 4 ∨ y = 5 ∨ y = 6 ∨ y = 7 ∨ y = 8 ∨ y = 9 ∨ y = 10 ∨ y = 11 ∨ y = 12 := by omega
    rcases h4 with rfl | rfl | rfl | rfl | rfl | rfl | rfl | rfl | rfl | rfl | rfl | rfl | rfl | rfl | rfl | rfl | rfl | rfl | rfl | rfl | rfl | rfl | rfl | rfl | rfl <;> omega
  · have : 0 ≤ 12 * (2 : Int) ^ s := by omega
    omega
theorem cg_again (f : List Int) : cg20 (cg20 f) = cg20 f := by
  unfold cg20
  refine (tm_ext (cq20 f 32) 32 _ (cq20_len f 32) fun p hp => ?_).symm
  rw [if_pos hp]
  unfold cq20
  rw [tm_getD _ _ _ hp, if_pos hp]
  unfold cl20
  omega
/-- A frame has the shape that it has when it is brought into its range. -/
theorem sh_clamp (f : List Int) (n : Nat) : sh20 (cg20 f) n = sh20 f n := by
  unfold sh20
  rw [cg_again]
end Go.Proofs.YtalbcimnnihmnaaGreat

/- A shape by value: its zero value, its size, that == tells whether two are the same. No conditions. -/
namespace Go.Proofs.YtalbcimnnihmnaaGreat
open Go.RowKit
open M
def z40 : List Int := List.replicate 40 0
theorem s40_info : (Tryz.prog.info? 30).map (fun i => (i.zero, i.size)) = some (some (.agg (iCells z40)), 40) := by kernel_rfl
theorem s40_zero (w : World) : (zeroValue 30).run Tryz.prog w = .ok (.agg (iCells z40)) w := (zero_of_info s40_info).1 w
theorem s40_size (l : List Int) (h : l.length = 40) : (Tryz.prog.info? 30).map (·.size) = some (iCells l).size := by
  rw [iCells_size, h]; exact (zero_of_info s40_info).2
theorem z40_length : z40.length = 40 := by unfold z40; rw [List.length_replicate]
theorem s40_same (l m : List Int) (h : l.length = 40) (k : m.length = 40) : (iCells l).size = (iCells m).size := by
  rw [iCells_size, iCells_size, h, k]
end Go.Proofs.YtalbcimnnihmnaaGreat

/- Layer 20: what Shape and Silent answer (as numbers), frames by value. No function of the program is named here. No conditions but those that each fact names. -/
namespace Go.Proofs.YtalbcimnnihmnaaGreat
open Go.RowKit
open M
/-- What Shape answers. -/
def shI (f : List Int) (z : Int) : List Int := if 12 ≤ z ∧ z ≤ 24 then sh20 f (8 * z - 64).toNat else z40
def shE (z : Int) : Int := if 12 ≤ z ∧ z ≤ 24 then 0 else 1
/-- Is a shape nearly nothing? -/
def si20 (l : List Int) : Bool := ((List.range 8).all fun b => decide (l.getD b 0 = 0)) && (List.range 32).all fun p => decide (-12 ≤ co20 l p ∧ co20 l p ≤ 12)
theorem sh_in (f : List Int) (z : Nat) (h1 : 12 ≤ z) (h2 : z ≤ 24) : shI f (z : Int) = sh20 f (8 * z - 64) ∧ shE (z : Int) = 0 := by
  unfold shI shE
  rw [if_pos (by omega), if_pos (by omega), show (8 * (z : Int) - 64).toNat = 8 * z - 64 by omega]
  exact ⟨rfl, rfl⟩
theorem fra_info : (Tryz.prog.info? 41).map (fun i => (i.zero, i.size)) = some (some (.agg (iCells z20)), 32) := by kernel_rfl
theorem fra_zero (w : World) : (zeroValue 41).run Tryz.prog w = .ok (.agg (iCells z20)) w := (zero_of_info fra_info).1 w
theorem fra_size (l : List Int) (h : l.length = 32) : (Tryz.prog.info? 41).map (·.size) = some (iCells l).size := by
  rw [iCells_size, h]; exact (zero_of_info fra_info).2
theorem fra_same (l m : List Int) (h : l.length = 32) (k : m.length = 32) : (iCells l).size = (iCells m).size := by
  rw [iCells_size, iCells_size, h, k]
theorem z20_len : z20.length = 32 := by unfold z20; rw [List.length_replicate]

theorem f32n_info : (Tryz.prog.info? 22).map (fun i => (i.zero, i.size)) = some (some (.agg (iCells z20)), 32) := by kernel_rfl
theorem f32n_size (l : List Int) (h : l.length = 32) : (Tryz.prog.info? 22).map (·.size) = some (iCells l).size := by
  rw [iCells_size, h]; exact (zero_of_info f32n_info).2
end Go.Proofs.YtalbcimnnihmnaaGreat
