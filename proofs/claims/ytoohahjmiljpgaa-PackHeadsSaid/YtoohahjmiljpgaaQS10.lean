/-
  Contracts and plain facts that the laws share; each piece is headed by what it holds and its conditions.
-/
import Derived.Test.YtoohahjmiljpgaaQS9
import Derived.Test.YtoohahjmiljpgaaQS3
import Derived.Test.YtoohahjmiljpgaaQS5

/- Sums of bytes, plain (as Cse, Csg, Csi have it, for seats without layer 15's laws; never imported beside them): whether a text is sealed, by its bits; a text with its sum behind it. No conditions but those that each fact names. -/
namespace Go.Proofs.Ytoohahjmiljpgaa
open Go.RowKit
open M
theorem bl_extract (s : ByteArray) (i j : Nat) : bl (s.extract i j) = ((bl s).drop i).take (j - i) := by
  unfold bl
  rw [ByteArray.data_extract, Array.toList_extract, List.extract_eq_take_drop]
theorem whole_text (s : ByteArray) (n : Nat) : s.extract 0 n ++ s.extract n s.size = s := by
  apply bl_inj
  have hl : (bl s).length = s.size := rfl
  rw [bl_append, bl_extract, bl_extract, List.drop_zero, List.take_of_length_le (i := s.size - n) (by simp [hl]), Nat.sub_zero, List.take_append_drop]
theorem ld_same (m : Nat) (a b : UInt8) (hm : m < 65536) : ofB [a, b] = ld15 m ↔ m = 256 * a.toNat + b.toNat := by
  have ha := a.toNat_lt
  have hb := b.toNat_lt
  unfold ld15
  constructor
  · intro h
    have h1 : [a, b] = [UInt8.ofNat (m / 256), UInt8.ofNat (m % 256)] := by
      have := congrArg bl h
      exact this
    injection h1 with h1 h2
    injection h2 with h2 _
    rw [h1, h2, UInt8.toNat_ofNat', UInt8.toNat_ofNat']
    omega
  · intro h
    have h1 : m / 256 = a.toNat := by omega
    have h2 : m % 256 = b.toNat := by omega
    rw [h1, h2, UInt8.ofNat_toNat, UInt8.ofNat_toNat]
theorem sm15_bd (r : Int) (l : List UInt8) : sm15 r l < 65536 := (crun _ _).isLt
theorem getD_ext8 (L M : List UInt8) (h : L.length = M.length) (k : ∀ j, j < L.length → L.getD j 0 = M.getD j 0) : L = M := by
  apply List.ext_getElem h
  intro j h1 h2
  have := k j h1
  rw [List.getD_eq_getElem?_getD, List.getD_eq_getElem?_getD, List.getElem?_eq_getElem h1, List.getElem?_eq_getElem h2] at this
  simpa using this
/-- A sum, as it is at first. -/
def r15 : BitVec 16 := BitVec.ofNat 16 ((65535 : Int) % 65536).toNat
theorem sm_r15 (l : List UInt8) : sm15 65535 l = (crun r15 (tbt l)).toNat := rfl
theorem ext_take (L : List UInt8) (n : Nat) : (ofB L).extract 0 n = ofB (L.take n) := by
  apply bl_inj
  rw [bl_extract, bl_ofB, bl_ofB, List.drop_zero, Nat.sub_zero]
theorem last_two (L : List UInt8) (n : Nat) (h : L.length = n + 2) : L = L.take n ++ [L.getD n 0, L.getD (n + 1) 0] := getD_ext8 _ _ (by simp [h]) fun j hj => by
  by_cases a : j < n
  · rw [gD_left _ _ _ _ (by simp; omega), gD_take _ _ _ _ a]
  · rw [gD_right _ _ _ _ (by simp; omega), show (L.take n).length = n by simp; omega]
    rcases (show j = n ∨ j = n + 1 by omega) with rfl | rfl
    · rw [Nat.sub_self]; rfl
    · rw [show n + 1 - n = 1 by omega]; rfl
theorem sealed_iff (L : List UInt8) (n : Nat) (h : L.length = n + 2) : (ofB L).extract n (ofB L).size = ld15 (sm15 65535 (bl ((ofB L).extract 0 n))) ↔ crun r15 (tbt L) = 0 := by
  have e := last_two L n h
  have hsz : (ofB L).size = n + 2 := by rw [ofB_size, h]
  have e2 : (ofB L).extract n (ofB L).size = ofB [L.getD n 0, L.getD (n + 1) 0] := by
    apply bl_inj
    rw [bl_extract, bl_ofB, bl_ofB, hsz]
    generalize L.getD n 0 = a at *
    generalize L.getD (n + 1) 0 = b at *
    have hl : (L.take n).length = n := by simp; omega
    rw [e, List.drop_append_of_le_length (by omega), List.drop_of_length_le (by omega), List.nil_append]
    exact List.take_of_length_le (by simp <;> omega)
  rw [e2, ext_take, bl_ofB, ld_same _ _ _ (sm15_bd _ _), sm_r15]
  generalize L.getD n 0 = a at *
  generalize L.getD (n + 1) 0 = b at *
  rw [e, List.take_append_of_le_length (by simp; omega), List.take_of_length_le (l := L.take n) (by simp; omega), tbt_app, crun_append]
  exact (open_two _ a b).symm
/-- Bytes with their sum behind them. -/
def sl15 (l : List UInt8) : List UInt8 := l ++ [UInt8.ofNat (sm15 65535 l / 256), UInt8.ofNat (sm15 65535 l % 256)]
theorem sl_len (l : List UInt8) : (sl15 l).length = l.length + 2 := by simp [sl15]
theorem sl_zero (l : List UInt8) : crun r15 (tbt (sl15 l)) = 0 := by
  unfold sl15
  rw [tbt_app, crun_append, sm_r15]
  exact sealed_two _
theorem sl_text (s : ByteArray) : s ++ ld15 (sm15 65535 (bl s)) = ofB (sl15 (bl s)) := bl_inj (by rw [bl_append, bl_ofB]; rfl)
theorem sl_take (l : List UInt8) : (sl15 l).take l.length = l := by simp [sl15]
end Go.Proofs.Ytoohahjmiljpgaa

/- Layer 19, plain: what a text is read as, and what tells that it can't be; that what is laid is read as it was, and what is read is what is laid of it; that a text with one byte changed isn't sealed. No conditions but those that each fact names. -/
namespace Go.Proofs.Ytoohahjmiljpgaa
open Go.RowKit
open M
/-- A shape's steps and its bands' numbers. -/
def sdN (l : List Int) : List Nat := (sds l).map Int.toNat
def ixN (l : List Int) : List Nat := (List.range 8).map fun b => ix13 (sys l b)
/-- A text without its sum; its fields. -/
def bd19 (s : ByteArray) : List UInt8 := (bl s).take (s.size - 2)
def fr19 (s : ByteArray) : Nat := (rdF (bd19 s) 0 hdW).getD 0 0
def sd19 (s : ByteArray) : List Nat := (rdF (bd19 s) 0 hdW).tail
def kp19 (s : ByteArray) : Nat → Nat := kpl (sd19 s) s.size
def ix19 (s : ByteArray) : List Nat := rdF (bd19 s) 48 (wds (sd19 s) s.size)
def lo19 (s : ByteArray) : Nat := (wds (sd19 s) s.size).sum
/-- Is it sealed? Are its fields such as are laid? -/
def so19 (s : ByteArray) : Bool := crun r15 (tbt (bl s)) == 0
def fo19 (s : ByteArray) : Bool := ((List.range 8).all fun b => decide ((ix19 s).getD b 0 < cn13 4 (kp19 s b))) && (readB (bd19 s) (48 + lo19 s) (8 * s.size - 64 - lo19 s) == List.replicate (8 * s.size - 64 - lo19 s) false)
/-- What it is read as: an error's number; a frame's number and a shape. -/
def e19 (s : ByteArray) : Int := if 12 ≤ s.size ∧ s.size ≤ 24 then if so19 s = true then if fo19 s = true then 0 else 3 else 4 else 1
def sh19 (s : ByteArray) : List Int := (List.range 40).map fun p => if p < 8 then ((sd19 s).getD p 0 : Int) else (vc13 4 (kp19 s ((p - 8) / 4)) ((ix19 s).getD ((p - 8) / 4) 0)).getD ((p - 8) % 4) 0
def pk0 : List Int := List.replicate 41 0
def p19 (s : ByteArray) : List Int := if e19 s = 0 then (fr19 s : Int) :: sh19 s else pk0
theorem e19_yes (s : ByteArray) (h : e19 s = 0) : (12 ≤ s.size ∧ s.size ≤ 24) ∧ so19 s = true ∧ fo19 s = true := by
  unfold e19 at h
  by_cases h1 : 12 ≤ s.size ∧ s.size ≤ 24
  · rw [if_pos h1] at h
    by_cases h2 : so19 s = true
    · rw [if_pos h2] at h
      by_cases h3 : fo19 s = true
      · exact ⟨h1, h2, h3⟩
      · rw [if_neg h3] at h; cases h
    · rw [if_neg h2] at h; cases h
  · rw [if_neg h1] at h; cases h
theorem hd_split (L : List Nat) (h : L.length = 9) : L = L.getD 0 0 :: L.tail := by
  cases L with
  | nil => cases h
  | cons a L => rfl
theorem rd_hd (s : ByteArray) : rdF (bd19 s) 0 hdW = fr19 s :: sd19 s := hd_split _ (rdF_len _ _ _)
theorem sd19_len (s : ByteArray) : (sd19 s).length = 8 := by
  unfold sd19
  rw [List.length_tail, rdF_len]
  rfl
theorem tail_getD (L : List Nat) (i : Nat) : L.tail.getD i 0 = L.getD (i + 1) 0 := by
  cases L with
  | nil => simp
  | cons a L => rfl
theorem sd19_lt (s : ByteArray) (i : Nat) (h : i < 8) : (sd19 s).getD i 0 < 16 := by
  unfold sd19
  rw [tail_getD]
  have h1 := rdF_lt (bd19 s) hdW 0 (i + 1) (by rw [show hdW.length = 9 from rfl]; omega)
  have h2 : hdW.getD (i + 1) 0 = 4 := by
    rcases (show i = 0 ∨ i = 1 ∨ i = 2 ∨ i = 3 ∨ i = 4 ∨ i = 5 ∨ i = 6 ∨ i = 7 by omega) with rfl | rfl | rfl | rfl | rfl | rfl | rfl | rfl <;> rfl
  rw [h2] at h1
  exact h1
theorem fr19_lt (s : ByteArray) : fr19 s < 65536 := rdF_lt (bd19 s) hdW 0 0 (by decide)
theorem ix19_len (s : ByteArray) : (ix19 s).length = 8 := by
  unfold ix19
  rw [rdF_len, wds_len]
theorem kp19_le (s : ByteArray) (b : Nat) (h : b < 8) : kp19 s b ≤ 12 := (giv_all _ _).1 b h
theorem sh19_len (s : ByteArray) : (sh19 s).length = 40 := by simp [sh19]
theorem fo_ix (s : ByteArray) (h : fo19 s = true) (b : Nat) (hb : b < 8) : (ix19 s).getD b 0 < cn13 4 (kp19 s b) := by
  unfold fo19 at h
  rw [Bool.and_eq_true, List.all_eq_true] at h
  exact of_decide_eq_true (h.1 b (List.mem_range.2 hb))
theorem fo_zero (s : ByteArray) (h : fo19 s = true) : readB (bd19 s) (48 + lo19 s) (8 * s.size - 64 - lo19 s) = List.replicate (8 * s.size - 64 - lo19 s) false := by
  unfold fo19 at h
  rw [Bool.and_eq_true, beq_iff_eq] at h
  exact h.2
theorem sh_sds (s : ByteArray) (p : Nat) (h : p < 8) : (sds (sh19 s)).getD p 0 = ((sd19 s).getD p 0 : Int) := by
  unfold sds
  rw [pto_getD _ _ _ _ h, Nat.zero_add]
  unfold sh19
  rw [tm_getD _ _ _ (by omega), if_pos h]
theorem sh_sys (s : ByteArray) (hf : fo19 s = true) (b : Nat) (hb : b < 8) : sys (sh19 s) b = vc13 4 (kp19 s b) ((ix19 s).getD b 0) := by
  have hl := (vc_all 4 (kp19 s b) _ (fo_ix s hf b hb)).1
  unfold sys pto
  refine (tm_ext _ 4 _ hl fun i hi => ?_).symm
  unfold sh19
  rw [tm_getD _ _ _ (by omega), if_neg (by omega), show (8 + b * 4 + i - 8) / 4 = b by omega, show (8 + b * 4 + i - 8) % 4 = i by omega]
theorem pl_each : ∀ (y : List Int) (j : Nat), (y.getD j 0).natAbs ≤ pl13 y
  | [], j => by simp
  | x :: r, 0 => by show x.natAbs ≤ x.natAbs + pl13 r; omega
  | x :: r, j + 1 => by
    have := pl_each r j
    show (r.getD j 0).natAbs ≤ x.natAbs + pl13 r
    omega
theorem kpl_gk (l : List Int) (z : Nat) (hr : rt17 (sds l) = true) : kpl (sdN l) z = gk19 l (8 * z - 64) := by
  have hb := (rt_iff _).1 hr
  have hlen : (sds l).length = 8 := pto_len _ _ _
  unfold kpl gk19
  congr 1
  funext b
  unfold sdN
  rcases Nat.lt_or_ge b 8 with h | h
  · have := hb b h
    rw [List.getD_eq_getElem?_getD, List.getElem?_map, List.getD_eq_getElem?_getD, List.getElem?_eq_getElem (by omega)]
    rw [List.getD_eq_getElem?_getD, List.getElem?_eq_getElem (by omega)] at this
    simp only [Option.map_some, Option.getD_some] at this ⊢
    omega
  · rw [List.getD_eq_getElem?_getD, List.getElem?_map, List.getD_eq_getElem?_getD, List.getElem?_eq_none (by omega)]
    rfl
theorem gk_le (l : List Int) (n b : Nat) (h : b < 8) : gk19 l n b ≤ 12 := (giv_all _ _).1 b h
/-- What a right shape is. -/
theorem rg_parts (l : List Int) (z : Nat) (h : rg19 l (z : Int) = true) : (12 ≤ z ∧ z ≤ 24) ∧ rt17 (sds l) = true ∧ ∀ b, b < 8 → pl13 (sys l b) = gk19 l (8 * z - 64) b := by
  unfold rg19 at h
  rw [Bool.and_eq_true, Bool.and_eq_true, decide_eq_true_eq, List.all_eq_true] at h
  obtain ⟨⟨h1, h2⟩, h3⟩ := h
  refine ⟨by omega, h2, fun b hb => ?_⟩
  have h4 := of_decide_eq_true (h3 b (List.mem_range.2 hb))
  rw [show (8 * (z : Int) - 64).toNat = 8 * z - 64 by omega] at h4
  have h5 := gk_le l (8 * z - 64) b hb
  have h6 : pu19 (sys l b) ≤ 12 := by omega
  unfold pu19 at h4 h6
  split at h4
  · rename_i hw
    rw [if_pos hw] at h6
    omega
  · rename_i hw
    rw [if_neg hw] at h6
    omega
theorem lb_all (fr : Nat) (l : List Int) : lb19 fr l 8 = layF (hdF fr (sdN l)) := by
  unfold sdN sds pto hdF
  simp only [List.range_succ, List.range_zero, List.nil_append, List.cons_append, List.map_cons, List.map_nil, Nat.zero_add]
  simp only [layF, lb19, List.append_assoc, List.append_nil]
theorem yb_all (fr : Nat) (l : List Int) : yb19 fr l 8 = lb19 fr l 8 ++ layF ((ixN l).zip ((List.range 8).map fun b => btc (pl13 (sys l b)))) := by
  unfold ixN
  simp only [List.range_succ, List.range_zero, List.nil_append, List.cons_append, List.map_cons, List.map_nil, List.zip_cons_cons, List.zip_nil_left, layF, yb19, List.append_assoc, List.append_nil]
theorem pb_pkb (fr z : Nat) (l : List Int) (h : rg19 l (z : Int) = true) : pb19 fr l z = pkb fr (sdN l) (ixN l) z := by
  obtain ⟨⟨h1, h2⟩, h3, h4⟩ := rg_parts l z h
  have hw : (List.range 8).map (fun b => btc (pl13 (sys l b))) = wds (sdN l) z := by
    unfold wds
    apply List.map_congr_left
    intro b hb
    rw [kpl_gk l z h3, h4 b (List.mem_range.1 hb)]
  have hsl : (sdN l).length = 8 := by unfold sdN; rw [List.length_map]; exact pto_len _ _ _
  have hil : (ixN l).length = (wds (sdN l) z).length := by rw [wds_len]; simp [ixN]
  have hy : yb19 fr l 8 = layF (hdF fr (sdN l)) ++ layF ((ixN l).zip (wds (sdN l) z)) := by rw [yb_all, lb_all, hw]
  have hlen : (yb19 fr l 8).length = 48 + (wds (sdN l) z).sum := by rw [hy, List.length_append, hd_len fr _ hsl, layF_len, zip_snd _ _ hil]
  have hz8 : 8 * z - 16 - (48 + (wds (sdN l) z).sum) = 8 * z - 64 - (wds (sdN l) z).sum := by omega
  unfold pb19
  rw [hlen, hz8, hy]
  rfl
theorem ix_fits : ∀ k, k ≤ 12 → cn13 4 k ≤ 2 ^ btc k := by decide +kernel
/-- A packet's text: its bytes, their sum behind them. -/
theorem ly_bl (fr z : Nat) (l : List Int) : bl (ly19 fr l z) = sl15 (pack (pb19 fr l z)) := by
  unfold ly19
  rw [bl_append, bl_ofB]
  rfl
theorem ly_size (fr z : Nat) (l : List Int) (h : rg19 l (z : Int) = true) : (ly19 fr l z).size = z := by
  have h1 : (bl (ly19 fr l z)).length = z := by
    rw [ly_bl, sl_len, pack_length, pb_pkb fr z l h]
    have hz := (rg_parts l z h).1
    rw [pkb_len fr _ _ z (by unfold sdN; rw [List.length_map]; exact pto_len _ _ _) (by simp [ixN]) hz.1]
    omega
  exact h1
theorem ly_body (fr z : Nat) (l : List Int) (h : rg19 l (z : Int) = true) : bd19 (ly19 fr l z) = pack (pkb fr (sdN l) (ixN l) z) := by
  have hz := (rg_parts l z h).1
  have hp : (pack (pkb fr (sdN l) (ixN l) z)).length = z - 2 := by
    rw [pack_length, pkb_len fr _ _ z (by unfold sdN; rw [List.length_map]; exact pto_len _ _ _) (by simp [ixN]) hz.1]
    omega
  unfold bd19
  rw [ly_size fr z l h, ly_bl, pb_pkb fr z l h, ← hp]
  exact sl_take _
theorem ly_sealed (fr z : Nat) (l : List Int) : so19 (ly19 fr l z) = true := by
  unfold so19
  rw [ly_bl, beq_iff_eq]
  exact sl_zero _
theorem ix_bits (l : List Int) (z : Nat) (h : rg19 l (z : Int) = true) (b : Nat) (hb : b < 8) : (ixN l).getD b 0 < cn13 4 (kpl (sdN l) z b) ∧ (ixN l).getD b 0 < 2 ^ btc (kpl (sdN l) z b) ∧ kpl (sdN l) z b = pl13 (sys l b) ∧ (ixN l).getD b 0 = ix13 (sys l b) := by
  obtain ⟨_, h3, h4⟩ := rg_parts l z h
  have e1 : (ixN l).getD b 0 = ix13 (sys l b) := by
    unfold ixN
    rw [List.getD_eq_getElem?_getD, List.getElem?_map, List.getElem?_range hb]
    rfl
  have e2 : kpl (sdN l) z b = pl13 (sys l b) := by rw [kpl_gk l z h3, h4 b hb]
  have hlen : (sys l b).length = 4 := pto_len _ _ _
  have h5 := ix_lt (sys l b)
  rw [hlen] at h5
  have h6 := gk_le l (8 * z - 64) b hb
  have h7 := ix_fits (pl13 (sys l b)) (by rw [h4 b hb]; exact h6)
  rw [e1, e2]
  exact ⟨h5, by omega, rfl, rfl⟩
theorem ly_fields (fr z : Nat) (l : List Int) (h : rg19 l (z : Int) = true) (hf : fr < 65536) :
    fr19 (ly19 fr l z) = fr ∧ sd19 (ly19 fr l z) = sdN l ∧ ix19 (ly19 fr l z) = ixN l ∧ fo19 (ly19 fr l z) = true := by
  obtain ⟨hz, h3, h4⟩ := rg_parts l z h
  have hb := (rt_iff _).1 h3
  have hsl : (sdN l).length = 8 := by unfold sdN; rw [List.length_map]; exact pto_len _ _ _
  have hil : (ixN l).length = 8 := by simp [ixN]
  obtain ⟨p1, p2, p3⟩ := pkb_back fr (sdN l) (ixN l) z hsl hil hf (fun x hx => by
    obtain ⟨i, hi, rfl⟩ := List.getElem_of_mem hx
    have h8 : i < 8 := by omega
    have h9 := hb i h8
    have h10 : (sds l).length = 8 := pto_len _ _ _
    rw [List.getD_eq_getElem?_getD, List.getElem?_eq_getElem (by omega)] at h9
    simp only [sdN, List.getElem_map, Option.getD_some] at h9 ⊢
    omega) (fun b hb => (ix_bits l z h b hb).2.1)
  have q1 : fr19 (ly19 fr l z) = fr := by unfold fr19; rw [ly_body fr z l h, p1]; rfl
  have q2 : sd19 (ly19 fr l z) = sdN l := by unfold sd19; rw [ly_body fr z l h, p1]; rfl
  have q3 : ix19 (ly19 fr l z) = ixN l := by unfold ix19; rw [ly_body fr z l h, q2, ly_size fr z l h, p2]
  refine ⟨q1, q2, q3, ?_⟩
  unfold fo19 lo19 kp19
  rw [q3, q2, ly_size fr z l h, ly_body fr z l h, p3, Bool.and_eq_true, beq_self_eq_true, List.all_eq_true]
  exact ⟨fun b hb => decide_eq_true (ix_bits l z h b (List.mem_range.1 hb)).1, rfl⟩
/-- What is laid is read as it was. -/
theorem ly_back (fr z : Nat) (l : List Int) (hl : l.length = 40) (h : rg19 l (z : Int) = true) (hf : fr < 65536) : e19 (ly19 fr l z) = 0 ∧ p19 (ly19 fr l z) = (fr : Int) :: l := by
  obtain ⟨hz, h3, h4⟩ := rg_parts l z h
  obtain ⟨q1, q2, q3, q4⟩ := ly_fields fr z l h hf
  have he : e19 (ly19 fr l z) = 0 := by
    unfold e19
    rw [ly_size fr z l h, if_pos hz, if_pos (ly_sealed fr z l), if_pos q4]
  refine ⟨he, ?_⟩
  unfold p19
  rw [if_pos he, q1]
  congr 1
  refine (tm_ext l 40 _ hl fun p hp => ?_).symm
  unfold kp19
  rw [q2, q3, ly_size fr z l h]
  by_cases h8 : p < 8
  · rw [if_pos h8]
    have hb := (rt_iff _).1 h3 p h8
    have h10 : (sds l).length = 8 := pto_len _ _ _
    have e : (sds l).getD p 0 = l.getD p 0 := by
      unfold sds
      rw [pto_getD _ _ _ _ h8, Nat.zero_add]
    rw [← e]
    unfold sdN
    rw [List.getD_eq_getElem?_getD (l := (sds l).map Int.toNat), List.getElem?_map]
    rw [List.getD_eq_getElem?_getD, List.getElem?_eq_getElem (by omega)] at hb ⊢
    simp only [Option.map_some, Option.getD_some] at hb ⊢
    omega
  · rw [if_neg h8]
    obtain ⟨b, i, hb, hi, rfl⟩ : ∃ b i, b < 8 ∧ i < 4 ∧ p = 8 + b * 4 + i := ⟨(p - 8) / 4, (p - 8) % 4, by omega, by omega, by omega⟩
    rw [show (8 + b * 4 + i - 8) / 4 = b by omega, show (8 + b * 4 + i - 8) % 4 = i by omega]
    obtain ⟨_, _, k3, k4⟩ := ix_bits l z h b hb
    have hlen : (sys l b).length = 4 := pto_len _ _ _
    have hv := vc_ix (sys l b)
    rw [hlen] at hv
    rw [k3, k4, hv]
    unfold sys
    rw [pto_getD _ _ _ _ hi]
/-- What is read is what is laid of it. -/
theorem ly_only (s : ByteArray) (h : e19 s = 0) : rg19 (sh19 s) (s.size : Int) = true ∧ ly19 (fr19 s) (sh19 s) s.size = s := by
  obtain ⟨hz, hs, hf⟩ := e19_yes s h
  have hrt : rt17 (sds (sh19 s)) = true := (rt_iff _).2 fun j hj => by
    rw [sh_sds s j hj]
    have := sd19_lt s j hj
    omega
  have hsd : sdN (sh19 s) = sd19 s := by
    apply List.ext_getElem
    · rw [sd19_len]; unfold sdN; rw [List.length_map]; exact pto_len _ _ _
    · intro i h1 h2
      have h8 : i < 8 := by rw [sd19_len] at h2; exact h2
      have := sh_sds s i h8
      rw [List.getD_eq_getElem?_getD, List.getD_eq_getElem?_getD, List.getElem?_eq_getElem (by rw [show (sds (sh19 s)).length = 8 from pto_len _ _ _]; exact h8), List.getElem?_eq_getElem h2] at this
      simp only [Option.getD_some] at this
      simp only [sdN, List.getElem_map]
      omega
  have hgk : ∀ b, b < 8 → gk19 (sh19 s) (8 * s.size - 64) b = kp19 s b := fun b _ => by
    have := congrFun (kpl_gk (sh19 s) s.size hrt) b
    rw [hsd] at this
    exact this.symm
  have hv := fun b (hb : b < 8) => vc_all 4 (kp19 s b) _ (fo_ix s hf b hb)
  have hpl : ∀ b, b < 8 → pl13 (sys (sh19 s) b) = kp19 s b := fun b hb => by rw [sh_sys s hf b hb]; exact (hv b hb).2.1
  have hrg : rg19 (sh19 s) (s.size : Int) = true := rg_yes _ _ (by omega) hrt fun b hb => by
    rw [show (8 * (s.size : Int) - 64).toNat = 8 * s.size - 64 by omega, hgk b hb, pu_pl _ (by rw [hpl b hb]; exact kp19_le s b hb), hpl b hb]
  refine ⟨hrg, ?_⟩
  have hix : ixN (sh19 s) = ix19 s := by
    apply List.ext_getElem
    · rw [ix19_len]; simp [ixN]
    · intro b h1 h2
      have h8 : b < 8 := by rw [ix19_len] at h2; exact h2
      have e := (hv b h8).2.2
      rw [List.getD_eq_getElem?_getD, List.getElem?_eq_getElem h2] at e
      simp only [ixN, List.getElem_map, List.getElem_range]
      rw [sh_sys s hf b h8, List.getD_eq_getElem?_getD, List.getElem?_eq_getElem h2]
      exact e
  have hbl : (bl s).length = s.size := rfl
  have hbd : (bd19 s).length = s.size - 2 := by unfold bd19; rw [List.length_take]; omega
  have hpk := pkb_only (bd19 s) s.size (fr19 s) (sd19 s) hz.1 hbd (rd_hd s) (fo_zero s hf)
  apply bl_inj
  rw [ly_bl, pb_pkb _ _ _ hrg, hsd, hix]
  unfold ix19
  rw [hpk]
  have hsz : (bl s).length = (s.size - 2) + 2 := by omega
  have hso : crun r15 (tbt (bl s)) = 0 := by unfold so19 at hs; exact beq_iff_eq.1 hs
  have hsi := (sealed_iff (bl s) (s.size - 2) hsz).2 hso
  have e2 := last_two (bl s) (s.size - 2) hsz
  have e3 := congrArg bl hsi
  rw [bl_extract, ofB_bl, bl_extract, List.drop_zero] at e3
  unfold sl15 bd19
  have e4 : (bl s).drop (s.size - 2) = [UInt8.ofNat (sm15 65535 ((bl s).take (s.size - 2)) / 256), UInt8.ofNat (sm15 65535 ((bl s).take (s.size - 2)) % 256)] := by
    rw [List.take_of_length_le (by rw [List.length_drop]; omega), Nat.sub_zero] at e3
    exact e3
  rw [← e4, List.take_append_drop]
/-- A byte changed: it isn't sealed. -/
theorem spoilt19 (L : List UInt8) (i : Nat) (m : UInt8) (hi : i < L.length) (hm : m ≠ 0) (h : crun r15 (tbt L) = 0) : ¬ crun r15 (tbt (L.set i (L.getD i 0 ^^^ m))) = 0 := by
  intro h2
  have hl : (tbt L).length = (tbt (L.set i (L.getD i 0 ^^^ m))).length := by rw [tbt_len, tbt_len, List.length_set]
  have e := burst_same r15 (tbt L) (tbt (L.set i (L.getD i 0 ^^^ m))) (8 * i) hl (fun j hj hjj => by
    rw [tbt_len] at hj
    rw [tbt_at _ _ hj, tbt_at _ _ (by rw [List.length_set]; exact hj)]
    unfold bt15
    rw [gD_set _ _ _ _ _ hi, if_neg (by omega)]) h h2
  apply hm
  have hb : ∀ k, k < 8 → (L.getD i 0).toNat.testBit (7 - k) = (L.getD i 0 ^^^ m).toNat.testBit (7 - k) := fun k hk => by
    have e1 := congrArg (fun l => l.getD (8 * i + k) false) e
    rw [tbt_at _ _ (by omega), tbt_at _ _ (by rw [List.length_set]; omega), bt_test, bt_test, gD_set _ _ _ _ _ hi, show (8 * i + k) / 8 = i by omega, show (8 * i + k) % 8 = k by omega, if_pos rfl] at e1
    exact e1
  have hx : L.getD i 0 = L.getD i 0 ^^^ m := by
    apply UInt8.toNat_inj.1
    apply Nat.eq_of_testBit_eq
    intro j
    rcases Nat.lt_or_ge j 8 with h8 | h8
    · have := hb (7 - j) (by omega)
      rwa [show 7 - (7 - j) = j by omega] at this
    · rw [Nat.testBit_lt_two_pow (Nat.lt_of_lt_of_le (UInt8.toNat_lt _) (Nat.pow_le_pow_right (by decide) h8)), Nat.testBit_lt_two_pow (Nat.lt_of_lt_of_le (UInt8.toNat_lt _) (Nat.pow_le_pow_right (by decide) h8))]
  generalize L.getD i 0 = a at hx
  have : a ^^^ a = a ^^^ (a ^^^ m) := by rw [← hx]
  rw [← UInt8.xor_assoc, UInt8.xor_self, UInt8.zero_xor] at this
  exact this.symm
end Go.Proofs.Ytoohahjmiljpgaa

/- Layer 19: what pack's Lay, Read and Right are to answer, as conditions. No conditions but those that each fact names. -/
namespace Go.Proofs.Ytoohahjmiljpgaa
open Go.RowKit
open M
/-- What Lay answers: an error's number, a text. -/
def laE (fr : Int) (l : List Int) (z : Int) : Int := if 12 ≤ z ∧ z ≤ 24 then if 0 ≤ fr ∧ fr ≤ 65535 then if rg19 l z = true then 0 else 3 else 7 else 1
def laT (fr : Int) (l : List Int) (z : Int) : ByteArray := if laE fr l z = 0 then ly19 fr.toNat l z.toNat else ByteArray.empty
def LayOk : Prop := ∀ (fr : Int) (l : List Int) (z : Int) (w : World), l.length = 40 → Calls Try.prog 10 #[.agg (iCells (fr :: l)), .int .i64 z] w fun e w' => e = .returned (.tuple #[.string (laT fr l z), .int .i64 (laE fr l z)]) ∧ Below w.heap.size w w'
def RedOk : Prop := ∀ (s : ByteArray) (w : World), s.size ≤ 200 → Calls Try.prog 11 #[.string s] w fun e w' => e = .returned (.tuple #[.agg (iCells (p19 s)), .int .i64 (e19 s)]) ∧ Below w.heap.size w w'
theorem laE_in (fr z : Nat) (l : List Int) (hz : 12 ≤ z ∧ z ≤ 24) (hf : fr ≤ 65535) (h : rg19 l (z : Int) = true) : laE fr l z = 0 ∧ laT fr l z = ly19 fr l z := by
  have e : laE fr l z = 0 := by
    unfold laE
    rw [if_pos (by omega), if_pos (by omega), if_pos h]
  refine ⟨e, ?_⟩
  unfold laT
  rw [if_pos e, Int.toNat_natCast, Int.toNat_natCast]
end Go.Proofs.Ytoohahjmiljpgaa

/- A number's lowest four bits; a list with one number put anew. No program is named here. No conditions but those that each fact names. -/
namespace Go.Proofs.Ytoohahjmiljpgaa
open Go.RowKit
open M
theorem and15 (p : Int) : bits .and .i64 p 15 = p % 16 := by
  have h1 : ((BitVec.ofInt 64 p).toNat : Int) = p % 18446744073709551616 := by
    rw [BitVec.toNat_ofInt]
    have := Int.emod_nonneg p (show (18446744073709551616 : Int) ≠ 0 by decide)
    show ((p % 18446744073709551616).toNat : Int) = _
    omega
  have h2 : (BitVec.ofInt 64 p &&& BitVec.ofInt 64 15).toNat = (BitVec.ofInt 64 p).toNat % 16 := by
    rw [BitVec.toNat_and]
    exact Nat.and_two_pow_sub_one_eq_mod _ 4
  show IntKind.i64.wrap ((BitVec.ofInt 64 p &&& BitVec.ofInt 64 15).toNat : Int) = _
  rw [h2, IntKind.wrap_i64]
  omega
theorem set_getD13 (l : List Int) (i p : Nat) (v : Int) (h : i < l.length) : (l.set i v).getD p 0 = if p = i then v else l.getD p 0 := by
  rw [List.getD_eq_getElem?_getD, List.getElem?_set]
  by_cases e : i = p
  · subst e
    rw [if_pos rfl, if_pos h, if_pos rfl]
    rfl
  · rw [if_neg e, if_neg (fun h => e h.symm), List.getD_eq_getElem?_getD]
end Go.Proofs.Ytoohahjmiljpgaa
