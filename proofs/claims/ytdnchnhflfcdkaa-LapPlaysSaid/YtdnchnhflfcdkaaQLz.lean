/-
  The reference's Frames of layer 11. Conditions: up to 4096 samples, as they lie, from -2^20 to 2^20.
-/
import Derived.Test.YtdnchnhflfcdkaaQLy
import Derived.Test.YtdnchnhflfcdkaaQDw
namespace Go.Proofs.Ytdnchnhflfcdkaa.M
/-- How many zeros fill the last block. -/
def fil (L : Nat) : Nat := 32 * ((L + 31) / 32) - L
theorem fil_lt (L : Nat) : fil L < 32 := by unfold fil; omega
theorem fil_more (L k : Nat) (h : k < fil L) : (L + k) % 32 ≠ 0 := by unfold fil at h; omega
theorem fil_full (L : Nat) : (L + fil L) % 32 = 0 := by unfold fil; omega
theorem fil_cnt (L : Nat) : L + (fil L + 32) = 32 * cnt L := by unfold fil cnt; omega
theorem padd_app (l : List Int) : l ++ List.replicate (fil l.length + 32) 0 = padd l := by
  refine tb_ext 0 _ _ _ (by rw [List.length_append, List.length_replicate]; exact fil_cnt _) fun p hp => ?_
  rw [List.getD_eq_getElem?_getD, List.getElem?_append]
  by_cases h : p < l.length
  · rw [if_pos h, ← List.getD_eq_getElem?_getD]
  · rw [if_neg h, List.getElem?_replicate, List.getD_eq_getElem?_getD, List.getElem?_eq_none (l := l) (by omega)]
    split <;> rfl
theorem rep_more (l : List Int) (k : Nat) : l ++ List.replicate k 0 ++ [0] = l ++ List.replicate (k + 1) 0 := by
  rw [List.append_assoc, ← List.replicate_succ']
theorem rep_len (l : List Int) (k : Nat) : (l ++ List.replicate k 0).length = l.length + k := by simp
theorem jnb_snoc (l : List (List Int)) (f : List Int) (hf : f.length = 32) : jnb (l ++ [f]) = jnb l ++ f := by
  refine Eq.symm (tb_ext 0 _ _ _ (by rw [List.length_append, jnb_len, List.length_append, hf, List.length_singleton]; omega) fun p hp => ?_)
  rw [List.length_append, List.length_singleton] at hp
  rw [List.getD_eq_getElem?_getD, List.getElem?_append]
  by_cases h : p < 32 * l.length
  · rw [if_pos (by rw [jnb_len]; exact h), ← List.getD_eq_getElem?_getD, jnb_getD _ _ h, List.getD_eq_getElem?_getD (l := l ++ [f]), List.getElem?_append_left (by omega), ← List.getD_eq_getElem?_getD]
  · rw [if_neg (by rw [jnb_len]; exact h), jnb_len, ← List.getD_eq_getElem?_getD, List.getD_eq_getElem?_getD (l := l ++ [f]), List.getElem?_append_right (by omega), show p / 32 - l.length = 0 by omega]
    show f.getD (p - 32 * l.length) 0 = f.getD (p % 32) 0
    rw [show p - 32 * l.length = p % 32 by omega]
/-- The first waves. -/
def fwv (S : List Int) (b : Nat) : List (List Int) := (List.range b).map fun i => wav (blk S i)
theorem fwv_len (S : List Int) (b : Nat) : (fwv S b).length = b := tb_len _ _
theorem fwv_more (S : List Int) (b : Nat) : jnb (fwv S b) ++ wav (blk S b) = jnb (fwv S (b + 1)) := by
  rw [← jnb_snoc _ _ (wav_len _)]
  unfold fwv
  rw [List.range_succ, List.map_append, List.map_singleton]
/-- The first numbers of a block. -/
def pbl (S : List Int) (b i : Nat) : List Int := (List.range 32).map fun j => if j < i then S.getD (32 * b + j) 0 else 0
theorem pbl_len (S : List Int) (b i : Nat) : (pbl S b i).length = 32 := tb_len _ _
theorem pbl_full (S : List Int) (b : Nat) : pbl S b 32 = blk S b := tb_congr _ _ _ fun _ hj => if_pos hj
theorem pbl_more (S : List Int) (b i : Nat) (h : i < 32) : (pbl S b i).set i (S.getD (32 * b + i) 0) = pbl S b (i + 1) := by
  refine tb_ext 0 _ _ _ (by rw [List.length_set, pbl_len]) fun j hj => ?_
  rw [set_getD _ _ _ _ _ (by rw [pbl_len]; exact h)]
  by_cases e : i = j
  · subst e
    rw [if_pos rfl, if_pos (by omega)]
  · rw [if_neg e]
    unfold pbl
    rw [tb_getD _ _ _ _ hj]
    by_cases h1 : j < i
    · rw [if_pos h1, if_pos (by omega)]
    · rw [if_neg h1, if_neg (by omega)]
end Go.Proofs.Ytdnchnhflfcdkaa.M
namespace Go.Proofs.Ytdnchnhflfcdkaa
open Go.RowKit
open M
theorem pbl_zero (S : List Int) (b : Nat) : pbl S b 0 = f0 := by
  unfold f0
  refine Eq.symm (tb_ext 0 _ _ _ (by rw [List.length_replicate]) fun j _ => ?_)
  rw [if_neg (by omega), List.getD_eq_getElem?_getD, List.getElem?_replicate]
  split <;> rfl
/-- How long a slice is. -/
def slen : Value → Nat
  | .slice _ n _ => n
  | _ => 0
set_option maxRecDepth 100000 in
set_option maxHeartbeats 4000000 in
theorem rframes_in (l : List Int) (v : Value) (w : World) (hv : IntsAt w v l) (hl : l.length ≤ 4096) (ho : ∀ x ∈ l, -1048576 ≤ x ∧ x ≤ 1048576) :
    Calls Try.prog 17 #[v] w fun e w' => (∃ g cap, e = .returned (.slice (some ⟨g, 0, none⟩) (cnt l.length) cap) ∧ FrAt w' g (jnb (frm l))) ∧ Below w.heap.size w w' := by
  have HOW : Hid ((w.alloc (.cells #[] 3)).ownsRow w.heap.size 3 1 (.slice (some ⟨w.heap.size, 0, none⟩) 0 0) ([] : List Int).length (iV [])) := Lib.hid (World.ownsRow_lit w #[] 0 (Nat.le_refl _) (by decide) rfl)
  have HBA : Hid (Below w.heap.size w (w.alloc (.cells #[] 3))) := Lib.hid ((Below.refl _ _).alloc (Nat.le_refl _) _)
  have HV := Lib.hid (hv.below HBA.out)
  have HB0 := Lib.hid (padd_bd l ho)
  have HH := Lib.hid (sea_hld l ho)
  obtain ⟨ad, capl, rfl, _⟩ := hv
  clear ho
  have HLB := Lib.hid hl
  obtain ⟨B, hB⟩ : ∃ B, w.heap.size = B := ⟨_, rfl⟩
  go_enter Try.func17, Try.ntmps17
  rw [hB] at HOW HBA ⊢
  go_wp2_with (at_builtin; refine wpList_append_ints rfl (.tmp 13) (.tmp 14) rfl B _ _ [] l rfl HOW.out rfl HV.out (by have := HLB.out; show 0 + _ ≤ _; omega) (by simp [hB]) ?_; intro v1 w1 hown1 hb1)
  obtain ⟨L, hL⟩ : ∃ L, l.length = L := ⟨_, rfl⟩
  have HLL := Lib.hid fun _ : Unit => hL
  have HO1 : Hid (w1.ownsRow B 3 1 v1 (l ++ List.replicate 0 0).length (iV (l ++ List.replicate 0 0))) := Lib.hid (by rw [List.replicate_zero, List.append_nil]; rw [List.nil_append] at hown1; exact hown1)
  have HB1 := Lib.hid (HBA.out.trans hb1)
  have HBB := Lib.hid fun _ : Unit => hB
  rw [hL] at HH hl ⊢
  clear hown1 hb1 HOW HBA HV HLB hB hL
  go_loopw [3] (fun v wr => ∃ k, k ≤ fil L ∧ wr.ownsRow B 3 1 v (l ++ List.replicate k 0).length (iV (l ++ List.replicate k 0)) ∧ Below B w wr) (fun v _ => fil L + L - slen v)
  case atStart => exact ⟨0, Nat.zero_le _, HO1.out, HB1.out⟩
  case round =>
    clear HO1 HB1
    obtain ⟨k, hk, hown, hb⟩ := hrel
    have HO := Lib.hid hown
    have HB := Lib.hid hb
    obtain ⟨a, cap, hv⟩ := (own_src hown).shape
    rw [rep_len, HLL.out ()] at hv
    clear hown hb
    subst hv
    rcases Nat.lt_or_ge k (fil L) with hlt | hge
    · have hm := fil_more L k hlt
      have HK := Lib.hid hlt
      obtain ⟨n, hn⟩ : ∃ n, L + k = n := ⟨_, rfl⟩
      have HN := Lib.hid fun _ : Unit => hn
      rw [hn] at HO hm ⊢
      have hmI : (((n : Int) % 32) != 0) = true := by rw [bne_iff_ne]; omega
      have HLN : Hid ((l ++ List.replicate k 0).length = n) := Lib.hid (by rw [rep_len, HLL.out (), hn])
      have HBS : Hid (B ≤ wr.heap.size) := Lib.hid (by have := HB.out.size; have := HBB.out (); omega)
      have hkb := fil_lt L
      have HNB : Hid (n ≤ 4200) := Lib.hid (by omega)
      clear hn hk hlt hm hkb
      go_wp2_with (at_builtin; refine wpList_append_src rfl (.tmp 20) (.tmp 21) rfl B _ _ (l ++ List.replicate k 0) [0] rfl (by rw [HLN.out]; have := HO.out.alloc (.cells #[Value.int IntKind.i64 0] 3); rw [HLN.out] at this; exact this) rfl (src_one wr _ rfl 0) (by rw [HLN.out]; have := HNB.out; show _ + 1 ≤ _; omega) (by have := HBS.out; simp; omega) ?_; intro v2 w2 hown2 hb2)
      have HO2 : Hid (w2.ownsRow B 3 1 v2 (l ++ List.replicate (k + 1) 0).length (iV (l ++ List.replicate (k + 1) 0))) := Lib.hid (by rw [← rep_more]; exact hown2)
      have HB2 := Lib.hid ((HB.out.alloc HBS.out (.cells #[Value.int IntKind.i64 0] 3)).trans hb2)
      have hsl : slen v2 = n + 1 := by
        obtain ⟨_, _, rfl⟩ := (own_src hown2).shape
        show _ = n + 1
        rw [List.length_append, HLN.out]
        rfl
      clear hown2 hb2 HO HB hmI
      go_roundw
      case rel => exact ⟨k + 1, HK.out, HO2.out, HB2.out⟩
      case measure =>
        have h1 := HK.out
        have h2 := HN.out ()
        rw [hsl]
        show _ - _ < _ - n
        omega
    · obtain rfl : k = fil L := by omega
      have hm := fil_full L
      have HN : Hid (∀ _ : Unit, L + fil L = L + fil L) := Lib.hid fun _ => rfl
      obtain ⟨n, hn⟩ : ∃ n, L + fil L = n := ⟨_, rfl⟩
      have HLN : Hid ((l ++ List.replicate (fil L) 0).length = n) := Lib.hid (by rw [rep_len, HLL.out (), hn])
      have HNN := Lib.hid fun _ : Unit => hn
      rw [hn] at HO hm ⊢
      have hmI : (((n : Int) % 32) != 0) = false := by rw [bne_eq_false_iff_eq]; omega
      clear hm hn hk hge HN
      go_wp2_with fail
      generalize Value.bool false = b19
      go_loopw [3, 4] (fun v ii wr => ∃ j : Nat, j ≤ 32 ∧ ii = .int .i64 j ∧ wr.ownsRow B 3 1 v (l ++ List.replicate (fil L + j) 0).length (iV (l ++ List.replicate (fil L + j) 0)) ∧ Below B w wr) (fun _ ii _ => 32 - (intOf ii).toNat)
      case atStart => exact ⟨0, Nat.zero_le _, rfl, by rw [Nat.add_zero, HLN.out]; have := HO.out; rw [HLN.out] at this; exact this, HB.out⟩
      case round =>
        clear HO HB hmI HLN
        obtain ⟨j, hj, rfl, hown, hb⟩ := hrel
        have HO := Lib.hid hown
        have HB := Lib.hid hb
        obtain ⟨a, cap, hv⟩ := (own_src hown).shape
        rw [rep_len, HLL.out ()] at hv
        clear hown hb
        subst hv
        rcases Nat.lt_or_ge j 32 with hlt | hge
        · have HK := Lib.hid hlt
          have hjI : (j : Int) < 32 := by omega
          have hkb := fil_lt L
          obtain ⟨q, hq⟩ : ∃ q, fil L + j = q := ⟨_, rfl⟩
          have hq1 : fil L + (j + 1) = q + 1 := by omega
          have HQ := Lib.hid fun _ : Unit => hq1
          have HLN : Hid ((l ++ List.replicate q 0).length = L + q) := Lib.hid (by rw [rep_len, HLL.out ()])
          rw [hq] at HO ⊢
          have HNB : Hid (L + q ≤ 4200) := Lib.hid (by omega)
          have HBS : Hid (B ≤ wr.heap.size) := Lib.hid (by have := HB.out.size; have := HBB.out (); omega)
          obtain ⟨n, hn⟩ : ∃ n, L + q = n := ⟨_, rfl⟩
          rw [hn] at HLN HNB HO ⊢
          clear hn hj hlt hq hq1 hkb
          go_wp2_with (at_builtin; refine wpList_append_src rfl (.tmp 27) (.tmp 28) rfl B _ _ (l ++ List.replicate q 0) [0] rfl (by rw [HLN.out]; have := HO.out.alloc (.cells #[Value.int IntKind.i64 0] 3); rw [HLN.out] at this; exact this) rfl (src_one wr _ rfl 0) (by rw [HLN.out]; have := HNB.out; show _ + 1 ≤ _; omega) (by have := HBS.out; simp; omega) ?_; intro v2 w2 hown2 hb2)
          have HO2 : Hid (w2.ownsRow B 3 1 v2 (l ++ List.replicate (q + 1) 0).length (iV (l ++ List.replicate (q + 1) 0))) := Lib.hid (by rw [← rep_more]; exact hown2)
          have HB2 := Lib.hid ((HB.out.alloc HBS.out (.cells #[Value.int IntKind.i64 0] 3)).trans hb2)
          clear hown2 hb2 HO HB
          go_wp2_with fail
          go_roundw
          case rel => exact ⟨j + 1, HK.out, by go_num, by rw [HQ.out ()]; exact HO2.out, HB2.out⟩
          case measure =>
            have := HK.out
            simp only [intOf]
            omega
        · obtain rfl : j = 32 := by omega
          have hpa := padd_app l
          rw [HLL.out ()] at hpa
          have hcn := fil_cnt L
          have hown := HO.out
          rw [hpa, padd_len, HLL.out ()] at hown
          have hpl := padd_len l
          rw [HLL.out ()] at hpl
          have HPL := Lib.hid hpl
          clear hpa hpl HO hj hge
          have hsg : 0 < (padd l).length := by rw [HPL.out]; unfold cnt; omega
          obtain ⟨g, cap', hv, hBg, hlt⟩ := own_intform (by rw [HPL.out]; exact hown) hsg
          rw [HPL.out, hcn] at hv
          injection hv with hv1 hv2 hv3
          subst hv1 hv3
          clear hv2
          obtain ⟨P, hP⟩ : ∃ P, padd l = P := ⟨_, rfl⟩
          have hsea : sms lft allT (cnt L) P = sea l := by rw [← hP]; unfold sea; rw [HLL.out ()]
          have HFW : Hid (jnb (fwv (sea l) (cnt L)) = jnb (frm l)) := Lib.hid (by unfold fwv frm sea; rw [HLL.out ()])
          have hcb : 1 ≤ cnt L ∧ cnt L ≤ 130 := by unfold cnt; omega
          rw [hP] at HB0 hown HPL hsg
          obtain ⟨S, hS⟩ : ∃ S, sea l = S := ⟨_, rfl⟩
          have hsl : S.length = 32 * cnt L := by rw [← hS, sea_len, HLL.out ()]
          rw [hS] at hsea HFW HH
          rw [hcn] at hown ⊢
          have HCN : Hid (∀ _ : Unit, cnt l.length = cnt L) := Lib.hid fun _ => by rw [HLL.out ()]
          obtain ⟨n, hn⟩ : ∃ n, cnt L = n := ⟨_, rfl⟩
          rw [hn] at hsea hcb hown HPL HFW HH hsl HCN ⊢
          have HSEA := Lib.hid hsea
          have HSL := Lib.hid hsl
          have HCB := Lib.hid hcb
          have HO := Lib.hid hown
          have HBG := Lib.hid hBg
          obtain ⟨N, hN⟩ : ∃ N, 32 * n = N := ⟨_, rfl⟩
          have HNN := Lib.hid fun _ : Unit => hN
          rw [hN] at HO HPL HSL ⊢
          have hNI : (N : Int) - 32 = ((32 * (n - 1) : Nat) : Int) := by omega
          have hNb : (N : Int) ≤ 5000 := by omega
          have hN32 : (32 : Int) ≤ (N : Int) := by omega
          clear hsea hsl hcb hown hBg hP hS hn hN hcn hsg hlt
          rw [show ((32 : Nat) : Int) = 32 from rfl]
          go_wp2_with fail
          clear hNI
          go_loopw [5] (fun ss wr => ∃ s : Nat, s ≤ n - 1 ∧ ss = .int .i64 (32 * (s : Int)) ∧ wr.ownsRow B 3 1 (.slice (some ⟨g, 0, none⟩) N cap) N (iV (sms lft (dbk s 0) n P)) ∧ Below B w wr) (fun ss _ => (intOf ss).toNat)
          case atStart => exact ⟨n - 1, Nat.le_refl _, rfl, by rw [dbk_first _ _ _ (by rw [HPL.out]; exact (HNN.out ()).symm)]; exact HO.out, HB.out⟩
          case round =>
            clear HO HB
            obtain ⟨s, hs, rfl, hown, hb⟩ := hrel
            have HO := Lib.hid hown
            have HB := Lib.hid hb
            clear hown hb
            have hnb := HCB.out
            rcases Nat.lt_or_ge 0 s with h0 | h0
            · have hs2 : s < n := by omega
              have hNX := dbk_next lft n P s h0
              have hs1 : 32 * (s : Int) - 32 = 32 * ((s - 1 : Nat) : Int) := by omega
              have HS1 : Hid (s - 1 ≤ n - 1) := Lib.hid (by omega)
              have HMS : Hid ((s - 1 : Nat) < s) := Lib.hid (by omega)
              have HNX := Lib.hid hNX
              have HSS := Lib.hid (And.intro h0 hs2)
              have hsb1 : (32 : Int) ≤ 32 * (s : Int) := by omega
              have hsb2 : 32 * (s : Int) ≤ 5000 := by omega
              clear hNX hs hnb h0 hs2
              go_wp2_with fail
              try generalize Value.bool (decide ((32 : Int) ≤ 32 * (s : Int))) = b34
              try generalize Value.bool true = b34
              go_loopw [6] (fun ii wr => ∃ i : Nat, i ≤ 16 ∧ ii = .int .i64 i ∧ wr.ownsRow B 3 1 (.slice (some ⟨g, 0, none⟩) N cap) N (iV (sms lft (dbk s i) n P)) ∧ Below B w wr) (fun ii _ => 16 - (intOf ii).toNat)
              case atStart => exact ⟨0, Nat.zero_le _, rfl, HO.out, HB.out⟩
              case round =>
                clear HO HB
                obtain ⟨i, hi, rfl, hown, hb⟩ := hrel
                have HO := Lib.hid hown
                have HB := Lib.hid hb
                clear hown hb
                rcases Nat.lt_or_ge i 16 with hlt | hge
                · have hst := dbk_step lft n P s i HSS.out.1 HSS.out.2 hlt
                  have hlo := dbk_lo lft n P s i HSS.out.1 HSS.out.2 hlt
                  have hhi := dbk_hi lft n P s i HSS.out.1 HSS.out.2 hlt
                  have hxl : (sms lft (dbk s i) n P).length = N := (sms_len ..).trans (HNN.out ())
                  have hNN := HNN.out ()
                  have hsn := HSS.out
                  have hp : 32 * (s : Int) - 1 - (i : Int) = ((32 * s - 1 - i : Nat) : Int) := by omega
                  have hq : 32 * (s : Int) + (i : Int) = ((32 * s + i : Nat) : Int) := by omega
                  have hpl : 32 * s - 1 - i < N := by omega
                  have hql : 32 * s + i < N := by omega
                  obtain ⟨p, hpp⟩ : ∃ p, 32 * s - 1 - i = p := ⟨_, rfl⟩
                  obtain ⟨q, hqq⟩ : ∃ q, 32 * s + i = q := ⟨_, rfl⟩
                  rw [hpp] at hst hlo hp hpl
                  rw [hqq] at hst hhi hq hql
                  have ba := HB0.out p
                  have bb := HB0.out q
                  obtain ⟨a0, ha⟩ : ∃ a, P.getD p 0 = a := ⟨_, rfl⟩
                  obtain ⟨c0, hc⟩ : ∃ c, P.getD q 0 = c := ⟨_, rfl⟩
                  rw [ha] at hst hlo ba
                  rw [hc] at hst hhi bb
                  have hT := fun W => turn9_ref (a0, c0) (62 - 4 * (i : Int)) W ⟨by show -1099511627776 ≤ a0; omega, by show a0 ≤ 1099511627776; omega, by show -1099511627776 ≤ c0; omega, by show c0 ≤ 1099511627776; omega⟩ (by omega) (by omega)
                  obtain ⟨z, hz⟩ : ∃ z, lft (a0, c0) (62 - 4 * (i : Int)) = z := ⟨_, rfl⟩
                  simp only [hz] at hT
                  rw [hz] at hst
                  obtain ⟨x, y⟩ := z
                  dsimp only at hT hst
                  have HT := Lib.hid hT
                  have HST := Lib.hid hst
                  clear hz hT hst ha hc ba bb hsn hNN hpp hqq
                  obtain ⟨X, hX⟩ : ∃ X, sms lft (dbk s i) n P = X := ⟨_, rfl⟩
                  rw [hX] at HO HST hlo hhi hxl
                  have HLO := Lib.hid hlo
                  have HHI := Lib.hid hhi
                  have HXL := Lib.hid hxl
                  have HPQ := Lib.hid (And.intro hpl hql)
                  have e1 := own_intat HO.out p (by rw [HXL.out]; exact hpl) HXL.out
                  have e2 := own_intat HO.out q (by rw [HXL.out]; exact hql) HXL.out
                  rw [hlo] at e1
                  rw [hhi] at e2
                  have hiI : (i : Int) < 16 := by omega
                  have hpI : (p : Int) < (N : Int) := by omega
                  have hqI : (q : Int) < (N : Int) := by omega
                  have HK := Lib.hid hlt
                  have hr1 : IntKind.i64.wrap (4 * (i : Int)) = 4 * (i : Int) := by rw [IntKind.wrap_i64]; omega
                  have hr2 : IntKind.i64.wrap (62 - 4 * (i : Int)) = 62 - 4 * (i : Int) := by rw [IntKind.wrap_i64]; omega
                  clear hX hlo hhi hxl hi hlt hpl hql
                  go_wp2_with fail
                  go_quiet ((go_at_call 27; exact Calls.quiet_of_same ((HT.out _).mono fun _ _ h => ⟨h.1, h.2.symm⟩)))
                  have HO2 := Lib.hid (own_stay HO.out (Below.drewN (Below.refl _ _) nq))
                  have HB2 := Lib.hid (Below.drewN HB.out nq)
                  clear HO HB e1 e2 HT
                  generalize wr.drewN nq = w5 at *
                  have e1 := own_intat HO2.out p (by rw [HXL.out]; exact HPQ.out.1) HXL.out
                  have e2 := own_intat HO2.out q (by rw [HXL.out]; exact HPQ.out.2) HXL.out
                  have fz := fun j => HO2.out.frozenAt j
                  go_wp2_with fail
                  go_roundw
                  case rel =>
                    refine ⟨i + 1, HK.out, by go_num, ?_, (HB2.out.setCell (p := ⟨g, p, none⟩) HBG.out _).setCell (p := ⟨g, q, none⟩) HBG.out _⟩
                    rw [← HST.out]
                    exact own_intset (own_intset HO2.out p x) q y
                  case measure =>
                    have := HK.out
                    simp only [intOf]
                    omega
                · obtain rfl : i = 16 := by omega
                  have hown := HO.out
                  rw [HNX.out] at hown
                  have HO2 := Lib.hid hown
                  clear hown HO hi hge
                  go_wp2_with fail
                  go_roundw
                  case rel => exact ⟨s - 1, HS1.out, by go_num, HO2.out, HB.out⟩
                  case measure =>
                    have := HMS.out
                    simp only [intOf]
                    omega
            · obtain rfl : s = 0 := by omega
              have hown := HO.out
              rw [dbk_last, HSEA.out] at hown
              have HX := Lib.hid hown
              clear hown HO hs h0 HB0 HSEA
              go_wp2_with fail
              generalize (32 : Int) * ((0 : Nat) : Int) = z0
              go_loopw [9, 10] (fun vo ii wr => ∃ b : Nat, b ≤ n ∧ ii = .int .i64 (32 * (b : Int)) ∧ wr.ownsRow B 33 32 vo b (iV (jnb (fwv S b))) ∧ wr.ownsRow B 3 1 (.slice (some ⟨g, 0, none⟩) N cap) N (iV S) ∧ Below B w wr) (fun _ ii _ => N - (intOf ii).toNat)
              case atStart => exact ⟨0, Nat.zero_le _, rfl, World.ownsRow_nil _ _ _ _, HX.out, HB.out⟩
              case round =>
                clear HX HB
                obtain ⟨b, hb0, rfl, hown, hx, hb⟩ := hrel
                have HO := Lib.hid hown
                have HX := Lib.hid hx
                have HB := Lib.hid hb
                clear hown hx hb
                generalize wr = W at *
                have hnn := HNN.out ()
                rcases Nat.lt_or_ge b n with hlt | hge
                · have HK := Lib.hid hlt
                  have hbI : 32 * (b : Int) < (N : Int) := by omega
                  have hbJ : 32 * (b : Int) ≤ 5000 := by omega
                  have HBN : Hid (32 * b + 32 ≤ N) := Lib.hid (by omega)
                  have hz := nums_zero W
                  have HFB := Lib.hid (HH.out b hlt)
                  have HR0 : Hid (Row (W.alloc (.cells (iCells f0) 33)) W.heap.size 33 (iCells (pbl S b 0))) := Lib.hid (by rw [pbl_zero]; exact heap_alloc_new _ _)
                  have HBW0 : Hid (Below W.heap.size W (W.alloc (.cells (iCells f0) 33))) := Lib.hid ((Below.refl _ _).alloc (Nat.le_refl _) _)
                  clear hlt hnn hb0
                  go_wp2_with fail
                  clear hz
                  generalize W.alloc (.cells (iCells f0) 33) = W1 at *
                  obtain ⟨G, hG⟩ : ∃ G, W.heap.size = G := ⟨_, rfl⟩
                  rw [hG] at HR0 HBW0 ⊢
                  have HGE := Lib.hid fun _ : Unit => hG
                  clear hG
                  try generalize Value.bool (decide ((32 : Int) * (b : Int) < (N : Int))) = b77
                  go_loopw [12] (fun ii wr => ∃ i : Nat, i ≤ 32 ∧ ii = .int .i64 i ∧ Row wr G 33 (iCells (pbl S b i)) ∧ Below G W wr) (fun ii _ => 32 - (intOf ii).toNat)
                  case atStart => exact ⟨0, Nat.zero_le _, rfl, HR0.out, HBW0.out⟩
                  case round =>
                    clear HR0 HBW0
                    obtain ⟨i, hi, rfl, hr, hb⟩ := hrel
                    have HR := Lib.hid hr
                    have HBW := Lib.hid hb
                    clear hr hb
                    rcases Nat.lt_or_ge i 32 with hlt | hge
                    · have HK2 := Lib.hid hlt
                      have hiI : (i : Int) < 32 := by omega
                      have hbn := HBN.out
                      have hkI : 32 * (b : Int) + (i : Int) = ((32 * b + i : Nat) : Int) := by omega
                      have hstep := pbl_more S b i hlt
                      have hkl : 32 * b + i < N := by omega
                      have e1 := own_intat (own_stay HX.out (by rw [HGE.out ()]; exact HBW.out)) (32 * b + i) (by rw [HSL.out]; exact hkl) HSL.out
                      have e2 := i_at HR.out i (by rw [pbl_len]; exact hlt)
                      have fz := fun j => Row.free HR.out j
                      obtain ⟨z, hz⟩ : ∃ z, S.getD (32 * b + i) 0 = z := ⟨_, rfl⟩
                      rw [hz] at hstep e1
                      have HST := Lib.hid hstep
                      obtain ⟨k, hk⟩ : ∃ k, 32 * b + i = k := ⟨_, rfl⟩
                      rw [hk] at hkI hkl e1
                      have hklI : (k : Int) < (N : Int) := by omega
                      clear hstep hz hk hi hlt hbn hkl
                      go_wp2_with fail
                      go_roundw
                      case rel =>
                        refine ⟨i + 1, HK2.out, by go_num, ?_, HBW.out.setCell (p := ⟨G, i, none⟩) (Nat.le_refl _) _⟩
                        have := HR.out.set i (.int .i64 z)
                        rw [iCells_set, HST.out] at this
                        exact this
                      case measure =>
                        have := HK2.out
                        simp only [intOf]
                        omega
                    · obtain rfl : i = 32 := by omega
                      have hr := HR.out
                      rw [pbl_full] at hr
                      have HRF := Lib.hid hr
                      have hmore := fwv_more S b
                      obtain ⟨F, hF⟩ : ∃ F, blk S b = F := ⟨_, rfl⟩
                      rw [hF] at HRF HFB hmore
                      have HMO := Lib.hid hmore
                      have HSZ := Lib.hid fun _ : Unit => nums_size F HFB.out.1
                      clear hF hr hmore HR hi hge
                      go_wp2_with (first
                        | (refine wpList_load_row rfl 33 (.tmp 11) rfl G rfl 33 (iCells F) (0, 0) _ HRF.out Try.underlying33 rfl (HSZ.out ()) ?_))
                      refine (rwaves_in F wr HFB.out).mono ?_
                      rintro e w6 ⟨rfl, hb6⟩
                      have HBW6 : Hid (Below W.heap.size W w6) := Lib.hid (by rw [HGE.out ()]; exact HBW.out.trans (hb6.mono (Nat.le_of_lt (Row.lt HRF.out))))
                      clear hb6
                      have HO6 := Lib.hid ((own_stay HO.out HBW6.out).alloc (.cells (iCells (wav F)) 33))
                      have HF6 : Hid (FrAt (w6.alloc (.cells (iCells (wav F)) 33)) w6.heap.size (wav F)) := Lib.hid (FrAt.row (heap_alloc_new _ _))
                      have HB6 := Lib.hid (HB.out.trans (HBW6.out.mono (by have := HB.out.size; have := HBB.out (); omega)))
                      have HS6 : Hid (B ≤ (w6.alloc (.cells (iCells (wav F)) 33)).heap.size) := Lib.hid (by have := HB6.out.size; have := HBB.out (); simp; omega)
                      have HX6 := Lib.hid (own_stay HX.out HBW6.out)
                      have HBA : Hid (Below w6.heap.size w6 (w6.alloc (.cells (iCells (wav F)) 33))) := Lib.hid ((Below.refl _ _).alloc (Nat.le_refl _) _)
                      have HNB : Hid (b ≤ 4096) := Lib.hid (by have := HK.out; have := HCB.out; omega)
                      clear HO HX HB HBW6 HBW HRF HFB HSZ
                      go_wp2_with (first
                        | (refine wpList_build_blk rfl 32 33 Try.underlying32 nums_parts (.tmp 94) rfl (wav F) (wav_len F) rfl _ rfl ?_)
                        | (at_builtin; refine wpList_append_blk rfl (.tmp 92) (.tmp 95) 32 33 Try.underlying32 nums_parts rfl B _ b (jnb (fwv S b)) (wav F) rfl HO6.out _ rfl HF6.out (wav_len F) HNB.out HS6.out ?_; intro v7 w7 hown7 hb7 hgr7))
                      have HO7 : Hid (w7.ownsRow B 33 32 v7 (b + 1) (iV (jnb (fwv S (b + 1))))) := Lib.hid (by rw [← HMO.out]; exact hown7)
                      have HX7 := Lib.hid (own_apart (own_stay HX6.out HBA.out) (by decide) HO6.out hgr7)
                      have HB7 := Lib.hid ((HB6.out.trans (HBA.out.mono (by have := HB6.out.size; have := HBB.out (); omega))).trans hb7)
                      clear hown7 hb7 hgr7 HO6 HX6 HB6 HF6 HS6 HBA
                      go_roundw
                      case rel => exact ⟨b + 1, HK.out, by go_num, HO7.out, HX7.out, HB7.out⟩
                      case measure =>
                        have := HBN.out
                        simp only [intOf]
                        omega
                · obtain rfl : b = n := by omega
                  have hown := HO.out
                  rw [HFW.out, ← HCN.out ()] at hown
                  obtain ⟨go, capo, rfl, _, hfr⟩ := own_fr hown (by unfold cnt; omega)
                  have HFR := Lib.hid hfr
                  have hge2 : ¬ (32 * (b : Int) < (N : Int)) := by omega
                  clear hown hfr HO HX hge hb0 hnn HFW
                  go_wp2_with fail
                  go_ret
                  exact ⟨⟨go, ⟨capo, rfl⟩, HFR.out⟩, HB.out⟩
end Go.Proofs.Ytdnchnhflfcdkaa
