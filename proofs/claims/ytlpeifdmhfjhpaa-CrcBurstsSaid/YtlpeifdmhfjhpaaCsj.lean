/-
  Layer 15: the law CrcBursts, walked. No conditions beyond the law's own.
-/
import Derived.Test.YtlpeifdmhfjhpaaCsi
import Derived.Deep.RegionWith
import Derived.Deep.Cut
namespace Go.Proofs.Ytlpeifdmhfjhpaa
open Go.RowKit
open M
theorem and_one16 (n : Nat) : bits .and .u16 (n : Int) 1 = ((n % 2 : Nat) : Int) := by
  show IntKind.u16.wrap ((BitVec.ofInt 16 (n : Int) &&& BitVec.ofInt 16 1).toNat : Int) = _
  rw [BitVec.toNat_and, show (BitVec.ofInt 16 1).toNat = 2 ^ 1 - 1 by decide, Nat.and_two_pow_sub_one_eq_mod, BitVec.toNat_ofInt, IntKind.wrap_u16]
  omega
theorem bit_of16 (c k : Nat) : (bits .and .u16 ((c : Int) / 2 ^ k) 1 == 1) = c.testBit k := by
  have e4 : (c : Int) / 2 ^ k = ((c / 2 ^ k : Nat) : Int) := by
    rw [Int.natCast_ediv, Int.natCast_pow]; rfl
  rw [e4, and_one16, Nat.testBit_eq_decide_div_mod_eq]
  rcases Nat.mod_two_eq_zero_or_one (c / 2 ^ k) with h0 | h0 <;> rw [h0] <;> rfl
theorem mk_int (P R : Nat) (h : P % 8 = R) : (128 : Int) / 2 ^ R = ub (mk15 P) := by
  have hr : R < 8 := by omega
  unfold ub mk15
  rw [h]
  rcases (show R = 0 ∨ R = 1 ∨ R = 2 ∨ R = 3 ∨ R = 4 ∨ R = 5 ∨ R = 6 ∨ R = 7 by omega) with rfl | rfl | rfl | rfl | rfl | rfl | rfl | rfl <;> rfl
/-- Where the next bit stands. -/
theorem bit_place (F k N : Nat) (h : F + k < 8 * N) : ∃ P Q R : Nat, F + k = P ∧ P / 8 = Q ∧ P % 8 = R ∧ (P : Int).tdiv 8 = (Q : Int) ∧ (P : Int).tmod 8 = (R : Int) ∧ Q < N ∧ R < 8 :=
  ⟨F + k, (F + k) / 8, (F + k) % 8, rfl, rfl, rfl, by rw [Int.tdiv_eq_ediv_of_nonneg (by omega)]; omega, by rw [Int.tmod_eq_emod_of_nonneg (by omega)]; omega, by omega, Nat.mod_lt _ (by decide)⟩
theorem ct_yes (N c F k : Nat) (h1 : c.testBit k = true) (h2 : F + k < 8 * N) : ct15 N c F k = true := by
  unfold ct15; rw [h1, decide_eq_true h2]; rfl
theorem ct_no (N c F k : Nat) (h : c.testBit k = false ∨ ¬ F + k < 8 * N) : ct15 N c F k = false := by
  unfold ct15
  rcases h with h | h
  · rw [h]; rfl
  · rw [decide_eq_false h, Bool.and_false]
theorem fl_yes (L : List UInt8) (c F k : Nat) (h : ct15 L.length c F k = true) : fl15 L c F (k + 1) = (fl15 L c F k).set ((F + k) / 8) ((fl15 L c F k).getD ((F + k) / 8) 0 ^^^ mk15 (F + k)) := by
  rw [show fl15 L c F (k + 1) = if ct15 L.length c F k then (fl15 L c F k).set ((F + k) / 8) ((fl15 L c F k).getD ((F + k) / 8) 0 ^^^ mk15 (F + k)) else fl15 L c F k from rfl, if_pos h]
theorem fl_no (L : List UInt8) (c F k : Nat) (h : ct15 L.length c F k = false) : fl15 L c F (k + 1) = fl15 L c F k := by
  rw [show fl15 L c F (k + 1) = if ct15 L.length c F k then (fl15 L c F k).set ((F + k) / 8) ((fl15 L c F k).getD ((F + k) / 8) 0 ^^^ mk15 (F + k)) else fl15 L c F k from rfl, h]
  rfl
theorem to_yes (N c F k : Nat) (h : ct15 N c F k = true) : to15 N c F (k + 1) = true := by
  rw [show to15 N c F (k + 1) = if ct15 N c F k then true else to15 N c F k from rfl, if_pos h]
theorem to_no (N c F k : Nat) (h : ct15 N c F k = false) : to15 N c F (k + 1) = to15 N c F k := by
  rw [show to15 N c F (k + 1) = if ct15 N c F k then true else to15 N c F k from rfl, h]
  rfl
set_option maxRecDepth 100000 in
theorem bursts_far (s : ByteArray) (x y : Int) (w : World) (h1 : 600 < s.size) :
    Calls Try.prog 3 #[.string s, .int .u16 x, .int .u16 y] w fun e w' => e = .returned (.bool true) ∧ Below w.heap.size w w' := by
  have HA := Lib.hid fun w => awake15_any w
  have k1 : (600 : Int) < (s.size : Int) := by omega
  clear h1
  go_enter Try.func3, Try.ntmps3
  go_wp2_with fail
  refine (HA.out _).mono ?_
  rintro e w1 ⟨rfl, hb⟩
  go_wp2_with fail
  refine (HA.out _).mono ?_
  rintro e w2 ⟨rfl, hb2⟩
  have hb := hb.trans (hb2.mono hb.size)
  clear hb2
  go_wp2
  go_ret
  exact ⟨by first | rfl | simp, hb⟩
set_option maxRecDepth 100000 in
theorem bursts_law15 (s : ByteArray) (a c : Nat) (w : World) (ha : a ≤ 65535) (hs : s.size ≤ 600) :
    Calls Try.prog 3 #[.string s, .int .u16 (a : Int), .int .u16 (c : Int)] w fun e w' => e = .returned (.bool true) ∧ Below w.heap.size w w' := by
  have HA := Lib.hid fun w => awake15_any w
  have k1 : ¬ (600 : Int) < (s.size : Int) := by omega
  have C1 := fun w => seal_any s w (by omega)
  rw [sl_text] at C1
  obtain ⟨L, hL⟩ : ∃ L, sl15 (bl s) = L := ⟨_, rfl⟩
  have hLz := sl_zero (bl s)
  have hLl := sl_len (bl s)
  have hLt := sl_take (bl s)
  rw [bl_length] at hLl hLt
  rw [hL] at C1 hLz hLl hLt
  obtain ⟨N, hN⟩ : ∃ N, s.size + 2 = N := ⟨_, rfl⟩
  rw [hN] at hLl
  have hN6 : N ≤ 602 := by omega
  have hN2 : 2 ≤ N := by omega
  obtain ⟨M, hM⟩ : ∃ M, 8 * N = M := ⟨_, rfl⟩
  obtain ⟨F, hF⟩ : ∃ F, a % M = F := ⟨_, rfl⟩
  have hFM : F < M := by rw [← hF]; exact Nat.mod_lt _ (by omega)
  have hFI : (a : Int).tmod (M : Int) = (F : Int) := by rw [← hF, Int.tmod_eq_emod_of_nonneg (by omega)]; omega
  have O1 := open_sealed L s.size (by omega) hLz
  rw [hLt, show ofB (bl s) = s from ofB_bl s] at O1
  have C2 := fun w => open_any15 (ofB L) w (by rw [ofB_size]; omega)
  rw [O1.1, O1.2] at C2
  have C3 := fun w => open_any15 (ofB (fl15 L c F 16)) w (by rw [ofB_size, fl_len]; omega)
  have hto : to15 N c F 16 = false → opT (ofB (fl15 L c F 16)) = s ∧ opE (ofB (fl15 L c F 16)) = 0 := fun h => by
    rw [fl_none L c F 16 (by rw [hLl]; exact h)]; exact O1
  have htt : to15 N c F 16 = true → opT (ofB (fl15 L c F 16)) = ByteArray.empty ∧ opE (ofB (fl15 L c F 16)) = 4 := fun h =>
    open_spoilt _ s.size (by rw [fl_len]; omega) (burst_told L c F hLz (by rw [hLl]; exact h))
  have HFL := Lib.hid fun i => (fl_len L c F i).trans hLl
  have HLl := Lib.hid hLl
  have HTO := Lib.hid hto
  have HTT := Lib.hid htt
  have HC1 := Lib.hid C1
  have HC2 := Lib.hid C2
  have HC3 := Lib.hid C3
  have hMI : 8 * (N : Int) = (M : Int) := by omega
  have hM16 : 16 ≤ (M : Int) := by omega
  have hM5 : (M : Int) ≤ 5000 := by omega
  have hN6I : (N : Int) ≤ 602 := by omega
  have hFMI : (F : Int) < (M : Int) := by omega
  have ha2 : (a : Int) ≤ 65535 := by omega
  have hTs : (ofB L).size = N := by rw [ofB_size, hLl]
  have HM := Lib.hid hM
  obtain ⟨T, hT⟩ : ∃ T, ofB L = T := ⟨_, rfl⟩
  rw [hT] at HC1 HC2 hTs
  have HBL := Lib.hid (show bl T = L by rw [← hT]; rfl)
  have HTL := Lib.hid hT
  clear C1 C2 C3 hto htt hLz hLl hLt O1 hL hN hN6 hN2 hM hF hFM hs ha hT
  go_enter Try.func3, Try.ntmps3
  go_wp2_with fail
  refine (HA.out _).mono ?_
  rintro e w0 ⟨rfl, hb⟩
  go_wp2_with fail
  refine (HC1.out _).mono ?_
  rintro e w1 ⟨rfl, hb2⟩
  have hb := hb.trans (hb2.mono hb.size)
  clear hb2
  have v1 := conv_new w1 T
  have HT1 := Lib.hid (newB_at w1 T)
  have HD1 := Lib.hid (newB_below w1 T)
  rw [HBL.out] at HT1
  generalize newB w1 T = w2 at *
  generalize capB w1 T = c1 at *
  obtain ⟨g, hg⟩ : ∃ g, w1.heap.size = g := ⟨_, rfl⟩
  rw [hg] at v1 HT1 HD1
  have HG := Lib.hid (show w.heap.size ≤ g by rw [← hg]; exact hb.size)
  have HB1 := Lib.hid (hb.trans (HD1.out.mono HG.out))
  have v2 := conv_back w2 g N c1 L HLl.out HT1.out
  rw [HTL.out] at v2
  clear hb hg HD1
  go_wp2_with fail
  refine (HC2.out _).mono ?_
  rintro e w3 ⟨rfl, hb2⟩
  have HB2 := Lib.hid (HB1.out.trans (hb2.mono HB1.out.size))
  have HT2 := Lib.hid (HT1.out.keep hb2)
  clear hb2 HB1 HT1 v1 v2
  go_wp2_with fail
  go_loopw [11, 12] (fun tt ii wr => ∃ (k : Nat) (z : Bool), k ≤ 16 ∧ tt = .bool z ∧ ii = .int .i64 k ∧ z = to15 N c F k ∧ Bt wr g (fl15 L c F k) ∧ Below w.heap.size w wr) (fun _ ii _ => 16 - (intOf ii).toNat)
  case atStart => exact ⟨0, false, Nat.zero_le _, rfl, rfl, rfl, HT2.out, HB2.out⟩
  case round =>
    clear HT2 HB2
    obtain ⟨k, z, hk, rfl, rfl, hz, ht, hb⟩ := hrel
    have HT := Lib.hid ht
    have HB := Lib.hid hb
    have HZ := Lib.hid hz
    clear hz hb
    rcases Nat.lt_or_ge k 16 with hlk | hgk
    · have hkI : (k : Int) < 16 := by omega
      have HK := Lib.hid hlk
      have eb := bit_of16 c k
      obtain ⟨P, hP⟩ : ∃ P, F + k = P := ⟨_, rfl⟩
      have hPI : (F : Int) + (k : Int) = (P : Int) := by omega
      have hP5 : (P : Int) ≤ 6000 := by omega
      have HP := Lib.hid hP
      cases hcb : c.testBit k
      · rw [hcb] at eb
        have hct := ct_no N c F k (Or.inl hcb)
        have HF := Lib.hid (fl_no L c F k (by rw [HLl.out]; exact hct))
        have HO := Lib.hid (to_no N c F k hct)
        clear hk hlk ht hct hcb hP
        go_wp2_with fail
        go_roundw
        case rel => exact ⟨k + 1, z, HK.out, rfl, by go_num, by rw [HO.out]; exact HZ.out, by rw [HF.out]; exact HT.out, HB.out⟩
        case measure =>
          have := HK.out
          simp [intOf] <;> omega
      · rw [hcb] at eb
        by_cases hPM : P < M
        · obtain ⟨P', Q, R, hPP, hQ, hR, q1, q2, hQN, hR8⟩ := bit_place F k N (by rw [HM.out, hP]; exact hPM)
          obtain rfl : P' = P := hPP.symm.trans hP
          have hct := ct_yes N c F k hcb (by rw [HM.out, hP]; exact hPM)
          have HF := Lib.hid (fl_yes L c F k (by rw [HLl.out]; exact hct))
          have HO := Lib.hid (to_yes N c F k hct)
          rw [hP, hQ] at HF
          have a0 := ht.at' Q (by rw [HFL.out]; exact hQN)
          have f0 := ht.free Q (by rw [HFL.out]; exact hQN)
          have em := mk_int P' R hR
          have HST := Lib.hid (ht.set Q ((fl15 L c F k).getD Q 0 ^^^ mk15 P') (by rw [HFL.out]; exact hQN))
          rw [← HF.out] at HST
          generalize (fl15 L c F k).getD Q 0 = x at *
          generalize mk15 P' = y at *
          have ex := u8_xor_ub x y
          have hPMI : (P' : Int) < (M : Int) := by omega
          have hQNI : (Q : Int) < (N : Int) := by omega
          have hRI : (R : Int) < 8 := by omega
          clear hk hlk ht hct hcb hP hPP hQ hR hPM
          go_wp2_with fail
          go_region
          have HB2 := Lib.hid (below_drew1 (HB.out.setCell (p := ⟨g, Q, none⟩) HG.out (.int .u8 (ub (x ^^^ y)))))
          have HT2 := Lib.hid HST.out.drew
          clear HST a0 f0 em ex HB HT
          generalize (wr.setCell ⟨g, Q, none⟩ (.int .u8 (ub (x ^^^ y)))).drew = w4 at *
          go_wp2_with fail
          go_roundw
          case rel => exact ⟨k + 1, true, HK.out, rfl, by go_num, by rw [HO.out], HT2.out, HB2.out⟩
          case measure =>
            have := HK.out
            simp [intOf] <;> omega
        · have hct := ct_no N c F k (Or.inr (by rw [HM.out, hP]; exact hPM))
          have HF := Lib.hid (fl_no L c F k (by rw [HLl.out]; exact hct))
          have HO := Lib.hid (to_no N c F k hct)
          have hPMI : ¬ (P : Int) < (M : Int) := by omega
          clear hk hlk ht hct hcb hP hPM
          go_wp2_with fail
          go_roundw
          case rel => exact ⟨k + 1, z, HK.out, rfl, by go_num, by rw [HO.out]; exact HZ.out, by rw [HF.out]; exact HT.out, HB.out⟩
          case measure =>
            have := HK.out
            simp [intOf] <;> omega
    · obtain rfl : k = 16 := by omega
      have v2 := conv_back wr g N c1 _ (HFL.out 16) HT.out
      clear ht hk hgk
      cases hz : z
      · have hto := HTO.out (by rw [← HZ.out, hz])
        obtain ⟨X, hX⟩ : ∃ X, ofB (fl15 L c F 16) = X := ⟨_, rfl⟩
        rw [hto.1, hto.2] at HC3
        rw [hX] at HC3 v2
        clear hto hX HZ HTO HTT HT HFL HLl HM
        subst hz
        go_wp2_with fail
        refine (HC3.out _).mono ?_
        rintro e w4 ⟨rfl, hb2⟩
        have HB2 := Lib.hid (HB.out.trans (hb2.mono HB.out.size))
        clear hb2 v2
        go_wp2
        go_ret
        exact ⟨by first | rfl | simp, HB2.out⟩
      · have htt := HTT.out (by rw [← HZ.out, hz])
        obtain ⟨X, hX⟩ : ∃ X, ofB (fl15 L c F 16) = X := ⟨_, rfl⟩
        rw [htt.1, htt.2] at HC3
        rw [hX] at HC3 v2
        clear htt hX HZ HTO HTT HT HFL HLl HM
        subst hz
        go_wp2_with fail
        refine (HC3.out _).mono ?_
        rintro e w4 ⟨rfl, hb2⟩
        have HB2 := Lib.hid (HB.out.trans (hb2.mono HB.out.size))
        clear hb2 v2
        go_wp2
        go_ret
        exact ⟨by first | rfl | simp, HB2.out⟩
theorem bursts_any (s : ByteArray) (x y : Int) (w : World) (hx : 0 ≤ x ∧ x ≤ 65535) (hy : 0 ≤ y ∧ y ≤ 65535) :
    Calls Try.prog 3 #[.string s, .int .u16 x, .int .u16 y] w fun e w' => e = .returned (.bool true) ∧ Below w.heap.size w w' := by
  by_cases h : s.size ≤ 600
  · obtain ⟨a, ha⟩ : ∃ a : Nat, (a : Int) = x := ⟨x.toNat, by omega⟩
    obtain ⟨c, hc⟩ : ∃ c : Nat, (c : Int) = y := ⟨y.toNat, by omega⟩
    rw [← ha, ← hc]
    exact bursts_law15 s a c w (by omega) h
  · exact bursts_far s x y w (by omega)
end Go.Proofs.Ytlpeifdmhfjhpaa
