/-
  Layer 15: the law CrcUnlike, walked. No conditions beyond the law's own.
-/
import Derived.Test.YtlpeifdmhfjhpaaCsg
import Derived.Deep.RegionWith
namespace Go.Proofs.Ytlpeifdmhfjhpaa
open Go.RowKit
open M
set_option maxRecDepth 100000 in
theorem unlike_law15 (s t u : ByteArray) (w : World) :
    Calls Try.prog 6 #[.string s, .string t, .string u] w fun e w' => e = .returned (.bool true) ∧ Below w.heap.size w w' := by
  have HA := Lib.hid fun w => awake15_any w
  by_cases h1 : 600 < s.size
  · have k1 : (600 : Int) < (s.size : Int) := by omega
    clear h1
    go_enter Try.func6, Try.ntmps6
    go_wp2_with fail
    refine (HA.out _).mono ?_
    rintro e w1 ⟨rfl, hb⟩
    go_wp2_with fail
    refine (HA.out _).mono ?_
    rintro e w2 ⟨rfl, hb2⟩
    have hb := hb.trans (hb2.mono hb.size)
    clear hb2
    go_wp2
    go_ret
    exact ⟨by first | rfl | simp, hb⟩
  · have k1 : ¬ (600 : Int) < (s.size : Int) := by omega
    by_cases h2 : s.size = t.size
    · by_cases h3 : s.size = u.size
      · have k2 : (t.size : Int) = (s.size : Int) := by omega
        have k3 : (u.size : Int) = (s.size : Int) := by omega
        have hls : (bl s).length = s.size := bl_length s
        have hlt : (bl t).length = s.size := (bl_length t).trans h2.symm
        have hlu : (bl u).length = s.size := (bl_length u).trans h3.symm
        have HS1 := sm_change 65535 (bl s) (bl u) (by rw [hls, hlu])
        have HS2 := sm_change 65535 (bl t) (bl u) (by rw [hlt, hlu])
        rw [hls] at HS1
        rw [hlt] at HS2
        have hxl : (xz15 (bl s) (bl u) s.size).length = s.size := (xz_len _ _ _).trans hls
        have hyl : (xz15 (bl t) (bl u) s.size).length = s.size := (xz_len _ _ _).trans hlt
        have C1 := Lib.hid fun w => sum_any15 s w (by omega)
        have C2 := Lib.hid fun w => sum_any15 t w (by omega)
        have C3 := Lib.hid fun w => sum_any15 (ofB (xz15 (bl s) (bl u) s.size)) w (by rw [ofB_size, hxl]; omega)
        have C4 := Lib.hid fun w => sum_any15 (ofB (xz15 (bl t) (bl u) s.size)) w (by rw [ofB_size, hyl]; omega)
        rw [bl_ofB] at C3 C4
        have b1 := sm15_lt65 65535 (bl s)
        have b2 := sm15_lt65 65535 (bl t)
        have b3 := sm15_lt65 65535 (xz15 (bl s) (bl u) s.size)
        have b4 := sm15_lt65 65535 (xz15 (bl t) (bl u) s.size)
        have X1 := i64_xor_nat _ _ (Nat.lt_trans b1 (by decide)) (Nat.lt_trans b3 (by decide))
        have X2 := i64_xor_nat _ _ (Nat.lt_trans b2 (by decide)) (Nat.lt_trans b4 (by decide))
        rw [HS1] at X1
        rw [HS2] at X2
        clear HS1 HS2 b1 b2 b3 b4
        generalize sm15 65535 (bl s) = q1 at *
        generalize sm15 65535 (bl t) = q2 at *
        generalize sm15 65535 (xz15 (bl s) (bl u) s.size) = q3 at *
        generalize sm15 65535 (xz15 (bl t) (bl u) s.size) = q4 at *
        generalize (crun 0 (tbt (bl u))).toNat = q5 at *
        have hs6 : (s.size : Int) ≤ 600 := by omega
        have HLS := Lib.hid hls
        have HLT := Lib.hid hlt
        have HLU := Lib.hid hlu
        have H2 := Lib.hid h2
        have H3 := Lib.hid h3
        have HXL := Lib.hid hxl
        have HYL := Lib.hid hyl
        clear hls hlt hlu hxl hyl h1 h2 h3
        go_enter Try.func6, Try.ntmps6
        go_wp2_with fail
        refine (HA.out _).mono ?_
        rintro e w1 ⟨rfl, hb⟩
        have hb0 := hb
        have v1 := conv_new w1 s
        have v2 := conv_new (newB w1 s) t
        have HB1 := Lib.hid hb
        have HT1 := Lib.hid (newB_at w1 s)
        have HT2 := Lib.hid (newB_at (newB w1 s) t)
        have HD1 := Lib.hid (newB_below w1 s)
        have HD2 := Lib.hid (newB_below (newB w1 s) t)
        have HZ1 := Lib.hid (newB_size w1 s)
        generalize newB w1 s = w2 at *
        generalize newB w2 t = w3 at *
        generalize capB w1 s = c1 at *
        generalize capB w2 t = c2 at *
        obtain ⟨g1, hg1⟩ : ∃ g, w1.heap.size = g := ⟨_, rfl⟩
        obtain ⟨g2, hg2⟩ : ∃ g, w2.heap.size = g := ⟨_, rfl⟩
        rw [hg1] at v1 HT1 HD1 HZ1
        rw [hg2] at v2 HT2 HD2 HZ1
        have HG := Lib.hid (show g2 = g1 + 1 from HZ1.out)
        have HG1 := Lib.hid (show w.heap.size ≤ g1 by rw [← hg1]; exact hb.size)
        clear hb hb0 hg1 hg2 HZ1
        go_wp2_with fail
        have HB3 := Lib.hid (show Below w.heap.size w w3 from (HB1.out.trans (HD1.out.mono HG1.out)).trans (HD2.out.mono (Nat.le_trans HG1.out (by have := HG.out; omega))))
        have HT1 := Lib.hid (HT1.out.below HD2.out (by have := HG.out; omega) HD2.out.size)
        clear HD1 HD2 HB1 v1 v2
        go_loopw [9] (fun ii wr => ∃ (k : Nat), k ≤ s.size ∧ ii = .int .i64 k ∧ Bt wr g1 (xz15 (bl s) (bl u) k) ∧ Bt wr g2 (xz15 (bl t) (bl u) k) ∧ Below w.heap.size w wr) (fun ii _ => s.size - (intOf ii).toNat)
        case atStart => exact ⟨0, Nat.zero_le _, rfl, by rw [xz_zero]; exact HT1.out, by rw [xz_zero]; exact HT2.out, HB3.out⟩
        case round =>
          clear HT1 HT2 HB3
          obtain ⟨k, hk, rfl, ht1, ht2, hbw⟩ := hrel
          have HB := Lib.hid hbw
          have HT1 := Lib.hid ht1
          have HT2 := Lib.hid ht2
          rcases Nat.lt_or_ge k s.size with hlk | hgk
          · have hkI : (k : Int) < (s.size : Int) := by omega
            have hku : k < u.size := by have := H3.out; omega
            have hkt : k < t.size := by have := H2.out; omega
            have f1 := ht1.free k (by rw [xz_len, HLS.out]; exact hlk)
            have f2 := ht2.free k (by rw [xz_len, HLT.out]; exact hlk)
            have a1 := ht1.at' k (by rw [xz_len, HLS.out]; exact hlk)
            have a2 := ht2.at' k (by rw [xz_len, HLT.out]; exact hlk)
            rw [xz_at _ _ _ _ (by rw [HLS.out]; exact hlk), if_neg (Nat.lt_irrefl k)] at a1
            rw [xz_at _ _ _ _ (by rw [HLT.out]; exact hlk), if_neg (Nat.lt_irrefl k)] at a2
            have ST1 := Lib.hid (xz_step (bl s) (bl u) k (by rw [HLS.out]; exact hlk))
            have ST2 := Lib.hid (xz_step (bl t) (bl u) k (by rw [HLT.out]; exact hlk))
            have hy : ((u[k]'hku).toNat : Int) = ub ((bl u).getD k 0) := by
              rw [List.getD_eq_getElem?_getD, List.getElem?_eq_getElem (by exact hku)]
              rfl
            generalize (bl s).getD k 0 = x1 at *
            generalize (bl t).getD k 0 = x2 at *
            generalize (bl u).getD k 0 = y at *
            have e1 := u8_xor_ub x1 y
            have e2 := u8_xor_ub x2 y
            have HK := Lib.hid hlk
            clear hk ht1 ht2 hbw
            go_wp2_with fail
            go_region
            have hne : g1 ≠ g2 := by have := HG.out; omega
            have HU1 := Lib.hid (HT1.out.set k (x1 ^^^ y) (by rw [xz_len, HLS.out]; exact hlk)).drew
            have HU2 := Lib.hid (HT2.out.far ⟨g1, k, none⟩ (.int .u8 (ub (x1 ^^^ y))) hne).drew
            have HBB := Lib.hid (below_drew1 (HB.out.setCell (p := ⟨g1, k, none⟩) HG1.out (.int .u8 (ub (x1 ^^^ y)))))
            rw [ST1.out] at HU1
            have f3 : (wr.setCell ⟨g1, k, none⟩ (.int .u8 (ub (x1 ^^^ y)))).drew.frozen? ⟨g2, k, none⟩ = false := HU2.out.free k (by rw [xz_len, HLT.out]; exact hlk)
            have a3 : (wr.setCell ⟨g1, k, none⟩ (.int .u8 (ub (x1 ^^^ y)))).drew.cell? ⟨g2, k, none⟩ = some (.int .u8 (ub x2)) := by
              show (wr.setCell ⟨g1, k, none⟩ (.int .u8 (ub (x1 ^^^ y)))).cell? _ = _
              rw [World.cell?_setCell_other _ _ _ _ (by intro hh; injection hh with h1 _ _; exact hne h1)]
              exact a2
            clear a1 f1 a2 f2 e1 hne HT1 HT2 HB
            generalize (wr.setCell ⟨g1, k, none⟩ (.int .u8 (ub (x1 ^^^ y)))).drew = w4 at *
            go_wp2_with fail
            go_region
            have HV2 := Lib.hid (HU2.out.set k (x2 ^^^ y) (by rw [xz_len, HLT.out]; exact hlk)).drew
            rw [ST2.out] at HV2
            have HV1 := Lib.hid (HU1.out.far ⟨g2, k, none⟩ (.int .u8 (ub (x2 ^^^ y))) (by have := HG.out; show g2 ≠ g1; omega)).drew
            have HBC := Lib.hid (below_drew1 (HBB.out.setCell (p := ⟨g2, k, none⟩) (by have := HG.out; have := HG1.out; show w.heap.size ≤ g2; omega) (.int .u8 (ub (x2 ^^^ y)))))
            clear a3 f3 e2 HU1 HU2 HBB
            generalize (w4.setCell ⟨g2, k, none⟩ (.int .u8 (ub (x2 ^^^ y)))).drew = w5 at *
            go_wp2_with fail
            go_roundw
            case rel => exact ⟨k + 1, HK.out, by go_num, HV1.out, HV2.out, HBC.out⟩
            case measure =>
              have := HK.out
              simp [intOf] <;> omega
          · obtain rfl : k = s.size := by omega
            have HT3 : Hid (∀ d os, (convert 24 9 (.slice (some ⟨g1, 0, none⟩) s.size c1)).run Try.prog (Sort.grow (redrawn wr d) os) = .ok (.string (ofB (xz15 (bl s) (bl u) s.size))) (Sort.grow (redrawn wr d) os)) :=
              Lib.hid fun d os => conv_back _ g1 _ c1 _ HXL.out (HT1.out.keep (below_regrown wr d os))
            have HT4 : Hid (∀ d os, (convert 24 9 (.slice (some ⟨g2, 0, none⟩) s.size c2)).run Try.prog (Sort.grow (redrawn wr d) os) = .ok (.string (ofB (xz15 (bl t) (bl u) s.size))) (Sort.grow (redrawn wr d) os)) :=
              Lib.hid fun d os => conv_back _ g2 _ c2 _ HYL.out (HT2.out.keep (below_regrown wr d os))
            have D1 := Lib.hid fun d os => Calls.regrown_of (C1.out (Sort.grow (redrawn wr d) os))
            have D2 := Lib.hid fun d os => Calls.regrown_of (C2.out (Sort.grow (redrawn wr d) os))
            have D3 := Lib.hid fun d os => Calls.regrown_of (C3.out (Sort.grow (redrawn wr d) os))
            have D4 := Lib.hid fun d os => Calls.regrown_of (C4.out (Sort.grow (redrawn wr d) os))
            have z3 := HT3.out
            have z4 := HT4.out
            have hts : t.size = s.size := H2.out.symm
            clear hk hgk ht1 ht2 hbw HT3 HT4 C1 C2 C3 C4 HT1 HT2
            generalize ofB (xz15 (bl s) (bl u) s.size) = p3 at *
            generalize ofB (xz15 (bl t) (bl u) s.size) = p4 at *
            go_wp2_with fail
            refine wp_region_quiet_below (by kernel_rfl) (by kernel_rfl) ?_
            repeat (quiet_step (first | (go_at_call 11; exact D1.out _ _) | (go_at_call 11; exact D2.out _ _) | (go_at_call 11; exact D3.out _ _) | (go_at_call 11; exact D4.out _ _)))
            refine wpQuiet_nil ?_
            intro _ hw'
            obtain ⟨⟨dq, osq⟩, hw''⟩ := hw'
            subst hw''
            have HBE := Lib.hid (HB.out.trans ((below_regrown wr dq osq).mono HB.out.size))
            generalize Sort.grow (redrawn wr dq) osq = wq at *
            clear z3 z4
            go_wp2
            go_ret
            exact ⟨by first | rfl | simp, HBE.out⟩
      · have k2 : (t.size : Int) = (s.size : Int) := by omega
        have k3 : ((s.size : Int) != (u.size : Int)) = true := by rw [bne_iff_ne]; omega
        have k4 : decide ((600 : Int) < (s.size : Int)) = false := decide_eq_false k1
        clear h1
        go_enter Try.func6, Try.ntmps6
        go_wp2_with fail
        refine (HA.out _).mono ?_
        rintro e w1 ⟨rfl, hb⟩
        go_wp2_with fail
        refine (HA.out _).mono ?_
        rintro e w2 ⟨rfl, hb2⟩
        have hb := hb.trans (hb2.mono hb.size)
        clear hb2
        go_wp2
        go_ret
        exact ⟨by first | rfl | simp, hb⟩
    · have k2 : ¬ (s.size : Int) = (t.size : Int) := by omega
      clear h1
      go_enter Try.func6, Try.ntmps6
      go_wp2_with fail
      refine (HA.out _).mono ?_
      rintro e w1 ⟨rfl, hb⟩
      go_wp2_with fail
      refine (HA.out _).mono ?_
      rintro e w2 ⟨rfl, hb2⟩
      have hb := hb.trans (hb2.mono hb.size)
      clear hb2
      go_wp2
      go_ret
      exact ⟨by first | rfl | simp, hb⟩
end Go.Proofs.Ytlpeifdmhfjhpaa
