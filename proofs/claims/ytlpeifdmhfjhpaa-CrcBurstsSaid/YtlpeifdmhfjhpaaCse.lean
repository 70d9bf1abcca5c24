/-
  Layer 15: the law CrcPlays. No conditions beyond the law's own.
-/
import Derived.Test.YtlpeifdmhfjhpaaCsd
import Derived.Test.YtlpeifdmhfjhpaaCra
namespace Go.Proofs.Ytlpeifdmhfjhpaa
open Go.RowKit
open M
theorem bl_extract (s : ByteArray) (i j : Nat) : bl (s.extract i j) = ((bl s).drop i).take (j - i) := by
  unfold bl
  rw [ByteArray.data_extract, Array.toList_extract, List.extract_eq_take_drop]
theorem two_bytes (s : ByteArray) (n : Nat) (h : s.size = n + 2) : s.extract n s.size = ofB [s[n]'(by omega), s[n + 1]'(by omega)] := by
  apply bl_inj
  rw [bl_extract]
  have hl : (bl s).length = n + 2 := h
  have e : (bl s).drop n = [s[n]'(by omega), s[n + 1]'(by omega)] := by
    apply List.ext_getElem
    · simp [hl]
    · intro i h1 h2
      rw [List.getElem_drop]
      rcases (show i = 0 ∨ i = 1 by simp at h2; omega) with rfl | rfl <;> rfl
  rw [e, show s.size - n = 2 by omega]
  rfl
theorem whole_text (s : ByteArray) (n : Nat) : s.extract 0 n ++ s.extract n s.size = s := by
  apply bl_inj
  have hl : (bl s).length = s.size := rfl
  rw [bl_append, bl_extract, bl_extract, List.drop_zero, List.take_of_length_le (i := s.size - n) (by simp [hl]), Nat.sub_zero, List.take_append_drop]
theorem ld_same (m : Nat) (a b : UInt8) (hm : m < 65536) : ofB [a, b] = ld15 m ↔ m = 256 * a.toNat + b.toNat := by
  have ha := a.toNat_lt
  have hb := b.toNat_lt
  unfold ld15
  constructor
  · intro h
    have h1 : [a, b] = [UInt8.ofNat (m / 256), UInt8.ofNat (m % 256)] := by
      have := congrArg bl h
      exact this
    injection h1 with h1 h2
    injection h2 with h2 _
    rw [h1, h2, UInt8.toNat_ofNat', UInt8.toNat_ofNat']
    omega
  · intro h
    have h1 : m / 256 = a.toNat := by omega
    have h2 : m % 256 = b.toNat := by omega
    rw [h1, h2, UInt8.ofNat_toNat, UInt8.ofNat_toNat]
theorem sm15_bd (r : Int) (l : List UInt8) : sm15 r l < 65536 := (crun _ _).isLt
theorem op_yes (s : ByteArray) (n : Nat) (h : s.size = n + 2) (e : s.extract n s.size = ld15 (sm15 65535 (bl (s.extract 0 n)))) : opT s = s.extract 0 n ∧ opE s = 0 := by
  have h2 : ¬ s.size < 2 := by omega
  have h3 : s.size - 2 = n := by omega
  unfold opT opE
  rw [if_neg h2, if_neg h2, h3, if_pos e, if_pos e]
  exact ⟨rfl, rfl⟩
theorem op_no (s : ByteArray) (n : Nat) (h : s.size = n + 2) (e : ¬ s.extract n s.size = ld15 (sm15 65535 (bl (s.extract 0 n)))) : opT s = ByteArray.empty ∧ opE s = 4 := by
  have h2 : ¬ s.size < 2 := by omega
  have h3 : s.size - 2 = n := by omega
  unfold opT opE
  rw [if_neg h2, if_neg h2, h3, if_neg e, if_neg e]
  exact ⟨rfl, rfl⟩
theorem wi_small (x : Nat) (h : x ≤ 100000) : IntKind.i64.wrap (x : Int) = (x : Int) := by rw [IntKind.wrap_i64]; omega
theorem w64_256 (x : Nat) (h : x < 256) : wrap64 (x : Int) = (x : Int) := by rw [wrap64]; omega
theorem two_facts (x y : Nat) (hx : x < 256) (hy : y < 256) : ∃ x2 z : Nat, 256 * x + y = z ∧ wrap64 (x : Int) = (x : Int) ∧ wrap64 (y : Int) = (y : Int) ∧ 256 * (x : Int) = (x2 : Int) ∧ (x2 : Int) + (y : Int) = (z : Int) ∧ (x2 : Int) ≤ 65536 ∧ (z : Int) ≤ 65536 ∧ IntKind.i64.wrap (x : Int) = (x : Int) ∧ IntKind.i64.wrap (y : Int) = (y : Int) ∧ IntKind.i64.wrap (x2 : Int) = (x2 : Int) ∧ IntKind.i64.wrap (z : Int) = (z : Int) :=
  ⟨256 * x, 256 * x + y, rfl, w64_256 x hx, w64_256 y hy, by omega, by omega, by omega, by omega, wi_small x (by omega), wi_small y (by omega), wi_small (256 * x) (by omega), wi_small (256 * x + y) (by omega)⟩
set_option maxRecDepth 100000 in
theorem plays_law15 (r : Int) (s : ByteArray) (w : World) :
    Calls Try.prog 5 #[.int .i64 r, .string s] w fun e w' => e = .returned (.bool true) ∧ Below w.heap.size w w' := by
  have HA := Lib.hid fun w => awake15_any w
  by_cases hl : s.size ≤ 600
  · have k1 : ¬ ((s.size : Int) > 600) := by omega
    have hs4 : s.size ≤ 10000 := by omega
    have hs3 : s.size ≤ 1000 := by omega
    have C1 := Lib.hid fun w => sum_any15 s w hs4
    have C2 := Lib.hid fun w => rsum_any 65535 s w hs3
    have C3 := Lib.hid fun w => more_any r s w hs4
    have C4 := Lib.hid fun w => rsum_any r s w hs3
    have C5 := Lib.hid fun w => open_any15 s w hs4
    generalize sm15 65535 (bl s) = a at *
    generalize sm15 r (bl s) = b at *
    by_cases h2 : s.size < 2
    · have e1 : opT s = ByteArray.empty := by unfold opT; rw [if_pos h2]
      have e2 : opE s = 2 := by unfold opE; rw [if_pos h2]
      have h2I : (s.size : Int) < 2 := by omega
      rw [e1, e2] at C5
      clear e1 e2 h2 hs4 hs3 hl
      go_enter Try.func5, Try.ntmps5
      go_wp2_with fail
      refine (HA.out _).mono ?_
      rintro e w1 ⟨rfl, hb⟩
      go_wp2_with fail
      refine (C1.out _).mono ?_
      rintro e w2 ⟨rfl, hb2⟩
      have hb := hb.trans (hb2.mono hb.size)
      clear hb2
      go_wp2_with fail
      refine (C2.out _).mono ?_
      rintro e w2 ⟨rfl, hb2⟩
      have hb := hb.trans (hb2.mono hb.size)
      clear hb2
      go_wp2_with fail
      refine (C3.out _).mono ?_
      rintro e w2 ⟨rfl, hb2⟩
      have hb := hb.trans (hb2.mono hb.size)
      clear hb2
      go_wp2_with fail
      refine (C4.out _).mono ?_
      rintro e w2 ⟨rfl, hb2⟩
      have hb := hb.trans (hb2.mono hb.size)
      clear hb2
      go_wp2_with fail
      refine (C5.out _).mono ?_
      rintro e w2 ⟨rfl, hb2⟩
      have hb := hb.trans (hb2.mono hb.size)
      clear hb2
      go_wp2
      go_ret
      exact ⟨by first | rfl | simp, hb⟩
    · obtain ⟨n, hn⟩ : ∃ n, s.size = n + 2 := ⟨s.size - 2, by omega⟩
      have h2I : ¬ (s.size : Int) < 2 := by omega
      have hw : (s.size : Int) - 2 = (n : Int) := by omega
      obtain ⟨p, hp⟩ : ∃ p, n + 1 = p := ⟨_, rfl⟩
      have hns : n < s.size := by omega
      have hps : p < s.size := by omega
      have hp1 : (n : Int) + 1 = (p : Int) := by omega
      have g7 : (p : Int) ≤ 10000 := by omega
      have g8 : (n : Int) ≤ (s.size : Int) := by omega
      have hnI : (n : Int) < (s.size : Int) := by omega
      have hpI : (p : Int) < (s.size : Int) := by omega
      have hnn : n ≤ s.size := by omega
      have q1 := wi_small p (by omega)
      have HW := whole_text s n
      have HX : s.extract n s.size = ofB [s[n]'hns, s[p]'hps] := by
        subst hp
        exact two_bytes s n hn
      obtain ⟨c, hc⟩ : ∃ c, s.extract 0 n = c := ⟨_, rfl⟩
      have hcs : c.size ≤ 1000 := by rw [← hc, ByteArray.size_extract]; omega
      have hsm := sm15_bd 65535 (bl c)
      have hx := (s[n]'hns).toNat_lt
      have hy := (s[p]'hps).toNat_lt
      have HI := ld_same (sm15 65535 (bl c)) (s[n]'hns) (s[p]'hps) hsm
      rw [← HX] at HI
      rw [hc] at HW
      have C6 := fun w => rsum_any 65535 c w hcs
      have hc7 := fun w => seal_any c w (by omega)
      have HT := fun h => op_yes s n hn h
      have HE := fun h => op_no s n hn h
      rw [hc] at HT HE
      generalize sm15 65535 (bl c) = m at *
      obtain ⟨x, hxe⟩ : ∃ x, (s[n]'hns).toNat = x := ⟨_, rfl⟩
      obtain ⟨y, hye⟩ : ∃ y, (s[p]'hps).toNat = y := ⟨_, rfl⟩
      rw [hxe] at hx HI
      rw [hye] at hy HI
      obtain ⟨x2, z, hz, g1, g2, g3, g4, g5, g6, q2, q3, q4, q5⟩ := two_facts x y hx hy
      rw [hz] at HI
      have HT1 : Hid (∀ w d os, Calls Try.prog 12 #[.int .i64 65535, .string c] (Sort.grow (redrawn w d) os) fun e w'' => e = .returned (.int .i64 (m : Int)) ∧ ∃ p : Regrown, w'' = Sort.grow (redrawn w p.d) p.os) :=
        Lib.hid fun w d os => Calls.regrown_of (C6 _)
      have C7 := Lib.hid hc7
      clear hc7 hsm C6 hcs hs3 hs4 hl h2 hn hp hx hy hz HX
      by_cases he : s.extract n s.size = ld15 m
      · obtain ⟨hT, hE⟩ := HT he
        have hmz : m = z := HI.1 he
        subst hmz
        rw [hT, hE] at C5
        rw [← he, HW] at C7
        clear HT HE HI HW he hT hE
        go_enter Try.func5, Try.ntmps5
        go_wp2_with fail
        refine (HA.out _).mono ?_
        rintro e w1 ⟨rfl, hb⟩
        go_wp2_with fail
        refine (C1.out _).mono ?_
        rintro e w2 ⟨rfl, hb2⟩
        have hb := hb.trans (hb2.mono hb.size)
        clear hb2
        go_wp2_with fail
        refine (C2.out _).mono ?_
        rintro e w2 ⟨rfl, hb2⟩
        have hb := hb.trans (hb2.mono hb.size)
        clear hb2
        go_wp2_with fail
        refine (C3.out _).mono ?_
        rintro e w2 ⟨rfl, hb2⟩
        have hb := hb.trans (hb2.mono hb.size)
        clear hb2
        go_wp2_with fail
        refine (C4.out _).mono ?_
        rintro e w2 ⟨rfl, hb2⟩
        have hb := hb.trans (hb2.mono hb.size)
        clear hb2
        go_wp2_with fail
        refine (C5.out _).mono ?_
        rintro e w2 ⟨rfl, hb2⟩
        have hb := hb.trans (hb2.mono hb.size)
        clear hb2
        go_wp2_with fail
        refine wp_region_quiet_below (by kernel_rfl) (by kernel_rfl) ?_
        repeat (quiet_step ((go_at_call 12; exact HT1.out _ _ _)))
        refine wpQuiet_nil ?_
        intro _ hw'
        obtain ⟨⟨dq, osq⟩, hw''⟩ := hw'
        subst hw''
        have hb := hb.trans ((below_regrown w2 dq osq).mono hb.size)
        generalize Sort.grow (redrawn w2 dq) osq = wq at *
        go_wp2_with fail
        refine (C7.out _).mono ?_
        rintro e w3 ⟨rfl, hb2⟩
        have hb := hb.trans (hb2.mono hb.size)
        clear hb2
        go_wp2
        go_ret
        exact ⟨by first | rfl | simp, hb⟩
      · obtain ⟨hT, hE⟩ := HE he
        have hmz : ¬ m = z := fun h => he (HI.2 h)
        rw [hT, hE] at C5
        clear HT HE HI HW he hT hE C7
        go_enter Try.func5, Try.ntmps5
        go_wp2_with fail
        refine (HA.out _).mono ?_
        rintro e w1 ⟨rfl, hb⟩
        go_wp2_with fail
        refine (C1.out _).mono ?_
        rintro e w2 ⟨rfl, hb2⟩
        have hb := hb.trans (hb2.mono hb.size)
        clear hb2
        go_wp2_with fail
        refine (C2.out _).mono ?_
        rintro e w2 ⟨rfl, hb2⟩
        have hb := hb.trans (hb2.mono hb.size)
        clear hb2
        go_wp2_with fail
        refine (C3.out _).mono ?_
        rintro e w2 ⟨rfl, hb2⟩
        have hb := hb.trans (hb2.mono hb.size)
        clear hb2
        go_wp2_with fail
        refine (C4.out _).mono ?_
        rintro e w2 ⟨rfl, hb2⟩
        have hb := hb.trans (hb2.mono hb.size)
        clear hb2
        go_wp2_with fail
        refine (C5.out _).mono ?_
        rintro e w2 ⟨rfl, hb2⟩
        have hb := hb.trans (hb2.mono hb.size)
        clear hb2
        go_wp2_with fail
        refine wp_region_quiet_below (by kernel_rfl) (by kernel_rfl) ?_
        repeat (quiet_step ((go_at_call 12; exact HT1.out _ _ _)))
        refine wpQuiet_nil ?_
        intro _ hw'
        obtain ⟨⟨dq, osq⟩, hw''⟩ := hw'
        subst hw''
        have hb := hb.trans ((below_regrown w2 dq osq).mono hb.size)
        generalize Sort.grow (redrawn w2 dq) osq = wq at *
        go_wp2
        go_ret
        exact ⟨by first | rfl | simp, hb⟩
  · have k1 : (s.size : Int) > 600 := by omega
    clear hl
    go_enter Try.func5, Try.ntmps5
    go_wp2_with fail
    refine (HA.out _).mono ?_
    rintro e w1 ⟨rfl, hb⟩
    go_wp2_with fail
    refine (HA.out _).mono ?_
    rintro e w2 ⟨rfl, hb2⟩
    have hb := hb.trans (hb2.mono hb.size)
    clear hb2
    go_wp2
    go_ret
    exact ⟨by first | rfl | simp, hb⟩
end Go.Proofs.Ytlpeifdmhfjhpaa
