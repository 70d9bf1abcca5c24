/-
  Layer 15: the sum's bytes, More, Sum, Seal and Open of the program. Conditions: texts of up to 10000 bytes.
-/
import Derived.Test.YtlpeifdmhfjhpaaCsb
import Derived.Test.YtlpeifdmhfjhpaaBg
import Derived.Shelf.Strconv.Clone
import Derived.Deep.RegionWith
namespace Go.Proofs.Ytlpeifdmhfjhpaa
open Go.RowKit
open M
def laysStr_ren : Go.Shelf.Ren := ⟨fun | 316 => 17 | n => n, fun | 37 => 24 | 127 => 42 | 9 => 9 | 5 => 5 | 3 => 3 | 4 => 4 | 0 => 0 | n => n, fun | n => n⟩
theorem laysStr : Go.Proofs.LaysM.n316 Try.prog laysStr_ren := {
  mixed := by kernel_rfl
  f316 := Try.func17.trans (congrArg some (by kernel_rfl))
  t0 := Try.underlying0
  a0 := Try.isAgg0
  z0 := Try.sizeOf0
  v0 := Try.zeroValue0
  t3 := Try.underlying3
  a3 := Try.isAgg3
  z3 := Try.sizeOf3
  v3 := Try.zeroValue3
  t4 := Try.underlying4
  a4 := Try.isAgg4
  z4 := Try.sizeOf4
  v4 := Try.zeroValue4
  t9 := Try.underlying9
  a9 := Try.isAgg9
  z9 := Try.sizeOf9
  v9 := Try.zeroValue9
  t37 := Try.underlying24
  a37 := Try.isAgg24
  z37 := Try.sizeOf24
  v37 := Try.zeroValue24
  t127 := Try.underlying42
  a127 := Try.isAgg42
  z127 := Try.sizeOf42
  v127 := Try.zeroValue42
  t5 := Try.underlying5
  a5 := Try.isAgg5
  z5 := Try.sizeOf5
  v5 := Try.zeroValue5
  i0 := by kernel_rfl
  i3 := by kernel_rfl
  i4 := by kernel_rfl
  i5 := by kernel_rfl
  i9 := by kernel_rfl
  i37 := by kernel_rfl
  i127 := by kernel_rfl }
theorem clone_text (s : ByteArray) (w : World) (hs : s.size ≤ 10000) :
    Calls Try.prog 14 #[.string s] w fun e w' => e = .returned (.string s) ∧ Below w.heap.size w w' := by
  have H := Lib.hid (Any.stringslite_Clone laysStr s w (by omega))
  go_enter Try.func14, Try.ntmps14
  go_wp2_with fail
  refine Calls.mono H.out ?_
  rintro e w' ⟨rfl, hb⟩
  go_wp2
  go_ret
  exact ⟨rfl, hb⟩
/-- A sum's bytes. -/
def ld15 (n : Nat) : ByteArray := ofB [UInt8.ofNat (n / 256), UInt8.ofNat (n % 256)]
theorem conv_two (W : World) (g : Nat) (a b : UInt8) (t : TypeId) (hg : W.heap.size = g) :
    (convert 24 9 (.slice (some ⟨g, 0, none⟩) 2 2)).run Try.prog (W.alloc (.cells #[.int .u8 (ub a), .int .u8 (ub b)] t)) = .ok (.string (ofB [a, b])) (W.alloc (.cells #[.int .u8 (ub a), .int .u8 (ub b)] t)) := by
  subst hg
  refine run_conv _ W.heap.size 0 2 2 [a, b] rfl fun i hi => ?_
  rcases (show i = 0 ∨ i = 1 by simp at hi; omega) with rfl | rfl
  · exact cell_of_row _ _ _ _ _ _ (row_new W _ rfl #[.int .u8 (ub a), .int .u8 (ub b)] t)
  · exact cell_of_row _ _ _ _ _ _ (row_new W _ rfl #[.int .u8 (ub a), .int .u8 (ub b)] t)
theorem ub_hi (n : Nat) : ub (UInt8.ofNat (n / 256)) = ((n / 256 % 256 : Nat) : Int) := by unfold ub; rw [UInt8.toNat_ofNat']
theorem ub_lo (n : Nat) : ub (UInt8.ofNat (n % 256)) = ((n % 256 : Nat) : Int) := by unfold ub; rw [UInt8.toNat_ofNat', Nat.mod_mod]
theorem laid_any (n : Nat) (w : World) :
    Calls Try.prog 13 #[.int .i64 (n : Int)] w fun e w' => e = .returned (.string (ld15 n)) ∧ Below w.heap.size w w' := by
  obtain ⟨a, ha⟩ : ∃ a, UInt8.ofNat (n / 256) = a := ⟨_, rfl⟩
  obtain ⟨b, hb⟩ : ∃ b, UInt8.ofNat (n % 256) = b := ⟨_, rfl⟩
  have e1 := ub_hi n
  have e2 := ub_lo n
  rw [ha] at e1
  rw [hb] at e2
  have k1 : IntKind.u8.wrap ((n : Int) / 256) = ub a := by rw [IntKind.wrap_u8', e1]; omega
  have k2 : IntKind.u8.wrap (n : Int) = ub b := by rw [IntKind.wrap_u8', e2]; omega
  have kc := conv_two w w.heap.size a b 5 rfl
  have HL : Hid (ld15 n = ofB [a, b]) := Lib.hid (by unfold ld15; rw [ha, hb])
  clear ha hb e1 e2
  go_enter Try.func13, Try.ntmps13
  go_wp2
  go_ret
  exact ⟨by rw [HL.out]; rfl, (Below.refl _ _).alloc (Nat.le_refl _) _⟩
theorem more_any (r : Int) (s : ByteArray) (w : World) (hs : s.size ≤ 10000) :
    Calls Try.prog 10 #[.int .i64 r, .string s] w fun e w' => e = .returned (.int .i64 (sm15 r (bl s) : Nat)) ∧ Below w.heap.size w w' := by
  obtain ⟨X, hX⟩ : ∃ X, BitVec.ofNat 16 (r % 65536).toNat = X := ⟨_, rfl⟩
  have e1 : IntKind.u16.wrap r = (X.toNat : Int) := by rw [← hX, IntKind.wrap_u16, BitVec.toNat_ofNat]; omega
  have HE : Hid (sm15 r (bl s) = (crun X (tbt (bl s))).toNat) := Lib.hid (by rw [← hX]; rfl)
  have HS := Lib.hid fun (g : Nat) (w : World) => split_any g X s w hs
  have HR : Hid (Row (w.alloc (.cells #[.int .u16 (X.toNat : Int)] 36)) w.heap.size 36 #[.int .u16 (X.toNat : Int)]) := Lib.hid (row_new w _ rfl _ _)
  have HB := Lib.hid ((Below.refl w.heap.size w).alloc (Nat.le_refl _) (.cells #[.int .u16 (X.toNat : Int)] 36))
  obtain ⟨y, hy⟩ : ∃ y, crun X (tbt (bl s)) = y := ⟨_, rfl⟩
  rw [hy] at HE HS
  have hyb := y.isLt
  have e2 : wrap64 (y.toNat : Int) = (y.toNat : Int) := by rw [wrap64]; omega
  rw [HE.out]
  clear hX hy HE hyb hs
  obtain ⟨n, hn⟩ : ∃ n, X.toNat = n := ⟨_, rfl⟩
  rw [hn] at e1 HR HB HS
  clear hn
  obtain ⟨m, hm⟩ : ∃ m, y.toNat = m := ⟨_, rfl⟩
  rw [hm] at e2 HS ⊢
  clear hm
  go_enter Try.func10, Try.ntmps10
  go_wp2_with fail
  refine (HS.out _ _ HR.out).mono ?_
  rintro e w1 ⟨rfl, hr, hb⟩
  have HB1 := Lib.hid (HB.out.trans hb)
  have c0 : w1.cell? ⟨w.heap.size, 0, none⟩ = some (.int .u16 (m : Int)) := (cell_of_row _ _ 0 _ _ (0, 0) hr).trans rfl
  clear hr hb HR HB HS
  go_wp2
  go_ret
  exact ⟨ret_eq e2, HB1.out⟩
theorem sum_any15 (s : ByteArray) (w : World) (hs : s.size ≤ 10000) :
    Calls Try.prog 11 #[.string s] w fun e w' => e = .returned (.int .i64 (sm15 65535 (bl s) : Nat)) ∧ Below w.heap.size w w' := by
  have H := Lib.hid (more_any 65535 s w hs)
  generalize sm15 65535 (bl s) = m at *
  go_enter Try.func11, Try.ntmps11
  go_wp2_with fail
  refine Calls.mono H.out ?_
  rintro e w' ⟨rfl, hb⟩
  go_wp2
  go_ret
  exact ⟨rfl, hb⟩
set_option maxRecDepth 100000 in
theorem seal_any (s : ByteArray) (w : World) (hs : s.size ≤ 10000) :
    Calls Try.prog 8 #[.string s] w fun e w' => e = .returned (.string (s ++ ld15 (sm15 65535 (bl s)))) ∧ Below w.heap.size w w' := by
  have H := Lib.hid (sum_any15 s w hs)
  generalize sm15 65535 (bl s) = m at *
  have HL := Lib.hid fun w => laid_any m w
  have hsz : (ld15 m).size = 2 := rfl
  generalize ld15 m = t at *
  go_enter Try.func8, Try.ntmps8
  go_wp2_with fail
  refine Calls.mono H.out ?_
  rintro e w1 ⟨rfl, hb⟩
  go_wp2_with fail
  refine (HL.out _).mono ?_
  rintro e w2 ⟨rfl, hb2⟩
  have HB := Lib.hid (hb.trans (hb2.mono hb.size))
  clear hb hb2
  go_wp2
  go_ret
  exact ⟨rfl, HB.out⟩
theorem text_same (b t : ByteArray) (h : b = t) : (@BEq.beq (List UInt8) (@List.instBEq UInt8 (@instBEqOfDecidableEq UInt8 instDecidableEqUInt8)) b.toList t.toList) = true := by
  subst h
  exact beq_self_eq_true _
theorem text_other (b t : ByteArray) (h : ¬ b = t) : (@BEq.beq (List UInt8) (@List.instBEq UInt8 (@instBEqOfDecidableEq UInt8 instDecidableEqUInt8)) b.toList t.toList) = false := by
  rw [beq_eq_false_iff_ne]
  intro e
  rw [toList_bl, toList_bl] at e
  exact h (bl_inj e)
/-- What Open answers. -/
def opT (s : ByteArray) : ByteArray := if s.size < 2 then ByteArray.empty else if s.extract (s.size - 2) s.size = ld15 (sm15 65535 (bl (s.extract 0 (s.size - 2)))) then s.extract 0 (s.size - 2) else ByteArray.empty
def opE (s : ByteArray) : Int := if s.size < 2 then 2 else if s.extract (s.size - 2) s.size = ld15 (sm15 65535 (bl (s.extract 0 (s.size - 2)))) then 0 else 4
set_option maxRecDepth 100000 in
theorem open_any15 (s : ByteArray) (w : World) (hs : s.size ≤ 10000) :
    Calls Try.prog 9 #[.string s] w fun e w' => e = .returned (.tuple #[.string (opT s), .int .i64 (opE s)]) ∧ Below w.heap.size w w' := by
  have hsI : (s.size : Int) ≤ 10000 := by omega
  by_cases h2 : s.size < 2
  · have e1 : opT s = ByteArray.empty := by unfold opT; rw [if_pos h2]
    have e2 : opE s = 2 := by unfold opE; rw [if_pos h2]
    have h2I : (s.size : Int) - 2 < 0 := by omega
    have hw : wrap64 ((s.size : Int) - 2) = (s.size : Int) - 2 := by rw [wrap64]; omega
    rw [e1, e2]
    clear e1 e2 h2 hs
    go_enter Try.func9, Try.ntmps9
    go_wp2
    go_ret2
    exact ⟨rfl, Below.refl _ _⟩
  · obtain ⟨n, hn⟩ : ∃ n, s.size = n + 2 := ⟨s.size - 2, by omega⟩
    have hw : (s.size : Int) - 2 = (n : Int) := by omega
    obtain ⟨a, ha⟩ : ∃ a, s.extract 0 n = a := ⟨_, rfl⟩
    obtain ⟨b, hb⟩ : ∃ b, s.extract n s.size = b := ⟨_, rfl⟩
    have hasz : a.size ≤ 10000 := by rw [← ha, ByteArray.size_extract]; omega
    have hl : ∀ w, _ := fun w => laid_any (sm15 65535 (bl a)) w
    have hsu : ∀ w, _ := fun w => sum_any15 a w hasz
    have hcl := Lib.hid fun w => clone_text a w hasz
    have HT : Hid (opT s = if b = ld15 (sm15 65535 (bl a)) then a else ByteArray.empty) := Lib.hid (by unfold opT; rw [if_neg h2, show s.size - 2 = n by omega, ha, hb])
    have HE : Hid (opE s = if b = ld15 (sm15 65535 (bl a)) then 0 else 4) := Lib.hid (by unfold opE; rw [if_neg h2, show s.size - 2 = n by omega, ha, hb])
    generalize sm15 65535 (bl a) = m at *
    generalize ld15 m = t at *
    generalize opT s = x at *
    generalize opE s = y at *
    have HT1 : Hid (∀ d os, Calls Try.prog 11 #[.string a] (Sort.grow (redrawn w d) os) fun e w'' => e = .returned (.int .i64 (m : Int)) ∧ ∃ p : Regrown, w'' = Sort.grow (redrawn w p.d) p.os) :=
      Lib.hid fun d os => Calls.regrown_of (hsu _)
    have HT2 : Hid (∀ d os, Calls Try.prog 13 #[.int .i64 (m : Int)] (Sort.grow (redrawn w d) os) fun e w'' => e = .returned (.string t) ∧ ∃ p : Regrown, w'' = Sort.grow (redrawn w p.d) p.os) :=
      Lib.hid fun d os => Calls.regrown_of (hl _)
    clear hsu hl hs hasz h2
    have hnI : (n : Int) ≤ (s.size : Int) := by omega
    have hnI0 : ¬ (n : Int) < 0 := by omega
    have hnn : n ≤ s.size := by omega
    clear hn
    go_enter Try.func9, Try.ntmps9
    go_wp2_with fail
    refine wp_region_quiet_below (by kernel_rfl) (by kernel_rfl) ?_
    repeat (quiet_step (first | (go_at_call 11; exact HT1.out _ _) | (go_at_call 13; exact HT2.out _ _)))
    refine wpQuiet_nil ?_
    intro _ hw'
    obtain ⟨⟨dq, osq⟩, hw''⟩ := hw'
    subst hw''
    have HB := Lib.hid ((below_regrown w dq osq))
    generalize Sort.grow (redrawn w dq) osq = wq at *
    clear HT1 HT2
    by_cases he : b = t
    · have e1 : x = a := by rw [HT.out, if_pos he]
      have e2 : y = 0 := by rw [HE.out, if_pos he]
      rw [text_same b t he, Bool.not_true]
      subst e1
      subst e2
      clear HT HE
      go_wp2_with fail
      refine (hcl.out _).mono ?_
      rintro e w2 ⟨rfl, hb2⟩
      have HB2 := Lib.hid (HB.out.trans (hb2.mono HB.out.size))
      clear hb2 HB
      go_wp2
      go_ret2
      exact ⟨rfl, HB2.out⟩
    · have e1 : x = ByteArray.empty := by rw [HT.out, if_neg he]
      have e2 : y = 4 := by rw [HE.out, if_neg he]
      rw [text_other b t he, Bool.not_false]
      subst e1
      subst e2
      clear HT HE he
      go_wp2
      go_ret2
      exact ⟨rfl, HB.out⟩
end Go.Proofs.Ytlpeifdmhfjhpaa
