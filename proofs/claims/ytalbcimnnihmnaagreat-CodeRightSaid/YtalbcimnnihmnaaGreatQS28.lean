/-
  Contracts and plain facts that the laws share; each piece is headed by what it holds and its conditions.
-/
import Derived.Test.YtalbcimnnihmnaaGreatQS23
import Derived.Test.YtalbcimnnihmnaaGreatQS7
import Derived.Test.YtalbcimnnihmnaaGreatQS27
import Derived.Test.YtalbcimnnihmnaaGreatQS26
import Derived.Test.YtalbcimnnihmnaaGreatQS14
import Derived.Test.YtalbcimnnihmnaaGreatQS8
import Derived.Test.YtalbcimnnihmnaaGreatQS21
import Derived.Test.YtalbcimnnihmnaaGreatQS3
import Derived.Test.YtalbcimnnihmnaaGreatQS2
import Derived.Shelf.Strconv.Clone
import Derived.Deep.RegionWith

/- A sum's two bytes, and the text of them. No conditions but those that each fact names. -/
namespace Go.Proofs.YtalbcimnnihmnaaGreat
open Go.RowKit
open M
theorem conv_two (W : World) (g : Nat) (a b : UInt8) (t : TypeId) (hg : W.heap.size = g) :
    (convert 57 9 (.slice (some ⟨g, 0, none⟩) 2 2)).run Tryz.prog (W.alloc (.cells #[.int .u8 (ub a), .int .u8 (ub b)] t)) = .ok (.string (ofB [a, b])) (W.alloc (.cells #[.int .u8 (ub a), .int .u8 (ub b)] t)) := by
  subst hg
  refine run_conv _ W.heap.size 0 2 2 [a, b] rfl fun i hi => ?_
  rcases (show i = 0 ∨ i = 1 by simp at hi; omega) with rfl | rfl
  · exact cell_of_row _ _ _ _ _ _ (row_new W _ rfl #[.int .u8 (ub a), .int .u8 (ub b)] t)
  · exact cell_of_row _ _ _ _ _ _ (row_new W _ rfl #[.int .u8 (ub a), .int .u8 (ub b)] t)
end Go.Proofs.YtalbcimnnihmnaaGreat

/- Layer 15: the sum's bytes, More, Sum, Seal and Open of the program. Conditions: texts of up to 10000 bytes. -/
namespace Go.Proofs.YtalbcimnnihmnaaGreat
open Go.RowKit
open M
def laysStr_ren : Go.Shelf.Ren := ⟨fun | 316 => 82 | n => n, fun | 37 => 57 | 127 => 156 | 9 => 9 | 5 => 5 | 3 => 3 | 4 => 4 | 0 => 0 | n => n, fun | n => n⟩
theorem laysStr : Go.Proofs.LaysM.n316 Tryz.prog laysStr_ren := {
  mixed := by kernel_rfl
  f316 := Tryz.func82.trans (congrArg some (by kernel_rfl))
  t0 := Tryz.underlying0
  a0 := Tryz.isAgg0
  z0 := Tryz.sizeOf0
  v0 := Tryz.zeroValue0
  t3 := Tryz.underlying3
  a3 := Tryz.isAgg3
  z3 := Tryz.sizeOf3
  v3 := Tryz.zeroValue3
  t4 := Tryz.underlying4
  a4 := Tryz.isAgg4
  z4 := Tryz.sizeOf4
  v4 := Tryz.zeroValue4
  t9 := Tryz.underlying9
  a9 := Tryz.isAgg9
  z9 := Tryz.sizeOf9
  v9 := Tryz.zeroValue9
  t37 := Tryz.underlying57
  a37 := Tryz.isAgg57
  z37 := Tryz.sizeOf57
  v37 := Tryz.zeroValue57
  t127 := Tryz.underlying156
  a127 := Tryz.isAgg156
  z127 := Tryz.sizeOf156
  v127 := Tryz.zeroValue156
  t5 := Tryz.underlying5
  a5 := Tryz.isAgg5
  z5 := Tryz.sizeOf5
  v5 := Tryz.zeroValue5
  i0 := by kernel_rfl
  i3 := by kernel_rfl
  i4 := by kernel_rfl
  i5 := by kernel_rfl
  i9 := by kernel_rfl
  i37 := by kernel_rfl
  i127 := by kernel_rfl }
theorem clone_text (s : ByteArray) (w : World) (hs : s.size ≤ 10000) :
    Calls Tryz.prog 57 #[.string s] w fun e w' => e = .returned (.string s) ∧ Below w.heap.size w w' := by
  have H := Lib.hid (Any.stringslite_Clone laysStr s w (by omega))
  go_enter Tryz.func57, Tryz.ntmps57
  go_wp2_with fail
  refine Calls.mono H.out ?_
  rintro e w' ⟨rfl, hb⟩
  go_wp2
  go_ret
  exact ⟨rfl, hb⟩
theorem laid_any (n : Nat) (w : World) :
    Calls Tryz.prog 54 #[.int .i64 (n : Int)] w fun e w' => e = .returned (.string (ld15 n)) ∧ Below w.heap.size w w' := by
  obtain ⟨a, ha⟩ : ∃ a, UInt8.ofNat (n / 256) = a := ⟨_, rfl⟩
  obtain ⟨b, hb⟩ : ∃ b, UInt8.ofNat (n % 256) = b := ⟨_, rfl⟩
  have e1 := ub_hi n
  have e2 := ub_lo n
  rw [ha] at e1
  rw [hb] at e2
  have k1 : IntKind.u8.wrap ((n : Int) / 256) = ub a := by rw [IntKind.wrap_u8', e1]; omega
  have k2 : IntKind.u8.wrap (n : Int) = ub b := by rw [IntKind.wrap_u8', e2]; omega
  have kc := conv_two w w.heap.size a b 5 rfl
  have HL : Hid (ld15 n = ofB [a, b]) := Lib.hid (by unfold ld15; rw [ha, hb])
  clear ha hb e1 e2
  go_enter Tryz.func54, Tryz.ntmps54
  go_wp2
  go_ret
  exact ⟨by rw [HL.out]; rfl, (Below.refl _ _).alloc (Nat.le_refl _) _⟩
theorem more15_any (r : Int) (s : ByteArray) (w : World) (hs : s.size ≤ 10000) :
    Calls Tryz.prog 75 #[.int .i64 r, .string s] w fun e w' => e = .returned (.int .i64 (sm15 r (bl s) : Nat)) ∧ Below w.heap.size w w' := by
  obtain ⟨X, hX⟩ : ∃ X, BitVec.ofNat 16 (r % 65536).toNat = X := ⟨_, rfl⟩
  have e1 : IntKind.u16.wrap r = (X.toNat : Int) := by rw [← hX, IntKind.wrap_u16, BitVec.toNat_ofNat]; omega
  have HE : Hid (sm15 r (bl s) = (crun X (tbt (bl s))).toNat) := Lib.hid (by rw [← hX]; rfl)
  have HS := Lib.hid fun (g : Nat) (w : World) => split_any g X s w hs
  have HR : Hid (Row (w.alloc (.cells #[.int .u16 (X.toNat : Int)] 150)) w.heap.size 150 #[.int .u16 (X.toNat : Int)]) := Lib.hid (row_new w _ rfl _ _)
  have HB := Lib.hid ((Below.refl w.heap.size w).alloc (Nat.le_refl _) (.cells #[.int .u16 (X.toNat : Int)] 150))
  obtain ⟨y, hy⟩ : ∃ y, crun X (tbt (bl s)) = y := ⟨_, rfl⟩
  rw [hy] at HE HS
  have hyb := y.isLt
  have e2 : wrap64 (y.toNat : Int) = (y.toNat : Int) := by rw [wrap64]; omega
  rw [HE.out]
  clear hX hy HE hyb hs
  obtain ⟨n, hn⟩ : ∃ n, X.toNat = n := ⟨_, rfl⟩
  rw [hn] at e1 HR HB HS
  clear hn
  obtain ⟨m, hm⟩ : ∃ m, y.toNat = m := ⟨_, rfl⟩
  rw [hm] at e2 HS ⊢
  clear hm
  go_enter Tryz.func75, Tryz.ntmps75
  go_wp2_with fail
  refine (HS.out _ _ HR.out).mono ?_
  rintro e w1 ⟨rfl, hr, hb⟩
  have HB1 := Lib.hid (HB.out.trans hb)
  have c0 : w1.cell? ⟨w.heap.size, 0, none⟩ = some (.int .u16 (m : Int)) := (cell_of_row _ _ 0 _ _ (0, 0) hr).trans rfl
  clear hr hb HR HB HS
  go_wp2
  go_ret
  exact ⟨ret_eq e2, HB1.out⟩
theorem sum_any15 (s : ByteArray) (w : World) (hs : s.size ≤ 10000) :
    Calls Tryz.prog 55 #[.string s] w fun e w' => e = .returned (.int .i64 (sm15 65535 (bl s) : Nat)) ∧ Below w.heap.size w w' := by
  have H := Lib.hid (more15_any 65535 s w hs)
  generalize sm15 65535 (bl s) = m at *
  go_enter Tryz.func55, Tryz.ntmps55
  go_wp2_with fail
  refine Calls.mono H.out ?_
  rintro e w' ⟨rfl, hb⟩
  go_wp2
  go_ret
  exact ⟨rfl, hb⟩
set_option maxRecDepth 100000 in
theorem seal_any (s : ByteArray) (w : World) (hs : s.size ≤ 10000) :
    Calls Tryz.prog 23 #[.string s] w fun e w' => e = .returned (.string (s ++ ld15 (sm15 65535 (bl s)))) ∧ Below w.heap.size w w' := by
  have H := Lib.hid (sum_any15 s w hs)
  generalize sm15 65535 (bl s) = m at *
  have HL := Lib.hid fun w => laid_any m w
  have hsz : (ld15 m).size = 2 := rfl
  generalize ld15 m = t at *
  go_enter Tryz.func23, Tryz.ntmps23
  go_wp2_with fail
  refine Calls.mono H.out ?_
  rintro e w1 ⟨rfl, hb⟩
  go_wp2_with fail
  refine (HL.out _).mono ?_
  rintro e w2 ⟨rfl, hb2⟩
  have HB := Lib.hid (hb.trans (hb2.mono hb.size))
  clear hb hb2
  go_wp2
  go_ret
  exact ⟨rfl, HB.out⟩
theorem text_same (b t : ByteArray) (h : b = t) : (@BEq.beq (List UInt8) (@List.instBEq UInt8 (@instBEqOfDecidableEq UInt8 instDecidableEqUInt8)) b.toList t.toList) = true := by
  subst h
  exact beq_self_eq_true _
theorem text_other (b t : ByteArray) (h : ¬ b = t) : (@BEq.beq (List UInt8) (@List.instBEq UInt8 (@instBEqOfDecidableEq UInt8 instDecidableEqUInt8)) b.toList t.toList) = false := by
  rw [beq_eq_false_iff_ne]
  intro e
  rw [toList_bl, toList_bl] at e
  exact h (bl_inj e)
/-- What Open answers. -/
def opT (s : ByteArray) : ByteArray := if s.size < 2 then ByteArray.empty else if s.extract (s.size - 2) s.size = ld15 (sm15 65535 (bl (s.extract 0 (s.size - 2)))) then s.extract 0 (s.size - 2) else ByteArray.empty
def opE (s : ByteArray) : Int := if s.size < 2 then 2 else if s.extract (s.size - 2) s.size = ld15 (sm15 65535 (bl (s.extract 0 (s.size - 2)))) then 0 else 4
set_option maxRecDepth 100000 in
theorem open_any15 (s : ByteArray) (w : World) (hs : s.size ≤ 10000) :
    Calls Tryz.prog 26 #[.string s] w fun e w' => e = .returned (.tuple #[.string (opT s), .int .i64 (opE s)]) ∧ Below w.heap.size w w' := by
  have hsI : (s.size : Int) ≤ 10000 := by omega
  by_cases h2 : s.size < 2
  · have e1 : opT s = ByteArray.empty := by unfold opT; rw [if_pos h2]
    have e2 : opE s = 2 := by unfold opE; rw [if_pos h2]
    have h2I : (s.size : Int) - 2 < 0 := by omega
    have hw : wrap64 ((s.size : Int) - 2) = (s.size : Int) - 2 := by rw [wrap64]; omega
    rw [e1, e2]
    clear e1 e2 h2 hs
    go_enter Tryz.func26, Tryz.ntmps26
    go_wp2
    go_ret2
    exact ⟨rfl, Below.refl _ _⟩
  · obtain ⟨n, hn⟩ : ∃ n, s.size = n + 2 := ⟨s.size - 2, by omega⟩
    have hw : (s.size : Int) - 2 = (n : Int) := by omega
    obtain ⟨a, ha⟩ : ∃ a, s.extract 0 n = a := ⟨_, rfl⟩
    obtain ⟨b, hb⟩ : ∃ b, s.extract n s.size = b := ⟨_, rfl⟩
    have hasz : a.size ≤ 10000 := by rw [← ha, ByteArray.size_extract]; omega
    have hl : ∀ w, _ := fun w => laid_any (sm15 65535 (bl a)) w
    have hsu : ∀ w, _ := fun w => sum_any15 a w hasz
    have hcl := Lib.hid fun w => clone_text a w hasz
    have HT : Hid (opT s = if b = ld15 (sm15 65535 (bl a)) then a else ByteArray.empty) := Lib.hid (by unfold opT; rw [if_neg h2, show s.size - 2 = n by omega, ha, hb])
    have HE : Hid (opE s = if b = ld15 (sm15 65535 (bl a)) then 0 else 4) := Lib.hid (by unfold opE; rw [if_neg h2, show s.size - 2 = n by omega, ha, hb])
    generalize sm15 65535 (bl a) = m at *
    generalize ld15 m = t at *
    generalize opT s = x at *
    generalize opE s = y at *
    have HT1 : Hid (∀ d os, Calls Tryz.prog 55 #[.string a] (Sort.grow (redrawn w d) os) fun e w'' => e = .returned (.int .i64 (m : Int)) ∧ ∃ p : Regrown, w'' = Sort.grow (redrawn w p.d) p.os) :=
      Lib.hid fun d os => Calls.regrown_of (hsu _)
    have HT2 : Hid (∀ d os, Calls Tryz.prog 54 #[.int .i64 (m : Int)] (Sort.grow (redrawn w d) os) fun e w'' => e = .returned (.string t) ∧ ∃ p : Regrown, w'' = Sort.grow (redrawn w p.d) p.os) :=
      Lib.hid fun d os => Calls.regrown_of (hl _)
    clear hsu hl hs hasz h2
    have hnI : (n : Int) ≤ (s.size : Int) := by omega
    have hnI0 : ¬ (n : Int) < 0 := by omega
    have hnn : n ≤ s.size := by omega
    clear hn
    go_enter Tryz.func26, Tryz.ntmps26
    go_wp2_with fail
    refine wp_region_quiet_below (by kernel_rfl) (by kernel_rfl) ?_
    repeat (quiet_step (first | (go_at_call 55; exact HT1.out _ _) | (go_at_call 54; exact HT2.out _ _)))
    refine wpQuiet_nil ?_
    intro _ hw'
    obtain ⟨⟨dq, osq⟩, hw''⟩ := hw'
    subst hw''
    have HB := Lib.hid ((below_regrown w dq osq))
    generalize Sort.grow (redrawn w dq) osq = wq at *
    clear HT1 HT2
    by_cases he : b = t
    · have e1 : x = a := by rw [HT.out, if_pos he]
      have e2 : y = 0 := by rw [HE.out, if_pos he]
      rw [text_same b t he, Bool.not_true]
      subst e1
      subst e2
      clear HT HE
      go_wp2_with fail
      refine (hcl.out _).mono ?_
      rintro e w2 ⟨rfl, hb2⟩
      have HB2 := Lib.hid (HB.out.trans (hb2.mono HB.out.size))
      clear hb2 HB
      go_wp2
      go_ret2
      exact ⟨rfl, HB2.out⟩
    · have e1 : x = ByteArray.empty := by rw [HT.out, if_neg he]
      have e2 : y = 4 := by rw [HE.out, if_neg he]
      rw [text_other b t he, Bool.not_false]
      subst e1
      subst e2
      clear HT HE he
      go_wp2
      go_ret2
      exact ⟨rfl, HB.out⟩
end Go.Proofs.YtalbcimnnihmnaaGreat

/- Layer 19, plain: what pack's Read has read, step by step. No conditions but those that each fact names. -/
namespace Go.Proofs.YtalbcimnnihmnaaGreat
open Go.RowKit
open M
theorem rdF_at (s : List UInt8) : ∀ (ns : List Nat) (a i : Nat), i < ns.length → (rdF s a ns).getD i 0 = numOf (readB s (a + (ns.take i).sum) (ns.getD i 0))
  | [], _, _, h => absurd h (by simp)
  | n :: ns, a, 0, _ => by simp [rdF]
  | n :: ns, a, i + 1, h => by
    have := rdF_at s ns (a + n) i (by simpa using h)
    simp only [rdF, List.getD_cons_succ, List.take_succ_cons, List.sum_cons]
    rw [this, Nat.add_assoc]
/-- Where a text is read from, behind b bands. -/
def ps19 (s : ByteArray) (b : Nat) : Nat := 48 + ((wds (sd19 s) s.size).take b).sum
theorem ps_zero (s : ByteArray) : ps19 s 0 = 48 := by simp [ps19]
theorem sum_take (L : List Nat) (b : Nat) (h : b < L.length) : (L.take (b + 1)).sum = (L.take b).sum + L.getD b 0 := by
  rw [List.take_add_one, List.sum_append, List.getElem?_eq_getElem h, List.getD_eq_getElem?_getD, List.getElem?_eq_getElem h]
  simp
theorem ps_step (s : ByteArray) (b : Nat) (hb : b < 8) : ps19 s (b + 1) = ps19 s b + btc (kp19 s b) := by
  unfold ps19
  rw [sum_take _ b (by rw [wds_len]; exact hb), wds_getD _ _ _ hb, Nat.add_assoc]
  rfl
theorem ps_full (s : ByteArray) : ps19 s 8 = 48 + lo19 s := by
  unfold ps19 lo19
  rw [List.take_of_length_le (by rw [wds_len]; exact Nat.le_refl _)]
theorem take_sum_le : ∀ (L : List Nat) (b : Nat), (L.take b).sum ≤ L.sum
  | [], b => by simp
  | x :: L, 0 => by simp
  | x :: L, b + 1 => by
    have := take_sum_le L b
    simp only [List.take_succ_cons, List.sum_cons]
    omega
theorem ps_le (s : ByteArray) (b : Nat) (h : 12 ≤ s.size) : ps19 s b ≤ 8 * (s.size - 2) := by
  have h1 := take_sum_le (wds (sd19 s) s.size) b
  have h2 := wds_sum (sd19 s) s.size
  unfold ps19
  omega
theorem ix_read (s : ByteArray) (b : Nat) (hb : b < 8) : (ix19 s).getD b 0 = numOf (readB (bd19 s) (ps19 s b) (btc (kp19 s b))) := by
  unfold ix19
  rw [rdF_at _ _ _ _ (by rw [wds_len]; exact hb), wds_getD _ _ _ hb]
  rfl
/-- The shape, as far as b bands. -/
def shN (s : ByteArray) (b : Nat) : List Int := (List.range 40).map fun p => if p < 8 then ((sd19 s).getD p 0 : Int) else if p < 8 + 4 * b then (vc13 4 (kp19 s ((p - 8) / 4)) ((ix19 s).getD ((p - 8) / 4) 0)).getD ((p - 8) % 4) 0 else 0
theorem shN_len (s : ByteArray) (b : Nat) : (shN s b).length = 40 := by simp [shN]
theorem shN_full (s : ByteArray) : shN s 8 = sh19 s := by
  refine (tm_ext _ 40 _ (shN_len _ _) fun p hp => ?_)
  unfold shN
  rw [tm_getD _ _ _ hp]
  by_cases h : p < 8
  · rw [if_pos h, if_pos h]
  · rw [if_neg h, if_neg h, if_pos (by omega)]
/-- The steps that head read. -/
theorem head_sd (s : ByteArray) : sdp (bd19 s) 8 = (sd19 s).map fun x : Nat => (x : Int) := (rd_head (bd19 s)).2
theorem head_fr (s : ByteArray) : numOf (readB (bd19 s) 0 16) = fr19 s := (rd_head (bd19 s)).1.symm
theorem shN_zero (s : ByteArray) : ppu (zp41.set 0 (fr19 s : Int)) 1 (sdp (bd19 s) 8) = (fr19 s : Int) :: shN s 0 := by
  refine Eq.symm (tm_ext _ _ _ (by simp [zp41, shN_len]) fun p hp => ?_)
  have hp41 : p < 41 := by simpa [zp41] using hp
  rw [sdp_len, head_sd]
  cases p with
  | zero => rw [if_neg (by omega)]; rfl
  | succ p =>
    show (shN s 0).getD p 0 = _
    unfold shN
    rw [tm_getD _ _ _ (by omega)]
    by_cases h : p < 8
    · rw [if_pos h, if_pos (by omega), Nat.add_sub_cancel, List.getD_eq_getElem?_getD, List.getD_eq_getElem?_getD, List.getElem?_map, List.getElem?_eq_getElem (by rw [sd19_len]; exact h)]
      rfl
    · rw [if_neg h, if_neg (by omega), if_neg (by omega)]
      show _ = (List.replicate 40 (0 : Int)).getD p 0
      rw [List.getD_eq_getElem?_getD, List.getElem?_replicate]
      split <;> rfl
theorem shN_put (s : ByteArray) (b : Nat) (y : List Int) (hb : b < 8) (hy : y = vc13 4 (kp19 s b) ((ix19 s).getD b 0)) (h4 : y.length = 4) : ppu ((fr19 s : Int) :: shN s b) (9 + b * 4) y = (fr19 s : Int) :: shN s (b + 1) := by
  refine Eq.symm (tm_ext _ _ _ (by simp [shN_len]) fun p hp => ?_)
  have hp41 : p < 41 := by simpa [shN_len] using hp
  rw [h4]
  cases p with
  | zero => rw [if_neg (by omega)]; rfl
  | succ p =>
    show (shN s (b + 1)).getD p 0 = _
    have e0 : ((fr19 s : Int) :: shN s b).getD (p + 1) 0 = (shN s b).getD p 0 := rfl
    rw [e0]
    unfold shN
    rw [tm_getD _ _ _ (by omega), tm_getD _ _ _ (by omega)]
    by_cases h : p < 8
    · rw [if_pos h, if_neg (by omega), if_pos h]
    · rw [if_neg h, if_neg h]
      by_cases h1 : p < 8 + 4 * b
      · rw [if_pos (by omega), if_neg (by omega), if_pos h1]
      · by_cases h2 : p < 8 + 4 * (b + 1)
        · rw [if_pos h2, if_pos (by omega), show (p - 8) / 4 = b by omega, hy]
          congr 1
          omega
        · rw [if_neg h2, if_neg (by omega), if_neg h1]
theorem zpk : pk0 = zp41 := rfl
theorem e19_arg (s : ByteArray) (h : ¬ (12 ≤ s.size ∧ s.size ≤ 24)) : e19 s = 1 ∧ p19 s = zp41 := by
  have e : e19 s = 1 := if_neg h
  exact ⟨e, by unfold p19; rw [e]; rfl⟩
theorem e19_sum (s : ByteArray) (h : 12 ≤ s.size ∧ s.size ≤ 24) (h2 : so19 s = false) : e19 s = 4 ∧ p19 s = zp41 := by
  have e : e19 s = 4 := by unfold e19; rw [if_pos h, if_neg (by rw [h2]; decide)]
  exact ⟨e, by unfold p19; rw [e]; rfl⟩
theorem e19_form (s : ByteArray) (h : 12 ≤ s.size ∧ s.size ≤ 24) (h2 : so19 s = true) (h3 : fo19 s = false) : e19 s = 3 ∧ p19 s = zp41 := by
  have e : e19 s = 3 := by unfold e19; rw [if_pos h, if_pos h2, if_neg (by rw [h3]; decide)]
  exact ⟨e, by unfold p19; rw [e]; rfl⟩
theorem e19_ok (s : ByteArray) (h : 12 ≤ s.size ∧ s.size ≤ 24) (h2 : so19 s = true) (h3 : fo19 s = true) : e19 s = 0 ∧ p19 s = (fr19 s : Int) :: shN s 8 := by
  have e : e19 s = 0 := by unfold e19; rw [if_pos h, if_pos h2, if_pos h3]
  exact ⟨e, by unfold p19; rw [if_pos e, shN_full]⟩
/-- What opening says. -/
theorem open_so (s : ByteArray) (h : 12 ≤ s.size) : (so19 s = true → opE s = 0 ∧ bl (opT s) = bd19 s) ∧ (so19 s = false → opE s = 4) := by
  have hl : (bl s).length = (s.size - 2) + 2 := by rw [bl_length]; omega
  have hs := sealed_iff (bl s) (s.size - 2) hl
  rw [ofB_bl] at hs
  have hsz : ¬ s.size < 2 := by omega
  have oE : opE s = if s.extract (s.size - 2) s.size = ld15 (sm15 65535 (bl (s.extract 0 (s.size - 2)))) then 0 else 4 := if_neg hsz
  have oT : opT s = if s.extract (s.size - 2) s.size = ld15 (sm15 65535 (bl (s.extract 0 (s.size - 2)))) then s.extract 0 (s.size - 2) else ByteArray.empty := if_neg hsz
  unfold so19
  rw [oE, oT]
  constructor
  · intro h2
    have h3 := hs.2 (beq_iff_eq.1 h2)
    rw [if_pos h3, if_pos h3]
    refine ⟨rfl, ?_⟩
    rw [bl_extract, List.drop_zero, Nat.sub_zero]
    rfl
  · intro h2
    have h3 : ¬ s.extract (s.size - 2) s.size = ld15 (sm15 65535 (bl (s.extract 0 (s.size - 2)))) := fun e => by
      rw [beq_eq_false_iff_ne] at h2
      exact h2 (hs.1 e)
    rw [if_neg h3]
theorem fo_band (s : ByteArray) (b : Nat) (hb : b < 8) (h : ¬ (ix19 s).getD b 0 < cn13 4 (kp19 s b)) : fo19 s = false := by
  have : ((List.range 8).all fun b => decide ((ix19 s).getD b 0 < cn13 4 (kp19 s b))) = false := by
    rw [List.all_eq_false]
    exact ⟨b, List.mem_range.2 hb, by simpa using h⟩
  unfold fo19
  rw [this, Bool.false_and]
theorem allz_rep (l : List Bool) : allz l = (l == List.replicate l.length false) := by
  induction l with
  | nil => rfl
  | cons b l ih =>
    show (!b && allz l) = ((b :: l) == (false :: List.replicate l.length false))
    rw [ih]
    cases b <;> simp
theorem fo_all (s : ByteArray) (h : ∀ b, b < 8 → (ix19 s).getD b 0 < cn13 4 (kp19 s b)) : fo19 s = allz (readB (bd19 s) (ps19 s 8) (8 * (s.size - 2) - ps19 s 8)) := by
  have h1 : ((List.range 8).all fun b => decide ((ix19 s).getD b 0 < cn13 4 (kp19 s b))) = true := by
    rw [List.all_eq_true]
    exact fun b hb => decide_eq_true (h b (List.mem_range.1 hb))
  unfold fo19
  rw [h1, Bool.true_and, allz_rep, readB_length, ps_full, show 8 * (s.size - 2) - (48 + lo19 s) = 8 * s.size - 64 - lo19 s by omega]
/-- What give's Pulses says of the steps that were read. -/
theorem pu_read (s : ByteArray) (h : 12 ≤ s.size ∧ s.size ≤ 24) : puI (sdp (bd19 s) 8) (8 * (s.size : Int) - 64) = kl18 (kp19 s) ∧ puE (sdp (bd19 s) 8) (8 * (s.size : Int) - 64) = 0 := by
  have hd : ∀ b, b < 8 → (sdp (bd19 s) 8).getD b 0 = ((sd19 s).getD b 0 : Int) := fun b hb => by
    rw [head_sd, List.getD_eq_getElem?_getD, List.getD_eq_getElem?_getD, List.getElem?_map, List.getElem?_eq_getElem (by rw [sd19_len]; exact hb)]
    rfl
  have hr : rt17 (sdp (bd19 s) 8) = true := (rt_iff _).2 fun b hb => by
    have := sd19_lt s b hb
    rw [hd b hb]
    omega
  have ho : ok18 (sdp (bd19 s) 8) (8 * (s.size : Int) - 64) := ⟨hr, by omega, by omega⟩
  unfold puI puE
  rw [if_pos ho, if_pos ho, show (8 * (s.size : Int) - 64).toNat = 8 * s.size - 64 by omega]
  refine ⟨?_, rfl⟩
  have e : (fun b => (sdp (bd19 s) 8).getD b 0) = fun b => ((sd19 s).getD b 0 : Int) := by
    funext b
    rcases Nat.lt_or_ge b 8 with hb | hb
    · exact hd b hb
    · rw [List.getD_eq_getElem?_getD, List.getElem?_eq_none (by rw [sdp_len]; exact hb), List.getD_eq_getElem?_getD, List.getElem?_eq_none (by rw [sd19_len]; exact hb)]
      rfl
  rw [e]
  rfl
end Go.Proofs.YtalbcimnnihmnaaGreat

/- Plain facts of layer 18: bands on the way to their pulses, in a heap; what its first one tells of who is next. No program is named here. No conditions but those that each fact names. -/
namespace Go.Proofs.YtalbcimnnihmnaaGreat.M
/-- A band on the way: which one, its step, how many pulses it has. -/
def fk18 (p : Nat × Int × Nat) : Int × Nat := ((p.2.2 : Int) - p.2.1, p.1)
def lt18 (p q : Nat × Int × Nat) : Bool := ltE (fk18 p) (fk18 q)
theorem lt18_ls : Ls lt18 := ⟨fun _ _ h => ltE_ls.1 _ _ h, fun _ _ _ h k => ltE_ls.2 _ _ _ h k⟩
theorem lt18_ne (p q : Nat × Int × Nat) (h : p.2.1 - (p.2.2 : Int) ≠ q.2.1 - (q.2.2 : Int)) : lt18 p q = decide (p.2.1 - (p.2.2 : Int) > q.2.1 - (q.2.2 : Int)) := by
  unfold lt18 ltE fk18
  simp only
  congr 1
  simp only [eq_iff_iff]
  omega
theorem lt18_eq (p q : Nat × Int × Nat) (h : p.2.1 - (p.2.2 : Int) = q.2.1 - (q.2.2 : Int)) : lt18 p q = decide (p.1 < q.1) := by
  unfold lt18 ltE fk18
  simp only
  congr 1
  simp only [eq_iff_iff]
  omega
theorem lt18_false (p q : Nat × Int × Nat) : lt18 p q = false ↔ ¬ (p.2.1 - (p.2.2 : Int) > q.2.1 - (q.2.2 : Int) ∨ (p.2.1 - (p.2.2 : Int) = q.2.1 - (q.2.2 : Int) ∧ p.1 < q.1)) := by
  unfold lt18 fk18
  rw [ltE_false]
  simp only
  omega
/-- Which bands are in the heap, as far as pulses are given. -/
structure In18 (s : Nat → Int) (k : Nat → Nat) (l : Nat) (L : List (Nat × Int × Nat)) : Prop where
  is : ∀ p ∈ L, p.1 < 8 ∧ p.2.1 = s p.1 ∧ p.2.2 = k p.1
  all : ∀ b, b < 8 → cang k l b = true → ∃ p ∈ L, p.1 = b
  one : (L.map (·.1)).Nodup
theorem In18.perm {s : Nat → Int} {k : Nat → Nat} {l : Nat} {L R : List (Nat × Int × Nat)} (H : In18 s k l L) (h : L.Perm R) : In18 s k l R :=
  ⟨fun p hp => H.is p (h.mem_iff.2 hp), fun b hb hc => by
    obtain ⟨p, h1, h2⟩ := H.all b hb hc
    exact ⟨p, h.mem_iff.1 h1, h2⟩, (h.map _).nodup_iff.1 H.one⟩
/-- At first all eight. -/
def q18 (s : Nat → Int) : List (Nat × Int × Nat) := (List.range 8).map fun b => (b, s b, 0)
theorem q18_len (s : Nat → Int) : (q18 s).length = 8 := by simp [q18]
theorem q18_next (s : Nat → Int) (k : Nat) (h : k < 8) : (q18 s).take (k + 1) = (q18 s).take k ++ [(k, s k, 0)] := by
  have h2 : k = 0 ∨ k = 1 ∨ k = 2 ∨ k = 3 ∨ k = 4 ∨ k = 5 ∨ k = 6 ∨ k = 7 := by omega
  rcases h2 with rfl | rfl | rfl | rfl | rfl | rfl | rfl | rfl <;> rfl
theorem q18_in (s : Nat → Int) (l : Nat) : In18 s (fun _ => 0) l (q18 s) := by
  refine ⟨fun p hp => ?_, fun b hb _ => ⟨(b, s b, 0), ?_, rfl⟩, ?_⟩
  · simp only [q18, List.mem_map, List.mem_range] at hp
    obtain ⟨b, hb, rfl⟩ := hp
    exact ⟨hb, rfl, rfl⟩
  · simp only [q18, List.mem_map, List.mem_range]
    exact ⟨b, hb, rfl⟩
  · have e : (q18 s).map (·.1) = List.range 8 := by
      simp only [q18, List.map_map]
      exact List.map_id _
    rw [e]
    exact List.nodup_range
/-- What stands first, and can: it is next. -/
theorem In18.next {s : Nat → Int} {k : Nat → Nat} {l : Nat} {L : List (Nat × Int × Nat)} (H : In18 s k l L) (d : Nat × Int × Nat) (h0 : 0 < L.length) (hh : Hp lt18 d L L.length 0) (hc : cang k l (L.getD 0 d).1 = true) : bst s k l 8 = some (L.getD 0 d).1 := by
  obtain ⟨h1, h2, h3⟩ := H.is _ (getD_mem13 L d 0 h0)
  refine bst_one s k l 8 _ h1 hc fun b hb hcb => ?_
  obtain ⟨p, hp, rfl⟩ := H.all b hb hcb
  obtain ⟨j, hj, rfl⟩ := mem_getD L d p hp
  have h := hp_least lt18 lt18_ls d L L.length hh j hj
  obtain ⟨g1, g2, g3⟩ := H.is _ hp
  rw [lt18_false] at h
  rw [← g2, ← g3, ← h2, ← h3]
  omega
theorem In18.tail {s : Nat → Int} {k : Nat → Nat} {l : Nat} {x : Nat × Int × Nat} {R : List (Nat × Int × Nat)} (H : In18 s k l (x :: R)) : x.1 ∉ R.map (·.1) ∧ (R.map (·.1)).Nodup := by
  have h := H.one
  rw [List.map_cons, List.nodup_cons] at h
  exact h
/-- .. and can't: it is out. -/
theorem In18.out {s : Nat → Int} {k : Nat → Nat} {l : Nat} {x : Nat × Int × Nat} {R : List (Nat × Int × Nat)} (H : In18 s k l (x :: R)) (hc : cang k l x.1 = false) : In18 s k l R := by
  refine ⟨fun p hp => H.is p (List.mem_cons_of_mem _ hp), fun b hb hcb => ?_, H.tail.2⟩
  obtain ⟨p, hp, rfl⟩ := H.all b hb hcb
  rcases List.mem_cons.1 hp with rfl | hp
  · rw [hc] at hcb; cases hcb
  · exact ⟨p, hp, rfl⟩
/-- It has one more, and is put in again. -/
theorem In18.more {s : Nat → Int} {k : Nat → Nat} {l l' : Nat} {x : Nat × Int × Nat} {R : List (Nat × Int × Nat)} (H : In18 s k l (x :: R)) (hl : l' ≤ l) : In18 s (mor k x.1) l' (R ++ [(x.1, x.2.1, x.2.2 + 1)]) := by
  obtain ⟨h1, h2⟩ := H.tail
  have hx := H.is x (List.mem_cons_self ..)
  refine ⟨fun p hp => ?_, fun b hb hcb => ?_, ?_⟩
  · rcases List.mem_append.1 hp with hp | hp
    · have := H.is p (List.mem_cons_of_mem _ hp)
      have hne : p.1 ≠ x.1 := fun e => h1 (by rw [← e]; exact List.mem_map_of_mem hp)
      unfold mor
      rw [if_neg hne]
      exact this
    · rw [List.mem_singleton.1 hp]
      unfold mor
      simp only [if_true]
      exact ⟨hx.1, hx.2.1, by rw [hx.2.2]⟩
  · by_cases e : b = x.1
    · exact ⟨_, List.mem_append_right _ (List.mem_singleton.2 rfl), e.symm⟩
    · have hm : mor k x.1 b = k b := by unfold mor; rw [if_neg e]
      obtain ⟨p, hp, rfl⟩ := H.all b hb (cang_falls k (mor k x.1) l l' b hm hl hcb)
      rcases List.mem_cons.1 hp with rfl | hp
      · exact absurd rfl e
      · exact ⟨p, List.mem_append_left _ hp, rfl⟩
  · rw [List.map_append, List.nodup_append]
    refine ⟨h2, by simp, fun a ha b hb => ?_⟩
    simp only [List.map_cons, List.map_nil, List.mem_singleton] at hb
    subst hb
    rintro rfl
    exact h1 ha
/-- Nothing is in it: all are given. -/
theorem In18.none {s : Nat → Int} {k : Nat → Nat} {l : Nat} (H : In18 s k l []) (f : Nat) : gvn s k l f = (k, l) := by
  have hb : bst s k l 8 = Option.none := (bst_none s k l 8).2 fun b hb => by
    cases h : cang k l b with
    | false => rfl
    | true =>
      obtain ⟨p, hp, _⟩ := H.all b hb h
      cases hp
  cases f with
  | zero => rfl
  | succ f => unfold gvn; rw [hb]
theorem gvn_one (s : Nat → Int) (k : Nat → Nat) (l f a : Nat) (h : bst s k l 8 = some a) : gvn s k l (f + 1) = gvn s (mor k a) (l - inc (k a)) f := by
  conv => lhs; unfold gvn
  rw [h]
/-- How many pulses more there could be. -/
theorem sum8_more (k : Nat → Nat) (a : Nat) (ha : a < 8) : sum8 (mor k a) = sum8 k + 1 := sum8_mor k a ha (fun x => x) 1 rfl
end Go.Proofs.YtalbcimnnihmnaaGreat.M
