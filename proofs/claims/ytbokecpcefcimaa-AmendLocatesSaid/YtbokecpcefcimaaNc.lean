/-
  The contracts of layer 4's Inv, and of layer 6's mended. Conditions: the finder lies in a block of its own, as its fields do.
-/
import Derived.Test.YtbokecpcefcimaaNb
namespace Go.Proofs.Ytbokecpcefcimaa
open Go.RowKit
open M

theorem inv_field (a : Int) (g : Nat) (w : World) (ha : inI a) (h : Fd w g) :
    Calls Try.prog 53 #[.pointer (some ⟨g, 0, none⟩), .int .i64 a] w fun e w' => e = .returned (.int .i64 (inv (el a) : Nat)) ∧ Qt w w' := by
  obtain ⟨p, hp⟩ : ∃ p, el a = p := ⟨_, rfl⟩
  have hp1 : p < 128 := by rw [← hp]; exact el_lt a
  have HP := Lib.hid hp
  have HA := Lib.hid ha
  have HF := Lib.hid h
  clear ha h
  by_cases h0 : p = 0
  · subst h0
    clear hp
    go_enter Try.func53, Try.ntmps53
    go_wp2_with fail
    refine (element_any a _ HA.out).mono ?_
    rintro e w1 ⟨rfl, rfl⟩
    rw [HP.out]
    go_wp2
    go_ret
    exact ⟨ret_eq (by rw [HP.out]; rfl), Qt.refl _⟩
  · have e0 : (((p : Nat) : Int) == 0) = false := by rw [beq_eq_false_iff_ne]; omega
    have e0' : ((p : Nat) == 0) = false := by rw [beq_eq_false_iff_ne]; omega
    have H0 := Lib.hid h0
    have hLp := Lg_le p hp1
    have HR : Hid (inv p = E ((127 - Lg p) % 127)) := by unfold Hid inv; rw [if_neg h0]
    clear hp h0
    go_enter Try.func53, Try.ntmps53
    go_wp2_with fail
    refine (element_any a _ HA.out).mono ?_
    rintro e w1 ⟨rfl, rfl⟩
    rw [HP.out]
    go_wp2_with fail
    clear e0 e0'
    refine (log_pos a g _ HA.out HF.out (by rw [HP.out]; exact H0.out)).mono ?_
    rintro e w1 ⟨rfl, hq⟩
    rw [HP.out]
    have HQ1 := Lib.hid hq
    have HF1 := Lib.hid (hq.row HF.out)
    clear hq
    go_wp2_with fail
    refine (exp_any (-(Lg p : Nat) : Int) g _ ⟨by omega, by omega⟩ HF1.out).mono ?_
    rintro e w3 ⟨rfl, hq⟩
    have HQ3 := Lib.hid (HQ1.out.trans hq)
    clear hq
    go_wp2
    go_ret
    refine ⟨ret_eq ?_, HQ3.out⟩
    rw [HP.out, HR.out]
    congr 2
    unfold re; omega
theorem inv_nat (a m g : Nat) (w : World) (ha : a < 128) (hm : inv a = m) (h : Fd w g) :
    Calls Try.prog 53 #[.pointer (some ⟨g, 0, none⟩), .int .i64 (a : Nat)] w fun e w' => e = .returned (.int .i64 (m : Nat)) ∧ Qt w w' := by
  have := inv_field (a : Int) g w ⟨by omega, by omega⟩ h
  rwa [el_nat a ha, hm] at this

/-- The mended polynomial, as far as the loop has come. -/
def mj (P O : List Nat) (k n j : Nat) : List Nat := (List.range n).map fun i => if i < j then P.getD i 0 ^^^ mul k (O.getD i 0) else P.getD i 0
theorem mj_length (P O : List Nat) (k n j : Nat) : (mj P O k n j).length = n := by simp [mj]
theorem mj_at (P O : List Nat) (k n j i : Nat) (hi : i < n) : (mj P O k n j).getD i 0 = if i < j then P.getD i 0 ^^^ mul k (O.getD i 0) else P.getD i 0 := by
  unfold mj; rw [tab_getD _ _ _ _ hi]
theorem mj_set (P O : List Nat) (k n j : Nat) : (mj P O k n j).set j (P.getD j 0 ^^^ mul k (O.getD j 0)) = mj P O k n (j + 1) := by
  unfold mj
  apply tab_set
  · rw [if_pos (by omega)]
  · intro i e
    rcases Nat.lt_or_ge i j with h1 | h1
    · rw [if_pos h1, if_pos (by omega)]
    · rw [if_neg (by omega), if_neg (by omega)]
theorem getD_out (l : List Nat) (i : Nat) (h : l.length ≤ i) : l.getD i 0 = 0 := by
  rw [List.getD_eq_getElem?_getD, List.getElem?_eq_none h]; rfl
/-- The mended polynomial's numbers. -/
theorem mj_all (P O : List Nat) (k i : Nat) (hk : k < 128) : (mj P O k (max P.length O.length) O.length).getD i 0 = P.getD i 0 ^^^ mul k (O.getD i 0) := by
  rcases Nat.lt_or_ge i (max P.length O.length) with h | h
  · rw [mj_at _ _ _ _ _ _ h]
    by_cases h2 : i < O.length
    · rw [if_pos h2]
    · rw [if_neg h2, getD_out O i (by omega), mul_zr k hk, Nat.xor_zero]
  · rw [getD_out _ i (by rw [mj_length]; exact h), getD_out P i (by omega), getD_out O i (by omega), mul_zr k hk]; rfl

/-- copy of a list into a row of 0s. -/
theorem copy_nats (W : World) (g c cap n : Nat) (v : Value) (P O : List Nat) (k : Nat) (hg : Row W g 3 (natCells (List.replicate n 0))) (hc : NAt W v P c) (hn : P.length ≤ n) :
    (Builtin.copy_ #[40, 40] 3 #[.slice (some ⟨g, 0, none⟩) n cap, v]).run Try.prog W = .ok (goInt P.length) (W.setRow g (natCells (mj P O k n 0))) := by
  have hcl := hc.cell
  obtain ⟨pcap, cur, rfl, _, _⟩ := hc
  obtain ⟨i0, hi0, hz0, hz1, hz2⟩ := info_parts int_info
  have h := run_copy_row (P := Try.prog) W 40 40 3 3 g 0 n cap ⟨c, 0, none⟩ P.length pcap (natCells (List.replicate n 0)) 3 (vs P)
    Try.underlying40 (by rw [hi0]; simp [hz1]) hg (by rw [vs_length]; exact (Nat.min_eq_left hn).symm) (fun j v hv => ?_) (by rw [vs_length, natCells_size, List.length_replicate]; omega) (vs_one P)
  · rw [h, vs_length]
    congr 2
    apply Array.ext'
    apply List.ext_getElem?
    intro i
    simp only [natCells, vs, mj]
    rcases Nat.lt_or_ge i P.length with h1 | h1
    · have h2 : i < n := by omega
      simp [List.getElem?_append, h1, h2, List.getD_eq_getElem?_getD]
    · rcases Nat.lt_or_ge i n with h2 | h2
      · have e : i - P.length < n - P.length := by omega
        simp [List.getElem?_append, h2, e, List.getD_eq_getElem?_getD, Nat.not_lt.2 h1]
      · simp [List.getElem?_append, Nat.not_lt.2 h1, Nat.not_lt.2 h2, show ¬ (i - P.length < n - P.length) by omega]
  · have hjl := (List.getElem?_eq_some_iff.1 hv).1
    rw [vs_length] at hjl
    rw [Addr.add_lit, Nat.zero_add, hcl j hjl, ← hv, vs_get P j hjl]

set_option maxRecDepth 100000 in
set_option maxHeartbeats 1000000 in
theorem mended_any (P O : List Nat) (d q f gp go L b : Nat) (vt vp vo : Value) (w : World) (hP : Els P) (hO : Els O) (hd : d < 128) (hb : b < 128) (hp2 : P.length ≤ 1000) (ho2 : O.length ≤ 1000)
    (hq : Row w q 63 (fin6 f vt vp L vo b)) (hpn : NAt w vp P gp) (hon : NAt w vo O go) (hf : Fd w f) :
    Calls Try.prog 45 #[.pointer (some ⟨q, 0, none⟩), .int .i64 (d : Nat)] w fun e w' =>
      e = .returned (.slice (some ⟨w.heap.size, 0, none⟩) (max P.length O.length) (max P.length O.length)) ∧ Row w' w.heap.size 3 (natCells (mj P O (mul d (inv b)) (max P.length O.length) O.length)) ∧ Below w.heap.size w w' := by
  have HP := Lib.hid hP
  have HO := Lib.hid hO
  have HQ := Lib.hid hq
  have HF := Lib.hid hf
  have HPN := Lib.hid hpn
  have HON := Lib.hid hon
  obtain ⟨n, hn⟩ : ∃ n, max P.length O.length = n := ⟨_, rfl⟩
  rw [hn]
  obtain ⟨c0, c1, c2, c3, c4, c5⟩ := fin_cells hq
  obtain ⟨pcap, pcur, hpe, _, _⟩ := hpn
  obtain ⟨ocap, ocur, hoe, _, _⟩ := hon
  rw [hpe] at c2
  rw [hoe] at c4
  obtain ⟨np, hnp⟩ : ∃ np, P.length = np := ⟨_, rfl⟩
  obtain ⟨no, hno⟩ : ∃ no, O.length = no := ⟨_, rfl⟩
  rw [hnp] at c2 hp2 hn
  rw [hno] at c4 ho2 hn
  have HNP := Lib.hid hnp
  have HNO := Lib.hid hno
  have HPE := Lib.hid hpe
  have HOE := Lib.hid hoe
  have hmk : ∀ w, (Instr.makeSlice 40 (.int .i64 (max (np : Int) (no : Int))) (.int .i64 (max (np : Int) (no : Int)))).run Try.prog w = .ok (.slice (some ⟨w.heap.size, 0, none⟩) n n) (w.alloc (.cells (madeCells #[.int .i64 0] n) 3)) := fun w => by
    rw [show max (np : Int) (no : Int) = (n : Int) by omega]
    exact run_make_row' (P := Try.prog) 40 3 (.int .i64 0) 8 Try.underlying40 int_info rfl .i64 .i64 n (by omega) (by omega) w
  obtain ⟨k, hk⟩ : ∃ k, mul d (inv b) = k := ⟨_, rfl⟩
  obtain ⟨ib, hib⟩ : ∃ ib, inv b = ib := ⟨_, rfl⟩
  have hibl : ib < 128 := by rw [← hib]; exact inv_lt b
  rw [hk]
  rw [hib] at hk
  have hkl : k < 128 := by rw [← hk]; exact mul_lt _ _ hd hibl
  have HIB := Lib.hid hib
  have HK := Lib.hid hk
  clear hP hO hq hf hnp hno hpe hoe hib hk
  go_enter Try.func45, Try.ntmps45
  go_wp2
  go_region
  clear hmk c0 c1 c2 c3 c4 c5
  have HR0 : Hid (Row (w.alloc (.cells (madeCells #[.int .i64 0] n) 3)).drew w.heap.size 3 (natCells (List.replicate n 0))) := by
    unfold Hid; rw [← made_nats n]; exact (heap_alloc_new _ _ : Row (w.alloc (.cells (madeCells #[.int .i64 0] n) 3)) _ _ _)
  have HB0 : Hid (Below w.heap.size w (w.alloc (.cells (madeCells #[.int .i64 0] n) 3)).drew) := below_drew1 ((Below.refl _ _).alloc (Nat.le_refl _) _)
  generalize (w.alloc (.cells (madeCells #[.int .i64 0] n) 3)).drew = w1 at *
  have hpg : NAt w1 vp P gp := HPN.out.mono fun _ h => h.below HB0.out h.lt
  have hcp := copy_nats w1 w.heap.size gp n n vp P O k HR0.out hpg (by have := HNP.out; omega)
  rw [HPE.out, HNP.out] at hcp
  have hqx : q < w.heap.size := HQ.out.lt
  have HQ1 : Hid (Row w1 q 63 (fin6 f vt vp L vo b)) := HQ.out.below HB0.out hqx
  obtain ⟨c0, c1, c2, c3, c4, c5⟩ := fin_cells HQ1.out
  rw [HPE.out, HNP.out] at c2
  rw [HOE.out, HNO.out] at c4
  clear hpg
  go_wp2
  clear hcp c0 c1 c2 c3 c4 c5 HQ1
  have HR1 : Hid (Row (w1.setRow w.heap.size (natCells (mj P O k n 0))) w.heap.size 3 (natCells (mj P O k n 0))) := HR0.out.setRow _
  have HB1 : Hid (Below w.heap.size w (w1.setRow w.heap.size (natCells (mj P O k n 0)))) := below_setRow HB0.out (Nat.le_refl _) _
  generalize w1.setRow w.heap.size (natCells (mj P O k n 0)) = w2 at *
  clear HR0 HB0 w1
  have HQ2 : Hid (Row w2 q 63 (fin6 f vt vp L vo b)) := HQ.out.below HB1.out hqx
  have HF2 : Hid (Fd w2 f) := Row.below HF.out HB1.out HF.out.lt
  obtain ⟨c0, c1, c2, c3, c4, c5⟩ := fin_cells HQ2.out
  rw [HOE.out, HNO.out] at c4
  have hI : ∀ W, Fd W f → Calls Try.prog 53 #[.pointer (some ⟨f, 0, none⟩), .int .i64 (b : Nat)] W fun e w' => e = .returned (.int .i64 (ib : Nat)) ∧ Qt W w' := fun W hW => inv_nat b ib f W hb HIB.out hW
  have hM : ∀ W, Fd W f → Calls Try.prog 41 #[.pointer (some ⟨f, 0, none⟩), .int .i64 (d : Nat), .int .i64 (ib : Nat)] W fun e w' => e = .returned (.int .i64 (k : Nat)) ∧ Qt W w' := fun W hW => mul_nat d ib k f W hd hibl HK.out hW
  have HI := Lib.hid hI
  have HM := Lib.hid hM
  clear hI hM HQ2
  go_quiet (first | (go_at_call 53; exact Calls.quiet_of (HI.out _ (HF2.out.drewN _))) | (go_at_call 41; exact Calls.quiet_of (HM.out _ (HF2.out.drewN _))))
  have HR3 : Hid (Row (w2.drewN nq) w.heap.size 3 (natCells (mj P O k n 0))) := HR1.out.drewN nq
  have HB3 : Hid (Below w.heap.size w (w2.drewN nq)) := Below.drewN HB1.out nq
  have k4 : (w2.drewN nq).cell? ⟨q, 4, none⟩ = some (.slice (some ⟨go, 0, none⟩) no ocap) := c4
  clear HR1 HB1 HF2 c0 c1 c2 c3 c4 c5 HI HM
  generalize w2.drewN nq = w3 at *
  clear w2
  go_wp2
  clear k4
  go_loopw [47] (fun i wr => ∃ j : Nat, j ≤ no ∧ i = .int .i64 (j : Nat) ∧ Row wr w.heap.size 3 (natCells (mj P O k n j)) ∧ Below w.heap.size w wr) (fun i _ => no - (intOf i).toNat)
  case atStart => exact ⟨0, by omega, rfl, HR3.out, HB3.out⟩
  case round =>
    clear HR3 HB3 w3
    obtain ⟨j, hj, rfl, h1, h2⟩ := hrel
    have HR := Lib.hid h1
    have HB := Lib.hid h2
    clear h1 h2
    by_cases hlt : j < no
    · have hjn : j < n := by omega
      have c0 : wr.cell? ⟨go, j, none⟩ = some (.int .i64 (O.getD j 0 : Nat)) := (HB.out.cell (p := ⟨go, j, none⟩) HON.out.lt).trans (HON.out.cell j (by have := HNO.out; omega))
      have c1 := nat_at HR.out j (by rw [mj_length]; exact hjn)
      rw [mj_at P O k n j j hjn, if_neg (by omega)] at c1
      have f0 := HR.out.free j
      have HS := Lib.hid (mj_set P O k n j)
      have hx := HO.out.getD j
      have hy := HP.out.getD j
      have HQ1 : Hid (Row wr q 63 (fin6 f vt vp L vo b)) := HQ.out.below HB.out hqx
      obtain ⟨d0, d1, d2, d3, d4, d5⟩ := fin_cells HQ1.out
      have HFR : Hid (Fd wr f) := Row.below HF.out HB.out HF.out.lt
      obtain ⟨x, hxe⟩ : ∃ x, O.getD j 0 = x := ⟨_, rfl⟩
      obtain ⟨y, hye⟩ : ∃ y, P.getD j 0 = y := ⟨_, rfl⟩
      rw [hxe] at hx c0 HS
      rw [hye] at hy c1 HS
      have hm := mul_lt k x hkl hx
      obtain ⟨m, hme⟩ : ∃ m, mul k x = m := ⟨_, rfl⟩
      rw [hme] at hm HS
      have HME := Lib.hid hme
      have hxor := i64_xor_nat y m (by omega) (by omega)
      clear hxe hye hme HQ1 d1 d2 d3 d4 d5
      go_wp2
      go_region_with (go_at_call 41; refine (mul_nat k x m f _ hkl hx HME.out (Row.drewN HFR.out _)).mono ?_; rintro e w' ⟨rfl, ⟨q9, rfl⟩⟩)
      all_goals
        have HR2 : Hid (Row ((wr.drewN (1 + q9)).setCell ⟨w.heap.size, j, none⟩ (.int .i64 ((y ^^^ m : Nat) : Int))) w.heap.size 3 (natCells (mj P O k n (j + 1)))) := by
          unfold Hid; rw [← HS.out, ← natCells_set]; exact Row.set (HR.out.drewN _) j _
        have HB2 : Hid (Below w.heap.size w ((wr.drewN (1 + q9)).setCell ⟨w.heap.size, j, none⟩ (.int .i64 ((y ^^^ m : Nat) : Int)))) := (Below.drewN HB.out _).setCell (p := ⟨w.heap.size, j, none⟩) (Nat.le_refl _) _
        clear c0 c1 f0 hxor d0 HFR
        generalize (wr.drewN (1 + q9)).setCell ⟨w.heap.size, j, none⟩ (.int .i64 ((y ^^^ m : Nat) : Int)) = w4 at *
        go_wp2
        go_roundw
        case rel => exact ⟨j + 1, by omega, by go_num, HR2.out, HB2.out⟩
        case measure => simp [intOf] <;> omega
    · obtain rfl : j = no := by omega
      have HE : Hid (mj P O k n O.length = mj P O k n j) := by unfold Hid; rw [HNO.out]
      go_wp2
      go_ret
      exact ⟨rfl, by rw [HE.out]; exact HR.out, HB.out⟩
end Go.Proofs.Ytbokecpcefcimaa
