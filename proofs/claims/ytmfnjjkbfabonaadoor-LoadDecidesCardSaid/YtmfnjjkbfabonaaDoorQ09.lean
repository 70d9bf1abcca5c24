/-
  Contracts and plain facts that the laws share, part 9; each piece is headed by what it holds and its conditions.
-/
import Derived.Test.YtmfnjjkbfabonaaDoorQ07
import Derived.Test.YtmfnjjkbfabonaaDoorQ08

/- The contract of layer 6's failure. Conditions: the finder lies in a block of its own, as its fields do. -/
namespace Go.Proofs.YtmfnjjkbfabonaaDoor
open Go.RowKit
open M

/-- By how much the next number is another one, as far as the sum has come. -/
def flN (T p : List Nat) (s : Nat) : Nat → Nat
  | 0 => s
  | k + 1 => flN T p s k ^^^ mul (p.getD (k + 1) 0) (T.getD (T.length - (k + 1)) 0)
theorem flN_lt (T p : List Nat) (s : Nat) (hT : Els T) (hp : Els p) (hs : s < 128) (k : Nat) : flN T p s k < 128 := by
  induction k with
  | zero => exact hs
  | succ k ih => exact xor_lt _ _ ih (mul_lt _ _ (hp.getD _) (hT.getD _))
/-- A finder, as it lies. -/
def fin6 (f : Nat) (vt vp : Value) (L : Nat) (vo : Value) (b : Nat) : Array Value := #[.pointer (some ⟨f, 0, none⟩), vt, vp, .int .i64 (L : Nat), vo, .int .i64 (b : Nat)]
theorem fin_cells {w : World} {q f L b : Nat} {vt vp vo : Value} (h : Row w q 93 (fin6 f vt vp L vo b)) :
    w.cell? ⟨q, 0, none⟩ = some (.pointer (some ⟨f, 0, none⟩)) ∧ w.cell? ⟨q, 1, none⟩ = some vt ∧ w.cell? ⟨q, 2, none⟩ = some vp ∧ w.cell? ⟨q, 3, none⟩ = some (.int .i64 (L : Nat)) ∧ w.cell? ⟨q, 4, none⟩ = some vo ∧ w.cell? ⟨q, 5, none⟩ = some (.int .i64 (b : Nat)) :=
  ⟨cell_of_row _ _ _ _ _ _ h, cell_of_row _ _ _ _ _ _ h, cell_of_row _ _ _ _ _ _ h, cell_of_row _ _ _ _ _ _ h, cell_of_row _ _ _ _ _ _ h, cell_of_row _ _ _ _ _ _ h⟩

set_option maxRecDepth 100000 in
set_option maxHeartbeats 1000000 in
theorem failure_any (T p : List Nat) (s q f gp L b : Nat) (vt vp vo : Value) (w : World) (hT : Els T) (hp : Els p) (hs : s < 128) (hp1 : 1 ≤ p.length) (hp2 : p.length ≤ 1000) (hT2 : T.length ≤ 1000)
    (hq : Row w q 93 (fin6 f vt vp L vo b)) (ht : IntsAt w vt (castL T)) (hpn : NAt w vp p gp) (hf : Fd w f) :
    Calls Tryd.prog 70 #[.pointer (some ⟨q, 0, none⟩), .int .i64 (s : Nat)] w fun e w' => e = .returned (.int .i64 (flN T p s (min (p.length - 1) T.length) : Nat)) ∧ Qt w w' := by
  have HT := Lib.hid hT
  have HP := Lib.hid hp
  have HQ := Lib.hid hq
  have HF := Lib.hid hf
  have HPC := Lib.hid hpn.cell
  have HPN := Lib.hid hpn
  have HLT := Lib.hid (fun k => flN_lt T p s hT hp hs k)
  obtain ⟨ta, tcap, hve, htc⟩ := ht
  rw [castL_length] at hve htc
  subst hve
  obtain ⟨pcap, pcur, hpe, _, _⟩ := hpn
  subst hpe
  have HTC := Lib.hid htc
  obtain ⟨K, hK⟩ : ∃ K, min (p.length - 1) T.length = K := ⟨_, rfl⟩
  rw [hK]
  obtain ⟨np, hnp⟩ : ∃ np, p.length = np := ⟨_, rfl⟩
  obtain ⟨nt, hnt⟩ : ∃ nt, T.length = nt := ⟨_, rfl⟩
  rw [hnp] at hp1 hp2 hK HQ hq HPC
  rw [hnt] at hT2 hK HQ hq HTC
  have HNP := Lib.hid hnp
  have HNT := Lib.hid hnt
  clear htc hT hp hs hf hnp hnt hq
  go_enter Tryd.func70, Tryd.ntmps70
  go_wp2
  go_loopw [1, 5] (fun x i wr => ∃ k : Nat, k ≤ K ∧ i = .int .i64 ((k : Int) + 1) ∧ x = .int .i64 (flN T p s k : Nat) ∧ Qt w wr) (fun _ i _ => K + 1 - (intOf i).toNat)
  case atStart => exact ⟨0, by omega, rfl, rfl, Qt.refl _⟩
  case round =>
    obtain ⟨k, hk, rfl, rfl, hqt⟩ := hrel
    have HQT := Lib.hid hqt
    clear hqt
    have HQ1 := Lib.hid (HQT.out.row HQ.out)
    obtain ⟨c0, c1, c2, c3, c4, c5⟩ := fin_cells HQ1.out
    by_cases hlt : k < K
    · have h1 : (k : Int) + 1 < (np : Int) := by omega
      have h2 : (k : Int) + 1 ≤ (nt : Int) := by omega
      obtain ⟨b0, off, rfl, hbw, hcc⟩ := HTC.out (by omega)
      obtain ⟨j, hj⟩ : ∃ j, nt = j + (k + 1) := ⟨nt - (k + 1), by omega⟩
      have hji : (nt : Int) - ((k : Int) + 1) = (j : Int) := by omega
      have hjn : (j : Int) < (nt : Int) := by omega
      have hkp : (k : Int) + 1 < (np : Int) := h1
      have d1 : wr.cell? ⟨gp, k + 1, none⟩ = some (.int .i64 (p.getD (k + 1) 0 : Nat)) := by
        obtain ⟨m, rfl⟩ := HQT.out; exact HPC.out (k + 1) (by omega)
      have d2 : wr.cell? ⟨b0, off + j, none⟩ = some (.int .i64 (T.getD j 0 : Nat)) := by
        obtain ⟨m, rfl⟩ := HQT.out
        have := hcc j (by omega)
        rwa [castL_getD] at this
      have HFW : Hid (Fd wr f) := HQT.out.row HF.out
      have hx := HP.out.getD (k + 1)
      have hy := HT.out.getD j
      have hz := HLT.out k
      have HST : Hid (flN T p s (k + 1) = flN T p s k ^^^ mul (p.getD (k + 1) 0) (T.getD j 0)) := by
        unfold Hid
        show _ ^^^ mul _ (T.getD (T.length - (k + 1)) 0) = _
        rw [HNT.out, show nt - (k + 1) = j by omega]
      obtain ⟨x, hxe⟩ : ∃ x, p.getD (k + 1) 0 = x := ⟨_, rfl⟩
      obtain ⟨y, hye⟩ : ∃ y, T.getD j 0 = y := ⟨_, rfl⟩
      obtain ⟨z, hze⟩ : ∃ z, flN T p s k = z := ⟨_, rfl⟩
      rw [hxe] at d1 hx HST
      rw [hye] at d2 hy HST
      rw [hze] at hz HST ⊢
      have hmm := mul_lt x y hx hy
      obtain ⟨m, hme⟩ : ∃ m, mul x y = m := ⟨_, rfl⟩
      rw [hme] at hmm HST
      have hM2 : ∀ W, Fd W f → Calls Tryd.prog 61 #[.pointer (some ⟨f, 0, none⟩), .int .i64 (x : Nat), .int .i64 (y : Nat)] W fun e w' => e = .returned (.int .i64 (m : Nat)) ∧ Qt W w' := fun W hW => mul_nat x y m f W hx hy hme hW
      have HM2 := Lib.hid hM2
      have hxor := i64_xor_nat z m (by omega) (by omega)
      clear hM2 hme hxe hye hze hcc hj HQ1
      go_wp2
      go_quiet (first | (go_at_call 61; exact Calls.quiet_of (HM2.out _ (HFW.out.drewN _))))
      go_wp2
      go_roundw
      case rel =>
        refine ⟨k + 1, by omega, by go_num, ?_, HQT.out.trans (Qt.of _ _)⟩
        rw [HST.out]
      case measure => simp [intOf] <;> omega
    · obtain rfl : k = K := by omega
      by_cases h1 : (k : Int) + 1 < (np : Int)
      · have h2 : ¬ ((k : Int) + 1 ≤ (nt : Int)) := by omega
        go_wp2
        go_ret
        exact ⟨rfl, HQT.out⟩
      · go_wp2
        go_ret
        exact ⟨rfl, HQT.out⟩
end Go.Proofs.YtmfnjjkbfabonaaDoor

/- The contracts of layer 4's Inv, and of layer 6's mended. Conditions: the finder lies in a block of its own, as its fields do. -/
namespace Go.Proofs.YtmfnjjkbfabonaaDoor
open Go.RowKit
open M

set_option maxRecDepth 100000 in
theorem inv_field (a : Int) (g : Nat) (w : World) (ha : inI a) (h : Fd w g) :
    Calls Tryd.prog 76 #[.pointer (some ⟨g, 0, none⟩), .int .i64 a] w fun e w' => e = .returned (.int .i64 (inv (el a) : Nat)) ∧ Qt w w' := by
  obtain ⟨p, hp⟩ : ∃ p, el a = p := ⟨_, rfl⟩
  have hp1 : p < 128 := by rw [← hp]; exact el_lt a
  have HP := Lib.hid hp
  have HA := Lib.hid ha
  have HF := Lib.hid h
  clear ha h
  by_cases h0 : p = 0
  · subst h0
    clear hp
    go_enter Tryd.func76, Tryd.ntmps76
    go_wp2_with fail
    refine (element_any a _ HA.out).mono ?_
    rintro e w1 ⟨rfl, rfl⟩
    rw [HP.out]
    go_wp2
    go_ret
    exact ⟨ret_eq (by rw [HP.out]; rfl), Qt.refl _⟩
  · have e0 : (((p : Nat) : Int) == 0) = false := by rw [beq_eq_false_iff_ne]; omega
    have e0' : ((p : Nat) == 0) = false := by rw [beq_eq_false_iff_ne]; omega
    have H0 := Lib.hid h0
    have hLp := Lg_le p hp1
    have HR : Hid (inv p = E ((127 - Lg p) % 127)) := by unfold Hid inv; rw [if_neg h0]
    clear hp h0
    go_enter Tryd.func76, Tryd.ntmps76
    go_wp2_with fail
    refine (element_any a _ HA.out).mono ?_
    rintro e w1 ⟨rfl, rfl⟩
    rw [HP.out]
    go_wp2_with fail
    clear e0 e0'
    refine (log_pos a g _ HA.out HF.out (by rw [HP.out]; exact H0.out)).mono ?_
    rintro e w1 ⟨rfl, hq⟩
    rw [HP.out]
    have HQ1 := Lib.hid hq
    have HF1 := Lib.hid (hq.row HF.out)
    clear hq
    go_wp2_with fail
    refine (exp_any (-(Lg p : Nat) : Int) g _ ⟨by omega, by omega⟩ HF1.out).mono ?_
    rintro e w3 ⟨rfl, hq⟩
    have HQ3 := Lib.hid (HQ1.out.trans hq)
    clear hq
    go_wp2
    go_ret
    refine ⟨ret_eq ?_, HQ3.out⟩
    rw [HP.out, HR.out]
    congr 2
    unfold re; omega
theorem inv_nat (a m g : Nat) (w : World) (ha : a < 128) (hm : inv a = m) (h : Fd w g) :
    Calls Tryd.prog 76 #[.pointer (some ⟨g, 0, none⟩), .int .i64 (a : Nat)] w fun e w' => e = .returned (.int .i64 (m : Nat)) ∧ Qt w w' := by
  have := inv_field (a : Int) g w ⟨by omega, by omega⟩ h
  rwa [el_nat a ha, hm] at this

/-- The mended polynomial, as far as the loop has come. -/
def mj (P O : List Nat) (k n j : Nat) : List Nat := (List.range n).map fun i => if i < j then P.getD i 0 ^^^ mul k (O.getD i 0) else P.getD i 0
theorem mj_length (P O : List Nat) (k n j : Nat) : (mj P O k n j).length = n := by simp [mj]
theorem mj_at (P O : List Nat) (k n j i : Nat) (hi : i < n) : (mj P O k n j).getD i 0 = if i < j then P.getD i 0 ^^^ mul k (O.getD i 0) else P.getD i 0 := by
  unfold mj; rw [tab_getD _ _ _ _ hi]
theorem mj_set (P O : List Nat) (k n j : Nat) : (mj P O k n j).set j (P.getD j 0 ^^^ mul k (O.getD j 0)) = mj P O k n (j + 1) := by
  unfold mj
  apply tab_set
  · rw [if_pos (by omega)]
  · intro i e
    rcases Nat.lt_or_ge i j with h1 | h1
    · rw [if_pos h1, if_pos (by omega)]
    · rw [if_neg (by omega), if_neg (by omega)]
theorem getD_out (l : List Nat) (i : Nat) (h : l.length ≤ i) : l.getD i 0 = 0 := by
  rw [List.getD_eq_getElem?_getD, List.getElem?_eq_none h]; rfl
/-- The mended polynomial's numbers. -/
theorem mj_all (P O : List Nat) (k i : Nat) (hk : k < 128) : (mj P O k (max P.length O.length) O.length).getD i 0 = P.getD i 0 ^^^ mul k (O.getD i 0) := by
  rcases Nat.lt_or_ge i (max P.length O.length) with h | h
  · rw [mj_at _ _ _ _ _ _ h]
    by_cases h2 : i < O.length
    · rw [if_pos h2]
    · rw [if_neg h2, getD_out O i (by omega), mul_zr k hk, Nat.xor_zero]
  · rw [getD_out _ i (by rw [mj_length]; exact h), getD_out P i (by omega), getD_out O i (by omega), mul_zr k hk]; rfl

set_option maxRecDepth 100000 in
/-- copy of a list into a row of 0s. -/
theorem copy_nats (W : World) (g c cap n : Nat) (v : Value) (P O : List Nat) (k : Nat) (hg : Row W g 3 (natCells (List.replicate n 0))) (hc : NAt W v P c) (hn : P.length ≤ n) :
    (Builtin.copy_ #[57, 57] 3 #[.slice (some ⟨g, 0, none⟩) n cap, v]).run Tryd.prog W = .ok (goInt P.length) (W.setRow g (natCells (mj P O k n 0))) := by
  have hcl := hc.cell
  obtain ⟨pcap, cur, rfl, _, _⟩ := hc
  obtain ⟨i0, hi0, hz0, hz1, hz2⟩ := info_parts int_info
  have h := run_copy_row (P := Tryd.prog) W 57 57 3 3 g 0 n cap ⟨c, 0, none⟩ P.length pcap (natCells (List.replicate n 0)) 3 (vs P)
    Tryd.underlying57 (by rw [hi0]; simp [hz1]) hg (by rw [vs_length]; exact (Nat.min_eq_left hn).symm) (fun j v hv => ?_) (by rw [vs_length, natCells_size, List.length_replicate]; omega) (vs_one P)
  · rw [h, vs_length]
    congr 2
    apply Array.ext'
    apply List.ext_getElem?
    intro i
    simp only [natCells, vs, mj]
    rcases Nat.lt_or_ge i P.length with h1 | h1
    · have h2 : i < n := by omega
      simp [List.getElem?_append, h1, h2, List.getD_eq_getElem?_getD]
    · rcases Nat.lt_or_ge i n with h2 | h2
      · have e : i - P.length < n - P.length := by omega
        simp [List.getElem?_append, h2, e, List.getD_eq_getElem?_getD, Nat.not_lt.2 h1]
      · simp [List.getElem?_append, Nat.not_lt.2 h1, Nat.not_lt.2 h2, show ¬ (i - P.length < n - P.length) by omega]
  · have hjl := (List.getElem?_eq_some_iff.1 hv).1
    rw [vs_length] at hjl
    rw [Addr.add_lit, Nat.zero_add, hcl j hjl, ← hv, vs_get P j hjl]

set_option maxRecDepth 100000 in
set_option maxHeartbeats 1000000 in
theorem mended_any (P O : List Nat) (d q f gp go L b : Nat) (vt vp vo : Value) (w : World) (hP : Els P) (hO : Els O) (hd : d < 128) (hb : b < 128) (hp2 : P.length ≤ 1000) (ho2 : O.length ≤ 1000)
    (hq : Row w q 93 (fin6 f vt vp L vo b)) (hpn : NAt w vp P gp) (hon : NAt w vo O go) (hf : Fd w f) :
    Calls Tryd.prog 71 #[.pointer (some ⟨q, 0, none⟩), .int .i64 (d : Nat)] w fun e w' =>
      e = .returned (.slice (some ⟨w.heap.size, 0, none⟩) (max P.length O.length) (max P.length O.length)) ∧ Row w' w.heap.size 3 (natCells (mj P O (mul d (inv b)) (max P.length O.length) O.length)) ∧ Below w.heap.size w w' := by
  have HP := Lib.hid hP
  have HO := Lib.hid hO
  have HQ := Lib.hid hq
  have HF := Lib.hid hf
  have HPN := Lib.hid hpn
  have HON := Lib.hid hon
  obtain ⟨n, hn⟩ : ∃ n, max P.length O.length = n := ⟨_, rfl⟩
  rw [hn]
  obtain ⟨c0, c1, c2, c3, c4, c5⟩ := fin_cells hq
  obtain ⟨pcap, pcur, hpe, _, _⟩ := hpn
  obtain ⟨ocap, ocur, hoe, _, _⟩ := hon
  rw [hpe] at c2
  rw [hoe] at c4
  obtain ⟨np, hnp⟩ : ∃ np, P.length = np := ⟨_, rfl⟩
  obtain ⟨no, hno⟩ : ∃ no, O.length = no := ⟨_, rfl⟩
  rw [hnp] at c2 hp2 hn
  rw [hno] at c4 ho2 hn
  have HNP := Lib.hid hnp
  have HNO := Lib.hid hno
  have HPE := Lib.hid hpe
  have HOE := Lib.hid hoe
  have hmk : ∀ w, (Instr.makeSlice 57 (.int .i64 (max (np : Int) (no : Int))) (.int .i64 (max (np : Int) (no : Int)))).run Tryd.prog w = .ok (.slice (some ⟨w.heap.size, 0, none⟩) n n) (w.alloc (.cells (madeCells #[.int .i64 0] n) 3)) := fun w => by
    rw [show max (np : Int) (no : Int) = (n : Int) by omega]
    exact run_make_row' (P := Tryd.prog) 57 3 (.int .i64 0) 8 Tryd.underlying57 int_info rfl .i64 .i64 n (by omega) (by omega) w
  obtain ⟨k, hk⟩ : ∃ k, mul d (inv b) = k := ⟨_, rfl⟩
  obtain ⟨ib, hib⟩ : ∃ ib, inv b = ib := ⟨_, rfl⟩
  have hibl : ib < 128 := by rw [← hib]; exact inv_lt b
  rw [hk]
  rw [hib] at hk
  have hkl : k < 128 := by rw [← hk]; exact mul_lt _ _ hd hibl
  have HIB := Lib.hid hib
  have HK := Lib.hid hk
  clear hP hO hq hf hnp hno hpe hoe hib hk
  go_enter Tryd.func71, Tryd.ntmps71
  go_wp2
  go_region
  clear hmk c0 c1 c2 c3 c4 c5
  have HR0 : Hid (Row (w.alloc (.cells (madeCells #[.int .i64 0] n) 3)).drew w.heap.size 3 (natCells (List.replicate n 0))) := by
    unfold Hid; rw [← made_nats n]; exact (heap_alloc_new _ _ : Row (w.alloc (.cells (madeCells #[.int .i64 0] n) 3)) _ _ _)
  have HB0 : Hid (Below w.heap.size w (w.alloc (.cells (madeCells #[.int .i64 0] n) 3)).drew) := below_drew1 ((Below.refl _ _).alloc (Nat.le_refl _) _)
  generalize (w.alloc (.cells (madeCells #[.int .i64 0] n) 3)).drew = w1 at *
  have hpg : NAt w1 vp P gp := HPN.out.mono fun _ h => h.below HB0.out h.lt
  have hcp := copy_nats w1 w.heap.size gp n n vp P O k HR0.out hpg (by have := HNP.out; omega)
  rw [HPE.out, HNP.out] at hcp
  have hqx : q < w.heap.size := HQ.out.lt
  have HQ1 : Hid (Row w1 q 93 (fin6 f vt vp L vo b)) := HQ.out.below HB0.out hqx
  obtain ⟨c0, c1, c2, c3, c4, c5⟩ := fin_cells HQ1.out
  rw [HPE.out, HNP.out] at c2
  rw [HOE.out, HNO.out] at c4
  clear hpg
  go_wp2
  clear hcp c0 c1 c2 c3 c4 c5 HQ1
  have HR1 : Hid (Row (w1.setRow w.heap.size (natCells (mj P O k n 0))) w.heap.size 3 (natCells (mj P O k n 0))) := HR0.out.setRow _
  have HB1 : Hid (Below w.heap.size w (w1.setRow w.heap.size (natCells (mj P O k n 0)))) := below_setRow HB0.out (Nat.le_refl _) _
  generalize w1.setRow w.heap.size (natCells (mj P O k n 0)) = w2 at *
  clear HR0 HB0 w1
  have HQ2 : Hid (Row w2 q 93 (fin6 f vt vp L vo b)) := HQ.out.below HB1.out hqx
  have HF2 : Hid (Fd w2 f) := Row.below HF.out HB1.out HF.out.lt
  obtain ⟨c0, c1, c2, c3, c4, c5⟩ := fin_cells HQ2.out
  rw [HOE.out, HNO.out] at c4
  have hI : ∀ W, Fd W f → Calls Tryd.prog 76 #[.pointer (some ⟨f, 0, none⟩), .int .i64 (b : Nat)] W fun e w' => e = .returned (.int .i64 (ib : Nat)) ∧ Qt W w' := fun W hW => inv_nat b ib f W hb HIB.out hW
  have hM : ∀ W, Fd W f → Calls Tryd.prog 61 #[.pointer (some ⟨f, 0, none⟩), .int .i64 (d : Nat), .int .i64 (ib : Nat)] W fun e w' => e = .returned (.int .i64 (k : Nat)) ∧ Qt W w' := fun W hW => mul_nat d ib k f W hd hibl HK.out hW
  have HI := Lib.hid hI
  have HM := Lib.hid hM
  clear hI hM HQ2
  go_quiet (first | (go_at_call 76; exact Calls.quiet_of (HI.out _ (HF2.out.drewN _))) | (go_at_call 61; exact Calls.quiet_of (HM.out _ (HF2.out.drewN _))))
  have HR3 : Hid (Row (w2.drewN nq) w.heap.size 3 (natCells (mj P O k n 0))) := HR1.out.drewN nq
  have HB3 : Hid (Below w.heap.size w (w2.drewN nq)) := Below.drewN HB1.out nq
  have k4 : (w2.drewN nq).cell? ⟨q, 4, none⟩ = some (.slice (some ⟨go, 0, none⟩) no ocap) := c4
  clear HR1 HB1 HF2 c0 c1 c2 c3 c4 c5 HI HM
  generalize w2.drewN nq = w3 at *
  clear w2
  go_wp2
  clear k4
  go_loopw [47] (fun i wr => ∃ j : Nat, j ≤ no ∧ i = .int .i64 (j : Nat) ∧ Row wr w.heap.size 3 (natCells (mj P O k n j)) ∧ Below w.heap.size w wr) (fun i _ => no - (intOf i).toNat)
  case atStart => exact ⟨0, by omega, rfl, HR3.out, HB3.out⟩
  case round =>
    clear HR3 HB3 w3
    obtain ⟨j, hj, rfl, h1, h2⟩ := hrel
    have HR := Lib.hid h1
    have HB := Lib.hid h2
    clear h1 h2
    by_cases hlt : j < no
    · have hjn : j < n := by omega
      have c0 : wr.cell? ⟨go, j, none⟩ = some (.int .i64 (O.getD j 0 : Nat)) := (HB.out.cell (p := ⟨go, j, none⟩) HON.out.lt).trans (HON.out.cell j (by have := HNO.out; omega))
      have c1 := nat_at HR.out j (by rw [mj_length]; exact hjn)
      rw [mj_at P O k n j j hjn, if_neg (by omega)] at c1
      have f0 := HR.out.free j
      have HS := Lib.hid (mj_set P O k n j)
      have hx := HO.out.getD j
      have hy := HP.out.getD j
      have HQ1 : Hid (Row wr q 93 (fin6 f vt vp L vo b)) := HQ.out.below HB.out hqx
      obtain ⟨d0, d1, d2, d3, d4, d5⟩ := fin_cells HQ1.out
      have HFR : Hid (Fd wr f) := Row.below HF.out HB.out HF.out.lt
      obtain ⟨x, hxe⟩ : ∃ x, O.getD j 0 = x := ⟨_, rfl⟩
      obtain ⟨y, hye⟩ : ∃ y, P.getD j 0 = y := ⟨_, rfl⟩
      rw [hxe] at hx c0 HS
      rw [hye] at hy c1 HS
      have hm := mul_lt k x hkl hx
      obtain ⟨m, hme⟩ : ∃ m, mul k x = m := ⟨_, rfl⟩
      rw [hme] at hm HS
      have HME := Lib.hid hme
      have hxor := i64_xor_nat y m (by omega) (by omega)
      clear hxe hye hme HQ1 d1 d2 d3 d4 d5
      go_wp2
      go_region_with (go_at_call 61; refine (mul_nat k x m f _ hkl hx HME.out (Row.drewN HFR.out _)).mono ?_; rintro e w' ⟨rfl, ⟨q9, rfl⟩⟩)
      all_goals
        have HR2 : Hid (Row ((wr.drewN (1 + q9)).setCell ⟨w.heap.size, j, none⟩ (.int .i64 ((y ^^^ m : Nat) : Int))) w.heap.size 3 (natCells (mj P O k n (j + 1)))) := by
          unfold Hid; rw [← HS.out, ← natCells_set]; exact Row.set (HR.out.drewN _) j _
        have HB2 : Hid (Below w.heap.size w ((wr.drewN (1 + q9)).setCell ⟨w.heap.size, j, none⟩ (.int .i64 ((y ^^^ m : Nat) : Int)))) := (Below.drewN HB.out _).setCell (p := ⟨w.heap.size, j, none⟩) (Nat.le_refl _) _
        clear c0 c1 f0 hxor d0 HFR
        generalize (wr.drewN (1 + q9)).setCell ⟨w.heap.size, j, none⟩ (.int .i64 ((y ^^^ m : Nat) : Int)) = w4 at *
        go_wp2
        go_roundw
        case rel => exact ⟨j + 1, by omega, by go_num, HR2.out, HB2.out⟩
        case measure => simp [intOf] <;> omega
    · obtain rfl : j = no := by omega
      have HE : Hid (mj P O k n O.length = mj P O k n j) := by unfold Hid; rw [HNO.out]
      go_wp2
      go_ret
      exact ⟨rfl, by rw [HE.out]; exact HR.out, HB.out⟩
end Go.Proofs.YtmfnjjkbfabonaaDoor

/- Layer 6: what a finder holds as it lies, and the contract of newFinder. No conditions. -/
namespace Go.Proofs.YtmfnjjkbfabonaaDoor
open Go.RowKit
open M

/-- What a finder holds that has taken the numbers T. -/
structure FindD (w : World) (base q f : Nat) (S : Nat → Nat) (T : List Nat) (vt vp vo : Value) (L b gp go m : Nat) (P O : List Nat) (C B : Nat → Nat) : Prop where
  row : Row w q 93 (fin6 f vt vp L vo b)
  fd : Fd w f
  hq : base ≤ q
  own : w.ownsRow base 3 1 vt T.length (vs T)
  neP : vt.ownBlock ≠ some gp
  neO : vt.ownBlock ≠ some go
  poly : NAt w vp P gp
  old : NAt w vo O go
  elT : Els T
  elP : Els P
  elO : Els O
  lp : 1 ≤ P.length ∧ P.length ≤ T.length + 2
  lo : 1 ≤ O.length ∧ O.length ≤ T.length + 2
  seq : ∀ i, i < T.length → T.getD i 0 = S i
  cP : ∀ i, P.getD i 0 = C i
  cO : ∀ i, O.getD i 0 = if m ≤ i then B (i - m) else 0
  bm : Bm S T.length C L B m b
  bl : b < 128
/-- .. some finder. -/
def Find (w : World) (base q f : Nat) (S : Nat → Nat) (T : List Nat) : Prop := ∃ vt vp vo L b gp go m P O C B, FindD w base q f S T vt vp vo L b gp go m P O C B

/-- What is asked of the next number. -/
theorem fl_dc (S C : Nat → Nat) (L : Nat) (T P : List Nat) (s : Nat) (hS : ∀ n, S n < 128) (h1 : C 0 = 1) (hdeg : ∀ i, L < i → C i = 0) (hL : L ≤ T.length) (hp : 1 ≤ P.length) (hs : S T.length = s)
    (hT : ∀ i, i < T.length → T.getD i 0 = S i) (hP : ∀ i, P.getD i 0 = C i) : flN T P s (min (P.length - 1) T.length) = dc C L S T.length := by
  have hk : ∀ k, k ≤ T.length → flN T P s k = sg (k + 1) fun i => mul (C i) (S (T.length - i)) := by
    intro k
    induction k with
    | zero =>
      intro _
      rw [sg_succ, sg_none, Nat.zero_xor, h1, Nat.sub_zero, hs]
      have := hS T.length
      rw [hs] at this
      exact (one_mul s this).symm
    | succ k ih =>
      intro hk
      show flN T P s k ^^^ mul (P.getD (k + 1) 0) (T.getD (T.length - (k + 1)) 0) = _
      rw [ih (by omega), sg_succ (k + 1), hP, hT _ (by omega)]
  rw [hk _ (Nat.min_le_right _ _)]
  have e1 : (sg (T.length + 1) fun i => mul (C i) (S (T.length - i))) = dc C L S T.length := by
    unfold dc
    rw [show T.length + 1 = L + 1 + (T.length - L) by omega]
    refine sg_more _ _ _ fun i hi => ?_
    rw [hdeg i (by omega), mul_zl _ (hS _)]
  rw [← e1]
  have e2 : T.length + 1 = (min (P.length - 1) T.length + 1) + (T.length - min (P.length - 1) T.length) := by omega
  conv => rhs; rw [e2]
  symm
  rcases Nat.lt_or_ge (P.length - 1) T.length with h | h
  · refine sg_more _ _ _ fun i hi => ?_
    rw [← hP i, getD_out P i (by omega), mul_zl _ (hS _)]
  · rw [show T.length - min (P.length - 1) T.length = 0 by omega, Nat.add_zero]
theorem mj_upd (C B : Nat → Nat) (P O : List Nat) (k m : Nat) (hk : k < 128) (hP : ∀ i, P.getD i 0 = C i) (hO : ∀ i, O.getD i 0 = if m ≤ i then B (i - m) else 0) (i : Nat) :
    (mj P O k (max P.length O.length) O.length).getD i 0 = upd C B k m i := by
  rw [mj_all P O k i hk, hP, hO]
  unfold upd
  split
  · rfl
  · rw [mul_zr k hk, Nat.xor_zero]
theorem mj_els (P O : List Nat) (k n j : Nat) (hk : k < 128) (hP : Els P) (hO : Els O) : Els (mj P O k n j) := by
  intro c hc
  unfold mj at hc
  obtain ⟨i, _, rfl⟩ := List.mem_map.1 hc
  have h1 := hP.getD i
  have h2 := hO.getD i
  show (if i < j then P.getD i 0 ^^^ mul k (O.getD i 0) else P.getD i 0) < 128
  split
  · exact xor_lt _ _ h1 (mul_lt _ _ hk h2)
  · exact h1
theorem els_cons0 (l : List Nat) (h : Els l) : Els (0 :: l) := by
  intro c hc
  rcases List.mem_cons.1 hc with rfl | hc
  · omega
  · exact h c hc
theorem els_snoc (l : List Nat) (s : Nat) (h : Els l) (hs : s < 128) : Els (l ++ [s]) := by
  intro c hc
  rcases List.mem_append.1 hc with hc | hc
  · exact h c hc
  · simp at hc; omega
theorem cons_old (O : List Nat) (B : Nat → Nat) (m : Nat) (h : ∀ i, O.getD i 0 = if m ≤ i then B (i - m) else 0) (i : Nat) : (0 :: O).getD i 0 = if m + 1 ≤ i then B (i - (m + 1)) else 0 := by
  cases i with
  | zero => rw [if_neg (by omega)]; rfl
  | succ i =>
    rw [List.getD_cons_succ, h i]
    by_cases hm : m ≤ i
    · rw [if_pos hm, if_pos (by omega), show i + 1 - (m + 1) = i - m by omega]
    · rw [if_neg hm, if_neg (by omega)]
theorem snoc_seq (T : List Nat) (S : Nat → Nat) (s : Nat) (h : ∀ i, i < T.length → T.getD i 0 = S i) (hs : S T.length = s) (i : Nat) (hi : i < (T ++ [s]).length) : (T ++ [s]).getD i 0 = S i := by
  rw [List.length_append, List.length_singleton] at hi
  rcases Nat.lt_or_ge i T.length with h1 | h1
  · rw [← h i h1, List.getD_eq_getElem?_getD, List.getElem?_append_left h1, List.getD_eq_getElem?_getD]
  · have e : i = T.length := by omega
    rw [e, hs, List.getD_eq_getElem?_getD, List.getElem?_append_right (Nat.le_refl _), Nat.sub_self]; rfl

set_option maxRecDepth 100000 in
set_option maxHeartbeats 1000000 in
theorem newFinder_any (w : World) (S : Nat → Nat) :
    Calls Tryd.prog 56 #[] w fun e w' => ∃ q f, e = .returned (.pointer (some ⟨q, 0, none⟩)) ∧ Find w' w.heap.size q f S [] ∧ Below w.heap.size w w' := by
  go_enter Tryd.func56, Tryd.ntmps56
  go_wp2_with fail
  refine (new_any _).mono ?_
  rintro e w1 ⟨rfl, hb, hf⟩
  have HB := Lib.hid hb
  have HF := Lib.hid hf
  clear hb hf
  go_wp2
  have hs := HB.out.size
  have HB4 := Lib.hid (((HB.out.alloc hs (.cells #[.int .i64 1] 3)).alloc (by simp; omega) (.cells #[.int .i64 0, .int .i64 1] 3)).alloc (by simp; omega) (.cells (fin6 w.heap.size (.slice none 0 0) (.slice (some ⟨w1.heap.size, 0, none⟩) 1 1) 0 (.slice (some ⟨w1.heap.size + 1, 0, none⟩) 2 2) 1) 93))
  have r1 : Row (((w1.alloc (.cells #[.int .i64 1] 3)).alloc (.cells #[.int .i64 0, .int .i64 1] 3)).alloc (.cells (fin6 w.heap.size (.slice none 0 0) (.slice (some ⟨w1.heap.size, 0, none⟩) 1 1) 0 (.slice (some ⟨w1.heap.size + 1, 0, none⟩) 2 2) 1) 93)) w1.heap.size 3 #[.int .i64 1] := ((row_new w1 _ rfl _ _).alloc _).alloc _
  have r2 : Row (((w1.alloc (.cells #[.int .i64 1] 3)).alloc (.cells #[.int .i64 0, .int .i64 1] 3)).alloc (.cells (fin6 w.heap.size (.slice none 0 0) (.slice (some ⟨w1.heap.size, 0, none⟩) 1 1) 0 (.slice (some ⟨w1.heap.size + 1, 0, none⟩) 2 2) 1) 93)) (w1.heap.size + 1) 3 #[.int .i64 0, .int .i64 1] := (row_new _ _ (by simp) _ _).alloc _
  have r3 : Row (((w1.alloc (.cells #[.int .i64 1] 3)).alloc (.cells #[.int .i64 0, .int .i64 1] 3)).alloc (.cells (fin6 w.heap.size (.slice none 0 0) (.slice (some ⟨w1.heap.size, 0, none⟩) 1 1) 0 (.slice (some ⟨w1.heap.size + 1, 0, none⟩) 2 2) 1) 93)) (w1.heap.size + 1 + 1) 93 (fin6 w.heap.size (.slice none 0 0) (.slice (some ⟨w1.heap.size, 0, none⟩) 1 1) 0 (.slice (some ⟨w1.heap.size + 1, 0, none⟩) 2 2) 1) := row_new _ _ (by simp) _ _
  have r4 : Fd (((w1.alloc (.cells #[.int .i64 1] 3)).alloc (.cells #[.int .i64 0, .int .i64 1] 3)).alloc (.cells (fin6 w.heap.size (.slice none 0 0) (.slice (some ⟨w1.heap.size, 0, none⟩) 1 1) 0 (.slice (some ⟨w1.heap.size + 1, 0, none⟩) 2 2) 1) 93)) w.heap.size := ((Row.alloc HF.out _).alloc _).alloc _
  have HR1 := Lib.hid r1
  have HR2 := Lib.hid r2
  have HR3 := Lib.hid r3
  have HR4 := Lib.hid r4
  clear r1 r2 r3 r4
  go_ret
  refine ⟨_, w.heap.size, rfl, ⟨.slice none 0 0, .slice (some ⟨w1.heap.size, 0, none⟩) 1 1, .slice (some ⟨w1.heap.size + 1, 0, none⟩) 2 2, 0, 1, w1.heap.size, w1.heap.size + 1, 1, [1], [0, 1], one1, one1, ?_⟩, HB4.out⟩
  exact { row := HR3.out, fd := HR4.out, hq := by omega, own := World.ownsRow_nil _ _ _ _, neP := by simp [Value.ownBlock], neO := by simp [Value.ownBlock],
          poly := ⟨1, _, rfl, HR1.out, fun i hi => by
            have : i = 0 := by simp at hi; omega
            subst this; rfl⟩,
          old := ⟨2, _, rfl, HR2.out, fun i hi => by
            have : i = 0 ∨ i = 1 := by simp at hi; omega
            rcases this with rfl | rfl <;> rfl⟩,
          elT := by intro c hc; simp at hc,
          elP := by intro c hc; simp at hc; omega,
          elO := by intro c hc; simp at hc; omega,
          lp := by simp, lo := by simp, seq := by intro i hi; simp at hi,
          cP := by
            intro i
            unfold one1
            cases i with
            | zero => rfl
            | succ i => rw [if_neg (by omega)]; rfl
          cO := by
            intro i
            unfold one1
            cases i with
            | zero => rfl
            | succ i =>
              rw [if_pos (by omega)]
              cases i with
              | zero => rfl
              | succ i => rw [if_neg (by omega)]; rfl
          bm := bm_start S, bl := by omega }
end Go.Proofs.YtmfnjjkbfabonaaDoor
