/-
  Contracts and plain facts that the laws share, part 10; each piece is headed by what it holds and its conditions.
-/
import Derived.Test.YtmfnjjkbfabonaaDoorQ09
import Derived.Deep.Cut

/- The contract of layer 6's take. Condition: it has taken no more than 100 numbers. -/
namespace Go.Proofs.YtmfnjjkbfabonaaDoor
open Go.RowKit
open M

theorem own_form {w : World} {base n : Nat} {e : TypeId} {v : Value} {xs : List Value} (h : w.ownsRow base e 1 v n xs) : ∃ a cap, v = .slice a n cap := by
  rcases h.2 with ⟨rfl, rfl⟩ | ⟨g, cap, cur, rfl, _⟩
  · exact ⟨none, 0, rfl⟩
  · exact ⟨_, cap, rfl⟩
theorem own_ints {w : World} {base : Nat} {v : Value} {l : List Nat} (h : w.ownsRow base 3 1 v l.length (vs l)) : IntsAt w v (castL l) := by
  rcases Nat.eq_zero_or_pos l.length with h0 | h0
  · obtain ⟨a, cap, rfl⟩ := own_form h
    refine ⟨a, cap, by rw [castL_length], fun hp => ?_⟩
    rw [castL_length] at hp
    omega
  · obtain ⟨g, _, _, hn⟩ := NAt.own h h0
    exact hn.ints
theorem own_row_ne {w : World} {base n q : Nat} {t : TypeId} {cs : Array Value} {v : Value} {xs : List Value} (h : w.ownsRow base 3 1 v n xs) (hr : Row w q t cs) (ht : t ≠ 3) : some q ≠ v.ownBlock := by
  rcases h.2 with ⟨rfl, _⟩ | ⟨g, cap, cur, rfl, hb, hg, _⟩
  · simp [Value.ownBlock]
  · intro e
    simp only [Value.ownBlock, Option.some.injEq] at e
    subst e
    unfold Row at hr
    rw [hg] at hr
    injection hr with hr
    injection hr with _ hr
    exact ht hr.symm
theorem row_ne {w : World} {a b : Nat} {t u : TypeId} {cs ds : Array Value} (h : Row w a t cs) (k : Row w b u ds) (ht : t ≠ u) : a ≠ b := by
  rintro rfl
  unfold Row at h k
  rw [h] at k
  injection k with k
  injection k with _ k
  exact ht k
theorem NAt.ne {w : World} {v : Value} {l : List Nat} {g q : Nat} {t : TypeId} {cs : Array Value} (h : NAt w v l g) (hr : Row w q t cs) (ht : t ≠ 3) : g ≠ q := by
  obtain ⟨cap, cur, _, h2, _⟩ := h
  exact row_ne h2 hr (Ne.symm ht)
theorem own_far {w : World} {base n : Nat} {e : TypeId} {v : Value} {xs : List Value} (h : w.ownsRow base e 1 v n xs) (p : Addr) (u : Value) (hne : some p.block ≠ v.ownBlock) : (w.setCell p u).ownsRow base e 1 v n xs := by
  refine ⟨h.1, ?_⟩
  rcases h.2 with h0 | ⟨g, cap, cur, h1, h2, h3, h4⟩
  · exact Or.inl h0
  · refine Or.inr ⟨g, cap, cur, h1, h2, Row.far h3 (p := p) (fun e => hne ?_) _, h4⟩
    rw [h1, ← e]; rfl
theorem own_lower {w : World} {base B n : Nat} {e : TypeId} {v : Value} {xs : List Value} (h : w.ownsRow base e 1 v n xs) (hB : B ≤ base) : w.ownsRow B e 1 v n xs := by
  refine ⟨h.1, ?_⟩
  rcases h.2 with h0 | ⟨g, cap, cur, h1, h2, h3⟩
  · exact Or.inl h0
  · exact Or.inr ⟨g, cap, cur, h1, by omega, h3⟩
theorem cons_new (P : List Nat) (C : Nat → Nat) (h : ∀ i, P.getD i 0 = C i) (i : Nat) : (0 :: P).getD i 0 = if 1 ≤ i then C (i - 1) else 0 := by
  cases i with
  | zero => rfl
  | succ i => rw [List.getD_cons_succ, h i, if_pos (by omega), Nat.add_sub_cancel]
theorem NAt.form {w : World} {v : Value} {l : List Nat} {g : Nat} (h : NAt w v l g) : ∃ cap, v = .slice (some ⟨g, 0, none⟩) l.length cap := by
  obtain ⟨cap, _, h1, _⟩ := h
  exact ⟨cap, h1⟩
theorem NAt.box {w w' : World} {v : Value} {l : List Nat} {g : Nat} (h : NAt w v l g) (hb : Below w.heap.size w w') : NAt w' v l g := h.mono fun _ hr => hr.box hb

set_option maxRecDepth 100000 in
set_option maxHeartbeats 2000000 in
theorem take_any (base q f s : Nat) (S : Nat → Nat) (T : List Nat) (w : World) (h : Find w base q f S T) (hS : ∀ n, S n < 128) (hs : S T.length = s) (hlen : T.length ≤ 100) :
    Calls Tryd.prog 57 #[.pointer (some ⟨q, 0, none⟩), .int .i64 (s : Nat)] w fun e w' => e = .returned (.tuple #[]) ∧ Find w' base q f S (T ++ [s]) ∧ Below base w w' := by
  obtain ⟨vt, vp, vo, L, b, gp, go, m, P, O, C, B, hD⟩ := h
  obtain ⟨i0, hi0, hz0, hz1, hz2⟩ := info_parts int_info
  have HT := Lib.hid (And.intro hi0 (And.intro hz0 (And.intro hz1 hz2)))
  clear hi0 hz0 hz1 hz2
  have hsl : s < 128 := by rw [← hs]; exact hS _
  have HSL := Lib.hid hS
  have HSN := Lib.hid hs
  have HD := Lib.hid hD
  have hd := fl_dc S C L T P s hS hD.bm.gen.one hD.bm.gen.deg hD.bm.len hD.lp.1 hs hD.seq hD.cP
  obtain ⟨d, hde⟩ : ∃ d, dc C L S T.length = d := ⟨_, rfl⟩
  have hdl : d < 128 := by rw [← hde]; exact dc_lt L S _ hD.bm.gen.lt hS
  rw [hde] at hd
  have HDE := Lib.hid hde
  have HDF := Lib.hid hd
  have hLN := hD.bm.len
  have hbl := hD.bl
  have hbw : base ≤ w.heap.size := by have := hD.hq; have := hD.row.lt; omega
  obtain ⟨N, hN⟩ : ∃ N, T.length = N := ⟨_, rfl⟩
  rw [hN] at hlen hLN
  have HN := Lib.hid hN
  clear hS hs hde hd hN hD
  go_enter Tryd.func57, Tryd.ntmps57
  go_wp2_with fail
  refine (failure_any T P s q f gp L b vt vp vo _ HD.out.elT HD.out.elP hsl HD.out.lp.1 (by have := HD.out.lp.2; have := HN.out; omega) (by have := HN.out; omega) HD.out.row (own_ints HD.out.own) HD.out.poly HD.out.fd).mono ?_
  rintro e w1 ⟨rfl, nq, rfl⟩
  rw [HDF.out]
  have HR1 : Hid (Row (w.drewN nq) q 93 (fin6 f vt vp L vo b)) := HD.out.row
  have HF1 : Hid (Fd (w.drewN nq) f) := HD.out.fd
  have HO1 : Hid ((w.drewN nq).ownsRow base 3 1 vt N (vs T)) := by rw [← HN.out]; exact HD.out.own
  have HP1 : Hid (NAt (w.drewN nq) vp P gp) := HD.out.poly
  have HQ1 : Hid (NAt (w.drewN nq) vo O go) := HD.out.old
  have HB1 : Hid (Below base w (w.drewN nq)) := Below.drewN (⟨rfl, rfl, rfl, by have := HD.out.hq; have := HD.out.row.lt; omega, fun _ _ => rfl⟩) nq
  have hNP : Hid (vt.ownBlock ≠ some gp) := HD.out.neP
  have hNO : Hid (vt.ownBlock ≠ some go) := HD.out.neO
  have HQB : Hid (base ≤ q) := HD.out.hq
  generalize w.drewN nq = w1 at *
  by_cases h0 : d = 0
  · subst h0
    clear hdl
    obtain ⟨c0, c1, c2, c3, c4, c5⟩ := fin_cells HR1.out
    have HB2 := Lib.hid (HB1.out.alloc (Nat.le_trans hbw HB1.out.size) (.cells #[.int .i64 (s : Nat)] 3))
    go_wp2_with (at_builtin; refine wpList_append_lies _ rfl _ _ 57 rfl base 3 i0 (.int .i64 0) 1 8 Tryd.underlying57 HT.out.1 HT.out.2.1 HT.out.2.2.1 HT.out.2.2.2 rfl (by decide) _ _ _ rfl (HO1.out.alloc _) ⟨w1.heap.size, 0, none⟩ 1 1 [.int .i64 (s : Nat)] rfl rfl (one_new _ _ rfl _ _) one_cell (by omega) ?c3 ?c4 ?c5 (w1.heap.size + 1) (by simp) ?_)
    case c3 => unfold maxLen; omega
    case c4 => omega
    case c5 => have := HB1.out.size; simp; omega
    intro gt tcap w5 hown hgrow hat hlt
    have hqne := own_row_ne (HO1.out.alloc (.cells #[.int .i64 (s : Nat)] 3)) (HR1.out.alloc _) (by decide)
    have hqlt := HR1.out.lt
    have HR5 : Hid (Row w5 q 93 (fin6 f vt vp L vo b)) := Row.grown (HR1.out.alloc _) hgrow (by simp; omega) hqne
    have hfne := own_row_ne (HO1.out.alloc (.cells #[.int .i64 (s : Nat)] 3)) (Row.alloc HF1.out _) (by decide)
    have hflt := Row.lt HF1.out
    have HF5 : Hid (Fd w5 f) := Row.grown (Row.alloc HF1.out _) hgrow (by simp; omega) hfne
    have hplt := HP1.out.lt
    have holt := HQ1.out.lt
    have HP5 : Hid (NAt w5 vp P gp) := HP1.out.mono fun _ h => Row.grown (h.alloc _) hgrow (by simp; omega) (Ne.symm hNP.out)
    have HQ5 : Hid (NAt w5 vo O go) := HQ1.out.mono fun _ h => Row.grown (h.alloc _) hgrow (by simp; omega) (Ne.symm hNO.out)
    have hB0 := HB1.out.size
    have hown0 := own_ge (HO1.out.alloc (.cells #[.int .i64 (s : Nat)] 3))
    have HB5 : Hid (Below base w w5) := HB2.out.grown hgrow (by simp; omega) (fun k hk => by have := hown0 k hk; omega)
    have hgp : gt ≠ gp := by
      rcases hat with h | h
      · intro e; exact hNP.out (by rw [h, e])
      · omega
    have hgo : gt ≠ go := by
      rcases hat with h | h
      · intro e; exact hNO.out (by rw [h, e])
      · omega
    have hgq : gt ≠ q := by
      rcases hat with h | h
      · intro e; exact hqne (by rw [h, e])
      · omega
    have hgf : gt ≠ f := by
      rcases hat with h | h
      · intro e; exact hfne (by rw [h, e])
      · omega
    have HO5 : Hid (w5.ownsRow base 3 1 (.slice (some ⟨gt, 0, none⟩) (N + 1) tcap) (N + 1) (vs (T ++ [s]))) := by
      unfold Hid; rw [vs_snoc]; exact hown
    have HGB : Hid (base ≤ gt) := own_ge hown gt rfl
    have HGT := Lib.hid hlt
    clear c0 c1 c2 c3 c4 c5
    clear hown hgrow hat hlt hown0 hqlt hflt hplt holt hB0 HB2 HO1 HP1 HQ1 HF1 HR1 HB1 hqne hfne
    obtain ⟨c0, c1, c2, c3, c4, c5⟩ := fin_cells HR5.out
    have f1 := HR5.out.free 1
    go_wp2_with fail
    clear c0 c1 c2 c3 c4 c5 f1
    have hqb := HQB.out
    have HR6 : Hid (Row (w5.setCell ⟨q, 1, none⟩ (.slice (some ⟨gt, 0, none⟩) (N + 1) tcap)) q 93 (fin6 f (.slice (some ⟨gt, 0, none⟩) (N + 1) tcap) vp L vo b)) := HR5.out.set 1 _
    have HF6 : Hid (Fd (w5.setCell ⟨q, 1, none⟩ (.slice (some ⟨gt, 0, none⟩) (N + 1) tcap)) f) := Row.far HF5.out (p := ⟨q, 1, none⟩) (row_ne HF5.out HR5.out (by decide)) _
    have HP6 : Hid (NAt (w5.setCell ⟨q, 1, none⟩ (.slice (some ⟨gt, 0, none⟩) (N + 1) tcap)) vp P gp) := HP5.out.mono fun _ h => Row.far h (p := ⟨q, 1, none⟩) (row_ne h HR5.out (by decide)) _
    have HQ6 : Hid (NAt (w5.setCell ⟨q, 1, none⟩ (.slice (some ⟨gt, 0, none⟩) (N + 1) tcap)) vo O go) := HQ5.out.mono fun _ h => Row.far h (p := ⟨q, 1, none⟩) (row_ne h HR5.out (by decide)) _
    have HB6 : Hid (Below base w (w5.setCell ⟨q, 1, none⟩ (.slice (some ⟨gt, 0, none⟩) (N + 1) tcap))) := HB5.out.setCell (p := ⟨q, 1, none⟩) hqb _
    have HO6 : Hid ((w5.setCell ⟨q, 1, none⟩ (.slice (some ⟨gt, 0, none⟩) (N + 1) tcap)).ownsRow base 3 1 (.slice (some ⟨gt, 0, none⟩) (N + 1) tcap) (N + 1) (vs (T ++ [s]))) := own_far HO5.out _ _ (by simp [Value.ownBlock]; exact Ne.symm hgq)
    have hgt6 : gt < (w5.setCell ⟨q, 1, none⟩ (.slice (some ⟨gt, 0, none⟩) (N + 1) tcap)).heap.size := by have := HGT.out; simp [World.setCell]; omega
    generalize w5.setCell ⟨q, 1, none⟩ (.slice (some ⟨gt, 0, none⟩) (N + 1) tcap) = w6 at *
    clear HR5 HF5 HP5 HQ5 HB5 HO5 HGT
    refine (clone_any vo O go _ HQ6.out (by have := HD.out.lo; have := HN.out; omega)).mono ?_
    rintro e w7 ⟨vc, rfl, hown7, hb7⟩
    have HO7 := Lib.hid hown7
    have HB7 := Lib.hid hb7
    clear hown7 hb7
    go_wp2_with fail
    have hs7 := HB7.out.size
    have HB8 := Lib.hid (HB7.out.alloc hs7 (.cells #[.int .i64 0] 3))
    refine (ins0_any vc O w6.heap.size w7.heap.size _ (HO7.out.alloc _) (row_new w7 _ rfl _ _) ?n1 (by have := HD.out.lo; omega) (by have := HD.out.lo; have := HN.out; omega) (by simp; omega)).mono ?_
    case n1 =>
      intro e
      have hx := (HO7.out.lt _ e.symm).2
      omega
    rintro e w9 ⟨vi, gi, rfl, hni, hgi, hgr⟩
    have hown9 := own_ge (HO7.out.alloc (.cells #[.int .i64 0] 3))
    have HB9 : Hid (Below w6.heap.size w6 w9) := HB8.out.grown hgr (by simp; omega) (fun k hk => by have := hown9 k hk; omega)
    obtain ⟨icap, hvi⟩ := hni.form
    subst hvi
    have HNI := Lib.hid hni
    have HGI := Lib.hid hgi
    clear hni hgi hgr hown9 HB8 HO7 HB7 hs7
    have HR9 : Hid (Row w9 q 93 (fin6 f (.slice (some ⟨gt, 0, none⟩) (N + 1) tcap) vp L vo b)) := HR6.out.box HB9.out
    obtain ⟨c0, c1, c2, c3, c4, c5⟩ := fin_cells HR9.out
    have f4 := HR9.out.free 4
    go_wp2
    clear c0 c1 c2 c3 c4 c5 f4
    have HF9 : Hid (Fd w9 f) := Row.box HF6.out HB9.out
    have HP9 := Lib.hid (HP6.out.box HB9.out)
    have hw6 := HB6.out.size
    have HO9 : Hid (w9.ownsRow base 3 1 (.slice (some ⟨gt, 0, none⟩) (N + 1) tcap) (N + 1) (vs (T ++ [s]))) := own_below HO6.out HB9.out
    have HBF : Hid (Below base w w9) := HB6.out.trans (HB9.out.mono (Nat.le_trans hbw hw6))
    have HL1 : Hid ((T ++ [s]).length = N + 1) := by
      unfold Hid; rw [List.length_append, HN.out]; rfl
    go_end0
    refine ⟨rfl, ⟨.slice (some ⟨gt, 0, none⟩) (N + 1) tcap, vp, .slice (some ⟨gi, 0, none⟩) (O.length + 1) icap, L, b, gp, gi, m + 1, P, 0 :: O, C, B, ?_⟩, HBF.out.setCell (p := ⟨q, 4, none⟩) HQB.out _⟩
    have hgi2 := HGI.out
    exact { row := HR9.out.set 4 _, fd := Row.far HF9.out (p := ⟨q, 4, none⟩) (row_ne HF9.out HR9.out (by decide)) _, hq := HQB.out,
            own := by rw [HL1.out]; exact own_far HO9.out _ _ (by simp [Value.ownBlock]; exact Ne.symm hgq),
            neP := by simp [Value.ownBlock]; exact hgp, neO := by simp [Value.ownBlock]; omega,
            poly := HP9.out.mono fun _ h => Row.far h (p := ⟨q, 4, none⟩) (row_ne h HR9.out (by decide)) _,
            old := HNI.out.mono fun _ h => Row.far h (p := ⟨q, 4, none⟩) (row_ne h HR9.out (by decide)) _,
            elT := els_snoc T s HD.out.elT hsl, elP := HD.out.elP, elO := els_cons0 O HD.out.elO, lp := by have h1 := HD.out.lp; have h2 := HN.out; rw [HL1.out]; omega, lo := by have h1 := HD.out.lo; have h2 := HN.out; rw [HL1.out, List.length_cons]; omega,
            seq := fun i hi => snoc_seq T S s HD.out.seq HSN.out i hi, cP := HD.out.cP, cO := fun i => cons_old O B m HD.out.cO i,
            bm := by rw [HL1.out, ← HN.out]; exact bm_zero HD.out.bm HDE.out, bl := HD.out.bl }
  · have e0 : (((d : Nat) : Int) != 0) = true := by rw [bne_iff_ne]; omega
    have e0' : ((d : Nat) != 0) = true := by rw [bne_iff_ne]; omega
    go_wp2_with fail
    clear e0 e0'
    refine (mended_any P O d q f gp go L b vt vp vo _ HD.out.elP HD.out.elO hdl hbl (by have := HD.out.lp.2; have := HN.out; omega) (by have := HD.out.lo.2; have := HN.out; omega) HR1.out HP1.out HQ1.out HF1.out).mono ?_
    rintro e w2 ⟨rfl, hr, hb⟩
    have HPL : Hid ((mj P O (mul d (inv b)) (max P.length O.length) O.length).length = max P.length O.length) := mj_length _ _ _ _ _
    have HPE : Hid (Els (mj P O (mul d (inv b)) (max P.length O.length) O.length)) := mj_els _ _ _ _ _ (mul_lt _ _ hdl (inv_lt b)) HD.out.elP HD.out.elO
    have HPU : Hid (∀ i, (mj P O (mul d (inv b)) (max P.length O.length) O.length).getD i 0 = upd C B (mul d (inv b)) m i) := mj_upd C B P O _ m (mul_lt _ _ hdl (inv_lt b)) HD.out.cP HD.out.cO
    generalize mj P O (mul d (inv b)) (max P.length O.length) O.length = P2 at *
    generalize hmx : max P.length O.length = n2 at *
    have hmx2 : n2 ≤ N + 2 ∧ 1 ≤ n2 := by have := HD.out.lp; have := HD.out.lo; have := HN.out; omega
    clear hmx
    have HPN : Hid (NAt w2 (.slice (some ⟨w1.heap.size, 0, none⟩) n2 n2) P2 w1.heap.size) := by
      refine ⟨n2, _, by rw [HPL.out], hr, fun i hi => natCells_get P2 i hi⟩
    have HR2 := Lib.hid (HR1.out.box hb)
    have HF2 : Hid (Fd w2 f) := Row.box HF1.out hb
    have HP2 := Lib.hid (HP1.out.box hb)
    have HQ2 := Lib.hid (HQ1.out.box hb)
    have HO2 := Lib.hid (own_below HO1.out hb)
    have HB2 : Hid (Below base w w2) := HB1.out.trans (hb.mono (Nat.le_trans hbw HB1.out.size))
    have hg2 : gp < w1.heap.size := HP1.out.lt
    have hg3 : go < w1.heap.size := HQ1.out.lt
    have HN2 : Hid (vt.ownBlock ≠ some w1.heap.size) := by
      intro e
      have := (HO1.out.lt _ e).2
      omega
    clear hr hb HR1 HF1 HP1 HQ1 HO1 HB1
    generalize w1.heap.size = g2 at *
    obtain ⟨ta, tcap0, hvt⟩ := own_form HO2.out
    subst hvt
    obtain ⟨c0, c1, c2, c3, c4, c5⟩ := fin_cells HR2.out
    have f2 := HR2.out.free 2
    have f3 := HR2.out.free 3
    have f4 := HR2.out.free 4
    have f5 := HR2.out.free 5
    by_cases hl2 : N < 2 * L
    · have k2 : ¬ (2 * (L : Int) ≤ (N : Int)) := by omega
      go_upto_region 8 with fail
      clear k2 c0 c1 c2 c3 c4 c5 f2 f3 f4 f5
      have HR3 : Hid (Row (w2.setCell ⟨q, 2, none⟩ (.slice (some ⟨g2, 0, none⟩) n2 n2)) q 93 (fin6 f (.slice ta N tcap0) (.slice (some ⟨g2, 0, none⟩) n2 n2) L vo b)) := (HR2.out.set 2 (.slice (some ⟨g2, 0, none⟩) n2 n2))
      have hqf := row_ne HF2.out HR2.out (by decide)
      have HF3 : Hid (Fd (w2.setCell ⟨q, 2, none⟩ (.slice (some ⟨g2, 0, none⟩) n2 n2)) f) := (Row.far HF2.out (p := ⟨q, 2, none⟩) hqf (.slice (some ⟨g2, 0, none⟩) n2 n2))
      have HTMP : Hid (g2 ≠ q) := HPN.out.ne HR2.out (by decide)
      have HA3 : Hid (NAt (w2.setCell ⟨q, 2, none⟩ (.slice (some ⟨g2, 0, none⟩) n2 n2)) (.slice (some ⟨g2, 0, none⟩) n2 n2) P2 g2) := HPN.out.mono fun _ h => (Row.far h (p := ⟨q, 2, none⟩) HTMP.out (.slice (some ⟨g2, 0, none⟩) n2 n2))
      clear HTMP
      have HTMP : Hid (gp ≠ q) := HP2.out.ne HR2.out (by decide)
      have HP3 : Hid (NAt (w2.setCell ⟨q, 2, none⟩ (.slice (some ⟨g2, 0, none⟩) n2 n2)) vp P gp) := HP2.out.mono fun _ h => (Row.far h (p := ⟨q, 2, none⟩) HTMP.out (.slice (some ⟨g2, 0, none⟩) n2 n2))
      clear HTMP
      have HTMP : Hid (go ≠ q) := HQ2.out.ne HR2.out (by decide)
      have HQ3 : Hid (NAt (w2.setCell ⟨q, 2, none⟩ (.slice (some ⟨g2, 0, none⟩) n2 n2)) vo O go) := HQ2.out.mono fun _ h => (Row.far h (p := ⟨q, 2, none⟩) HTMP.out (.slice (some ⟨g2, 0, none⟩) n2 n2))
      clear HTMP
      have hqo := own_row_ne HO2.out HR2.out (by decide)
      have HO3 : Hid (World.ownsRow (w2.setCell ⟨q, 2, none⟩ (.slice (some ⟨g2, 0, none⟩) n2 n2)) base 3 1 (.slice ta N tcap0) N (vs T)) := (own_far HO2.out ⟨q, 2, none⟩ (.slice (some ⟨g2, 0, none⟩) n2 n2) hqo)
      have HB3 : Hid (Below base w (w2.setCell ⟨q, 2, none⟩ (.slice (some ⟨g2, 0, none⟩) n2 n2))) := (Below.setCell HB2.out (p := ⟨q, 2, none⟩) HQB.out (.slice (some ⟨g2, 0, none⟩) n2 n2))
      clear HR2 HF2 HPN HP2 HQ2 HO2 HB2 hqf hqo
      generalize (w2.setCell ⟨q, 2, none⟩ (.slice (some ⟨g2, 0, none⟩) n2 n2)) = w3 at *
      obtain ⟨c0, c1, c2, c3, c4, c5⟩ := fin_cells HR3.out
      have HB2 := Lib.hid (HB3.out.alloc (Nat.le_trans hbw HB3.out.size) (.cells #[.int .i64 (s : Nat)] 3))
      go_wp2_with (at_builtin; refine wpList_append_lies _ rfl _ _ 57 rfl base 3 i0 (.int .i64 0) 1 8 Tryd.underlying57 HT.out.1 HT.out.2.1 HT.out.2.2.1 HT.out.2.2.2 rfl (by decide) _ _ _ rfl (HO3.out.alloc _) ⟨w3.heap.size, 0, none⟩ 1 1 [.int .i64 (s : Nat)] rfl rfl (one_new _ _ rfl _ _) one_cell (by omega) ?c3 ?c4 ?c5 (w3.heap.size + 1) (by simp) ?_)
      case c3 => unfold maxLen; omega
      case c4 => omega
      case c5 => have := HB3.out.size; simp; omega
      intro gt tcap w5 hown hgrow hat hlt
      have hqne := own_row_ne (HO3.out.alloc (.cells #[.int .i64 (s : Nat)] 3)) (HR3.out.alloc _) (by decide)
      have hqlt := HR3.out.lt
      have HR5 : Hid (Row w5 q 93 (fin6 f (.slice ta N tcap0) (.slice (some ⟨g2, 0, none⟩) n2 n2) L vo b)) := Row.grown (HR3.out.alloc _) hgrow (by simp; omega) hqne
      have hfne := own_row_ne (HO3.out.alloc (.cells #[.int .i64 (s : Nat)] 3)) (Row.alloc HF3.out _) (by decide)
      have hflt := Row.lt HF3.out
      have HF5 : Hid (Fd w5 f) := Row.grown (Row.alloc HF3.out _) hgrow (by simp; omega) hfne
      have hplt := HA3.out.lt
      have holt := HQ3.out.lt
      have HP5 : Hid (NAt w5 (.slice (some ⟨g2, 0, none⟩) n2 n2) P2 g2) := HA3.out.mono fun _ h => Row.grown (h.alloc _) hgrow (by simp; omega) (Ne.symm HN2.out)
      have HQ5 : Hid (NAt w5 vo O go) := HQ3.out.mono fun _ h => Row.grown (h.alloc _) hgrow (by simp; omega) (Ne.symm hNO.out)
      have hB0 := HB3.out.size
      have hown0 := own_ge (HO3.out.alloc (.cells #[.int .i64 (s : Nat)] 3))
      have HB5 : Hid (Below base w w5) := HB2.out.grown hgrow (by simp; omega) (fun k hk => by have := hown0 k hk; omega)
      have hgp : gt ≠ g2 := by
        rcases hat with h | h
        · intro e; exact HN2.out (by rw [h, e])
        · omega
      have hgo : gt ≠ go := by
        rcases hat with h | h
        · intro e; exact hNO.out (by rw [h, e])
        · omega
      have hgq : gt ≠ q := by
        rcases hat with h | h
        · intro e; exact hqne (by rw [h, e])
        · omega
      have hgf : gt ≠ f := by
        rcases hat with h | h
        · intro e; exact hfne (by rw [h, e])
        · omega
      have HO5 : Hid (w5.ownsRow base 3 1 (.slice (some ⟨gt, 0, none⟩) (N + 1) tcap) (N + 1) (vs (T ++ [s]))) := by
        unfold Hid; rw [vs_snoc]; exact hown
      have HGB : Hid (base ≤ gt) := own_ge hown gt rfl
      have HGT := Lib.hid hlt
      clear c0 c1 c2 c3 c4 c5
      clear hown hgrow hat hlt hown0 hqlt hflt hplt holt hB0 HB2 HO3 HA3 HQ3 HF3 HR3 HB3 hqne hfne
      obtain ⟨c0, c1, c2, c3, c4, c5⟩ := fin_cells HR5.out
      have f1 := HR5.out.free 1
      go_wp2_with fail
      clear c0 c1 c2 c3 c4 c5 f1
      have hqb := HQB.out
      have HR6 : Hid (Row (w5.setCell ⟨q, 1, none⟩ (.slice (some ⟨gt, 0, none⟩) (N + 1) tcap)) q 93 (fin6 f (.slice (some ⟨gt, 0, none⟩) (N + 1) tcap) (.slice (some ⟨g2, 0, none⟩) n2 n2) L vo b)) := HR5.out.set 1 _
      have HF6 : Hid (Fd (w5.setCell ⟨q, 1, none⟩ (.slice (some ⟨gt, 0, none⟩) (N + 1) tcap)) f) := Row.far HF5.out (p := ⟨q, 1, none⟩) (row_ne HF5.out HR5.out (by decide)) _
      have HP6 : Hid (NAt (w5.setCell ⟨q, 1, none⟩ (.slice (some ⟨gt, 0, none⟩) (N + 1) tcap)) (.slice (some ⟨g2, 0, none⟩) n2 n2) P2 g2) := HP5.out.mono fun _ h => Row.far h (p := ⟨q, 1, none⟩) (row_ne h HR5.out (by decide)) _
      have HQ6 : Hid (NAt (w5.setCell ⟨q, 1, none⟩ (.slice (some ⟨gt, 0, none⟩) (N + 1) tcap)) vo O go) := HQ5.out.mono fun _ h => Row.far h (p := ⟨q, 1, none⟩) (row_ne h HR5.out (by decide)) _
      have HB6 : Hid (Below base w (w5.setCell ⟨q, 1, none⟩ (.slice (some ⟨gt, 0, none⟩) (N + 1) tcap))) := HB5.out.setCell (p := ⟨q, 1, none⟩) hqb _
      have HO6 : Hid ((w5.setCell ⟨q, 1, none⟩ (.slice (some ⟨gt, 0, none⟩) (N + 1) tcap)).ownsRow base 3 1 (.slice (some ⟨gt, 0, none⟩) (N + 1) tcap) (N + 1) (vs (T ++ [s]))) := own_far HO5.out _ _ (by simp [Value.ownBlock]; exact Ne.symm hgq)
      have hgt6 : gt < (w5.setCell ⟨q, 1, none⟩ (.slice (some ⟨gt, 0, none⟩) (N + 1) tcap)).heap.size := by have := HGT.out; simp [World.setCell]; omega
      generalize w5.setCell ⟨q, 1, none⟩ (.slice (some ⟨gt, 0, none⟩) (N + 1) tcap) = w6 at *
      clear HR5 HF5 HP5 HQ5 HB5 HO5 HGT
      refine (clone_any vo O go _ HQ6.out (by have := HD.out.lo; have := HN.out; omega)).mono ?_
      rintro e w7 ⟨vc, rfl, hown7, hb7⟩
      have HO7 := Lib.hid hown7
      have HB7 := Lib.hid hb7
      clear hown7 hb7
      go_wp2_with fail
      have hs7 := HB7.out.size
      have HB8 := Lib.hid (HB7.out.alloc hs7 (.cells #[.int .i64 0] 3))
      refine (ins0_any vc O w6.heap.size w7.heap.size _ (HO7.out.alloc _) (row_new w7 _ rfl _ _) ?n1 (by have := HD.out.lo; omega) (by have := HD.out.lo; have := HN.out; omega) (by simp; omega)).mono ?_
      case n1 =>
        intro e
        have hx := (HO7.out.lt _ e.symm).2
        omega
      rintro e w9 ⟨vi, gi, rfl, hni, hgi, hgr⟩
      have hown9 := own_ge (HO7.out.alloc (.cells #[.int .i64 0] 3))
      have HB9 : Hid (Below w6.heap.size w6 w9) := HB8.out.grown hgr (by simp; omega) (fun k hk => by have := hown9 k hk; omega)
      obtain ⟨icap, hvi⟩ := hni.form
      subst hvi
      have HNI := Lib.hid hni
      have HGI := Lib.hid hgi
      clear hni hgi hgr hown9 HB8 HO7 HB7 hs7
      have HR9 : Hid (Row w9 q 93 (fin6 f (.slice (some ⟨gt, 0, none⟩) (N + 1) tcap) (.slice (some ⟨g2, 0, none⟩) n2 n2) L vo b)) := HR6.out.box HB9.out
      obtain ⟨c0, c1, c2, c3, c4, c5⟩ := fin_cells HR9.out
      have f4 := HR9.out.free 4
      go_wp2
      clear c0 c1 c2 c3 c4 c5 f4
      have HF9 : Hid (Fd w9 f) := Row.box HF6.out HB9.out
      have HP9 := Lib.hid (HP6.out.box HB9.out)
      have hw6 := HB6.out.size
      have HO9 : Hid (w9.ownsRow base 3 1 (.slice (some ⟨gt, 0, none⟩) (N + 1) tcap) (N + 1) (vs (T ++ [s]))) := own_below HO6.out HB9.out
      have HBF : Hid (Below base w w9) := HB6.out.trans (HB9.out.mono (Nat.le_trans hbw hw6))
      have HL1 : Hid ((T ++ [s]).length = N + 1) := by
        unfold Hid; rw [List.length_append, HN.out]; rfl
      go_end0
      refine ⟨rfl, ⟨.slice (some ⟨gt, 0, none⟩) (N + 1) tcap, (.slice (some ⟨g2, 0, none⟩) n2 n2), .slice (some ⟨gi, 0, none⟩) (O.length + 1) icap, L, b, g2, gi, m + 1, P2, 0 :: O, upd C B (mul d (inv b)) m, B, ?_⟩, HBF.out.setCell (p := ⟨q, 4, none⟩) HQB.out _⟩
      have hgi2 := HGI.out
      exact { row := HR9.out.set 4 _, fd := Row.far HF9.out (p := ⟨q, 4, none⟩) (row_ne HF9.out HR9.out (by decide)) _, hq := HQB.out,
              own := by rw [HL1.out]; exact own_far HO9.out _ _ (by simp [Value.ownBlock]; exact Ne.symm hgq),
              neP := by simp [Value.ownBlock]; exact hgp, neO := by simp [Value.ownBlock]; omega,
              poly := HP9.out.mono fun _ h => Row.far h (p := ⟨q, 4, none⟩) (row_ne h HR9.out (by decide)) _,
              old := HNI.out.mono fun _ h => Row.far h (p := ⟨q, 4, none⟩) (row_ne h HR9.out (by decide)) _,
              elT := els_snoc T s HD.out.elT hsl, elP := HPE.out, elO := els_cons0 O HD.out.elO, lp := by have h2 := HPL.out; rw [HL1.out]; omega, lo := by have h1 := HD.out.lo; have h2 := HN.out; rw [HL1.out, List.length_cons]; omega,
              seq := fun i hi => snoc_seq T S s HD.out.seq HSN.out i hi, cP := HPU.out, cO := fun i => cons_old O B m HD.out.cO i,
              bm := by rw [HL1.out, ← HN.out]; exact (by have := bm_same HSL.out HD.out.bm (by rw [HDE.out]; exact h0) (by have := HN.out; omega); rwa [HDE.out] at this), bl := HD.out.bl }
    · have k2 : 2 * (L : Int) ≤ (N : Int) := by omega
      obtain ⟨L2, hL2⟩ : ∃ L2, N + 1 - L = L2 := ⟨_, rfl⟩
      have hsub : (N : Int) + 1 - (L : Int) = (L2 : Int) := by omega
      obtain ⟨pcap, hvp⟩ := HP2.out.form
      subst hvp
      go_upto_region 8 with fail
      clear k2 c0 c1 c2 c3 c4 c5 f2 f3 f4 f5
      have HR3 : Hid (Row ((((w2.setCell ⟨q, 3, none⟩ (.int .i64 (L2 : Nat))).setCell ⟨q, 4, none⟩ (.slice (some ⟨gp, 0, none⟩) P.length pcap)).setCell ⟨q, 5, none⟩ (.int .i64 (d : Nat))).setCell ⟨q, 2, none⟩ (.slice (some ⟨g2, 0, none⟩) n2 n2)) q 93 (fin6 f (.slice ta N tcap0) (.slice (some ⟨g2, 0, none⟩) n2 n2) L2 (.slice (some ⟨gp, 0, none⟩) P.length pcap) d)) := ((((HR2.out.set 3 (.int .i64 (L2 : Nat))).set 4 (.slice (some ⟨gp, 0, none⟩) P.length pcap)).set 5 (.int .i64 (d : Nat))).set 2 (.slice (some ⟨g2, 0, none⟩) n2 n2))
      have hqf := row_ne HF2.out HR2.out (by decide)
      have HF3 : Hid (Fd ((((w2.setCell ⟨q, 3, none⟩ (.int .i64 (L2 : Nat))).setCell ⟨q, 4, none⟩ (.slice (some ⟨gp, 0, none⟩) P.length pcap)).setCell ⟨q, 5, none⟩ (.int .i64 (d : Nat))).setCell ⟨q, 2, none⟩ (.slice (some ⟨g2, 0, none⟩) n2 n2)) f) := (Row.far (Row.far (Row.far (Row.far HF2.out (p := ⟨q, 3, none⟩) hqf (.int .i64 (L2 : Nat))) (p := ⟨q, 4, none⟩) hqf (.slice (some ⟨gp, 0, none⟩) P.length pcap)) (p := ⟨q, 5, none⟩) hqf (.int .i64 (d : Nat))) (p := ⟨q, 2, none⟩) hqf (.slice (some ⟨g2, 0, none⟩) n2 n2))
      have HTMP : Hid (g2 ≠ q) := HPN.out.ne HR2.out (by decide)
      have HA3 : Hid (NAt ((((w2.setCell ⟨q, 3, none⟩ (.int .i64 (L2 : Nat))).setCell ⟨q, 4, none⟩ (.slice (some ⟨gp, 0, none⟩) P.length pcap)).setCell ⟨q, 5, none⟩ (.int .i64 (d : Nat))).setCell ⟨q, 2, none⟩ (.slice (some ⟨g2, 0, none⟩) n2 n2)) (.slice (some ⟨g2, 0, none⟩) n2 n2) P2 g2) := HPN.out.mono fun _ h => (Row.far (Row.far (Row.far (Row.far h (p := ⟨q, 3, none⟩) HTMP.out (.int .i64 (L2 : Nat))) (p := ⟨q, 4, none⟩) HTMP.out (.slice (some ⟨gp, 0, none⟩) P.length pcap)) (p := ⟨q, 5, none⟩) HTMP.out (.int .i64 (d : Nat))) (p := ⟨q, 2, none⟩) HTMP.out (.slice (some ⟨g2, 0, none⟩) n2 n2))
      clear HTMP
      have HTMP : Hid (gp ≠ q) := HP2.out.ne HR2.out (by decide)
      have HP3 : Hid (NAt ((((w2.setCell ⟨q, 3, none⟩ (.int .i64 (L2 : Nat))).setCell ⟨q, 4, none⟩ (.slice (some ⟨gp, 0, none⟩) P.length pcap)).setCell ⟨q, 5, none⟩ (.int .i64 (d : Nat))).setCell ⟨q, 2, none⟩ (.slice (some ⟨g2, 0, none⟩) n2 n2)) (.slice (some ⟨gp, 0, none⟩) P.length pcap) P gp) := HP2.out.mono fun _ h => (Row.far (Row.far (Row.far (Row.far h (p := ⟨q, 3, none⟩) HTMP.out (.int .i64 (L2 : Nat))) (p := ⟨q, 4, none⟩) HTMP.out (.slice (some ⟨gp, 0, none⟩) P.length pcap)) (p := ⟨q, 5, none⟩) HTMP.out (.int .i64 (d : Nat))) (p := ⟨q, 2, none⟩) HTMP.out (.slice (some ⟨g2, 0, none⟩) n2 n2))
      clear HTMP
      have HTMP : Hid (go ≠ q) := HQ2.out.ne HR2.out (by decide)
      have HQ3 : Hid (NAt ((((w2.setCell ⟨q, 3, none⟩ (.int .i64 (L2 : Nat))).setCell ⟨q, 4, none⟩ (.slice (some ⟨gp, 0, none⟩) P.length pcap)).setCell ⟨q, 5, none⟩ (.int .i64 (d : Nat))).setCell ⟨q, 2, none⟩ (.slice (some ⟨g2, 0, none⟩) n2 n2)) vo O go) := HQ2.out.mono fun _ h => (Row.far (Row.far (Row.far (Row.far h (p := ⟨q, 3, none⟩) HTMP.out (.int .i64 (L2 : Nat))) (p := ⟨q, 4, none⟩) HTMP.out (.slice (some ⟨gp, 0, none⟩) P.length pcap)) (p := ⟨q, 5, none⟩) HTMP.out (.int .i64 (d : Nat))) (p := ⟨q, 2, none⟩) HTMP.out (.slice (some ⟨g2, 0, none⟩) n2 n2))
      clear HTMP
      have hqo := own_row_ne HO2.out HR2.out (by decide)
      have HO3 : Hid (World.ownsRow ((((w2.setCell ⟨q, 3, none⟩ (.int .i64 (L2 : Nat))).setCell ⟨q, 4, none⟩ (.slice (some ⟨gp, 0, none⟩) P.length pcap)).setCell ⟨q, 5, none⟩ (.int .i64 (d : Nat))).setCell ⟨q, 2, none⟩ (.slice (some ⟨g2, 0, none⟩) n2 n2)) base 3 1 (.slice ta N tcap0) N (vs T)) := (own_far (own_far (own_far (own_far HO2.out ⟨q, 3, none⟩ (.int .i64 (L2 : Nat)) hqo) ⟨q, 4, none⟩ (.slice (some ⟨gp, 0, none⟩) P.length pcap) hqo) ⟨q, 5, none⟩ (.int .i64 (d : Nat)) hqo) ⟨q, 2, none⟩ (.slice (some ⟨g2, 0, none⟩) n2 n2) hqo)
      have HB3 : Hid (Below base w ((((w2.setCell ⟨q, 3, none⟩ (.int .i64 (L2 : Nat))).setCell ⟨q, 4, none⟩ (.slice (some ⟨gp, 0, none⟩) P.length pcap)).setCell ⟨q, 5, none⟩ (.int .i64 (d : Nat))).setCell ⟨q, 2, none⟩ (.slice (some ⟨g2, 0, none⟩) n2 n2))) := (Below.setCell (Below.setCell (Below.setCell (Below.setCell HB2.out (p := ⟨q, 3, none⟩) HQB.out (.int .i64 (L2 : Nat))) (p := ⟨q, 4, none⟩) HQB.out (.slice (some ⟨gp, 0, none⟩) P.length pcap)) (p := ⟨q, 5, none⟩) HQB.out (.int .i64 (d : Nat))) (p := ⟨q, 2, none⟩) HQB.out (.slice (some ⟨g2, 0, none⟩) n2 n2))
      clear HR2 HF2 HPN HP2 HQ2 HO2 HB2 hqf hqo
      generalize ((((w2.setCell ⟨q, 3, none⟩ (.int .i64 (L2 : Nat))).setCell ⟨q, 4, none⟩ (.slice (some ⟨gp, 0, none⟩) P.length pcap)).setCell ⟨q, 5, none⟩ (.int .i64 (d : Nat))).setCell ⟨q, 2, none⟩ (.slice (some ⟨g2, 0, none⟩) n2 n2)) = w3 at *
      obtain ⟨c0, c1, c2, c3, c4, c5⟩ := fin_cells HR3.out
      have HB2 := Lib.hid (HB3.out.alloc (Nat.le_trans hbw HB3.out.size) (.cells #[.int .i64 (s : Nat)] 3))
      go_wp2_with (at_builtin; refine wpList_append_lies _ rfl _ _ 57 rfl base 3 i0 (.int .i64 0) 1 8 Tryd.underlying57 HT.out.1 HT.out.2.1 HT.out.2.2.1 HT.out.2.2.2 rfl (by decide) _ _ _ rfl (HO3.out.alloc _) ⟨w3.heap.size, 0, none⟩ 1 1 [.int .i64 (s : Nat)] rfl rfl (one_new _ _ rfl _ _) one_cell (by omega) ?c3 ?c4 ?c5 (w3.heap.size + 1) (by simp) ?_)
      case c3 => unfold maxLen; omega
      case c4 => omega
      case c5 => have := HB3.out.size; simp; omega
      intro gt tcap w5 hown hgrow hat hlt
      have hqne := own_row_ne (HO3.out.alloc (.cells #[.int .i64 (s : Nat)] 3)) (HR3.out.alloc _) (by decide)
      have hqlt := HR3.out.lt
      have HR5 : Hid (Row w5 q 93 (fin6 f (.slice ta N tcap0) (.slice (some ⟨g2, 0, none⟩) n2 n2) L2 (.slice (some ⟨gp, 0, none⟩) P.length pcap) d)) := Row.grown (HR3.out.alloc _) hgrow (by simp; omega) hqne
      have hfne := own_row_ne (HO3.out.alloc (.cells #[.int .i64 (s : Nat)] 3)) (Row.alloc HF3.out _) (by decide)
      have hflt := Row.lt HF3.out
      have HF5 : Hid (Fd w5 f) := Row.grown (Row.alloc HF3.out _) hgrow (by simp; omega) hfne
      have hplt := HA3.out.lt
      have holt := HP3.out.lt
      have HP5 : Hid (NAt w5 (.slice (some ⟨g2, 0, none⟩) n2 n2) P2 g2) := HA3.out.mono fun _ h => Row.grown (h.alloc _) hgrow (by simp; omega) (Ne.symm HN2.out)
      have HQ5 : Hid (NAt w5 (.slice (some ⟨gp, 0, none⟩) P.length pcap) P gp) := HP3.out.mono fun _ h => Row.grown (h.alloc _) hgrow (by simp; omega) (Ne.symm hNP.out)
      have hB0 := HB3.out.size
      have hown0 := own_ge (HO3.out.alloc (.cells #[.int .i64 (s : Nat)] 3))
      have HB5 : Hid (Below base w w5) := HB2.out.grown hgrow (by simp; omega) (fun k hk => by have := hown0 k hk; omega)
      have hgp : gt ≠ g2 := by
        rcases hat with h | h
        · intro e; exact HN2.out (by rw [h, e])
        · omega
      have hgo : gt ≠ gp := by
        rcases hat with h | h
        · intro e; exact hNP.out (by rw [h, e])
        · omega
      have hgq : gt ≠ q := by
        rcases hat with h | h
        · intro e; exact hqne (by rw [h, e])
        · omega
      have hgf : gt ≠ f := by
        rcases hat with h | h
        · intro e; exact hfne (by rw [h, e])
        · omega
      have HO5 : Hid (w5.ownsRow base 3 1 (.slice (some ⟨gt, 0, none⟩) (N + 1) tcap) (N + 1) (vs (T ++ [s]))) := by
        unfold Hid; rw [vs_snoc]; exact hown
      have HGB : Hid (base ≤ gt) := own_ge hown gt rfl
      have HGT := Lib.hid hlt
      clear c0 c1 c2 c3 c4 c5
      clear hown hgrow hat hlt hown0 hqlt hflt hplt holt hB0 HB2 HO3 HA3 HP3 HF3 HR3 HB3 hqne hfne
      obtain ⟨c0, c1, c2, c3, c4, c5⟩ := fin_cells HR5.out
      have f1 := HR5.out.free 1
      go_wp2_with fail
      clear c0 c1 c2 c3 c4 c5 f1
      have hqb := HQB.out
      have HR6 : Hid (Row (w5.setCell ⟨q, 1, none⟩ (.slice (some ⟨gt, 0, none⟩) (N + 1) tcap)) q 93 (fin6 f (.slice (some ⟨gt, 0, none⟩) (N + 1) tcap) (.slice (some ⟨g2, 0, none⟩) n2 n2) L2 (.slice (some ⟨gp, 0, none⟩) P.length pcap) d)) := HR5.out.set 1 _
      have HF6 : Hid (Fd (w5.setCell ⟨q, 1, none⟩ (.slice (some ⟨gt, 0, none⟩) (N + 1) tcap)) f) := Row.far HF5.out (p := ⟨q, 1, none⟩) (row_ne HF5.out HR5.out (by decide)) _
      have HP6 : Hid (NAt (w5.setCell ⟨q, 1, none⟩ (.slice (some ⟨gt, 0, none⟩) (N + 1) tcap)) (.slice (some ⟨g2, 0, none⟩) n2 n2) P2 g2) := HP5.out.mono fun _ h => Row.far h (p := ⟨q, 1, none⟩) (row_ne h HR5.out (by decide)) _
      have HQ6 : Hid (NAt (w5.setCell ⟨q, 1, none⟩ (.slice (some ⟨gt, 0, none⟩) (N + 1) tcap)) (.slice (some ⟨gp, 0, none⟩) P.length pcap) P gp) := HQ5.out.mono fun _ h => Row.far h (p := ⟨q, 1, none⟩) (row_ne h HR5.out (by decide)) _
      have HB6 : Hid (Below base w (w5.setCell ⟨q, 1, none⟩ (.slice (some ⟨gt, 0, none⟩) (N + 1) tcap))) := HB5.out.setCell (p := ⟨q, 1, none⟩) hqb _
      have HO6 : Hid ((w5.setCell ⟨q, 1, none⟩ (.slice (some ⟨gt, 0, none⟩) (N + 1) tcap)).ownsRow base 3 1 (.slice (some ⟨gt, 0, none⟩) (N + 1) tcap) (N + 1) (vs (T ++ [s]))) := own_far HO5.out _ _ (by simp [Value.ownBlock]; exact Ne.symm hgq)
      have hgt6 : gt < (w5.setCell ⟨q, 1, none⟩ (.slice (some ⟨gt, 0, none⟩) (N + 1) tcap)).heap.size := by have := HGT.out; simp [World.setCell]; omega
      generalize w5.setCell ⟨q, 1, none⟩ (.slice (some ⟨gt, 0, none⟩) (N + 1) tcap) = w6 at *
      clear HR5 HF5 HP5 HQ5 HB5 HO5 HGT
      refine (clone_any (.slice (some ⟨gp, 0, none⟩) P.length pcap) P gp _ HQ6.out (by have := HD.out.lp; have := HN.out; omega)).mono ?_
      rintro e w7 ⟨vc, rfl, hown7, hb7⟩
      have HO7 := Lib.hid hown7
      have HB7 := Lib.hid hb7
      clear hown7 hb7
      go_wp2_with fail
      have hs7 := HB7.out.size
      have HB8 := Lib.hid (HB7.out.alloc hs7 (.cells #[.int .i64 0] 3))
      refine (ins0_any vc P w6.heap.size w7.heap.size _ (HO7.out.alloc _) (row_new w7 _ rfl _ _) ?n1 (by have := HD.out.lp; omega) (by have := HD.out.lp; have := HN.out; omega) (by simp; omega)).mono ?_
      case n1 =>
        intro e
        have hx := (HO7.out.lt _ e.symm).2
        omega
      rintro e w9 ⟨vi, gi, rfl, hni, hgi, hgr⟩
      have hown9 := own_ge (HO7.out.alloc (.cells #[.int .i64 0] 3))
      have HB9 : Hid (Below w6.heap.size w6 w9) := HB8.out.grown hgr (by simp; omega) (fun k hk => by have := hown9 k hk; omega)
      obtain ⟨icap, hvi⟩ := hni.form
      subst hvi
      have HNI := Lib.hid hni
      have HGI := Lib.hid hgi
      clear hni hgi hgr hown9 HB8 HO7 HB7 hs7
      have HR9 : Hid (Row w9 q 93 (fin6 f (.slice (some ⟨gt, 0, none⟩) (N + 1) tcap) (.slice (some ⟨g2, 0, none⟩) n2 n2) L2 (.slice (some ⟨gp, 0, none⟩) P.length pcap) d)) := HR6.out.box HB9.out
      obtain ⟨c0, c1, c2, c3, c4, c5⟩ := fin_cells HR9.out
      have f4 := HR9.out.free 4
      go_wp2
      clear c0 c1 c2 c3 c4 c5 f4
      have HF9 : Hid (Fd w9 f) := Row.box HF6.out HB9.out
      have HP9 := Lib.hid (HP6.out.box HB9.out)
      have hw6 := HB6.out.size
      have HO9 : Hid (w9.ownsRow base 3 1 (.slice (some ⟨gt, 0, none⟩) (N + 1) tcap) (N + 1) (vs (T ++ [s]))) := own_below HO6.out HB9.out
      have HBF : Hid (Below base w w9) := HB6.out.trans (HB9.out.mono (Nat.le_trans hbw hw6))
      have HL1 : Hid ((T ++ [s]).length = N + 1) := by
        unfold Hid; rw [List.length_append, HN.out]; rfl
      go_end0
      refine ⟨rfl, ⟨.slice (some ⟨gt, 0, none⟩) (N + 1) tcap, (.slice (some ⟨g2, 0, none⟩) n2 n2), .slice (some ⟨gi, 0, none⟩) (P.length + 1) icap, L2, d, g2, gi, 1, P2, 0 :: P, upd C B (mul d (inv b)) m, C, ?_⟩, HBF.out.setCell (p := ⟨q, 4, none⟩) HQB.out _⟩
      have hgi2 := HGI.out
      exact { row := HR9.out.set 4 _, fd := Row.far HF9.out (p := ⟨q, 4, none⟩) (row_ne HF9.out HR9.out (by decide)) _, hq := HQB.out,
              own := by rw [HL1.out]; exact own_far HO9.out _ _ (by simp [Value.ownBlock]; exact Ne.symm hgq),
              neP := by simp [Value.ownBlock]; exact hgp, neO := by simp [Value.ownBlock]; omega,
              poly := HP9.out.mono fun _ h => Row.far h (p := ⟨q, 4, none⟩) (row_ne h HR9.out (by decide)) _,
              old := HNI.out.mono fun _ h => Row.far h (p := ⟨q, 4, none⟩) (row_ne h HR9.out (by decide)) _,
              elT := els_snoc T s HD.out.elT hsl, elP := HPE.out, elO := els_cons0 P HD.out.elP, lp := by have h2 := HPL.out; rw [HL1.out]; omega, lo := by have h1 := HD.out.lp; have h2 := HN.out; rw [HL1.out, List.length_cons]; omega,
              seq := fun i hi => snoc_seq T S s HD.out.seq HSN.out i hi, cP := HPU.out, cO := fun i => cons_new P C HD.out.cP i,
              bm := by rw [HL1.out, ← HN.out]; exact (by have := bm_long HSL.out HD.out.bm (by rw [HDE.out]; exact h0) (by have := HN.out; omega); rw [HDE.out] at this; rwa [show T.length + 1 - L = L2 by have := HN.out; omega] at this), bl := hdl }
end Go.Proofs.YtmfnjjkbfabonaaDoor

/- The contract of layer 6's places. Conditions: the finder lies in a block of its own, as its fields do. -/
namespace Go.Proofs.YtmfnjjkbfabonaaDoor
open Go.RowKit
open M

/-- The places, among the first j, at whose powers' inverses a polynomial is 0. -/
def plN (P : List Nat) : Nat → List Nat
  | 0 => []
  | j + 1 => if ev (E ((127 - j) % 127)) P = 0 then plN P j ++ [j] else plN P j
theorem plN_few (P : List Nat) (j : Nat) : (plN P j).length ≤ j := by
  induction j with
  | zero => exact Nat.le_refl _
  | succ j ih =>
    unfold plN
    split
    · rw [List.length_append, List.length_singleton]; omega
    · omega
theorem re_neg (i : Nat) (hi : i < 127) : re (-(i : Int)) = (127 - i) % 127 := by
  unfold re; omega

set_option maxRecDepth 100000 in
set_option maxHeartbeats 1000000 in
theorem places_any (P : List Nat) (q f gp L b : Nat) (vt vp vo : Value) (w : World) (hP : Els P) (hp2 : P.length ≤ 1000)
    (hq : Row w q 93 (fin6 f vt vp L vo b)) (hpn : NAt w vp P gp) (hf : Fd w f) :
    Calls Tryd.prog 58 #[.pointer (some ⟨q, 0, none⟩)] w fun e w' => ∃ v, e = .returned v ∧ w'.ownsRow w.heap.size 3 1 v (plN P 127).length (vs (plN P 127)) ∧ Below w.heap.size w w' := by
  obtain ⟨i0, hi0, hz0, hz1, hz2⟩ := info_parts int_info
  have HT := Lib.hid (And.intro hi0 (And.intro hz0 (And.intro hz1 hz2)))
  clear hi0 hz0 hz1 hz2
  have HP := Lib.hid hP
  have HQ := Lib.hid hq
  have HF := Lib.hid hf
  have HPN := Lib.hid hpn
  have HP2 := Lib.hid hp2
  obtain ⟨pcap, hpe⟩ := hpn.form
  subst hpe
  clear hP hq hf hpn hp2
  go_enter Tryd.func58, Tryd.ntmps58
  go_wp2
  go_loopw [3, 5] (fun v i wr => ∃ (k : Nat) (r : Value), k ≤ 127 ∧ i = .int .i64 (k : Nat) ∧ r = v ∧ wr.ownsRow w.heap.size 3 1 r (plN P k).length (vs (plN P k)) ∧ Below w.heap.size w wr) (fun _ i _ => 127 - (intOf i).toNat)
  case atStart => exact ⟨0, _, by omega, rfl, rfl, World.ownsRow_nil _ _ _ _, Below.refl _ _⟩
  case round =>
    obtain ⟨k, r, hk, rfl, rfl, hown, hb⟩ := hrel
    have HO := Lib.hid hown
    have HB := Lib.hid hb
    clear hown hb
    by_cases hlt : k < 127
    · have HQ1 : Hid (Row wr q 93 (fin6 f vt (.slice (some ⟨gp, 0, none⟩) P.length pcap) L vo b)) := HQ.out.box HB.out
      have HF1 : Hid (Fd wr f) := Row.box HF.out HB.out
      have HP1 := Lib.hid (HPN.out.box HB.out)
      have HS : Hid (plN P (k + 1) = if ev (E ((127 - k) % 127)) P = 0 then plN P k ++ [k] else plN P k) := rfl
      have HFEW := Lib.hid (plN_few P k)
      obtain ⟨l, hl⟩ : ∃ l, plN P k = l := ⟨_, rfl⟩
      rw [hl] at HS HO HFEW
      have hE := E_bd ((127 - k) % 127) (Nat.mod_lt _ (by omega))
      obtain ⟨x, hx⟩ : ∃ x, E ((127 - k) % 127) = x := ⟨_, rfl⟩
      rw [hx] at hE HS
      have hEx : ∀ W, Fd W f → Calls Tryd.prog 53 #[.pointer (some ⟨f, 0, none⟩), .int .i64 (-(k : Int))] W fun e w' => e = .returned (.int .i64 (x : Nat)) ∧ Qt W w' := by
        intro W hW
        have := exp_any (-(k : Int)) f W ⟨by omega, by omega⟩ hW
        rwa [re_neg k hlt, hx] at this
      obtain ⟨y, hy⟩ : ∃ y, ev x P = y := ⟨_, rfl⟩
      rw [hy] at HS
      have hEv : ∀ W, Fd W f → NAt W (.slice (some ⟨gp, 0, none⟩) P.length pcap) P gp → Calls Tryd.prog 52 #[.pointer (some ⟨f, 0, none⟩), .slice (some ⟨gp, 0, none⟩) P.length pcap, .int .i64 (x : Nat)] W fun e w' => e = .returned (.int .i64 (y : Nat)) ∧ Qt W w' := by
        intro W hW hN
        have := eval_any (castL P) _ (x : Int) f W ⟨by omega, by omega⟩ (by rw [castL_length]; exact HP2.out) (castL_in _ HP.out) hN.ints hW
        rwa [cast_el _ HP.out, el_nat x hE.2, hy] at this
      have HEX := Lib.hid hEx
      have HEV := Lib.hid hEv
      obtain ⟨c0, c1, c2, c3, c4, c5⟩ := fin_cells HQ1.out
      clear hEx hEv hx hy hl hE
      go_wp2
      go_quiet (first | (go_at_call 53; exact Calls.quiet_of (HEX.out _ (HF1.out.drewN _))) | (go_at_call 52; exact Calls.quiet_of (HEV.out _ (HF1.out.drewN _) (HP1.out.mono fun _ h => h.drewN _))))
      clear c0 c1 c2 c3 c4 c5
      have HO1 : Hid ((wr.drewN nq).ownsRow w.heap.size 3 1 r l.length (vs l)) := HO.out
      have HB1 : Hid (Below w.heap.size w (wr.drewN nq)) := Below.drewN HB.out nq
      clear HO HB HQ1 HF1 HP1
      generalize wr.drewN nq = w1 at *
      by_cases h0 : y = 0
      · subst h0
        have HSZ := Lib.hid HB1.out.size
        go_wp2_with (at_builtin; refine wpList_append_own _ rfl _ _ 57 rfl w.heap.size 3 i0 (.int .i64 0) 1 8 Tryd.underlying57 HT.out.1 HT.out.2.1 HT.out.2.2.1 HT.out.2.2.2 rfl (by decide) _ _ _ rfl (HO1.out.alloc _) ⟨w1.heap.size, 0, none⟩ 1 1 [.int .i64 (k : Nat)] rfl rfl (one_new _ _ rfl _ _) one_cell ?c3 ?c4 ?c5 ?_)
        case c3 => have := HFEW.out; unfold maxLen; omega
        case c4 => have := HFEW.out; omega
        case c5 => have := HSZ.out; simp; omega
        intro v' w5 hown' hgrow _
        have hown4 := own_ge (HO1.out)
        have HB5 : Hid (Below w.heap.size w w5) := (HB1.out.alloc HSZ.out _).grown hgrow (by have := HSZ.out; simp; omega) (fun k hk => by have := hown4 k hk; omega)
        have HO5 : Hid (w5.ownsRow w.heap.size 3 1 v' (l ++ [k]).length (vs (l ++ [k]))) := by
          unfold Hid; rw [vs_snoc, List.length_append]; exact hown'
        clear hown' hgrow hown4
        go_wp2
        go_roundw
        case rel => exact ⟨k + 1, _, by omega, by go_num, rfl, by rw [HS.out, if_pos trivial]; exact HO5.out, HB5.out⟩
        case measure => simp [intOf] <;> omega
      · have e0 : (((y : Nat) : Int) == 0) = false := by rw [beq_eq_false_iff_ne]; omega
        have e0' : (y == 0) = false := by rw [beq_eq_false_iff_ne]; omega
        have H0 := Lib.hid h0
        clear h0
        go_wp2
        go_roundw
        case rel => exact ⟨k + 1, _, by omega, by go_num, rfl, by rw [HS.out, if_neg H0.out]; exact HO1.out, HB1.out⟩
        case measure => simp [intOf] <;> omega
    · obtain rfl : k = 127 := by omega
      go_wp2
      go_ret
      exact ⟨_, rfl, HO.out, HB.out⟩
end Go.Proofs.YtmfnjjkbfabonaaDoor

/- Plain facts for layer 6: a word's places; what is found of the syndromes of no word, or of a word. No program is named here. No conditions. -/
namespace Go.Proofs.YtmfnjjkbfabonaaDoor
open Go.RowKit
open M

/-- A word's places, among the first j, rising. -/
def pos (v : List Bool) : Nat → List Nat
  | 0 => []
  | j + 1 => if v.getD j false = true then pos v j ++ [j] else pos v j
theorem pos_lt (v : List Bool) (j : Nat) : ∀ i ∈ pos v j, i < j := by
  induction j with
  | zero => intro i hi; cases hi
  | succ j ih =>
    intro i hi
    unfold pos at hi
    split at hi
    · rcases List.mem_append.1 hi with h | h
      · have := ih i h; omega
      · simp at h; omega
    · have := ih i hi; omega
theorem pos_few (v : List Bool) (j : Nat) : (pos v j).length ≤ j := by
  induction j with
  | zero => exact Nat.le_refl _
  | succ j ih =>
    unfold pos
    split
    · rw [List.length_append, List.length_singleton]; omega
    · omega
theorem pos_length (v : List Bool) (j : Nat) (hj : j ≤ v.length) : (pos v j).length = (v.take j).count true := by
  induction j with
  | zero => simp [pos]
  | succ j ih =>
    have ih := ih (by omega)
    have e : (v.take (j + 1)).count true = (v.take j).count true + if v.getD j false = true then 1 else 0 := by
      rw [List.take_succ_eq_append_getElem (by omega), List.count_append, List.getD_eq_getElem?_getD, List.getElem?_eq_getElem (by omega)]
      cases v[j] <;> rfl
    rw [e]
    unfold pos
    split
    · rw [List.length_append, List.length_singleton, ih]
    · rw [ih]; rfl
theorem pos_bit (v : List Bool) (j : Nat) : ∀ i ∈ pos v j, v.getD i false = true := by
  induction j with
  | zero => intro i hi; cases hi
  | succ j ih =>
    intro i hi
    unfold pos at hi
    split at hi
    · rename_i hb
      rcases List.mem_append.1 hi with h | h
      · exact ih i h
      · simp at h; rw [h]; exact hb
    · exact ih i hi
theorem snoc_getD (l : List Nat) (x k : Nat) : (l ++ [x]).getD k 0 = if k < l.length then l.getD k 0 else if k = l.length then x else 0 := by
  rw [List.getD_eq_getElem?_getD, List.getD_eq_getElem?_getD, List.getElem?_append]
  by_cases h : k < l.length
  · rw [if_pos h, if_pos h]
  · rw [if_neg h, if_neg h]
    by_cases e : k = l.length
    · rw [if_pos e, e, Nat.sub_self]; rfl
    · rw [if_neg e, List.getElem?_eq_none (by simp; omega)]; rfl
theorem getD_mem (l : List Nat) (k : Nat) (h : k < l.length) : l.getD k 0 ∈ l := by
  rw [List.getD_eq_getElem?_getD, List.getElem?_eq_getElem h]
  exact List.getElem_mem h
theorem pos_rise (v : List Bool) (j : Nat) : ∀ k, k + 1 < (pos v j).length → (pos v j).getD k 0 < (pos v j).getD (k + 1) 0 := by
  induction j with
  | zero => intro k hk; simp [pos] at hk
  | succ j ih =>
    intro k hk
    unfold pos at hk ⊢
    split
    · rename_i hb
      rw [if_pos hb, List.length_append, List.length_singleton] at hk
      rw [snoc_getD, snoc_getD, if_pos (by omega)]
      by_cases h : k + 1 < (pos v j).length
      · rw [if_pos h]; exact ih k h
      · rw [if_neg h, if_pos (by omega)]
        exact pos_lt v j _ (getD_mem _ _ (by omega))
    · rename_i hb
      rw [if_neg hb] at hk
      exact ih k hk
/-- The word with bits at these places. -/
theorem flips_pos (v : List Bool) (j : Nat) (hj : j ≤ 127) : flips w0 (pos v j) = (List.range 127).map fun i => if i < j then v.getD i false else false := by
  induction j with
  | zero =>
    show w0 = _
    rw [tab_congr 127 _ (fun _ => false) (fun i _ => if_neg (by omega)), List.map_const', List.length_range]
    rfl
  | succ j ih =>
    have ih := ih (by omega)
    unfold pos
    by_cases hb : v.getD j false = true
    · rw [if_pos hb, flips_snoc, ih]
      unfold M.flip
      rw [tab_getD _ _ _ _ (by omega), if_neg (by omega)]
      apply tab_set
      · rw [if_pos (by omega), hb]; rfl
      · intro i e
        rcases Nat.lt_or_ge i j with h1 | h1
        · rw [if_pos h1, if_pos (by omega)]
        · rw [if_neg (by omega), if_neg (by omega)]
    · rw [if_neg hb, ih]
      apply tab_congr
      intro i _
      by_cases e : i = j
      · subst e
        rw [if_neg (by omega), if_pos (by omega)]
        cases h : v.getD i false
        · rfl
        · exact absurd h hb
      · rcases Nat.lt_or_ge i j with h1 | h1
        · rw [if_pos h1, if_pos (by omega)]
        · rw [if_neg (by omega), if_neg (by omega)]
theorem flips_all (v : List Bool) (h : v.length = 127) : flips w0 (pos v 127) = v := by
  rw [flips_pos v 127 (by omega), tab_congr 127 _ (fun i => v.getD i false) (fun i hi => if_pos hi), tab_of _ false 127 h]
/-- The word of a polynomial's places. -/
def zw (P : List Nat) : List Bool := (List.range 127).map fun i => decide (ev (E ((127 - i) % 127)) P = 0)
theorem zw_length (P : List Nat) : (zw P).length = 127 := by simp [zw]
theorem zw_getD (P : List Nat) (i : Nat) (hi : i < 127) : (zw P).getD i false = decide (ev (E ((127 - i) % 127)) P = 0) := by
  unfold zw; rw [tab_getD _ _ _ _ hi]
theorem plN_pos (P : List Nat) (j : Nat) (hj : j ≤ 127) : plN P j = pos (zw P) j := by
  induction j with
  | zero => rfl
  | succ j ih =>
    have ih := ih (by omega)
    unfold plN pos
    rw [zw_getD P j (by omega), ih]
    by_cases h : ev (E ((127 - j) % 127)) P = 0
    · rw [if_pos h, if_pos (by rw [decide_eq_true_iff]; exact h)]
    · rw [if_neg h, if_neg (by rw [decide_eq_true_iff]; exact h)]
/-- A polynomial of a recurrence is 0 where that, turned round, is. -/
theorem zw_rev (S : Nat → Nat) (C : Nat → Nat) (L N : Nat) (P : List Nat) (g : Gen C L S N) (hP : ∀ i, P.getD i 0 = C i) (hels : Els P) (i : Nat) (hi : i < 127) : (zw P).getD i false = true ↔ ev (E i) (rev C L) = 0 := by
  rw [zw_getD P i hi, decide_eq_true_iff, rev_zero C g.lt L i hi]
  have hx := (E_bd ((127 - i) % 127) (Nat.mod_lt _ (by omega))).2
  generalize E ((127 - i) % 127) = x at *
  have e1 : ev x P = sg (L + 1 + P.length) fun j => mul (C j) (pw x j) := by
    rw [ev_sg x hx P hels (L + 1 + P.length) (by omega)]
    exact sg_congr _ _ _ fun j _ => by rw [hP]
  have e2 : (sg (L + 1 + P.length) fun j => mul (C j) (pw x j)) = sg (L + 1) fun j => mul (C j) (pw x j) :=
    sg_more _ _ _ fun j hj => by rw [g.deg j (by omega), mul_zl _ (pw_lt x j hx)]
  rw [e1, e2]
theorem rev_nz (S : Nat → Nat) (C : Nat → Nat) (L N : Nat) (g : Gen C L S N) : zs (rev C L) = false := by
  cases hz : zs (rev C L) with
  | false => rfl
  | true =>
    exfalso
    unfold zs at hz
    have := List.all_eq_true.1 hz (C 0) (by
      unfold rev
      rw [List.mem_map]
      exact ⟨L, List.mem_range.2 (by omega), by rw [Nat.sub_self]⟩)
    rw [g.one] at this
    simp at this
/-- It has no more places than it is long. -/
theorem zw_few (S : Nat → Nat) (C : Nat → Nat) (L N : Nat) (P : List Nat) (g : Gen C L S N) (hP : ∀ i, P.getD i 0 = C i) (hels : Els P) : (zw P).count true ≤ L := by
  have hfew := roots_few (L + 1) (rev C L) (rev_length C L) (rev_els C L g.lt) (rev_nz S C L N g)
  have hmany := count_sub (fun x => ev x (rev C L) == 0) (els (zw P)) 128 (els_nodup _ (zw_length P)) (fun a ha => els_els _ a ha) fun a ha => by
    obtain ⟨j, _, h2, rfl⟩ := xw_mem (zw P) 0 a ha
    rw [Nat.zero_add, zw_length] at h2
    have h3 := (els_iff (zw P) (zw_length P) j h2).1 ha
    have h4 := (zw_rev S C L N P g hP hels j h2).1 h3
    rw [beq_iff_eq]
    exact h4
  have hcn : cn (rev C L) 128 = (List.range 128).countP fun x => ev x (rev C L) == 0 := rfl
  rw [hcn] at hfew
  rw [← els_length]
  omega
theorem dc_cong {C : Nat → Nat} {L : Nat} {S S' : Nat → Nat} {n : Nat} (h : ∀ i, i ≤ n → S i = S' i) : dc C L S n = dc C L S' n := by
  unfold dc
  exact sg_congr _ _ _ fun i _ => by rw [h (n - i) (by omega)]
theorem gen_cong {C : Nat → Nat} {L : Nat} {S S' : Nat → Nat} {N : Nat} (h : ∀ i, i < N → S i = S' i) (g : Gen C L S N) : Gen C L S' N :=
  ⟨g.one, g.lt, g.deg, fun n h1 h2 => by rw [← dc_cong fun i hi => h i (by omega)]; exact g.zero n h1 h2⟩
theorem bm_cong {S S' : Nat → Nat} {N : Nat} {C : Nat → Nat} {L : Nat} {B : Nat → Nat} {m b : Nat} (h : ∀ i, i < N → S i = S' i) (k : Bm S N C L B m b) : Bm S' N C L B m b := by
  refine ⟨gen_cong h k.gen, fun C' L' g => k.least C' L' (gen_cong (fun i hi => (h i hi).symm) g), ?_⟩
  rcases k.last with h1 | ⟨M, Lb, h1, h2, h3, h4, h5, h6⟩
  · exact Or.inl h1
  · exact Or.inr ⟨M, Lb, h1, h2, gen_cong (fun i hi => h i (by omega)) h3, h4, by rw [← dc_cong fun i hi => h i (by omega)]; exact h5, h6⟩
theorem syn_seq (l : List Nat) (e : List Bool) (h : syn e = l) (i : Nat) (hi : i < 20) : l.getD i 0 = sq e i := by
  rw [← h, syn_getD e i hi]; rfl
/-- What is found of the syndromes of a word with ten bits at most: that word. -/
theorem found (S C B : Nat → Nat) (L m b : Nat) (P : List Nat) (k : Bm S 20 C L B m b) (hP : ∀ i, P.getD i 0 = C i) (hels : Els P) (u : List Bool) (hu : u.length = 127) (hc : u.count true ≤ 10) (hs : ∀ i, i < 20 → S i = sq u i) : L ≤ 10 ∧ zw P = u := by
  have k' := bm_cong hs k
  obtain ⟨h1, h2⟩ := bm_end u hu hc k'
  refine ⟨by omega, ?_⟩
  apply bext _ _ (by rw [zw_length, hu])
  intro i hi
  rw [zw_length] at hi
  rw [Bool.eq_iff_iff, zw_rev _ C L 20 P k'.gen hP hels i hi, h2 (E i) (E_bd i hi).2, els_iff u hu i hi]
end Go.Proofs.YtmfnjjkbfabonaaDoor
