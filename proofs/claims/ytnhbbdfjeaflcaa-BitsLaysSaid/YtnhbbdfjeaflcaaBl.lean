/-
  The walk of the law BitsLays. Conditions: the argument lies as it was opened.
-/
import Derived.Test.YtnhbbdfjeaflcaaBa
import Derived.Test.YtnhbbdfjeaflcaaBf
import Derived.Deep.RegionHeld3
namespace Go.Proofs.Ytnhbbdfjeaflcaa
open Go.RowKit
open M

/-- A row of numbers beside a Writer. -/
structure WA (W : World) (B g : Nat) (v : Value) (bs : List Bool) (k : Value) (n : Nat) (cs : List Value) : Prop where
  wr : Wr W B g v bs
  kp : W.ownsRow B 3 1 k n cs
  ap : ∀ b, k.ownBlock = some b → v.ownBlock ≠ some b
theorem WA.put {w w' : World} {B g n : Nat} {v v' k : Value} {bs bs' : List Bool} {cs : List Value} (h : WA w B g v bs k n cs) (h1 : Wr w' B g v' bs') (m : Moved w w' g v v') : WA w' B g v' bs' k n cs := by
  refine ⟨h1, own_at h.kp fun b hb => ?_, fun b hb => ?_⟩
  · have := own_lt h.kp b hb
    have := h1.lt
    exact m.block b (by omega) (by omega) (fun e => h.ap b hb e.symm)
  · have := own_lt h.kp b hb
    rcases m.own with e | ⟨j, e, hj⟩
    · rw [e]; exact h.ap b hb
    · rw [e]; intro e2; injection e2 with e2; omega
theorem WA.below {w w' : World} {B g n : Nat} {v k : Value} {bs : List Bool} {cs : List Value} (h : WA w B g v bs k n cs) (hb : Below w.heap.size w w') : WA w' B g v bs k n cs :=
  ⟨⟨h.wr.row.box hb, own_at h.wr.own fun b e => hb.block b (own_lt h.wr.own b e).2, h.wr.lt⟩, own_at h.kp fun b e => hb.block b (own_lt h.kp b e).2, h.ap⟩
theorem WA.drew {w : World} {B g n : Nat} {v k : Value} {bs : List Bool} {cs : List Value} (h : WA w B g v bs k n cs) : WA w.drew B g v bs k n cs := ⟨h.wr.drew, h.kp, h.ap⟩
theorem WA.app2 {w w' : World} {B g n n' : Nat} {v k k' : Value} {bs : List Bool} {cs cs' : List Value} (h : WA w B g v bs k n cs)
    (hown : w'.ownsRow B 3 1 k' n' cs') (hgrow : w.grownBy w' k.ownBlock) (hg1 : k'.ownBlock = k.ownBlock ∨ k'.ownBlock = some w.heap.size) :
    WA w' B g v bs k' n' cs' := by
  refine ⟨⟨?_, own_at h.wr.own fun b hb => ?_, h.wr.lt⟩, hown, fun b hb => ?_⟩
  · exact h.wr.row.grown hgrow h.wr.row.lt (own_ne h.kp g h.wr.lt)
  · have := own_lt h.wr.own b hb
    exact hgrow.block b (by omega) (fun e => h.ap b e.symm hb)
  · rcases hg1 with e | e
    · exact h.ap _ (e ▸ hb)
    · intro e2
      have h1 := own_lt h.wr.own _ e2
      rw [hb] at e
      injection e with e
      omega
theorem step_append_at {P : Program} (w : World) {ops : Array Oper} {o : Oper} {a : Act} {K : Act → World → Prop} {Q : Exit → Act → World → Prop} {E : Prop} (hgd : o.guard = none) (s x : Operand) (t : TypeId)
    (ho : o.op = .call { callee := .builtin .append, args := #[s, x], argTypes := #[t, t] })
    (base : Nat) (e : TypeId) (i : TypeInfo) (z : Value) (size bytes : Nat) (ht : P.underlying t = some (.slice e)) (hi : P.info? e = some i) (hz : i.zero = some z)
    (hsize : i.size = size) (hby : i.bytes = bytes) (hzs : z.cells.size = size) (hsz : 0 < size)
    (v : Value) (n : Nat) (xs : List Value) (hs : a.eval s = v) (hown : w.ownsRow base e size v n xs)
    (ad : Addr) (m c : Nat) (news : List Value) (hx : a.eval x = .slice (some ad) m c) (hl : news.length = m * size) (hnews : ∀ j u, news[j]? = some u → w.cell? (ad.add j) = some u) (h1 : ∀ u ∈ news, u.oneCell' = true)
    (h63 : n + m ≤ maxLen) (hbytes : (n + m) * bytes ≤ 140737488355328) (hbase : base ≤ w.heap.size)
    (h : ∀ v' w', w'.ownsRow base e size v' (n + m) (xs ++ news) → w.grownBy w' v.ownBlock → (v'.ownBlock = v.ownBlock ∨ v'.ownBlock = some w.heap.size) → K (a.put o.dst v') w') :
    if Region.wanted o (yielded ops a.tmps) = true then Oper.wp P o a w K Q else E := by
  have hw : Region.wanted o (yielded ops a.tmps) = true := by simp [Region.wanted, hgd]
  rw [if_pos hw]
  obtain ⟨v', w', hr, h2, h3, _, h5⟩ := run_append_own_at (P := P) w base t o.type e i z size bytes ht hi hz hsize hby hzs hsz v n xs hown ad m c news hl hnews h1 h63 hbytes hbase
  unfold Oper.wp execOp
  simp only [ho, resolve, invoke, builtin, Sem.run_bind, Sem.run_pure, Result.andThen_ok, List.map_toArray, List.map_cons, List.map_nil, hs, hx, hr]
  exact h v' w' h2 h3 h5
theorem fits_eq (x n : Nat) (h : fitsP ((x : Int), (n : Int)) = true) : x < 2 ^ n := by
  unfold fitsP at h
  have h2 := (of_decide_eq_true h).2.2.2
  simp only [Int.toNat_natCast] at h2
  exact_mod_cast h2
theorem fits_dec (x : Int) (n : Nat) (hn : n ≤ 56) : (decide (0 ≤ x) && decide (x < 2 ^ n)) = fitsP (x, (n : Int)) := by
  unfold fitsP
  rw [Bool.eq_iff_iff]
  simp only [Bool.and_eq_true, decide_eq_true_iff, Int.toNat_natCast]
  constructor
  · intro h; exact ⟨by omega, by omega, h.1, h.2⟩
  · intro h; exact ⟨h.2.2.1, h.2.2.2⟩

set_option maxRecDepth 100000 in
set_option maxHeartbeats 2000000 in
theorem lays_walk (xs : List (Int × Int)) (l : Value) (w : World) (hl : xs.length ≤ 60) (h : NumsAt w l xs) :
    Calls Try.prog 5 #[l] w fun e w' => e = .returned (.bool true) ∧ Below w.heap.size w w' := by
  obtain ⟨i0, hi0, hz0, hz1, hz2⟩ := info_parts int_info
  have HI := Lib.hid (And.intro hi0 (And.intro hz0 (And.intro hz1 hz2)))
  clear hi0 hz0 hz1 hz2
  obtain ⟨a, lcap, rfl, hcells⟩ := h
  have HC := Lib.hid hcells
  clear hcells
  go_enter Try.func5, Try.ntmps5
  go_wp2_with fail
  refine (awake_any _).mono ?_
  rintro e w1 ⟨rfl, hb⟩
  have HB1 := Lib.hid hb
  have hw1 := hb.size
  clear hb
  go_wp2
  obtain ⟨g, hg⟩ : ∃ g, w1.heap.size = g := ⟨_, rfl⟩
  rw [hg]
  go_loopw [4, 5] (fun k i wr => ∃ j : Nat, j ≤ xs.length ∧ i = .int .i64 j ∧ (∃ v, WA wr (g + 1) g v (putP (xs.take j)) k (putP (xs.take j)).length (natCells (natB (putP (xs.take j)))).toList) ∧ Below w.heap.size w wr) (fun _ i _ => xs.length - (intOf i).toNat)
  case atStart =>
    refine ⟨0, Nat.zero_le _, rfl, ⟨.slice none 0 0, ⟨wr_new w1 _ _ hg (by omega), World.ownsRow_nil _ _ _ _, fun b hb => by simp [Value.ownBlock] at hb⟩⟩, HB1.out.alloc hw1 _⟩
  case round =>
    clear HB1
    obtain ⟨j, hj, rfl, ⟨v, hwk⟩, hb⟩ := hrel
    have HWK := Lib.hid hwk
    have HB := Lib.hid hb
    have hwr := hb.size
    have hgr := hwk.wr.row.lt
    clear hwk hb
    obtain ⟨ks, hks⟩ : ∃ ks, putP (xs.take j) = ks := ⟨_, rfl⟩
    have hkb : ks.length ≤ 3360 := by rw [← hks]; exact Nat.le_trans (putP_le _) (by rw [List.length_take]; omega)
    rw [hks] at HWK
    by_cases hlt : j < xs.length
    · have HF := Lib.hid (putP_take xs j hlt)
      rw [hks] at HF
      clear hks
      obtain ⟨b, off, rfl, hbw, hcc⟩ := HC.out (by omega)
      have hcj := hcc j hlt
      obtain ⟨p, hp⟩ : ∃ p, xs.getD j (0, 0) = p := ⟨_, rfl⟩
      rw [hp] at hcj HF
      have HCW := Lib.hid hcj
      have c0 : wr.cell? ⟨b, off + j * 2, none⟩ = some (.int .i64 p.1) := (HB.out.cell (p := ⟨b, off + j * 2, none⟩) hbw).trans hcj.1
      have c1 : wr.cell? ⟨b, off + j * 2 + 1, none⟩ = some (.int .i64 p.2) := (HB.out.cell (p := ⟨b, off + j * 2 + 1, none⟩) hbw).trans hcj.2
      have hji : (j : Int) < (xs.length : Int) := by omega
      clear hcc hcj hp HC
      obtain ⟨px, pn⟩ := p
      dsimp only at c0 c1
      go_wp2_with fail
      go_still_tail 11, (by kernel_rfl)
      change wpList _ _ _ _ _ wr.drew
      go_wp2_with fail
      have HB2 := Lib.hid (below_drew1 HB.out)
      refine (put_any px pn ks (g + 1) g v wr.drew (by omega) (by simp; omega) HWK.out.wr.drew).mono ?_
      rintro e w2 ⟨rfl, v2, h2, m2⟩
      have hbw2 := HB2.out.trans (HWK.out.wr.drew.floor (F := w.heap.size) m2 (by omega) HB2.out.size)
      have HB3 := Lib.hid hbw2
      have hwk2 := WA.put (WA.drew HWK.out) h2 m2
      have d0 : w2.cell? ⟨b, off + j * 2, none⟩ = some (.int .i64 px) := (hbw2.cell (p := ⟨b, off + j * 2, none⟩) hbw).trans HCW.out.1
      have d1 : w2.cell? ⟨b, off + j * 2 + 1, none⟩ = some (.int .i64 pn) := (hbw2.cell (p := ⟨b, off + j * 2 + 1, none⟩) hbw).trans HCW.out.2
      have hs2 := hbw2.size
      clear h2 m2 hbw2 HB2 HWK c0 c1 HB
      by_cases hout : pn < 0 ∨ 56 < pn
      · have hf : fitsP (px, pn) = false := by unfold fitsP; rw [decide_eq_false_iff_not]; simp only; omega
        rw [hf, if_neg (by decide), List.append_nil] at hwk2
        rw [hf, if_neg (by decide), List.append_nil] at HF
        have HWK2 := Lib.hid hwk2
        rw [if_pos hout]
        clear hwk2
        rcases hout with ho | ho
        · go_wp2
          go_roundw
          case rel => exact ⟨j + 1, by omega, by go_num, ⟨v2, by rw [HF.out]; exact HWK2.out⟩, HB3.out⟩
          case measure => simp [intOf]; omega
        · have ho2 : ¬ pn < 0 := by omega
          go_wp2
          go_roundw
          case rel => exact ⟨j + 1, by omega, by go_num, ⟨v2, by rw [HF.out]; exact HWK2.out⟩, HB3.out⟩
          case measure => simp [intOf]; omega
      · rw [if_neg hout]
        obtain ⟨N, rfl⟩ : ∃ N : Nat, pn = N := ⟨pn.toNat, by omega⟩
        have hN : N ≤ 56 := by omega
        have HFD := Lib.hid (fits_dec px N hN)
        clear hout
        rcases hf : fitsP (px, (N : Int))
        · rw [hf, if_neg (by decide), List.append_nil] at hwk2
          rw [hf, if_neg (by decide), List.append_nil] at HF
          rw [hf] at HFD
          have HWK2 := Lib.hid hwk2
          rw [if_neg (by decide)]
          clear hwk2
          go_wp2_with fail
          go_still_tail 10, (by kernel_rfl)
          change wpList _ _ _ _ _ w2.drew
          go_wp2_with fail
          refine (fits_any px N _ hN).mono ?_
          rintro e w3 ⟨rfl, rfl⟩
          rw [HFD.out]
          go_wp2
          go_roundw
          case rel => exact ⟨j + 1, by omega, by go_num, ⟨v2, by rw [HF.out]; exact HWK2.out.drew⟩, below_drew1 HB3.out⟩
          case measure => simp [intOf]; omega
        · rw [hf, if_pos rfl] at hwk2
          rw [hf, if_pos rfl] at HF
          rw [hf] at HFD
          obtain ⟨X, rfl⟩ : ∃ X : Nat, px = X := ⟨px.toNat, by unfold fitsP at hf; have := (of_decide_eq_true hf).2.2.1; simp only at this; omega⟩
          have hX := pow56 X N hN (fits_eq X N hf)
          have HWK2 : Hid (WA w2.drew (g + 1) g v2 (ks ++ bitsOf X N) _ ks.length (natCells (natB ks)).toList) := hwk2.drew
          have HFF : Hid (putP (xs.take (j + 1)) = ks ++ bitsOf X N) := HF.out
          rw [if_pos rfl]
          clear hwk2 hf HF
          go_wp2_with fail
          go_still_tail 10, (by kernel_rfl)
          change wpList _ _ _ _ _ w2.drew
          go_wp2_with fail
          refine (fits_any (X : Int) N _ hN).mono ?_
          rintro e w3 ⟨rfl, rfl⟩
          rw [HFD.out]
          have e0 : w2.drew.cell? ⟨b, off + j * 2, none⟩ = some (.int .i64 (X : Int)) := d0
          have e1 : w2.drew.cell? ⟨b, off + j * 2 + 1, none⟩ = some (.int .i64 (N : Int)) := d1
          have HB4 := Lib.hid (below_drew1 HB3.out)
          clear d0 d1 HB3 hs2
          generalize w2.drew = w4 at *
          have HWK5 := Lib.hid HWK2.out.drew
          have HB5 := Lib.hid (below_drew1 HB4.out)
          go_wp2_with fail
          refine wp_region_held_drew (S := fun W : World => W.cell? ⟨b, off + j * 2, none⟩ = some (.int .i64 (X : Int)) ∧ W.cell? ⟨b, off + j * 2 + 1, none⟩ = some (.int .i64 (N : Int))) (by kernel_rfl) ⟨e0, e1⟩ (fun hHeld => ?_)
          refine wpAnyH_take (i := 0) (oi := _) (v := ?_) rfl (by kernel_rfl) (by kernel_rfl) (by kernel_rfl) (fun _ _ _ h => h) (Or.inl ⟨by rfl, ?_⟩) hHeld ?_
          rotate_left
          · (intro w hSw; obtain ⟨s0, s1⟩ := hSw; first | (go_simp; done) | (go_simp; with_reducible rfl))
          (try simp only [List.getElem_toArray, List.getElem_cons_zero, Act.put, List.setIfInBounds_toArray, List.set_cons_zero, List.set_cons_succ])
          refine wpAnyH_take (i := 1) (oi := _) (v := ?_) rfl (by kernel_rfl) (by kernel_rfl) (by kernel_rfl) (fun _ _ _ h => h) (Or.inl ⟨by rfl, ?_⟩) hHeld ?_
          rotate_left
          · (intro w hSw; obtain ⟨s0, s1⟩ := hSw; first | (go_simp; done) | (go_simp; with_reducible rfl))
          (try simp only [List.getElem_toArray, List.getElem_cons_succ, List.getElem_cons_zero, Act.put, List.setIfInBounds_toArray, List.set_cons_zero, List.set_cons_succ])
          refine wpAnyH_take (i := 2) (oi := _) (v := ?_) rfl (by kernel_rfl) (by kernel_rfl) (by kernel_rfl) (fun _ _ _ h => h) (Or.inl ⟨by rfl, ?_⟩) hHeld ?_
          rotate_left
          · (intro w hSw; obtain ⟨s0, s1⟩ := hSw; first | (go_simp; done) | (go_simp; with_reducible rfl))
          (try simp only [List.getElem_toArray, List.getElem_cons_succ, List.getElem_cons_zero, Act.put, List.setIfInBounds_toArray, List.set_cons_zero, List.set_cons_succ])
          refine wpAnyH_take (i := 3) (oi := _) (v := ?_) rfl (by kernel_rfl) (by kernel_rfl) (by kernel_rfl) (fun _ _ _ h => h) (Or.inl ⟨by rfl, ?_⟩) hHeld ?_
          rotate_left
          · (intro w hSw; obtain ⟨s0, s1⟩ := hSw; first | (go_simp; done) | (go_simp; with_reducible rfl))
          (try simp only [List.getElem_toArray, List.getElem_cons_succ, List.getElem_cons_zero, Act.put, List.setIfInBounds_toArray, List.set_cons_zero, List.set_cons_succ])
          refine wpAnyH_take (i := 4) (oi := _) (v := ?_) rfl (by kernel_rfl) (by kernel_rfl) (by kernel_rfl) (fun _ _ _ h => h) (Or.inl ⟨by rfl, ?_⟩) hHeld ?_
          rotate_left
          · (intro w hSw; obtain ⟨s0, s1⟩ := hSw; first | (go_simp; done) | (go_simp; with_reducible rfl))
          (try simp only [List.getElem_toArray, List.getElem_cons_succ, List.getElem_cons_zero, Act.put, List.setIfInBounds_toArray, List.set_cons_zero, List.set_cons_succ])
          refine wpAnyH_take (i := 5) (oi := _) (v := ?_) rfl (by kernel_rfl) (by kernel_rfl) (by kernel_rfl) (fun _ _ _ h => h) (Or.inl ⟨by rfl, ?_⟩) hHeld ?_
          rotate_left
          · (intro w hSw; obtain ⟨s0, s1⟩ := hSw; first | (go_simp; done) | (go_simp; with_reducible rfl))
          (try simp only [List.getElem_toArray, List.getElem_cons_succ, List.getElem_cons_zero, Act.put, List.setIfInBounds_toArray, List.set_cons_zero, List.set_cons_succ])
          refine wpAnyH_take (i := 6) (oi := _) (v := ?_) rfl (by kernel_rfl) (by kernel_rfl) (by kernel_rfl) (fun _ _ _ h => h) (Or.inl ⟨by rfl, ?_⟩) hHeld ?_
          rotate_left
          · (intro w hSw; obtain ⟨s0, s1⟩ := hSw; first | (go_simp; done) | (go_simp; with_reducible rfl))
          (try simp only [List.getElem_toArray, List.getElem_cons_succ, List.getElem_cons_zero, Act.put, List.setIfInBounds_toArray, List.set_cons_zero, List.set_cons_succ])
          refine wpAnyH_take (i := 7) (oi := _) (v := ?_) rfl (by kernel_rfl) (by kernel_rfl) (by kernel_rfl) (fun _ _ _ h => h) (Or.inl ⟨by rfl, ?_⟩) hHeld ?_
          rotate_left
          · (intro w hSw; obtain ⟨s0, s1⟩ := hSw; first | (go_simp; done) | (go_simp; with_reducible rfl))
          (try simp only [List.getElem_toArray, List.getElem_cons_succ, List.getElem_cons_zero, Act.put, List.setIfInBounds_toArray, List.set_cons_zero, List.set_cons_succ])
          refine wpAnyH_take (i := 8) (oi := _) (v := ?_) rfl (by kernel_rfl) (by kernel_rfl) (by kernel_rfl) (fun _ _ _ h => h) (Or.inl ⟨by rfl, ?_⟩) hHeld ?_
          rotate_left
          · (intro w hSw; obtain ⟨s0, s1⟩ := hSw; first | (go_simp; done) | (go_simp; with_reducible rfl))
          (try simp only [List.getElem_toArray, List.getElem_cons_succ, List.getElem_cons_zero, Act.put, List.setIfInBounds_toArray, List.set_cons_zero, List.set_cons_succ])
          refine wpAnyH_take (i := 9) (oi := _) (v := ?_) rfl (by kernel_rfl) (by kernel_rfl) (by kernel_rfl) (fun _ _ _ h => h) (Or.inl ⟨by rfl, ?_⟩) hHeld ?_
          rotate_left
          · (intro w hSw; obtain ⟨s0, s1⟩ := hSw; first | (go_simp; done) | (go_simp; with_reducible rfl))
          (try simp only [List.getElem_toArray, List.getElem_cons_succ, List.getElem_cons_zero, Act.put, List.setIfInBounds_toArray, List.set_cons_zero, List.set_cons_succ])
          refine wpAnyH_take (i := 10) (oi := _) (v := ?_) rfl (by kernel_rfl) (by kernel_rfl) (by kernel_rfl) (fun _ _ _ h => h) (Or.inl ⟨by rfl, ?_⟩) hHeld ?_
          rotate_left
          · (intro w hSw; obtain ⟨s0, s1⟩ := hSw; first | (go_simp; done) | (go_simp; with_reducible rfl))
          (try simp only [List.getElem_toArray, List.getElem_cons_succ, List.getElem_cons_zero, Act.put, List.setIfInBounds_toArray, List.set_cons_zero, List.set_cons_succ])
          refine wpAnyH_ready (rs := [11]) (by kernel_rfl) (by simp) ?_
          refine AllReadyH.cons (o := _) rfl (fun K hK => ?_) AllReadyH.nil
          go_simp
          refine (refBits_any X N _ hN (by omega)).mono ?_
          rintro e w6 ⟨rfl, hr6, hb6⟩
          have HR6 := Lib.hid hr6
          have HWK6 := Lib.hid (WA.below HWK5.out hb6)
          have HB6 := Lib.hid (HB5.out.trans (hb6.mono HB5.out.size))
          have hs6 := HB6.out.size
          have hg6 := HWK6.out.wr.row.lt
          clear hr6 hb6 HWK2 HWK5 HB5
          go_wp2_with fail
          refine hK.out _ _ ⟨(HB6.out.cell (p := ⟨b, off + j * 2, none⟩) hbw).trans HCW.out.1, (HB6.out.cell (p := ⟨b, off + j * 2 + 1, none⟩) hbw).trans HCW.out.2⟩ (fun hHeld => ?_)
          clear hK K
          (try simp only [List.getElem_toArray, List.getElem_cons_succ, List.getElem_cons_zero, Act.put, List.setIfInBounds_toArray, List.set_cons_zero, List.set_cons_succ])
          refine wpAnyH_ready (rs := [12]) (by kernel_rfl) (by simp) ?_
          refine AllReadyH.cons (o := _) rfl (fun K hK => ?_) AllReadyH.nil
          refine step_append_at _ rfl _ _ 41 rfl (g + 1) 3 i0 (.int .i64 0) 1 8 Try.underlying41 HI.out.1 HI.out.2.1 HI.out.2.2.1 HI.out.2.2.2 rfl (by decide) _ _ _ rfl HWK6.out.kp ⟨w4.drew.heap.size, 0, none⟩ N N (natCells (natB (bitsOf X N))).toList rfl ?c1 (World.news_of_block HR6.out) (natCells_one _) ?c3 ?c4 ?c5 ?_
          case c1 => rw [Array.length_toList, natCells_size, natB_length, bitsOf_length, Nat.mul_one]
          case c3 => unfold maxLen; omega
          case c4 => omega
          case c5 => omega
          intro v' w7 hown' hgrow hv'
          have hwk7 : WA w7 (g + 1) g v2 (ks ++ bitsOf X N) v' (ks.length + N) (natCells (natB (ks ++ bitsOf X N))).toList := WA.app2 HWK6.out (by rw [natB_app, natCells_app]; exact hown') hgrow hv'
          have HWK7 := Lib.hid hwk7
          have HB7 := Lib.hid (HB6.out.grown hgrow (by omega) (fun k hk => by have := own_ge HWK6.out.kp k hk; omega))
          obtain ⟨va, vc, rfl⟩ := own_slice hwk7.kp
          clear hown' hgrow hv' hwk7 HWK6 HB6 HR6
          refine hK.out _ _ ⟨(HB7.out.cell (p := ⟨b, off + j * 2, none⟩) hbw).trans HCW.out.1, (HB7.out.cell (p := ⟨b, off + j * 2 + 1, none⟩) hbw).trans HCW.out.2⟩ (fun hHeld => ?_)
          clear hK K
          (try simp only [List.getElem_toArray, List.getElem_cons_succ, List.getElem_cons_zero, Act.put, List.setIfInBounds_toArray, List.set_cons_zero, List.set_cons_succ])
          refine wpAnyH_take (i := 13) (oi := _) (v := ?_) rfl (by kernel_rfl) (by kernel_rfl) (by kernel_rfl) (fun _ _ _ h => h) (Or.inl ⟨by rfl, ?_⟩) hHeld ?_
          rotate_left
          · (intro w hSw; obtain ⟨s0, s1⟩ := hSw; first | (go_simp; done) | (go_simp; with_reducible rfl))
          (try simp only [List.getElem_toArray, List.getElem_cons_succ, List.getElem_cons_zero, Act.put, List.setIfInBounds_toArray, List.set_cons_zero, List.set_cons_succ])
          refine wpAnyH_done (by kernel_rfl) ?_ _
          go_wp2_with fail
          refine (bits_wr _ _ _ _ _ HWK7.out.wr).mono ?_
          rintro e w8 ⟨rfl, rfl⟩
          rw [List.length_append, bitsOf_length]
          go_wp2
          go_roundw
          case rel => exact ⟨j + 1, by omega, by go_num, ⟨v2, by rw [HFF.out, List.length_append, bitsOf_length]; exact HWK7.out⟩, HB7.out⟩
          case measure => simp [intOf]; omega
    · obtain rfl : j = xs.length := by omega
      rw [List.take_length] at hks
      clear hks HC
      obtain ⟨ka, kcap, rfl⟩ := own_slice HWK.out.kp
      go_wp2_with fail
      refine (bytes_wr _ _ _ _ _ HWK.out.wr).mono ?_
      rintro e w2 ⟨rfl, rfl⟩
      go_wp2_with fail
      refine (bytes_any _ ks _ (by omega) (own_bitsAt rfl HWK.out.kp)).mono ?_
      rintro e w3 ⟨rfl, hb3⟩
      have HB3 := Lib.hid (HB.out.trans (hb3.mono HB.out.size))
      clear hb3
      go_wp2
      go_ret
      exact ⟨rfl, HB3.out⟩
end Go.Proofs.Ytnhbbdfjeaflcaa
