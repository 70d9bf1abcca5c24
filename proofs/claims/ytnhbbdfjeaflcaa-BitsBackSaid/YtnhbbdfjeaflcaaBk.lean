/-
  The walk of the law BitsBack. Conditions: the argument lies as it was opened.
-/
import Derived.Test.YtnhbbdfjeaflcaaBp
import Derived.Test.YtnhbbdfjeaflcaaFn
import Derived.StillTailTactics
namespace Go.Proofs.Ytnhbbdfjeaflcaa
open Go.RowKit
open M

/-- A number that fits its bits. -/
def fitsP (p : Int × Int) : Bool := decide (0 ≤ p.2 ∧ p.2 ≤ 56 ∧ 0 ≤ p.1 ∧ p.1 < 2 ^ p.2.toNat)
def bitsP (p : Int × Int) : List Bool := bitsOf p.1.toNat p.2.toNat
def bitsPs (l : List (Int × Int)) : List Bool := l.flatMap bitsP
theorem bitsPs_app (l : List (Int × Int)) (p : Int × Int) : bitsPs (l ++ [p]) = bitsPs l ++ bitsP p := by simp [bitsPs]
theorem filter_take (xs : List (Int × Int)) (j : Nat) (h : j < xs.length) : (xs.take (j + 1)).filter fitsP = (xs.take j).filter fitsP ++ (if fitsP (xs.getD j (0, 0)) then [xs.getD j (0, 0)] else []) := by
  rw [List.take_succ_eq_append_getElem h, List.filter_append]
  have e : xs.getD j (0, 0) = xs[j] := by rw [List.getD_eq_getElem?_getD, List.getElem?_eq_getElem h]; rfl
  rw [e]
  congr 1
  simp [List.filter_cons]
theorem bitsPs_le (l : List (Int × Int)) (h : ∀ p ∈ l, fitsP p = true) : (bitsPs l).length ≤ 56 * l.length := by
  induction l with
  | nil => exact Nat.le_refl _
  | cons p l ih =>
    have h1 := h p (by simp)
    have h2 := ih (fun q hq => h q (by simp [hq]))
    unfold fitsP at h1
    have h3 := of_decide_eq_true h1
    have e : bitsPs (p :: l) = bitsP p ++ bitsPs l := by simp [bitsPs]
    rw [e, List.length_append, List.length_cons]
    have : (bitsP p).length = p.2.toNat := bitsOf_length _ _
    omega

/-- What Put does, in one sentence. -/
theorem put_any (x n : Int) (bs : List Bool) (B g : Nat) (v : Value) (w : World) (hl : bs.length + 56 ≤ 1099511627776) (hB : B ≤ w.heap.size) (h : Wr w B g v bs) :
    Calls Try.prog 11 #[.pointer (some ⟨g, 0, none⟩), .int .i64 x, .int .i64 n] w fun e w' =>
      e = .returned (.int .i64 (if n < 0 ∨ 56 < n then 1 else if fitsP (x, n) then 0 else 7)) ∧ ∃ v', Wr w' B g v' (bs ++ if fitsP (x, n) then bitsP (x, n) else []) ∧ Moved w w' g v v' := by
  by_cases hn : n < 0 ∨ 56 < n
  · have hf : fitsP (x, n) = false := by unfold fitsP; rw [decide_eq_false_iff_not]; simp only; omega
    rw [if_pos hn, hf]
    refine (put_arg x n _ w hn).mono ?_
    rintro e w' ⟨rfl, rfl⟩
    exact ⟨rfl, v, by simpa using h, Moved.refl _ _ _⟩
  · obtain ⟨m, rfl⟩ : ∃ m : Nat, n = m := ⟨n.toNat, by omega⟩
    rw [if_neg hn]
    by_cases hx : 0 ≤ x ∧ x < 2 ^ m
    · obtain ⟨y, rfl⟩ : ∃ y : Nat, x = y := ⟨x.toNat, by omega⟩
      have hy : y < 2 ^ m := by have := hx.2; exact_mod_cast this
      have hf : fitsP ((y : Int), (m : Int)) = true := by
        unfold fitsP; rw [decide_eq_true_iff]
        exact ⟨by simp, by simp only; omega, by simp, by simpa using hx.2⟩
      rw [hf]
      refine (put_ok y m bs B g v w (by omega) hy hl hB h).mono ?_
      rintro e w' ⟨rfl, v', h1, h2⟩
      exact ⟨rfl, v', h1, h2⟩
    · have hf : fitsP (x, (m : Int)) = false := by
        unfold fitsP; rw [decide_eq_false_iff_not]
        intro h; exact hx ⟨h.2.2.1, by simpa using h.2.2.2⟩
      rw [hf]
      refine (put_range x m _ w (by omega) (by
        by_cases h0 : x < 0
        · exact Or.inl h0
        · exact Or.inr (by
            by_cases h1 : x < 2 ^ m
            · exact absurd ⟨by omega, h1⟩ hx
            · exact Int.not_lt.1 h1))).mono ?_
      rintro e w' ⟨rfl, rfl⟩
      exact ⟨rfl, v, by simpa using h, Moved.refl _ _ _⟩
/-- Kept pairs beside a Writer. -/
def numCells (ks : List (Int × Int)) : List Value := ks.flatMap fun p => [.int .i64 p.1, .int .i64 p.2]
theorem numCells_app (ks : List (Int × Int)) (p : Int × Int) : numCells (ks ++ [p]) = numCells ks ++ [.int .i64 p.1, .int .i64 p.2] := by simp [numCells]
theorem numCells_get (ks : List (Int × Int)) : ∀ i, i < ks.length → (numCells ks)[i * 2]? = some (.int .i64 (ks.getD i (0, 0)).1) ∧ (numCells ks)[i * 2 + 1]? = some (.int .i64 (ks.getD i (0, 0)).2) := by
  induction ks with
  | nil => intro i h; simp at h
  | cons p ks ih =>
    intro i h
    have e : numCells (p :: ks) = .int .i64 p.1 :: .int .i64 p.2 :: numCells ks := by simp [numCells]
    rw [e]
    cases i with
    | zero => simp
    | succ i =>
      have := ih i (by simpa using h)
      rw [show (i + 1) * 2 = i * 2 + 1 + 1 by omega, List.getElem?_cons_succ, List.getElem?_cons_succ, List.getElem?_cons_succ, List.getElem?_cons_succ]
      simpa using this
theorem num_info : (Try.prog.info? 31).map (fun i => (i.zero, i.size, i.bytes)) = some (some (.agg #[.int .i64 0, .int .i64 0]), 2, 16) := by kernel_rfl
structure WK (W : World) (B g : Nat) (v : Value) (bs : List Bool) (k : Value) (ks : List (Int × Int)) : Prop where
  wr : Wr W B g v bs
  kp : W.ownsRow B 31 2 k ks.length (numCells ks)
  ap : ∀ b, k.ownBlock = some b → v.ownBlock ≠ some b
theorem WK.put {w w' : World} {B g : Nat} {v v' k : Value} {bs bs' : List Bool} {ks : List (Int × Int)} (h : WK w B g v bs k ks) (h1 : Wr w' B g v' bs') (m : Moved w w' g v v') : WK w' B g v' bs' k ks := by
  refine ⟨h1, own_at h.kp fun b hb => ?_, fun b hb => ?_⟩
  · have := own_lt h.kp b hb
    have := h1.lt
    exact m.block b (by omega) (by omega) (fun e => h.ap b hb e.symm)
  · have := own_lt h.kp b hb
    rcases m.own with e | ⟨j, e, hj⟩
    · rw [e]; exact h.ap b hb
    · rw [e]; intro e2; injection e2 with e2; omega
theorem WK.app {w w' : World} {B g g1 n cap : Nat} {v k : Value} {bs : List Bool} {ks ks' : List (Int × Int)} {o : Obj} (h : WK w B g v bs k ks)
    (hown : w'.ownsRow B 31 2 (.slice (some ⟨g1, 0, none⟩) n cap) n (numCells ks')) (hn : ks'.length = n) (hgrow : (w.alloc o).grownBy w' k.ownBlock) (hg1 : k.ownBlock = some g1 ∨ g1 = w.heap.size + 1) :
    WK w' B g v bs (.slice (some ⟨g1, 0, none⟩) n cap) ks' := by
  refine ⟨⟨?_, own_at h.wr.own fun b hb => ?_, h.wr.lt⟩, by rw [hn]; exact hown, fun b hb => ?_⟩
  · exact (h.wr.row.alloc o).grown hgrow (by have := h.wr.row.lt; simp; omega) (own_ne h.kp g h.wr.lt)
  · have := own_lt h.wr.own b hb
    exact (hgrow.block b (by simp; omega) (fun e => h.ap b e.symm hb)).trans (Below.heap_alloc w o b (by omega))
  · have hb' : g1 = b := by simpa [Value.ownBlock] using hb
    subst hb'
    rcases hg1 with e | e
    · exact h.ap _ e
    · intro e2; have := own_lt h.wr.own _ e2; omega
theorem WK.floor {w w' : World} {B F g : Nat} {v k : Value} {bs : List Bool} {ks : List (Int × Int)} {o : Obj} {w0 : World} (h : WK w B g v bs k ks) (hb : Below F w0 w) (hF : F ≤ B) (hw : F ≤ w.heap.size) (hgrow : (w.alloc o).grownBy w' k.ownBlock) : Below F w0 w' :=
  (hb.alloc hw o).grown hgrow (by simp; omega) (fun j hj => Nat.le_trans hF (own_ge h.kp j hj))
theorem WK.drew {w : World} {B g : Nat} {v k : Value} {bs : List Bool} {ks : List (Int × Int)} (h : WK w B g v bs k ks) : WK w.drew B g v bs k ks := ⟨h.wr.drew, h.kp, h.ap⟩
theorem two_cell {k : IntKind} {m n : Int} : ∀ u ∈ [Value.int k m, Value.int k n], u.oneCell' = true := by
  intro u hu; simp at hu; rcases hu with rfl | rfl <;> rfl
theorem own_cells2 {w : World} {base n : Nat} {e : TypeId} {v : Value} {xs : List Value} (h : w.ownsRow base e 2 v n xs) (hn : 0 < n) :
    ∃ g cap, v = .slice (some ⟨g, 0, none⟩) n cap ∧ base ≤ g ∧ g < w.heap.size ∧ ∀ i, i < n * 2 → w.cell? ⟨g, i, none⟩ = xs[i]? := by
  rcases h.2 with ⟨_, h0⟩ | ⟨g, cap, cur, hv, hb, hg, _, _, hsz, htk⟩
  · omega
  · refine ⟨g, cap, hv, hb, Row.lt hg, fun i hi => ?_⟩
    rw [cell_of_row _ _ _ _ _ _ hg, ← htk, List.getElem?_take, if_pos (by omega), Array.getElem?_toList]

theorem WK.below {w w' : World} {B g : Nat} {v k : Value} {bs : List Bool} {ks : List (Int × Int)} (h : WK w B g v bs k ks) (hb : Below w.heap.size w w') : WK w' B g v bs k ks :=
  ⟨⟨h.wr.row.box hb, own_at h.wr.own fun b e => hb.block b (own_lt h.wr.own b e).2, h.wr.lt⟩, own_at h.kp fun b e => hb.block b (own_lt h.kp b e).2, h.ap⟩
theorem bitsPs_take (ks : List (Int × Int)) (j : Nat) (h : j < ks.length) : bitsPs (ks.take (j + 1)) = bitsPs (ks.take j) ++ bitsP (ks.getD j (0, 0)) := by
  have e : ks.getD j (0, 0) = ks[j] := by rw [List.getD_eq_getElem?_getD, List.getElem?_eq_getElem h]; rfl
  rw [List.take_succ_eq_append_getElem h, bitsPs_app, e]
theorem bitsPs_split (ks : List (Int × Int)) (j : Nat) (h : j < ks.length) : bitsPs ks = bitsPs (ks.take j) ++ bitsP (ks.getD j (0, 0)) ++ bitsPs (ks.drop (j + 1)) := by
  rw [← bitsPs_take ks j h]
  unfold bitsPs
  rw [← List.flatMap_append, List.take_append_drop]
theorem back_read (ks : List (Int × Int)) (j : Nat) (h : j < ks.length) (x n : Nat) (hp : ks.getD j (0, 0) = ((x : Int), (n : Int))) (hx : x < 2 ^ n) :
    numOf (readB (pack (bitsPs ks)) (bitsPs (ks.take j)).length n) = x := by
  rw [bitsPs_split ks j h, hp]
  have e : bitsP ((x : Int), (n : Int)) = bitsOf x n := rfl
  rw [e]
  have := readB_pack (bitsPs (ks.take j)) (bitsOf x n) (bitsPs (ks.drop (j + 1))) _ rfl
  rw [bitsOf_length] at this
  rw [this, numOf_bitsOf n x hx]
theorem allz_pack (bs : List Bool) (n : Nat) : allz (readB (pack bs) bs.length n) = true := by
  unfold allz readB
  rw [List.all_eq_true]
  intro b hb
  obtain ⟨i, _, rfl⟩ := List.mem_map.1 hb
  rw [sb_pack, List.getD_eq_getElem?_getD, List.getElem?_eq_none (by omega)]
  rfl
theorem own_slice {w : World} {B n size : Nat} {e : TypeId} {v : Value} {xs : List Value} (h : w.ownsRow B e size v n xs) : ∃ a cap, v = .slice a n cap := by
  rcases h.2 with ⟨rfl, rfl⟩ | ⟨g, cap, cur, rfl, _⟩
  · exact ⟨none, 0, rfl⟩
  · exact ⟨_, cap, rfl⟩

set_option maxHeartbeats 1000000 in
theorem back_walk (xs : List (Int × Int)) (l : Value) (w : World) (hl : xs.length ≤ 60) (hx : ∀ p ∈ xs, i64ok p.1 ∧ i64ok p.2) (h : NumsAt w l xs) :
    Calls Try.prog 3 #[l] w fun e w' => e = .returned (.bool true) ∧ Below w.heap.size w w' := by
  obtain ⟨i0, hi0, hz0, hz1, hz2⟩ := info_parts num_info
  have HI := Lib.hid (And.intro hi0 (And.intro hz0 (And.intro hz1 hz2)))
  clear hi0 hz0 hz1 hz2
  obtain ⟨a, lcap, rfl, hcells⟩ := h
  have HC := Lib.hid hcells
  have HX := Lib.hid hx
  clear hcells hx
  go_enter Try.func3, Try.ntmps3
  go_wp2_with fail
  refine (awake_any _).mono ?_
  rintro e w1 ⟨rfl, hb⟩
  have HB1 := Lib.hid hb
  have hw1 := hb.size
  clear hb
  go_wp2
  obtain ⟨g, hg⟩ : ∃ g, w1.heap.size = g := ⟨_, rfl⟩
  rw [hg]
  go_loopw [4, 5, 6] (fun k n i wr => ∃ j : Nat, j ≤ xs.length ∧ i = .int .i64 j ∧ n = .int .i64 ((bitsPs ((xs.take j).filter fitsP)).length : Nat) ∧ (∃ v, WK wr (g + 1) g v (bitsPs ((xs.take j).filter fitsP)) k ((xs.take j).filter fitsP)) ∧ Below w.heap.size w wr) (fun _ _ i _ => xs.length - (intOf i).toNat)
  case atStart =>
    refine ⟨0, Nat.zero_le _, rfl, rfl, ⟨.slice none 0 0, ⟨wr_new w1 _ _ hg (by omega), World.ownsRow_nil _ _ _ _, fun b hb => by simp [Value.ownBlock] at hb⟩⟩, HB1.out.alloc hw1 _⟩
  case round =>
    clear HB1
    obtain ⟨j, hj, rfl, rfl, ⟨v, hwk⟩, hb⟩ := hrel
    have HWK := Lib.hid hwk
    have HB := Lib.hid hb
    have hwr := hb.size
    have hgr := hwk.wr.row.lt
    clear hwk hb
    obtain ⟨ks, hks⟩ : ∃ ks, (xs.take j).filter fitsP = ks := ⟨_, rfl⟩
    have hkl : ks.length ≤ 60 := by rw [← hks]; exact Nat.le_trans (List.length_filter_le _ _) (by rw [List.length_take]; omega)
    have hkb : (bitsPs ks).length ≤ 3360 := Nat.le_trans (bitsPs_le ks (by rw [← hks]; intro p hp; exact (List.mem_filter.1 hp).2)) (by omega)
    rw [hks] at HWK ⊢
    by_cases hlt : j < xs.length
    · have HF := Lib.hid (filter_take xs j hlt)
      rw [hks] at HF
      clear hks
      obtain ⟨b, off, rfl, hbw, hcc⟩ := HC.out (by omega)
      have hcj := hcc j hlt
      obtain ⟨p, hp⟩ : ∃ p, xs.getD j (0, 0) = p := ⟨_, rfl⟩
      have hpok : i64ok p.1 ∧ i64ok p.2 := by
        have e : xs.getD j (0, 0) = xs[j] := by rw [List.getD_eq_getElem?_getD, List.getElem?_eq_getElem hlt]; rfl
        rw [← hp, e]; exact HX.out _ (List.getElem_mem hlt)
      rw [hp] at hcj HF
      have HCW := Lib.hid hcj
      have HPK := Lib.hid hpok
      have c0 : wr.cell? ⟨b, off + j * 2, none⟩ = some (.int .i64 p.1) := (HB.out.cell (p := ⟨b, off + j * 2, none⟩) hbw).trans hcj.1
      have c1 : wr.cell? ⟨b, off + j * 2 + 1, none⟩ = some (.int .i64 p.2) := (HB.out.cell (p := ⟨b, off + j * 2 + 1, none⟩) hbw).trans hcj.2
      have hji : (j : Int) < (xs.length : Int) := by omega
      clear hcc hcj hp hpok
      obtain ⟨px, pn⟩ := p
      dsimp only at c0 c1
      go_wp2_with fail
      go_still_tail 11, (by kernel_rfl)
      change wpList _ _ _ _ _ wr.drew
      go_wp2_with fail
      have HB2 := Lib.hid (below_drew1 HB.out)
      refine (put_any px pn (bitsPs ks) (g + 1) g v wr.drew (by omega) (by simp; omega) HWK.out.wr.drew).mono ?_
      rintro e w2 ⟨rfl, v2, h2, m2⟩
      have hbw2 := HB2.out.trans (HWK.out.wr.drew.floor (F := w.heap.size) m2 (by omega) HB2.out.size)
      have HB3 := Lib.hid hbw2
      have hwk2 := WK.put (WK.drew HWK.out) h2 m2
      have d0 : w2.cell? ⟨b, off + j * 2, none⟩ = some (.int .i64 px) := (hbw2.cell (p := ⟨b, off + j * 2, none⟩) hbw).trans HCW.out.1
      have d1 : w2.cell? ⟨b, off + j * 2 + 1, none⟩ = some (.int .i64 pn) := (hbw2.cell (p := ⟨b, off + j * 2 + 1, none⟩) hbw).trans HCW.out.2
      have hs2 := hbw2.size
      clear h2 m2 hbw2 HB2 HWK HCW c0 c1 HB
      rcases hf : fitsP (px, pn)
      · rw [hf, if_neg (by decide)] at hwk2
        rw [hf, if_neg (by decide), List.append_nil] at HF
        rw [List.append_nil] at hwk2
        have HWK2 := Lib.hid hwk2
        obtain ⟨c, hc, hc7⟩ : ∃ c : Int, (if pn < 0 ∨ 56 < pn then (1 : Int) else if fitsP (px, pn) = true then 0 else 7) = c ∧ (c == 0) = false := by
          by_cases h : pn < 0 ∨ 56 < pn
          · exact ⟨1, if_pos h, rfl⟩
          · exact ⟨7, by rw [if_neg h, hf]; rfl, rfl⟩
        rw [hf] at hc
        rw [hc]
        clear hwk2 hc
        go_wp2
        go_roundw
        case rel => exact ⟨j + 1, by omega, by go_num, by rw [HF.out], ⟨v2, by rw [HF.out]; exact HWK2.out⟩, HB3.out⟩
        case measure => simp [intOf]; omega
      · rw [hf, if_pos rfl] at hwk2
        rw [hf, if_pos rfl] at HF
        have HWK2 := Lib.hid hwk2
        have hff : 0 ≤ pn ∧ pn ≤ 56 ∧ 0 ≤ px ∧ px < 2 ^ pn.toNat := by unfold fitsP at hf; exact of_decide_eq_true hf
        have hpn0 := hff.1
        have hpn1 := hff.2.1
        have HL : Hid ((bitsPs (ks ++ [(px, pn)])).length = (bitsPs ks).length + pn.toNat) := by
          unfold Hid
          rw [bitsPs_app, List.length_append]
          show _ + (bitsOf px.toNat pn.toNat).length = _
          rw [bitsOf_length]
        rw [if_neg (show ¬ (pn < 0 ∨ 56 < pn) by omega), if_pos rfl]
        clear hwk2 hff
        go_wp2_with (at_builtin; refine wpList_append_lies _ rfl _ _ 22 rfl (g + 1) 31 i0 (.agg #[.int .i64 0, .int .i64 0]) 2 16 Try.underlying22 HI.out.1 HI.out.2.1 HI.out.2.2.1 HI.out.2.2.2 rfl (by decide) _ _ _ rfl (HWK2.out.kp.alloc _) ⟨w2.heap.size, 0, none⟩ 1 1 [.int .i64 px, .int .i64 pn] rfl rfl (World.news_of_block (heap_alloc_new _ _)) two_cell (by decide) ?c3 ?c4 ?c5 _ rfl ?_)
        case c3 => unfold maxLen; omega
        case c4 => omega
        case c5 => have := HWK2.out.wr.row.lt; simp; omega
        intro g1 cap w3 hown hgrow hg1 hlt1
        have hwk3 := WK.app (ks' := ks ++ [(px, pn)]) HWK2.out (by rw [numCells_app]; exact hown) (by simp) hgrow (by simpa using hg1)
        have HWK3 := Lib.hid hwk3
        have hb3 := WK.floor HWK2.out HB3.out (by omega) hs2 hgrow
        have HB4 := Lib.hid hb3
        have f1 : w3.cell? ⟨b, off + j * 2 + 1, none⟩ = some (.int .i64 pn) := (hb3.cell (p := ⟨b, off + j * 2 + 1, none⟩) hbw).trans ((HB3.out.cell (p := ⟨b, off + j * 2 + 1, none⟩) hbw).symm.trans d1)
        clear hwk3 hb3 hown hgrow hg1 HWK2 HB3
        go_wp2
        go_roundw
        case rel => exact ⟨j + 1, by omega, by go_num, by rw [HF.out, HL.out]; congr 1; omega, ⟨v2, by rw [HF.out, bitsPs_app]; exact HWK3.out⟩, HB4.out⟩
        case measure => simp [intOf]; omega
    · obtain rfl : j = xs.length := by omega
      rw [List.take_length] at hks
      have HKF : Hid (∀ p ∈ ks, fitsP p = true) := by unfold Hid; rw [← hks]; intro p hp; exact (List.mem_filter.1 hp).2
      clear hks HC
      go_wp2_with fail
      refine (bytes_wr _ _ _ _ _ HWK.out.wr).mono ?_
      rintro e w2 ⟨rfl, rfl⟩
      obtain ⟨ka, kcap, rfl⟩ := own_slice HWK.out.kp
      obtain ⟨s, hs⟩ : ∃ s, ofB (pack (bitsPs ks)) = s := ⟨_, rfl⟩
      have hsl : bl s = pack (bitsPs ks) := by rw [← hs]; rfl
      have hsz : s.size = ((bitsPs ks).length + 7) / 8 := by rw [← hs, ofB_size, pack_length]
      have HSL := Lib.hid hsl
      rw [hs]
      clear hs hsl
      go_wp2_with fail
      refine (new_any s _).mono ?_
      rintro e w3 ⟨rfl, hb3, hr3⟩
      have H3 := Lib.hid (And.intro hb3 hr3)
      clear hb3 hr3
      obtain ⟨gr, hgr2⟩ : ∃ gr, w2.heap.size = gr := ⟨_, rfl⟩
      rw [hgr2] at H3 ⊢
      go_wp2
      go_loopw [8] (fun i wr => ∃ j : Nat, j ≤ ks.length ∧ i = .int .i64 j ∧ Rd wr gr s (bitsPs (ks.take j)).length ∧ Below gr w2 wr) (fun i _ => ks.length - (intOf i).toNat)
      case atStart => exact ⟨0, Nat.zero_le _, rfl, H3.out.2, H3.out.1⟩
      case round =>
        clear H3
        obtain ⟨j, hj, rfl, hr, hb⟩ := hrel
        have HR := Lib.hid hr
        have HB2 := Lib.hid hb
        have HWK2 := Lib.hid (WK.below HWK.out (by rw [hgr2]; exact hb))
        have hsz2 := hb.size
        clear hr hb
        by_cases hlt2 : j < ks.length
        · obtain ⟨gk, kcap2, hv, hkb1, hkb2, hkc⟩ := own_cells2 HWK2.out.kp (by omega)
          simp only [Value.slice.injEq, true_and] at hv
          obtain ⟨rfl, rfl⟩ := hv
          obtain ⟨p, hp⟩ : ∃ p, ks.getD j (0, 0) = p := ⟨_, rfl⟩
          have hpf : fitsP p = true := by
            have e : ks.getD j (0, 0) = ks[j] := by rw [List.getD_eq_getElem?_getD, List.getElem?_eq_getElem hlt2]; rfl
            rw [← hp, e]; exact HKF.out _ (List.getElem_mem hlt2)
          unfold fitsP at hpf
          have hpd := of_decide_eq_true hpf
          obtain ⟨px, pn⟩ := p
          dsimp only at hpd
          obtain ⟨X, rfl⟩ : ∃ X : Nat, px = X := ⟨px.toNat, by omega⟩
          obtain ⟨N, rfl⟩ : ∃ N : Nat, pn = N := ⟨pn.toNat, by omega⟩
          have hX : X < 2 ^ N := by have := hpd.2.2.2; simp only [Int.toNat_natCast] at this; exact_mod_cast this
          have hN : N ≤ 56 := by omega
          have k0 := (hkc (j * 2) (by omega)).trans (numCells_get ks j hlt2).1
          have k1 := (hkc (j * 2 + 1) (by omega)).trans (numCells_get ks j hlt2).2
          rw [hp] at k0 k1
          dsimp only at k0 k1
          have HT : Hid (bitsPs (ks.take (j + 1)) = bitsPs (ks.take j) ++ bitsOf X N) := by unfold Hid; rw [bitsPs_take ks j hlt2, hp]; rfl
          have hle : (bitsPs (ks.take j)).length + N ≤ 8 * s.size := by
            have h1 := congrArg List.length (bitsPs_split ks j hlt2)
            rw [hp, List.length_append, List.length_append] at h1
            have h2 : (bitsP ((X : Int), (N : Int))).length = N := bitsOf_length _ _
            omega
          have HNUM := Lib.hid (back_read ks j hlt2 X N hp hX)
          clear hkc hp hpf hpd hX
          go_wp2_with fail
          refine (get_ok N s _ gr _ hN (by omega) hle HR.out).mono ?_
          rintro e w4 ⟨rfl, ho, hr⟩
          rw [HSL.out, HNUM.out]
          have k2 : w4.cell? ⟨gk, j * 2, none⟩ = some (.int .i64 (X : Int)) := (World.cell?_of_block (ho.block gk (by have := own_lt HWK.out.kp gk rfl; omega))).trans k0
          have HR4 := Lib.hid hr
          have HB4 := Lib.hid (HB2.out.trans (ho.below (Nat.le_refl _)))
          clear ho hr k0 k1
          go_wp2
          go_roundw
          case rel => exact ⟨j + 1, by omega, by go_num, by rw [HT.out, List.length_append, bitsOf_length]; exact HR4.out, HB4.out⟩
          case measure => simp [intOf]; omega
        · obtain rfl : j = ks.length := by omega
          rw [List.take_length] at HR
          have hall : allz (readB (bl s) (bitsPs ks).length (8 * s.size - (bitsPs ks).length)) = true := by rw [HSL.out]; exact allz_pack _ _
          have HAL := Lib.hid hall
          clear hall
          go_wp2_with fail
          refine (bits_wr _ _ _ _ _ HWK2.out.wr).mono ?_
          rintro e w5 ⟨rfl, rfl⟩
          go_wp2_with fail
          refine (left_rd s _ gr _ (by omega) (by omega) HR.out).mono ?_
          rintro e w6 ⟨rfl, m6, rfl⟩
          have h8 : ((8 * s.size - (bitsPs ks).length : Nat) : Int) < 8 := by omega
          go_wp2_with fail
          refine (zeros_rd s _ gr _ (by omega) (by omega) (HR.out.drewN m6)).mono ?_
          rintro e w7 ⟨rfl, hb7⟩
          rw [HAL.out]
          have HB7 := Lib.hid (HB.out.trans (((Below.drewN HB2.out m6).trans (hb7.mono (by simp; omega))).mono (by omega)))
          clear hb7
          go_wp2
          go_ret
          exact ⟨rfl, HB7.out⟩

set_option maxHeartbeats 1000000 in
theorem back_big (xs : List (Int × Int)) (l : Value) (w : World) (hl : 60 < xs.length) (hm : xs.length ≤ maxLen) (h : NumsAt w l xs) :
    Calls Try.prog 3 #[l] w fun e w' => e = .returned (.bool true) ∧ Below w.heap.size w w' := by
  unfold maxLen at hm
  obtain ⟨a, lcap, rfl, _⟩ := h
  have hl' : (60 : Int) < (xs.length : Int) := by omega
  go_enter Try.func3, Try.ntmps3
  go_wp2_with fail
  refine (awake_any _).mono ?_
  rintro e w1 ⟨rfl, hb⟩
  have HB := Lib.hid hb
  clear hb
  go_wp2_with fail
  refine (awake_any _).mono ?_
  rintro e w2 ⟨rfl, hb⟩
  have HB2 := Lib.hid (HB.out.trans (hb.mono HB.out.size))
  clear hb
  go_wp2
  go_ret
  exact ⟨rfl, HB2.out⟩
theorem back_law (xs : List (Int × Int)) (l : Value) (w : World) (hm : xs.length ≤ maxLen) (hx : ∀ p ∈ xs, i64ok p.1 ∧ i64ok p.2) (h : NumsAt w l xs) :
    Calls Try.prog 3 #[l] w fun e w' => e = .returned (.bool true) ∧ Below w.heap.size w w' := by
  by_cases hl : xs.length ≤ 60
  · exact back_walk xs l w hl hx h
  · exact back_big xs l w (by omega) hm h
end Go.Proofs.Ytnhbbdfjeaflcaa
