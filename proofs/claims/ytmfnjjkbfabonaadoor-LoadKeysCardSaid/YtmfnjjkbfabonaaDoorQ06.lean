/-
  Contracts and plain facts that the laws share, part 6; each piece is headed by what it holds and its conditions.
-/
import Derived.Test.YtmfnjjkbfabonaaDoorQ05
import Derived.Laws.CopyRow

/- The contracts of layer 5's roots and Generator. Condition: the Field lies in a block of its own. -/
namespace Go.Proofs.YtmfnjjkbfabonaaDoor
open Go.RowKit
open M

theorem own_below {w w' : World} {base n size : Nat} {e : TypeId} {v : Value} {xs : List Value} (h : w.ownsRow base e size v n xs) (hb : Below w.heap.size w w') : w'.ownsRow base e size v n xs := by
  refine ⟨h.1, ?_⟩
  rcases h.2 with h0 | ⟨g, cap, cur, h1, h2, h3, h4⟩
  · exact Or.inl h0
  · exact Or.inr ⟨g, cap, cur, h1, h2, (hb.block g (Row.lt h3)).trans h3, h4⟩
/-- A list of numbers, as it was appended. -/
def vs (l : List Nat) : List Value := l.map fun x : Nat => Value.int .i64 (x : Int)
theorem vs_snoc (l : List Nat) (x : Nat) : vs (l ++ [x]) = vs l ++ [.int .i64 (x : Nat)] := by simp [vs]
theorem vs_get (l : List Nat) (i : Nat) (h : i < l.length) : (vs l)[i]? = some (.int .i64 (l.getD i 0 : Nat)) := by
  simp [vs, h]

/-- The roots as they are gathered: an exponent's rounds. -/
def rin (met : List Bool) (l : List Nat) (a : Nat) : Nat → List Bool × List Nat × Nat
  | 0 => (met, l, a)
  | j + 1 =>
    let s := rin met l a j
    if s.1.getD s.2.2 false then (s.1, s.2.1, (2 * s.2.2) % 127) else (s.1.set s.2.2 true, s.2.1 ++ [E s.2.2], (2 * s.2.2) % 127)
/-- .. and all exponents' rounds. -/
def rout : Nat → List Bool × List Nat
  | 0 => (w0, [])
  | i + 1 =>
    let r := rin (rout i).1 (rout i).2 (i + 1) 7
    (r.1, r.2.1)
theorem rin_met (met : List Bool) (l : List Nat) (a j : Nat) (h : met.length = 127) : (rin met l a j).1.length = 127 := by
  induction j with
  | zero => exact h
  | succ j ih => simp only [rin]; split <;> simp [ih]
theorem rin_lt (met : List Bool) (l : List Nat) (a j : Nat) (h : a < 127) : (rin met l a j).2.2 < 127 := by
  induction j with
  | zero => exact h
  | succ j ih => simp only [rin]; split <;> exact Nat.mod_lt _ (by omega)
theorem rin_few (met : List Bool) (l : List Nat) (a j : Nat) : (rin met l a j).2.1.length ≤ l.length + j := by
  induction j with
  | zero => exact Nat.le_refl _
  | succ j ih => simp only [rin]; split <;> simp <;> omega
theorem rout_met (i : Nat) : (rout i).1.length = 127 := by
  induction i with
  | zero => exact w0_length
  | succ i ih => exact rin_met _ _ _ _ ih
theorem rout_few (i : Nat) : (rout i).2.length ≤ 7 * i := by
  induction i with
  | zero => exact Nat.le_refl _
  | succ i ih =>
    have : (rin (rout i).1 (rout i).2 (i + 1) 7).2.1.length ≤ _ := rin_few _ _ _ 7
    show (rin (rout i).1 (rout i).2 (i + 1) 7).2.1.length ≤ _
    omega
/-- The generator's roots, in the order of their gathering. -/
def rts : List Nat := (rout 20).2
theorem rts_gen : rts.foldl tm [1] = genT := by decide +kernel
theorem rts_length : rts.length = 63 := by decide +kernel
theorem rts_els : Els rts := by
  have h : rts.all (fun c => decide (c < 128)) = true := by decide +kernel
  intro c hc
  have := List.all_eq_true.1 h c hc
  simpa using this

set_option maxRecDepth 100000 in
set_option maxHeartbeats 1000000 in
theorem roots_any (f : Nat) (w : World) (hf : Fd w f) :
    Calls Tryd.prog 62 #[.pointer (some ⟨f, 0, none⟩)] w fun e w' => ∃ v, e = .returned v ∧ w'.ownsRow (w.heap.size + 1) 3 1 v 63 (vs rts) ∧ Below w.heap.size w w' := by
  obtain ⟨i0, hi0, hz0, hz1, hz2⟩ := info_parts int_info
  have HT := Lib.hid (And.intro hi0 (And.intro hz0 (And.intro hz1 hz2)))
  clear hi0 hz0 hz1 hz2
  have HF := Lib.hid hf
  clear hf
  have hz := arr_zero w
  go_enter Tryd.func62, Tryd.ntmps62
  go_wp2
  clear hz
  have HM0 : Hid (Row (w.alloc (.cells (boolCells w0) 26)) w.heap.size 26 (boolCells w0)) := heap_alloc_new _ _
  have HB0 : Hid (Below w.heap.size w (w.alloc (.cells (boolCells w0) 26))) := (Below.refl _ _).alloc (Nat.le_refl _) _
  have hs0 : (w.alloc (.cells (boolCells w0) 26)).heap.size = w.heap.size + 1 := by simp
  generalize w.alloc (.cells (boolCells w0) 26) = w1 at *
  go_loopw [4, 5] (fun v i wr => ∃ (k : Nat) (q : Value), k ≤ 20 ∧ i = .int .i64 ((k : Int) + 1) ∧ q = v ∧ wr.ownsRow (w.heap.size + 1) 3 1 q (rout k).2.length (vs (rout k).2) ∧ Row wr w.heap.size 26 (boolCells (rout k).1) ∧ Below w.heap.size w wr ∧ w.heap.size + 1 ≤ wr.heap.size) (fun _ i _ => 21 - (intOf i).toNat)
  case atStart => exact ⟨0, _, by omega, rfl, rfl, World.ownsRow_nil _ _ _ _, HM0.out, HB0.out, by omega⟩
  case round =>
    clear HM0 HB0 hs0
    obtain ⟨k, q, hk, rfl, rfl, hown, hm, hb, hs⟩ := hrel
    have HO := Lib.hid hown
    have HM := Lib.hid hm
    have HB := Lib.hid hb
    clear hown hm hb
    by_cases hlt : k < 20
    · go_wp2
      have hdec : decide ((k : Int) + 1 ≤ 20) = true := by rw [decide_eq_true_iff]; omega
      rw [hdec]
      clear hdec
      have HMK := Lib.hid (rout_met k)
      have HFK := Lib.hid (rout_few k)
      have HNX : Hid (rout (k + 1) = ((rin (rout k).1 (rout k).2 (k + 1) 7).1, (rin (rout k).1 (rout k).2 (k + 1) 7).2.1)) := rfl
      obtain ⟨M, hM⟩ : ∃ M, (rout k).1 = M := ⟨_, rfl⟩
      obtain ⟨L, hL⟩ : ∃ L, (rout k).2 = L := ⟨_, rfl⟩
      rw [hM] at HM HMK HNX
      rw [hL] at HO HFK HNX
      clear hM hL
      go_loopw [4, 6, 12] (fun v a i wr => ∃ (j : Nat) (r : Value), j ≤ 7 ∧ i = .int .i64 j ∧ a = .int .i64 ((rin M L (k + 1) j).2.2 : Nat) ∧ r = v ∧ wr.ownsRow (w.heap.size + 1) 3 1 r (rin M L (k + 1) j).2.1.length (vs (rin M L (k + 1) j).2.1) ∧ Row wr w.heap.size 26 (boolCells (rin M L (k + 1) j).1) ∧ Below w.heap.size w wr ∧ w.heap.size + 1 ≤ wr.heap.size) (fun _ _ i _ => 7 - (intOf i).toNat)
      case atStart => exact ⟨0, _, by omega, rfl, by congr 1, rfl, HO.out, HM.out, HB.out, hs⟩
      case round =>
        clear HO HM HB hs
        obtain ⟨j, r, hj, rfl, rfl, rfl, hown, hm, hb, hs⟩ := hrel
        have HO := Lib.hid hown
        have HM := Lib.hid hm
        have HB := Lib.hid hb
        clear hown hm hb
        have HML := Lib.hid (rin_met M L (k + 1) j HMK.out)
        have hlog := rin_lt M L (k + 1) j (by omega)
        have hfew := rin_few M L (k + 1) j
        have hLf := HFK.out
        have HS : Hid (rin M L (k + 1) (j + 1) = if (rin M L (k + 1) j).1.getD (rin M L (k + 1) j).2.2 false then ((rin M L (k + 1) j).1, (rin M L (k + 1) j).2.1, (2 * (rin M L (k + 1) j).2.2) % 127) else ((rin M L (k + 1) j).1.set (rin M L (k + 1) j).2.2 true, (rin M L (k + 1) j).2.1 ++ [E (rin M L (k + 1) j).2.2], (2 * (rin M L (k + 1) j).2.2) % 127)) := rfl
        by_cases hlt7 : j < 7
        · obtain ⟨met, hmet⟩ : ∃ x, (rin M L (k + 1) j).1 = x := ⟨_, rfl⟩
          obtain ⟨l, hl⟩ : ∃ x, (rin M L (k + 1) j).2.1 = x := ⟨_, rfl⟩
          obtain ⟨a, ha⟩ : ∃ x, (rin M L (k + 1) j).2.2 = x := ⟨_, rfl⟩
          rw [hmet] at HS HM HML
          rw [hl] at HS HO hfew
          rw [ha] at HS hlog ⊢
          clear hmet hl ha
          have c0 := word_at HM.out a (by rw [HML.out]; exact hlog)
          obtain ⟨b, hb⟩ : ∃ b, met.getD a false = b := ⟨_, rfl⟩
          rw [hb] at c0 HS
          have h127 : (a : Int) < 127 := by omega
          clear hb
          cases b
          · have f0 := HM.out.free a
            have HFD : Hid (Fd (wr.setCell ⟨w.heap.size, a, none⟩ (.bool true)) f) := Row.far (Row.below HF.out HB.out HF.out.lt) (p := ⟨w.heap.size, a, none⟩) (by have := HF.out.lt; show f ≠ w.heap.size; omega) _
            have HM2 : Hid (Row (wr.setCell ⟨w.heap.size, a, none⟩ (.bool true)) w.heap.size 26 (boolCells (met.set a true))) := by
              unfold Hid; rw [← boolCells_set]; exact HM.out.set a _
            have HB2 : Hid (Below w.heap.size w (wr.setCell ⟨w.heap.size, a, none⟩ (.bool true))) := HB.out.setCell (p := ⟨w.heap.size, a, none⟩) (Nat.le_refl _) _
            have HO2 : Hid ((wr.setCell ⟨w.heap.size, a, none⟩ (.bool true)).ownsRow (w.heap.size + 1) 3 1 r l.length (vs l)) := by
              refine ⟨HO.out.1, ?_⟩
              rcases HO.out.2 with h0 | ⟨g, cap, cur, h1, h2, h3, h4⟩
              · exact Or.inl h0
              · exact Or.inr ⟨g, cap, cur, h1, h2, Row.far h3 (p := ⟨w.heap.size, a, none⟩) (by show g ≠ w.heap.size; omega) _, h4⟩
            have hs2 : (wr.setCell ⟨w.heap.size, a, none⟩ (.bool true)).heap.size = wr.heap.size := by simp [World.setCell]
            clear HM HB HO
            go_wp2_with fail
            clear c0 f0
            generalize wr.setCell ⟨w.heap.size, a, none⟩ (.bool true) = w3 at *
            refine (exp_nat a f _ hlog HFD.out).mono ?_
            rintro e w4 ⟨rfl, n, rfl⟩
            have HM3 := Lib.hid (HM2.out.drewN n)
            have HB3 := Lib.hid (Below.drewN HB2.out n)
            have HO3 : Hid ((w3.drewN n).ownsRow (w.heap.size + 1) 3 1 r l.length (vs l)) := HO2.out
            have hs3 : w.heap.size + 1 ≤ (w3.drewN n).heap.size := by show _ ≤ w3.heap.size; omega
            clear HM2 HB2 HO2 HFD hs2 hs
            generalize w3.drewN n = w4 at *
            generalize E a = x at *
            go_wp2_with (at_builtin; refine wpList_append_own _ rfl _ _ 57 rfl (w.heap.size + 1) 3 i0 (.int .i64 0) 1 8 Tryd.underlying57 HT.out.1 HT.out.2.1 HT.out.2.2.1 HT.out.2.2.2 rfl (by decide) _ _ _ rfl (HO3.out.alloc _) ⟨w4.heap.size, 0, none⟩ 1 1 [.int .i64 (x : Nat)] rfl rfl (one_new _ _ rfl _ _) one_cell ?c3 ?c4 ?c5 ?_)
            case c3 => unfold maxLen; omega
            case c4 => omega
            case c5 => simp; omega
            intro v' w5 hown' hgrow _
            have hgs := hgrow.size
            have hown4 := own_ge (HO3.out)
            have hne : some w.heap.size ≠ r.ownBlock := own_ne HO3.out _ (by omega)
            have R : Hid (w5.ownsRow (w.heap.size + 1) 3 1 v' (l ++ [x]).length (vs (l ++ [x])) ∧ Row w5 w.heap.size 26 (boolCells (met.set a true)) ∧ Below w.heap.size w w5 ∧ w.heap.size + 1 ≤ w5.heap.size) := by
              refine ⟨?_, Row.grown (HM3.out.alloc _) hgrow (by simp; omega) hne, (HB3.out.alloc (by omega) _).grown hgrow (by simp; omega) (fun k hk => by have := hown4 k hk; omega), by simp at hgs; omega⟩
              rw [vs_snoc, List.length_append]; exact hown'
            clear hown' hgrow hgs hown4 hne HM3 HB3 HO3
            go_wp2
            go_roundw
            case rel =>
              refine ⟨j + 1, _, by omega, by go_num, ?_, rfl, ?_⟩
              · rw [HS.out]; go_num
              · rw [HS.out]; exact R.out
            case measure => simp [intOf] <;> omega
          · go_wp2
            go_roundw
            case rel =>
              refine ⟨j + 1, _, by omega, by go_num, ?_, rfl, ?_⟩
              · rw [HS.out]; go_num
              · rw [HS.out]; exact ⟨HO.out, HM.out, HB.out, hs⟩
            case measure => simp [intOf] <;> omega
        · obtain rfl : j = 7 := by omega
          go_wp2
          go_roundw
          case rel =>
            refine ⟨k + 1, _, by omega, by go_num, rfl, ?_⟩
            rw [HNX.out]
            exact ⟨HO.out, HM.out, HB.out, hs⟩
          case measure => simp [intOf] <;> omega
    · obtain rfl : k = 20 := by omega
      have hl := rts_length
      go_wp2
      go_ret
      exact ⟨_, rfl, by rw [← hl]; exact HO.out, HB.out⟩
end Go.Proofs.YtmfnjjkbfabonaaDoor

/- The contract of layer 5's Generator. No conditions. -/
namespace Go.Proofs.YtmfnjjkbfabonaaDoor
open Go.RowKit
open M

/-- The product, as far as the loop has come. -/
def pk (k : Nat) : List Nat := (rts.take k).foldl tm [1]
theorem pk_succ (k : Nat) (h : k < 63) : pk (k + 1) = tm (pk k) (rts.getD k 0) := by
  have h2 : k < rts.length := by rw [rts_length]; exact h
  unfold pk
  rw [List.take_succ_eq_append_getElem h2, List.foldl_append, List.getD_eq_getElem?_getD, List.getElem?_eq_getElem h2]
  rfl
theorem pk_length (k : Nat) (h : k ≤ 63) : (pk k).length = k + 1 := by
  induction k with
  | zero => rfl
  | succ k ih => rw [pk_succ k (by omega), tm_length, ih (by omega)]
theorem rts_lt (k : Nat) : rts.getD k 0 < 128 := rts_els.getD k
theorem pk_els (k : Nat) (h : k ≤ 63) : Els (pk k) := by
  induction k with
  | zero => exact fun c hc => by simp [pk] at hc; omega
  | succ k ih => rw [pk_succ k (by omega)]; exact tm_els _ _ (rts_lt k) (ih (by omega))
theorem pk_gen : pk 63 = genT := by
  have : rts.take 63 = rts := List.take_of_length_le (by rw [rts_length]; exact Nat.le_refl _)
  unfold pk; rw [this]; exact rts_gen

set_option maxRecDepth 100000 in
set_option maxHeartbeats 1000000 in
theorem gen_any (w : World) :
    Calls Tryd.prog 40 #[] w fun e w' => ∃ g, w.heap.size ≤ g ∧ e = .returned (.slice (some ⟨g, 0, none⟩) 64 64) ∧ Row w' g 3 (natCells genT) ∧ Below w.heap.size w w' := by
  go_enter Tryd.func40, Tryd.ntmps40
  go_wp2_with fail
  refine (new_any _).mono ?_
  rintro e w1 ⟨rfl, hb, hf⟩
  have HB1 := Lib.hid hb
  have HF1 := Lib.hid hf
  clear hb hf
  go_wp2_with fail
  have HB2 : Hid (Below w.heap.size w (w1.alloc (.cells #[.int .i64 1] 3))) := HB1.out.alloc HB1.out.size _
  have HF2 : Hid (Fd (w1.alloc (.cells #[.int .i64 1] 3)) w.heap.size) := Row.alloc HF1.out _
  have HP2 : Hid (Row (w1.alloc (.cells #[.int .i64 1] 3)) w1.heap.size 3 (natCells (pk 0))) := heap_alloc_new _ _
  have hp := HB1.out.size
  clear HB1 HF1
  generalize w1.heap.size = b at *
  generalize w1.alloc (.cells #[.int .i64 1] 3) = w2 at *
  refine (roots_any _ _ HF2.out).mono ?_
  rintro e w3 ⟨v, rfl, hown, hb⟩
  have HB3 := Lib.hid (HB2.out.trans (hb.mono HB2.out.size))
  have HF3 := Lib.hid (Row.box HF2.out hb)
  have HP3 := Lib.hid (Row.box HP2.out hb)
  clear hb HB2 HF2 HP2
  obtain ⟨rg, rcap, rfl, hrg, hrl, hrc⟩ := own_cells hown (by omega)
  have HRC : Hid (∀ i, i < 63 → w3.cell? ⟨rg, i, none⟩ = some (.int .i64 (rts.getD i 0 : Nat))) := fun i hi => (hrc i hi).trans (vs_get rts i (by rw [rts_length]; exact hi))
  clear hown hrc hrg
  go_wp2
  go_loopw [3, 13] (fun v i wr => ∃ (k b : Nat), k ≤ 63 ∧ i = .int .i64 k ∧ v = .slice (some ⟨b, 0, none⟩) (k + 1) (k + 1) ∧ w.heap.size ≤ b ∧ Row wr b 3 (natCells (pk k)) ∧ Below w3.heap.size w3 wr) (fun _ i _ => 63 - (intOf i).toNat)
  case atStart => exact ⟨0, b, by omega, rfl, rfl, hp, HP3.out, Below.refl _ _⟩
  case round =>
    clear HP3 hp
    obtain ⟨k, b, hk, rfl, rfl, hp, hr, hb⟩ := hrel
    have HR := Lib.hid hr
    have HB := Lib.hid hb
    clear hr hb
    by_cases hlt : k < 63
    · have c0 : wr.cell? ⟨rg, k, none⟩ = some (.int .i64 (rts.getD k 0 : Nat)) := (HB.out.cell (p := ⟨rg, k, none⟩) hrl).trans (HRC.out k hlt)
      have ha := rts_lt k
      have HS := Lib.hid (pk_succ k hlt)
      have hl := pk_length k hk
      generalize rts.getD k 0 = a at *
      have HFR := Lib.hid (Row.below HF3.out HB.out HF3.out.lt)
      have hbl := Row.lt HR.out
      have HL := Lib.hid hl
      clear hl
      go_wp2_with fail
      have hT := tr_any (pk k) a w.heap.size b (k + 1) wr (pk_els k hk) ha (by have := HL.out; omega) (fun i hi => nat_at HR.out i hi) hbl HFR.out
      rw [HL.out] at hT
      refine hT.mono ?_
      rintro e w4 ⟨rfl, hr, hb⟩
      have HR4 := Lib.hid hr
      have HB4 := Lib.hid (HB.out.trans (hb.mono HB.out.size))
      have hs := HB.out.size
      have hs3 := HB3.out.size
      clear hr hb hT c0
      go_wp2
      go_roundw
      case rel => exact ⟨k + 1, _, by omega, by go_num, rfl, by omega, by rw [HS.out]; exact HR4.out, HB4.out⟩
      case measure => simp [intOf] <;> omega
    · obtain rfl : k = 63 := by omega
      have HE := Lib.hid pk_gen
      go_wp2
      go_ret
      exact ⟨b, hp, rfl, by rw [← HE.out]; exact HR.out, HB3.out.trans (HB.out.mono HB3.out.size)⟩
end Go.Proofs.YtmfnjjkbfabonaaDoor

/- The contract of layer 5's add. Conditions: a word lies in a block of its own, the generator in another one. -/
namespace Go.Proofs.YtmfnjjkbfabonaaDoor
open Go.RowKit
open M

/-- A word to which the generator's first m bits are added from a place on. -/
def ab (B : List Bool) (j : Nat) : Nat → List Bool
  | 0 => B
  | m + 1 => if genT.getD m 0 = 1 then flip (ab B j m) (j + m) else ab B j m
theorem ab_length (B : List Bool) (j m : Nat) : (ab B j m).length = B.length := by
  induction m with
  | zero => rfl
  | succ m ih => simp only [ab]; split; rw [flip_length, ih]; exact ih

/-- Bits as numbers, told again. -/
def ob (r : List Nat) : List Bool := r.map fun c => c == 1
theorem ob_length (r : List Nat) : (ob r).length = r.length := by unfold ob; rw [List.length_map]
theorem ob_getD (r : List Nat) (i : Nat) : (ob r).getD i false = (r.getD i 0 == 1) := by
  unfold ob
  rw [List.getD_eq_getElem?_getD, List.getD_eq_getElem?_getD, List.getElem?_map]
  cases r[i]? <;> rfl
theorem ob_set (r : List Nat) (i v : Nat) : ob (r.set i v) = (ob r).set i (v == 1) := by unfold ob; rw [List.map_set]
theorem set_self (l : List Bool) (i : Nat) : l.set i (l.getD i false) = l := by
  apply bext _ _ (by rw [List.length_set])
  intro k hk
  rw [List.length_set] at hk
  rcases Nat.lt_or_ge i l.length with h | h
  · rw [bset _ _ _ _ h]
    by_cases e : i = k
    · subst e; rw [if_pos rfl]
    · rw [if_neg e]
  · rw [List.set_eq_of_length_le h]
theorem addk_bit (r : List Nat) (j m : Nat) (h : j + m ≤ r.length) (hr : ∀ k, r.getD k 0 ≤ 1) (k : Nat) : (addk r j genT m).getD k 0 ≤ 1 := by
  rw [addk_getD r j genT m h]
  split
  · have e1 := hr k
    have e2 := gen_bits (k - j)
    generalize r.getD k 0 = a at e1
    generalize genT.getD (k - j) 0 = b at e2
    rcases Nat.le_one_iff_eq_zero_or_eq_one.1 e1 with rfl | rfl <;> rcases Nat.le_one_iff_eq_zero_or_eq_one.1 e2 with rfl | rfl <;> decide
  · exact hr k
theorem addk_ab (r : List Nat) (j : Nat) (hr : ∀ k, r.getD k 0 ≤ 1) (m : Nat) (h : j + m ≤ r.length) : ob (addk r j genT m) = ab (ob r) j m := by
  induction m with
  | zero => rfl
  | succ m ih =>
    have ih := ih (by omega)
    have h1 := addk_bit r j m (by omega) hr (j + m)
    have h2 := gen_bits m
    show ob ((addk r j genT m).set (j + m) ((addk r j genT m).getD (j + m) 0 ^^^ genT.getD m 0)) = if genT.getD m 0 = 1 then flip (ab (ob r) j m) (j + m) else ab (ob r) j m
    rw [ob_set, ih]
    have h3 : (ab (ob r) j m).getD (j + m) false = ((addk r j genT m).getD (j + m) 0 == 1) := by rw [← ih, ob_getD]
    generalize (addk r j genT m).getD (j + m) 0 = a at *
    generalize genT.getD m 0 = b at *
    rcases Nat.le_one_iff_eq_zero_or_eq_one.1 h2 with rfl | rfl
    · rw [if_neg (by omega), Nat.xor_zero, ← h3, set_self]
    · rw [if_pos rfl]
      unfold M.flip
      rw [h3]
      rcases Nat.le_one_iff_eq_zero_or_eq_one.1 h1 with rfl | rfl <;> rfl
/-- What is left of a word that is divided, its d highest bits gone. -/
def rb (u : List Bool) (d : Nat) : List Bool := ob (rd (r0 u) d)
theorem rb_length (u : List Bool) (hu : u.length = 64) (d : Nat) (hd : d ≤ 64) : (rb u d).length = 127 := by
  unfold rb; rw [ob_length]; exact (rd_all (r0 u) (r0_length u hu) (r0_bits u) d hd).1
theorem rb_one (u : List Bool) (hu : u.length = 64) (d : Nat) (hd : d < 64) (h : (rb u d).getD (126 - d) false = true) : rb u (d + 1) = ab (rb u d) (63 - d) 64 := by
  obtain ⟨h1, h2, _, _⟩ := rd_all (r0 u) (r0_length u hu) (r0_bits u) d (by omega)
  unfold rb at h ⊢
  rw [ob_getD, beq_iff_eq] at h
  have e : rd (r0 u) (d + 1) = if (rd (r0 u) d).getD (126 - d) 0 = 1 then addk (rd (r0 u) d) (63 - d) genT 64 else rd (r0 u) d := rfl
  rw [e, if_pos h, addk_ab _ _ h2 64 (by omega)]
theorem rb_not (u : List Bool) (d : Nat) (h : (rb u d).getD (126 - d) false = false) : rb u (d + 1) = rb u d := by
  unfold rb at h ⊢
  rw [ob_getD] at h
  have e : rd (r0 u) (d + 1) = if (rd (r0 u) d).getD (126 - d) 0 = 1 then addk (rd (r0 u) d) (63 - d) genT 64 else rd (r0 u) d := rfl
  rw [e, if_neg (by intro h2; rw [h2] at h; simp at h)]
theorem rb_end (u : List Bool) (w : List Bool) (hw : w.drop 63 = u) : (rb u 64).take 63 ++ w.drop 63 = enc u := by
  unfold rb enc lowU ob
  rw [hw, List.map_take]

set_option maxRecDepth 100000 in
set_option maxHeartbeats 1000000 in
theorem add_any (B : List Bool) (c b j : Nat) (w : World) (hB : B.length = 127) (hj : j ≤ 63) (hw : Row w c 40 (boolCells B)) (hg : Row w b 3 (natCells genT)) (hne : b ≠ c) :
    Calls Tryd.prog 41 #[.pointer (some ⟨c, 0, none⟩), .slice (some ⟨b, 0, none⟩) 64 64, .int .i64 j] w fun e w' => e = .returned (.tuple #[]) ∧ Row w' c 40 (boolCells (ab B j 64)) ∧ Only c w w' := by
  have HW := Lib.hid hw
  have HG := Lib.hid hg
  have HBL := Lib.hid hB
  clear hw hg hB
  go_enter Tryd.func41, Tryd.ntmps41
  go_wp2
  go_loopw [10] (fun i wr => ∃ k : Nat, k ≤ 64 ∧ i = .int .i64 k ∧ Row wr c 40 (boolCells (ab B j k)) ∧ Only c w wr) (fun i _ => 64 - (intOf i).toNat)
  case atStart => exact ⟨0, by omega, rfl, HW.out, Only.refl _ _⟩
  case round =>
    obtain ⟨k, hk, rfl, hr, ho⟩ := hrel
    have HR := Lib.hid hr
    have HO := Lib.hid ho
    clear hr ho
    by_cases hlt : k < 64
    · have c0 : wr.cell? ⟨b, k, none⟩ = some (.int .i64 (genT.getD k 0 : Nat)) := by
        rw [World.cell?_of_block (HO.out.block b hne)]
        exact nat_at HG.out k (by rw [gen_length]; exact hlt)
      have hgb := gen_bits k
      have c1 := word_at HR.out (j + k) (by rw [ab_length, HBL.out]; omega)
      have f1 := HR.out.free (j + k)
      have HS : Hid (ab B j (k + 1) = if genT.getD k 0 = 1 then flip (ab B j k) (j + k) else ab B j k) := rfl
      generalize genT.getD k 0 = x at *
      obtain ⟨y, hy⟩ : ∃ y, (ab B j k).getD (j + k) false = y := ⟨_, rfl⟩
      rw [hy] at c1
      have HY := Lib.hid hy
      clear hy
      by_cases h1 : x = 1
      · subst h1
        go_wp2
        go_region
        go_wp2
        go_roundw
        case rel =>
          refine ⟨k + 1, by omega, by go_num, ?_, (HO.out.setCell (j + k) none _).drew⟩
          rw [HS.out, if_pos trivial]
          unfold M.flip
          rw [HY.out, ← boolCells_set]
          exact HR.out.set (j + k) _
        case measure => simp [intOf] <;> omega
      · have e0 : (((x : Nat) : Int) == 1) = false := by rw [beq_eq_false_iff_ne]; omega
        have e0' : (x == 1) = false := by rw [beq_eq_false_iff_ne]; omega
        have H1 := Lib.hid h1
        clear h1
        go_wp2
        go_roundw
        case rel => exact ⟨k + 1, by omega, by go_num, by rw [HS.out, if_neg H1.out]; exact HR.out, HO.out⟩
        case measure => simp [intOf] <;> omega
    · obtain rfl : k = 64 := by omega
      go_wp2
      go_end0
      exact ⟨rfl, HR.out, HO.out⟩
end Go.Proofs.YtmfnjjkbfabonaaDoor

/- The contract of layer 5's Encode. No conditions. -/
namespace Go.Proofs.YtmfnjjkbfabonaaDoor
open Go.RowKit
open M

/-- A wide number's bits from 63 on, as far as the loop has come. -/
def ej (x : BitVec 64) (j : Nat) : List Bool := (List.range 127).map fun i => if i < 63 + j then (if 63 ≤ i then x.getLsbD (i - 63) else false) else false
theorem ej_length (x : BitVec 64) (j : Nat) : (ej x j).length = 127 := by unfold ej; rw [List.length_map, List.length_range]
theorem ej_zero (x : BitVec 64) : ej x 0 = w0 := by
  unfold ej w0
  rw [tab_congr 127 _ (fun _ => false) ?_, List.map_const', List.length_range]
  intro i _
  split
  · rw [if_neg (by omega)]
  · rfl
theorem ej_set (x : BitVec 64) (j : Nat) : (ej x j).set (63 + j) (x.getLsbD j) = ej x (j + 1) := by
  unfold ej
  apply tab_set
  · rw [if_pos (by omega), if_pos (by omega), show 63 + j - 63 = j by omega]
  · intro i e
    rcases Nat.lt_or_ge i (63 + j) with h1 | h1
    · rw [if_pos (show i < 63 + (j + 1) by omega), if_pos h1]
    · rw [if_neg (show ¬ i < 63 + (j + 1) by omega), if_neg (show ¬ i < 63 + j by omega)]
theorem ej_drop (x : BitVec 64) : (ej x 64).drop 63 = xb x := by
  apply bext _ _ (by rw [List.length_drop, ej_length, xb_length])
  intro i hi
  rw [List.length_drop, ej_length] at hi
  rw [xb_getD _ _ (by omega), List.getD_eq_getElem?_getD, List.getElem?_drop, ← List.getD_eq_getElem?_getD]
  unfold ej
  rw [tab_getD _ _ _ _ (by omega), if_pos (by omega), if_pos (by omega), show 63 + i - 63 = i by omega]
theorem ej_rb (x : BitVec 64) : ej x 64 = rb (xb x) 0 := by
  have hx := xb_length x
  apply bext _ _ (by rw [ej_length, rb_length _ hx 0 (by omega)])
  intro i hi
  rw [ej_length] at hi
  unfold rb
  rw [ob_getD]
  show _ = ((r0 (xb x)).getD i 0 == 1)
  unfold ej
  rw [tab_getD _ _ _ _ hi, if_pos (by omega)]
  by_cases h : 63 ≤ i
  · rw [if_pos h]
    conv => rhs; rw [show i = 63 + (i - 63) by omega, r0_high, xb_getD _ _ (by omega)]
    cases x.getLsbD (i - 63) <;> rfl
  · rw [if_neg h, r0_low _ _ (by omega)]; rfl

set_option maxRecDepth 100000 in
/-- copy of a word's first 63 bits. -/
theorem copy_word (W : World) (g c : Nat) (a b : List Bool) (ha : a.length = 127) (hb : b.length = 127) (hg : Row W g 40 (boolCells a)) (hc : Row W c 40 (boolCells b)) :
    (Builtin.copy_ #[61, 61] 3 #[.slice (some ⟨g, 0, none⟩) 63 127, .slice (some ⟨c, 0, none⟩) 63 127]).run Tryd.prog W = .ok (goInt 63) (W.setRow g (boolCells (b.take 63 ++ a.drop 63))) := by
  have hn : ((b.take 63).map Value.bool).length = 63 := by rw [List.length_map, List.length_take, hb]; rfl
  have hs : (Tryd.prog.info? 4).map (·.size) = some 1 := by
    have := cells_bool
    unfold Program.cellsOf at this
    obtain ⟨i, hi⟩ := word_info?
    rw [hi] at this ⊢
    simpa using this
  have h := run_copy_row (P := Tryd.prog) W 61 61 3 4 g 0 63 127 ⟨c, 0, none⟩ 63 127 (boolCells a) 40 ((b.take 63).map Value.bool)
    Tryd.underlying61 hs hg (by rw [hn]; rfl) (fun j v hv => ?_) (by rw [hn, boolCells_size, ha]; omega) (fun v hv => ?_)
  · rw [hn] at h
    rw [h]
    congr 2
    unfold boolCells
    simp
  · have hj : j < 63 := by
      rcases Nat.lt_or_ge j 63 with h | h
      · exact h
      · rw [List.getElem?_eq_none (by rw [hn]; exact h)] at hv; cases hv
    have hadd : (⟨c, 0, none⟩ : Addr).add j = ⟨c, j, none⟩ := by unfold Addr.add; split <;> simp_all
    rw [hadd, word_at hc j (by omega), ← hv, List.getElem?_map, List.getElem?_take, if_pos hj, List.getElem?_eq_getElem (show j < b.length by omega), List.getD_eq_getElem?_getD, List.getElem?_eq_getElem (show j < b.length by omega)]
    rfl
  · obtain ⟨x, _, rfl⟩ := List.mem_map.1 hv
    rfl
theorem store_at (w : World) (g : Nat) (old l : List Bool) (ho : old.length = 127) (h : l.length = 127) (hg : Row w g 40 (boolCells old)) :
    (storeCells ⟨g, 0, none⟩ (boolCells l).toList 0).run Tryd.prog w = .ok () (w.setRow g (boolCells l)) := by
  have hi := word_size l h
  have := run_storeVar_row (P := Tryd.prog) w g 40 40 (boolCells old) (boolCells l) hg hi (by rw [boolCells_size, boolCells_size, ho, h]) (boolCells_one l)
  cases hq : Tryd.prog.info? 40 with
  | none => simp [hq] at hi
  | some i =>
    have hs : (boolCells l).size = i.size := by simp [hq] at hi; omega
    simpa [storeVar, sizeOf, typeInfo, hq, Value.cells, hs] using this
theorem bit_u64 (x : BitVec 64) (k : Nat) : (bits .and .u64 (un x / 2 ^ k) 1 == 1) = x.getLsbD k := by
  have hx := x.isLt
  have h2 : x.toNat / 2 ^ k ≤ x.toNat := Nat.div_le_self _ _
  have e : un x / 2 ^ k = ((x.toNat / 2 ^ k : Nat) : Int) := div_pow x.toNat k
  rw [e, show (1 : Int) = ((1 : Nat) : Int) from rfl, u64_and_nat _ _ (by omega) (by decide), Nat.and_one_is_mod]
  show _ = x.toNat.testBit k
  rw [Nat.testBit_eq_decide_div_mod_eq]
  rcases Nat.mod_two_eq_zero_or_one (x.toNat / 2 ^ k) with h | h <;> simp [h]
set_option maxRecDepth 100000 in
set_option maxHeartbeats 1000000 in
theorem encode_any (x : BitVec 64) (w : World) :
    Calls Tryd.prog 26 #[.int .u64 (un x)] w fun e w' => e = .returned (.agg (boolCells (cwd x))) ∧ Below w.heap.size w w' := by
  have hz := word_zero w
  have hz1 := fun o => word_zero (w.alloc o)
  have HEL := Lib.hid (ej_length x)
  have HRL := Lib.hid (rb_length (xb x) (xb_length x))
  go_enter Tryd.func26, Tryd.ntmps26
  go_wp2
  clear hz hz1
  have HR0 : Hid (Row ((w.alloc (.cells (boolCells w0) 40)).alloc (.cells (boolCells w0) 40)) w.heap.size 40 (boolCells w0)) := heap_alloc2_old _ _ _
  have HR1 : Hid (Row ((w.alloc (.cells (boolCells w0) 40)).alloc (.cells (boolCells w0) 40)) (w.heap.size + 1) 40 (boolCells (ej x 0))) := by
    unfold Hid; rw [ej_zero]; exact heap_alloc2_new _ _ _
  have HB0 : Hid (Below w.heap.size w ((w.alloc (.cells (boolCells w0) 40)).alloc (.cells (boolCells w0) 40))) := ((Below.refl _ _).alloc (Nat.le_refl _) _).alloc (by simp) _
  generalize (w.alloc (.cells (boolCells w0) 40)).alloc (.cells (boolCells w0) 40) = w1 at *
  go_loopw [8] (fun i wr => ∃ k : Nat, k ≤ 64 ∧ i = .int .i64 k ∧ Row wr w.heap.size 40 (boolCells w0) ∧ Row wr (w.heap.size + 1) 40 (boolCells (ej x k)) ∧ Below w.heap.size w wr) (fun i _ => 64 - (intOf i).toNat)
  case atStart => exact ⟨0, by omega, rfl, HR0.out, HR1.out, HB0.out⟩
  case round =>
    clear HR0 HR1 HB0
    obtain ⟨k, hk, rfl, hr0, hr, hb⟩ := hrel
    have HR0 := Lib.hid hr0
    have HR := Lib.hid hr
    have HB := Lib.hid hb
    clear hr0 hr hb
    by_cases hlt : k < 64
    · have hbit := bit_u64 x k
      have HS := Lib.hid (ej_set x k)
      have c0 := word_at HR.out (63 + k) (by rw [HEL.out]; omega)
      have f0 := HR.out.free (63 + k)
      generalize x.getLsbD k = b at *
      go_wp2
      go_roundw
      case rel =>
        refine ⟨k + 1, by omega, by go_num, HR0.out.far (p := ⟨w.heap.size + 1, 63 + k, none⟩) (by simp) _, ?_, HB.out.setCell (p := ⟨w.heap.size + 1, 63 + k, none⟩) (by simp) _⟩
        rw [← HS.out, ← boolCells_set]
        exact HR.out.set _ _
      case measure => simp [intOf] <;> omega
    · obtain rfl : k = 64 := by omega
      have HSZ := Lib.hid (word_size (ej x 64) (HEL.out 64))
      have hz := word_zero wr
      have hst := store_word wr (ej x 64) (HEL.out 64)
      have hsz : (boolCells (ej x 64)).size = 127 := by rw [boolCells_size, HEL.out]
      clear hlt hk
      go_wp2_with (refine wpList_load_row rfl 40 (.tmp 3) rfl (w.heap.size + 1) rfl 40 (boolCells (ej x 64)) (0, 0) _ HR.out Tryd.underlying40 rfl HSZ.out ?_)
      clear hz hst hsz HSZ
      have hs := HB.out.size
      have hs1 := Row.lt HR.out
      have HRA : Hid (Row (wr.alloc (.cells (boolCells (ej x 64)) 40)) (w.heap.size + 1) 40 (boolCells (ej x 64))) := Row.alloc HR.out _
      have HR0A : Hid (Row (wr.alloc (.cells (boolCells (ej x 64)) 40)) w.heap.size 40 (boolCells w0)) := Row.alloc HR0.out _
      have HCA : Hid (Row (wr.alloc (.cells (boolCells (ej x 64)) 40)) wr.heap.size 40 (boolCells (rb (xb x) 0))) := by
        unfold Hid; rw [ej_rb]; exact heap_alloc_new _ _
      have HBA : Hid (Below w.heap.size w (wr.alloc (.cells (boolCells (ej x 64)) 40))) := HB.out.alloc hs _
      clear HR0 HR HB
      have hc : wr.heap.size < (wr.alloc (.cells (boolCells (ej x 64)) 40)).heap.size := Row.lt HCA.out
      generalize wr.heap.size = c at *
      generalize wr.alloc (.cells (boolCells (ej x 64)) 40) = w2 at *
      refine (gen_any _).mono ?_
      rintro e w3 ⟨b, hbs, rfl, hg, hb⟩
      have HR := Lib.hid (Row.box HRA.out hb)
      have HR0 := Lib.hid (Row.box HR0A.out hb)
      have HC := Lib.hid (Row.box HCA.out hb)
      have HB := Lib.hid (HBA.out.trans (hb.mono HBA.out.size))
      have HG := Lib.hid hg
      clear HRA HR0A HCA HBA hb hg
      go_wp2
      go_loopw [7] (fun i wr => ∃ d : Nat, d ≤ 64 ∧ i = .int .i64 (126 - (d : Int)) ∧ Row wr c 40 (boolCells (rb (xb x) d)) ∧ Only c w3 wr) (fun i _ => (intOf i).toNat + 1 - 63)
      case atStart => exact ⟨0, by omega, rfl, HC.out, Only.refl _ _⟩
      case round =>
        clear HC
        obtain ⟨d, hd, rfl, hr, ho⟩ := hrel
        have HC := Lib.hid hr
        have HO := Lib.hid ho
        clear hr ho
        by_cases hlt : d < 64
        · have c0 := word_at HC.out (126 - d) (by rw [HRL.out d hd]; omega)
          have HN := Lib.hid (rb_not (xb x) d)
          have HS := Lib.hid (rb_one (xb x) (xb_length x) d hlt)
          have HGR : Hid (Row wr b 3 (natCells genT)) := (HO.out.block b (by omega)).trans HG.out
          generalize (rb (xb x) d).getD (126 - d) false = y at *
          rw [show (126 - (d : Int)) = ((126 - d : Nat) : Int) by omega]
          obtain ⟨i, hi⟩ : ∃ i, 126 - d = i := ⟨_, rfl⟩
          rw [hi] at c0 ⊢
          have hi1 : 63 ≤ i := by omega
          have hi2 : i ≤ 126 := by omega
          cases y
          · go_wp2
            go_roundw
            case rel => exact ⟨d + 1, by omega, by congr 1; omega, by rw [HN.out rfl]; exact HC.out, HO.out⟩
            case measure => simp [intOf] <;> omega
          · go_wp2_with fail
            have hA := add_any (rb (xb x) d) c b (63 - d) wr (HRL.out d hd) (by omega) HC.out HGR.out (by omega)
            rw [show ((63 - d : Nat) : Int) = (i : Int) - 63 by omega] at hA
            refine hA.mono ?_
            rintro e w4 ⟨rfl, hr, ho⟩
            have HC4 := Lib.hid hr
            have HO4 := Lib.hid (HO.out.trans ho)
            clear hr ho hA c0
            go_wp2
            go_roundw
            case rel => exact ⟨d + 1, by omega, by congr 1; omega, by rw [HS.out (by trivial)]; exact HC4.out, HO4.out⟩
            case measure => simp [intOf] <;> omega
        · obtain rfl : d = 64 := by omega
          clear hlt hd
          have HA : Hid (Row wr (w.heap.size + 1) 40 (boolCells (ej x 64))) := (HO.out.block (w.heap.size + 1) (by omega)).trans HR.out
          have HZ : Hid (Row wr w.heap.size 40 (boolCells w0)) := (HO.out.block w.heap.size (by omega)).trans HR0.out
          have hcp := copy_word wr.drew (w.heap.size + 1) c (ej x 64) (rb (xb x) 64) (HEL.out 64) (HRL.out 64 (by omega)) (HA.out.drewN 1) (HC.out.drewN 1)
          have hE : (rb (xb x) 64).take 63 ++ (ej x 64).drop 63 = cwd x := rb_end _ _ (ej_drop x)
          have hl := cwd_length x
          obtain ⟨cw, hcw⟩ : ∃ l, cwd x = l := ⟨_, rfl⟩
          rw [hcw] at hE hl
          have HCW := Lib.hid hcw
          rw [hE] at hcp
          have HSZ := Lib.hid (word_size cw hl)
          have HCL := Lib.hid hl
          clear hE hcw hl
          have HBW : Hid (Below w.heap.size w (wr.drew.setRow (w.heap.size + 1) (boolCells cw))) := below_setRow (below_drew1 (HB.out.trans (HO.out.below (by omega)))) (by omega) _
          have HRW : Hid (Row (wr.drew.setRow (w.heap.size + 1) (boolCells cw)) (w.heap.size + 1) 40 (boolCells cw)) := Row.setRow (HA.out.drewN 1) _
          have HZW : Hid (Row (wr.drew.setRow (w.heap.size + 1) (boolCells cw)) w.heap.size 40 (boolCells w0)) := (setRow_other _ _ _ _ (by omega)).trans (HZ.out.drewN 1)
          clear HA HZ HC HO HG HR0 HB HR
          go_wp2
          go_region
          clear hcp
          have hsz := boolCells_size cw
          rw [HCL.out] at hsz
          generalize wr.drew.setRow (w.heap.size + 1) (boolCells cw) = w5 at *
          have hst := store_at w5 w.heap.size w0 cw w0_length HCL.out HZW.out
          go_wp2_with (refine wpList_load_row rfl 40 (.tmp 3) rfl (w.heap.size + 1) rfl 40 (boolCells cw) (0, 0) _ HRW.out Tryd.underlying40 rfl HSZ.out ?_)
          refine bodyPost_ret (v := .agg (boolCells cw)) (results_cell_row Tryd.results26 _ _ w.heap.size 40 (boolCells cw) (0, 0) _ rfl (Row.setRow HZW.out _) Tryd.underlying40 rfl HSZ.out) rfl ⟨by rw [HCW.out], below_setRow HBW.out (Nat.le_refl _) _⟩
end Go.Proofs.YtmfnjjkbfabonaaDoor
