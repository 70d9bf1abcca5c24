/-
  The contracts of layer 5's roots and Generator. Condition: the Field lies in a block of its own.
-/
import Derived.Test.YtbokecpcefcimaaHn
namespace Go.Proofs.Ytbokecpcefcimaa
open Go.RowKit
open M

theorem own_below {w w' : World} {base n size : Nat} {e : TypeId} {v : Value} {xs : List Value} (h : w.ownsRow base e size v n xs) (hb : Below w.heap.size w w') : w'.ownsRow base e size v n xs := by
  refine ⟨h.1, ?_⟩
  rcases h.2 with h0 | ⟨g, cap, cur, h1, h2, h3, h4⟩
  · exact Or.inl h0
  · exact Or.inr ⟨g, cap, cur, h1, h2, (hb.block g (Row.lt h3)).trans h3, h4⟩
/-- A list of numbers, as it was appended. -/
def vs (l : List Nat) : List Value := l.map fun x : Nat => Value.int .i64 (x : Int)
theorem vs_snoc (l : List Nat) (x : Nat) : vs (l ++ [x]) = vs l ++ [.int .i64 (x : Nat)] := by simp [vs]
theorem vs_get (l : List Nat) (i : Nat) (h : i < l.length) : (vs l)[i]? = some (.int .i64 (l.getD i 0 : Nat)) := by
  simp [vs, h]

/-- The roots as they are gathered: an exponent's rounds. -/
def rin (met : List Bool) (l : List Nat) (a : Nat) : Nat → List Bool × List Nat × Nat
  | 0 => (met, l, a)
  | j + 1 =>
    let s := rin met l a j
    if s.1.getD s.2.2 false then (s.1, s.2.1, (2 * s.2.2) % 127) else (s.1.set s.2.2 true, s.2.1 ++ [E s.2.2], (2 * s.2.2) % 127)
/-- .. and all exponents' rounds. -/
def rout : Nat → List Bool × List Nat
  | 0 => (w0, [])
  | i + 1 =>
    let r := rin (rout i).1 (rout i).2 (i + 1) 7
    (r.1, r.2.1)
theorem rin_met (met : List Bool) (l : List Nat) (a j : Nat) (h : met.length = 127) : (rin met l a j).1.length = 127 := by
  induction j with
  | zero => exact h
  | succ j ih => simp only [rin]; split <;> simp [ih]
theorem rin_lt (met : List Bool) (l : List Nat) (a j : Nat) (h : a < 127) : (rin met l a j).2.2 < 127 := by
  induction j with
  | zero => exact h
  | succ j ih => simp only [rin]; split <;> exact Nat.mod_lt _ (by omega)
theorem rin_few (met : List Bool) (l : List Nat) (a j : Nat) : (rin met l a j).2.1.length ≤ l.length + j := by
  induction j with
  | zero => exact Nat.le_refl _
  | succ j ih => simp only [rin]; split <;> simp <;> omega
theorem rout_met (i : Nat) : (rout i).1.length = 127 := by
  induction i with
  | zero => exact w0_length
  | succ i ih => exact rin_met _ _ _ _ ih
theorem rout_few (i : Nat) : (rout i).2.length ≤ 7 * i := by
  induction i with
  | zero => exact Nat.le_refl _
  | succ i ih =>
    have : (rin (rout i).1 (rout i).2 (i + 1) 7).2.1.length ≤ _ := rin_few _ _ _ 7
    show (rin (rout i).1 (rout i).2 (i + 1) 7).2.1.length ≤ _
    omega
/-- The generator's roots, in the order of their gathering. -/
def rts : List Nat := (rout 20).2
theorem rts_gen : rts.foldl tm [1] = genT := by decide +kernel
theorem rts_length : rts.length = 63 := by decide +kernel
theorem rts_els : Els rts := by
  have h : rts.all (fun c => decide (c < 128)) = true := by decide +kernel
  intro c hc
  have := List.all_eq_true.1 h c hc
  simpa using this

set_option maxRecDepth 100000 in
set_option maxHeartbeats 1000000 in
theorem roots_any (f : Nat) (w : World) (hf : Fd w f) :
    Calls Try.prog 42 #[.pointer (some ⟨f, 0, none⟩)] w fun e w' => ∃ v, e = .returned v ∧ w'.ownsRow (w.heap.size + 1) 3 1 v 63 (vs rts) ∧ Below w.heap.size w w' := by
  obtain ⟨i0, hi0, hz0, hz1, hz2⟩ := info_parts int_info
  have HT := Lib.hid (And.intro hi0 (And.intro hz0 (And.intro hz1 hz2)))
  clear hi0 hz0 hz1 hz2
  have HF := Lib.hid hf
  clear hf
  have hz := arr_zero w
  go_enter Try.func42, Try.ntmps42
  go_wp2
  clear hz
  have HM0 : Hid (Row (w.alloc (.cells (boolCells w0) 25)) w.heap.size 25 (boolCells w0)) := heap_alloc_new _ _
  have HB0 : Hid (Below w.heap.size w (w.alloc (.cells (boolCells w0) 25))) := (Below.refl _ _).alloc (Nat.le_refl _) _
  have hs0 : (w.alloc (.cells (boolCells w0) 25)).heap.size = w.heap.size + 1 := by simp
  generalize w.alloc (.cells (boolCells w0) 25) = w1 at *
  go_loopw [4, 5] (fun v i wr => ∃ (k : Nat) (q : Value), k ≤ 20 ∧ i = .int .i64 ((k : Int) + 1) ∧ q = v ∧ wr.ownsRow (w.heap.size + 1) 3 1 q (rout k).2.length (vs (rout k).2) ∧ Row wr w.heap.size 25 (boolCells (rout k).1) ∧ Below w.heap.size w wr ∧ w.heap.size + 1 ≤ wr.heap.size) (fun _ i _ => 21 - (intOf i).toNat)
  case atStart => exact ⟨0, _, by omega, rfl, rfl, World.ownsRow_nil _ _ _ _, HM0.out, HB0.out, by omega⟩
  case round =>
    clear HM0 HB0 hs0
    obtain ⟨k, q, hk, rfl, rfl, hown, hm, hb, hs⟩ := hrel
    have HO := Lib.hid hown
    have HM := Lib.hid hm
    have HB := Lib.hid hb
    clear hown hm hb
    by_cases hlt : k < 20
    · go_wp2
      have hdec : decide ((k : Int) + 1 ≤ 20) = true := by rw [decide_eq_true_iff]; omega
      rw [hdec]
      clear hdec
      have HMK := Lib.hid (rout_met k)
      have HFK := Lib.hid (rout_few k)
      have HNX : Hid (rout (k + 1) = ((rin (rout k).1 (rout k).2 (k + 1) 7).1, (rin (rout k).1 (rout k).2 (k + 1) 7).2.1)) := rfl
      obtain ⟨M, hM⟩ : ∃ M, (rout k).1 = M := ⟨_, rfl⟩
      obtain ⟨L, hL⟩ : ∃ L, (rout k).2 = L := ⟨_, rfl⟩
      rw [hM] at HM HMK HNX
      rw [hL] at HO HFK HNX
      clear hM hL
      go_loopw [4, 6, 12] (fun v a i wr => ∃ (j : Nat) (r : Value), j ≤ 7 ∧ i = .int .i64 j ∧ a = .int .i64 ((rin M L (k + 1) j).2.2 : Nat) ∧ r = v ∧ wr.ownsRow (w.heap.size + 1) 3 1 r (rin M L (k + 1) j).2.1.length (vs (rin M L (k + 1) j).2.1) ∧ Row wr w.heap.size 25 (boolCells (rin M L (k + 1) j).1) ∧ Below w.heap.size w wr ∧ w.heap.size + 1 ≤ wr.heap.size) (fun _ _ i _ => 7 - (intOf i).toNat)
      case atStart => exact ⟨0, _, by omega, rfl, by congr 1, rfl, HO.out, HM.out, HB.out, hs⟩
      case round =>
        clear HO HM HB hs
        obtain ⟨j, r, hj, rfl, rfl, rfl, hown, hm, hb, hs⟩ := hrel
        have HO := Lib.hid hown
        have HM := Lib.hid hm
        have HB := Lib.hid hb
        clear hown hm hb
        have HML := Lib.hid (rin_met M L (k + 1) j HMK.out)
        have hlog := rin_lt M L (k + 1) j (by omega)
        have hfew := rin_few M L (k + 1) j
        have hLf := HFK.out
        have HS : Hid (rin M L (k + 1) (j + 1) = if (rin M L (k + 1) j).1.getD (rin M L (k + 1) j).2.2 false then ((rin M L (k + 1) j).1, (rin M L (k + 1) j).2.1, (2 * (rin M L (k + 1) j).2.2) % 127) else ((rin M L (k + 1) j).1.set (rin M L (k + 1) j).2.2 true, (rin M L (k + 1) j).2.1 ++ [E (rin M L (k + 1) j).2.2], (2 * (rin M L (k + 1) j).2.2) % 127)) := rfl
        by_cases hlt7 : j < 7
        · obtain ⟨met, hmet⟩ : ∃ x, (rin M L (k + 1) j).1 = x := ⟨_, rfl⟩
          obtain ⟨l, hl⟩ : ∃ x, (rin M L (k + 1) j).2.1 = x := ⟨_, rfl⟩
          obtain ⟨a, ha⟩ : ∃ x, (rin M L (k + 1) j).2.2 = x := ⟨_, rfl⟩
          rw [hmet] at HS HM HML
          rw [hl] at HS HO hfew
          rw [ha] at HS hlog ⊢
          clear hmet hl ha
          have c0 := word_at HM.out a (by rw [HML.out]; exact hlog)
          obtain ⟨b, hb⟩ : ∃ b, met.getD a false = b := ⟨_, rfl⟩
          rw [hb] at c0 HS
          have h127 : (a : Int) < 127 := by omega
          clear hb
          cases b
          · have f0 := HM.out.free a
            have HFD : Hid (Fd (wr.setCell ⟨w.heap.size, a, none⟩ (.bool true)) f) := Row.far (Row.below HF.out HB.out HF.out.lt) (p := ⟨w.heap.size, a, none⟩) (by have := HF.out.lt; show f ≠ w.heap.size; omega) _
            have HM2 : Hid (Row (wr.setCell ⟨w.heap.size, a, none⟩ (.bool true)) w.heap.size 25 (boolCells (met.set a true))) := by
              unfold Hid; rw [← boolCells_set]; exact HM.out.set a _
            have HB2 : Hid (Below w.heap.size w (wr.setCell ⟨w.heap.size, a, none⟩ (.bool true))) := HB.out.setCell (p := ⟨w.heap.size, a, none⟩) (Nat.le_refl _) _
            have HO2 : Hid ((wr.setCell ⟨w.heap.size, a, none⟩ (.bool true)).ownsRow (w.heap.size + 1) 3 1 r l.length (vs l)) := by
              refine ⟨HO.out.1, ?_⟩
              rcases HO.out.2 with h0 | ⟨g, cap, cur, h1, h2, h3, h4⟩
              · exact Or.inl h0
              · exact Or.inr ⟨g, cap, cur, h1, h2, Row.far h3 (p := ⟨w.heap.size, a, none⟩) (by show g ≠ w.heap.size; omega) _, h4⟩
            have hs2 : (wr.setCell ⟨w.heap.size, a, none⟩ (.bool true)).heap.size = wr.heap.size := by simp [World.setCell]
            clear HM HB HO
            go_wp2_with fail
            clear c0 f0
            generalize wr.setCell ⟨w.heap.size, a, none⟩ (.bool true) = w3 at *
            refine (exp_nat a f _ hlog HFD.out).mono ?_
            rintro e w4 ⟨rfl, n, rfl⟩
            have HM3 := Lib.hid (HM2.out.drewN n)
            have HB3 := Lib.hid (Below.drewN HB2.out n)
            have HO3 : Hid ((w3.drewN n).ownsRow (w.heap.size + 1) 3 1 r l.length (vs l)) := HO2.out
            have hs3 : w.heap.size + 1 ≤ (w3.drewN n).heap.size := by show _ ≤ w3.heap.size; omega
            clear HM2 HB2 HO2 HFD hs2 hs
            generalize w3.drewN n = w4 at *
            generalize E a = x at *
            go_wp2_with (at_builtin; refine wpList_append_own _ rfl _ _ 40 rfl (w.heap.size + 1) 3 i0 (.int .i64 0) 1 8 Try.underlying40 HT.out.1 HT.out.2.1 HT.out.2.2.1 HT.out.2.2.2 rfl (by decide) _ _ _ rfl (HO3.out.alloc _) ⟨w4.heap.size, 0, none⟩ 1 1 [.int .i64 (x : Nat)] rfl rfl (one_new _ _ rfl _ _) one_cell ?c3 ?c4 ?c5 ?_)
            case c3 => unfold maxLen; omega
            case c4 => omega
            case c5 => simp; omega
            intro v' w5 hown' hgrow _
            have hgs := hgrow.size
            have hown4 := own_ge (HO3.out)
            have hne : some w.heap.size ≠ r.ownBlock := own_ne HO3.out _ (by omega)
            have R : Hid (w5.ownsRow (w.heap.size + 1) 3 1 v' (l ++ [x]).length (vs (l ++ [x])) ∧ Row w5 w.heap.size 25 (boolCells (met.set a true)) ∧ Below w.heap.size w w5 ∧ w.heap.size + 1 ≤ w5.heap.size) := by
              refine ⟨?_, Row.grown (HM3.out.alloc _) hgrow (by simp; omega) hne, (HB3.out.alloc (by omega) _).grown hgrow (by simp; omega) (fun k hk => by have := hown4 k hk; omega), by simp at hgs; omega⟩
              rw [vs_snoc, List.length_append]; exact hown'
            clear hown' hgrow hgs hown4 hne HM3 HB3 HO3
            go_wp2
            go_roundw
            case rel =>
              refine ⟨j + 1, _, by omega, by go_num, ?_, rfl, ?_⟩
              · rw [HS.out]; go_num
              · rw [HS.out]; exact R.out
            case measure => simp [intOf] <;> omega
          · go_wp2
            go_roundw
            case rel =>
              refine ⟨j + 1, _, by omega, by go_num, ?_, rfl, ?_⟩
              · rw [HS.out]; go_num
              · rw [HS.out]; exact ⟨HO.out, HM.out, HB.out, hs⟩
            case measure => simp [intOf] <;> omega
        · obtain rfl : j = 7 := by omega
          go_wp2
          go_roundw
          case rel =>
            refine ⟨k + 1, _, by omega, by go_num, rfl, ?_⟩
            rw [HNX.out]
            exact ⟨HO.out, HM.out, HB.out, hs⟩
          case measure => simp [intOf] <;> omega
    · obtain rfl : k = 20 := by omega
      have hl := rts_length
      go_wp2
      go_ret
      exact ⟨_, rfl, by rw [← hl]; exact HO.out, HB.out⟩
end Go.Proofs.Ytbokecpcefcimaa
