/-
  Contracts and plain facts that the laws share; each piece is headed by what it holds and its conditions.
-/
import Derived.Test.YtalbcimnnihmnaaQS16
import Derived.Test.YtalbcimnnihmnaaQS7
import Derived.Test.YtalbcimnnihmnaaQS13
import Derived.Test.YtalbcimnnihmnaaQS9
import Derived.Test.YtalbcimnnihmnaaQS15
import Derived.Test.YtalbcimnnihmnaaQS10
import Derived.Test.YtalbcimnnihmnaaQS3
import Derived.Test.YtalbcimnnihmnaaQS6
import Derived.StillTail
import Derived.Lib.QuietBelow
import Derived.BigQuiet
import Derived.Deep.RegionHeld3
import Derived.Deep.RegionWith
import Derived.Deep.QuietTactic

/- Layer 14's Coefs of any pulses and any step: 0s where a step or a pulse may not be. Conditions: four numbers. -/
namespace Go.Proofs.Ytalbcimnnihmnaa
open Go.RowKit
open M
theorem pstep_no (s : Int) (w : World) (h : ¬ (0 ≤ s ∧ s ≤ 15)) :
    Calls Try.prog 37 #[.int .i64 s] w fun e w' => e = .returned (.bool false) ∧ w' = w := by
  by_cases h1 : s < 0
  · have h2 : ¬ s ≥ 0 := by omega
    go_enter Try.func37, Try.ntmps37
    go_wp2
    go_ret
    exact ⟨rfl, rfl⟩
  · have h2 : s ≥ 0 := by omega
    have h3 : ¬ s ≤ 15 := by omega
    go_enter Try.func37, Try.ntmps37
    go_wp2
    go_ret
    exact ⟨rfl, rfl⟩
set_option maxRecDepth 100000 in
theorem within_no (l : List Int) (w : World) (hl : l.length = 4) (h : ¬ ∀ j, j < 4 → -12 ≤ l.getD j 0 ∧ l.getD j 0 ≤ 12) :
    Calls Try.prog 38 #[.int .i64 12, .agg (iCells l)] w fun e w' => e = .returned (.bool false) ∧ Below w.heap.size w w' := by
  have HH := Lib.hid h
  have HIX := Lib.hid (index_four l hl)
  have HSZ := Lib.hid (four_size l hl)
  have HR : Hid (Row (w.alloc (.cells (iCells l) 28)) w.heap.size 28 (iCells l)) := Lib.hid (heap_alloc_new _ _)
  have HB : Hid (Below w.heap.size w (w.alloc (.cells (iCells l) 28))) := Lib.hid ((Below.refl _ _).alloc (Nat.le_refl _) _)
  have hw : IntKind.i64.wrap (-12) = -12 := wi_id _ (by omega) (by omega)
  clear h hl
  go_enter Try.func38, Try.ntmps38
  go_wp2_with (refine wpList_load_row rfl 28 (.tmp 3) rfl w.heap.size rfl 28 (iCells l) (0, 0) _ HR.out Try.underlying28 rfl HSZ.out ?_)
  go_loop [8] (fun i => ∃ (k : Nat), k ≤ 4 ∧ i = .int .i64 k ∧ ∀ j, j < k → -12 ≤ l.getD j 0 ∧ l.getD j 0 ≤ 12) (fun i => 4 - (intOf i).toNat)
  case atStart => exact ⟨0, by omega, rfl, fun j hj => by omega⟩
  case round =>
    obtain ⟨k, hk, rfl, hall⟩ := hrel
    have HA := Lib.hid hall
    rcases Nat.lt_or_ge k 4 with hlt | hge
    · have hix := HIX.out k hlt
      have HK := Lib.hid hlt
      have hkI : (k : Int) < 4 := by omega
      obtain ⟨x, hxx⟩ : ∃ x, l.getD k 0 = x := ⟨_, rfl⟩
      have HX := Lib.hid fun _ : Unit => hxx
      rw [hxx] at hix
      clear hxx hlt hk hall
      by_cases h1 : x < -12
      · go_wp2_with fail
        go_ret
        exact ⟨rfl, HB.out⟩
      · by_cases h2 : x > 12
        · go_wp2_with fail
          go_ret
          exact ⟨rfl, HB.out⟩
        · go_wp2_with fail
          go_round
          case rel => exact ⟨k + 1, HK.out, by go_num, fun j hj => by
            rcases Nat.lt_or_ge j k with h | h
            · exact HA.out j h
            · obtain rfl : j = k := by omega
              rw [HX.out ()]
              omega⟩
          case measure =>
            have := HK.out
            simp [intOf] <;> omega
    · obtain rfl : k = 4 := by omega
      exact absurd hall HH.out
/-- What pulses stand for, whatever they are. -/
def cfa (y : List Int) (s : Int) : List Int := if (0 ≤ s ∧ s ≤ 15) ∧ fw19 y = true then cf14 y ((2 : Int) ^ s.toNat) else z4
theorem cfa_len (y : List Int) (s : Int) (hy : y.length = 4) : (cfa y s).length = 4 := by
  unfold cfa
  split
  · rw [cf14_len, hy]
  · rfl
set_option maxRecDepth 100000 in
set_option maxHeartbeats 1000000 in
theorem coefs_all (y : List Int) (s : Int) (w : World) (hy : y.length = 4) :
    Calls Try.prog 27 #[.agg (iCells y), .int .i64 s] w fun e w' => e = .returned (.agg (iCells (cfa y s))) ∧ Below w.heap.size w w' := by
  by_cases hs : 0 ≤ s ∧ s ≤ 15
  · cases hf : fw19 y with
    | true =>
      obtain ⟨n, rfl⟩ : ∃ n : Nat, s = (n : Int) := ⟨s.toNat, by omega⟩
      have e : cfa y (n : Int) = cf14 y ((2 : Int) ^ n) := by unfold cfa; rw [if_pos ⟨hs, hf⟩]; rfl
      rw [e]
      exact coefs_any y n w hy (by omega) ((fw_iff y).1 hf)
    | false =>
      have e : cfa y s = z4 := by unfold cfa; rw [if_neg fun e => by rw [hf] at e; cases e.2]
      rw [e]
      clear e
      have HW := Lib.hid fun w => within_no y w hy fun e => by rw [(fw_iff y).2 e] at hf; cases hf
      obtain ⟨n, rfl⟩ : ∃ n : Nat, s = (n : Int) := ⟨s.toNat, by omega⟩
      have HS := Lib.hid fun w => step_any n w (by omega)
      have hz := four_zero
      have HSP := Lib.hid (pulses_size y hy)
      have HR : Hid (Row (((w.alloc (.cells (iCells y) 29)).alloc (.cells (iCells z4) 28)).alloc (.cells (iCells z4) 28)) w.heap.size 29 (iCells y)) := Lib.hid ((Row.alloc (heap_alloc_new _ _) _).alloc _)
      have HR1 : Hid (Row (((w.alloc (.cells (iCells y) 29)).alloc (.cells (iCells z4) 28)).alloc (.cells (iCells z4) 28)) (w.heap.size + 1) 28 (iCells z4)) := Lib.hid (Row.alloc (row_new _ _ (by simp) _ _) _)
      have HR2 : Hid (Row (((w.alloc (.cells (iCells y) 29)).alloc (.cells (iCells z4) 28)).alloc (.cells (iCells z4) 28)) (w.heap.size + 1 + 1) 28 (iCells z4)) := Lib.hid (row_new _ _ (by simp) _ _)
      have HB : Hid (Below w.heap.size w (((w.alloc (.cells (iCells y) 29)).alloc (.cells (iCells z4) 28)).alloc (.cells (iCells z4) 28))) := Lib.hid ((((Below.refl _ _).alloc (Nat.le_refl _) _).alloc (by simp) _).alloc (by simp; omega) _)
      clear hy hf hs
      go_enter Try.func27, Try.ntmps27
      go_wp2_with fail
      refine (HS.out _).mono ?_
      rintro e w1 ⟨rfl, rfl⟩
      generalize ((w.alloc (.cells (iCells y) 29)).alloc (.cells (iCells z4) 28)).alloc (.cells (iCells z4) 28) = w1 at *
      obtain ⟨g, hg⟩ : ∃ g, w.heap.size = g := ⟨_, rfl⟩
      have HG := Lib.hid fun _ : Unit => hg
      rw [hg] at HR HR1 HR2
      rw [hg]
      clear hg
      go_wp2_with (refine g_load_row (by rfl) 29 (.tmp 2) rfl g rfl 29 (iCells y) (0, 0) _ HR.out Try.underlying29 rfl HSP.out ?_)
      refine (HW.out _).mono ?_
      rintro e w2 ⟨rfl, hb⟩
      have HR2 := Lib.hid (HR2.out.box hb)
      have HR1 := Lib.hid (HR1.out.box hb)
      have HB := Lib.hid (HB.out.trans (hb.mono HB.out.size))
      clear hb HR
      have HSC := Lib.hid (four_size z4 rfl)
      go_wp2_with (first
        | (refine wpList_load_row rfl 28 (.tmp 5) rfl (g + 1 + 1) rfl 28 (iCells z4) (0, 0) _ HR2.out Try.underlying28 rfl HSC.out ?_)
        | (refine wpList_store_row rfl 28 (.tmp 4) (.tmp 16) rfl (g + 1) (iCells z4) rfl rfl 28 (iCells z4) HR1.out HSC.out rfl (iCells_one _) ?_))
      refine bodyPost_ret (v := .agg (iCells z4)) (results_cell_row Try.results27 _ _ (g + 1) 28 (iCells z4) (0, 0) _ rfl (Row.setRow HR1.out _) Try.underlying28 rfl HSC.out) rfl ⟨rfl, below_setRow HB.out (by have := HG.out (); omega) _⟩
  · have e : cfa y s = z4 := by unfold cfa; rw [if_neg fun e => hs e.1]
    rw [e]
    clear e
    have HS := Lib.hid fun w => pstep_no s w hs
    have hz := four_zero
    have HR1 : Hid (Row (((w.alloc (.cells (iCells y) 29)).alloc (.cells (iCells z4) 28)).alloc (.cells (iCells z4) 28)) (w.heap.size + 1) 28 (iCells z4)) := Lib.hid (Row.alloc (row_new _ _ (by simp) _ _) _)
    have HR2 : Hid (Row (((w.alloc (.cells (iCells y) 29)).alloc (.cells (iCells z4) 28)).alloc (.cells (iCells z4) 28)) (w.heap.size + 1 + 1) 28 (iCells z4)) := Lib.hid (row_new _ _ (by simp) _ _)
    have HB : Hid (Below w.heap.size w (((w.alloc (.cells (iCells y) 29)).alloc (.cells (iCells z4) 28)).alloc (.cells (iCells z4) 28))) := Lib.hid ((((Below.refl _ _).alloc (Nat.le_refl _) _).alloc (by simp) _).alloc (by simp; omega) _)
    clear hs hy
    go_enter Try.func27, Try.ntmps27
    go_wp2_with fail
    refine (HS.out _).mono ?_
    rintro e w1 ⟨rfl, rfl⟩
    generalize ((w.alloc (.cells (iCells y) 29)).alloc (.cells (iCells z4) 28)).alloc (.cells (iCells z4) 28) = w1 at *
    obtain ⟨g, hg⟩ : ∃ g, w.heap.size = g := ⟨_, rfl⟩
    have HG := Lib.hid fun _ : Unit => hg
    rw [hg] at HR1 HR2
    rw [hg]
    clear hg
    have HSC := Lib.hid (four_size z4 rfl)
    go_wp2_with (first
      | (refine wpList_load_row rfl 28 (.tmp 5) rfl (g + 1 + 1) rfl 28 (iCells z4) (0, 0) _ HR2.out Try.underlying28 rfl HSC.out ?_)
      | (refine wpList_store_row rfl 28 (.tmp 4) (.tmp 16) rfl (g + 1) (iCells z4) rfl rfl 28 (iCells z4) HR1.out HSC.out rfl (iCells_one _) ?_))
    refine bodyPost_ret (v := .agg (iCells z4)) (results_cell_row Try.results27 _ _ (g + 1) 28 (iCells z4) (0, 0) _ rfl (Row.setRow HR1.out _) Try.underlying28 rfl HSC.out) rfl ⟨rfl, below_setRow HB.out (by have := HG.out (); omega) _⟩
end Go.Proofs.Ytalbcimnnihmnaa

/- A region that draws its order: a head that only reads (its callees may lay blocks), then a tail that has one order. One walk serves every order. No program is named here. Conditions: the head's operations are quiet in a class of worlds; all of the head is ahead of the tail. -/
namespace Go.Proofs.Ytalbcimnnihmnaa
open Go Go.RowKit
section
variable {P : Program} {ops : Array Oper} {md : Region.Mode} {C : World → Prop}
/-- Whatever order the head is taken in, L holds behind it. -/
def headQ (P : Program) (md : Region.Mode) (ops : Array Oper) (C : World → Prop) (n : Nat) (L : Array Bool → Act → Prop) : Nat → Array Bool → Act → Prop
  | 0, listed, a => L listed a
  | f + 1, listed, a => Region.ready md ops listed ≠ [] ∧ ∀ i ∈ Region.ready md ops listed, i < n ∧ qOp P ops C i (headQ P md ops C n L f (listed.setIfInBounds i true)) a
theorem headQ_any {n g : Nat} {L : Array Bool → Act → Prop} {Q : Exit → Act → World → Prop} (hL : ∀ listed a w, C w → L listed a → wpAny P md ops Q g listed a w) :
    ∀ (f : Nat) (listed : Array Bool) (a : Act) (w : World), C w → headQ P md ops C n L f listed a → wpAny P md ops Q (f + g) listed a w
  | 0, listed, a, w, hC, h => by
    rw [Nat.zero_add]
    exact hL _ _ _ hC h
  | f + 1, listed, a, w, hC, h => by
    rw [show f + 1 + g = (f + g) + 1 by omega]
    exact ⟨fun h0 => absurd h0 h.1, fun i hi => wpOp_of_qOp hC (fun a' w' hw' h' => headQ_any hL f _ a' w' hw' h') (h.2 i hi).2⟩
theorem headQ_first {n i : Nat} {oi : Oper} {v : Value} {L : Array Bool → Act → Prop} (hi : ops[i]? = some oi) (hsel : ∀ (j : Nat) (o : Oper) cs b, ops[j]? = some o → o.op ≠ .select cs b)
    (hin : i < n) (hw : ∀ listed, HeadInv md ops n listed → listed.getD i true = false → ∀ t, n ≤ t → t ∉ Region.ready md ops listed) (hL : ∀ listed a, L listed a → ∀ j ∈ Region.ready md ops listed, n ≤ j) (f : Nat) :
    ∀ (listed : Array Bool) (a : Act), HeadInv md ops n listed →
      (∀ j oj, ops[j]? = some oj → j ≠ i → listed.getD j true = false → (∀ e ∈ oj.after, Region.binds md e = true → e.on ≠ i) → oi.apart ops oj = true) →
      i ∈ Region.ready md ops listed → YieldsIn P ops C oi v a →
      headQ P md ops C n L f (listed.setIfInBounds i true) (a.put oi.dst v) → headQ P md ops C n L (f + 1) listed a := by
  induction f with
  | zero =>
    intro listed a inv _ hr hy H
    refine ⟨fun h => (by rw [h] at hr; cases hr), fun j hj => ?_⟩
    have hjn : j < n := Nat.lt_of_not_le fun h => hw listed inv (mem_ready.1 hr).1 j h hj
    refine ⟨hjn, ?_⟩
    by_cases hji : j = i
    · subst hji
      exact hy.qOp hi H
    · exact absurd (hL _ _ H j (ready_mono hj hji)) (by omega)
  | succ f ih =>
    intro listed a inv hfree hr hy H
    refine ⟨fun h => (by rw [h] at hr; cases hr), fun j hj => ?_⟩
    have hjn : j < n := Nat.lt_of_not_le fun h => hw listed inv (mem_ready.1 hr).1 j h hj
    refine ⟨hjn, ?_⟩
    by_cases hji : j = i
    · subst hji
      exact hy.qOp hi H
    · have h1 := (H.2 j (ready_mono hj hji)).2
      obtain ⟨hjun, oj, hoj, hall⟩ := mem_ready.1 hj
      have hnot : ∀ e ∈ oj.after, Region.binds md e = true → e.on ≠ i := fun e he hb heq => by
        have h3 := hall e he hb
        rw [heq, getD_both (mem_ready.1 hr).1] at h3
        cases h3
      have h2 := qOp_put hoj (hfree j oj hoj hji hjun hnot) (fun cs b => hsel i oi cs b hi) (fun cs b => hsel j oj cs b hoj) hy h1
      refine qOp_mono (fun a' h3 => ih (listed.setIfInBounds j true) a' (inv.set hj hjn) (fun k ok hk hki hun hno => hfree k ok hk hki ?_ hno) (ready_mono hr (Ne.symm hji)) h3.1 ?_) h2
      · by_cases hjk : j = k
        · subst hjk
          exact hjun
        · rw [getD_set_ne true hjk] at hun
          exact hun
      · rw [Array.setIfInBounds_comm _ _ hji]
        exact h3.2
theorem headQ_lex {n g m : Nat} {L : Act → Prop} (hsel : Region.noSelect ops = true) (hw : ∀ i, m ≤ i → i < n → ∀ listed, HeadInv md ops n listed → listed.getD i true = false → ∀ t, n ≤ t → t ∉ Region.ready md ops listed) :
    ∀ (l : List Oper) (k : Nat) (listed : Array Bool) (a : Act), m ≤ k → (∀ j, j < l.length → l[j]? = ops[k + j]?) → k + l.length = n → HeadInv md ops n listed →
    Region.lexHead md ops g l.length k listed = true → wpQuiet P ops C L l a →
    headQ P md ops C n (fun listed' a' => Region.seqB md ops g n listed' = true ∧ L a') l.length listed a
  | [], k, listed, a, _, _, hk, _, hB, h => by
    obtain rfl : k = n := by simpa using hk
    exact ⟨by simpa [Region.lexHead] using hB, h⟩
  | o :: l, k, listed, a, hmk, hl, hk, inv, hB, h => by
    have h0 : ops[k]? = some o := by simpa using (hl 0 (by simp)).symm
    simp only [List.length_cons, Region.lexHead, Bool.and_eq_true] at hB
    have hkn : k < n := by simp only [List.length_cons] at hk; omega
    have hr : k ∈ Region.ready md ops listed := by simpa using hB.1.1
    have hst : qOp P ops C k (wpQuiet P ops C L l) a := by unfold qOp; simp only [h0]; exact h
    obtain ⟨v, hy, hK⟩ := yieldsIn_of_qOp h0 hst
    exact headQ_first h0 (Region.noSelect_spec hsel) hkn (hw k hmk hkn) (fun listed' a' hL => seqB_ready hL.1) l.length listed a inv (Region.free_spec h0 hB.1.2) hr hy
      (headQ_lex hsel hw l (k + 1) _ _ (by omega) (fun j hj => by have := hl (j + 1) (by simp; omega); simpa [Nat.add_assoc, Nat.add_comm 1 j] using this) (by simp only [List.length_cons] at hk; omega) (inv.set hr hkn) hB.2 hK)
end
/-- The head is quiet in a class of worlds; the tail is walked in each of them. -/
theorem region_quiet_tail {P : Program} {C : World → Prop} {id : Nat} {Q : Exit → Act → World → Prop} {a : Act} {w : World} {l : List Oper} (n : Nat) (hm : P.follows .mixedOrders = true) (hB : Region.lexTailB .any l.toArray n = true) (hC : C { w with drawn := w.drawn + 1 })
    (h : wpQuiet P l.toArray C (fun a' => ∀ w', C w' → wpList P l.toArray Q (l.drop n) a' w') (l.take n) a) : (Code.region id l.toArray true).wp P Q a w := by
  simp only [Region.lexTailB, Bool.and_eq_true, decide_eq_true_eq] at hB
  obtain ⟨⟨⟨⟨hsel, hn⟩, hs⟩, hc⟩, hlex⟩ := hB
  have hn' : n < l.length := by simpa using hn
  have htl : (l.take n).length = n := by simp; omega
  have hdl : (l.drop n).length = l.toArray.size - n := by simp
  have inv : HeadInv .any l.toArray n (Array.replicate l.toArray.size false) :=
    ⟨by simp, fun j oj _ hl => (by rw [getD_replicate_false] at hl; cases hl), fun t _ ht => getD_in (by simpa using ht) (getD_replicate_false _ _)⟩
  have H := headQ_lex (md := .any) (g := l.toArray.size - n) (m := 0) hsel (fun i _ hin listed inv hun => tail_waits hs hc hn inv _ i rfl hin hun) (l.take n) 0 _ a (Nat.le_refl _) (fun j hj => by
    have hj' : j < n := by rw [htl] at hj; exact hj
    simp [hj']) (by simpa using htl) inv (by rw [htl]; exact hlex) h
  refine wp_region_any hm ?_
  have K := headQ_any (Q := Q) (g := l.toArray.size - n) (fun listed a' w' hw' hL => by
    have := wpAny_of_seq (md := .any) (Q' := Q) (l.drop n) n listed a' w' (fun j => by simp [List.getElem?_drop]) (by rw [hdl]; exact hL.1) (hL.2 w' hw')
    rwa [hdl] at this) _ _ _ _ hC H
  rw [htl, show n + (l.toArray.size - n) = l.toArray.size by omega] at K
  exact K
/-- .. at the worlds that only laid blocks and drew. -/
theorem region_below_tail {P : Program} {id : Nat} {Q : Exit → Act → World → Prop} {a : Act} {w : World} {l : List Oper} (n : Nat) (hm : P.follows .mixedOrders = true) (hB : Region.lexTailB .any l.toArray n = true)
    (h : wpQuiet P l.toArray (fun w' => ∃ p : Regrown, w' = Sort.grow (redrawn w p.d) p.os) (fun a' => ∀ w', (∃ p : Regrown, w' = Sort.grow (redrawn w p.d) p.os) → wpList P l.toArray Q (l.drop n) a' w') (l.take n) a) : (Code.region id l.toArray true).wp P Q a w :=
  region_quiet_tail (C := fun w' => ∃ p : Regrown, w' = Sort.grow (redrawn w p.d) p.os) n hm hB ⟨⟨w.drawn + 1, #[]⟩, by rw [Sort.grow_empty]; rfl⟩ h
/-! ### A head whose first operation only hands a value on: it may come up behind the tail, too -/
section
variable {P : Program} {ops : Array Oper} {md : Region.Mode}
/-- But for the first m, each of the head is waited for by a later one, up to the tail's first. -/
def sinkM (md : Region.Mode) (ops : Array Oper) (m n : Nat) : Bool :=
  (List.range n).all fun i => decide (i < m) || (List.range (n + 1)).any fun j => decide (i < j) && Region.waitsFor md ops j i
theorem sinkM_spec {m n i : Nat} (h : sinkM md ops m n = true) (hm : m ≤ i) (hn : i < n) : ∃ j, i < j ∧ j ≤ n ∧ ∃ oj, ops[j]? = some oj ∧ ∃ e ∈ oj.after, Region.binds md e = true ∧ e.on = i := by
  have h1 := List.all_eq_true.1 h i (List.mem_range.2 hn)
  rw [decide_eq_false (by omega), Bool.false_or] at h1
  obtain ⟨j, hj, h2⟩ := List.any_eq_true.1 h1
  rw [Bool.and_eq_true, decide_eq_true_eq] at h2
  exact ⟨j, h2.1, by have := List.mem_range.1 hj; omega, Region.waitsFor_spec h2.2⟩
theorem chainB_spec {n t : Nat} (h : Region.chainB md ops n = true) (ht : t < ops.size) (hn : n < t) : ∃ o, ops[t]? = some o ∧ ∃ e ∈ o.after, Region.binds md e = true ∧ e.on = t - 1 := by
  have h1 := List.all_eq_true.1 h t (List.mem_range.2 ht)
  rw [Bool.or_eq_true, decide_eq_true_eq] at h1
  exact Region.waitsFor_spec (h1.resolve_left (by omega))
/-- While one of the head that is waited for is open, nothing of the tail comes up. -/
theorem tail_late {m n : Nat} {listed : Array Bool} (hs : sinkM md ops m n = true) (hc : Region.chainB md ops n = true) (inv : HeadInv md ops n listed) (d : Nat) :
    ∀ i, n - i = d → m ≤ i → i < n → listed.getD i true = false → ∀ t, n ≤ t → t ∉ Region.ready md ops listed := by
  induction d using Nat.strongRecOn with
  | _ d ih =>
    intro i hd hm hi hun t ht hr
    obtain ⟨_, ot, hot, hall⟩ := mem_ready.1 hr
    have htl : t < ops.size := (Array.getElem?_eq_some_iff.1 hot).1
    rcases Nat.eq_or_lt_of_le ht with rfl | hlt
    · obtain ⟨j, hij, hjn, oj, hoj, e, he, hb, hon⟩ := sinkM_spec hs hm hi
      rcases Nat.eq_or_lt_of_le hjn with rfl | hjlt
      · obtain rfl : oj = ot := Option.some.inj (hoj.symm.trans hot)
        have h2 := hall e he hb
        rw [hon, getD_both hun] at h2
        cases h2
      · cases hl : listed.getD j false with
        | true =>
          have h2 := inv.closed j oj hoj hl e he hb
          rw [hon, getD_both hun] at h2
          cases h2
        | false =>
          have hjs : j < listed.size := by rw [inv.size]; omega
          exact ih (n - j) (by omega) j rfl (by omega) hjlt (getD_in hjs hl) n (Nat.le_refl _) hr
    · obtain ⟨o2, ho2, e, he, hb, hon⟩ := chainB_spec hc htl hlt
      obtain rfl : o2 = ot := Option.some.inj (ho2.symm.trans hot)
      have h2 := hall e he hb
      rw [hon, getD_both (inv.tail (t - 1) (by omega) (by omega))] at h2
      cases h2
/-- What is asked of the region, by reckoning: the first operation waits for none and may be taken first; then as for the other tails. -/
def lexTail1 (md : Region.Mode) (ops : Array Oper) (n : Nat) : Bool :=
  Region.noSelect ops && decide (0 < n) && decide (n < ops.size) && sinkM md ops 1 n && Region.chainB md ops n && Region.free md ops (Array.replicate ops.size false) 0 && (Region.ready md ops (Array.replicate ops.size false)).contains 0
    && (match ops[0]? with | some o => o.after.isEmpty | none => false) && Region.lexHead md ops (ops.size - n) (n - 1) 1 ((Array.replicate ops.size false).setIfInBounds 0 true)
end
/-- The first operation is taken first; the head behind it is quiet; the tail has one order. The region is shown not to panic. -/
theorem region_quiet_tail1 {P : Program} {C : World → Prop} {id : Nat} {Q : Exit → Act → World → Prop} {a : Act} {w : World} {o : Oper} {l : List Oper} {v : Value} (n : Nat) (hm : P.follows .mixedOrders = true) (hB : lexTail1 .any (o :: l).toArray n = true) (hC : C { w with drawn := w.drawn + 1 })
    (hy : Yields P (o :: l).toArray o v a)
    (h : wpQuiet P (o :: l).toArray C (fun a' => ∀ w', C w' → wpList P (o :: l).toArray (NoPanic Q) (l.drop (n - 1)) a' w') (l.take (n - 1)) (a.put o.dst v)) : (Code.region id (o :: l).toArray true).wp P Q a w := by
  refine wp_region_noPanic ?_
  simp only [lexTail1, Bool.and_eq_true, decide_eq_true_eq] at hB
  obtain ⟨⟨⟨⟨⟨⟨⟨⟨hsel, hn0⟩, hn⟩, hs⟩, hc⟩, hfree⟩, hready⟩, hafter⟩, hlex⟩ := hB
  obtain ⟨m, rfl⟩ : ∃ m, n = m + 1 := ⟨n - 1, by omega⟩
  rw [Nat.add_sub_cancel] at h hlex
  have hsz : (o :: l).toArray.size = l.length + 1 := by simp
  have htl : (l.take m).length = m := by rw [List.length_take]; omega
  have hdl : (l.drop m).length = (o :: l).toArray.size - (m + 1) := by rw [List.length_drop]; omega
  have h0 : (o :: l).toArray[0]? = some o := by simp
  have haf : o.after = #[] := by
    rw [h0] at hafter
    simpa using hafter
  have inv : HeadInv .any (o :: l).toArray (m + 1) ((Array.replicate (o :: l).toArray.size false).setIfInBounds 0 true) := by
    refine ⟨by simp, fun j oj hoj hl => ?_, fun t ht hts => ?_⟩
    · by_cases hj : 0 = j
      · subst hj
        obtain rfl : o = oj := Option.some.inj (h0.symm.trans hoj)
        intro e he
        rw [haf] at he
        simp at he
      · rw [getD_set_ne false hj, getD_replicate_false] at hl
        cases hl
    · rw [getD_set_ne true (by omega)]
      exact getD_in (by simpa using hts) (getD_replicate_false _ _)
  have H := headQ_lex (C := C) (md := .any) (g := (o :: l).toArray.size - (m + 1)) (m := 1) hsel (fun i h1 hin listed inv hun => tail_late hs hc inv _ i rfl h1 hin hun) (l.take m) 1 _ (a.put o.dst v) (Nat.le_refl _) (fun j hj => by
    have hj' : j < m := by rw [htl] at hj; exact hj
    rw [Nat.add_comm 1 j]
    simp [hj']) (by rw [htl]; omega) inv (by rw [htl]; exact hlex) h
  refine wp_region_any hm ?_
  have K := headQ_any (Q := NoPanic Q) (g := (o :: l).toArray.size - (m + 1)) (fun listed a' w' hw' hL => by
    have := wpAny_of_seq (md := .any) (Q' := NoPanic Q) (l.drop m) (m + 1) listed a' w' (fun j => by
      rw [show m + 1 + j = (m + j) + 1 by omega]
      simp [List.getElem?_drop]) (by rw [hdl]; exact hL.1) (hL.2 w' hw')
    rwa [hdl] at this) _ _ _ _ hC H
  rw [htl] at K
  have K2 := wpAny_take (md := .any) (Q := NoPanic Q) h0 hsel hfree hready (fun _ _ _ h => h) hy K
  rw [show m + ((o :: l).toArray.size - (m + 1)) + 1 = (o :: l).toArray.size by omega] at K2
  exact K2
/-- .. at the worlds that only laid blocks and drew. -/
theorem region_below_tail1 {P : Program} {id : Nat} {Q : Exit → Act → World → Prop} {a : Act} {w : World} {o : Oper} {l : List Oper} {v : Value} (n : Nat) (hm : P.follows .mixedOrders = true) (hB : lexTail1 .any (o :: l).toArray n = true) (hy : Yields P (o :: l).toArray o v a)
    (h : wpQuiet P (o :: l).toArray (fun w' => ∃ p : Regrown, w' = Sort.grow (redrawn w p.d) p.os) (fun a' => ∀ w', (∃ p : Regrown, w' = Sort.grow (redrawn w p.d) p.os) → wpList P (o :: l).toArray (NoPanic Q) (l.drop (n - 1)) a' w') (l.take (n - 1)) (a.put o.dst v)) : (Code.region id (o :: l).toArray true).wp P Q a w :=
  region_quiet_tail1 (C := fun w' => ∃ p : Regrown, w' = Sort.grow (redrawn w p.d) p.os) n hm hB ⟨⟨w.drawn + 1, #[]⟩, by rw [Sort.grow_empty]; rfl⟩ hy h
end Go.Proofs.Ytalbcimnnihmnaa

/- Layer 20: code's Coefs. Conditions: a shape's 40 numbers. -/
namespace Go.Proofs.Ytalbcimnnihmnaa
open Go.RowKit
open M
theorem z4_at (i : Nat) (hi : i < 4) : z4.getD i 0 = 0 := by
  rcases (show i = 0 ∨ i = 1 ∨ i = 2 ∨ i = 3 by omega) with rfl | rfl | rfl | rfl <;> rfl
theorem cfa_getD (l : List Int) (k i : Nat) (hi : i < 4) : (cfa (pto l (8 + k * 4) 4) (l.getD k 0)).getD i 0 = co20 l (4 * k + i) := by
  have hp : (4 * k + i) / 4 = k := by omega
  unfold cfa
  by_cases hs : 0 ≤ l.getD k 0 ∧ l.getD k 0 ≤ 15
  · by_cases hf : fw19 (pto l (8 + k * 4) 4) = true
    · rw [if_pos ⟨hs, hf⟩, cf14_get, pto_getD _ _ _ _ hi, co20_is l k _ hp hs hf, show 8 + (4 * k + i) = 8 + k * 4 + i by omega]
    · rw [if_neg fun e => hf e.2, co20_far l k _ hp (by simpa using hf)]
      rw [z4_at i hi]
  · rw [if_neg fun e => hs e.1, co20_step l k _ hp hs]
    exact z4_at i hi
theorem pt16_ppu (f : List Int) (b : Nat) (c : List Int) (hf : f.length = 32) (hc : c.length = 4) (hb : b ≤ 7) : pt16 f b c = ppu f (b * 4) c := by
  unfold pt16
  rw [← ppu_cut f (b * 4) c (by omega), hc]
theorem cp20_put (l : List Int) (k : Nat) (hk : k < 8) : put16 (cp20 l (4 * k)) (k : Int) (cfa (pto l (8 + k * 4) 4) (l.getD k 0)) = cp20 l (4 * (k + 1)) := by
  have hc : (cfa (pto l (8 + k * 4) 4) (l.getD k 0)).length = 4 := cfa_len _ _ (pto_len _ _ _)
  unfold put16
  rw [if_pos (show isb (k : Int) = true from decide_eq_true (by omega)), Int.toNat_natCast, pt16_ppu _ _ _ (cp20_len _ _) hc (by omega)]
  refine tm_ext _ 32 _ (by rw [ppu_len, cp20_len]) fun p hp => ?_
  rw [ppu_getD _ _ _ _ (by rw [cp20_len]; exact hp), hc]
  by_cases h : k * 4 ≤ p ∧ p < k * 4 + 4
  · rw [if_pos h, if_pos (by omega), cfa_getD l k _ (by omega)]
    congr 1
    omega
  · rw [if_neg h]
    unfold cp20
    rw [tm_getD 32 _ p hp]
    by_cases h2 : p < 4 * k
    · rw [if_pos h2, if_pos (by omega)]
    · rw [if_neg h2, if_neg (by omega)]
theorem pls4 : (Try.prog.info? 29).map (·.size) = some 4 := by kernel_rfl
set_option maxRecDepth 100000 in
set_option maxHeartbeats 2000000 in
theorem coefs20_any (l : List Int) (w : World) (hl : l.length = 40) :
    Calls Try.prog 12 #[.agg (iCells l)] w fun e w' => e = .returned (.agg (iCells (cf20 l))) ∧ Below w.heap.size w w' := by
  have HL := Lib.hid hl
  have hz := fra_zero
  have HR1 : Hid (Row (((w.alloc (.cells (iCells l) 32)).alloc (.cells (iCells z20) 43)).alloc (.cells (iCells z20) 43)) w.heap.size 32 (iCells l)) := Lib.hid ((Row.alloc (heap_alloc_new _ _) _).alloc _)
  have HR2 : Hid (Row (((w.alloc (.cells (iCells l) 32)).alloc (.cells (iCells z20) 43)).alloc (.cells (iCells z20) 43)) (w.heap.size + 1) 43 (iCells z20)) := Lib.hid (Row.alloc (row_new _ _ (by simp) _ _) _)
  have HR3 : Hid (Row (((w.alloc (.cells (iCells l) 32)).alloc (.cells (iCells z20) 43)).alloc (.cells (iCells z20) 43)) (w.heap.size + 1 + 1) 43 (iCells z20)) := Lib.hid (row_new _ _ (by simp) _ _)
  have HB : Hid (Below w.heap.size w (((w.alloc (.cells (iCells l) 32)).alloc (.cells (iCells z20) 43)).alloc (.cells (iCells z20) 43))) := Lib.hid ((((Below.refl _ _).alloc (Nat.le_refl _) _).alloc (by simp) _).alloc (by simp; omega) _)
  clear hl
  go_enter Try.func12, Try.ntmps12
  go_wp2_with fail
  generalize ((w.alloc (.cells (iCells l) 32)).alloc (.cells (iCells z20) 43)).alloc (.cells (iCells z20) 43) = w1 at *
  obtain ⟨g, hg⟩ : ∃ g, w.heap.size = g := ⟨_, rfl⟩
  have HG := Lib.hid fun _ : Unit => hg
  rw [hg] at HR1 HR2 HR3
  rw [hg]
  clear hg hz
  go_loopw [5] (fun ii wr => ∃ (k : Nat), k ≤ 8 ∧ ii = .int .i64 (k : Int) ∧ Row wr g 32 (iCells l) ∧ Row wr (g + 1) 43 (iCells z20) ∧ Row wr (g + 1 + 1) 43 (iCells (cp20 l (4 * k))) ∧ Below w.heap.size w wr) (fun ii _ => 8 - (intOf ii).toNat)
  case atStart => exact ⟨0, by omega, rfl, HR1.out, HR2.out, by rw [Nat.mul_zero, cp20_zero]; exact HR3.out, HB.out⟩
  case round =>
    clear HR1 HR2 HR3 HB
    obtain ⟨k, hk, rfl, hr1, hr2, hr3, hb⟩ := hrel
    have HR1 := Lib.hid hr1
    have HR2 := Lib.hid hr2
    have HR3 := Lib.hid hr3
    have HB := Lib.hid hb
    rcases Nat.lt_or_ge k 8 with hlt | hge
    · have hkI : (k : Int) < 8 := by omega
      have HK := Lib.hid hlt
      have HC1 : Hid (∀ W : World, (∃ p : Regrown, W = Sort.grow (redrawn wr p.d) p.os) → Row W (g + 1 + 1) 43 (iCells (cp20 l (4 * k)))) := by
        rintro W ⟨p, rfl⟩
        exact HR3.out.below (below_regrown wr p.d p.os) HR3.out.lt
      have HC2 : Hid (∀ W : World, (∃ p : Regrown, W = Sort.grow (redrawn wr p.d) p.os) → Row W g 32 (iCells l)) := by
        rintro W ⟨p, rfl⟩
        exact HR1.out.below (below_regrown wr p.d p.os) HR1.out.lt
      have HL1 := Lib.hid (show 8 + k * 4 + 4 ≤ l.length by rw [HL.out]; omega)
      have HL2 := Lib.hid (show 0 + 32 ≤ (cp20 l (4 * k)).length by rw [cp20_len]; omega)
      have hpf := pto_all (cp20 l (4 * k)) 32 (cp20_len _ _)
      have c0 := cell_regrown (i_at hr1 k (by rw [HL.out]; omega))
      have K1 : Hid (∀ d os, Calls Try.prog 27 #[.agg (iCells (pto l (8 + k * 4) 4)), .int .i64 (l.getD k 0)] (Sort.grow (redrawn wr d) os) fun e w'' => e = .returned (.agg (iCells (cfa (pto l (8 + k * 4) 4) (l.getD k 0)))) ∧ ∃ p : Regrown, w'' = Sort.grow (redrawn wr p.d) p.os) :=
        Lib.hid fun d os => Calls.regrown_of (coefs_all _ _ _ (pto_len _ _ _))
      have K2 : Hid (∀ d os, Calls Try.prog 26 #[.agg (iCells (pto (cp20 l (4 * k)) 0 32)), .int .i64 (k : Int), .agg (iCells (cfa (pto l (8 + k * 4) 4) (l.getD k 0)))] (Sort.grow (redrawn wr d) os) fun e w'' => e = .returned (.agg (iCells (cp20 l (4 * (k + 1))))) ∧ ∃ p : Regrown, w'' = Sort.grow (redrawn wr p.d) p.os) :=
        Lib.hid fun d os => Calls.regrown_of (by
          have h := put16_any (cp20 l (4 * k)) (k : Int) (cfa (pto l (8 + k * 4) 4) (l.getD k 0)) (Sort.grow (redrawn wr d) os) (cp20_len _ _) (cfa_len _ _ (pto_len _ _ _))
          rw [cp20_put l k HK.out] at h
          rw [hpf]
          exact h)
      generalize cfa (pto l (8 + k * 4) 4) (l.getD k 0) = Y at *
      generalize l.getD k 0 = s at *
      clear hk hr1 hr2 hr3 hb hlt hpf
      go_wp2_with fail
      refine region_below_tail 12 (by kernel_rfl) (by kernel_rfl) ?_
      simp only [List.take_succ_cons, List.take_zero, List.drop_succ_cons, List.drop_zero]
      repeat (first
        | (go_big_quiet_want; refine q_load_pto 43 (.tmp 3) rfl (g + 1 + 1) 0 32 rfl 43 _ _ HC1.out HL2.out Try.underlying43 rfl (zero_of_info fra_info).2 ?_; go_big_quiet_on; simp only [Act.put, List.setIfInBounds_toArray, List.set_cons_zero, List.set_cons_succ])
        | (go_big_quiet_want; refine q_load_pto 29 (.tmp 12) rfl g (8 + k * 4) 4 rfl 32 l _ HC2.out HL1.out Try.underlying29 rfl pls4 ?_; go_big_quiet_on; simp only [Act.put, List.setIfInBounds_toArray, List.set_cons_zero, List.set_cons_succ])
        | go_big_quiet_step (fail))
      go_big_quiet_step ((go_at_call 27; exact K1.out _ _))
      repeat go_big_quiet_step (fail)
      go_big_quiet_step ((go_at_call 26; exact K2.out _ _))
      repeat go_big_quiet_step (fail)
      refine wpQuiet_nil ?_
      rintro w6 ⟨⟨dq, osq⟩, rfl⟩
      have hb := below_regrown wr dq osq
      have HR1 := Lib.hid (HR1.out.box hb)
      have HR2 := Lib.hid (HR2.out.box hb)
      have HR3 := Lib.hid (HR3.out.box hb)
      have HB := Lib.hid (HB.out.trans (hb.mono HB.out.size))
      clear hb K1 K2 HC1 HC2 c0
      generalize Sort.grow (redrawn wr dq) osq = w6 at *
      have HSK := Lib.hid (fra_size (cp20 l (4 * (k + 1))) (cp20_len _ _))
      have HSE := Lib.hid (fra_same (cp20 l (4 * k)) (cp20 l (4 * (k + 1))) (cp20_len _ _) (cp20_len _ _))
      go_wp2_with (refine wpList_store_row rfl 43 (.tmp 3) (.tmp 19) rfl (g + 1 + 1) (iCells (cp20 l (4 * (k + 1)))) rfl rfl 43 (iCells (cp20 l (4 * k))) HR3.out HSK.out HSE.out (iCells_one _) ?_)
      go_roundw
      case rel => exact ⟨k + 1, HK.out, by go_num, (setRow_other _ _ _ _ (by omega)).trans HR1.out, (setRow_other _ _ _ _ (by omega)).trans HR2.out, Row.setRow HR3.out _, below_setRow HB.out (by have := HG.out (); omega) _⟩
      case measure =>
        have := HK.out
        simp [intOf] <;> omega
    · obtain rfl : k = 8 := by omega
      have HSK := Lib.hid (fra_size (cp20 l 32) (cp20_len _ _))
      have HSE := Lib.hid (fra_same z20 (cp20 l 32) z20_len (cp20_len _ _))
      have HR3 := Lib.hid (show Row wr (g + 1 + 1) 43 (iCells (cp20 l 32)) from HR3.out)
      clear hk hge hr1 hr2 hr3 hb
      go_wp2_with (first
        | (refine wpList_load_row rfl 43 (.tmp 3) rfl (g + 1 + 1) rfl 43 (iCells (cp20 l 32)) (0, 0) _ HR3.out Try.underlying43 rfl HSK.out ?_)
        | (refine wpList_store_row rfl 43 (.tmp 2) (.tmp 21) rfl (g + 1) (iCells (cp20 l 32)) rfl rfl 43 (iCells z20) HR2.out HSK.out HSE.out (iCells_one _) ?_))
      refine bodyPost_ret (v := .agg (iCells (cp20 l 32))) (results_cell_row Try.results12 _ _ (g + 1) 43 (iCells (cp20 l 32)) (0, 0) _ rfl (Row.setRow HR2.out _) Try.underlying43 rfl HSK.out) rfl ⟨rfl, below_setRow HB.out (by have := HG.out (); omega) _⟩
end Go.Proofs.Ytalbcimnnihmnaa

/- pulse's queue: how its coefficients lie; fall, Len, Less, Swap. Conditions: gains up to 32768, coefficients up to 2^22. -/
namespace Go.Proofs.Ytalbcimnnihmnaa
open Go.RowKit
open M
/-- A coefficient of a queue, as it lies. -/
def cV (G : Int) (p : Nat × Int) : List Value := [.int .i64 (p.1 : Int), .int .i64 G, .int .i64 p.2]
def qV (G : Int) : List (Nat × Int) → List Value
  | [] => []
  | p :: l => cV G p ++ qV G l
theorem qV_len (G : Int) (l : List (Nat × Int)) : (qV G l).length = l.length * 3 := by
  induction l with
  | nil => rfl
  | cons p l ih => rw [qV, List.length_append, ih, List.length_cons]; show 3 + _ = _; omega
theorem qV_app (G : Int) (l m : List (Nat × Int)) : qV G (l ++ m) = qV G l ++ qV G m := by
  induction l with
  | nil => rfl
  | cons p l ih => rw [List.cons_append, qV, qV, ih, List.append_assoc]
theorem qV_one (G : Int) (l : List (Nat × Int)) : ∀ u ∈ qV G l, u.oneCell' = true := by
  induction l with
  | nil => intro u hu; simp [qV] at hu
  | cons p l ih =>
    intro u hu
    rw [qV, List.mem_append] at hu
    rcases hu with hu | hu
    · simp only [cV, List.mem_cons, List.not_mem_nil, or_false] at hu
      rcases hu with rfl | rfl | rfl <;> rfl
    · exact ih u hu
theorem qV_get (G : Int) (d : Nat × Int) : ∀ (l : List (Nat × Int)) (i : Nat), i < l.length → (qV G l)[i * 3]? = some (.int .i64 ((l.getD i d).1 : Int)) ∧ (qV G l)[i * 3 + 1]? = some (.int .i64 G) ∧ (qV G l)[i * 3 + 2]? = some (.int .i64 (l.getD i d).2)
  | [], i, h => by simp at h
  | p :: l, 0, _ => ⟨rfl, rfl, rfl⟩
  | p :: l, i + 1, h => by
    have ih := qV_get G d l i (by simpa using h)
    rw [qV]
    have e : ∀ k, (cV G p ++ qV G l)[(i + 1) * 3 + k]? = (qV G l)[i * 3 + k]? := fun k => by
      rw [List.getElem?_append_right (by show 3 ≤ _; omega)]
      congr 1
      show (i + 1) * 3 + k - 3 = _
      omega
    refine ⟨(e 0).trans ih.1, (e 1).trans ih.2.1, (e 2).trans ih.2.2⟩
theorem qV_set (G : Int) (p : Nat × Int) : ∀ (l : List (Nat × Int)) (i : Nat), (((qV G l).set (i * 3) (.int .i64 (p.1 : Int))).set (i * 3 + 1) (.int .i64 G)).set (i * 3 + 2) (.int .i64 p.2) = qV G (l.set i p)
  | [], i => by simp [qV]
  | q :: l, 0 => rfl
  | q :: l, i + 1 => by
    have ih := qV_set G p l i
    rw [List.set_cons_succ, qV, qV, ← ih]
    have e : ∀ (m : List Value) k v, (cV G q ++ m).set ((i + 1) * 3 + k) v = cV G q ++ m.set (i * 3 + k) v := fun m k v => by
      rw [List.set_append_right _ _ (by show 3 ≤ _; omega)]
      congr 2
      show (i + 1) * 3 + k - 3 = _
      omega
    have e0 := e (qV G l) 0
    simp only [Nat.add_zero] at e0
    rw [e0, e, e]
theorem lt14_ne (G : Int) (p q : Nat × Int) (h : ab p.2 - ab (p.2 - G) ≠ ab q.2 - ab (q.2 - G)) : lt14 G p q = decide (ab p.2 - ab (p.2 - G) > ab q.2 - ab (q.2 - G)) := by
  unfold lt14 ltE fk
  simp only
  congr 1
  simp only [eq_iff_iff]
  omega
theorem lt14_eq (G : Int) (p q : Nat × Int) (h : ab p.2 - ab (p.2 - G) = ab q.2 - ab (q.2 - G)) : lt14 G p q = decide (p.1 < q.1) := by
  unfold lt14 ltE fk
  simp only
  congr 1
  simp only [eq_iff_iff]
  omega
set_option maxRecDepth 100000 in
theorem fall_any (a : Nat) (G u : Int) (w : World) (h0 : 0 ≤ G) (h1 : G ≤ 32768) (h2 : -4194304 ≤ u) (h3 : u ≤ 4194304) :
    Calls Try.prog 85 #[.agg #[.int .i64 (a : Int), .int .i64 G, .int .i64 u]] w fun e w' => e = .returned (.int .i64 (ab u - ab (u - G))) ∧ Below w.heap.size w w' := by
  obtain ⟨d, hd⟩ : ∃ d, u - G = d := ⟨_, rfl⟩
  rw [hd]
  have S1 := fun w => psize_any u w (by omega) (by omega)
  have S2 := fun w => psize_any d w (by omega) (by omega)
  have b1 : 0 ≤ ab u ∧ ab u ≤ 4194304 := by unfold ab; omega
  have b2 : 0 ≤ ab d ∧ ab d ≤ 4294304 := by unfold ab; omega
  have e1 : IntKind.i64.wrap (u - G) = d := by rw [hd]; exact wi_id _ (by omega) (by omega)
  generalize ab u = x at *
  generalize ab d = y at *
  have e2 : IntKind.i64.wrap (x - y) = x - y := wi_id _ (by omega) (by omega)
  have HB : Hid (Below w.heap.size w (w.alloc (.cells #[.int .i64 (a : Int), .int .i64 G, .int .i64 u] 83))) := Lib.hid ((Below.refl _ _).alloc (Nat.le_refl _) _)
  have hr : Row (w.alloc (.cells #[.int .i64 (a : Int), .int .i64 G, .int .i64 u] 83)) w.heap.size 83 #[.int .i64 (a : Int), .int .i64 G, .int .i64 u] := heap_alloc_new _ _
  have c1 := cell_of_row _ _ 1 _ _ _ hr
  have c2 := cell_of_row _ _ 2 _ _ _ hr
  clear hd b1 b2 h0 h1 h2 h3 hr
  go_enter Try.func85, Try.ntmps85
  go_wp2_with fail
  generalize w.alloc (.cells #[.int .i64 (a : Int), .int .i64 G, .int .i64 u] 83) = w1 at *
  refine wp_region_still_tail 10 (by kernel_rfl) (by kernel_rfl) ?_
  simp only [List.take_succ_cons, List.take_zero, List.drop_succ_cons, List.drop_zero]
  repeat still_step
  still_call (S1 _)
  repeat still_step
  still_call (S2 _)
  repeat still_step
  refine wpStill_nil ?_
  change wpList _ _ _ _ _ w1.drew
  have HB := Lib.hid (below_drew1 HB.out)
  clear S1 S2 c1 c2 e1
  go_wp2_with fail
  go_ret
  exact ⟨rfl, HB.out⟩
theorem qlen_any (a : Option Addr) (n cap : Nat) (w : World) :
    Calls Try.prog 80 #[.slice a n cap] w fun e w' => e = .returned (.int .i64 (n : Int)) ∧ w' = w := by
  go_enter Try.func80, Try.ntmps80
  go_wp2
  go_ret
  exact ⟨rfl, rfl⟩
/-- The three cells of a coefficient. -/
def C3 (w : World) (g : Nat) (i : Nat) (a : Nat) (G u : Int) : Prop := w.cell? ⟨g, i * 3, none⟩ = some (.int .i64 (a : Int)) ∧ w.cell? ⟨g, i * 3 + 1, none⟩ = some (.int .i64 G) ∧ w.cell? ⟨g, i * 3 + 2, none⟩ = some (.int .i64 u)
theorem own_c3 {w : World} {B g cap n : Nat} {e : TypeId} {G : Int} {l : List (Nat × Int)} (h : w.ownsRow B e 3 (.slice (some ⟨g, 0, none⟩) n cap) n (qV G l)) (d : Nat × Int) (i : Nat) (hi : i < l.length) : C3 w g i (l.getD i d).1 G (l.getD i d).2 := by
  have hl : n = l.length := by
    have := h.1
    rw [qV_len] at this
    omega
  have k := fun j hj => h.cellAt j hj
  obtain ⟨h0, h1, h2⟩ := qV_get G d l i hi
  exact ⟨(k _ (by omega)).trans h0, (k _ (by omega)).trans h1, (k _ (by omega)).trans h2⟩
set_option maxRecDepth 100000 in
set_option maxHeartbeats 1000000 in
theorem less_any (B g cap n : Nat) (G : Int) (l : List (Nat × Int)) (d : Nat × Int) (i j : Nat) (w : World) (h0 : 0 ≤ G) (h1 : G ≤ 32768) (hl : ∀ p ∈ l, -4194304 ≤ p.2 ∧ p.2 ≤ 4194304) (hi : i < l.length) (hj : j < l.length)
    (ho : w.ownsRow B 83 3 (.slice (some ⟨g, 0, none⟩) n cap) n (qV G l)) :
    Calls Try.prog 81 #[.slice (some ⟨g, 0, none⟩) n cap, .int .i64 (i : Int), .int .i64 (j : Int)] w fun e w' => e = .returned (.bool (lt14 G (l.getD i d) (l.getD j d))) ∧ Below w.heap.size w w' := by
  have hln : n = l.length := by
    have := ho.1
    rw [qV_len] at this
    omega
  have hbi := hl _ (getD_mem13 l d i hi)
  have hbj := hl _ (getD_mem13 l d j hj)
  have HK : Hid (∀ u : World, Below w.heap.size w u → C3 u g i (l.getD i d).1 G (l.getD i d).2 ∧ C3 u g j (l.getD j d).1 G (l.getD j d).2) :=
    Lib.hid fun u hu => ⟨own_c3 (own13_stay ho hu) d i hi, own_c3 (own13_stay ho hu) d j hj⟩
  have hLE := lt14_eq G (l.getD i d) (l.getD j d)
  have hLN := lt14_ne G (l.getD i d) (l.getD j d)
  obtain ⟨⟨ai, ui⟩, hpi⟩ : ∃ p, l.getD i d = p := ⟨_, rfl⟩
  obtain ⟨⟨aj, uj⟩, hpj⟩ : ∃ p, l.getD j d = p := ⟨_, rfl⟩
  rw [hpi] at hbi
  rw [hpj] at hbj
  rw [hpi, hpj] at HK hLE hLN ⊢
  simp only at hbi hbj HK hLE hLN
  have F1 := fun w => fall_any ai G ui w h0 h1 hbi.1 hbi.2
  have F2 := fun w => fall_any aj G uj w h0 h1 hbj.1 hbj.2
  generalize ab ui - ab (ui - G) = x at *
  generalize ab uj - ab (uj - G) = y at *
  generalize lt14 G (ai, ui) (aj, uj) = z at *
  have hiI : (i : Int) < (n : Int) := by omega
  have hjI : (j : Int) < (n : Int) := by omega
  have hin : i < n := by omega
  have hjn : j < n := by omega
  have k0 := HK.out w (Below.refl _ _)
  clear hbi hbj hl hi hj hpi hpj h0 h1 hln ho
  obtain ⟨⟨a0, a1, a2⟩, b0, b1, b2⟩ := k0
  have q0 := cell_regrown a0
  have q1 := cell_regrown a1
  have q2 := cell_regrown a2
  have r0 := cell_regrown b0
  have r1 := cell_regrown b1
  have r2 := cell_regrown b2
  have K1 : Hid (∀ d os, Calls Try.prog 85 #[.agg #[.int .i64 (ai : Int), .int .i64 G, .int .i64 ui]] (Sort.grow (redrawn w d) os) fun e w'' => e = .returned (.int .i64 x) ∧ ∃ p : Regrown, w'' = Sort.grow (redrawn w p.d) p.os) :=
    Lib.hid fun d os => Calls.regrown_of (F1 _)
  have K2 : Hid (∀ d os, Calls Try.prog 85 #[.agg #[.int .i64 (aj : Int), .int .i64 G, .int .i64 uj]] (Sort.grow (redrawn w d) os) fun e w'' => e = .returned (.int .i64 y) ∧ ∃ p : Regrown, w'' = Sort.grow (redrawn w p.d) p.os) :=
    Lib.hid fun d os => Calls.regrown_of (F2 _)
  have HLE := Lib.hid hLE
  have HLN := Lib.hid hLN
  clear F1 F2 a0 a1 a2 b0 b1 b2 hLE hLN
  go_enter Try.func81, Try.ntmps81
  go_wp2_with fail
  refine wp_region_quiet_below (by kernel_rfl) (by kernel_rfl) ?_
  quiet_step (fail)
  quiet_step (fail)
  quiet_step (fail)
  quiet_step (fail)
  quiet_step ((go_at_call 85; exact K1.out _ _))
  repeat quiet_step (fail)
  quiet_step ((go_at_call 85; exact K2.out _ _))
  repeat quiet_step (fail)
  refine wpQuiet_nil ?_
  intro _ hw'
  obtain ⟨⟨dq, osq⟩, hw''⟩ := hw'
  subst hw''
  have HBX := Lib.hid (below_regrown w dq osq)
  have d0 := q0 dq osq
  have d1 := r0 dq osq
  clear K1 K2 q0 q1 q2 r0 r1 r2
  generalize Sort.grow (redrawn w dq) osq = w6 at *
  by_cases hxy : x = y
  · have HZ := Lib.hid (HLE.out hxy)
    have hd : decide (x = y) = true := decide_eq_true hxy
    have hdn : (x == y) = true := beq_iff_eq.2 hxy
    clear hxy
    go_wp2_with fail
    go_quiet (fail)
    go_wp2_with fail
    go_ret
    exact ⟨by rw [HZ.out]; rfl, Below.drewN HBX.out _⟩
  · have HZ := Lib.hid (HLN.out hxy)
    have hd : decide (x = y) = false := decide_eq_false hxy
    have hdn : (x == y) = false := beq_eq_false_iff_ne.2 hxy
    go_wp2_with fail
    go_ret
    exact ⟨by rw [HZ.out]; rfl, HBX.out⟩
theorem own_drew14 {w : World} {B n size : Nat} {e : TypeId} {v : Value} {xs : List Value} (h : w.ownsRow B e size v n xs) : w.drew.ownsRow B e size v n xs := h
/-- Two coefficients change places. -/
theorem swap_any (B g cap n : Nat) (G : Int) (l : List (Nat × Int)) (d : Nat × Int) (i j : Nat) (w : World) (hi : i < l.length) (hj : j < l.length)
    (ho : w.ownsRow B 83 3 (.slice (some ⟨g, 0, none⟩) n cap) n (qV G l)) :
    Calls Try.prog 84 #[.slice (some ⟨g, 0, none⟩) n cap, .int .i64 (i : Int), .int .i64 (j : Int)] w fun e w' => e = .returned (.tuple #[]) ∧ w'.ownsRow B 83 3 (.slice (some ⟨g, 0, none⟩) n cap) n (qV G (swq d l i j)) ∧ Only g w w' := by
  have hln : n = l.length := by
    have := ho.1
    rw [qV_len] at this
    omega
  have fz := ho.frozenAt
  have HO := Lib.hid ho
  obtain ⟨a0, a1, a2⟩ := own_c3 ho d i hi
  obtain ⟨b0, b1, b2⟩ := own_c3 ho d j hj
  obtain ⟨⟨ai, ui⟩, hpi⟩ : ∃ p, l.getD i d = p := ⟨_, rfl⟩
  obtain ⟨⟨aj, uj⟩, hpj⟩ : ∃ p, l.getD j d = p := ⟨_, rfl⟩
  rw [hpi] at a0 a2
  rw [hpj] at b0 b2
  have HS : Hid (swq d l i j = (l.set i (aj, uj)).set j (ai, ui)) := Lib.hid (by unfold swq; rw [hpi, hpj])
  have HSX := Lib.hid (qV_set G)
  have hiI : (i : Int) < (n : Int) := by omega
  have hjI : (j : Int) < (n : Int) := by omega
  have hin : i < n := by omega
  have hjn : j < n := by omega
  have g0 := fz (i * 3)
  have g1 := fz (i * 3 + 1)
  have g2 := fz (i * 3 + 2)
  have k0 := fz (j * 3)
  have k1 := fz (j * 3 + 1)
  have k2 := fz (j * 3 + 2)
  have HOR : Hid (Only g w w.drew) := Lib.hid (Only.refl g w).drew
  have a0 : w.drew.cell? ⟨g, i * 3, none⟩ = some (.int .i64 (ai : Int)) := a0
  have a1 : w.drew.cell? ⟨g, i * 3 + 1, none⟩ = some (.int .i64 G) := a1
  have a2 : w.drew.cell? ⟨g, i * 3 + 2, none⟩ = some (.int .i64 ui) := a2
  have b0 : w.drew.cell? ⟨g, j * 3, none⟩ = some (.int .i64 (aj : Int)) := b0
  have b1 : w.drew.cell? ⟨g, j * 3 + 1, none⟩ = some (.int .i64 G) := b1
  have b2 : w.drew.cell? ⟨g, j * 3 + 2, none⟩ = some (.int .i64 uj) := b2
  clear hpi hpj ho hln fz hi hj
  by_cases hij : i = j
  · subst hij
    have HS : Hid (swq d l i i = l.set i (ai, ui)) := Lib.hid (by rw [HS.out, List.set_set])
    have e1 : aj = ai := by have h1 := a0; rw [b0] at h1; simp only [Option.some.injEq, Value.int.injEq, true_and] at h1; omega
    have e2 : uj = ui := by have h1 := a2; rw [b2] at h1; simpa using h1
    subst e1 e2
    clear b0 b1 b2 k0 k1 k2 hjI hjn
    go_enter Try.func84, Try.ntmps84
    go_region
    go_end0
    refine ⟨rfl, ?_, (((((((Only.refl g w).setCell _ _ _).setCell _ _ _).setCell _ _ _).setCell _ _ _).setCell _ _ _).setCell _ _ _).drew⟩
    have h6 := ((((((HO.out.stored (i * 3) (.int .i64 (aj : Int))).1.stored (i * 3 + 1) (.int .i64 G)).1.stored (i * 3 + 2) (.int .i64 uj)).1.stored (i * 3) (.int .i64 (aj : Int))).1.stored (i * 3 + 1) (.int .i64 G)).1.stored (i * 3 + 2) (.int .i64 uj)).1
    rw [HSX.out (aj, uj), HSX.out (aj, uj), List.set_set] at h6
    rw [HS.out]
    exact own_drew14 h6
  · have hij3 : i * 3 ≠ j * 3 := by omega
    go_enter Try.func84, Try.ntmps84
    go_region
    go_end0
    refine ⟨rfl, ?_, (((((((Only.refl g w).setCell _ _ _).setCell _ _ _).setCell _ _ _).setCell _ _ _).setCell _ _ _).setCell _ _ _).drew⟩
    have h6 := ((((((HO.out.stored (i * 3) (.int .i64 (aj : Int))).1.stored (i * 3 + 1) (.int .i64 G)).1.stored (i * 3 + 2) (.int .i64 uj)).1.stored (j * 3) (.int .i64 (ai : Int))).1.stored (j * 3 + 1) (.int .i64 G)).1.stored (j * 3 + 2) (.int .i64 ui)).1
    rw [HSX.out (aj, uj), HSX.out (ai, ui)] at h6
    rw [HS.out]
    exact own_drew14 h6
end Go.Proofs.Ytalbcimnnihmnaa
