/-
  Contracts and plain facts that the laws share; each piece is headed by what it holds and its conditions.
-/
import Derived.Test.YtoohahjmiljpgaaQS5
import Derived.Test.YtoohahjmiljpgaaQWkb
import Derived.Test.YtoohahjmiljpgaaQWkc
import Derived.Test.YtoohahjmiljpgaaQS19
import Derived.Test.YtoohahjmiljpgaaQS14
import Derived.Test.YtoohahjmiljpgaaQS10
import Derived.Test.YtoohahjmiljpgaaQS17
import Derived.Deep.WholeRow
import Derived.StillTail
import Derived.Lib.QuietBelow
import Derived.BigQuiet
import Derived.Deep.RegionHeld3

/- Two results, one or both of them whole arrays. No program is named here. No conditions. -/
namespace Go.Proofs.Ytoohahjmiljpgaa
open Go.RowKit
open M
theorem results_row_tmp {P : Program} {fn : Func} {p u : Tmp} {ty : TypeId} (h : fn.results = #[.cell p ty, .tmp u]) (tmps : Array Value) (w : World) (g : Nat) (t : TypeId) (cs : Array Value) (fr : Nat × Nat) (d : TypeDesc)
    (hp : tmps.getD p undef = .pointer (some ⟨g, 0, none⟩)) (hg : w.heap[g]? = some (.cells cs t fr))
    (hu : P.underlying ty = some d) (hd : (match d with | .struct _ | .array _ _ => true | _ => false) = true) (hi : (P.info? ty).map (·.size) = some cs.size) :
    (results fn tmps).run P w = .ok (.tuple #[.agg cs, tmps.getD u undef]) w := by
  rw [results_cell_tmp h, hp]
  simp [asAddr, run_loadVar_row w g t ty cs fr d hg hu hd hi]
theorem results_row_row {P : Program} {fn : Func} {p q : Tmp} {ty : TypeId} (h : fn.results = #[.cell p ty, .cell q ty]) (tmps : Array Value) (w : World) (g g2 : Nat) (t t2 : TypeId) (cs cs2 : Array Value) (fr fr2 : Nat × Nat) (d : TypeDesc)
    (hp : tmps.getD p undef = .pointer (some ⟨g, 0, none⟩)) (hg : w.heap[g]? = some (.cells cs t fr)) (hq : tmps.getD q undef = .pointer (some ⟨g2, 0, none⟩)) (hg2 : w.heap[g2]? = some (.cells cs2 t2 fr2))
    (hu : P.underlying ty = some d) (hd : (match d with | .struct _ | .array _ _ => true | _ => false) = true) (hi : (P.info? ty).map (·.size) = some cs.size) (hi2 : (P.info? ty).map (·.size) = some cs2.size) :
    (results fn tmps).run P w = .ok (.tuple #[.agg cs, .agg cs2]) w := by
  have hp' : tmps[p]?.getD undef = .pointer (some ⟨g, 0, none⟩) := by simpa using hp
  have hq' : tmps[q]?.getD undef = .pointer (some ⟨g2, 0, none⟩) := by simpa using hq
  simp [results, h, hp', hq', asAddr, Sem.run_bind, run_loadVar_row w g t ty cs fr d hg hu hd hi, run_loadVar_row w g2 t2 ty cs2 fr2 d hg2 hu hd hi2]
end Go.Proofs.Ytoohahjmiljpgaa

/- A region that draws its order: a head that only reads (its callees may lay blocks), then a tail that has one order. One walk serves every order. No program is named here. Conditions: the head's operations are quiet in a class of worlds; all of the head is ahead of the tail. -/
namespace Go.Proofs.Ytoohahjmiljpgaa
open Go Go.RowKit
section
variable {P : Program} {ops : Array Oper} {md : Region.Mode} {C : World → Prop}
/-- Whatever order the head is taken in, L holds behind it. -/
def headQ (P : Program) (md : Region.Mode) (ops : Array Oper) (C : World → Prop) (n : Nat) (L : Array Bool → Act → Prop) : Nat → Array Bool → Act → Prop
  | 0, listed, a => L listed a
  | f + 1, listed, a => Region.ready md ops listed ≠ [] ∧ ∀ i ∈ Region.ready md ops listed, i < n ∧ qOp P ops C i (headQ P md ops C n L f (listed.setIfInBounds i true)) a
theorem headQ_any {n g : Nat} {L : Array Bool → Act → Prop} {Q : Exit → Act → World → Prop} (hL : ∀ listed a w, C w → L listed a → wpAny P md ops Q g listed a w) :
    ∀ (f : Nat) (listed : Array Bool) (a : Act) (w : World), C w → headQ P md ops C n L f listed a → wpAny P md ops Q (f + g) listed a w
  | 0, listed, a, w, hC, h => by
    rw [Nat.zero_add]
    exact hL _ _ _ hC h
  | f + 1, listed, a, w, hC, h => by
    rw [show f + 1 + g = (f + g) + 1 by omega]
    exact ⟨fun h0 => absurd h0 h.1, fun i hi => wpOp_of_qOp hC (fun a' w' hw' h' => headQ_any hL f _ a' w' hw' h') (h.2 i hi).2⟩
theorem headQ_first {n i : Nat} {oi : Oper} {v : Value} {L : Array Bool → Act → Prop} (hi : ops[i]? = some oi) (hsel : ∀ (j : Nat) (o : Oper) cs b, ops[j]? = some o → o.op ≠ .select cs b)
    (hin : i < n) (hw : ∀ listed, HeadInv md ops n listed → listed.getD i true = false → ∀ t, n ≤ t → t ∉ Region.ready md ops listed) (hL : ∀ listed a, L listed a → ∀ j ∈ Region.ready md ops listed, n ≤ j) (f : Nat) :
    ∀ (listed : Array Bool) (a : Act), HeadInv md ops n listed →
      (∀ j oj, ops[j]? = some oj → j ≠ i → listed.getD j true = false → (∀ e ∈ oj.after, Region.binds md e = true → e.on ≠ i) → oi.apart ops oj = true) →
      i ∈ Region.ready md ops listed → YieldsIn P ops C oi v a →
      headQ P md ops C n L f (listed.setIfInBounds i true) (a.put oi.dst v) → headQ P md ops C n L (f + 1) listed a := by
  induction f with
  | zero =>
    intro listed a inv _ hr hy H
    refine ⟨fun h => (by rw [h] at hr; cases hr), fun j hj => ?_⟩
    have hjn : j < n := Nat.lt_of_not_le fun h => hw listed inv (mem_ready.1 hr).1 j h hj
    refine ⟨hjn, ?_⟩
    by_cases hji : j = i
    · subst hji
      exact hy.qOp hi H
    · exact absurd (hL _ _ H j (ready_mono hj hji)) (by omega)
  | succ f ih =>
    intro listed a inv hfree hr hy H
    refine ⟨fun h => (by rw [h] at hr; cases hr), fun j hj => ?_⟩
    have hjn : j < n := Nat.lt_of_not_le fun h => hw listed inv (mem_ready.1 hr).1 j h hj
    refine ⟨hjn, ?_⟩
    by_cases hji : j = i
    · subst hji
      exact hy.qOp hi H
    · have h1 := (H.2 j (ready_mono hj hji)).2
      obtain ⟨hjun, oj, hoj, hall⟩ := mem_ready.1 hj
      have hnot : ∀ e ∈ oj.after, Region.binds md e = true → e.on ≠ i := fun e he hb heq => by
        have h3 := hall e he hb
        rw [heq, getD_both (mem_ready.1 hr).1] at h3
        cases h3
      have h2 := qOp_put hoj (hfree j oj hoj hji hjun hnot) (fun cs b => hsel i oi cs b hi) (fun cs b => hsel j oj cs b hoj) hy h1
      refine qOp_mono (fun a' h3 => ih (listed.setIfInBounds j true) a' (inv.set hj hjn) (fun k ok hk hki hun hno => hfree k ok hk hki ?_ hno) (ready_mono hr (Ne.symm hji)) h3.1 ?_) h2
      · by_cases hjk : j = k
        · subst hjk
          exact hjun
        · rw [getD_set_ne true hjk] at hun
          exact hun
      · rw [Array.setIfInBounds_comm _ _ hji]
        exact h3.2
theorem headQ_lex {n g m : Nat} {L : Act → Prop} (hsel : Region.noSelect ops = true) (hw : ∀ i, m ≤ i → i < n → ∀ listed, HeadInv md ops n listed → listed.getD i true = false → ∀ t, n ≤ t → t ∉ Region.ready md ops listed) :
    ∀ (l : List Oper) (k : Nat) (listed : Array Bool) (a : Act), m ≤ k → (∀ j, j < l.length → l[j]? = ops[k + j]?) → k + l.length = n → HeadInv md ops n listed →
    Region.lexHead md ops g l.length k listed = true → wpQuiet P ops C L l a →
    headQ P md ops C n (fun listed' a' => Region.seqB md ops g n listed' = true ∧ L a') l.length listed a
  | [], k, listed, a, _, _, hk, _, hB, h => by
    obtain rfl : k = n := by simpa using hk
    exact ⟨by simpa [Region.lexHead] using hB, h⟩
  | o :: l, k, listed, a, hmk, hl, hk, inv, hB, h => by
    have h0 : ops[k]? = some o := by simpa using (hl 0 (by simp)).symm
    simp only [List.length_cons, Region.lexHead, Bool.and_eq_true] at hB
    have hkn : k < n := by simp only [List.length_cons] at hk; omega
    have hr : k ∈ Region.ready md ops listed := by simpa using hB.1.1
    have hst : qOp P ops C k (wpQuiet P ops C L l) a := by unfold qOp; simp only [h0]; exact h
    obtain ⟨v, hy, hK⟩ := yieldsIn_of_qOp h0 hst
    exact headQ_first h0 (Region.noSelect_spec hsel) hkn (hw k hmk hkn) (fun listed' a' hL => seqB_ready hL.1) l.length listed a inv (Region.free_spec h0 hB.1.2) hr hy
      (headQ_lex hsel hw l (k + 1) _ _ (by omega) (fun j hj => by have := hl (j + 1) (by simp; omega); simpa [Nat.add_assoc, Nat.add_comm 1 j] using this) (by simp only [List.length_cons] at hk; omega) (inv.set hr hkn) hB.2 hK)
end
/-- The head is quiet in a class of worlds; the tail is walked in each of them. -/
theorem region_quiet_tail {P : Program} {C : World → Prop} {id : Nat} {Q : Exit → Act → World → Prop} {a : Act} {w : World} {l : List Oper} (n : Nat) (hm : P.follows .mixedOrders = true) (hB : Region.lexTailB .any l.toArray n = true) (hC : C { w with drawn := w.drawn + 1 })
    (h : wpQuiet P l.toArray C (fun a' => ∀ w', C w' → wpList P l.toArray Q (l.drop n) a' w') (l.take n) a) : (Code.region id l.toArray true).wp P Q a w := by
  simp only [Region.lexTailB, Bool.and_eq_true, decide_eq_true_eq] at hB
  obtain ⟨⟨⟨⟨hsel, hn⟩, hs⟩, hc⟩, hlex⟩ := hB
  have hn' : n < l.length := by simpa using hn
  have htl : (l.take n).length = n := by simp; omega
  have hdl : (l.drop n).length = l.toArray.size - n := by simp
  have inv : HeadInv .any l.toArray n (Array.replicate l.toArray.size false) :=
    ⟨by simp, fun j oj _ hl => (by rw [getD_replicate_false] at hl; cases hl), fun t _ ht => getD_in (by simpa using ht) (getD_replicate_false _ _)⟩
  have H := headQ_lex (md := .any) (g := l.toArray.size - n) (m := 0) hsel (fun i _ hin listed inv hun => tail_waits hs hc hn inv _ i rfl hin hun) (l.take n) 0 _ a (Nat.le_refl _) (fun j hj => by
    have hj' : j < n := by rw [htl] at hj; exact hj
    simp [hj']) (by simpa using htl) inv (by rw [htl]; exact hlex) h
  refine wp_region_any hm ?_
  have K := headQ_any (Q := Q) (g := l.toArray.size - n) (fun listed a' w' hw' hL => by
    have := wpAny_of_seq (md := .any) (Q' := Q) (l.drop n) n listed a' w' (fun j => by simp [List.getElem?_drop]) (by rw [hdl]; exact hL.1) (hL.2 w' hw')
    rwa [hdl] at this) _ _ _ _ hC H
  rw [htl, show n + (l.toArray.size - n) = l.toArray.size by omega] at K
  exact K
/-- .. at the worlds that only laid blocks and drew. -/
theorem region_below_tail {P : Program} {id : Nat} {Q : Exit → Act → World → Prop} {a : Act} {w : World} {l : List Oper} (n : Nat) (hm : P.follows .mixedOrders = true) (hB : Region.lexTailB .any l.toArray n = true)
    (h : wpQuiet P l.toArray (fun w' => ∃ p : Regrown, w' = Sort.grow (redrawn w p.d) p.os) (fun a' => ∀ w', (∃ p : Regrown, w' = Sort.grow (redrawn w p.d) p.os) → wpList P l.toArray Q (l.drop n) a' w') (l.take n) a) : (Code.region id l.toArray true).wp P Q a w :=
  region_quiet_tail (C := fun w' => ∃ p : Regrown, w' = Sort.grow (redrawn w p.d) p.os) n hm hB ⟨⟨w.drawn + 1, #[]⟩, by rw [Sort.grow_empty]; rfl⟩ h
/-! ### A head whose first operation only hands a value on: it may come up behind the tail, too -/
section
variable {P : Program} {ops : Array Oper} {md : Region.Mode}
/-- But for the first m, each of the head is waited for by a later one, up to the tail's first. -/
def sinkM (md : Region.Mode) (ops : Array Oper) (m n : Nat) : Bool :=
  (List.range n).all fun i => decide (i < m) || (List.range (n + 1)).any fun j => decide (i < j) && Region.waitsFor md ops j i
theorem sinkM_spec {m n i : Nat} (h : sinkM md ops m n = true) (hm : m ≤ i) (hn : i < n) : ∃ j, i < j ∧ j ≤ n ∧ ∃ oj, ops[j]? = some oj ∧ ∃ e ∈ oj.after, Region.binds md e = true ∧ e.on = i := by
  have h1 := List.all_eq_true.1 h i (List.mem_range.2 hn)
  rw [decide_eq_false (by omega), Bool.false_or] at h1
  obtain ⟨j, hj, h2⟩ := List.any_eq_true.1 h1
  rw [Bool.and_eq_true, decide_eq_true_eq] at h2
  exact ⟨j, h2.1, by have := List.mem_range.1 hj; omega, Region.waitsFor_spec h2.2⟩
theorem chainB_spec {n t : Nat} (h : Region.chainB md ops n = true) (ht : t < ops.size) (hn : n < t) : ∃ o, ops[t]? = some o ∧ ∃ e ∈ o.after, Region.binds md e = true ∧ e.on = t - 1 := by
  have h1 := List.all_eq_true.1 h t (List.mem_range.2 ht)
  rw [Bool.or_eq_true, decide_eq_true_eq] at h1
  exact Region.waitsFor_spec (h1.resolve_left (by omega))
/-- While one of the head that is waited for is open, nothing of the tail comes up. -/
theorem tail_late {m n : Nat} {listed : Array Bool} (hs : sinkM md ops m n = true) (hc : Region.chainB md ops n = true) (inv : HeadInv md ops n listed) (d : Nat) :
    ∀ i, n - i = d → m ≤ i → i < n → listed.getD i true = false → ∀ t, n ≤ t → t ∉ Region.ready md ops listed := by
  induction d using Nat.strongRecOn with
  | _ d ih =>
    intro i hd hm hi hun t ht hr
    obtain ⟨_, ot, hot, hall⟩ := mem_ready.1 hr
    have htl : t < ops.size := (Array.getElem?_eq_some_iff.1 hot).1
    rcases Nat.eq_or_lt_of_le ht with rfl | hlt
    · obtain ⟨j, hij, hjn, oj, hoj, e, he, hb, hon⟩ := sinkM_spec hs hm hi
      rcases Nat.eq_or_lt_of_le hjn with rfl | hjlt
      · obtain rfl : oj = ot := Option.some.inj (hoj.symm.trans hot)
        have h2 := hall e he hb
        rw [hon, getD_both hun] at h2
        cases h2
      · cases hl : listed.getD j false with
        | true =>
          have h2 := inv.closed j oj hoj hl e he hb
          rw [hon, getD_both hun] at h2
          cases h2
        | false =>
          have hjs : j < listed.size := by rw [inv.size]; omega
          exact ih (n - j) (by omega) j rfl (by omega) hjlt (getD_in hjs hl) n (Nat.le_refl _) hr
    · obtain ⟨o2, ho2, e, he, hb, hon⟩ := chainB_spec hc htl hlt
      obtain rfl : o2 = ot := Option.some.inj (ho2.symm.trans hot)
      have h2 := hall e he hb
      rw [hon, getD_both (inv.tail (t - 1) (by omega) (by omega))] at h2
      cases h2
/-- What is asked of the region, by reckoning: the first operation waits for none and may be taken first; then as for the other tails. -/
def lexTail1 (md : Region.Mode) (ops : Array Oper) (n : Nat) : Bool :=
  Region.noSelect ops && decide (0 < n) && decide (n < ops.size) && sinkM md ops 1 n && Region.chainB md ops n && Region.free md ops (Array.replicate ops.size false) 0 && (Region.ready md ops (Array.replicate ops.size false)).contains 0
    && (match ops[0]? with | some o => o.after.isEmpty | none => false) && Region.lexHead md ops (ops.size - n) (n - 1) 1 ((Array.replicate ops.size false).setIfInBounds 0 true)
end
/-- The first operation is taken first; the head behind it is quiet; the tail has one order. The region is shown not to panic. -/
theorem region_quiet_tail1 {P : Program} {C : World → Prop} {id : Nat} {Q : Exit → Act → World → Prop} {a : Act} {w : World} {o : Oper} {l : List Oper} {v : Value} (n : Nat) (hm : P.follows .mixedOrders = true) (hB : lexTail1 .any (o :: l).toArray n = true) (hC : C { w with drawn := w.drawn + 1 })
    (hy : Yields P (o :: l).toArray o v a)
    (h : wpQuiet P (o :: l).toArray C (fun a' => ∀ w', C w' → wpList P (o :: l).toArray (NoPanic Q) (l.drop (n - 1)) a' w') (l.take (n - 1)) (a.put o.dst v)) : (Code.region id (o :: l).toArray true).wp P Q a w := by
  refine wp_region_noPanic ?_
  simp only [lexTail1, Bool.and_eq_true, decide_eq_true_eq] at hB
  obtain ⟨⟨⟨⟨⟨⟨⟨⟨hsel, hn0⟩, hn⟩, hs⟩, hc⟩, hfree⟩, hready⟩, hafter⟩, hlex⟩ := hB
  obtain ⟨m, rfl⟩ : ∃ m, n = m + 1 := ⟨n - 1, by omega⟩
  rw [Nat.add_sub_cancel] at h hlex
  have hsz : (o :: l).toArray.size = l.length + 1 := by simp
  have htl : (l.take m).length = m := by rw [List.length_take]; omega
  have hdl : (l.drop m).length = (o :: l).toArray.size - (m + 1) := by rw [List.length_drop]; omega
  have h0 : (o :: l).toArray[0]? = some o := by simp
  have haf : o.after = #[] := by
    rw [h0] at hafter
    simpa using hafter
  have inv : HeadInv .any (o :: l).toArray (m + 1) ((Array.replicate (o :: l).toArray.size false).setIfInBounds 0 true) := by
    refine ⟨by simp, fun j oj hoj hl => ?_, fun t ht hts => ?_⟩
    · by_cases hj : 0 = j
      · subst hj
        obtain rfl : o = oj := Option.some.inj (h0.symm.trans hoj)
        intro e he
        rw [haf] at he
        simp at he
      · rw [getD_set_ne false hj, getD_replicate_false] at hl
        cases hl
    · rw [getD_set_ne true (by omega)]
      exact getD_in (by simpa using hts) (getD_replicate_false _ _)
  have H := headQ_lex (C := C) (md := .any) (g := (o :: l).toArray.size - (m + 1)) (m := 1) hsel (fun i h1 hin listed inv hun => tail_late hs hc inv _ i rfl h1 hin hun) (l.take m) 1 _ (a.put o.dst v) (Nat.le_refl _) (fun j hj => by
    have hj' : j < m := by rw [htl] at hj; exact hj
    rw [Nat.add_comm 1 j]
    simp [hj']) (by rw [htl]; omega) inv (by rw [htl]; exact hlex) h
  refine wp_region_any hm ?_
  have K := headQ_any (Q := NoPanic Q) (g := (o :: l).toArray.size - (m + 1)) (fun listed a' w' hw' hL => by
    have := wpAny_of_seq (md := .any) (Q' := NoPanic Q) (l.drop m) (m + 1) listed a' w' (fun j => by
      rw [show m + 1 + j = (m + j) + 1 by omega]
      simp [List.getElem?_drop]) (by rw [hdl]; exact hL.1) (hL.2 w' hw')
    rwa [hdl] at this) _ _ _ _ hC H
  rw [htl] at K
  have K2 := wpAny_take (md := .any) (Q := NoPanic Q) h0 hsel hfree hready (fun _ _ _ h => h) hy K
  rw [show m + ((o :: l).toArray.size - (m + 1)) + 1 = (o :: l).toArray.size by omega] at K2
  exact K2
/-- .. at the worlds that only laid blocks and drew. -/
theorem region_below_tail1 {P : Program} {id : Nat} {Q : Exit → Act → World → Prop} {a : Act} {w : World} {o : Oper} {l : List Oper} {v : Value} (n : Nat) (hm : P.follows .mixedOrders = true) (hB : lexTail1 .any (o :: l).toArray n = true) (hy : Yields P (o :: l).toArray o v a)
    (h : wpQuiet P (o :: l).toArray (fun w' => ∃ p : Regrown, w' = Sort.grow (redrawn w p.d) p.os) (fun a' => ∀ w', (∃ p : Regrown, w' = Sort.grow (redrawn w p.d) p.os) → wpList P (o :: l).toArray (NoPanic Q) (l.drop (n - 1)) a' w') (l.take (n - 1)) (a.put o.dst v)) : (Code.region id (o :: l).toArray true).wp P Q a w :=
  region_quiet_tail1 (C := fun w' => ∃ p : Regrown, w' = Sort.grow (redrawn w p.d) p.os) n hm hB ⟨⟨w.drawn + 1, #[]⟩, by rw [Sort.grow_empty]; rfl⟩ hy h
end Go.Proofs.Ytoohahjmiljpgaa

/- Layer 19: pack's head and vector: what a Reader's bits say. Conditions: a Reader in a block of its own; texts of up to 1000 bytes, bits that are there; what pvq's Bits answers. -/
namespace Go.Proofs.Ytoohahjmiljpgaa
open Go.RowKit
open M
theorem results_tmp_row {P : Program} {fn : Func} {p u : Tmp} {ty : TypeId} (h : fn.results = #[.tmp u, .cell p ty]) (tmps : Array Value) (w : World) (g : Nat) (t : TypeId) (cs : Array Value) (fr : Nat × Nat) (d : TypeDesc)
    (hp : tmps.getD p undef = .pointer (some ⟨g, 0, none⟩)) (hg : w.heap[g]? = some (.cells cs t fr))
    (hu : P.underlying ty = some d) (hd : (match d with | .struct _ | .array _ _ => true | _ => false) = true) (hi : (P.info? ty).map (·.size) = some cs.size) :
    (results fn tmps).run P w = .ok (.tuple #[tmps.getD u undef, .agg cs]) w := by
  have hp' : tmps[p]?.getD undef = .pointer (some ⟨g, 0, none⟩) := by simpa using hp
  simp [results, h, hp', asAddr, run_loadVar_row w g t ty cs fr d hg hu hd hi]
/-- Nothing has turned but a block, and what is new. -/
theorem Only.moved {g : Nat} {w w' : World} (h : Only g w w') : Moved w w' g (.slice none 0 0) (.slice none 0 0) :=
  ⟨h.os, h.tape, h.output, by rw [h.size]; exact Nat.le_refl _, fun k _ hk _ => h.block k hk, Or.inl rfl⟩
theorem Moved.apart {a b : World} {g q : Nat} {t : TypeId} {cs : Array Value} (h : Moved a b g (.slice none 0 0) (.slice none 0 0)) (hr : Row a q t cs) (h1 : q ≠ g) : Row b q t cs :=
  h.row hr h1 (by simp [Value.ownBlock])
theorem Rdr.more {w w' : World} {g : Nat} {s : ByteArray} {a : Nat} (h : Rdr w g s a) (hb : Below w.heap.size w w') : Rdr w' g s a := Row.box h hb
theorem Moved.more2 {a b c : World} {g : Nat} {u v : Value} (h : Moved a b g u v) (hb : Below a.heap.size b c) : Moved a c g u v :=
  ⟨hb.os.trans h.os, hb.tape.trans h.tape, hb.output.trans h.output, Nat.le_trans h.size hb.size, fun k hk h1 h2 => (hb.block k hk).trans (h.block k hk h1 h2), h.own⟩
/-- The steps, as far as they are read. -/
def sdp (s : List UInt8) (b : Nat) : List Int := (List.range 8).map fun p => if p < b then (numOf (readB s (16 + 4 * p) 4) : Int) else 0
theorem sdp_len (s : List UInt8) (b : Nat) : (sdp s b).length = 8 := by simp [sdp]
theorem sdp_zero (s : List UInt8) : sdp s 0 = zs8 := by
  simp [sdp, zs8, List.range_succ]
theorem sdp_set (s : List UInt8) (b : Nat) (hb : b < 8) : (sdp s b).set b (numOf (readB s (16 + 4 * b) 4) : Int) = sdp s (b + 1) := by
  refine tm_ext _ 8 _ (by simp [sdp]) fun i hi => ?_
  rw [List.getD_eq_getElem?_getD, List.getElem?_set]
  by_cases h : b = i
  · subst h
    rw [if_pos rfl, if_pos (by rw [sdp_len]; exact hb), if_pos (by omega)]
    rfl
  · rw [if_neg h, ← List.getD_eq_getElem?_getD]
    unfold sdp
    rw [tm_getD _ _ _ hi]
    by_cases h1 : i < b
    · rw [if_pos h1, if_pos (by omega)]
    · rw [if_neg h1, if_neg (by omega)]
theorem rd_head (s : List UInt8) : (rdF s 0 hdW).getD 0 0 = numOf (readB s 0 16) ∧ sdp s 8 = ((rdF s 0 hdW).tail).map fun x : Nat => (x : Int) := by
  constructor <;> simp [rdF, hdW, sdp, List.range_succ]
set_option maxRecDepth 100000 in
set_option maxHeartbeats 2000000 in
theorem head_any (s : ByteArray) (g : Nat) (w : World) (hs : s.size ≤ 1000) (h6 : 6 ≤ s.size) (h : Rdr w g s 0) :
    Calls Try.prog 29 #[.func (.func 30) #[.pointer (some ⟨g, 0, none⟩)] #[]] w fun e w' => e = .returned (.tuple #[.int .i64 (numOf (readB (bl s) 0 16) : Nat), .agg (iCells (sdp (bl s) 8))]) ∧ Rdr w' g s 48 ∧ Moved w w' g (.slice none 0 0) (.slice none 0 0) := by
  have hz := sds_zero
  have HGL : Hid (g < w.heap.size) := Lib.hid (Row.lt h)
  have HR : Hid (Rdr ((w.alloc (.cells (iCells zs8) 27)).alloc (.cells (iCells zs8) 27)) g s 0) := Lib.hid (Row.alloc (Row.alloc h _) _)
  have HA : Hid (Row ((w.alloc (.cells (iCells zs8) 27)).alloc (.cells (iCells zs8) 27)) w.heap.size 27 (iCells zs8)) := Lib.hid (Row.alloc (heap_alloc_new _ _) _)
  have HC : Hid (Row ((w.alloc (.cells (iCells zs8) 27)).alloc (.cells (iCells zs8) 27)) (w.heap.size + 1) 27 (iCells zs8)) := Lib.hid (row_new _ _ (by simp) _ _)
  have hB : Below w.heap.size w ((w.alloc (.cells (iCells zs8) 27)).alloc (.cells (iCells zs8) 27)) := ((Below.refl _ _).alloc (Nat.le_refl _) _).alloc (by simp) _
  have HM : Hid (Moved w ((w.alloc (.cells (iCells zs8) 27)).alloc (.cells (iCells zs8) 27)) g (.slice none 0 0) (.slice none 0 0)) := Lib.hid ((Moved.refl w g _).more hB)
  have HS := Lib.hid hs
  have H6 := Lib.hid h6
  clear h hB hs h6
  obtain ⟨fr, hfr⟩ : ∃ fr, numOf (readB (bl s) 0 16) = fr := ⟨_, rfl⟩
  obtain ⟨D, hD⟩ : ∃ D, sdp (bl s) 8 = D := ⟨_, rfl⟩
  have HFR := Lib.hid hfr
  have HD := Lib.hid hD
  rw [hfr, hD]
  clear hfr hD
  go_enter Try.func29, Try.ntmps29
  go_upto_region 2 with fail
  generalize (w.alloc (.cells (iCells zs8) 27)).alloc (.cells (iCells zs8) 27) = w1 at *
  obtain ⟨n0, hn0⟩ : ∃ n0, w.heap.size = n0 := ⟨_, rfl⟩
  have HN0 := Lib.hid fun _ : Unit => hn0
  rw [hn0] at HA HC HGL ⊢
  clear hn0 hz
  go_wp2_with fail
  refine (get_ok 16 s 0 g _ (by decide) (by have := HS.out; omega) (by have := H6.out; omega) HR.out).mono ?_
  rintro e w2 ⟨rfl, ho, hr⟩
  have HR := Lib.hid hr
  have HA := Lib.hid (ho.moved.apart HA.out (by have := HGL.out; omega))
  have HC := Lib.hid (ho.moved.apart HC.out (by have := HGL.out; omega))
  have HM := Lib.hid (HM.out.trans ho.moved)
  clear ho hr
  rw [HFR.out]
  clear HFR
  go_wp2_with fail
  have HZS := Lib.hid (sdp_zero (bl s))
  have HC0 : Hid (Row w2 (n0 + 1) 27 (iCells (sdp (bl s) 0))) := Lib.hid (by rw [HZS.out]; exact HC.out)
  clear HC HZS
  go_loopw [13] (fun ii wr => ∃ (b : Nat), b ≤ 8 ∧ ii = .int .i64 (b : Int) ∧ Rdr wr g s (16 + 4 * b) ∧ Row wr n0 27 (iCells zs8) ∧ Row wr (n0 + 1) 27 (iCells (sdp (bl s) b)) ∧ Moved w wr g (.slice none 0 0) (.slice none 0 0)) (fun ii _ => 8 - (intOf ii).toNat)
  case atStart => exact ⟨0, by omega, rfl, HR.out, HA.out, HC0.out, HM.out⟩
  case round =>
    clear HR HA HC0 HM
    obtain ⟨b, hb8, rfl, hr, ha, hc, hm⟩ := hrel
    have HR := Lib.hid hr
    have HA := Lib.hid ha
    have HC := Lib.hid hc
    have HM := Lib.hid hm
    clear hr ha hc hm
    rcases Nat.lt_or_ge b 8 with hlt | hge
    · have hst := sdp_set (bl s) b hlt
      have HST := Lib.hid hst
      obtain ⟨x, hx⟩ : ∃ x, numOf (readB (bl s) (16 + 4 * b) 4) = x := ⟨_, rfl⟩
      have HX := Lib.hid hx
      rw [hx] at HST
      have HK := Lib.hid hlt
      have hbI : (b : Int) < 8 := by omega
      clear hst hx hb8 hlt
      go_wp2_with fail
      refine (get_ok 4 s (16 + 4 * b) g _ (by decide) (by have := HS.out; omega) (by have := H6.out; have := HK.out; omega) HR.out).mono ?_
      rintro e w3 ⟨rfl, ho, hr⟩
      rw [HX.out]
      have HR := Lib.hid hr
      have HA := Lib.hid (ho.moved.apart HA.out (by have := HGL.out; omega))
      have HC := Lib.hid (ho.moved.apart HC.out (by have := HGL.out; omega))
      have HM := Lib.hid (HM.out.trans ho.moved)
      have c0 := i_at HC.out b (by rw [sdp_len]; exact HK.out)
      have f0 := HC.out.free b
      have HROW : Hid (Row (w3.setCell ⟨n0 + 1, b, none⟩ (.int .i64 (x : Int))) (n0 + 1) 27 (iCells (sdp (bl s) (b + 1)))) := Lib.hid (by
        have h := HC.out.set b (.int .i64 (x : Int))
        rw [iCells_set, HST.out] at h
        exact h)
      have HRF : Hid (Rdr (w3.setCell ⟨n0 + 1, b, none⟩ (.int .i64 (x : Int))) g s (16 + 4 * (b + 1))) := Lib.hid (Row.far HR.out (p := ⟨n0 + 1, b, none⟩) (by have := HGL.out; show g ≠ n0 + 1; omega) _)
      have HAF := Lib.hid (HA.out.far (p := ⟨n0 + 1, b, none⟩) (by show n0 ≠ n0 + 1; omega) (.int .i64 (x : Int)))
      have HMF := Lib.hid (HM.out.more2 (Below.setCell (Below.refl w.heap.size w3) (p := ⟨n0 + 1, b, none⟩) (by rw [HN0.out ()]; show n0 ≤ n0 + 1; omega) (.int .i64 (x : Int))))
      clear HR HA HC HM ho hr HST HX
      go_wp2_with fail
      go_roundw
      case rel => exact ⟨b + 1, HK.out, by go_num, HRF.out, HAF.out, HROW.out, HMF.out⟩
      case measure =>
        have := HK.out
        simp [intOf] <;> omega
    · obtain rfl : b = 8 := by omega
      clear hb8 hge
      rename World => w3
      have HDL : Hid (D.length = 8) := Lib.hid (by rw [← HD.out]; exact sdp_len _ _)
      have HSZ := Lib.hid (sds_size D HDL.out)
      have HSX := Lib.hid (sds_same zs8 D zs8_length HDL.out)
      have HR2 : Hid (Rdr w3 g s 48) := Lib.hid HR.out
      rw [HD.out] at HC
      clear HDL HD
      have HC1 : Hid (∀ W : World, (∃ p : Regrown, W = Sort.grow (redrawn w3 p.d) p.os) → Row W (n0 + 1) 27 (iCells D)) := Lib.hid (by
        rintro W ⟨p, rfl⟩
        exact HC.out.below (below_regrown w3 p.d p.os) HC.out.lt)
      go_wp2_with fail
      refine region_below_tail 3 (by kernel_rfl) (by kernel_rfl) ?_
      simp only [List.take_succ_cons, List.take_zero, List.drop_succ_cons, List.drop_zero]
      repeat (first
        | (go_big_quiet_want; refine q_load_row 27 (.tmp 4) rfl (n0 + 1) rfl 27 (iCells D) (0, 0) _ HC1.out Try.underlying27 rfl HSZ.out ?_; go_big_quiet_on; simp only [Act.put, List.setIfInBounds_toArray, List.set_cons_zero, List.set_cons_succ])
        | go_big_quiet_step (fail))
      refine wpQuiet_nil ?_
      rintro w6 ⟨⟨dq, osq⟩, rfl⟩
      have hb := below_regrown w3 dq osq
      have HA := Lib.hid (HA.out.box hb)
      have HR := Lib.hid (HR2.out.more hb)
      have HM := Lib.hid (HM.out.more hb)
      clear hb HC1 HC HR2
      generalize Sort.grow (redrawn w3 dq) osq = w6 at *
      go_wp2_with (first
        | (refine wpList_store_row rfl 27 (.tmp 3) (.tmp 25) rfl n0 (iCells D) rfl rfl 27 (iCells zs8) HA.out HSZ.out HSX.out (iCells_one _) ?_)
        | fail)
      refine bodyPost_ret (v := .tuple #[.int .i64 (fr : Int), .agg (iCells D)]) (results_tmp_row Try.results29 _ _ n0 27 (iCells D) (0, 0) _ rfl (Row.setRow HA.out _) Try.underlying27 rfl HSZ.out) rfl ⟨rfl, ?_⟩
      exact ⟨(setRow_other w6 n0 g (iCells D) (by have := HGL.out; omega)).trans HR.out, HM.out.more2 (below_setRow (Below.refl w.heap.size w6) (by rw [HN0.out ()]; exact Nat.le_refl _) _)⟩
end Go.Proofs.Ytoohahjmiljpgaa

/- Layer 19: pack's vector: a band's pulses by their number. Conditions: a Reader in a block of its own; texts of up to 1000 bytes, bits that are there; up to 12 pulses; what pvq's Bits answers. -/
namespace Go.Proofs.Ytoohahjmiljpgaa
open Go.RowKit
open M
def vcY (k i : Nat) : List Int := if i < cn13 4 k then vc13 4 k i else [0, 0, 0, 0]
theorem vcY_len (k i : Nat) : (vcY k i).length = 4 := by
  unfold vcY
  split
  · rename_i h; exact (vc_all 4 k i h).1
  · rfl
theorem vec_no (k i : Nat) (hk : k ≤ 12) (h : ¬ i < cn13 4 k) (w : World) :
    Calls Try.prog 19 #[.int .i64 4, .int .i64 k, .int .i64 i] w fun e w' => (∃ v, e = .returned (.tuple #[v, .int .i64 7])) ∧ Below w.heap.size w w' := by
  refine (vector_any (4 : Nat) k i w).mono ?_
  rintro e w' ⟨⟨v, rfl, _⟩, hb⟩
  have h1 : th13 (4 : Nat) k = true := decide_eq_true (by omega)
  have h2 : vcE (4 : Nat) k i = 7 := by
    unfold vcE
    rw [h1, if_pos rfl, cnI_in 4 k (by omega) hk, if_neg (by omega)]
  rw [h2]
  exact ⟨⟨v, rfl⟩, hb⟩
theorem pls_under : (Try.prog.info? 29).map (·.size) = some 4 := by kernel_rfl
theorem pls_built : Try.prog.built 29 [] = some (iCells [0, 0, 0, 0]) := by kernel_rfl
theorem arr_four (a : Option Addr) (cap : Nat) (w : World) : (Instr.arrayAt 29 (.slice a 4 cap)).run Try.prog w = .ok (.pointer a) w := by
  simp [Instr.arrayAt, run_underlying Try.underlying29, go_sem]
set_option maxRecDepth 100000 in
set_option maxHeartbeats 2000000 in
theorem vec_any (HV : BvOk) (k : Nat) (s : ByteArray) (a g : Nat) (w : World) (hk : k ≤ 12) (hs : s.size ≤ 1000) (ha : a + btc k ≤ 8 * s.size) (h : Rdr w g s a) :
    Calls Try.prog 33 #[.int .i64 (k : Int), .func (.func 30) #[.pointer (some ⟨g, 0, none⟩)] #[]] w fun e w' => e = .returned (.tuple #[.agg (iCells (vcY k (numOf (readB (bl s) a (btc k))))), .bool (decide (numOf (readB (bl s) a (btc k)) < cn13 4 k))]) ∧ Rdr w' g s (a + btc k) ∧ Moved w w' g (.slice none 0 0) (.slice none 0 0) := by
  have hz := pls_zero
  have HBT := Lib.hid fun w => HV k w hk
  have HGL : Hid (g < w.heap.size) := Lib.hid (Row.lt h)
  have hB : Below w.heap.size w (w.alloc (.cells (iCells [0, 0, 0, 0]) 29)) := (Below.refl _ _).alloc (Nat.le_refl _) _
  have HR : Hid (Rdr (w.alloc (.cells (iCells [0, 0, 0, 0]) 29)) g s a) := Lib.hid (Rdr.more h hB)
  have HA : Hid (Row (w.alloc (.cells (iCells [0, 0, 0, 0]) 29)) w.heap.size 29 (iCells [0, 0, 0, 0])) := Lib.hid (heap_alloc_new _ _)
  have HM : Hid (Moved w (w.alloc (.cells (iCells [0, 0, 0, 0]) 29)) g (.slice none 0 0) (.slice none 0 0)) := Lib.hid ((Moved.refl w g _).more hB)
  have HGT := Lib.hid fun (w : World) (h : Rdr w g s a) => get_ok (btc k) s a g w (by have := btc_bd k; omega) (by omega) ha h
  have HYL := Lib.hid (vcY_len k (numOf (readB (bl s) a (btc k))))
  obtain ⟨n, hn⟩ : ∃ n, btc k = n := ⟨_, rfl⟩
  rw [hn] at HBT HGT HYL ⊢
  obtain ⟨i, hi⟩ : ∃ i, numOf (readB (bl s) a n) = i := ⟨_, rfl⟩
  rw [hi] at HGT HYL ⊢
  have HSY := Lib.hid (pls_size (vcY k i) HYL.out)
  have HSX : Hid ((iCells [0, 0, 0, 0]).size = (iCells (vcY k i)).size) := Lib.hid (by rw [iCells_size, iCells_size, HYL.out]; rfl)
  by_cases hin : i < cn13 4 k
  · have e1 : decide (i < cn13 4 k) = true := decide_eq_true hin
    have e2 : vcY k i = vc13 4 k i := if_pos hin
    have HVC := Lib.hid fun w => vector_at 4 k i 4 k i w rfl rfl rfl (by omega) hk hin
    rw [e1]
    rw [← e2] at HVC
    clear e1 e2 hin hn hi hk hs ha h hB
    generalize vcY k i = Y at *
    go_enter Try.func33, Try.ntmps33
    go_upto_region 1 with fail
    generalize w.alloc (.cells (iCells [0, 0, 0, 0]) 29) = w1 at *
    obtain ⟨n0, hn0⟩ : ∃ n0, w.heap.size = n0 := ⟨_, rfl⟩
    have HN0 := Lib.hid fun _ : Unit => hn0
    rw [hn0] at HA HGL ⊢
    clear hn0 hz
    go_wp2_with fail
    refine (HBT.out _).mono ?_
    rintro e w2 ⟨rfl, hb⟩
    have HR := Lib.hid (HR.out.more hb)
    have HA := Lib.hid (HA.out.box hb)
    have HM := Lib.hid (HM.out.more hb)
    clear hb HBT
    go_wp2_with fail
    refine (HGT.out _ HR.out).mono ?_
    rintro e w3 ⟨rfl, ho, hr⟩
    have HR := Lib.hid hr
    have HA := Lib.hid (ho.moved.apart HA.out (by have := HGL.out; omega))
    have HM := Lib.hid (HM.out.trans ho.moved)
    clear ho hr HGT
    go_wp2_with fail
    refine (HVC.out _).mono ?_
    rintro e w4 ⟨⟨a4, cap, rfl, hv⟩, hb⟩
    have HR := Lib.hid (HR.out.more hb)
    have HA := Lib.hid (HA.out.box hb)
    have HM := Lib.hid (HM.out.more hb)
    obtain ⟨b4, off, rfl, _, hc⟩ := ints_cells hv HYL.out (by omega)
    have HRG : Hid (w4.rangeAt b4 off (iCells Y).toList) := Lib.hid fun j v hj => by
      have hl : j < 4 := by
        have := (List.getElem?_eq_some_iff.1 hj).1
        simpa [iCells, HYL.out] using this
      rw [hc j hl, ← hj, Array.getElem?_toList, iCells_get _ _ (by rw [HYL.out]; exact hl)]
    clear hv hc hb HVC
    have har := arr_four (some ⟨b4, off, none⟩) cap
    go_wp2_with (first
      | (refine wpList_load_mid rfl 29 (.tmp 27) rfl b4 off rfl (iCells Y).toList _ HRG.out Try.underlying29 rfl (by rw [iL_size, HYL.out]; exact pls_under) ?_; rw [Array.toArray_toList])
      | (refine wpList_store_row rfl 29 (.tmp 4) (.tmp 28) rfl n0 (iCells Y) rfl rfl 29 (iCells [0, 0, 0, 0]) HA.out HSY.out HSX.out (iCells_one _) ?_)
      | (refine bodyPost_ret (v := .tuple #[.agg (iCells Y), .bool true]) (results_row_tmp Try.results33 _ _ n0 29 (iCells Y) (0, 0) _ rfl (Row.setRow HA.out _) Try.underlying29 rfl HSY.out) rfl ⟨rfl, ?_⟩))
    all_goals exact ⟨(setRow_other w4 n0 g (iCells Y) (by have := HGL.out; omega)).trans HR.out, HM.out.more2 (below_setRow (Below.refl w.heap.size w4) (by rw [HN0.out ()]; exact Nat.le_refl _) _)⟩
  · have e1 : decide (i < cn13 4 k) = false := decide_eq_false hin
    have e2 : vcY k i = [0, 0, 0, 0] := if_neg hin
    have HVC := Lib.hid fun w => vec_no k i hk hin w
    rw [e1, e2]
    have hbl := pls_built
    have HSZ := Lib.hid (pls_size [0, 0, 0, 0] rfl)
    clear e1 e2 hin hn hi hk hs ha h hB HSY HSX
    go_enter Try.func33, Try.ntmps33
    go_upto_region 1 with fail
    generalize w.alloc (.cells (iCells [0, 0, 0, 0]) 29) = w1 at *
    obtain ⟨n0, hn0⟩ : ∃ n0, w.heap.size = n0 := ⟨_, rfl⟩
    have HN0 := Lib.hid fun _ : Unit => hn0
    rw [hn0] at HA HGL ⊢
    clear hn0 hz
    go_wp2_with fail
    refine (HBT.out _).mono ?_
    rintro e w2 ⟨rfl, hb⟩
    have HR := Lib.hid (HR.out.more hb)
    have HA := Lib.hid (HA.out.box hb)
    have HM := Lib.hid (HM.out.more hb)
    clear hb HBT
    go_wp2_with fail
    refine (HGT.out _ HR.out).mono ?_
    rintro e w3 ⟨rfl, ho, hr⟩
    have HR := Lib.hid hr
    have HA := Lib.hid (ho.moved.apart HA.out (by have := HGL.out; omega))
    have HM := Lib.hid (HM.out.trans ho.moved)
    clear ho hr HGT
    go_wp2_with fail
    refine (HVC.out _).mono ?_
    rintro e w4 ⟨⟨v4, rfl⟩, hb⟩
    have HR := Lib.hid (HR.out.more hb)
    have HA := Lib.hid (HA.out.box hb)
    have HM := Lib.hid (HM.out.more hb)
    clear hb HVC
    go_wp2_with (first
      | (refine wpList_store_row rfl 29 (.tmp 4) (.tmp 25) rfl n0 (iCells [0, 0, 0, 0]) rfl rfl 29 (iCells [0, 0, 0, 0]) HA.out HSZ.out rfl (iCells_one _) ?_)
      | (refine bodyPost_ret (v := .tuple #[.agg (iCells [0, 0, 0, 0]), .bool false]) (results_row_tmp Try.results33 _ _ n0 29 (iCells [0, 0, 0, 0]) (0, 0) _ rfl (Row.setRow HA.out _) Try.underlying29 rfl HSZ.out) rfl ⟨rfl, ?_⟩))
    all_goals exact ⟨(setRow_other w4 n0 g (iCells [0, 0, 0, 0]) (by have := HGL.out; omega)).trans HR.out, HM.out.more2 (below_setRow (Below.refl w.heap.size w4) (by rw [HN0.out ()]; exact Nat.le_refl _) _)⟩
end Go.Proofs.Ytoohahjmiljpgaa
