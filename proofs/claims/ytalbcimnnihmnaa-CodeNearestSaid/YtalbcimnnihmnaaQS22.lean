/-
  Contracts and plain facts that the laws share; each piece is headed by what it holds and its conditions.
-/
import Derived.Test.YtalbcimnnihmnaaQS21
import Derived.Test.YtalbcimnnihmnaaQS10
import Derived.Test.YtalbcimnnihmnaaQS5
import Derived.Deep.RegionHeld3
import Derived.Deep.RegionLaw
import Derived.Deep.AppendLies

/- give's queue: Push and Pop. Conditions: steps and pulses up to 1000000, up to 1000 bands. -/
namespace Go.Proofs.Ytalbcimnnihmnaa
open Go.RowKit
open M
theorem take_parts : ∃ i, Try.prog.info? 74 = some i ∧ i.zero = some (.agg #[.int .i64 0, .int .i64 0, .int .i64 0]) ∧ i.size = 3 ∧ i.bytes = 24 := info_parts (by kernel_rfl)
theorem own_far_set {w : World} {B n size : Nat} {e : TypeId} {v : Value} {xs : List Value} (h : w.ownsRow B e size v n xs) {p : Addr} (hp : v.ownBlock ≠ some p.block) (u : Value) : (w.setCell p u).ownsRow B e size v n xs := by
  refine ⟨h.1, ?_⟩
  rcases h.2 with h0 | ⟨g, cap, cur, rfl, hb, hr, rest⟩
  · exact Or.inl h0
  · exact Or.inr ⟨g, cap, cur, rfl, hb, (Below.heap_setCell w p u g (fun e => hp (by rw [← e]; rfl))).trans hr, rest⟩
section
variable {P : Program}
/-- A band more. -/
theorem step_append_t3 {ops : Array Oper} {o : Oper} {a : Act} {w : World} {K : Act → World → Prop} {Q : Exit → Act → World → Prop} {D : Prop} (hgd : o.guard = none) (s x : Operand) (S E : TypeId) (hS : P.underlying S = some (.slice E))
    (hE : ∃ i, P.info? E = some i ∧ i.zero = some (.agg #[.int .i64 0, .int .i64 0, .int .i64 0]) ∧ i.size = 3 ∧ i.bytes = 24)
    (ho : o.op = .call { callee := .builtin .append, args := #[s, x], argTypes := #[S, S] })
    (base : Nat) (v : Value) (n : Nat) (l : List (Nat × Int × Nat)) (p : Nat × Int × Nat) (hs : a.eval s = v) (hown : w.ownsRow base E 3 v n (wV l)) (g : Nat) (hx : a.eval x = .slice (some ⟨g, 0, none⟩) 1 1)
    (hf : w.heap[g]? = some (.cells #[.int .i64 (p.1 : Int), .int .i64 p.2.1, .int .i64 (p.2.2 : Int)] E (0, 0)))
    (hn : n ≤ 1000000) (hbase : base ≤ w.heap.size)
    (h : ∀ g cap w', w'.ownsRow base E 3 (.slice (some ⟨g, 0, none⟩) (n + 1) cap) (n + 1) (wV (l ++ [p])) → Below base w w' → w.grownBy w' v.ownBlock → (v.ownBlock = some g ∨ g = w.heap.size) → K (a.put o.dst (.slice (some ⟨g, 0, none⟩) (n + 1) cap)) w') :
    if Region.wanted o (yielded ops a.tmps) = true then Oper.wp P o a w K Q else D := by
  have hw : Region.wanted o (yielded ops a.tmps) = true := by simp [Region.wanted, hgd]
  rw [if_pos hw]
  obtain ⟨i0, hi1, hi2, hi3, hi4⟩ := hE
  refine wp_append_lies w s x S ho base E i0 (.agg #[.int .i64 0, .int .i64 0, .int .i64 0]) 3 24 hS hi1 hi2 hi3 hi4 rfl (by decide) v n (wV l) hs hown ⟨g, 0, none⟩ 1 1 (wV [p]) hx rfl ?_ (wV_one [p]) (by decide) (by unfold maxLen; omega) (by omega) hbase _ rfl ?_
  · intro j u hu
    rw [show (⟨g, 0, none⟩ : Addr).add j = ⟨g, j, none⟩ by (simp [Addr.add]; exact fun h => h.symm), cell_of_row _ _ _ _ _ _ hf, ← hu]
    simp [wV, tV]
  · intro g' cap' w' hown' hgrow hat _
    exact h g' cap' w' (by rw [wV_app]; exact hown') ((Below.refl _ _).grown hgrow hbase (fun k hk => own_ge hown k hk)) hgrow hat
end
theorem as_taker (v : Value) (w : World) : (Instr.typeAssert (.iface 74 v) 20 74 false).run Try.prog w = .ok v w := by kernel_rfl
set_option maxRecDepth 100000 in
set_option maxHeartbeats 1000000 in
theorem tpush_any {w0 : World} {F : Nat → Prop} {B h : Nat} (p : Nat × Int × Nat) (l : List (Nat × Int × Nat)) (w : World) (H : QS w0 F B h l w) (hp : hd18 p) (hl : l.length < 1000) :
    Calls Try.prog 78 #[.pointer (some ⟨h, 0, none⟩), .iface 74 (tA p)] w fun e w' => e = .returned (.tuple #[]) ∧ QS w0 F B h (l ++ [p]) w' := by
  obtain ⟨a, s, k⟩ := p
  obtain ⟨v, hr, ho, hf⟩ := H.v
  have hfar := own_far18 hr ho (by decide)
  have HO := Lib.hid (show w.drew.ownsRow B 74 3 v l.length (wV l) from ho)
  have hr : Row w.drew h 90 (hV v) := hr
  have HH := Lib.hid H
  have HBS : Hid (B ≤ w.drew.heap.size) := Lib.hid (Nat.le_of_lt (Nat.lt_of_le_of_lt H.hb hr.lt))
  have HN : Hid (l.length ≤ 1000000) := Lib.hid (by omega)
  have HN2 := Lib.hid hl
  have HU := Lib.hid hp
  have HFAR := Lib.hid hfar
  have HC : Hid (∀ w7 : World, w.drew.grownBy w7 v.ownBlock → Row w7 h 90 (hV v)) := Lib.hid fun w7 hg => hr.grown hg hr.lt (fun e => hfar e.symm)
  have HKA : Hid (∀ o : Obj, (w.alloc o).drew.cell? ⟨h, 0, none⟩ = some v) := Lib.hid fun o => cell_of_row _ _ 0 _ _ _ (show Row (w.alloc o).drew h 90 (hV v) from hr.alloc o)
  have hc0 : w.drew.cell? ⟨h, 0, none⟩ = some v := cell_of_row _ _ 0 _ _ _ hr
  have HF := Lib.hid hf
  clear H hr ho hp hl hfar hf
  have hta := fun w => as_taker (.agg #[.int .i64 (a : Int), .int .i64 s, .int .i64 (k : Int)]) w
  have hka := HKA.out
  unfold tA
  simp only
  go_enter Try.func78, Try.ntmps78
  go_region_law ((refine step_append_t3 (by rfl) _ _ 88 74 Try.underlying88 take_parts rfl B _ l.length l (a, s, k) rfl (HO.out.alloc _) _ rfl (heap_alloc_new _ _) HN.out (Nat.le_trans HBS.out (by simp)) ?_; intro g7 cap7 w7 hown2 hb2 hg2 hat2; have hc7 : w7.cell? ⟨h, 0, none⟩ = some v := cell_of_row _ _ 0 _ _ _ (HC.out w7 (gb_trans (World.grownBy_alloc _ _ _) hg2)); have hf7 := Row.free (HC.out w7 (gb_trans (World.grownBy_alloc _ _ _) hg2)) 0))
  all_goals
    have hr7 := HC.out w7 (gb_trans (World.grownBy_alloc _ _ _) hg2)
    have hne := own_far18 hr7 hown2 (by decide)
    go_end0
    have hb3 := (below_drew1 ((Below.refl B w).alloc HBS.out _)).trans hb2
    have hns : (w7.setCell ⟨h, 0, none⟩ (.slice (some ⟨g7, 0, none⟩) (l.length + 1) cap7)).heap.size = w7.heap.size := by simp [World.setCell]
    refine ⟨rfl, ⟨⟨.slice (some ⟨g7, 0, none⟩) (l.length + 1) cap7, ?_, ?_, ?_⟩, HH.out.hb, HH.out.fh, fun k hk => ?_, ⟨hb3.os.trans HH.out.be.os, hb3.tape.trans HH.out.be.tape, hb3.output.trans HH.out.be.output, by rw [hns]; exact Nat.le_trans HH.out.be.size hb3.size, fun k hk => ?_⟩, ?_, ?_⟩⟩
    · exact hr7.set 0 _
    · rw [List.length_append]
      exact own_far_set hown2 (p := ⟨h, 0, none⟩) hne _
    · intro g hg hF
      simp only [Value.ownBlock, Option.some.injEq] at hg
      subst hg
      rcases hat2 with e | e
      · exact HF.out _ e hF
      · have h5 := HH.out.fl _ hF
        have h6 : (w.alloc (.cells #[.int .i64 (a : Int), .int .i64 s, .int .i64 (k : Int)] 74)).heap.size = w.heap.size + 1 := by simp
        have h7 : g7 = w.heap.size + 1 := e.trans h6
        omega
    · rw [hns]
      exact Nat.lt_of_lt_of_le (HH.out.fl k hk) hb3.size
    · have h5 := HH.out.fl k hk
      have h8 := hg2.block k (by show k < (w.alloc _).heap.size; simp; omega) (fun e => HF.out k e.symm hk)
      have h9 := (Below.heap_setCell w7 ⟨h, 0, none⟩ (.slice (some ⟨g7, 0, none⟩) (l.length + 1) cap7) k (fun e => HH.out.fh (by have e2 : k = h := e; rw [← e2]; exact hk))).trans h8
      exact (h9.trans ((Below.refl _ w).alloc (Nat.le_refl _) _ |>.block k h5)).trans (HH.out.be.block k hk)
    · intro p hp
      rcases List.mem_append.1 hp with hp | hp
      · exact HH.out.bd p hp
      · rw [List.mem_singleton.1 hp]
        exact HU.out
    · rw [List.length_append]; have := HN2.out; simp only [List.length_singleton]; omega
theorem own_shrink {w : World} {B g cap n m size : Nat} {e : TypeId} {xs : List Value} (h : w.ownsRow B e size (.slice (some ⟨g, 0, none⟩) n cap) n xs) (hm : m ≤ n) : w.ownsRow B e size (.slice (some ⟨g, 0, none⟩) m cap) m (xs.take (m * size)) := by
  have hms : m * size ≤ n * size := Nat.mul_le_mul_right size hm
  refine ⟨by rw [List.length_take, h.1]; omega, ?_⟩
  rcases h.2 with ⟨h1, _⟩ | ⟨g', cap', cur, h1, hbs, hr, hnc, hcm, hsz, htk⟩
  · simp at h1
  · simp only [Value.slice.injEq, Option.some.injEq, Addr.mk.injEq, and_true, true_and] at h1
    obtain ⟨rfl, rfl⟩ := h1
    refine Or.inr ⟨g, cap, cur, rfl, hbs, hr, by omega, hcm, hsz, ?_⟩
    rw [← htk, List.take_take, Nat.min_eq_left hms]
set_option maxRecDepth 100000 in
set_option maxHeartbeats 1000000 in
theorem tpop_any {w0 : World} {F : Nat → Prop} {B h : Nat} (d : Nat × Int × Nat) (l : List (Nat × Int × Nat)) (w : World) (H : QS w0 F B h l w) (h0 : 0 < l.length) :
    Calls Try.prog 77 #[.pointer (some ⟨h, 0, none⟩)] w fun e w' => e = .returned (.iface 74 (tA (l.getD (l.length - 1) d))) ∧ QS w0 F B h (l.take (l.length - 1)) w' := by
  have hl := H.ln
  obtain ⟨v, hr, ho, hf⟩ := H.v
  obtain ⟨g, cap, rfl, _⟩ := own13_form ho h0
  have hfar : g ≠ h := fun e => own_far18 hr ho (by decide) (by rw [← e]; rfl)
  have HH := Lib.hid H
  have HF := Lib.hid hf
  have hc0 : w.cell? ⟨h, 0, none⟩ = some (.slice (some ⟨g, 0, none⟩) l.length cap) := cell_of_row _ _ 0 _ _ _ hr
  have HO := Lib.hid ho
  obtain ⟨m, hm⟩ : ∃ m, l.length = m + 1 := ⟨l.length - 1, by omega⟩
  obtain ⟨a0, a1, a2⟩ := own_t3 ho d m (by omega)
  have hcap : m + 1 ≤ cap := by
    rcases ho.2 with ⟨h1, _⟩ | ⟨g', cap', cur, h1, hbs, hr, hnc, hcm, hsz, htk⟩
    · simp at h1
    · simp only [Value.slice.injEq, Option.some.injEq, Addr.mk.injEq, and_true, true_and] at h1
      omega
  rw [hm] at hc0 HO ⊢
  rw [Nat.add_sub_cancel]
  have HM2 := Lib.hid hm
  obtain ⟨⟨a, s, k⟩, hp⟩ : ∃ p, l.getD m d = p := ⟨_, rfl⟩
  rw [hp] at a0 a1 a2 ⊢
  unfold tA
  simp only at a0 a1 a2 ⊢
  have hmI : ((m + 1 : Nat) : Int) - 1 = (m : Int) := by omega
  have hmB : (m : Int) ≤ 1000000 := by omega
  have hw1 : wrap64 (((m + 1 : Nat) : Int) - 1) = (m : Int) := by rw [hmI, wrap64]; omega
  have hml : (m : Int) < ((m + 1 : Nat) : Int) := by omega
  have hml2 : m < m + 1 := by omega
  have hcI : (m : Int) ≤ (cap : Int) := by omega
  have hcN : m ≤ cap := by omega
  have HA := Lib.hid fun o : Obj => hr.alloc o
  have HOA := Lib.hid fun o : Obj => ho.alloc o
  have HBA := Lib.hid fun o : Obj => H.be.more H.fl ((Below.refl _ _).alloc (Nat.le_refl _) o)
  have hne1 : w.heap.size ≠ h := fun e => by have := hr.lt; omega
  have hne2 : h ≠ w.heap.size := fun e => by have := hr.lt; omega
  have hca : ∀ o : Obj, (w.alloc o).cell? ⟨h, 0, none⟩ = some (.slice (some ⟨g, 0, none⟩) (m + 1) cap) := fun o => by rw [cell_of_row _ _ 0 _ _ _ (HA.out o), HM2.out]; rfl
  have hfa : ∀ o : Obj, (w.alloc o).frozen? ⟨h, 0, none⟩ = false := fun o => (HA.out o).free 0
  clear H hr ho hl h0 hp hm hcap hf
  have HFAR : Hid (g ≠ h) := Lib.hid hfar
  clear hfar
  go_enter Try.func77, Try.ntmps77
  go_wp2_with fail
  go_ret
  refine ⟨rfl, ⟨⟨.slice (some ⟨g, 0, none⟩) m cap, ?_, ?_, fun g' hg' => HF.out g' (by simpa [Value.ownBlock] using hg')⟩, HH.out.hb, HH.out.fh, fun k hk => Nat.lt_of_lt_of_le (HH.out.fl k hk) ?_, KF.set (HBA.out _) (p := ⟨h, 0, none⟩) HH.out.fh _, ?_, ?_⟩⟩
  · exact (HA.out _).set 0 _
  · have hl : (l.take m).length = m := by rw [List.length_take, HM2.out]; omega
    rw [hl, wV_take]
    refine own_far_set (own_shrink (n := m + 1) ?_ (by omega)) (p := ⟨h, 0, none⟩) (by simpa [Value.ownBlock] using HFAR.out) _
    rw [← HM2.out]
    exact HOA.out _
  · simp [World.setCell]
  · intro p hp
    exact HH.out.bd p (List.mem_of_mem_take hp)
  · rw [List.length_take]; have := HH.out.ln; omega
end Go.Proofs.Ytalbcimnnihmnaa

/- band's Right, for layers that call no other part of band. Conditions: eight steps. -/
namespace Go.Proofs.Ytalbcimnnihmnaa
open Go.RowKit
open M
/-- Whether a step may be. -/
def isq (n : Int) : Bool := decide (0 ≤ n ∧ n ≤ 15)
theorem isstep_anyR (n : Int) (w : World) : Calls Try.prog 47 #[.int .i64 n] w fun e w' => e = .returned (.bool (isq n)) ∧ w' = w := by
  by_cases h1 : n < 0
  · have e : isq n = false := decide_eq_false (by omega)
    have h2 : ¬ n ≥ 0 := by omega
    rw [e]
    clear e
    go_enter Try.func47, Try.ntmps47
    go_wp2
    go_ret
    exact ⟨rfl, rfl⟩
  · by_cases h2 : n ≤ 15
    · have e : isq n = true := decide_eq_true (by omega)
      have h3 : n ≥ 0 := by omega
      rw [e]
      clear e
      go_enter Try.func47, Try.ntmps47
      go_wp2
      go_ret
      exact ⟨rfl, rfl⟩
    · have e : isq n = false := decide_eq_false (by omega)
      have h3 : n ≥ 0 := by omega
      rw [e]
      clear e
      go_enter Try.func47, Try.ntmps47
      go_wp2
      go_ret
      exact ⟨rfl, rfl⟩
theorem index_sds (l : List Int) (hl : l.length = 8) (k : Nat) (hk : k < 8) (w : World) :
    (Instr.index 27 (.agg (iCells l)) (.int .i64 k)).run Try.prog w = .ok (.int .i64 (l.getD k 0)) w := by
  obtain ⟨i, hi, _, _, _⟩ := info_parts int_info
  have c := iCells_get l k (by omega)
  simp [Instr.index, run_underlying Try.underlying27, asIntOf, hk, run_sizeOf w hi, (show Try.prog.cellsOf 3 = 1 by kernel_rfl), c, go_sem]
set_option maxRecDepth 100000 in
set_option maxHeartbeats 1000000 in
theorem right17_any (l : List Int) (w : World) (hl : l.length = 8) :
    Calls Try.prog 30 #[.agg (iCells l)] w fun e w' => e = .returned (.bool (rt17 l)) ∧ Below w.heap.size w w' := by
  have HR : Hid (Row (w.alloc (.cells (iCells l) 27)) w.heap.size 27 (iCells l)) := heap_alloc_new _ _
  have HB : Hid (Below w.heap.size w (w.alloc (.cells (iCells l) 27))) := (Below.refl _ _).alloc (Nat.le_refl _) _
  have HL := Lib.hid hl
  have HSZ := Lib.hid (sds_size l hl)
  have HIS := fun n w => isstep_anyR n w
  have HNO : Hid (∀ k, k < 8 → isq (l.getD k 0) = false → rt17 l = false) := Lib.hid fun k hk h => b_no (rt_iff l) fun g => by
    have := g k hk
    rw [isq, decide_eq_false_iff_not] at h
    exact h this
  have HYES : Hid ((∀ j, j < 8 → isq (l.getD j 0) = true) → rt17 l = true) := Lib.hid fun h => (rt_iff l).2 fun j hj => of_decide_eq_true (h j hj)
  generalize rt17 l = R at *
  clear hl
  go_enter Try.func30, Try.ntmps30
  go_wp2_with (refine wpList_load_row rfl 27 (.tmp 1) rfl w.heap.size rfl 27 (iCells l) (0, 0) _ HR.out Try.underlying27 rfl HSZ.out ?_)
  clear HR
  generalize w.alloc (.cells (iCells l) 27) = w1 at *
  go_loop [6] (fun ii => ∃ k : Nat, k ≤ 8 ∧ ii = .int .i64 k ∧ ∀ j, j < k → isq (l.getD j 0) = true) (fun ii => 8 - (intOf ii).toNat)
  case atStart => exact ⟨0, by omega, rfl, fun j hj => by omega⟩
  case round =>
    obtain ⟨k, hk, rfl, hall⟩ := hrel
    have HA := Lib.hid hall
    clear hall
    rcases Nat.lt_or_ge k 8 with hlt | hge
    · have hix := index_sds l HL.out k hlt
      have HN := Lib.hid (HNO.out k hlt)
      have HST : Hid (isq (l.getD k 0) = true → ∀ j, j < k + 1 → isq (l.getD j 0) = true) := Lib.hid fun h j hj => by
        rcases Nat.lt_or_ge j k with hl | hg
        · exact HA.out j hl
        · obtain rfl : j = k := by omega
          exact h
      obtain ⟨x, hx⟩ : ∃ x, l.getD k 0 = x := ⟨_, rfl⟩
      rw [hx] at hix HN HST
      clear hx hk
      go_wp2_with fail
      refine (HIS x _).mono ?_
      rintro e w2 ⟨rfl, rfl⟩
      cases hb : isq x
      · go_wp2_with fail
        go_ret
        exact ⟨by rw [HN.out hb]; rfl, HB.out⟩
      · go_wp2_with fail
        go_round
        case rel => exact ⟨k + 1, hlt, by go_num, HST.out hb⟩
        case measure => simp [intOf] <;> omega
    · obtain rfl : k = 8 := by omega
      have HT := Lib.hid (HYES.out HA.out)
      clear hk hge HA
      go_wp2_with fail
      go_ret
      exact ⟨by rw [HT.out]; rfl, HB.out⟩
end Go.Proofs.Ytalbcimnnihmnaa

/- give's take, heap.Push over its queue, and queued. Conditions: steps and pulses up to 1000000, up to 1000 bands. -/
namespace Go.Proofs.Ytalbcimnnihmnaa
open Go.RowKit
open M
set_option maxRecDepth 100000 in
/-- A cell of a block that stays, and is another one's. -/
theorem QS.setKept {w0 w : World} {F : Nat → Prop} {B h : Nat} {l : List (Nat × Int × Nat)} (H : QS w0 F B h l w) {p : Addr} (h1 : F p.block) (u : Value) : QS (w.setCell p u) F B h l (w.setCell p u) := by
  obtain ⟨v, hr, ho, hf⟩ := H.v
  have hs : (w.setCell p u).heap.size = w.heap.size := by simp [World.setCell]
  exact ⟨⟨v, hr.far (fun e => H.fh (by rw [e]; exact h1)) u, own_far_set ho (fun e => hf _ e h1) u, hf⟩, H.hb, H.fh, fun k hk => by rw [hs]; exact H.fl k hk, KF.refl _ _, H.bd, H.ln⟩
set_option maxRecDepth 100000 in
theorem QS.again {w0 w : World} {F : Nat → Prop} {B h : Nat} {l : List (Nat × Int × Nat)} (H : QS w0 F B h l w) : QS w F B h l w :=
  ⟨H.v, H.hb, H.fh, H.fl, KF.refl _ _, H.bd, H.ln⟩
set_option maxRecDepth 100000 in
theorem QS.drewn {w0 w : World} {F : Nat → Prop} {B h : Nat} {l : List (Nat × Int × Nat)} (H : QS w0 F B h l w) : QS w.drew F B h l w.drew :=
  ⟨H.v, H.hb, H.fh, H.fl, KF.refl _ _, H.bd, H.ln⟩
set_option maxRecDepth 100000 in
theorem QS.framed {w0 w1 w : World} {F K : Nat → Prop} {B h : Nat} {l : List (Nat × Int × Nat)} (H : QS w1 K B h l w) (hk : ∀ k, F k → K k) (hb : KF F w0 w) : QS w0 F B h l w := by
  obtain ⟨v, hr, ho, hf⟩ := H.v
  exact ⟨⟨v, hr, ho, fun g hg e => hf g hg (hk _ e)⟩, H.hb, fun e => H.fh (hk _ e), fun k e => H.fl k (hk k e), hb, H.bd, H.ln⟩
set_option maxRecDepth 100000 in
/-- .. over one block more that stays. -/
theorem QS.guard {w0 w : World} {F : Nat → Prop} {B h : Nat} {l : List (Nat × Int × Nat)} (H : QS w0 F B h l w) (o : Obj) : QS (w.alloc o) (fun k => F k ∨ k = w.heap.size) B h l (w.alloc o) := by
  have h1 := H.below ((Below.refl _ _).alloc (Nat.le_refl _) o)
  obtain ⟨v, hr, ho, hf⟩ := H.v
  have hhl := hr.lt
  refine ⟨⟨v, hr.alloc o, ho.alloc o, fun g hg e => ?_⟩, H.hb, fun e => ?_, fun k hk => ?_, KF.refl _ _, H.bd, H.ln⟩
  · have := ho.lt g hg
    rcases e with e | e
    · exact hf g hg e
    · omega
  · rcases e with e | e
    · exact H.fh e
    · omega
  · have hs : (w.alloc o).heap.size = w.heap.size + 1 := by simp
    rw [hs]
    rcases hk with e | e
    · have := H.fl k e; omega
    · omega
/-- What take answers, and leaves. -/
def TkP (w0 : World) (F : Nat → Prop) (B h : Nat) (d : Nat × Int × Nat) (L : List (Nat × Int × Nat)) (n : Nat) (e : Ending) (w' : World) : Prop :=
  ∃ R, e = .returned (tA (L.getD 0 d)) ∧ QS w0 F B h R w' ∧ R.length = n ∧ Hp lt18 d R R.length 0 ∧ L.Perm (L.getD 0 d :: R)
set_option maxRecDepth 100000 in
theorem taker_zero (w : World) : (zeroValue 74).run Try.prog w = .ok (.agg #[.int .i64 0, .int .i64 0, .int .i64 0]) w := by
  obtain ⟨i, h1, h2, _, _⟩ := take_parts
  simp [zeroValue, typeInfo, h1, h2]
set_option maxRecDepth 100000 in
set_option maxHeartbeats 1000000 in
theorem ttake_any {w0 : World} {F : Nat → Prop} {B h : Nat} (d : Nat × Int × Nat) (L : List (Nat × Int × Nat)) (n : Nat) (w : World) (H : QS w0 F B h L w) (hl : L.length = n + 1) (hp : Hp lt18 d L L.length 0) :
    Calls Try.prog 34 #[.pointer (some ⟨h, 0, none⟩)] w fun e w' => TkP w0 F B h d L n e w' := by
  have HH := Lib.hid H
  have HHM := Lib.hid fun o : Obj => (QS.hm (w0 := w.alloc o) (F := fun k => F k ∨ k = w.heap.size) (B := B) (h := h) d)
  have HFF := Lib.hid (heap_pop lt18 lt18_ls d L n hl hp)
  have HLN := H.ln
  have HP := Lib.hid fun o : Obj => pop_any lt18 d 71 (.pointer (some ⟨h, 0, none⟩)) _ _ _ 77 (fun p => .iface 74 (tA p)) _ (HHM.out o) (fun args w => by kernel_rfl)
    (fun l w hs hl0 => ⟨_, meth_ptr18 n_pop Try.underlying71 w ⟨h, 0, none⟩ _, tpop_any d l w hs hl0⟩) L (w.alloc o) (H.guard o) (by omega) (by omega)
  have HNE := Lib.hid (show w.heap.size ≠ h by have := H.lt; omega)
  have HRT : Hid (Row (w.alloc (.cells #[.int .i64 0, .int .i64 0, .int .i64 0] 74)) w.heap.size 74 #[.int .i64 0, .int .i64 0, .int .i64 0]) := Lib.hid (heap_alloc_new _ _)
  have hz := taker_zero
  have HL := Lib.hid (show L.length - 1 = n by omega)
  have hta := as_taker
  obtain ⟨⟨a, s, k⟩, hpa⟩ : ∃ p, L.getD 0 d = p := ⟨_, rfl⟩
  have HPA := Lib.hid hpa
  clear H hl hp hpa HLN HHM
  go_enter Try.func34, Try.ntmps34
  go_wp2_with fail
  refine (HP.out _).mono ?_
  rintro e w1 ⟨rfl, hst⟩
  rw [HL.out] at hst ⊢
  rw [HFF.out.1, HPA.out]
  have HST := Lib.hid hst
  have hrt := (hst.be.block w.heap.size (Or.inr rfl)).trans HRT.out
  have c0 := cell_of_row _ _ 0 _ _ _ hrt
  have c1 := cell_of_row _ _ 1 _ _ _ hrt
  have c2 := cell_of_row _ _ 2 _ _ _ hrt
  have f0 := frozen_of_row _ _ 0 _ _ hrt
  have f1 := frozen_of_row _ _ 1 _ _ hrt
  have f2 := frozen_of_row _ _ 2 _ _ hrt
  have HR1 : Hid (Row w1 w.heap.size 74 #[.int .i64 0, .int .i64 0, .int .i64 0]) := Lib.hid hrt
  clear hst hrt HP
  unfold tA
  go_wp2_with fail
  refine bodyPost_ret (v := tA (a, s, k)) (results_cell_row Try.results34 _ _ w.heap.size 74 #[.int .i64 (a : Int), .int .i64 s, .int .i64 (k : Int)] (0, 0) _ rfl (((HR1.out.set 0 _).set 1 _).set 2 _) Try.underlying74 rfl (by kernel_rfl)) rfl ?_
  have hk : KF F w0 w1 := (HH.out.be.more HH.out.fl ((Below.refl _ _).alloc (Nat.le_refl _) _)).trans (fun k e => Or.inl e) HST.out.be
  have hf : ¬ F w.heap.size := fun e => by have := HH.out.fl _ e; omega
  have h6 := ((HST.out.setKept (p := ⟨w.heap.size, 0, none⟩) (Or.inr rfl) (.int .i64 (a : Int))).setKept (p := ⟨w.heap.size, 1, none⟩) (Or.inr rfl) (.int .i64 s)).setKept (p := ⟨w.heap.size, 2, none⟩) (Or.inr rfl) (.int .i64 (k : Int))
  have hk3 := ((hk.set (p := ⟨w.heap.size, 0, none⟩) hf (.int .i64 (a : Int))).set (p := ⟨w.heap.size, 1, none⟩) hf (.int .i64 s)).set (p := ⟨w.heap.size, 2, none⟩) hf (.int .i64 (k : Int))
  exact ⟨_, by rw [HPA.out], h6.framed (F := F) (fun k e => Or.inl e) hk3, HFF.out.2.1, HFF.out.2.2.1, HFF.out.2.2.2⟩
/-- What Push leaves. -/
def PsP (w0 : World) (F : Nat → Prop) (B h : Nat) (d : Nat × Int × Nat) (L : List (Nat × Int × Nat)) (x : Nat × Int × Nat) (e : Ending) (w' : World) : Prop :=
  ∃ R, e = .returned (.tuple #[]) ∧ QS w0 F B h R w' ∧ Hp lt18 d R R.length 0 ∧ R.Perm (L ++ [x])
set_option maxRecDepth 100000 in
theorem thpush_any {w0 : World} {F : Nat → Prop} {B h : Nat} (d : Nat × Int × Nat) (L : List (Nat × Int × Nat)) (x : Nat × Int × Nat) (w : World) (H : QS w0 F B h L w) (hl : L.length < 1000) (hx : hd18 x) (hp : Hp lt18 d L L.length 0) :
    Calls Try.prog 36 #[.iface 71 (.pointer (some ⟨h, 0, none⟩)), .iface 74 (tA x)] w fun e w' => PsP w0 F B h d L x e w' := by
  obtain ⟨h2, h3⟩ := heap_push lt18 lt18_ls d L x hp
  refine (push_any lt18 d 71 (.pointer (some ⟨h, 0, none⟩)) (.iface 74 (tA x)) _ _ _ 78 _ (QS.hm (w0 := w0) (F := F) (B := B) (h := h) d) (fun args w => by kernel_rfl) L x w
    ⟨_, meth_ptr18 n_push Try.underlying71 w ⟨h, 0, none⟩ _, tpush_any x L w H hx hl⟩ (by omega)).mono ?_
  rintro e w' ⟨he, hs⟩
  exact ⟨_, he, hs, h2, h3⟩
/-- What queued answers. -/
def QdP (w : World) (d : Nat × Int × Nat) (s : Nat → Int) (e : Ending) (w' : World) : Prop :=
  ∃ h L, e = .returned (.pointer (some ⟨h, 0, none⟩)) ∧ QS w (· < w.heap.size) w.heap.size h L w' ∧ Hp lt18 d L L.length 0 ∧ L.Perm (q18 s)
set_option maxRecDepth 100000 in
set_option maxHeartbeats 1000000 in
theorem tqueued_any (d : Nat × Int × Nat) (c : List Int) (w : World) (hc : c.length = 8) (hx : ∀ j, j < 8 → 0 ≤ c.getD j 0 ∧ c.getD j 0 ≤ 15) :
    Calls Try.prog 32 #[.agg (iCells c)] w fun e w' => QdP w d (fun i => c.getD i 0) e w' := by
  have HIX := Lib.hid (index_sds c hc)
  have HSC := Lib.hid (sds_size c hc)
  have HX := Lib.hid hx
  clear hx hc
  go_enter Try.func32, Try.ntmps32
  go_wp2_with (refine wpList_load_row rfl 27 (.tmp 1) rfl w.heap.size rfl 27 (iCells c) (0, 0) _ ((Row.alloc (heap_alloc_new _ _) _)) Try.underlying27 rfl HSC.out ?_)
  have hq : QS w (· < w.heap.size) w.heap.size (w.heap.size + 1) [] ((w.alloc (.cells (iCells c) 27)).alloc (.cells (hV (.slice none 0 0)) 90)) := by
    refine ⟨⟨.slice none 0 0, row_new _ _ (by simp) _ _, ⟨rfl, Or.inl ⟨rfl, rfl⟩⟩, fun g hg => by simp [Value.ownBlock] at hg⟩, by omega, by omega, fun k hk => ?_, KF.of (((Below.refl _ _).alloc (Nat.le_refl _) _).alloc (by simp) _), fun p hp => by simp at hp, by simp⟩
    simp; omega
  have HQ := Lib.hid hq
  clear hq
  unfold hV at HQ
  generalize (w.alloc (.cells (iCells c) 27)).alloc (.cells #[.slice none 0 0, .func (.func 49) #[] #[]] 90) = w3 at *
  obtain ⟨h, hh⟩ : ∃ h, w.heap.size + 1 = h := ⟨_, rfl⟩
  rw [hh] at HQ ⊢
  clear hh
  go_loopw [9] (fun ii wr => ∃ (k : Nat) (L : List (Nat × Int × Nat)), k ≤ 8 ∧ ii = .int .i64 k ∧ QS w (· < w.heap.size) w.heap.size h L wr ∧ Hp lt18 d L L.length 0 ∧ L.Perm ((q18 fun i => c.getD i 0).take k)) (fun ii _ => 8 - (intOf ii).toNat)
  case atStart => exact ⟨0, [], by omega, rfl, HQ.out, heap_none _ _, List.Perm.refl _⟩
  case round =>
    clear HQ
    obtain ⟨k, L, hk, rfl, hq, hp, hpm⟩ := hrel
    rcases Nat.lt_or_ge k 8 with hlt | hge
    · have hll : L.length = k := by rw [hpm.length_eq, List.length_take, q18_len]; omega
      have hx := HX.out k hlt
      have hix := HIX.out k hlt
      have HTK := Lib.hid (q18_next (fun i => c.getD i 0) k hlt)
      obtain ⟨x, hxx⟩ : ∃ x, c.getD k 0 = x := ⟨_, rfl⟩
      simp only [hxx] at HTK
      rw [hxx] at hx hix
      have HPU := Lib.hid (thpush_any d L (k, x, 0) wr hq (by omega) ⟨by simp only; omega, by simp only; omega, by simp only; omega⟩ hp)
      unfold tA PsP at HPU
      simp only at HPU
      have HK := Lib.hid hlt
      have HPM := Lib.hid hpm
      have hkI : (k : Int) < 8 := by omega
      clear hk hq hp hpm hll hx hxx hlt
      go_wp2_with fail
      refine HPU.out.mono ?_
      rintro e w4 ⟨R, rfl, hs, hp, hpm⟩
      have HS := Lib.hid hs
      have HP := Lib.hid hp
      have HPR := Lib.hid hpm
      clear hs hp hpm HPU
      go_wp2_with fail
      go_roundw
      case rel => exact ⟨k + 1, R, HK.out, by go_num, HS.out, HP.out, by rw [HTK.out]; exact HPR.out.trans (HPM.out.append_right _)⟩
      case measure =>
        have := HK.out
        simp [intOf] <;> omega
    · obtain rfl : k = 8 := by omega
      have HS := Lib.hid hq
      have HP := Lib.hid hp
      have HPM := Lib.hid hpm
      clear hk hge hq hp hpm
      go_wp2_with fail
      go_ret
      exact ⟨h, L, rfl, HS.out, HP.out, by rw [← List.take_of_length_le (show (q18 fun i => c.getD i 0).length ≤ 8 by rw [q18_len]; exact Nat.le_refl _)]; exact HPM.out⟩
end Go.Proofs.Ytalbcimnnihmnaa

/- Layer 13: what pvq's Bits answers, as layer 18's texts ask it. No conditions. -/
namespace Go.Proofs.Ytalbcimnnihmnaa
open Go.RowKit
open M
/-- What the program's Bits of layer 13 answers. -/
def BvOk : Prop := ∀ (k : Nat) (w : World), k ≤ 12 → Calls Try.prog 48 #[.int .i64 (k : Int)] w fun e w' => e = .returned (.int .i64 (btc k : Nat)) ∧ Below w.heap.size w w'
end Go.Proofs.Ytalbcimnnihmnaa
