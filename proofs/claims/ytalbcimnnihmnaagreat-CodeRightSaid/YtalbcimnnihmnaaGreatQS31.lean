/-
  Contracts and plain facts that the laws share; each piece is headed by what it holds and its conditions.
-/
import Derived.Test.YtalbcimnnihmnaaGreatQS30
import Derived.Test.YtalbcimnnihmnaaGreatQS24
import Derived.Deep.RegionHeld3
import Derived.Deep.RegionLaw
import Derived.Deep.AppendLies

/- give's queue as a heap: its methods by a pointer; its state, and what is asked of a heap. Conditions: steps and pulses up to 1000000, 1000 bands. -/
namespace Go.Proofs.YtalbcimnnihmnaaGreat
open Go.RowKit
open M
/-- A method that takes a pointer. -/
theorem meth_ptr18 {P : Program} {T E : TypeId} {name : String} {f : FuncId} (hm : ((P.info? T).bind fun i => i.methods.find? (·.name == name)).map (fun m => (m.path.toList, m.func)) = some ([], some (f, true))) (hT : P.underlying T = some (.pointer E)) (w : World) (a : Addr) (k : Nat) :
    (method (k + 1) T (.pointer (some a)) name).run P w = .ok (f, .pointer (some a)) w := by
  cases hi : P.info? T with
  | none => rw [hi] at hm; simp at hm
  | some i =>
    rw [hi] at hm
    simp only [Option.bind_some] at hm
    cases hf : i.methods.find? (·.name == name) with
    | none => rw [hf] at hm; simp at hm
    | some m =>
      rw [hf] at hm
      simp only [Option.map_some, Option.some.injEq, Prod.mk.injEq] at hm
      obtain ⟨h1, h2⟩ := hm
      simp [method, typeInfo, hi, hf, h1, h2, follow, receiverAt, run_underlying hT, Place.get]
theorem n_len : ((Tryz.prog.info? 80).bind fun i => i.methods.find? (·.name == "Len")).map (fun m => (m.path.toList, m.func)) = some ([], some (39, true)) := by kernel_rfl
theorem n_less : ((Tryz.prog.info? 80).bind fun i => i.methods.find? (·.name == "Less")).map (fun m => (m.path.toList, m.func)) = some ([], some (117, true)) := by kernel_rfl
theorem n_swap : ((Tryz.prog.info? 80).bind fun i => i.methods.find? (·.name == "Swap")).map (fun m => (m.path.toList, m.func)) = some ([], some (120, true)) := by kernel_rfl
theorem n_pop : ((Tryz.prog.info? 80).bind fun i => i.methods.find? (·.name == "Pop")).map (fun m => (m.path.toList, m.func)) = some ([], some (118, true)) := by kernel_rfl
theorem n_push : ((Tryz.prog.info? 80).bind fun i => i.methods.find? (·.name == "Push")).map (fun m => (m.path.toList, m.func)) = some ([], some (119, true)) := by kernel_rfl
/-- The blocks that F names are as they were. -/
structure KF (F : Nat → Prop) (w0 w : World) : Prop where
  os : w.os = w0.os
  tape : w.tape = w0.tape
  output : w.output = w0.output
  size : w0.heap.size ≤ w.heap.size
  block : ∀ k, F k → w.heap[k]? = w0.heap[k]?
theorem KF.refl (F : Nat → Prop) (w : World) : KF F w w := ⟨rfl, rfl, rfl, Nat.le_refl _, fun _ _ => rfl⟩
theorem KF.below {B : Nat} {w0 w : World} (h : KF (· < B) w0 w) : Below B w0 w := ⟨h.os, h.tape, h.output, h.size, h.block⟩
theorem KF.of {B : Nat} {w0 w : World} (h : Below B w0 w) : KF (· < B) w0 w := ⟨h.os, h.tape, h.output, h.size, h.block⟩
theorem KF.more {F : Nat → Prop} {w0 w w' : World} (h : KF F w0 w) (hf : ∀ k, F k → k < w.heap.size) (hb : Below w.heap.size w w') : KF F w0 w' :=
  ⟨hb.os.trans h.os, hb.tape.trans h.tape, hb.output.trans h.output, Nat.le_trans h.size hb.size, fun k hk => (hb.block k (hf k hk)).trans (h.block k hk)⟩
theorem KF.only {F : Nat → Prop} {w0 w w' : World} {g : Nat} (h : KF F w0 w) (hf : ¬ F g) (hb : Only g w w') : KF F w0 w' :=
  ⟨hb.os.trans h.os, hb.tape.trans h.tape, hb.output.trans h.output, Nat.le_trans h.size (Nat.le_of_eq hb.size.symm), fun k hk => (hb.block k (fun e => hf (by rw [← e]; exact hk))).trans (h.block k hk)⟩
theorem KF.set {F : Nat → Prop} {w0 w : World} {p : Addr} (h : KF F w0 w) (hf : ¬ F p.block) (u : Value) : KF F w0 (w.setCell p u) := by
  have hs : (w.setCell p u).heap.size = w.heap.size := by simp [World.setCell]
  exact ⟨h.os, h.tape, h.output, by rw [hs]; exact h.size, fun k hk => (Below.heap_setCell w p u k (fun e => hf (by rw [← e]; exact hk))).trans (h.block k hk)⟩
theorem KF.trans {F K : Nat → Prop} {w0 w1 w : World} (h : KF F w0 w1) (hk : ∀ k, F k → K k) (h2 : KF K w1 w) : KF F w0 w :=
  ⟨h2.os.trans h.os, h2.tape.trans h.tape, h2.output.trans h.output, Nat.le_trans h.size h2.size, fun k e => (h2.block k (hk k e)).trans (h.block k e)⟩
/-- A queue lies behind a pointer; the blocks that F names stay. -/
structure QS (w0 : World) (F : Nat → Prop) (B h : Nat) (l : List (Nat × Int × Nat)) (w : World) : Prop where
  v : ∃ v, Row w h 112 (hV v) ∧ w.ownsRow B 84 3 v l.length (wV l) ∧ ∀ g, v.ownBlock = some g → ¬ F g
  hb : B ≤ h
  fh : ¬ F h
  fl : ∀ k, F k → k < w.heap.size
  be : KF F w0 w
  bd : ∀ p ∈ l, hd18 p
  ln : l.length ≤ 1000
theorem own_far18 {w : World} {B h n size : Nat} {e t : TypeId} {v : Value} {ys : Array Value} {xs : List Value} (hr : Row w h t ys) (ho : w.ownsRow B e size v n xs) (hne : e ≠ t) : v.ownBlock ≠ some h := by
  intro he
  rcases ho.2 with ⟨rfl, _⟩ | ⟨g2, cap2, cur2, rfl, _, hr2, _⟩
  · simp [Value.ownBlock] at he
  · simp only [Value.ownBlock, Option.some.injEq] at he
    subst he
    unfold Row at hr
    rw [hr] at hr2
    injection hr2 with hr2
    injection hr2 with _ hr2 _
    exact hne hr2.symm
theorem QS.below {w0 w w' : World} {F : Nat → Prop} {B h : Nat} {l : List (Nat × Int × Nat)} (H : QS w0 F B h l w) (hb : Below w.heap.size w w') : QS w0 F B h l w' := by
  obtain ⟨v, hr, ho, hf⟩ := H.v
  exact ⟨⟨v, hr.box hb, own13_stay ho hb, hf⟩, H.hb, H.fh, fun k hk => Nat.lt_of_lt_of_le (H.fl k hk) hb.size, H.be.more H.fl hb, H.bd, H.ln⟩
theorem QS.lt {w0 w : World} {F : Nat → Prop} {B h : Nat} {l : List (Nat × Int × Nat)} (H : QS w0 F B h l w) : h < w.heap.size := by
  obtain ⟨v, hr, _, _⟩ := H.v
  exact hr.lt
set_option maxRecDepth 100000 in
theorem QS.hm {w0 : World} {F : Nat → Prop} {B h : Nat} (d : Nat × Int × Nat) : HM lt18 d 80 (.pointer (some ⟨h, 0, none⟩)) 39 117 120 (QS w0 F B h) where
  en := fun args w => by kernel_rfl
  el := fun args w => by kernel_rfl
  es := fun args w => by kernel_rfl
  len := fun l w H => by
    obtain ⟨v, hr, ho, _⟩ := H.v
    refine ⟨_, meth_ptr18 n_len Tryz.underlying80 w ⟨h, 0, none⟩ _, ?_⟩
    have hv : ∃ a cap, v = .slice a l.length cap := by
      rcases ho.2 with ⟨rfl, h0⟩ | ⟨g2, cap2, cur2, rfl, _⟩
      · exact ⟨none, 0, by rw [h0]⟩
      · exact ⟨_, _, rfl⟩
    obtain ⟨a, cap, rfl⟩ := hv
    exact (tlen_any h l.length a cap w hr).mono fun e w' ⟨he, hw⟩ => ⟨he, by subst hw; exact H⟩
  less := fun l w i j H hi hj => by
    obtain ⟨v, hr, ho, _⟩ := H.v
    obtain ⟨g, cap, rfl, _⟩ := own13_form ho (by omega)
    refine ⟨_, meth_ptr18 n_less Tryz.underlying80 w ⟨h, 0, none⟩ _, ?_⟩
    exact (tless_any B h g cap l.length l d i j w H.bd hi hj hr ho).mono fun e w' ⟨he, hb⟩ => ⟨he, H.below hb⟩
  swap := fun l w i j H hi hj => by
    obtain ⟨v, hr, ho, hf⟩ := H.v
    obtain ⟨g, cap, rfl, _⟩ := own13_form ho (by omega)
    refine ⟨_, meth_ptr18 n_swap Tryz.underlying80 w ⟨h, 0, none⟩ _, ?_⟩
    have hne : g ≠ h := fun e => own_far18 hr ho (by decide) (by rw [← e]; rfl)
    refine (tswap_any B h g cap l.length l d i j w hi hj hne hr ho).mono fun e w' ⟨he, ho2, hon⟩ => ⟨he, ⟨⟨_, ?_, by rw [swq_len]; exact ho2, hf⟩, H.hb, H.fh, fun k hk => Nat.lt_of_lt_of_eq (H.fl k hk) hon.size.symm, H.be.only (hf g rfl) hon, ?_, by rw [swq_len]; exact H.ln⟩⟩
    · exact (hon.block h (fun e => hne e.symm)).trans hr
    · intro p hp
      exact H.bd p ((swq_perm d l i j hi hj).mem_iff.1 hp)
end Go.Proofs.YtalbcimnnihmnaaGreat

/- give's queue: Push and Pop. Conditions: steps and pulses up to 1000000, up to 1000 bands. -/
namespace Go.Proofs.YtalbcimnnihmnaaGreat
open Go.RowKit
open M
theorem take_parts : ∃ i, Tryz.prog.info? 84 = some i ∧ i.zero = some (.agg #[.int .i64 0, .int .i64 0, .int .i64 0]) ∧ i.size = 3 ∧ i.bytes = 24 := info_parts (by kernel_rfl)
theorem own_far_set {w : World} {B n size : Nat} {e : TypeId} {v : Value} {xs : List Value} (h : w.ownsRow B e size v n xs) {p : Addr} (hp : v.ownBlock ≠ some p.block) (u : Value) : (w.setCell p u).ownsRow B e size v n xs := by
  refine ⟨h.1, ?_⟩
  rcases h.2 with h0 | ⟨g, cap, cur, rfl, hb, hr, rest⟩
  · exact Or.inl h0
  · exact Or.inr ⟨g, cap, cur, rfl, hb, (Below.heap_setCell w p u g (fun e => hp (by rw [← e]; rfl))).trans hr, rest⟩
section
variable {P : Program}
/-- A band more. -/
theorem step_append_t3 {ops : Array Oper} {o : Oper} {a : Act} {w : World} {K : Act → World → Prop} {Q : Exit → Act → World → Prop} {D : Prop} (hgd : o.guard = none) (s x : Operand) (S E : TypeId) (hS : P.underlying S = some (.slice E))
    (hE : ∃ i, P.info? E = some i ∧ i.zero = some (.agg #[.int .i64 0, .int .i64 0, .int .i64 0]) ∧ i.size = 3 ∧ i.bytes = 24)
    (ho : o.op = .call { callee := .builtin .append, args := #[s, x], argTypes := #[S, S] })
    (base : Nat) (v : Value) (n : Nat) (l : List (Nat × Int × Nat)) (p : Nat × Int × Nat) (hs : a.eval s = v) (hown : w.ownsRow base E 3 v n (wV l)) (g : Nat) (hx : a.eval x = .slice (some ⟨g, 0, none⟩) 1 1)
    (hf : w.heap[g]? = some (.cells #[.int .i64 (p.1 : Int), .int .i64 p.2.1, .int .i64 (p.2.2 : Int)] E (0, 0)))
    (hn : n ≤ 1000000) (hbase : base ≤ w.heap.size)
    (h : ∀ g cap w', w'.ownsRow base E 3 (.slice (some ⟨g, 0, none⟩) (n + 1) cap) (n + 1) (wV (l ++ [p])) → Below base w w' → w.grownBy w' v.ownBlock → (v.ownBlock = some g ∨ g = w.heap.size) → K (a.put o.dst (.slice (some ⟨g, 0, none⟩) (n + 1) cap)) w') :
    if Region.wanted o (yielded ops a.tmps) = true then Oper.wp P o a w K Q else D := by
  have hw : Region.wanted o (yielded ops a.tmps) = true := by simp [Region.wanted, hgd]
  rw [if_pos hw]
  obtain ⟨i0, hi1, hi2, hi3, hi4⟩ := hE
  refine wp_append_lies w s x S ho base E i0 (.agg #[.int .i64 0, .int .i64 0, .int .i64 0]) 3 24 hS hi1 hi2 hi3 hi4 rfl (by decide) v n (wV l) hs hown ⟨g, 0, none⟩ 1 1 (wV [p]) hx rfl ?_ (wV_one [p]) (by decide) (by unfold maxLen; omega) (by omega) hbase _ rfl ?_
  · intro j u hu
    rw [show (⟨g, 0, none⟩ : Addr).add j = ⟨g, j, none⟩ by (simp [Addr.add]; exact fun h => h.symm), cell_of_row _ _ _ _ _ _ hf, ← hu]
    simp [wV, tV]
  · intro g' cap' w' hown' hgrow hat _
    exact h g' cap' w' (by rw [wV_app]; exact hown') ((Below.refl _ _).grown hgrow hbase (fun k hk => own_ge hown k hk)) hgrow hat
end
theorem as_taker (v : Value) (w : World) : (Instr.typeAssert (.iface 84 v) 20 84 false).run Tryz.prog w = .ok v w := by kernel_rfl
set_option maxRecDepth 100000 in
set_option maxHeartbeats 1000000 in
theorem tpush_any {w0 : World} {F : Nat → Prop} {B h : Nat} (p : Nat × Int × Nat) (l : List (Nat × Int × Nat)) (w : World) (H : QS w0 F B h l w) (hp : hd18 p) (hl : l.length < 1000) :
    Calls Tryz.prog 119 #[.pointer (some ⟨h, 0, none⟩), .iface 84 (tA p)] w fun e w' => e = .returned (.tuple #[]) ∧ QS w0 F B h (l ++ [p]) w' := by
  obtain ⟨a, s, k⟩ := p
  obtain ⟨v, hr, ho, hf⟩ := H.v
  have hfar := own_far18 hr ho (by decide)
  have HO := Lib.hid (show w.drew.ownsRow B 84 3 v l.length (wV l) from ho)
  have hr : Row w.drew h 112 (hV v) := hr
  have HH := Lib.hid H
  have HBS : Hid (B ≤ w.drew.heap.size) := Lib.hid (Nat.le_of_lt (Nat.lt_of_le_of_lt H.hb hr.lt))
  have HN : Hid (l.length ≤ 1000000) := Lib.hid (by omega)
  have HN2 := Lib.hid hl
  have HU := Lib.hid hp
  have HFAR := Lib.hid hfar
  have HC : Hid (∀ w7 : World, w.drew.grownBy w7 v.ownBlock → Row w7 h 112 (hV v)) := Lib.hid fun w7 hg => hr.grown hg hr.lt (fun e => hfar e.symm)
  have HKA : Hid (∀ o : Obj, (w.alloc o).drew.cell? ⟨h, 0, none⟩ = some v) := Lib.hid fun o => cell_of_row _ _ 0 _ _ _ (show Row (w.alloc o).drew h 112 (hV v) from hr.alloc o)
  have hc0 : w.drew.cell? ⟨h, 0, none⟩ = some v := cell_of_row _ _ 0 _ _ _ hr
  have HF := Lib.hid hf
  clear H hr ho hp hl hfar hf
  have hta := fun w => as_taker (.agg #[.int .i64 (a : Int), .int .i64 s, .int .i64 (k : Int)]) w
  have hka := HKA.out
  unfold tA
  simp only
  go_enter Tryz.func119, Tryz.ntmps119
  go_region_law ((refine step_append_t3 (by rfl) _ _ 110 84 Tryz.underlying110 take_parts rfl B _ l.length l (a, s, k) rfl (HO.out.alloc _) _ rfl (heap_alloc_new _ _) HN.out (Nat.le_trans HBS.out (by simp)) ?_; intro g7 cap7 w7 hown2 hb2 hg2 hat2; have hc7 : w7.cell? ⟨h, 0, none⟩ = some v := cell_of_row _ _ 0 _ _ _ (HC.out w7 (gb_trans (World.grownBy_alloc _ _ _) hg2)); have hf7 := Row.free (HC.out w7 (gb_trans (World.grownBy_alloc _ _ _) hg2)) 0))
  all_goals
    have hr7 := HC.out w7 (gb_trans (World.grownBy_alloc _ _ _) hg2)
    have hne := own_far18 hr7 hown2 (by decide)
    go_end0
    have hb3 := (below_drew1 ((Below.refl B w).alloc HBS.out _)).trans hb2
    have hns : (w7.setCell ⟨h, 0, none⟩ (.slice (some ⟨g7, 0, none⟩) (l.length + 1) cap7)).heap.size = w7.heap.size := by simp [World.setCell]
    refine ⟨rfl, ⟨⟨.slice (some ⟨g7, 0, none⟩) (l.length + 1) cap7, ?_, ?_, ?_⟩, HH.out.hb, HH.out.fh, fun k hk => ?_, ⟨hb3.os.trans HH.out.be.os, hb3.tape.trans HH.out.be.tape, hb3.output.trans HH.out.be.output, by rw [hns]; exact Nat.le_trans HH.out.be.size hb3.size, fun k hk => ?_⟩, ?_, ?_⟩⟩
    · exact hr7.set 0 _
    · rw [List.length_append]
      exact own_far_set hown2 (p := ⟨h, 0, none⟩) hne _
    · intro g hg hF
      simp only [Value.ownBlock, Option.some.injEq] at hg
      subst hg
      rcases hat2 with e | e
      · exact HF.out _ e hF
      · have h5 := HH.out.fl _ hF
        have h6 : (w.alloc (.cells #[.int .i64 (a : Int), .int .i64 s, .int .i64 (k : Int)] 84)).heap.size = w.heap.size + 1 := by simp
        have h7 : g7 = w.heap.size + 1 := e.trans h6
        omega
    · rw [hns]
      exact Nat.lt_of_lt_of_le (HH.out.fl k hk) hb3.size
    · have h5 := HH.out.fl k hk
      have h8 := hg2.block k (by show k < (w.alloc _).heap.size; simp; omega) (fun e => HF.out k e.symm hk)
      have h9 := (Below.heap_setCell w7 ⟨h, 0, none⟩ (.slice (some ⟨g7, 0, none⟩) (l.length + 1) cap7) k (fun e => HH.out.fh (by have e2 : k = h := e; rw [← e2]; exact hk))).trans h8
      exact (h9.trans ((Below.refl _ w).alloc (Nat.le_refl _) _ |>.block k h5)).trans (HH.out.be.block k hk)
    · intro p hp
      rcases List.mem_append.1 hp with hp | hp
      · exact HH.out.bd p hp
      · rw [List.mem_singleton.1 hp]
        exact HU.out
    · rw [List.length_append]; have := HN2.out; simp only [List.length_singleton]; omega
theorem own_shrink {w : World} {B g cap n m size : Nat} {e : TypeId} {xs : List Value} (h : w.ownsRow B e size (.slice (some ⟨g, 0, none⟩) n cap) n xs) (hm : m ≤ n) : w.ownsRow B e size (.slice (some ⟨g, 0, none⟩) m cap) m (xs.take (m * size)) := by
  have hms : m * size ≤ n * size := Nat.mul_le_mul_right size hm
  refine ⟨by rw [List.length_take, h.1]; omega, ?_⟩
  rcases h.2 with ⟨h1, _⟩ | ⟨g', cap', cur, h1, hbs, hr, hnc, hcm, hsz, htk⟩
  · simp at h1
  · simp only [Value.slice.injEq, Option.some.injEq, Addr.mk.injEq, and_true, true_and] at h1
    obtain ⟨rfl, rfl⟩ := h1
    refine Or.inr ⟨g, cap, cur, rfl, hbs, hr, by omega, hcm, hsz, ?_⟩
    rw [← htk, List.take_take, Nat.min_eq_left hms]
set_option maxRecDepth 100000 in
set_option maxHeartbeats 1000000 in
theorem tpop_any {w0 : World} {F : Nat → Prop} {B h : Nat} (d : Nat × Int × Nat) (l : List (Nat × Int × Nat)) (w : World) (H : QS w0 F B h l w) (h0 : 0 < l.length) :
    Calls Tryz.prog 118 #[.pointer (some ⟨h, 0, none⟩)] w fun e w' => e = .returned (.iface 84 (tA (l.getD (l.length - 1) d))) ∧ QS w0 F B h (l.take (l.length - 1)) w' := by
  have hl := H.ln
  obtain ⟨v, hr, ho, hf⟩ := H.v
  obtain ⟨g, cap, rfl, _⟩ := own13_form ho h0
  have hfar : g ≠ h := fun e => own_far18 hr ho (by decide) (by rw [← e]; rfl)
  have HH := Lib.hid H
  have HF := Lib.hid hf
  have hc0 : w.cell? ⟨h, 0, none⟩ = some (.slice (some ⟨g, 0, none⟩) l.length cap) := cell_of_row _ _ 0 _ _ _ hr
  have HO := Lib.hid ho
  obtain ⟨m, hm⟩ : ∃ m, l.length = m + 1 := ⟨l.length - 1, by omega⟩
  obtain ⟨a0, a1, a2⟩ := own_t3 ho d m (by omega)
  have hcap : m + 1 ≤ cap := by
    rcases ho.2 with ⟨h1, _⟩ | ⟨g', cap', cur, h1, hbs, hr, hnc, hcm, hsz, htk⟩
    · simp at h1
    · simp only [Value.slice.injEq, Option.some.injEq, Addr.mk.injEq, and_true, true_and] at h1
      omega
  rw [hm] at hc0 HO ⊢
  rw [Nat.add_sub_cancel]
  have HM2 := Lib.hid hm
  obtain ⟨⟨a, s, k⟩, hp⟩ : ∃ p, l.getD m d = p := ⟨_, rfl⟩
  rw [hp] at a0 a1 a2 ⊢
  unfold tA
  simp only at a0 a1 a2 ⊢
  have hmI : ((m + 1 : Nat) : Int) - 1 = (m : Int) := by omega
  have hmB : (m : Int) ≤ 1000000 := by omega
  have hw1 : wrap64 (((m + 1 : Nat) : Int) - 1) = (m : Int) := by rw [hmI, wrap64]; omega
  have hml : (m : Int) < ((m + 1 : Nat) : Int) := by omega
  have hml2 : m < m + 1 := by omega
  have hcI : (m : Int) ≤ (cap : Int) := by omega
  have hcN : m ≤ cap := by omega
  have HA := Lib.hid fun o : Obj => hr.alloc o
  have HOA := Lib.hid fun o : Obj => ho.alloc o
  have HBA := Lib.hid fun o : Obj => H.be.more H.fl ((Below.refl _ _).alloc (Nat.le_refl _) o)
  have hne1 : w.heap.size ≠ h := fun e => by have := hr.lt; omega
  have hne2 : h ≠ w.heap.size := fun e => by have := hr.lt; omega
  have hca : ∀ o : Obj, (w.alloc o).cell? ⟨h, 0, none⟩ = some (.slice (some ⟨g, 0, none⟩) (m + 1) cap) := fun o => by rw [cell_of_row _ _ 0 _ _ _ (HA.out o), HM2.out]; rfl
  have hfa : ∀ o : Obj, (w.alloc o).frozen? ⟨h, 0, none⟩ = false := fun o => (HA.out o).free 0
  clear H hr ho hl h0 hp hm hcap hf
  have HFAR : Hid (g ≠ h) := Lib.hid hfar
  clear hfar
  go_enter Tryz.func118, Tryz.ntmps118
  go_wp2_with fail
  go_ret
  refine ⟨rfl, ⟨⟨.slice (some ⟨g, 0, none⟩) m cap, ?_, ?_, fun g' hg' => HF.out g' (by simpa [Value.ownBlock] using hg')⟩, HH.out.hb, HH.out.fh, fun k hk => Nat.lt_of_lt_of_le (HH.out.fl k hk) ?_, KF.set (HBA.out _) (p := ⟨h, 0, none⟩) HH.out.fh _, ?_, ?_⟩⟩
  · exact (HA.out _).set 0 _
  · have hl : (l.take m).length = m := by rw [List.length_take, HM2.out]; omega
    rw [hl, wV_take]
    refine own_far_set (own_shrink (n := m + 1) ?_ (by omega)) (p := ⟨h, 0, none⟩) (by simpa [Value.ownBlock] using HFAR.out) _
    rw [← HM2.out]
    exact HOA.out _
  · simp [World.setCell]
  · intro p hp
    exact HH.out.bd p (List.mem_of_mem_take hp)
  · rw [List.length_take]; have := HH.out.ln; omega
end Go.Proofs.YtalbcimnnihmnaaGreat

/- give's take, heap.Push over its queue, and queued. Conditions: steps and pulses up to 1000000, up to 1000 bands. -/
namespace Go.Proofs.YtalbcimnnihmnaaGreat
open Go.RowKit
open M
set_option maxRecDepth 100000 in
/-- A cell of a block that stays, and is another one's. -/
theorem QS.setKept {w0 w : World} {F : Nat → Prop} {B h : Nat} {l : List (Nat × Int × Nat)} (H : QS w0 F B h l w) {p : Addr} (h1 : F p.block) (u : Value) : QS (w.setCell p u) F B h l (w.setCell p u) := by
  obtain ⟨v, hr, ho, hf⟩ := H.v
  have hs : (w.setCell p u).heap.size = w.heap.size := by simp [World.setCell]
  exact ⟨⟨v, hr.far (fun e => H.fh (by rw [e]; exact h1)) u, own_far_set ho (fun e => hf _ e h1) u, hf⟩, H.hb, H.fh, fun k hk => by rw [hs]; exact H.fl k hk, KF.refl _ _, H.bd, H.ln⟩
set_option maxRecDepth 100000 in
theorem QS.again {w0 w : World} {F : Nat → Prop} {B h : Nat} {l : List (Nat × Int × Nat)} (H : QS w0 F B h l w) : QS w F B h l w :=
  ⟨H.v, H.hb, H.fh, H.fl, KF.refl _ _, H.bd, H.ln⟩
set_option maxRecDepth 100000 in
theorem QS.drewn {w0 w : World} {F : Nat → Prop} {B h : Nat} {l : List (Nat × Int × Nat)} (H : QS w0 F B h l w) : QS w.drew F B h l w.drew :=
  ⟨H.v, H.hb, H.fh, H.fl, KF.refl _ _, H.bd, H.ln⟩
set_option maxRecDepth 100000 in
theorem QS.framed {w0 w1 w : World} {F K : Nat → Prop} {B h : Nat} {l : List (Nat × Int × Nat)} (H : QS w1 K B h l w) (hk : ∀ k, F k → K k) (hb : KF F w0 w) : QS w0 F B h l w := by
  obtain ⟨v, hr, ho, hf⟩ := H.v
  exact ⟨⟨v, hr, ho, fun g hg e => hf g hg (hk _ e)⟩, H.hb, fun e => H.fh (hk _ e), fun k e => H.fl k (hk k e), hb, H.bd, H.ln⟩
set_option maxRecDepth 100000 in
/-- .. over one block more that stays. -/
theorem QS.guard {w0 w : World} {F : Nat → Prop} {B h : Nat} {l : List (Nat × Int × Nat)} (H : QS w0 F B h l w) (o : Obj) : QS (w.alloc o) (fun k => F k ∨ k = w.heap.size) B h l (w.alloc o) := by
  have h1 := H.below ((Below.refl _ _).alloc (Nat.le_refl _) o)
  obtain ⟨v, hr, ho, hf⟩ := H.v
  have hhl := hr.lt
  refine ⟨⟨v, hr.alloc o, ho.alloc o, fun g hg e => ?_⟩, H.hb, fun e => ?_, fun k hk => ?_, KF.refl _ _, H.bd, H.ln⟩
  · have := ho.lt g hg
    rcases e with e | e
    · exact hf g hg e
    · omega
  · rcases e with e | e
    · exact H.fh e
    · omega
  · have hs : (w.alloc o).heap.size = w.heap.size + 1 := by simp
    rw [hs]
    rcases hk with e | e
    · have := H.fl k e; omega
    · omega
/-- What take answers, and leaves. -/
def TkP (w0 : World) (F : Nat → Prop) (B h : Nat) (d : Nat × Int × Nat) (L : List (Nat × Int × Nat)) (n : Nat) (e : Ending) (w' : World) : Prop :=
  ∃ R, e = .returned (tA (L.getD 0 d)) ∧ QS w0 F B h R w' ∧ R.length = n ∧ Hp lt18 d R R.length 0 ∧ L.Perm (L.getD 0 d :: R)
set_option maxRecDepth 100000 in
theorem taker_zero (w : World) : (zeroValue 84).run Tryz.prog w = .ok (.agg #[.int .i64 0, .int .i64 0, .int .i64 0]) w := by
  obtain ⟨i, h1, h2, _, _⟩ := take_parts
  simp [zeroValue, typeInfo, h1, h2]
set_option maxRecDepth 100000 in
set_option maxHeartbeats 1000000 in
theorem ttake_any {w0 : World} {F : Nat → Prop} {B h : Nat} (d : Nat × Int × Nat) (L : List (Nat × Int × Nat)) (n : Nat) (w : World) (H : QS w0 F B h L w) (hl : L.length = n + 1) (hp : Hp lt18 d L L.length 0) :
    Calls Tryz.prog 40 #[.pointer (some ⟨h, 0, none⟩)] w fun e w' => TkP w0 F B h d L n e w' := by
  have HH := Lib.hid H
  have HHM := Lib.hid fun o : Obj => (QS.hm (w0 := w.alloc o) (F := fun k => F k ∨ k = w.heap.size) (B := B) (h := h) d)
  have HFF := Lib.hid (heap_pop lt18 lt18_ls d L n hl hp)
  have HLN := H.ln
  have HP := Lib.hid fun o : Obj => pop_any lt18 d 80 (.pointer (some ⟨h, 0, none⟩)) _ _ _ 118 (fun p => .iface 84 (tA p)) _ (HHM.out o) (fun args w => by kernel_rfl)
    (fun l w hs hl0 => ⟨_, meth_ptr18 n_pop Tryz.underlying80 w ⟨h, 0, none⟩ _, tpop_any d l w hs hl0⟩) L (w.alloc o) (H.guard o) (by omega) (by omega)
  have HNE := Lib.hid (show w.heap.size ≠ h by have := H.lt; omega)
  have HRT : Hid (Row (w.alloc (.cells #[.int .i64 0, .int .i64 0, .int .i64 0] 84)) w.heap.size 84 #[.int .i64 0, .int .i64 0, .int .i64 0]) := Lib.hid (heap_alloc_new _ _)
  have hz := taker_zero
  have HL := Lib.hid (show L.length - 1 = n by omega)
  have hta := as_taker
  obtain ⟨⟨a, s, k⟩, hpa⟩ : ∃ p, L.getD 0 d = p := ⟨_, rfl⟩
  have HPA := Lib.hid hpa
  clear H hl hp hpa HLN HHM
  go_enter Tryz.func40, Tryz.ntmps40
  go_wp2_with fail
  refine (HP.out _).mono ?_
  rintro e w1 ⟨rfl, hst⟩
  rw [HL.out] at hst ⊢
  rw [HFF.out.1, HPA.out]
  have HST := Lib.hid hst
  have hrt := (hst.be.block w.heap.size (Or.inr rfl)).trans HRT.out
  have c0 := cell_of_row _ _ 0 _ _ _ hrt
  have c1 := cell_of_row _ _ 1 _ _ _ hrt
  have c2 := cell_of_row _ _ 2 _ _ _ hrt
  have f0 := frozen_of_row _ _ 0 _ _ hrt
  have f1 := frozen_of_row _ _ 1 _ _ hrt
  have f2 := frozen_of_row _ _ 2 _ _ hrt
  have HR1 : Hid (Row w1 w.heap.size 84 #[.int .i64 0, .int .i64 0, .int .i64 0]) := Lib.hid hrt
  clear hst hrt HP
  unfold tA
  go_wp2_with fail
  refine bodyPost_ret (v := tA (a, s, k)) (results_cell_row Tryz.results40 _ _ w.heap.size 84 #[.int .i64 (a : Int), .int .i64 s, .int .i64 (k : Int)] (0, 0) _ rfl (((HR1.out.set 0 _).set 1 _).set 2 _) Tryz.underlying84 rfl (by kernel_rfl)) rfl ?_
  have hk : KF F w0 w1 := (HH.out.be.more HH.out.fl ((Below.refl _ _).alloc (Nat.le_refl _) _)).trans (fun k e => Or.inl e) HST.out.be
  have hf : ¬ F w.heap.size := fun e => by have := HH.out.fl _ e; omega
  have h6 := ((HST.out.setKept (p := ⟨w.heap.size, 0, none⟩) (Or.inr rfl) (.int .i64 (a : Int))).setKept (p := ⟨w.heap.size, 1, none⟩) (Or.inr rfl) (.int .i64 s)).setKept (p := ⟨w.heap.size, 2, none⟩) (Or.inr rfl) (.int .i64 (k : Int))
  have hk3 := ((hk.set (p := ⟨w.heap.size, 0, none⟩) hf (.int .i64 (a : Int))).set (p := ⟨w.heap.size, 1, none⟩) hf (.int .i64 s)).set (p := ⟨w.heap.size, 2, none⟩) hf (.int .i64 (k : Int))
  exact ⟨_, by rw [HPA.out], h6.framed (F := F) (fun k e => Or.inl e) hk3, HFF.out.2.1, HFF.out.2.2.1, HFF.out.2.2.2⟩
/-- What Push leaves. -/
def PsP (w0 : World) (F : Nat → Prop) (B h : Nat) (d : Nat × Int × Nat) (L : List (Nat × Int × Nat)) (x : Nat × Int × Nat) (e : Ending) (w' : World) : Prop :=
  ∃ R, e = .returned (.tuple #[]) ∧ QS w0 F B h R w' ∧ Hp lt18 d R R.length 0 ∧ R.Perm (L ++ [x])
set_option maxRecDepth 100000 in
theorem thpush_any {w0 : World} {F : Nat → Prop} {B h : Nat} (d : Nat × Int × Nat) (L : List (Nat × Int × Nat)) (x : Nat × Int × Nat) (w : World) (H : QS w0 F B h L w) (hl : L.length < 1000) (hx : hd18 x) (hp : Hp lt18 d L L.length 0) :
    Calls Tryz.prog 42 #[.iface 80 (.pointer (some ⟨h, 0, none⟩)), .iface 84 (tA x)] w fun e w' => PsP w0 F B h d L x e w' := by
  obtain ⟨h2, h3⟩ := heap_push lt18 lt18_ls d L x hp
  refine (push_any lt18 d 80 (.pointer (some ⟨h, 0, none⟩)) (.iface 84 (tA x)) _ _ _ 119 _ (QS.hm (w0 := w0) (F := F) (B := B) (h := h) d) (fun args w => by kernel_rfl) L x w
    ⟨_, meth_ptr18 n_push Tryz.underlying80 w ⟨h, 0, none⟩ _, tpush_any x L w H hx hl⟩ (by omega)).mono ?_
  rintro e w' ⟨he, hs⟩
  exact ⟨_, he, hs, h2, h3⟩
/-- What queued answers. -/
def QdP (w : World) (d : Nat × Int × Nat) (s : Nat → Int) (e : Ending) (w' : World) : Prop :=
  ∃ h L, e = .returned (.pointer (some ⟨h, 0, none⟩)) ∧ QS w (· < w.heap.size) w.heap.size h L w' ∧ Hp lt18 d L L.length 0 ∧ L.Perm (q18 s)
set_option maxRecDepth 100000 in
set_option maxHeartbeats 1000000 in
theorem tqueued_any (d : Nat × Int × Nat) (c : List Int) (w : World) (hc : c.length = 8) (hx : ∀ j, j < 8 → 0 ≤ c.getD j 0 ∧ c.getD j 0 ≤ 15) :
    Calls Tryz.prog 38 #[.agg (iCells c)] w fun e w' => QdP w d (fun i => c.getD i 0) e w' := by
  have HIX := Lib.hid (index_sds c hc)
  have HSC := Lib.hid (sds_size c hc)
  have HX := Lib.hid hx
  clear hx hc
  go_enter Tryz.func38, Tryz.ntmps38
  go_wp2_with (refine wpList_load_row rfl 25 (.tmp 1) rfl w.heap.size rfl 25 (iCells c) (0, 0) _ ((Row.alloc (heap_alloc_new _ _) _)) Tryz.underlying25 rfl HSC.out ?_)
  have hq : QS w (· < w.heap.size) w.heap.size (w.heap.size + 1) [] ((w.alloc (.cells (iCells c) 25)).alloc (.cells (hV (.slice none 0 0)) 112)) := by
    refine ⟨⟨.slice none 0 0, row_new _ _ (by simp) _ _, ⟨rfl, Or.inl ⟨rfl, rfl⟩⟩, fun g hg => by simp [Value.ownBlock] at hg⟩, by omega, by omega, fun k hk => ?_, KF.of (((Below.refl _ _).alloc (Nat.le_refl _) _).alloc (by simp) _), fun p hp => by simp at hp, by simp⟩
    simp; omega
  have HQ := Lib.hid hq
  clear hq
  unfold hV at HQ
  generalize (w.alloc (.cells (iCells c) 25)).alloc (.cells #[.slice none 0 0, .func (.func 66) #[] #[]] 112) = w3 at *
  obtain ⟨h, hh⟩ : ∃ h, w.heap.size + 1 = h := ⟨_, rfl⟩
  rw [hh] at HQ ⊢
  clear hh
  go_loopw [9] (fun ii wr => ∃ (k : Nat) (L : List (Nat × Int × Nat)), k ≤ 8 ∧ ii = .int .i64 k ∧ QS w (· < w.heap.size) w.heap.size h L wr ∧ Hp lt18 d L L.length 0 ∧ L.Perm ((q18 fun i => c.getD i 0).take k)) (fun ii _ => 8 - (intOf ii).toNat)
  case atStart => exact ⟨0, [], by omega, rfl, HQ.out, heap_none _ _, List.Perm.refl _⟩
  case round =>
    clear HQ
    obtain ⟨k, L, hk, rfl, hq, hp, hpm⟩ := hrel
    rcases Nat.lt_or_ge k 8 with hlt | hge
    · have hll : L.length = k := by rw [hpm.length_eq, List.length_take, q18_len]; omega
      have hx := HX.out k hlt
      have hix := HIX.out k hlt
      have HTK := Lib.hid (q18_next (fun i => c.getD i 0) k hlt)
      obtain ⟨x, hxx⟩ : ∃ x, c.getD k 0 = x := ⟨_, rfl⟩
      simp only [hxx] at HTK
      rw [hxx] at hx hix
      have HPU := Lib.hid (thpush_any d L (k, x, 0) wr hq (by omega) ⟨by simp only; omega, by simp only; omega, by simp only; omega⟩ hp)
      unfold tA PsP at HPU
      simp only at HPU
      have HK := Lib.hid hlt
      have HPM := Lib.hid hpm
      have hkI : (k : Int) < 8 := by omega
      clear hk hq hp hpm hll hx hxx hlt
      go_wp2_with fail
      refine HPU.out.mono ?_
      rintro e w4 ⟨R, rfl, hs, hp, hpm⟩
      have HS := Lib.hid hs
      have HP := Lib.hid hp
      have HPR := Lib.hid hpm
      clear hs hp hpm HPU
      go_wp2_with fail
      go_roundw
      case rel => exact ⟨k + 1, R, HK.out, by go_num, HS.out, HP.out, by rw [HTK.out]; exact HPR.out.trans (HPM.out.append_right _)⟩
      case measure =>
        have := HK.out
        simp [intOf] <;> omega
    · obtain rfl : k = 8 := by omega
      have HS := Lib.hid hq
      have HP := Lib.hid hp
      have HPM := Lib.hid hpm
      clear hk hge hq hp hpm
      go_wp2_with fail
      go_ret
      exact ⟨h, L, rfl, HS.out, HP.out, by rw [← List.take_of_length_le (show (q18 fun i => c.getD i 0).length ≤ 8 by rw [q18_len]; exact Nat.le_refl _)]; exact HPM.out⟩
end Go.Proofs.YtalbcimnnihmnaaGreat
