/-
  pulse's queue: Push and Pop. Conditions: gains up to 32768, coefficients up to 2^22, up to 1000000 coefficients.
-/
import Derived.Test.YtnjohdgdmnkjlaaSc
import Derived.Deep.RegionHeld3
import Derived.Deep.RegionLaw
namespace Go.Proofs.Ytnjohdgdmnkjlaa
open Go.RowKit
open M
theorem coef_parts : ∃ i, Try.prog.info? 49 = some i ∧ i.zero = some (.agg #[.int .i64 0, .int .i64 0, .int .i64 0]) ∧ i.size = 3 ∧ i.bytes = 24 := info_parts (by kernel_rfl)
theorem own_far_set {w : World} {B n size : Nat} {e : TypeId} {v : Value} {xs : List Value} (h : w.ownsRow B e size v n xs) {p : Addr} (hp : v.ownBlock ≠ some p.block) (u : Value) : (w.setCell p u).ownsRow B e size v n xs := by
  refine ⟨h.1, ?_⟩
  rcases h.2 with h0 | ⟨g, cap, cur, rfl, hb, hr, rest⟩
  · exact Or.inl h0
  · exact Or.inr ⟨g, cap, cur, rfl, hb, (Below.heap_setCell w p u g (fun e => hp (by rw [← e]; rfl))).trans hr, rest⟩
section
variable {P : Program}
/-- A coefficient more. -/
theorem step_append_c3 {ops : Array Oper} {o : Oper} {a : Act} {w : World} {K : Act → World → Prop} {Q : Exit → Act → World → Prop} {D : Prop} (hgd : o.guard = none) (s x : Operand) (S E : TypeId) (hS : P.underlying S = some (.slice E))
    (hE : ∃ i, P.info? E = some i ∧ i.zero = some (.agg #[.int .i64 0, .int .i64 0, .int .i64 0]) ∧ i.size = 3 ∧ i.bytes = 24)
    (ho : o.op = .call { callee := .builtin .append, args := #[s, x], argTypes := #[S, S] })
    (base : Nat) (v : Value) (n : Nat) (G : Int) (l : List (Nat × Int)) (p : Nat × Int) (hs : a.eval s = v) (hown : w.ownsRow base E 3 v n (qV G l)) (g : Nat) (hx : a.eval x = .slice (some ⟨g, 0, none⟩) 1 1)
    (hf : w.heap[g]? = some (.cells #[.int .i64 (p.1 : Int), .int .i64 G, .int .i64 p.2] E (0, 0)))
    (hn : n ≤ 1000000) (hbase : base ≤ w.heap.size)
    (h : ∀ v' w', w'.ownsRow base E 3 v' (n + 1) (qV G (l ++ [p])) → Below base w w' → w.grownBy w' v.ownBlock → K (a.put o.dst v') w') :
    if Region.wanted o (yielded ops a.tmps) = true then Oper.wp P o a w K Q else D := by
  have hw : Region.wanted o (yielded ops a.tmps) = true := by simp [Region.wanted, hgd]
  rw [if_pos hw]
  obtain ⟨i0, hi1, hi2, hi3, hi4⟩ := hE
  refine wp_append_own w s x S ho base E i0 (.agg #[.int .i64 0, .int .i64 0, .int .i64 0]) 3 24 hS hi1 hi2 hi3 hi4 rfl (by decide) v n (qV G l) hs hown ⟨g, 0, none⟩ 1 1 (qV G [p]) hx rfl ?_ (qV_one G [p]) (by unfold maxLen; omega) (by omega) hbase ?_
  · intro j u hu
    rw [show (⟨g, 0, none⟩ : Addr).add j = ⟨g, j, none⟩ by (simp [Addr.add]; exact fun h => h.symm), cell_of_row _ _ _ _ _ _ hf, ← hu]
    simp [qV, cV]
  · intro v' w' hown' hgrow _
    exact h v' w' (by rw [qV_app]; exact hown') ((Below.refl _ _).grown hgrow hbase (fun k hk => own_ge hown k hk)) hgrow
end
theorem as_coef (v : Value) (w : World) : (Instr.typeAssert (.iface 49 v) 20 49 false).run Try.prog w = .ok v w := by kernel_rfl
set_option maxRecDepth 100000 in
set_option maxHeartbeats 1000000 in
theorem qpush_any {w0 : World} {B h g : Nat} {G : Int} (a : Nat) (u : Int) (l : List (Nat × Int)) (w : World) (H : QS w0 (· < B) B h g G l w) (hu : -4194304 ≤ u ∧ u ≤ 4194304) (hl : l.length < 1000) :
    Calls Try.prog 54 #[.pointer (some ⟨h, 0, none⟩), .iface 49 (.agg #[.int .i64 (a : Int), .int .i64 G, .int .i64 u])] w fun e w' => e = .returned (.tuple #[]) ∧ ∃ g, QS w0 (· < B) B h g G (l ++ [(a, u)]) w' := by
  obtain ⟨cap, hr, ho⟩ := H.v
  obtain ⟨v, hv⟩ : ∃ v, Value.slice (some ⟨g, 0, none⟩) l.length cap = v := ⟨_, rfl⟩
  rw [hv] at hr ho
  clear hv
  have hfar := own_far14 hr ho (by decide)
  have HO := Lib.hid (show w.drew.ownsRow B 49 3 v l.length (qV G l) from ho)
  have hr : Row w.drew h 61 #[v] := hr
  have HR := Lib.hid hr
  have HH := Lib.hid H
  have HBS : Hid (B ≤ w.drew.heap.size) := Lib.hid (Nat.le_of_lt (Nat.lt_of_le_of_lt H.hb hr.lt))
  have c0 := cell_of_row _ _ 0 _ _ _ hr
  have HN : Hid (l.length ≤ 1000000) := Lib.hid (by omega)
  have HN2 := Lib.hid hl
  have HU := Lib.hid hu
  have HFAR := Lib.hid hfar
  have HC : Hid (∀ w7 : World, w.drew.grownBy w7 v.ownBlock → Row w7 h 61 #[v]) := Lib.hid fun w7 hg => hr.grown hg hr.lt (fun e => hfar e.symm)
  have HKA : Hid (∀ o : Obj, (w.alloc o).drew.cell? ⟨h, 0, none⟩ = some v) := Lib.hid fun o => cell_of_row _ _ 0 _ _ _ (show Row (w.alloc o).drew h 61 #[v] from hr.alloc o)
  have hc0 : w.drew.cell? ⟨h, 0, none⟩ = some v := c0
  clear H hr ho hu hl hfar c0
  have hta := fun w => as_coef (.agg #[.int .i64 (a : Int), .int .i64 G, .int .i64 u]) w
  have hka := HKA.out
  go_enter Try.func54, Try.ntmps54
  go_region_law ((refine step_append_c3 (by rfl) _ _ 61 49 Try.underlying61 coef_parts rfl B _ l.length G l (a, u) rfl (HO.out.alloc _) _ rfl (heap_alloc_new _ _) HN.out (Nat.le_trans HBS.out (by simp)) ?_; intro v7 w7 hown2 hb2 hg2; obtain ⟨g7, cap7, rfl, hg7, _⟩ := own13_form hown2 (Nat.succ_pos _); have hc7 : w7.cell? ⟨h, 0, none⟩ = some v := cell_of_row _ _ 0 _ _ _ (HC.out w7 (gb_trans (World.grownBy_alloc _ _ _) hg2)); have hf7 := Row.free (HC.out w7 (gb_trans (World.grownBy_alloc _ _ _) hg2)) 0))
  all_goals
    have hr7 := HC.out w7 (gb_trans (World.grownBy_alloc _ _ _) hg2)
    have hne := own_far14 hr7 hown2 (by decide)
    go_end0
    have hbe := Below.setCell ((below_drew1 (HH.out.be.below.alloc HBS.out _)).trans hb2) (p := ⟨h, 0, none⟩) HH.out.hb (.slice (some ⟨g7, 0, none⟩) (l.length + 1) cap7)
    refine ⟨rfl, g7, ⟨⟨cap7, ?_, ?_⟩, HH.out.hb, by omega, HH.out.fh, fun k hk => Nat.lt_of_lt_of_le hk ?_, KF.of hbe, ?_, ?_⟩⟩
    · rw [List.length_append]
      exact hr7.set 0 _
    · rw [List.length_append]
      exact own_far_set hown2 (p := ⟨h, 0, none⟩) hne _
    · have h8 := hr7.lt
      have h9 : (w7.setCell ⟨h, 0, none⟩ (.slice (some ⟨g7, 0, none⟩) (l.length + 1) cap7)).heap.size = w7.heap.size := by simp [World.setCell]
      have h10 := HH.out.hb
      rw [h9]; omega
    · intro p hp
      rcases List.mem_append.1 hp with hp | hp
      · exact HH.out.bd p hp
      · rw [List.mem_singleton.1 hp]
        exact HU.out
    · rw [List.length_append]; have := HN2.out; simp only [List.length_singleton]; omega
theorem qV_take (G : Int) : ∀ (l : List (Nat × Int)) (m : Nat), qV G (l.take m) = (qV G l).take (m * 3)
  | [], m => by simp [qV]
  | p :: l, 0 => by simp [qV]
  | p :: l, m + 1 => by
    rw [List.take_succ_cons, qV, qV, qV_take G l m, show (m + 1) * 3 = 3 + m * 3 by omega, show (3 : Nat) = (cV G p).length from rfl, List.take_length_add_append]
theorem own_shrink {w : World} {B g cap n m size : Nat} {e : TypeId} {xs : List Value} (h : w.ownsRow B e size (.slice (some ⟨g, 0, none⟩) n cap) n xs) (hm : m ≤ n) : w.ownsRow B e size (.slice (some ⟨g, 0, none⟩) m cap) m (xs.take (m * size)) := by
  have hms : m * size ≤ n * size := Nat.mul_le_mul_right size hm
  refine ⟨by rw [List.length_take, h.1]; omega, ?_⟩
  rcases h.2 with ⟨h1, _⟩ | ⟨g', cap', cur, h1, hbs, hr, hnc, hcm, hsz, htk⟩
  · simp at h1
  · simp only [Value.slice.injEq, Option.some.injEq, Addr.mk.injEq, and_true, true_and] at h1
    obtain ⟨rfl, rfl⟩ := h1
    refine Or.inr ⟨g, cap, cur, rfl, hbs, hr, by omega, hcm, hsz, ?_⟩
    rw [← htk, List.take_take, Nat.min_eq_left hms]
set_option maxRecDepth 100000 in
set_option maxHeartbeats 1000000 in
theorem qpop_any {w0 : World} {F : Nat → Prop} {B h g : Nat} {G : Int} (d : Nat × Int) (l : List (Nat × Int)) (w : World) (H : QS w0 F B h g G l w) (h0 : 0 < l.length) :
    Calls Try.prog 53 #[.pointer (some ⟨h, 0, none⟩)] w fun e w' => e = .returned (.iface 49 (.agg #[.int .i64 ((l.getD (l.length - 1) d).1 : Int), .int .i64 G, .int .i64 (l.getD (l.length - 1) d).2])) ∧ QS w0 F B h g G (l.take (l.length - 1)) w' := by
  have hl := H.ln
  obtain ⟨cap, hr, ho⟩ := H.v
  obtain ⟨hfar, hBg, hgl, -⟩ := H.far
  have HH := Lib.hid H
  have c0 := cell_of_row _ _ 0 _ _ _ hr
  have hc0 : w.cell? ⟨h, 0, none⟩ = some (.slice (some ⟨g, 0, none⟩) l.length cap) := c0
  have HR := Lib.hid hr
  have HO := Lib.hid ho
  obtain ⟨m, hm⟩ : ∃ m, l.length = m + 1 := ⟨l.length - 1, by omega⟩
  obtain ⟨a0, a1, a2⟩ := own_c3 ho d m (by omega)
  have hcap : m + 1 ≤ cap := by
    rcases ho.2 with ⟨h1, _⟩ | ⟨g', cap', cur, h1, hbs, hr, hnc, hcm, hsz, htk⟩
    · simp at h1
    · simp only [Value.slice.injEq, Option.some.injEq, Addr.mk.injEq, and_true, true_and] at h1
      omega
  rw [hm] at hc0 HR HO ⊢
  rw [Nat.add_sub_cancel]
  have HM2 := Lib.hid hm
  obtain ⟨⟨a, u⟩, hp⟩ : ∃ p, l.getD m d = p := ⟨_, rfl⟩
  rw [hp] at a0 a2 ⊢
  simp only at a0 a2 ⊢
  have hmI : ((m + 1 : Nat) : Int) - 1 = (m : Int) := by omega
  have hmB : (m : Int) ≤ 1000000 := by omega
  have hw1 : wrap64 (((m + 1 : Nat) : Int) - 1) = (m : Int) := by rw [hmI]; exact wr_id14 _ (by omega) (by omega)
  have hml : (m : Int) < ((m + 1 : Nat) : Int) := by omega
  have hml2 : m < m + 1 := by omega
  have hcI : (m : Int) ≤ (cap : Int) := by omega
  have hcN : m ≤ cap := by omega
  have HA := Lib.hid fun o : Obj => hr.alloc o
  have HOA := Lib.hid fun o : Obj => ho.alloc o
  have HBA := Lib.hid fun o : Obj => H.be.more H.fl ((Below.refl _ _).alloc (Nat.le_refl _) o)
  have hne1 : w.heap.size ≠ h := fun e => by have := hr.lt; omega
  have hne2 : h ≠ w.heap.size := fun e => by have := hr.lt; omega
  have hca : ∀ o : Obj, (w.alloc o).cell? ⟨h, 0, none⟩ = some (.slice (some ⟨g, 0, none⟩) (m + 1) cap) := fun o => by rw [cell_of_row _ _ 0 _ _ _ (HA.out o), HM2.out]; rfl
  have hfa : ∀ o : Obj, (w.alloc o).frozen? ⟨h, 0, none⟩ = false := fun o => (HA.out o).free 0
  clear H hr ho hl h0 hp c0 hm hcap
  have HFAR : Hid (g ≠ h) := Lib.hid hfar
  clear hfar
  go_enter Try.func53, Try.ntmps53
  go_wp2_with fail
  go_ret
  refine ⟨rfl, ⟨⟨cap, ?_, ?_⟩, HH.out.hb, HH.out.fg, HH.out.fh, fun k hk => Nat.lt_of_lt_of_le (HH.out.fl k hk) ?_, KF.set (HBA.out _) (p := ⟨h, 0, none⟩) HH.out.fh _, ?_, ?_⟩⟩
  · have hl : (l.take m).length = m := by rw [List.length_take, HM2.out]; omega
    rw [hl]
    exact (HA.out _).set 0 _
  · have hl : (l.take m).length = m := by rw [List.length_take, HM2.out]; omega
    rw [hl, qV_take]
    refine own_far_set (own_shrink (n := m + 1) ?_ (by omega)) (p := ⟨h, 0, none⟩) (by simpa [Value.ownBlock] using HFAR.out) _
    rw [← HM2.out]
    exact HOA.out _
  · simp [World.setCell]
  · intro p hp
    exact HH.out.bd p (List.mem_of_mem_take hp)
  · rw [List.length_take]; have := HH.out.ln; omega
end Go.Proofs.Ytnjohdgdmnkjlaa
