/-
  pulse's queue: how its coefficients lie; fall, Len, Less, Swap. Conditions: gains up to 32768, coefficients up to 2^22.
-/
import Derived.Test.YtnjohdgdmnkjlaaSa
import Derived.Test.YtnjohdgdmnkjlaaTsa
import Derived.Test.YtnjohdgdmnkjlaaYqo
import Derived.Deep.RegionHeld3
import Derived.Deep.RegionWith
import Derived.Deep.QuietTactic
import Derived.BigQuiet
import Derived.Lib.QuietBelow
namespace Go.Proofs.Ytnjohdgdmnkjlaa
open Go.RowKit
open M
/-- A coefficient of a queue, as it lies. -/
def cV (G : Int) (p : Nat × Int) : List Value := [.int .i64 (p.1 : Int), .int .i64 G, .int .i64 p.2]
def qV (G : Int) : List (Nat × Int) → List Value
  | [] => []
  | p :: l => cV G p ++ qV G l
theorem qV_len (G : Int) (l : List (Nat × Int)) : (qV G l).length = l.length * 3 := by
  induction l with
  | nil => rfl
  | cons p l ih => rw [qV, List.length_append, ih, List.length_cons]; show 3 + _ = _; omega
theorem qV_app (G : Int) (l m : List (Nat × Int)) : qV G (l ++ m) = qV G l ++ qV G m := by
  induction l with
  | nil => rfl
  | cons p l ih => rw [List.cons_append, qV, qV, ih, List.append_assoc]
theorem qV_one (G : Int) (l : List (Nat × Int)) : ∀ u ∈ qV G l, u.oneCell' = true := by
  induction l with
  | nil => intro u hu; simp [qV] at hu
  | cons p l ih =>
    intro u hu
    rw [qV, List.mem_append] at hu
    rcases hu with hu | hu
    · simp only [cV, List.mem_cons, List.not_mem_nil, or_false] at hu
      rcases hu with rfl | rfl | rfl <;> rfl
    · exact ih u hu
theorem qV_get (G : Int) (d : Nat × Int) : ∀ (l : List (Nat × Int)) (i : Nat), i < l.length → (qV G l)[i * 3]? = some (.int .i64 ((l.getD i d).1 : Int)) ∧ (qV G l)[i * 3 + 1]? = some (.int .i64 G) ∧ (qV G l)[i * 3 + 2]? = some (.int .i64 (l.getD i d).2)
  | [], i, h => by simp at h
  | p :: l, 0, _ => ⟨rfl, rfl, rfl⟩
  | p :: l, i + 1, h => by
    have ih := qV_get G d l i (by simpa using h)
    rw [qV]
    have e : ∀ k, (cV G p ++ qV G l)[(i + 1) * 3 + k]? = (qV G l)[i * 3 + k]? := fun k => by
      rw [List.getElem?_append_right (by show 3 ≤ _; omega)]
      congr 1
      show (i + 1) * 3 + k - 3 = _
      omega
    refine ⟨(e 0).trans ih.1, (e 1).trans ih.2.1, (e 2).trans ih.2.2⟩
theorem qV_set (G : Int) (p : Nat × Int) : ∀ (l : List (Nat × Int)) (i : Nat), (((qV G l).set (i * 3) (.int .i64 (p.1 : Int))).set (i * 3 + 1) (.int .i64 G)).set (i * 3 + 2) (.int .i64 p.2) = qV G (l.set i p)
  | [], i => by simp [qV]
  | q :: l, 0 => rfl
  | q :: l, i + 1 => by
    have ih := qV_set G p l i
    rw [List.set_cons_succ, qV, qV, ← ih]
    have e : ∀ (m : List Value) k v, (cV G q ++ m).set ((i + 1) * 3 + k) v = cV G q ++ m.set (i * 3 + k) v := fun m k v => by
      rw [List.set_append_right _ _ (by show 3 ≤ _; omega)]
      congr 2
      show (i + 1) * 3 + k - 3 = _
      omega
    have e0 := e (qV G l) 0
    simp only [Nat.add_zero] at e0
    rw [e0, e, e]
theorem lt14_ne (G : Int) (p q : Nat × Int) (h : ab p.2 - ab (p.2 - G) ≠ ab q.2 - ab (q.2 - G)) : lt14 G p q = decide (ab p.2 - ab (p.2 - G) > ab q.2 - ab (q.2 - G)) := by
  unfold lt14 ltE fk
  simp only
  congr 1
  simp only [eq_iff_iff]
  omega
theorem lt14_eq (G : Int) (p q : Nat × Int) (h : ab p.2 - ab (p.2 - G) = ab q.2 - ab (q.2 - G)) : lt14 G p q = decide (p.1 < q.1) := by
  unfold lt14 ltE fk
  simp only
  congr 1
  simp only [eq_iff_iff]
  omega
set_option maxRecDepth 100000 in
theorem fall_any (a : Nat) (G u : Int) (w : World) (h0 : 0 ≤ G) (h1 : G ≤ 32768) (h2 : -4194304 ≤ u) (h3 : u ≤ 4194304) :
    Calls Try.prog 56 #[.agg #[.int .i64 (a : Int), .int .i64 G, .int .i64 u]] w fun e w' => e = .returned (.int .i64 (ab u - ab (u - G))) ∧ Below w.heap.size w w' := by
  obtain ⟨d, hd⟩ : ∃ d, u - G = d := ⟨_, rfl⟩
  rw [hd]
  have S1 := fun w => psize_any u w (by omega) (by omega)
  have S2 := fun w => psize_any d w (by omega) (by omega)
  have b1 : 0 ≤ ab u ∧ ab u ≤ 4194304 := by unfold ab; omega
  have b2 : 0 ≤ ab d ∧ ab d ≤ 4294304 := by unfold ab; omega
  have e1 : IntKind.i64.wrap (u - G) = d := by rw [hd]; exact wi_id _ (by omega) (by omega)
  generalize ab u = x at *
  generalize ab d = y at *
  have e2 : IntKind.i64.wrap (x - y) = x - y := wi_id _ (by omega) (by omega)
  have HB : Hid (Below w.heap.size w (w.alloc (.cells #[.int .i64 (a : Int), .int .i64 G, .int .i64 u] 49))) := Lib.hid ((Below.refl _ _).alloc (Nat.le_refl _) _)
  have hr : Row (w.alloc (.cells #[.int .i64 (a : Int), .int .i64 G, .int .i64 u] 49)) w.heap.size 49 #[.int .i64 (a : Int), .int .i64 G, .int .i64 u] := heap_alloc_new _ _
  have c1 := cell_of_row _ _ 1 _ _ _ hr
  have c2 := cell_of_row _ _ 2 _ _ _ hr
  clear hd b1 b2 h0 h1 h2 h3 hr
  go_enter Try.func56, Try.ntmps56
  go_wp2_with fail
  generalize w.alloc (.cells #[.int .i64 (a : Int), .int .i64 G, .int .i64 u] 49) = w1 at *
  refine wp_region_still_tail 10 (by kernel_rfl) (by kernel_rfl) ?_
  simp only [List.take_succ_cons, List.take_zero, List.drop_succ_cons, List.drop_zero]
  repeat still_step
  still_call (S1 _)
  repeat still_step
  still_call (S2 _)
  repeat still_step
  refine wpStill_nil ?_
  change wpList _ _ _ _ _ w1.drew
  have HB := Lib.hid (below_drew1 HB.out)
  clear S1 S2 c1 c2 e1
  go_wp2_with fail
  go_ret
  exact ⟨rfl, HB.out⟩
theorem qlen_any (a : Option Addr) (n cap : Nat) (w : World) :
    Calls Try.prog 51 #[.slice a n cap] w fun e w' => e = .returned (.int .i64 (n : Int)) ∧ w' = w := by
  go_enter Try.func51, Try.ntmps51
  go_wp2
  go_ret
  exact ⟨rfl, rfl⟩
/-- The three cells of a coefficient. -/
def C3 (w : World) (g : Nat) (i : Nat) (a : Nat) (G u : Int) : Prop := w.cell? ⟨g, i * 3, none⟩ = some (.int .i64 (a : Int)) ∧ w.cell? ⟨g, i * 3 + 1, none⟩ = some (.int .i64 G) ∧ w.cell? ⟨g, i * 3 + 2, none⟩ = some (.int .i64 u)
theorem own_c3 {w : World} {B g cap n : Nat} {e : TypeId} {G : Int} {l : List (Nat × Int)} (h : w.ownsRow B e 3 (.slice (some ⟨g, 0, none⟩) n cap) n (qV G l)) (d : Nat × Int) (i : Nat) (hi : i < l.length) : C3 w g i (l.getD i d).1 G (l.getD i d).2 := by
  have hl : n = l.length := by
    have := h.1
    rw [qV_len] at this
    omega
  have k := fun j hj => h.cellAt j hj
  obtain ⟨h0, h1, h2⟩ := qV_get G d l i hi
  exact ⟨(k _ (by omega)).trans h0, (k _ (by omega)).trans h1, (k _ (by omega)).trans h2⟩
set_option maxRecDepth 100000 in
set_option maxHeartbeats 1000000 in
theorem less_any (B g cap n : Nat) (G : Int) (l : List (Nat × Int)) (d : Nat × Int) (i j : Nat) (w : World) (h0 : 0 ≤ G) (h1 : G ≤ 32768) (hl : ∀ p ∈ l, -4194304 ≤ p.2 ∧ p.2 ≤ 4194304) (hi : i < l.length) (hj : j < l.length)
    (ho : w.ownsRow B 49 3 (.slice (some ⟨g, 0, none⟩) n cap) n (qV G l)) :
    Calls Try.prog 52 #[.slice (some ⟨g, 0, none⟩) n cap, .int .i64 (i : Int), .int .i64 (j : Int)] w fun e w' => e = .returned (.bool (lt14 G (l.getD i d) (l.getD j d))) ∧ Below w.heap.size w w' := by
  have hln : n = l.length := by
    have := ho.1
    rw [qV_len] at this
    omega
  have hbi := hl _ (getD_mem13 l d i hi)
  have hbj := hl _ (getD_mem13 l d j hj)
  have HK : Hid (∀ u : World, Below w.heap.size w u → C3 u g i (l.getD i d).1 G (l.getD i d).2 ∧ C3 u g j (l.getD j d).1 G (l.getD j d).2) :=
    Lib.hid fun u hu => ⟨own_c3 (own13_stay ho hu) d i hi, own_c3 (own13_stay ho hu) d j hj⟩
  have hLE := lt14_eq G (l.getD i d) (l.getD j d)
  have hLN := lt14_ne G (l.getD i d) (l.getD j d)
  obtain ⟨⟨ai, ui⟩, hpi⟩ : ∃ p, l.getD i d = p := ⟨_, rfl⟩
  obtain ⟨⟨aj, uj⟩, hpj⟩ : ∃ p, l.getD j d = p := ⟨_, rfl⟩
  rw [hpi] at hbi
  rw [hpj] at hbj
  rw [hpi, hpj] at HK hLE hLN ⊢
  simp only at hbi hbj HK hLE hLN
  have F1 := fun w => fall_any ai G ui w h0 h1 hbi.1 hbi.2
  have F2 := fun w => fall_any aj G uj w h0 h1 hbj.1 hbj.2
  generalize ab ui - ab (ui - G) = x at *
  generalize ab uj - ab (uj - G) = y at *
  generalize lt14 G (ai, ui) (aj, uj) = z at *
  have hiI : (i : Int) < (n : Int) := by omega
  have hjI : (j : Int) < (n : Int) := by omega
  have hin : i < n := by omega
  have hjn : j < n := by omega
  have k0 := HK.out w (Below.refl _ _)
  clear hbi hbj hl hi hj hpi hpj h0 h1 hln ho
  obtain ⟨⟨a0, a1, a2⟩, b0, b1, b2⟩ := k0
  have q0 := cell_regrown a0
  have q1 := cell_regrown a1
  have q2 := cell_regrown a2
  have r0 := cell_regrown b0
  have r1 := cell_regrown b1
  have r2 := cell_regrown b2
  have K1 : Hid (∀ d os, Calls Try.prog 56 #[.agg #[.int .i64 (ai : Int), .int .i64 G, .int .i64 ui]] (Sort.grow (redrawn w d) os) fun e w'' => e = .returned (.int .i64 x) ∧ ∃ p : Regrown, w'' = Sort.grow (redrawn w p.d) p.os) :=
    Lib.hid fun d os => Calls.regrown_of (F1 _)
  have K2 : Hid (∀ d os, Calls Try.prog 56 #[.agg #[.int .i64 (aj : Int), .int .i64 G, .int .i64 uj]] (Sort.grow (redrawn w d) os) fun e w'' => e = .returned (.int .i64 y) ∧ ∃ p : Regrown, w'' = Sort.grow (redrawn w p.d) p.os) :=
    Lib.hid fun d os => Calls.regrown_of (F2 _)
  have HLE := Lib.hid hLE
  have HLN := Lib.hid hLN
  clear F1 F2 a0 a1 a2 b0 b1 b2 hLE hLN
  go_enter Try.func52, Try.ntmps52
  go_wp2_with fail
  refine wp_region_quiet_below (by kernel_rfl) (by kernel_rfl) ?_
  quiet_step (fail)
  quiet_step (fail)
  quiet_step (fail)
  quiet_step (fail)
  quiet_step ((go_at_call 56; exact K1.out _ _))
  repeat quiet_step (fail)
  quiet_step ((go_at_call 56; exact K2.out _ _))
  repeat quiet_step (fail)
  refine wpQuiet_nil ?_
  intro _ hw'
  obtain ⟨⟨dq, osq⟩, hw''⟩ := hw'
  subst hw''
  have HBX := Lib.hid (below_regrown w dq osq)
  have d0 := q0 dq osq
  have d1 := r0 dq osq
  clear K1 K2 q0 q1 q2 r0 r1 r2
  generalize Sort.grow (redrawn w dq) osq = w6 at *
  by_cases hxy : x = y
  · have HZ := Lib.hid (HLE.out hxy)
    have hd : decide (x = y) = true := decide_eq_true hxy
    have hdn : (x == y) = true := beq_iff_eq.2 hxy
    clear hxy
    go_wp2_with fail
    go_quiet (fail)
    go_wp2_with fail
    go_ret
    exact ⟨by rw [HZ.out]; rfl, Below.drewN HBX.out _⟩
  · have HZ := Lib.hid (HLN.out hxy)
    have hd : decide (x = y) = false := decide_eq_false hxy
    have hdn : (x == y) = false := beq_eq_false_iff_ne.2 hxy
    go_wp2_with fail
    go_ret
    exact ⟨by rw [HZ.out]; rfl, HBX.out⟩
theorem own_drew {w : World} {B n size : Nat} {e : TypeId} {v : Value} {xs : List Value} (h : w.ownsRow B e size v n xs) : w.drew.ownsRow B e size v n xs := h
/-- Two coefficients change places. -/
theorem swap_any (B g cap n : Nat) (G : Int) (l : List (Nat × Int)) (d : Nat × Int) (i j : Nat) (w : World) (hi : i < l.length) (hj : j < l.length)
    (ho : w.ownsRow B 49 3 (.slice (some ⟨g, 0, none⟩) n cap) n (qV G l)) :
    Calls Try.prog 55 #[.slice (some ⟨g, 0, none⟩) n cap, .int .i64 (i : Int), .int .i64 (j : Int)] w fun e w' => e = .returned (.tuple #[]) ∧ w'.ownsRow B 49 3 (.slice (some ⟨g, 0, none⟩) n cap) n (qV G (swq d l i j)) ∧ Only g w w' := by
  have hln : n = l.length := by
    have := ho.1
    rw [qV_len] at this
    omega
  have fz := ho.frozenAt
  have HO := Lib.hid ho
  obtain ⟨a0, a1, a2⟩ := own_c3 ho d i hi
  obtain ⟨b0, b1, b2⟩ := own_c3 ho d j hj
  obtain ⟨⟨ai, ui⟩, hpi⟩ : ∃ p, l.getD i d = p := ⟨_, rfl⟩
  obtain ⟨⟨aj, uj⟩, hpj⟩ : ∃ p, l.getD j d = p := ⟨_, rfl⟩
  rw [hpi] at a0 a2
  rw [hpj] at b0 b2
  have HS : Hid (swq d l i j = (l.set i (aj, uj)).set j (ai, ui)) := Lib.hid (by unfold swq; rw [hpi, hpj])
  have HSX := Lib.hid (qV_set G)
  have hiI : (i : Int) < (n : Int) := by omega
  have hjI : (j : Int) < (n : Int) := by omega
  have hin : i < n := by omega
  have hjn : j < n := by omega
  have g0 := fz (i * 3)
  have g1 := fz (i * 3 + 1)
  have g2 := fz (i * 3 + 2)
  have k0 := fz (j * 3)
  have k1 := fz (j * 3 + 1)
  have k2 := fz (j * 3 + 2)
  have HOR : Hid (Only g w w.drew) := Lib.hid (Only.refl g w).drew
  have a0 : w.drew.cell? ⟨g, i * 3, none⟩ = some (.int .i64 (ai : Int)) := a0
  have a1 : w.drew.cell? ⟨g, i * 3 + 1, none⟩ = some (.int .i64 G) := a1
  have a2 : w.drew.cell? ⟨g, i * 3 + 2, none⟩ = some (.int .i64 ui) := a2
  have b0 : w.drew.cell? ⟨g, j * 3, none⟩ = some (.int .i64 (aj : Int)) := b0
  have b1 : w.drew.cell? ⟨g, j * 3 + 1, none⟩ = some (.int .i64 G) := b1
  have b2 : w.drew.cell? ⟨g, j * 3 + 2, none⟩ = some (.int .i64 uj) := b2
  clear hpi hpj ho hln fz hi hj
  by_cases hij : i = j
  · subst hij
    have HS : Hid (swq d l i i = l.set i (ai, ui)) := Lib.hid (by rw [HS.out, List.set_set])
    have e1 : aj = ai := by have h1 := a0; rw [b0] at h1; simp only [Option.some.injEq, Value.int.injEq, true_and] at h1; omega
    have e2 : uj = ui := by have h1 := a2; rw [b2] at h1; simpa using h1
    subst e1 e2
    clear b0 b1 b2 k0 k1 k2 hjI hjn
    go_enter Try.func55, Try.ntmps55
    go_region
    go_end0
    refine ⟨rfl, ?_, (((((((Only.refl g w).setCell _ _ _).setCell _ _ _).setCell _ _ _).setCell _ _ _).setCell _ _ _).setCell _ _ _).drew⟩
    have h6 := ((((((HO.out.stored (i * 3) (.int .i64 (aj : Int))).1.stored (i * 3 + 1) (.int .i64 G)).1.stored (i * 3 + 2) (.int .i64 uj)).1.stored (i * 3) (.int .i64 (aj : Int))).1.stored (i * 3 + 1) (.int .i64 G)).1.stored (i * 3 + 2) (.int .i64 uj)).1
    rw [HSX.out (aj, uj), HSX.out (aj, uj), List.set_set] at h6
    rw [HS.out]
    exact own_drew h6
  · have hij3 : i * 3 ≠ j * 3 := by omega
    go_enter Try.func55, Try.ntmps55
    go_region
    go_end0
    refine ⟨rfl, ?_, (((((((Only.refl g w).setCell _ _ _).setCell _ _ _).setCell _ _ _).setCell _ _ _).setCell _ _ _).setCell _ _ _).drew⟩
    have h6 := ((((((HO.out.stored (i * 3) (.int .i64 (aj : Int))).1.stored (i * 3 + 1) (.int .i64 G)).1.stored (i * 3 + 2) (.int .i64 uj)).1.stored (j * 3) (.int .i64 (ai : Int))).1.stored (j * 3 + 1) (.int .i64 G)).1.stored (j * 3 + 2) (.int .i64 ui)).1
    rw [HSX.out (aj, uj), HSX.out (ai, ui)] at h6
    rw [HS.out]
    exact own_drew h6
end Go.Proofs.Ytnjohdgdmnkjlaa
