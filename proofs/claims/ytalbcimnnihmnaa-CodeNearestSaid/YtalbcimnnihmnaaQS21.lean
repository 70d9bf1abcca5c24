/-
  Contracts and plain facts that the laws share; each piece is headed by what it holds and its conditions.
-/
import Derived.Test.YtalbcimnnihmnaaQS3
import Derived.Test.YtalbcimnnihmnaaQS2
import Derived.Test.YtalbcimnnihmnaaQS8
import Derived.Test.YtalbcimnnihmnaaQS6
import Derived.Test.YtalbcimnnihmnaaQS18
import Derived.Test.YtalbcimnnihmnaaQS5
import Derived.Deep.RegionHeld3
import Derived.Deep.RegionWith
import Derived.Deep.QuietTactic
import Derived.BigQuiet
import Derived.Lib.QuietBelow
import Derived.Deep.Cut
import Derived.Laws.AppendOwn
import Derived.Laws.OwnMore

/- Plain facts of layer 18: bands on the way to their pulses, in a heap; what its first one tells of who is next. No program is named here. No conditions but those that each fact names. -/
namespace Go.Proofs.Ytalbcimnnihmnaa.M
/-- A band on the way: which one, its step, how many pulses it has. -/
def fk18 (p : Nat × Int × Nat) : Int × Nat := ((p.2.2 : Int) - p.2.1, p.1)
def lt18 (p q : Nat × Int × Nat) : Bool := ltE (fk18 p) (fk18 q)
theorem lt18_ls : Ls lt18 := ⟨fun _ _ h => ltE_ls.1 _ _ h, fun _ _ _ h k => ltE_ls.2 _ _ _ h k⟩
theorem lt18_ne (p q : Nat × Int × Nat) (h : p.2.1 - (p.2.2 : Int) ≠ q.2.1 - (q.2.2 : Int)) : lt18 p q = decide (p.2.1 - (p.2.2 : Int) > q.2.1 - (q.2.2 : Int)) := by
  unfold lt18 ltE fk18
  simp only
  congr 1
  simp only [eq_iff_iff]
  omega
theorem lt18_eq (p q : Nat × Int × Nat) (h : p.2.1 - (p.2.2 : Int) = q.2.1 - (q.2.2 : Int)) : lt18 p q = decide (p.1 < q.1) := by
  unfold lt18 ltE fk18
  simp only
  congr 1
  simp only [eq_iff_iff]
  omega
theorem lt18_false (p q : Nat × Int × Nat) : lt18 p q = false ↔ ¬ (p.2.1 - (p.2.2 : Int) > q.2.1 - (q.2.2 : Int) ∨ (p.2.1 - (p.2.2 : Int) = q.2.1 - (q.2.2 : Int) ∧ p.1 < q.1)) := by
  unfold lt18 fk18
  rw [ltE_false]
  simp only
  omega
/-- Which bands are in the heap, as far as pulses are given. -/
structure In18 (s : Nat → Int) (k : Nat → Nat) (l : Nat) (L : List (Nat × Int × Nat)) : Prop where
  is : ∀ p ∈ L, p.1 < 8 ∧ p.2.1 = s p.1 ∧ p.2.2 = k p.1
  all : ∀ b, b < 8 → cang k l b = true → ∃ p ∈ L, p.1 = b
  one : (L.map (·.1)).Nodup
theorem In18.perm {s : Nat → Int} {k : Nat → Nat} {l : Nat} {L R : List (Nat × Int × Nat)} (H : In18 s k l L) (h : L.Perm R) : In18 s k l R :=
  ⟨fun p hp => H.is p (h.mem_iff.2 hp), fun b hb hc => by
    obtain ⟨p, h1, h2⟩ := H.all b hb hc
    exact ⟨p, h.mem_iff.1 h1, h2⟩, (h.map _).nodup_iff.1 H.one⟩
/-- At first all eight. -/
def q18 (s : Nat → Int) : List (Nat × Int × Nat) := (List.range 8).map fun b => (b, s b, 0)
theorem q18_len (s : Nat → Int) : (q18 s).length = 8 := by simp [q18]
theorem q18_next (s : Nat → Int) (k : Nat) (h : k < 8) : (q18 s).take (k + 1) = (q18 s).take k ++ [(k, s k, 0)] := by
  have h2 : k = 0 ∨ k = 1 ∨ k = 2 ∨ k = 3 ∨ k = 4 ∨ k = 5 ∨ k = 6 ∨ k = 7 := by omega
  rcases h2 with rfl | rfl | rfl | rfl | rfl | rfl | rfl | rfl <;> rfl
theorem q18_in (s : Nat → Int) (l : Nat) : In18 s (fun _ => 0) l (q18 s) := by
  refine ⟨fun p hp => ?_, fun b hb _ => ⟨(b, s b, 0), ?_, rfl⟩, ?_⟩
  · simp only [q18, List.mem_map, List.mem_range] at hp
    obtain ⟨b, hb, rfl⟩ := hp
    exact ⟨hb, rfl, rfl⟩
  · simp only [q18, List.mem_map, List.mem_range]
    exact ⟨b, hb, rfl⟩
  · have e : (q18 s).map (·.1) = List.range 8 := by
      simp only [q18, List.map_map]
      exact List.map_id _
    rw [e]
    exact List.nodup_range
/-- What stands first, and can: it is next. -/
theorem In18.next {s : Nat → Int} {k : Nat → Nat} {l : Nat} {L : List (Nat × Int × Nat)} (H : In18 s k l L) (d : Nat × Int × Nat) (h0 : 0 < L.length) (hh : Hp lt18 d L L.length 0) (hc : cang k l (L.getD 0 d).1 = true) : bst s k l 8 = some (L.getD 0 d).1 := by
  obtain ⟨h1, h2, h3⟩ := H.is _ (getD_mem13 L d 0 h0)
  refine bst_one s k l 8 _ h1 hc fun b hb hcb => ?_
  obtain ⟨p, hp, rfl⟩ := H.all b hb hcb
  obtain ⟨j, hj, rfl⟩ := mem_getD L d p hp
  have h := hp_least lt18 lt18_ls d L L.length hh j hj
  obtain ⟨g1, g2, g3⟩ := H.is _ hp
  rw [lt18_false] at h
  rw [← g2, ← g3, ← h2, ← h3]
  omega
theorem In18.tail {s : Nat → Int} {k : Nat → Nat} {l : Nat} {x : Nat × Int × Nat} {R : List (Nat × Int × Nat)} (H : In18 s k l (x :: R)) : x.1 ∉ R.map (·.1) ∧ (R.map (·.1)).Nodup := by
  have h := H.one
  rw [List.map_cons, List.nodup_cons] at h
  exact h
/-- .. and can't: it is out. -/
theorem In18.out {s : Nat → Int} {k : Nat → Nat} {l : Nat} {x : Nat × Int × Nat} {R : List (Nat × Int × Nat)} (H : In18 s k l (x :: R)) (hc : cang k l x.1 = false) : In18 s k l R := by
  refine ⟨fun p hp => H.is p (List.mem_cons_of_mem _ hp), fun b hb hcb => ?_, H.tail.2⟩
  obtain ⟨p, hp, rfl⟩ := H.all b hb hcb
  rcases List.mem_cons.1 hp with rfl | hp
  · rw [hc] at hcb; cases hcb
  · exact ⟨p, hp, rfl⟩
/-- It has one more, and is put in again. -/
theorem In18.more {s : Nat → Int} {k : Nat → Nat} {l l' : Nat} {x : Nat × Int × Nat} {R : List (Nat × Int × Nat)} (H : In18 s k l (x :: R)) (hl : l' ≤ l) : In18 s (mor k x.1) l' (R ++ [(x.1, x.2.1, x.2.2 + 1)]) := by
  obtain ⟨h1, h2⟩ := H.tail
  have hx := H.is x (List.mem_cons_self ..)
  refine ⟨fun p hp => ?_, fun b hb hcb => ?_, ?_⟩
  · rcases List.mem_append.1 hp with hp | hp
    · have := H.is p (List.mem_cons_of_mem _ hp)
      have hne : p.1 ≠ x.1 := fun e => h1 (by rw [← e]; exact List.mem_map_of_mem hp)
      unfold mor
      rw [if_neg hne]
      exact this
    · rw [List.mem_singleton.1 hp]
      unfold mor
      simp only [if_true]
      exact ⟨hx.1, hx.2.1, by rw [hx.2.2]⟩
  · by_cases e : b = x.1
    · exact ⟨_, List.mem_append_right _ (List.mem_singleton.2 rfl), e.symm⟩
    · have hm : mor k x.1 b = k b := by unfold mor; rw [if_neg e]
      obtain ⟨p, hp, rfl⟩ := H.all b hb (cang_falls k (mor k x.1) l l' b hm hl hcb)
      rcases List.mem_cons.1 hp with rfl | hp
      · exact absurd rfl e
      · exact ⟨p, List.mem_append_left _ hp, rfl⟩
  · rw [List.map_append, List.nodup_append]
    refine ⟨h2, by simp, fun a ha b hb => ?_⟩
    simp only [List.map_cons, List.map_nil, List.mem_singleton] at hb
    subst hb
    rintro rfl
    exact h1 ha
/-- Nothing is in it: all are given. -/
theorem In18.none {s : Nat → Int} {k : Nat → Nat} {l : Nat} (H : In18 s k l []) (f : Nat) : gvn s k l f = (k, l) := by
  have hb : bst s k l 8 = Option.none := (bst_none s k l 8).2 fun b hb => by
    cases h : cang k l b with
    | false => rfl
    | true =>
      obtain ⟨p, hp, _⟩ := H.all b hb h
      cases hp
  cases f with
  | zero => rfl
  | succ f => unfold gvn; rw [hb]
theorem gvn_one (s : Nat → Int) (k : Nat → Nat) (l f a : Nat) (h : bst s k l 8 = some a) : gvn s k l (f + 1) = gvn s (mor k a) (l - inc (k a)) f := by
  conv => lhs; unfold gvn
  rw [h]
/-- How many pulses more there could be. -/
theorem sum8_more (k : Nat → Nat) (a : Nat) (ha : a < 8) : sum8 (mor k a) = sum8 k + 1 := sum8_mor k a ha (fun x => x) 1 rfl
end Go.Proofs.Ytalbcimnnihmnaa.M

/- give's queue: how its bands lie; without, isAhead, Len, Less, Swap. Conditions: steps and pulses up to 1000000. -/
namespace Go.Proofs.Ytalbcimnnihmnaa
open Go.RowKit
open M
/-- A band of a queue, as it lies. -/
def tV (p : Nat × Int × Nat) : List Value := [.int .i64 (p.1 : Int), .int .i64 p.2.1, .int .i64 (p.2.2 : Int)]
def tA (p : Nat × Int × Nat) : Value := .agg #[.int .i64 (p.1 : Int), .int .i64 p.2.1, .int .i64 (p.2.2 : Int)]
def wV : List (Nat × Int × Nat) → List Value
  | [] => []
  | p :: l => tV p ++ wV l
theorem wV_len (l : List (Nat × Int × Nat)) : (wV l).length = l.length * 3 := by
  induction l with
  | nil => rfl
  | cons p l ih => rw [wV, List.length_append, ih, List.length_cons]; show 3 + _ = _; omega
theorem wV_app (l m : List (Nat × Int × Nat)) : wV (l ++ m) = wV l ++ wV m := by
  induction l with
  | nil => rfl
  | cons p l ih => rw [List.cons_append, wV, wV, ih, List.append_assoc]
theorem wV_one (l : List (Nat × Int × Nat)) : ∀ u ∈ wV l, u.oneCell' = true := by
  induction l with
  | nil => intro u hu; simp [wV] at hu
  | cons p l ih =>
    intro u hu
    rw [wV, List.mem_append] at hu
    rcases hu with hu | hu
    · simp only [tV, List.mem_cons, List.not_mem_nil, or_false] at hu
      rcases hu with rfl | rfl | rfl <;> rfl
    · exact ih u hu
theorem wV_get (d : Nat × Int × Nat) : ∀ (l : List (Nat × Int × Nat)) (i : Nat), i < l.length → (wV l)[i * 3]? = some (.int .i64 ((l.getD i d).1 : Int)) ∧ (wV l)[i * 3 + 1]? = some (.int .i64 (l.getD i d).2.1) ∧ (wV l)[i * 3 + 2]? = some (.int .i64 ((l.getD i d).2.2 : Int))
  | [], i, h => by simp at h
  | p :: l, 0, _ => ⟨rfl, rfl, rfl⟩
  | p :: l, i + 1, h => by
    have ih := wV_get d l i (by simpa using h)
    rw [wV]
    have e : ∀ k, (tV p ++ wV l)[(i + 1) * 3 + k]? = (wV l)[i * 3 + k]? := fun k => by
      rw [List.getElem?_append_right (by show 3 ≤ _; omega)]
      congr 1
      show (i + 1) * 3 + k - 3 = _
      omega
    refine ⟨(e 0).trans ih.1, (e 1).trans ih.2.1, (e 2).trans ih.2.2⟩
theorem wV_set (p : Nat × Int × Nat) : ∀ (l : List (Nat × Int × Nat)) (i : Nat), (((wV l).set (i * 3) (.int .i64 (p.1 : Int))).set (i * 3 + 1) (.int .i64 p.2.1)).set (i * 3 + 2) (.int .i64 (p.2.2 : Int)) = wV (l.set i p)
  | [], i => by simp [wV]
  | q :: l, 0 => rfl
  | q :: l, i + 1 => by
    have ih := wV_set p l i
    rw [List.set_cons_succ, wV, wV, ← ih]
    have e : ∀ (m : List Value) k v, (tV q ++ m).set ((i + 1) * 3 + k) v = tV q ++ m.set (i * 3 + k) v := fun m k v => by
      rw [List.set_append_right _ _ (by show 3 ≤ _; omega)]
      congr 2
      show (i + 1) * 3 + k - 3 = _
      omega
    have e0 := e (wV l) 0
    simp only [Nat.add_zero] at e0
    rw [e0, e, e]
theorem wV_take : ∀ (l : List (Nat × Int × Nat)) (m : Nat), wV (l.take m) = (wV l).take (m * 3)
  | [], m => by simp [wV]
  | p :: l, 0 => by simp [wV]
  | p :: l, m + 1 => by
    rw [List.take_succ_cons, wV, wV, wV_take l m, show (m + 1) * 3 = 3 + m * 3 by omega, show (3 : Nat) = (tV p).length from rfl, List.take_length_add_append]
set_option maxRecDepth 100000 in
theorem without_any (a : Nat) (s : Int) (k : Nat) (w : World) (h0 : -1000000 ≤ s) (h1 : s ≤ 1000000) (h2 : k ≤ 1000000) :
    Calls Try.prog 56 #[.agg #[.int .i64 (a : Int), .int .i64 s, .int .i64 (k : Int)]] w fun e w' => e = .returned (.int .i64 (s - (k : Int))) ∧ Below w.heap.size w w' := by
  have e1 : IntKind.i64.wrap (s - (k : Int)) = s - (k : Int) := wi_id _ (by omega) (by omega)
  have e2 : wrap64 (s - (k : Int)) = s - (k : Int) := by rw [wrap64]; omega
  have HB : Hid (Below w.heap.size w (w.alloc (.cells #[.int .i64 (a : Int), .int .i64 s, .int .i64 (k : Int)] 74))) := Lib.hid ((Below.refl _ _).alloc (Nat.le_refl _) _)
  clear h0 h1 h2
  go_enter Try.func56, Try.ntmps56
  go_wp2
  go_ret
  exact ⟨rfl, HB.out⟩
/-- The three cells of a band. -/
def T3 (w : World) (g : Nat) (i : Nat) (p : Nat × Int × Nat) : Prop := w.cell? ⟨g, i * 3, none⟩ = some (.int .i64 (p.1 : Int)) ∧ w.cell? ⟨g, i * 3 + 1, none⟩ = some (.int .i64 p.2.1) ∧ w.cell? ⟨g, i * 3 + 2, none⟩ = some (.int .i64 (p.2.2 : Int))
theorem own_t3 {w : World} {B g cap n : Nat} {e : TypeId} {l : List (Nat × Int × Nat)} (h : w.ownsRow B e 3 (.slice (some ⟨g, 0, none⟩) n cap) n (wV l)) (d : Nat × Int × Nat) (i : Nat) (hi : i < l.length) : T3 w g i (l.getD i d) := by
  have hl : n = l.length := by
    have := h.1
    rw [wV_len] at this
    omega
  have k := fun j hj => h.cellAt j hj
  obtain ⟨h0, h1, h2⟩ := wV_get d l i hi
  exact ⟨(k _ (by omega)).trans h0, (k _ (by omega)).trans h1, (k _ (by omega)).trans h2⟩
set_option maxRecDepth 100000 in
set_option maxHeartbeats 1000000 in
theorem ahead_any (a b : Nat) (s t : Int) (k m : Nat) (w : World) (h0 : -1000000 ≤ s) (h1 : s ≤ 1000000) (h2 : k ≤ 1000000) (h3 : -1000000 ≤ t) (h4 : t ≤ 1000000) (h5 : m ≤ 1000000) :
    Calls Try.prog 49 #[.agg #[.int .i64 (a : Int), .int .i64 s, .int .i64 (k : Int)], .agg #[.int .i64 (b : Int), .int .i64 t, .int .i64 (m : Int)]] w fun e w' => e = .returned (.bool (lt18 (a, s, k) (b, t, m))) ∧ Below w.heap.size w w' := by
  have HLE := lt18_eq (a, s, k) (b, t, m)
  have HLN := lt18_ne (a, s, k) (b, t, m)
  simp only at HLE HLN
  have F1 := fun w => without_any a s k w h0 h1 h2
  have F2 := fun w => without_any b t m w h3 h4 h5
  generalize s - (k : Int) = x at *
  generalize t - (m : Int) = y at *
  generalize lt18 (a, s, k) (b, t, m) = z at *
  have HLE := Lib.hid HLE
  have HLN := Lib.hid HLN
  have HB : Hid (Below w.heap.size w ((w.alloc (.cells #[.int .i64 (a : Int), .int .i64 s, .int .i64 (k : Int)] 74)).alloc (.cells #[.int .i64 (b : Int), .int .i64 t, .int .i64 (m : Int)] 74))) := Lib.hid (((Below.refl _ _).alloc (Nat.le_refl _) _).alloc (by simp) _)
  have HR1 : Hid (Row ((w.alloc (.cells #[.int .i64 (a : Int), .int .i64 s, .int .i64 (k : Int)] 74)).alloc (.cells #[.int .i64 (b : Int), .int .i64 t, .int .i64 (m : Int)] 74)) w.heap.size 74 #[.int .i64 (a : Int), .int .i64 s, .int .i64 (k : Int)]) := Lib.hid (Row.alloc (heap_alloc_new _ _) _)
  have HR2 : Hid (Row ((w.alloc (.cells #[.int .i64 (a : Int), .int .i64 s, .int .i64 (k : Int)] 74)).alloc (.cells #[.int .i64 (b : Int), .int .i64 t, .int .i64 (m : Int)] 74)) (w.heap.size + 1) 74 #[.int .i64 (b : Int), .int .i64 t, .int .i64 (m : Int)]) := Lib.hid (row_new _ _ (by simp) _ _)
  clear h0 h1 h2 h3 h4 h5
  go_enter Try.func49, Try.ntmps49
  go_upto_region 1 with fail
  generalize (w.alloc (.cells #[.int .i64 (a : Int), .int .i64 s, .int .i64 (k : Int)] 74)).alloc (.cells #[.int .i64 (b : Int), .int .i64 t, .int .i64 (m : Int)] 74) = w1 at *
  obtain ⟨B, hB⟩ : ∃ B, w.heap.size = B := ⟨_, rfl⟩
  rw [hB] at HR1 HR2 HB ⊢
  have q0 := cell_regrown (cell_of_row _ _ 0 _ _ _ HR1.out)
  have q1 := cell_regrown (cell_of_row _ _ 1 _ _ _ HR1.out)
  have q2 := cell_regrown (cell_of_row _ _ 2 _ _ _ HR1.out)
  have r0 := cell_regrown (cell_of_row _ _ 0 _ _ _ HR2.out)
  have r1 := cell_regrown (cell_of_row _ _ 1 _ _ _ HR2.out)
  have r2 := cell_regrown (cell_of_row _ _ 2 _ _ _ HR2.out)
  have K1 : Hid (∀ d os, Calls Try.prog 56 #[.agg #[.int .i64 (a : Int), .int .i64 s, .int .i64 (k : Int)]] (Sort.grow (redrawn w1 d) os) fun e w'' => e = .returned (.int .i64 x) ∧ ∃ p : Regrown, w'' = Sort.grow (redrawn w1 p.d) p.os) :=
    Lib.hid fun d os => Calls.regrown_of (F1 _)
  have K2 : Hid (∀ d os, Calls Try.prog 56 #[.agg #[.int .i64 (b : Int), .int .i64 t, .int .i64 (m : Int)]] (Sort.grow (redrawn w1 d) os) fun e w'' => e = .returned (.int .i64 y) ∧ ∃ p : Regrown, w'' = Sort.grow (redrawn w1 p.d) p.os) :=
    Lib.hid fun d os => Calls.regrown_of (F2 _)
  refine wp_region_quiet_below (by kernel_rfl) (by kernel_rfl) ?_
  quiet_step (fail)
  quiet_step ((go_at_call 56; exact K1.out _ _))
  repeat quiet_step (fail)
  quiet_step ((go_at_call 56; exact K2.out _ _))
  repeat quiet_step (fail)
  refine wpQuiet_nil ?_
  intro _ hw'
  obtain ⟨⟨dq, osq⟩, hw''⟩ := hw'
  subst hw''
  have HB := Lib.hid (HB.out.trans ((below_regrown w1 dq osq).mono (by have := HB.out.size; rw [hB] at this; exact this)))
  have HR1 := Lib.hid (HR1.out.box (below_regrown w1 dq osq))
  have HR2 := Lib.hid (HR2.out.box (below_regrown w1 dq osq))
  clear K1 K2 q0 q1 q2 r0 r1 r2
  generalize Sort.grow (redrawn w1 dq) osq = w6 at *
  by_cases hxy : x = y
  · have HZ := Lib.hid (HLE.out hxy)
    have hd : decide (x = y) = true := decide_eq_true hxy
    have hdn : (x == y) = true := beq_iff_eq.2 hxy
    clear hxy
    have q0 := cell_of_row _ _ 0 _ _ _ HR1.out
    have r0 := cell_of_row _ _ 0 _ _ _ HR2.out
    go_wp2_with fail
    go_ret
    exact ⟨by rw [HZ.out]; (first | rfl | simp), by rw [hB]; exact HB.out⟩
  · have HZ := Lib.hid (HLN.out hxy)
    have hd : decide (x = y) = false := decide_eq_false hxy
    have hdn : (x == y) = false := beq_eq_false_iff_ne.2 hxy
    have q0 := cell_regrown (cell_of_row _ _ 0 _ _ _ HR1.out)
    have q1 := cell_regrown (cell_of_row _ _ 1 _ _ _ HR1.out)
    have q2 := cell_regrown (cell_of_row _ _ 2 _ _ _ HR1.out)
    have r0 := cell_regrown (cell_of_row _ _ 0 _ _ _ HR2.out)
    have r1 := cell_regrown (cell_of_row _ _ 1 _ _ _ HR2.out)
    have r2 := cell_regrown (cell_of_row _ _ 2 _ _ _ HR2.out)
    have K1 : Hid (∀ d os, Calls Try.prog 56 #[.agg #[.int .i64 (a : Int), .int .i64 s, .int .i64 (k : Int)]] (Sort.grow (redrawn w6 d) os) fun e w'' => e = .returned (.int .i64 x) ∧ ∃ p : Regrown, w'' = Sort.grow (redrawn w6 p.d) p.os) :=
      Lib.hid fun d os => Calls.regrown_of (F1 _)
    have K2 : Hid (∀ d os, Calls Try.prog 56 #[.agg #[.int .i64 (b : Int), .int .i64 t, .int .i64 (m : Int)]] (Sort.grow (redrawn w6 d) os) fun e w'' => e = .returned (.int .i64 y) ∧ ∃ p : Regrown, w'' = Sort.grow (redrawn w6 p.d) p.os) :=
      Lib.hid fun d os => Calls.regrown_of (F2 _)
    clear hxy F1 F2
    go_upto_region 2 with fail
    refine wp_region_quiet_below (by kernel_rfl) (by kernel_rfl) ?_
    quiet_step (fail)
    quiet_step ((go_at_call 56; exact K1.out _ _))
    repeat quiet_step (fail)
    quiet_step ((go_at_call 56; exact K2.out _ _))
    repeat quiet_step (fail)
    refine wpQuiet_nil ?_
    intro _ hw'
    obtain ⟨⟨dr, osr⟩, hw''⟩ := hw'
    subst hw''
    have HB := Lib.hid (HB.out.trans ((below_regrown w6 dr osr).mono (by have := HB.out.size; rw [hB] at this; exact this)))
    clear K1 K2 q0 q1 q2 r0 r1 r2
    generalize Sort.grow (redrawn w6 dr) osr = w7 at *
    go_wp2_with fail
    go_ret
    exact ⟨by rw [HZ.out]; rfl, by rw [hB]; exact HB.out⟩
end Go.Proofs.Ytalbcimnnihmnaa

/- give's queue: Len, Less, Swap, as container/heap calls them. Conditions: steps and pulses up to 1000000. -/
namespace Go.Proofs.Ytalbcimnnihmnaa
open Go.RowKit
open M
/-- What a queue holds: its bands, and who is ahead. -/
def hV (v : Value) : Array Value := #[v, .func (.func 49) #[] #[]]
/-- Steps and pulses are held. -/
def hd18 (p : Nat × Int × Nat) : Prop := -1000000 ≤ p.2.1 ∧ p.2.1 ≤ 1000000 ∧ p.2.2 ≤ 1000
set_option maxRecDepth 100000 in
theorem tlen_any (h n : Nat) (a : Option Addr) (cap : Nat) (w : World) (hr : Row w h 90 (hV (.slice a n cap))) :
    Calls Try.prog 33 #[.pointer (some ⟨h, 0, none⟩)] w fun e w' => e = .returned (.int .i64 (n : Int)) ∧ w' = w := by
  have c0 : w.cell? ⟨h, 0, none⟩ = some (.slice a n cap) := cell_of_row _ _ 0 _ _ _ hr
  clear hr
  go_enter Try.func33, Try.ntmps33
  go_wp2
  go_ret
  exact ⟨rfl, rfl⟩
set_option maxRecDepth 100000 in
set_option maxHeartbeats 1000000 in
theorem tless_any (B h g cap n : Nat) (l : List (Nat × Int × Nat)) (d : Nat × Int × Nat) (i j : Nat) (w : World) (hl : ∀ p ∈ l, hd18 p) (hi : i < l.length) (hj : j < l.length)
    (hr : Row w h 90 (hV (.slice (some ⟨g, 0, none⟩) n cap)))
    (ho : w.ownsRow B 74 3 (.slice (some ⟨g, 0, none⟩) n cap) n (wV l)) :
    Calls Try.prog 76 #[.pointer (some ⟨h, 0, none⟩), .int .i64 (i : Int), .int .i64 (j : Int)] w fun e w' => e = .returned (.bool (lt18 (l.getD i d) (l.getD j d))) ∧ Below w.heap.size w w' := by
  have hln : n = l.length := by
    have := ho.1
    rw [wV_len] at this
    omega
  have hbi := hl _ (getD_mem13 l d i hi)
  have hbj := hl _ (getD_mem13 l d j hj)
  have c0 : w.cell? ⟨h, 0, none⟩ = some (.slice (some ⟨g, 0, none⟩) n cap) := cell_of_row _ _ 0 _ _ _ hr
  have c1 : w.cell? ⟨h, 1, none⟩ = some (.func (.func 49) #[] #[]) := cell_of_row _ _ 1 _ _ _ hr
  have k1 := own_t3 ho d i hi
  have k2 := own_t3 ho d j hj
  obtain ⟨⟨ai, si, ki⟩, hpi⟩ : ∃ p, l.getD i d = p := ⟨_, rfl⟩
  obtain ⟨⟨aj, sj, kj⟩, hpj⟩ : ∃ p, l.getD j d = p := ⟨_, rfl⟩
  rw [hpi] at hbi k1 ⊢
  rw [hpj] at hbj k2 ⊢
  have F := fun w => ahead_any ai aj si sj ki kj w hbi.1 hbi.2.1 (by have := hbi.2.2; simp only at this; omega) hbj.1 hbj.2.1 (by have := hbj.2.2; simp only at this; omega)
  generalize lt18 (ai, si, ki) (aj, sj, kj) = z at *
  have hiI : (i : Int) < (n : Int) := by omega
  have hjI : (j : Int) < (n : Int) := by omega
  have hin : i < n := by omega
  have hjn : j < n := by omega
  obtain ⟨a0, a1, a2⟩ := k1
  obtain ⟨b0, b1, b2⟩ := k2
  have p0 := cell_regrown c0
  have p1 := cell_regrown c1
  have q0 := cell_regrown a0
  have q1 := cell_regrown a1
  have q2 := cell_regrown a2
  have r0 := cell_regrown b0
  have r1 := cell_regrown b1
  have r2 := cell_regrown b2
  simp only at q0 q1 q2 r0 r1 r2
  have K1 : Hid (∀ d os, Calls Try.prog 49 #[.agg #[.int .i64 (ai : Int), .int .i64 si, .int .i64 (ki : Int)], .agg #[.int .i64 (aj : Int), .int .i64 sj, .int .i64 (kj : Int)]] (Sort.grow (redrawn w d) os) fun e w'' => e = .returned (.bool z) ∧ ∃ p : Regrown, w'' = Sort.grow (redrawn w p.d) p.os) :=
    Lib.hid fun d os => Calls.regrown_of (F _)
  clear hbi hbj hl hi hj hpi hpj hln ho hr F a0 a1 a2 b0 b1 b2 c0 c1
  go_enter Try.func76, Try.ntmps76
  go_wp2_with fail
  refine wp_region_quiet_below (by kernel_rfl) (by kernel_rfl) ?_
  repeat quiet_step (fail)
  quiet_step ((go_at_call 49; exact K1.out _ _))
  repeat quiet_step (fail)
  refine wpQuiet_nil ?_
  intro _ hw'
  obtain ⟨⟨dq, osq⟩, hw''⟩ := hw'
  subst hw''
  have HBX := Lib.hid (below_regrown w dq osq)
  clear K1 p0 p1 q0 q1 q2 r0 r1 r2
  generalize Sort.grow (redrawn w dq) osq = w6 at *
  go_wp2_with fail
  go_ret
  exact ⟨rfl, HBX.out⟩
theorem own_drew {w : World} {B n size : Nat} {e : TypeId} {v : Value} {xs : List Value} (h : w.ownsRow B e size v n xs) : w.drew.ownsRow B e size v n xs := h
set_option maxRecDepth 100000 in
set_option maxHeartbeats 1000000 in
/-- Two bands change places. -/
theorem tswap_any (B h g cap n : Nat) (l : List (Nat × Int × Nat)) (d : Nat × Int × Nat) (i j : Nat) (w : World) (hi : i < l.length) (hj : j < l.length) (hne : g ≠ h)
    (hr : Row w h 90 (hV (.slice (some ⟨g, 0, none⟩) n cap)))
    (ho : w.ownsRow B 74 3 (.slice (some ⟨g, 0, none⟩) n cap) n (wV l)) :
    Calls Try.prog 79 #[.pointer (some ⟨h, 0, none⟩), .int .i64 (i : Int), .int .i64 (j : Int)] w fun e w' => e = .returned (.tuple #[]) ∧ w'.ownsRow B 74 3 (.slice (some ⟨g, 0, none⟩) n cap) n (wV (swq d l i j)) ∧ Only g w w' := by
  have hln : n = l.length := by
    have := ho.1
    rw [wV_len] at this
    omega
  have fz := ho.frozenAt
  have HO := Lib.hid ho
  have c0 : w.drew.cell? ⟨h, 0, none⟩ = some (.slice (some ⟨g, 0, none⟩) n cap) := cell_of_row _ _ 0 _ _ _ hr
  have hgh : h ≠ g := fun e => hne e.symm
  obtain ⟨a0, a1, a2⟩ := own_t3 ho d i hi
  obtain ⟨b0, b1, b2⟩ := own_t3 ho d j hj
  obtain ⟨⟨ai, si, ki⟩, hpi⟩ : ∃ p, l.getD i d = p := ⟨_, rfl⟩
  obtain ⟨⟨aj, sj, kj⟩, hpj⟩ : ∃ p, l.getD j d = p := ⟨_, rfl⟩
  rw [hpi] at a0 a1 a2
  rw [hpj] at b0 b1 b2
  have HS : Hid (swq d l i j = (l.set i (aj, sj, kj)).set j (ai, si, ki)) := Lib.hid (by unfold swq; rw [hpi, hpj])
  have HSX := Lib.hid wV_set
  have hiI : (i : Int) < (n : Int) := by omega
  have hjI : (j : Int) < (n : Int) := by omega
  have hin : i < n := by omega
  have hjn : j < n := by omega
  have g0 := fz (i * 3)
  have g1 := fz (i * 3 + 1)
  have g2 := fz (i * 3 + 2)
  have k0 := fz (j * 3)
  have k1 := fz (j * 3 + 1)
  have k2 := fz (j * 3 + 2)
  have a0 : w.drew.cell? ⟨g, i * 3, none⟩ = some (.int .i64 (ai : Int)) := a0
  have a1 : w.drew.cell? ⟨g, i * 3 + 1, none⟩ = some (.int .i64 si) := a1
  have a2 : w.drew.cell? ⟨g, i * 3 + 2, none⟩ = some (.int .i64 (ki : Int)) := a2
  have b0 : w.drew.cell? ⟨g, j * 3, none⟩ = some (.int .i64 (aj : Int)) := b0
  have b1 : w.drew.cell? ⟨g, j * 3 + 1, none⟩ = some (.int .i64 sj) := b1
  have b2 : w.drew.cell? ⟨g, j * 3 + 2, none⟩ = some (.int .i64 (kj : Int)) := b2
  clear hpi hpj ho hln fz hi hj hr hne
  by_cases hij : i = j
  · subst hij
    have HS : Hid (swq d l i i = l.set i (ai, si, ki)) := Lib.hid (by rw [HS.out, List.set_set])
    have e1 : aj = ai := by have h1 := a0; rw [b0] at h1; simp only [Option.some.injEq, Value.int.injEq, true_and] at h1; omega
    have e2 : sj = si := by have h1 := a1; rw [b1] at h1; simpa using h1
    have e3 : kj = ki := by have h1 := a2; rw [b2] at h1; simp only [Option.some.injEq, Value.int.injEq, true_and] at h1; omega
    subst e1 e2 e3
    clear b0 b1 b2 k0 k1 k2 hjI hjn
    go_enter Try.func79, Try.ntmps79
    go_region
    go_end0
    refine ⟨rfl, ?_, (((((((Only.refl g w).setCell _ _ _).setCell _ _ _).setCell _ _ _).setCell _ _ _).setCell _ _ _).setCell _ _ _).drew⟩
    have h6 := ((((((HO.out.stored (i * 3) (.int .i64 (aj : Int))).1.stored (i * 3 + 1) (.int .i64 sj)).1.stored (i * 3 + 2) (.int .i64 (kj : Int))).1.stored (i * 3) (.int .i64 (aj : Int))).1.stored (i * 3 + 1) (.int .i64 sj)).1.stored (i * 3 + 2) (.int .i64 (kj : Int))).1
    rw [HSX.out (aj, sj, kj), HSX.out (aj, sj, kj), List.set_set] at h6
    rw [HS.out]
    exact own_drew h6
  · have hij3 : i * 3 ≠ j * 3 := by omega
    go_enter Try.func79, Try.ntmps79
    go_region
    go_end0
    refine ⟨rfl, ?_, (((((((Only.refl g w).setCell _ _ _).setCell _ _ _).setCell _ _ _).setCell _ _ _).setCell _ _ _).setCell _ _ _).drew⟩
    have h6 := ((((((HO.out.stored (i * 3) (.int .i64 (aj : Int))).1.stored (i * 3 + 1) (.int .i64 sj)).1.stored (i * 3 + 2) (.int .i64 (kj : Int))).1.stored (j * 3) (.int .i64 (ai : Int))).1.stored (j * 3 + 1) (.int .i64 si)).1.stored (j * 3 + 2) (.int .i64 (ki : Int))).1
    rw [HSX.out (aj, sj, kj), HSX.out (ai, si, ki)] at h6
    rw [HS.out]
    exact own_drew h6
end Go.Proofs.Ytalbcimnnihmnaa

/- give's queue as a heap: its methods by a pointer; its state, and what is asked of a heap. Conditions: steps and pulses up to 1000000, 1000 bands. -/
namespace Go.Proofs.Ytalbcimnnihmnaa
open Go.RowKit
open M
/-- A method that takes a pointer. -/
theorem meth_ptr18 {P : Program} {T E : TypeId} {name : String} {f : FuncId} (hm : ((P.info? T).bind fun i => i.methods.find? (·.name == name)).map (fun m => (m.path.toList, m.func)) = some ([], some (f, true))) (hT : P.underlying T = some (.pointer E)) (w : World) (a : Addr) (k : Nat) :
    (method (k + 1) T (.pointer (some a)) name).run P w = .ok (f, .pointer (some a)) w := by
  cases hi : P.info? T with
  | none => rw [hi] at hm; simp at hm
  | some i =>
    rw [hi] at hm
    simp only [Option.bind_some] at hm
    cases hf : i.methods.find? (·.name == name) with
    | none => rw [hf] at hm; simp at hm
    | some m =>
      rw [hf] at hm
      simp only [Option.map_some, Option.some.injEq, Prod.mk.injEq] at hm
      obtain ⟨h1, h2⟩ := hm
      simp [method, typeInfo, hi, hf, h1, h2, follow, receiverAt, run_underlying hT, Place.get]
theorem n_len : ((Try.prog.info? 71).bind fun i => i.methods.find? (·.name == "Len")).map (fun m => (m.path.toList, m.func)) = some ([], some (33, true)) := by kernel_rfl
theorem n_less : ((Try.prog.info? 71).bind fun i => i.methods.find? (·.name == "Less")).map (fun m => (m.path.toList, m.func)) = some ([], some (76, true)) := by kernel_rfl
theorem n_swap : ((Try.prog.info? 71).bind fun i => i.methods.find? (·.name == "Swap")).map (fun m => (m.path.toList, m.func)) = some ([], some (79, true)) := by kernel_rfl
theorem n_pop : ((Try.prog.info? 71).bind fun i => i.methods.find? (·.name == "Pop")).map (fun m => (m.path.toList, m.func)) = some ([], some (77, true)) := by kernel_rfl
theorem n_push : ((Try.prog.info? 71).bind fun i => i.methods.find? (·.name == "Push")).map (fun m => (m.path.toList, m.func)) = some ([], some (78, true)) := by kernel_rfl
/-- The blocks that F names are as they were. -/
structure KF (F : Nat → Prop) (w0 w : World) : Prop where
  os : w.os = w0.os
  tape : w.tape = w0.tape
  output : w.output = w0.output
  size : w0.heap.size ≤ w.heap.size
  block : ∀ k, F k → w.heap[k]? = w0.heap[k]?
theorem KF.refl (F : Nat → Prop) (w : World) : KF F w w := ⟨rfl, rfl, rfl, Nat.le_refl _, fun _ _ => rfl⟩
theorem KF.below {B : Nat} {w0 w : World} (h : KF (· < B) w0 w) : Below B w0 w := ⟨h.os, h.tape, h.output, h.size, h.block⟩
theorem KF.of {B : Nat} {w0 w : World} (h : Below B w0 w) : KF (· < B) w0 w := ⟨h.os, h.tape, h.output, h.size, h.block⟩
theorem KF.more {F : Nat → Prop} {w0 w w' : World} (h : KF F w0 w) (hf : ∀ k, F k → k < w.heap.size) (hb : Below w.heap.size w w') : KF F w0 w' :=
  ⟨hb.os.trans h.os, hb.tape.trans h.tape, hb.output.trans h.output, Nat.le_trans h.size hb.size, fun k hk => (hb.block k (hf k hk)).trans (h.block k hk)⟩
theorem KF.only {F : Nat → Prop} {w0 w w' : World} {g : Nat} (h : KF F w0 w) (hf : ¬ F g) (hb : Only g w w') : KF F w0 w' :=
  ⟨hb.os.trans h.os, hb.tape.trans h.tape, hb.output.trans h.output, Nat.le_trans h.size (Nat.le_of_eq hb.size.symm), fun k hk => (hb.block k (fun e => hf (by rw [← e]; exact hk))).trans (h.block k hk)⟩
theorem KF.set {F : Nat → Prop} {w0 w : World} {p : Addr} (h : KF F w0 w) (hf : ¬ F p.block) (u : Value) : KF F w0 (w.setCell p u) := by
  have hs : (w.setCell p u).heap.size = w.heap.size := by simp [World.setCell]
  exact ⟨h.os, h.tape, h.output, by rw [hs]; exact h.size, fun k hk => (Below.heap_setCell w p u k (fun e => hf (by rw [← e]; exact hk))).trans (h.block k hk)⟩
theorem KF.trans {F K : Nat → Prop} {w0 w1 w : World} (h : KF F w0 w1) (hk : ∀ k, F k → K k) (h2 : KF K w1 w) : KF F w0 w :=
  ⟨h2.os.trans h.os, h2.tape.trans h.tape, h2.output.trans h.output, Nat.le_trans h.size h2.size, fun k e => (h2.block k (hk k e)).trans (h.block k e)⟩
/-- A queue lies behind a pointer; the blocks that F names stay. -/
structure QS (w0 : World) (F : Nat → Prop) (B h : Nat) (l : List (Nat × Int × Nat)) (w : World) : Prop where
  v : ∃ v, Row w h 90 (hV v) ∧ w.ownsRow B 74 3 v l.length (wV l) ∧ ∀ g, v.ownBlock = some g → ¬ F g
  hb : B ≤ h
  fh : ¬ F h
  fl : ∀ k, F k → k < w.heap.size
  be : KF F w0 w
  bd : ∀ p ∈ l, hd18 p
  ln : l.length ≤ 1000
theorem own_far18 {w : World} {B h n size : Nat} {e t : TypeId} {v : Value} {ys : Array Value} {xs : List Value} (hr : Row w h t ys) (ho : w.ownsRow B e size v n xs) (hne : e ≠ t) : v.ownBlock ≠ some h := by
  intro he
  rcases ho.2 with ⟨rfl, _⟩ | ⟨g2, cap2, cur2, rfl, _, hr2, _⟩
  · simp [Value.ownBlock] at he
  · simp only [Value.ownBlock, Option.some.injEq] at he
    subst he
    unfold Row at hr
    rw [hr] at hr2
    injection hr2 with hr2
    injection hr2 with _ hr2 _
    exact hne hr2.symm
theorem QS.below {w0 w w' : World} {F : Nat → Prop} {B h : Nat} {l : List (Nat × Int × Nat)} (H : QS w0 F B h l w) (hb : Below w.heap.size w w') : QS w0 F B h l w' := by
  obtain ⟨v, hr, ho, hf⟩ := H.v
  exact ⟨⟨v, hr.box hb, own13_stay ho hb, hf⟩, H.hb, H.fh, fun k hk => Nat.lt_of_lt_of_le (H.fl k hk) hb.size, H.be.more H.fl hb, H.bd, H.ln⟩
theorem QS.lt {w0 w : World} {F : Nat → Prop} {B h : Nat} {l : List (Nat × Int × Nat)} (H : QS w0 F B h l w) : h < w.heap.size := by
  obtain ⟨v, hr, _, _⟩ := H.v
  exact hr.lt
set_option maxRecDepth 100000 in
theorem QS.hm {w0 : World} {F : Nat → Prop} {B h : Nat} (d : Nat × Int × Nat) : HM lt18 d 71 (.pointer (some ⟨h, 0, none⟩)) 33 76 79 (QS w0 F B h) where
  en := fun args w => by kernel_rfl
  el := fun args w => by kernel_rfl
  es := fun args w => by kernel_rfl
  len := fun l w H => by
    obtain ⟨v, hr, ho, _⟩ := H.v
    refine ⟨_, meth_ptr18 n_len Try.underlying71 w ⟨h, 0, none⟩ _, ?_⟩
    have hv : ∃ a cap, v = .slice a l.length cap := by
      rcases ho.2 with ⟨rfl, h0⟩ | ⟨g2, cap2, cur2, rfl, _⟩
      · exact ⟨none, 0, by rw [h0]⟩
      · exact ⟨_, _, rfl⟩
    obtain ⟨a, cap, rfl⟩ := hv
    exact (tlen_any h l.length a cap w hr).mono fun e w' ⟨he, hw⟩ => ⟨he, by subst hw; exact H⟩
  less := fun l w i j H hi hj => by
    obtain ⟨v, hr, ho, _⟩ := H.v
    obtain ⟨g, cap, rfl, _⟩ := own13_form ho (by omega)
    refine ⟨_, meth_ptr18 n_less Try.underlying71 w ⟨h, 0, none⟩ _, ?_⟩
    exact (tless_any B h g cap l.length l d i j w H.bd hi hj hr ho).mono fun e w' ⟨he, hb⟩ => ⟨he, H.below hb⟩
  swap := fun l w i j H hi hj => by
    obtain ⟨v, hr, ho, hf⟩ := H.v
    obtain ⟨g, cap, rfl, _⟩ := own13_form ho (by omega)
    refine ⟨_, meth_ptr18 n_swap Try.underlying71 w ⟨h, 0, none⟩ _, ?_⟩
    have hne : g ≠ h := fun e => own_far18 hr ho (by decide) (by rw [← e]; rfl)
    refine (tswap_any B h g cap l.length l d i j w hi hj hne hr ho).mono fun e w' ⟨he, ho2, hon⟩ => ⟨he, ⟨⟨_, ?_, by rw [swq_len]; exact ho2, hf⟩, H.hb, H.fh, fun k hk => Nat.lt_of_lt_of_eq (H.fl k hk) hon.size.symm, H.be.only (hf g rfl) hon, ?_, by rw [swq_len]; exact H.ln⟩⟩
    · exact (hon.block h (fun e => hne e.symm)).trans hr
    · intro p hp
      exact H.bd p ((swq_perm d l i j hi hj).mem_iff.1 hp)
end Go.Proofs.Ytalbcimnnihmnaa
