/-
  The contracts of Round, of the reference's, of what undoes a round, and the walk of the law SipRounds.
-/
import Derived.Test.YtplbmebhpjpnfaaDoorFr
import Derived.Deep.QuietTactic
import Derived.BigQuiet
import Derived.Deep.RegionWith
import Derived.Deep.RegionHeld3
import Derived.Deep.DeepCutAuto
namespace Go.Proofs.YtplbmebhpjpnfaaDoor
open Go.RowKit
open M
attribute [local go_sem] un_add un_sub un_xor un_or un_nonneg un_beq un_bne cells4

theorem left_int (x : BitVec 64) (n : Int) (w : World) (h0 : 0 ≤ n) (h1 : n ≤ 64) :
    Calls Tryd.prog 25 #[.int .u64 (un x), .int .i64 n] w fun e w' => e = .returned (.int .u64 (un (rot x n))) ∧ w = w' := by
  obtain ⟨k, rfl⟩ : ∃ k : Nat, n = k := ⟨n.toNat, by omega⟩
  exact left_any x k w (by omega)
theorem Below.quiet {B : Nat} {a w : World} (h : Below B a w) (n : Nat) : Below B a (w.drewN n) := ⟨h.os, h.tape, h.output, h.size, h.block⟩

theorem below_set4 {B g : Nat} {a w : World} (h : Below B a w) (hg : B ≤ g) (u0 u1 u2 u3 : Value) : Below B a ((((w.setCell ⟨g, 0, none⟩ u0).setCell ⟨g, 1, none⟩ u1).setCell ⟨g, 2, none⟩ u2).setCell ⟨g, 3, none⟩ u3) :=
  (((h.setCell (p := ⟨g, 0, none⟩) hg u0).setCell (p := ⟨g, 1, none⟩) hg u1).setCell (p := ⟨g, 2, none⟩) hg u2).setCell (p := ⟨g, 3, none⟩) hg u3
theorem row_new (w : World) (g : Nat) (hg : w.heap.size = g) (cs : Array Value) (t : TypeId) : Row (w.alloc (.cells cs t)) g t cs := by
  subst hg; exact heap_alloc_new _ _

theorem Round_any (v : V4) (w : World) :
    Calls Tryd.prog 14 #[.agg (cells4 v)] w fun e w' => e = .returned (.agg (cells4 v.round)) ∧ Below w.heap.size w w' := by
  go_enter Tryd.func14, Tryd.ntmps14
  go_wp2_with fail
  refine (round_any (w.heap.size + 1 + 1) 42 v _ (row_new _ _ (by simp) _ _)).mono ?_
  rintro e w1 ⟨rfl, ho, hr⟩
  have hz : Row w1 (w.heap.size + 1) 30 #[.int .u64 0, .int .u64 0, .int .u64 0, .int .u64 0] :=
    (ho.block (w.heap.size + 1) (by omega)).trans ((Below.heap_alloc _ _ _ (by simp)).trans (heap_alloc2_new _ _ _))
  have c0 := hr.c0
  have c1 := hr.c1
  have c2 := hr.c2
  have c3 := hr.c3
  have f0 : ∀ j, w1.frozen? ⟨w.heap.size + 1, j, none⟩ = false := fun j => hz.free j
  have z0 : w1.cell? ⟨w.heap.size + 1, 0, none⟩ = some (.int .u64 0) := cell_of_row _ _ _ _ _ _ hz
  have z1 : w1.cell? ⟨w.heap.size + 1, 1, none⟩ = some (.int .u64 0) := cell_of_row _ _ _ _ _ _ hz
  have z2 : w1.cell? ⟨w.heap.size + 1, 2, none⟩ = some (.int .u64 0) := cell_of_row _ _ _ _ _ _ hz
  have z3 : w1.cell? ⟨w.heap.size + 1, 3, none⟩ = some (.int .u64 0) := cell_of_row _ _ _ _ _ _ hz
  have HB : Hid (Below w.heap.size w w1) := ((((Below.refl w.heap.size w).alloc (Nat.le_refl _) _).alloc (by simp) _).alloc (by simp; omega) _).trans (ho.below (by omega))
  clear ho hr hz
  go_wp2
  refine bodyPost_ret (v := .agg (cells4 v.round)) (by simp [results, Tryd.results14, go_sem, *]) rfl ⟨rfl, ?_⟩
  exact (((HB.out.setCell (p := ⟨w.heap.size + 1, 0, none⟩) (by simp) _).setCell (p := ⟨w.heap.size + 1, 1, none⟩) (by simp) _).setCell (p := ⟨w.heap.size + 1, 2, none⟩) (by simp) _).setCell (p := ⟨w.heap.size + 1, 3, none⟩) (by simp) _

theorem refRound_any (v : V4) (w : World) :
    Calls Tryd.prog 16 #[.agg (cells4 v)] w fun e w' => e = .returned (.agg (cells4 v.round)) ∧ Below w.heap.size w w' := by
  go_enter Tryd.func16, Tryd.ntmps16
  go_wp2_with fail
  go_quiet (fail)
  go_wp2_with (go_at_call 25; refine (left_int _ _ _ (by omega) (by omega)).mono ?_; rintro e w' ⟨rfl, rfl⟩)
  refine bodyPost_ret (v := .agg (cells4 v.round)) (by simp [results, Tryd.results16, go_sem]; exact ⟨rfl, rfl, rfl, rfl⟩) rfl ⟨rfl, ?_⟩
  exact below_set4 (Below.quiet (((Below.refl _ _).alloc (Nat.le_refl _) _).alloc (by simp) _) _) (by omega) _ _ _ _

theorem back_any (v : V4) (w : World) :
    Calls Tryd.prog 15 #[.agg (cells4 v)] w fun e w' => e = .returned (.agg (cells4 v.back)) ∧ Below w.heap.size w w' := by
  go_enter Tryd.func15, Tryd.ntmps15
  go_wp2_with fail
  go_quiet (fail)
  go_wp2_with (go_at_call 17; refine (turn_any _ _ _).mono ?_; rintro e w' ⟨rfl, rfl⟩)
  refine bodyPost_ret (v := .agg (cells4 v.back)) (by simp [results, Tryd.results15, go_sem]; exact ⟨rfl, rfl, rfl, rfl⟩) rfl ⟨rfl, ?_⟩
  exact below_set4 (Below.quiet (((Below.refl _ _).alloc (Nat.le_refl _) _).alloc (by simp) _) _) (by omega) _ _ _ _

/-- Are four words the same as four? -/
def eqV (v u : V4) : Bool := v.a == u.a && v.b == u.b && v.c == u.c && v.d == u.d
theorem eqV_iff (v u : V4) : eqV v u = true ↔ v = u := by
  obtain ⟨a, b, c, d⟩ := v
  obtain ⟨a', b', c', d'⟩ := u
  simp [eqV, and_assoc]
theorem eqV_self (v : V4) : eqV v v = true := (eqV_iff v v).2 rfl
theorem eqV_round (v u : V4) : eqV v.round u.round = eqV v u := by
  rw [Bool.eq_iff_iff, eqV_iff, eqV_iff]
  exact ⟨fun h => by rw [← V4.back_round v, h, V4.back_round], fun h => by rw [h]⟩
theorem eq30 (a b c d e f g h : Int) (w : World) :
    (Op.equalIn 10000 30 (.agg #[.int .u64 a, .int .u64 b, .int .u64 c, .int .u64 d]) (.agg #[.int .u64 e, .int .u64 f, .int .u64 g, .int .u64 h])).run Tryd.prog w = .ok (a == e && b == f && c == g && d == h) w := by
  have u3 := Tryd.underlying27
  have a3 := Tryd.isAgg27
  have z3 := Tryd.sizeOf27
  rw [show (10000 : Nat) = 9999 + 1 from rfl, Op.equalIn]
  simp only [Sem.run_bind, run_underlying Tryd.underlying30, Result.andThen_ok]
  simp only [Std.Legacy.Range.forIn_eq_forIn_range', Std.Legacy.Range.size, Nat.sub_zero, Nat.add_sub_cancel, Nat.div_one, List.range'_succ, List.range'_zero, List.forIn_cons, List.forIn_nil]
  go_simp
  by_cases h1 : a = e <;> by_cases h2 : b = f <;> by_cases h3 : c = g <;> by_cases h4 : d = h <;> simp [h1, h2, h3, h4]
theorem eq30V (v u : V4) (w : World) :
    (Op.equalIn 10000 30 (.agg #[.int .u64 (un v.a), .int .u64 (un v.b), .int .u64 (un v.c), .int .u64 (un v.d)]) (.agg #[.int .u64 (un u.a), .int .u64 (un u.b), .int .u64 (un u.c), .int .u64 (un u.d)])).run Tryd.prog w = .ok (eqV v u) w := by
  rw [eq30]; simp only [eqV, un_beq]

/-- Four words lie from a block's head on. -/
def At4 (w : World) (g : Nat) (v : V4) : Prop := w.cell? ⟨g, 0, none⟩ = some (.int .u64 (un v.a)) ∧ w.cell? ⟨g, 1, none⟩ = some (.int .u64 (un v.b)) ∧ w.cell? ⟨g, 2, none⟩ = some (.int .u64 (un v.c)) ∧ w.cell? ⟨g, 3, none⟩ = some (.int .u64 (un v.d))
theorem At4.lt {w : World} {g : Nat} {v : V4} (h : At4 w g v) : g < w.heap.size := block_lt_of_cell h.1
theorem At4.below {B : Nat} {w w' : World} {g : Nat} {v : V4} (h : At4 w g v) (hb : Below B w w') (hg : g < B) : At4 w' g v :=
  ⟨(hb.cell (p := ⟨g, 0, none⟩) hg).trans h.1, (hb.cell (p := ⟨g, 1, none⟩) hg).trans h.2.1, (hb.cell (p := ⟨g, 2, none⟩) hg).trans h.2.2.1, (hb.cell (p := ⟨g, 3, none⟩) hg).trans h.2.2.2⟩
theorem two4 {W0 W : World} {p q : Nat} {v u : V4} (hp : At4 W0 p v) (hq : At4 W0 q u) (hb : Below W0.heap.size W0 W) :
    (W.cell? ⟨p, 0, none⟩ = some (.int .u64 (un v.a)) ∧ W.cell? ⟨p, 1, none⟩ = some (.int .u64 (un v.b)) ∧ W.cell? ⟨p, 2, none⟩ = some (.int .u64 (un v.c)) ∧ W.cell? ⟨p, 3, none⟩ = some (.int .u64 (un v.d))) ∧
    W.cell? ⟨q, 0, none⟩ = some (.int .u64 (un u.a)) ∧ W.cell? ⟨q, 1, none⟩ = some (.int .u64 (un u.b)) ∧ W.cell? ⟨q, 2, none⟩ = some (.int .u64 (un u.c)) ∧ W.cell? ⟨q, 3, none⟩ = some (.int .u64 (un u.d)) :=
  ⟨hp.below hb hp.lt, hq.below hb hq.lt⟩
theorem four4 {W0 W : World} {p q g k : Nat} {v u x y : V4} (hp : At4 W0 p v) (hq : At4 W0 q u) (hg : At4 W0 g x) (hk : At4 W0 k y) (hb : Below W0.heap.size W0 W) :
    (W.cell? ⟨p, 0, none⟩ = some (.int .u64 (un v.a)) ∧ W.cell? ⟨p, 1, none⟩ = some (.int .u64 (un v.b)) ∧ W.cell? ⟨p, 2, none⟩ = some (.int .u64 (un v.c)) ∧ W.cell? ⟨p, 3, none⟩ = some (.int .u64 (un v.d))) ∧
    (W.cell? ⟨q, 0, none⟩ = some (.int .u64 (un u.a)) ∧ W.cell? ⟨q, 1, none⟩ = some (.int .u64 (un u.b)) ∧ W.cell? ⟨q, 2, none⟩ = some (.int .u64 (un u.c)) ∧ W.cell? ⟨q, 3, none⟩ = some (.int .u64 (un u.d))) ∧
    (W.cell? ⟨g, 0, none⟩ = some (.int .u64 (un x.a)) ∧ W.cell? ⟨g, 1, none⟩ = some (.int .u64 (un x.b)) ∧ W.cell? ⟨g, 2, none⟩ = some (.int .u64 (un x.c)) ∧ W.cell? ⟨g, 3, none⟩ = some (.int .u64 (un x.d))) ∧
    W.cell? ⟨k, 0, none⟩ = some (.int .u64 (un y.a)) ∧ W.cell? ⟨k, 1, none⟩ = some (.int .u64 (un y.b)) ∧ W.cell? ⟨k, 2, none⟩ = some (.int .u64 (un y.c)) ∧ W.cell? ⟨k, 3, none⟩ = some (.int .u64 (un y.d)) :=
  ⟨hp.below hb hp.lt, hq.below hb hq.lt, hg.below hb hg.lt, hk.below hb hk.lt⟩
theorem below_rules {W w1 : World} (hb : Below W.heap.size W w1) : (∀ b o, b < W.heap.size → w1.cell? ⟨b, o, none⟩ = W.cell? ⟨b, o, none⟩) ∧ (∀ b o, b < W.heap.size → w1.frozen? ⟨b, o, none⟩ = W.frozen? ⟨b, o, none⟩) :=
  ⟨fun b o h => hb.cell (p := ⟨b, o, none⟩) h, fun b o h => hb.frozen (p := ⟨b, o, none⟩) h⟩
end Go.Proofs.YtplbmebhpjpnfaaDoor
