/-
  What layer 6 shares: slices.Equal, Clone, Insert (this program's texts are those that the library's contracts speak of); a slice of numbers in a block of its own. No conditions but those that each fact names.
-/
import Derived.Test.YtbokecpcefcimaaHs
import Derived.Test.YtbokecpcefcimaaHr
import Derived.Shelf.Slices.Equal
import Derived.Shelf.Slices.Clone
import Derived.Shelf.Slices.Empties2
import Derived.Shelf.Spec.SlicesInsertGrow
import Derived.Shelf.Spec.SlicesInsert
namespace Go.Proofs.Ytbokecpcefcimaa
open Go.RowKit
open M

def laysEq_ren : Go.Shelf.Ren := ⟨fun | 111 => 33 | n => n, fun | 28 => 40 | 3 => 3 | 4 => 4 | 0 => 0 | n => n, fun | n => n⟩
theorem laysEq : Go.Proofs.Lays.n111 Try.prog laysEq_ren := {
  mixed := by kernel_rfl
  f111 := Try.func33.trans (congrArg some (by kernel_rfl))
  t0 := Try.underlying0
  a0 := Try.isAgg0
  z0 := Try.sizeOf0
  v0 := Try.zeroValue0
  t3 := Try.underlying3
  a3 := Try.isAgg3
  z3 := Try.sizeOf3
  v3 := Try.zeroValue3
  t4 := Try.underlying4
  a4 := Try.isAgg4
  z4 := Try.sizeOf4
  v4 := Try.zeroValue4
  t28 := Try.underlying40
  a28 := Try.isAgg40
  z28 := Try.sizeOf40
  v28 := Try.zeroValue40 }
def laysCl_ren : Go.Shelf.Ren := ⟨fun | 15 => 47 | n => n, fun | 22 => 40 | 3 => 3 | 4 => 4 | n => n, fun | n => n⟩
theorem laysCl : Go.Proofs.Lays2.n15 Try.prog laysCl_ren := {
  mixed := by kernel_rfl
  f15 := Try.func47.trans (congrArg some (by kernel_rfl))
  t3 := Try.underlying3
  a3 := Try.isAgg3
  z3 := Try.sizeOf3
  v3 := Try.zeroValue3
  t4 := Try.underlying4
  a4 := Try.isAgg4
  z4 := Try.sizeOf4
  v4 := Try.zeroValue4
  t22 := Try.underlying40
  a22 := Try.isAgg40
  z22 := Try.sizeOf40
  v22 := Try.zeroValue40
  i3 := by kernel_rfl }
def laysIns_ren : Go.Shelf.Ren := ⟨fun | 21 => 46 | 27 => 54 | 28 => 55 | 35 => 56 | 39 => 57 | n => n, fun | 22 => 40 | 3 => 3 | 4 => 4 | 0 => 0 | n => n, fun | n => n⟩
theorem laysIns : Go.Proofs.Lays2.n21 Try.prog laysIns_ren := {
  mixed := by kernel_rfl
  f21 := Try.func46.trans (congrArg some (by kernel_rfl))
  f27 := Try.func54.trans (congrArg some (by kernel_rfl))
  f28 := Try.func55.trans (congrArg some (by kernel_rfl))
  f35 := Try.func56.trans (congrArg some (by kernel_rfl))
  f39 := Try.func57.trans (congrArg some (by kernel_rfl))
  t0 := Try.underlying0
  a0 := Try.isAgg0
  z0 := Try.sizeOf0
  v0 := Try.zeroValue0
  t3 := Try.underlying3
  a3 := Try.isAgg3
  z3 := Try.sizeOf3
  v3 := Try.zeroValue3
  t4 := Try.underlying4
  a4 := Try.isAgg4
  z4 := Try.sizeOf4
  v4 := Try.zeroValue4
  t22 := Try.underlying40
  a22 := Try.isAgg40
  z22 := Try.sizeOf40
  v22 := Try.zeroValue40
  i3 := by kernel_rfl }

/-- A slice of numbers that are not below 0, from the head of a block on. -/
def NAt (w : World) (v : Value) (l : List Nat) (g : Nat) : Prop :=
  ∃ cap cur, v = .slice (some ⟨g, 0, none⟩) l.length cap ∧ Row w g 3 cur ∧ ∀ i, i < l.length → cur[i]? = some (.int .i64 (l.getD i 0 : Nat))
theorem NAt.mono {w w' : World} {v : Value} {l : List Nat} {g : Nat} (h : NAt w v l g) (hr : ∀ cur, Row w g 3 cur → Row w' g 3 cur) : NAt w' v l g := by
  obtain ⟨cap, cur, h1, h2, h3⟩ := h
  exact ⟨cap, cur, h1, hr _ h2, h3⟩
theorem NAt.lt {w : World} {v : Value} {l : List Nat} {g : Nat} (h : NAt w v l g) : g < w.heap.size := by
  obtain ⟨cap, cur, h1, h2, h3⟩ := h
  exact Row.lt h2
theorem NAt.cell {w : World} {v : Value} {l : List Nat} {g : Nat} (h : NAt w v l g) (i : Nat) (hi : i < l.length) : w.cell? ⟨g, i, none⟩ = some (.int .i64 (l.getD i 0 : Nat)) := by
  obtain ⟨cap, cur, h1, h2, h3⟩ := h
  rw [cell_of_row _ _ _ _ _ _ h2, h3 i hi]
theorem castL_getD (l : List Nat) (i : Nat) : (castL l).getD i 0 = ((l.getD i 0 : Nat) : Int) := by
  unfold castL
  rcases Nat.lt_or_ge i l.length with h | h
  · simp [List.getD_eq_getElem?_getD, List.getElem?_eq_getElem h]
  · simp [List.getD_eq_getElem?_getD, List.getElem?_eq_none h]
theorem NAt.ints {w : World} {v : Value} {l : List Nat} {g : Nat} (h : NAt w v l g) : IntsAt w v (castL l) := by
  have hc := h.cell
  have hl := h.lt
  obtain ⟨cap, cur, rfl, h2, h3⟩ := h
  refine ⟨_, cap, by rw [castL_length], fun _ => ⟨g, 0, rfl, hl, fun i hi => ?_⟩⟩
  rw [castL_length] at hi
  rw [Nat.zero_add, hc i hi, castL_getD]
theorem vs_length (l : List Nat) : (vs l).length = l.length := by simp [vs]
theorem vs_one (l : List Nat) : ∀ u ∈ vs l, u.oneCell' = true := by
  intro u hu
  simp only [vs, List.mem_map] at hu
  obtain ⟨x, _, rfl⟩ := hu
  rfl
/-- What a call has made itself is such a slice. -/
theorem NAt.own {w : World} {base : Nat} {v : Value} {l : List Nat} (h : w.ownsRow base 3 1 v l.length (vs l)) (hl : 0 < l.length) : ∃ g, v.ownBlock = some g ∧ base ≤ g ∧ NAt w v l g := by
  rcases h.2 with ⟨_, h0⟩ | ⟨g, cap, cur, hv, hb, hg, hc1, hc2, hsz, htk⟩
  · omega
  · refine ⟨g, by rw [hv]; rfl, hb, cap, cur, hv, hg, fun i hi => ?_⟩
    have e : cur[i]? = (vs l)[i]? := by rw [← htk, List.getElem?_take, if_pos (by omega), Array.getElem?_toList]
    rw [e, vs_get l i hi]
/-- A block behind a row of stores. -/
def setA (cs : Array Value) : Nat → List Value → Array Value
  | _, [] => cs
  | o, v :: r => setA (cs.setIfInBounds o v) (o + 1) r
theorem Row.setCells {b : Nat} {t : TypeId} : ∀ (us : List Value) (o : Nat) (w : World) (cs : Array Value), Row w b t cs → Row (w.setCells b o us) b t (setA cs o us)
  | [], _, _, _, h => h
  | v :: r, o, w, cs, h => by
    rw [World.setCells]
    exact Row.setCells r (o + 1) _ _ (h.set o v)
theorem Only.setCells {b : Nat} : ∀ (us : List Value) (o : Nat) (w : World), Only b w (w.setCells b o us)
  | [], _, _ => Only.refl _ _
  | v :: r, o, w => by
    rw [World.setCells]
    exact ((Only.refl b w).setCell o none v).trans (Only.setCells r (o + 1) _)
theorem gb_refl (w : World) (r : Option Nat) : w.grownBy w r := ⟨rfl, rfl, rfl, Nat.le_refl _, fun _ _ _ => rfl⟩
theorem gb_drew {w w' : World} {r : Option Nat} (h : w.grownBy w' r) : w.grownBy w'.drew r := ⟨h.os, h.tape, h.output, h.size, h.block⟩
theorem gb_alloc {w w' : World} {r : Option Nat} (h : w.grownBy w' r) (o : Obj) : w.grownBy (w'.alloc o) r :=
  ⟨h.os, h.tape, h.output, by have := h.size; simp; omega, fun k hk hn => (Below.heap_alloc w' o k (by have := h.size; omega)).trans (h.block k hk hn)⟩
theorem gb_new {w w' w'' : World} {r : Option Nat} {g : Nat} (h : w.grownBy w' r) (hg : w.heap.size ≤ g) (k : Only g w' w'') : w.grownBy w'' r :=
  ⟨k.os.trans h.os, k.tape.trans h.tape, k.output.trans h.output, by have := h.size; have := k.size; omega, fun i hi hn => (k.block i (by omega)).trans (h.block i hi hn)⟩

/-- slices.Clone of such a slice. -/
theorem clone_any (v : Value) (l : List Nat) (g : Nat) (w : World) (h : NAt w v l g) (hl : l.length ≤ 1000) :
    Calls Try.prog 47 #[v] w fun e w' => ∃ v', e = .returned v' ∧ w'.ownsRow w.heap.size 3 1 v' l.length (vs l) ∧ Below w.heap.size w w' := by
  have hc := h.cell
  obtain ⟨cap, cur, rfl, h2, h3⟩ := h
  have k := Any.slices_Clone_int laysCl g 0 l.length cap (castL l) w (by rw [castL_length]; omega) (by omega) (fun j hj => by rw [castL_length] at hj; rw [Nat.zero_add, hc j hj, castL_getD])
  refine Calls.mono k ?_
  rintro e w' ⟨v', rfl, h4, _, h5⟩
  refine ⟨v', rfl, ?_, h5⟩
  have e1 : ((castL l).take l.length).map (Value.int .i64) = vs l := by
    rw [show l.length = (castL l).length by rw [castL_length], List.take_length]
    simp [castL, vs]
  rw [e1] at h4
  exact h4
/-- slices.Insert of a 0 at the head of a slice that the caller has made. -/
theorem ins0_any (v : Value) (l : List Nat) (base vb : Nat) (w : World) (h : w.ownsRow base 3 1 v l.length (vs l)) (hv : Row w vb 3 #[.int .i64 0]) (hne : some vb ≠ v.ownBlock) (hl : 0 < l.length) (hl2 : l.length ≤ 1000) (hbw : base ≤ w.heap.size) :
    Calls Try.prog 46 #[v, .int .i64 0, .slice (some ⟨vb, 0, none⟩) 1 1] w fun e w' => ∃ v' g, e = .returned v' ∧ NAt w' v' (0 :: l) g ∧ base ≤ g ∧ w.grownBy w' v.ownBlock := by
  rcases h.2 with ⟨_, h0⟩ | ⟨g, cap, cur, rfl, hb, hg, hc1, hc2, hsz, htk⟩
  · omega
  have hnb : vb ≠ g := by intro e; apply hne; rw [e]; rfl
  have hg' : Row w g 3 cur := hg
  have hcell : ∀ j u, (vs l)[j]? = some u → w.cell? ⟨g, 0 + j, none⟩ = some u := by
    intro j u hj
    have hjl := (List.getElem?_eq_some_iff.1 hj).1
    rw [vs_length] at hjl
    rw [Nat.zero_add, cell_of_row _ _ _ _ _ _ hg', ← hj, ← htk, List.getElem?_take, if_pos (by omega), Array.getElem?_toList]
  have hvc : ∀ j u, [Value.int .i64 0][j]? = some u → w.cell? ⟨vb, 0 + j, none⟩ = some u := by
    intro j u hj
    have hjl := (List.getElem?_eq_some_iff.1 hj).1
    have e0 : j = 0 := by simp at hjl; omega
    subst e0
    rw [cell_of_row _ _ _ _ _ _ hv, ← hj]; rfl
  have h1v : ∀ u ∈ [Value.int .i64 0], u.oneCell' = true := by
    intro u hu; simp at hu; subst hu; rfl
  have hmx : maxLen = 9223372036854775807 := rfl
  rcases Nat.lt_or_ge cap (l.length + 1) with hroom | hroom
  · have k := Any2.slices_Insert_int_grow laysIns g 0 l.length cap 0 vb 0 1 1 (vs l) [Value.int .i64 0] w hl (by omega) hc1 hroom (by omega) (vs_length l) rfl hcell hvc (vs_one l) h1v
    refine Calls.mono k ?_
    rintro e w' ⟨rfl, rfl⟩
    generalize hX : ((vs l).take 0).toArray ++ Builtin.zeroCells (Value.int .i64 0).cells (l.length + 1 - 0) ++ Builtin.zeroCells (Value.int .i64 0).cells (grownCap w (l.length + 1) cap (laysIns_ren.t 3) - (l.length + 1)) = X
    have hXs : l.length + 1 ≤ X.size := by
      rw [← hX]
      simp only [Array.size_append, size_zeroCells]
      show l.length + 1 ≤ _ + (l.length + 1 - 0) * 1 + _
      omega
    have r0 : Row (w.alloc (.cells X (laysIns_ren.t 3))) w.heap.size 3 X := heap_alloc_new _ _
    have r1 : Row (w.alloc (.cells X (laysIns_ren.t 3))).drew w.heap.size 3 X := r0
    have r2 := Row.setCells [Value.int .i64 0] 0 _ _ r1
    have r3 : Row (((w.alloc (.cells X (laysIns_ren.t 3))).drew.setCells w.heap.size 0 [Value.int .i64 0]).drew) w.heap.size 3 (setA X 0 [Value.int .i64 0]) := r2
    have r4 := Row.setCells (vs l) 1 _ _ r3
    have g1 : w.grownBy (w.alloc (.cells X (laysIns_ren.t 3))).drew (Value.slice (some ⟨g, 0, none⟩) l.length cap).ownBlock := gb_drew (gb_alloc (gb_refl w _) _)
    have g2 := gb_drew (gb_new g1 (Nat.le_refl _) (Only.setCells [Value.int .i64 0] 0 _))
    have g3 := gb_new g2 (Nat.le_refl _) (Only.setCells (vs l) 1 _)
    refine ⟨_, w.heap.size, rfl, ⟨_, _, by rw [List.length_cons], r4, fun i hi => ?_⟩, hbw, g3⟩
    rw [List.length_cons] at hi
    have e := cell_of_row _ _ i _ _ _ r4
    rw [← e]
    have hsome : ∀ j, j < l.length + 1 → (((w.alloc (.cells X (laysIns_ren.t 3))).drew.setCells w.heap.size 0 [Value.int .i64 0]).drew.cell? ⟨w.heap.size, j, none⟩).isSome = true := by
      intro j hj
      rw [cell_of_row _ _ _ _ _ _ r3]
      have : (setA X 0 [Value.int .i64 0]).size = X.size := by simp [setA]
      rw [Array.getElem?_eq_getElem (by omega)]; rfl
    cases i with
    | zero =>
      rw [World.cell?_setCells_out _ _ _ _ _ (fun _ _ => Or.inl (by show 0 < 1; omega)), cell_of_row _ _ _ _ _ _ r3]
      show (X.setIfInBounds 0 (Value.int .i64 0))[0]? = _
      rw [Array.getElem?_setIfInBounds, if_pos rfl, if_pos (by omega)]; rfl
    | succ i =>
      have := World.cell?_setCells_in w.heap.size (vs l) 1 (((w.alloc (.cells X (laysIns_ren.t 3))).drew.setCells w.heap.size 0 [Value.int .i64 0]).drew) (fun j hj => hsome (1 + j) (by rw [vs_length] at hj; omega)) i (by rw [vs_length]; omega)
      rw [show 1 + i = i + 1 by omega] at this
      have e2 := vs_get l i (by omega)
      rw [List.getElem?_eq_getElem (by rw [vs_length]; omega)] at e2
      rw [List.getD_cons_succ, ← e2]
      exact this
  · have k := Any2.slices_Insert_int_shift laysIns g 0 l.length cap 0 vb 0 1 1 (vs l) [Value.int .i64 0] w hl (by omega) hroom (by omega) hnb (vs_length l) rfl hcell
      (fun j hj => by rw [Nat.zero_add, cell_of_row _ _ _ _ _ _ hg', Array.getElem?_eq_getElem (by omega)]; rfl)
      (fun j hj => by rw [Nat.zero_add]; exact hg'.free j) hvc (vs_one l) h1v 3 3 1 cur.size
      (by unfold World.shape?; rw [show w.heap[vb]? = _ from hv]; rfl) (by unfold World.shape?; rw [hg]) (by omega) (hv.free 0) (hv.free 1)
    refine Calls.mono k ?_
    rintro e w' ⟨rfl, rfl⟩
    have r1 : Row w.drew g 3 cur := hg'
    have r2 := Row.setCells ((vs l).drop 0) (0 + (0 + 1)) _ _ r1
    have r3 := Row.setCells [Value.int .i64 0] (0 + 0) _ _ r2
    have o1 : Only g w w.drew := (Only.refl g w).drew
    have o3 := (o1.trans (Only.setCells ((vs l).drop 0) (0 + (0 + 1)) w.drew)).trans (Only.setCells [Value.int .i64 0] (0 + 0) _)
    refine ⟨_, g, rfl, ⟨_, _, by rw [List.length_cons], r3, fun i hi => ?_⟩, hb, gb_only (gb_refl w _) o3⟩
    rw [List.length_cons] at hi
    have e := cell_of_row _ _ i _ _ _ r3
    rw [← e]
    have hsome : ∀ j, j < l.length + 1 → ((w.drew.setCells g (0 + (0 + 1)) ((vs l).drop 0)).cell? ⟨g, j, none⟩).isSome = true := by
      intro j hj
      refine isSome_setCells g _ _ _ (fun i hi => ?_) j ?_
      · rw [List.drop_zero, vs_length] at hi
        rw [cell_of_row _ _ _ _ _ _ r1, Array.getElem?_eq_getElem (by omega)]; rfl
      · rw [cell_of_row _ _ _ _ _ _ r1, Array.getElem?_eq_getElem (by omega)]; rfl
    cases i with
    | zero =>
      have := World.cell?_setCells_in g [Value.int .i64 0] 0 (w.drew.setCells g (0 + (0 + 1)) ((vs l).drop 0)) (fun j hj => by
        have : j = 0 := by simp at hj; omega
        subst this
        exact hsome 0 (by omega)) 0 (by simp)
      exact this
    | succ i =>
      rw [World.cell?_setCells_out _ _ _ _ _ (fun _ _ => Or.inr (by show 0 + 0 + 1 ≤ i + 1; omega))]
      have := World.cell?_setCells_in g ((vs l).drop 0) (0 + (0 + 1)) w.drew (fun j hj => by
        rw [List.drop_zero, vs_length] at hj
        rw [cell_of_row _ _ _ _ _ _ r1, Array.getElem?_eq_getElem (by omega)]; rfl) i (by rw [List.drop_zero, vs_length]; omega)
      rw [show 0 + (0 + 1) + i = i + 1 by omega] at this
      rw [this]
      have e2 := vs_get l i (by omega)
      rw [List.getElem?_eq_getElem (by rw [vs_length]; omega)] at e2
      rw [List.getD_cons_succ, ← e2]
      simp
end Go.Proofs.Ytbokecpcefcimaa
