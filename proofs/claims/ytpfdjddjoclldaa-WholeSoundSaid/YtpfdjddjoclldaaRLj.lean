/-
  What lap's Samples stands on: a block read out of frames as they lie, a block appended where there is room, which frames are held. Conditions: the block lies in the list; there is room.
-/
import Derived.Test.YtpfdjddjoclldaaRLi
import Derived.ArgAppend
namespace Go.Proofs.Ytpfdjddjoclldaa
open Go.RowKit
open M
/-- Frames as they lie, one behind the other. -/
def FrAt (w : World) (g : Nat) (x : List Int) : Prop := g < w.heap.size ∧ ∀ p, p < x.length → w.cell? ⟨g, p, none⟩ = some (.int .i64 (x.getD p 0))
theorem FrAt.below {w w' : World} {g B : Nat} {x : List Int} (h : FrAt w g x) (hb : Below B w w') (hg : g < B) : FrAt w' g x :=
  ⟨Nat.lt_of_lt_of_le h.1 hb.size, fun p hp => (hb.cell (p := ⟨g, p, none⟩) hg).trans (h.2 p hp)⟩
theorem FrAt.row {w : World} {g : Nat} {t : TypeId} {x : List Int} (h : Row w g t (iCells x)) : FrAt w g x := ⟨Row.lt h, fun p hp => i_at h p hp⟩
theorem FrAt.range {w : World} {g : Nat} {x : List Int} (h : FrAt w g x) (b : Nat) (hb : 32 * b + 32 ≤ x.length) : w.rangeAt g (32 * b) (iCells (blk x b)).toList := fun j v hv => by
  have hj : j < 32 := by
    have := (List.getElem?_eq_some_iff.1 hv).1
    simpa [iCells, blk_len] using this
  rw [h.2 (32 * b + j) (by omega), ← hv, Array.getElem?_toList, iCells_get _ _ (by rw [blk_len]; exact hj), blk_getD _ _ _ hj]
section
variable {P : Program}
theorem wpList_load_fr {ops : Array Oper} {rest : List Oper} {op : Oper} {a : Act} {w : World} {Q : Exit → Act → World → Prop} (hgd : op.guard = none) (ty : TypeId) (y : Operand) (ho : op.op = .load ty y) (g b o : Nat) (hoo : o = 32 * b) (hx : a.eval y = .pointer (some ⟨g, o, none⟩))
    (x : List Int) (d : TypeDesc) (hr : FrAt w g x) (hb : 32 * b + 32 ≤ x.length) (hu : P.underlying ty = some d) (hd : d.isRow = true) (hi : (P.info? ty).map (·.size) = some 32)
    (h : wpList P ops Q rest (a.put op.dst (.agg (iCells (blk x b)))) w) : wpList P ops Q (op :: rest) a w := by
  subst hoo
  exact wpList_load_mid hgd ty y ho g _ hx _ d (hr.range b hb) hu hd (by rw [part_size _ (blk_len _ _)]; exact hi) h
/-- A block of numbers appended where there is room. -/
theorem run_append_block (w : World) (t ty e : TypeId) (ht : P.underlying t = some (.slice e)) (he : (P.info? e).map (·.size) = some 1) (g gf b cap c : Nat) (tg tf : TypeId) (x f : List Int) (hr : Row w g tg (iCells x)) (hf : Row w gf tf (iCells f)) (hfl : f.length = 32)
    (hb : 32 * b + 32 ≤ x.length) (hc : 32 * b + 32 ≤ cap) :
    (Builtin.append_ #[t, t] ty #[.slice (some ⟨g, 0, none⟩) (32 * b) cap, .slice (some ⟨gf, 0, none⟩) 32 c]).run P w = .ok (.slice (some ⟨g, 0, none⟩) (32 * (b + 1)) cap) (w.setRow g (iCells (putb x b f))) := by
  obtain ⟨i, hi, hs⟩ := Option.map_eq_some_iff.1 he
  have hl := part_size f hfl
  have h1 : ∀ v ∈ (iCells f).toList, v.oneCell' = true := fun v hv => (Array.all_eq_true_iff_forall_mem.1 (iCells_one f)) v (by simpa using hv)
  have hcell : ∀ j, j < (iCells f).toList.length → (w.cell? ⟨g, 32 * b + j, none⟩).isSome = true := fun j hj => by rw [i_at hr _ (by rw [hl] at hj; omega)]; rfl
  have hfree : ∀ j, j < (iCells f).toList.length → w.frozen? ⟨g, 32 * b + j, none⟩ = false := fun j _ => hr.free _
  have := run_append_room_cells (P := P) w t ty e i ht hi g 0 (32 * b) cap ⟨gf, 0, none⟩ 32 c (iCells f).toList (by rw [hl, hs]) (fun j u hu => by
      have hj := (List.getElem?_eq_some_iff.1 hu).1
      rw [hl] at hj
      rw [Addr.add_mid, Nat.zero_add, cell_of_row _ _ _ _ _ _ hf, ← hu, Array.getElem?_toList]) h1 (by omega)
      (fun j hj => by rw [hs, Nat.zero_add, Nat.mul_one]; exact hcell j hj) (fun j hj => by rw [hs, Nat.zero_add, Nat.mul_one]; exact hfree j hj)
  rw [hs, Nat.zero_add, Nat.mul_one] at this
  have e1 := run_storeCells_cells (P := P) g (32 * b) (iCells f).toList 0 w (by simpa using hcell) (by simpa using hfree) h1
  have e2 := run_storeCells_at P g (32 * b) tg (iCells f).toList 0 (iCells x) w hr (by rw [hl, iCells_size]; omega) h1
  rw [Nat.add_zero, hl] at e2
  have e3 : ((iCells x).toList.take (32 * b) ++ (iCells f).toList ++ (iCells x).toList.drop (32 * b + 32)).toArray = iCells (putb x b f) := by
    rw [← putb_cut x b f hb hfl]
    simp [iCells]
  rw [e3, e1, Nat.add_zero] at e2
  injection e2 with _ e4
  rw [this, e4, Nat.mul_add]
theorem wpList_append_block {ops : Array Oper} {rest : List Oper} {o : Oper} {a : Act} {w : World} {Q : Exit → Act → World → Prop} (hgd : o.guard = none) (s y : Operand) (t e : TypeId)
    (ho : o.op = .call { callee := .builtin .append, args := #[s, y], argTypes := #[t, t] }) (ht : P.underlying t = some (.slice e)) (he : (P.info? e).map (·.size) = some 1) (g gf b cap c : Nat) (tg tf : TypeId) (x f : List Int)
    (hs : a.eval s = .slice (some ⟨g, 0, none⟩) (32 * b) cap) (hy : a.eval y = .slice (some ⟨gf, 0, none⟩) 32 c) (hr : Row w g tg (iCells x)) (hf : Row w gf tf (iCells f)) (hfl : f.length = 32)
    (hb : 32 * b + 32 ≤ x.length) (hc : 32 * b + 32 ≤ cap)
    (h : wpList P ops Q rest (a.put o.dst (.slice (some ⟨g, 0, none⟩) (32 * (b + 1)) cap)) (w.setRow g (iCells (putb x b f)))) : wpList P ops Q (o :: rest) a w :=
  wpList_plain hgd fun _ hK => by
    have hrun := fun ty => run_append_block (P := P) w t ty e ht he g gf b cap c tg tf x f hr hf hfl hb hc
    unfold Oper.wp execOp
    simp only [ho, resolve, invoke, builtin, Sem.run_bind, Sem.run_pure, Result.andThen_ok, List.map_toArray, List.map_cons, List.map_nil, hs, hy, hrun]
    exact hK _ _ h
end
theorem any_hld (f : List Int) : f.any (byd 16777216) = !(M.hld f) := by
  rw [Bool.eq_iff_iff, Bool.not_eq_true', ← Bool.not_eq_true, hld_iff, List.any_eq_true]
  constructor
  · rintro ⟨x, hx, hb⟩ h
    have := h x hx
    simp only [byd, decide_eq_true_eq] at hb
    omega
  · intro h
    by_cases hc : ∃ x, x ∈ f ∧ byd 16777216 x = true
    · exact hc
    · refine absurd (fun x hx => ?_) h
      have : ¬ (byd 16777216 x = true) := fun k => hc ⟨x, hx, k⟩
      simp only [byd, decide_eq_true_eq] at this
      omega
theorem unw_yes (f : List Int) (h : f.any (byd 16777216) = false) : unw f = wbk f := by
  rw [any_hld] at h
  unfold unw
  rw [if_pos (by simpa using h)]
theorem unw_no (f : List Int) (h : f.any (byd 16777216) = true) : unw f = f0 := by
  rw [any_hld] at h
  unfold unw
  rw [if_neg (by simpa using h)]
  rfl
theorem any_Hld (f : List Int) (hl : f.length = 32) (h : f.any (byd 16777216) = false) : Hld f := ⟨hl, fun x hx => by
  have := List.any_eq_false.1 h x hx
  simp only [byd, decide_eq_true_eq] at this
  omega⟩
theorem blk_zeros (n i : Nat) : blk (List.replicate (32 * n) 0) i = f0 := by
  unfold blk f0
  refine Eq.trans (tb_congr 32 _ (fun _ => (0 : Int)) fun j _ => ?_) ?_
  · rw [List.getD_eq_getElem?_getD, List.getElem?_replicate]
    split <;> rfl
  · rw [List.map_const', List.length_range]
theorem beyond_ex (m : Int) (w : World) : Calls Try.prog 25 #[.int .i64 m] w fun e w' => ∃ gb, e = .returned (.func (.func 36) #[] #[.pointer (some ⟨gb, 0, none⟩)]) ∧ w'.cell? ⟨gb, 0, none⟩ = some (.int .i64 m) ∧ Below w.heap.size w w' := by
  refine (beyond_any m w).mono ?_
  rintro e w' ⟨rfl, rfl⟩
  exact ⟨_, rfl, box_cell w _ _, (Below.refl _ _).alloc (Nat.le_refl _) _⟩
/-- A whole array read as a slice. -/
theorem ints_row {w : World} {g : Nat} {t : TypeId} {f : List Int} (h : Row w g t (iCells f)) (c : Nat) : IntsAt w (.slice (some ⟨g, 0, none⟩) f.length c) f :=
  ⟨_, c, rfl, fun _ => ⟨g, 0, rfl, Row.lt h, fun i hi => by rw [Nat.zero_add]; exact i_at h i hi⟩⟩
end Go.Proofs.Ytpfdjddjoclldaa
