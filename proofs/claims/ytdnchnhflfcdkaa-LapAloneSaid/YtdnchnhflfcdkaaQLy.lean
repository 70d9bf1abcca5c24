/-
  Layer 11's laws: slices of the call's own, of numbers and of arrays of 32 numbers: appended, read, stored into. Conditions: those that each fact names.
-/
import Derived.Test.YtdnchnhflfcdkaaQLv
import Derived.Test.YtdnchnhflfcdkaaQM2
import Derived.Great.BuildSlice
namespace Go.Proofs.Ytdnchnhflfcdkaa
open Go.RowKit
open M
theorem iV_set (l : List Int) (k : Nat) (z : Int) : (iV l).set k (.int .i64 z) = iV (l.set k z) := by simp [iV, List.map_set]
theorem iCells_iV (l : List Int) : (iCells l).toList = iV l := by simp [iCells, iV]
theorem iV_iCells (l : List Int) : (iV l).toArray = iCells l := rfl
theorem src_one (w : World) (g : Nat) (hg : w.heap.size = g) (z : Int) : SrcI (w.alloc (.cells #[.int .i64 z] 3)) (.slice (some ⟨g, 0, none⟩) 1 1) [z] := by
  subst hg
  refine Or.inr ⟨w.heap.size, 1, rfl, Nat.le_refl _, by simp, fun i hi => ?_⟩
  obtain rfl : i = 0 := by simp at hi; exact hi
  exact (cell_of_row _ _ 0 _ _ (0, 0) (row_new w _ rfl #[.int .i64 z] 3)).trans rfl
section
variable {P : Program}
theorem run_append_nothing (w : World) (base : Nat) (t ty e : TypeId) (i : TypeInfo) (size c : Nat) (ht : P.underlying t = some (.slice e)) (hi : P.info? e = some i)
    (v : Value) (n : Nat) (xs : List Value) (hown : w.ownsRow base e size v n xs) :
    (Builtin.append_ #[t, t] ty #[v, .slice none 0 c]).run P w = .ok v w := by
  rcases hown.2 with ⟨rfl, rfl⟩ | ⟨g, cap, cur, rfl, _, _, hnc, _⟩
  · simp [Builtin.append_, run_underlying ht, sizeOf, typeInfo, hi, Builtin.lenOf, Builtin.firstCells]
  · simp [Builtin.append_, run_underlying ht, sizeOf, typeInfo, hi, Builtin.lenOf, Builtin.firstCells, hnc, storeCells]
theorem wpList_append_nothing {w : World} {ops : Array Oper} {rest : List Oper} {o : Oper} {a : Act} {Q : Exit → Act → World → Prop} (hgd : o.guard = none) (s x : Operand) (t : TypeId)
    (ho : o.op = .call { callee := .builtin .append, args := #[s, x], argTypes := #[t, t] })
    (base : Nat) (e : TypeId) (i : TypeInfo) (size c : Nat) (ht : P.underlying t = some (.slice e)) (hi : P.info? e = some i)
    (v : Value) (n : Nat) (xs : List Value) (hs : a.eval s = v) (hown : w.ownsRow base e size v n xs) (hx : a.eval x = .slice none 0 c)
    (h : wpList P ops Q rest (a.put o.dst v) w) : wpList P ops Q (o :: rest) a w := by
  refine wpList_plain hgd fun K hK => ?_
  have hrun := run_append_nothing (P := P) w base t o.type e i size c ht hi v n xs hown
  unfold Oper.wp
  simp [execOp, ho, resolve, invoke, builtin, hs, hx, hrun, Result.andThen]
  exact hK _ _ h
end
/-- Numbers that came in, appended to a slice of the call's own. -/
theorem wpList_append_ints {ops : Array Oper} {rest : List Oper} {o : Oper} {a : Act} {w : World} {Q : Exit → Act → World → Prop} (hgd : o.guard = none) (s x : Operand)
    (ho : o.op = .call { callee := .builtin .append, args := #[s, x], argTypes := #[22, 22] })
    (base : Nat) (v u : Value) (l m : List Int) (hs : a.eval s = v) (hown : w.ownsRow base 3 1 v l.length (iV l)) (hx : a.eval x = u) (hu : IntsAt w u m)
    (hlen : l.length + m.length ≤ 1048576) (hbase : base ≤ w.heap.size)
    (h : ∀ v' w', w'.ownsRow base 3 1 v' (l ++ m).length (iV (l ++ m)) → Below base w w' → wpList Try.prog ops Q rest (a.put o.dst v') w') : wpList Try.prog ops Q (o :: rest) a w := by
  obtain ⟨i0, hi1, hi2, hi3, hi4⟩ := int_parts
  obtain ⟨ad, cap, rfl, hc⟩ := hu
  cases ad with
  | none =>
    have hm : m = [] := by
      cases m with
      | nil => rfl
      | cons y ys =>
        obtain ⟨_, _, he, _⟩ := hc (Nat.zero_lt_succ _)
        cases he
    subst hm
    refine wpList_append_nothing hgd s x 22 ho base 3 i0 1 cap Try.underlying22 hi1 v l.length (iV l) hs hown hx ?_
    exact h v w (by rw [List.append_nil]; exact hown) (Below.refl _ _)
  | some ad =>
    refine wpList_append_own w hgd s x 22 ho base 3 i0 (.int .i64 0) 1 8 Try.underlying22 hi1 hi2 hi3 hi4 rfl (by decide) v l.length (iV l) hs hown ad m.length cap (iV m) hx (by rw [iV_len, Nat.mul_one]) ?_ (iV_one m) (by unfold maxLen; omega) (by omega) hbase ?_
    · intro j u hu
      have hj : j < m.length := by
        have := (List.getElem?_eq_some_iff.1 hu).1
        rwa [iV_len] at this
      obtain ⟨b, off, he, _, hcs⟩ := hc (by omega)
      injection he with he
      subst he
      rw [Addr.add_mid, hcs j hj, ← hu, iV_get m j hj]
    · intro v' w' hown' hgrow _
      exact h v' w' (by rw [List.length_append, iV_app]; exact hown') ((Below.refl _ _).grown hgrow hbase (fun k hk => own_ge hown k hk))
/-- A slice of the call's own: its form, and what lies there. -/
theorem own_intform {w : World} {base : Nat} {v : Value} {l : List Int} (h : w.ownsRow base 3 1 v l.length (iV l)) (h0 : 0 < l.length) :
    ∃ g cap, v = .slice (some ⟨g, 0, none⟩) l.length cap ∧ base ≤ g ∧ g < w.heap.size := by
  obtain ⟨g, cap, rfl, hg, hlt, _⟩ := own_cells h h0
  exact ⟨g, cap, rfl, hg, hlt⟩
theorem own_intat {w : World} {base g cap n : Nat} {l : List Int} (h : w.ownsRow base 3 1 (.slice (some ⟨g, 0, none⟩) n cap) n (iV l)) (p : Nat) (hp : p < l.length) (hn : l.length = n) : w.cell? ⟨g, p, none⟩ = some (.int .i64 (l.getD p 0)) := by
  rw [h.cellAt p (by omega), iV_get l p hp]
theorem own_intset {w : World} {base g cap n : Nat} {l : List Int} (h : w.ownsRow base 3 1 (.slice (some ⟨g, 0, none⟩) n cap) n (iV l)) (p : Nat) (z : Int) : (w.setCell ⟨g, p, none⟩ (.int .i64 z)).ownsRow base 3 1 (.slice (some ⟨g, 0, none⟩) n cap) n (iV (l.set p z)) := by
  have := (h.stored p (.int .i64 z)).1
  rwa [iV_set] at this
/-! ### Arrays of 32 numbers -/
theorem nums_parts : ∃ i, Try.prog.info? 33 = some i ∧ i.zero = some (.agg (iCells f0)) ∧ i.size = 32 ∧ i.bytes = 256 := info_parts (by kernel_rfl)
theorem frame_parts : ∃ i, Try.prog.info? 34 = some i ∧ i.zero = some (.agg (iCells f0)) ∧ i.size = 32 ∧ i.bytes = 256 := info_parts (by kernel_rfl)
theorem own_fr {w : World} {base n : Nat} {e : TypeId} {v : Value} {l : List Int} (h : w.ownsRow base e 32 v n (iV l)) (h0 : 0 < n) :
    ∃ g cap, v = .slice (some ⟨g, 0, none⟩) n cap ∧ base ≤ g ∧ FrAt w g l := by
  have hl : l.length = n * 32 := by rw [← iV_len]; exact h.1
  rcases h.2 with ⟨_, h1⟩ | ⟨g, cap, cur, rfl, hb, hg, hnc, _, hsz, htk⟩
  · omega
  · refine ⟨g, cap, rfl, hb, Row.lt hg, fun p hp => ?_⟩
    rw [cell_of_row _ _ _ _ _ _ hg, ← iV_get l p hp, ← htk, List.getElem?_take, if_pos (by omega), Array.getElem?_toList]
/-- Numbers stay where arrays are appended. -/
theorem own_apart {w w' : World} {base base' g cap n m size : Nat} {e e' : TypeId} {xs ys : List Value} {v : Value} (h : w.ownsRow base e size (.slice (some ⟨g, 0, none⟩) n cap) n xs) (hne : e ≠ e') {size' : Nat} (ho : w.ownsRow base' e' size' v m ys) (hg : w.grownBy w' v.ownBlock) :
    w'.ownsRow base e size (.slice (some ⟨g, 0, none⟩) n cap) n xs := by
  rcases h.2 with ⟨h1, _⟩ | ⟨g', cap', cur, h1, hbs, hr, hnc, hcm, hsz, htk⟩
  · simp at h1
  · simp only [Value.slice.injEq, Option.some.injEq, Addr.mk.injEq, and_true, true_and] at h1
    obtain ⟨rfl, rfl⟩ := h1
    refine ⟨h.1, .inr ⟨g, cap, cur, rfl, hbs, Row.grown hr hg (Row.lt hr) ?_, hnc, hcm, hsz, htk⟩⟩
    intro he
    rcases ho.2 with ⟨rfl, _⟩ | ⟨g2, cap2, cur2, rfl, _, hr2, _⟩
    · simp [Value.ownBlock] at he
    · simp only [Value.ownBlock, Option.some.injEq] at he
      subst he
      rw [hr] at hr2
      injection hr2 with hr2
      injection hr2 with _ hr2 _
      exact hne hr2
section
variable {P : Program}
/-- One array in a slice of its own. -/
theorem wpList_build_blk {ops : Array Oper} {rest : List Oper} {o : Oper} {a : Act} {w : World} {Q : Exit → Act → World → Prop} (hgd : o.guard = none) (S E : TypeId) (hS : P.underlying S = some (.slice E))
    (hE : ∃ i, P.info? E = some i ∧ i.zero = some (.agg (iCells f0)) ∧ i.size = 32 ∧ i.bytes = 256) (x : Operand) (ho : o.op = .buildSlice S 1 #[(0, x)])
    (f : List Int) (hf : f.length = 32) (hx : a.eval x = .agg (iCells f)) (g : Nat) (hg : w.heap.size = g)
    (h : wpList P ops Q rest (a.put o.dst (.slice (some ⟨g, 0, none⟩) 1 1)) (w.alloc (.cells (iCells f) E))) : wpList P ops Q (o :: rest) a w := by
  subst hg
  obtain ⟨i0, hi1, hi2, hi3, _⟩ := hE
  refine wpList_buildSlice hgd S E 1 _ ho (iCells f) i0 (.agg (iCells f0)) hS hi1 hi2 (by rw [hi3]; decide) (by rw [hi3]; decide) ?_ h
  rw [hi3]
  have hsz : (iCells f).size = 32 := by rw [iCells_size, hf]
  have := Great.fill_whole (s := 32) (by decide) [.agg (iCells f)] ((Array.range (1 * 32)).map ((Value.agg (iCells f0)).cells[· % (Value.agg (iCells f0)).cells.size]!)) (by intro v hv; rw [List.mem_singleton] at hv; subst hv; exact hsz) (by simp)
  simp only [List.zipIdx_cons, List.zipIdx_nil, List.map_cons, List.map_nil, List.flatMap_cons, List.flatMap_nil, List.append_nil] at this
  simp only [List.map_toArray, List.map_cons, List.map_nil, hx]
  rw [this]
  simp [Value.cells]
/-- One array more. -/
theorem wpList_append_blk {ops : Array Oper} {rest : List Oper} {o : Oper} {a : Act} {w : World} {Q : Exit → Act → World → Prop} (hgd : o.guard = none) (s x : Operand) (S E : TypeId) (hS : P.underlying S = some (.slice E))
    (hE : ∃ i, P.info? E = some i ∧ i.zero = some (.agg (iCells f0)) ∧ i.size = 32 ∧ i.bytes = 256)
    (ho : o.op = .call { callee := .builtin .append, args := #[s, x], argTypes := #[S, S] })
    (base : Nat) (v : Value) (n : Nat) (l f : List Int) (hs : a.eval s = v) (hown : w.ownsRow base E 32 v n (iV l)) (g : Nat) (hx : a.eval x = .slice (some ⟨g, 0, none⟩) 1 1) (hf : FrAt w g f) (hfl : f.length = 32)
    (hn : n ≤ 4096) (hbase : base ≤ w.heap.size)
    (h : ∀ v' w', w'.ownsRow base E 32 v' (n + 1) (iV (l ++ f)) → Below base w w' → w.grownBy w' v.ownBlock → wpList P ops Q rest (a.put o.dst v') w') : wpList P ops Q (o :: rest) a w := by
  obtain ⟨i0, hi1, hi2, hi3, hi4⟩ := hE
  refine wpList_append_own w hgd s x S ho base E i0 (.agg (iCells f0)) 32 256 hS hi1 hi2 hi3 hi4 (by rw [show (Value.agg (iCells f0)).cells = iCells f0 from rfl, iCells_size]; exact f0_length) (by decide) v n (iV l) hs hown ⟨g, 0, none⟩ 1 1 (iV f) hx (by rw [iV_len, hfl]) ?_ (iV_one f) (by unfold maxLen; omega) (by omega) hbase ?_
  · intro j u hu
    have hj : j < f.length := by
      have := (List.getElem?_eq_some_iff.1 hu).1
      rwa [iV_len] at this
    rw [Addr.add_mid, Nat.zero_add, hf.2 j hj, ← hu, iV_get f j hj]
  · intro v' w' hown' hgrow _
    exact h v' w' (by rw [iV_app]; exact hown') ((Below.refl _ _).grown hgrow hbase (fun k hk => own_ge hown k hk)) hgrow
/-- One array stored in its place. -/
theorem wpList_store_own {ops : Array Oper} {rest : List Oper} {op : Oper} {a : Act} {w : World} {Q : Exit → Act → World → Prop} (hgd : op.guard = none) (ty : TypeId) (y z : Operand) (ho : op.op = .store ty y z) (g b o : Nat) (hoo : o = 32 * b) (f : List Int)
    (hx : a.eval y = .pointer (some ⟨g, o, none⟩)) (hz : a.eval z = .agg (iCells f)) (base n cap : Nat) (e : TypeId) (x : List Int) (hown : w.ownsRow base e 32 (.slice (some ⟨g, 0, none⟩) n cap) n (iV x)) (hb : b < n) (hf : f.length = 32) (hi : (P.info? ty).map (·.size) = some 32)
    (h : ∀ w', w'.ownsRow base e 32 (.slice (some ⟨g, 0, none⟩) n cap) n (iV (putb x b f)) → Below g w w' → w.grownBy w' (some g) → wpList P ops Q rest (a.put op.dst undef) w') : wpList P ops Q (op :: rest) a w := by
  subst hoo
  have hl : x.length = n * 32 := by rw [← iV_len]; exact hown.1
  rcases hown.2 with ⟨h1, _⟩ | ⟨g', cap', cur, h1, hbs, hg, hnc, hcm, hsz, htk⟩
  · simp at h1
  · simp only [Value.slice.injEq, Option.some.injEq, Addr.mk.injEq, and_true, true_and] at h1
    obtain ⟨rfl, rfl⟩ := h1
    have hfl := part_size f hf
    have h1 : ∀ v ∈ (iCells f).toList, v.oneCell' = true := fun v hv => (Array.all_eq_true_iff_forall_mem.1 (iCells_one f)) v (by simpa using hv)
    have hrun := run_storeCells_at P g (32 * b) e (iCells f).toList 0 cur w hg (by rw [hfl]; omega) h1
    rw [Nat.add_zero, hfl] at hrun
    have hst : (storeVar ty ⟨g, 32 * b, none⟩ (.agg (iCells f))).run P w = .ok () (w.setRow g (cur.toList.take (32 * b) ++ (iCells f).toList ++ cur.toList.drop (32 * b + 32)).toArray) := by
      cases hq : P.info? ty with
      | none => simp [hq] at hi
      | some i =>
        have hs : (iCells f).size = i.size := by simp [hq] at hi; rw [iCells_size, hf, hi]
        simp [storeVar, sizeOf, typeInfo, hq, Value.cells, hs, hrun]
    refine wpList_plain hgd fun _ hK => ?_
    unfold Oper.wp execOp
    simp only [ho, hx, hz, Instr.storeAt, Instr.sureAddr, Sem.run_bind, Sem.run_pure, Result.andThen_ok, hst]
    refine hK _ _ (h _ ⟨?_, .inr ⟨g, cap, _, rfl, hbs, setRow_heap w g cur _ e _ hg, hnc, hcm, ?_, ?_⟩⟩ (below_setRow (Below.refl _ _) (Nat.le_refl _) _) ⟨rfl, rfl, rfl, by simp, fun k _ hk => setRow_other _ _ _ _ (fun he => hk (by rw [he]))⟩)
    · rw [iV_len, putb_len, hl]
    · simp only [List.size_toArray, List.length_append, List.length_take, List.length_drop, Array.length_toList, hfl]
      omega
    · have hcut := putb_cut x b f (by omega) hf
      have e1 : cur.toList.take (32 * b) = iV (x.take (32 * b)) := by
        rw [show iV (x.take (32 * b)) = (iV x).take (32 * b) by simp [iV], ← htk, List.take_take]
        congr 1
        omega
      have e2 : (cur.toList.drop (32 * b + 32)).take (n * 32 - (32 * b + 32)) = iV (x.drop (32 * b + 32)) := by
        rw [show iV (x.drop (32 * b + 32)) = (iV x).drop (32 * b + 32) by simp [iV], ← htk, List.drop_take]
      rw [← hcut, iV_app, iV_app, ← e1, ← e2, iCells_iV, List.toList_toArray, List.take_append, List.take_of_length_le (by rw [List.length_append, List.length_take, iV_len, hf, Array.length_toList]; omega)]
      congr 2
      rw [List.length_append, List.length_take, iV_len, hf, Array.length_toList]
      omega
/-- An array is read out of those that came in. -/
theorem wpList_load_frs {ops : Array Oper} {rest : List Oper} {op : Oper} {a : Act} {w : World} {Q : Exit → Act → World → Prop} (hgd : op.guard = none) (ty : TypeId) (y : Operand) (ho : op.op = .load ty y) (g off b o : Nat) (hoo : o = off + 32 * b) (hx : a.eval y = .pointer (some ⟨g, o, none⟩))
    (x : List Int) (d : TypeDesc) (hc : ∀ p, p < x.length → w.cell? ⟨g, off + p, none⟩ = some (.int .i64 (x.getD p 0))) (hb : 32 * b + 32 ≤ x.length) (hu : P.underlying ty = some d) (hd : d.isRow = true) (hi : (P.info? ty).map (·.size) = some 32)
    (h : wpList P ops Q rest (a.put op.dst (.agg (iCells (blk x b)))) w) : wpList P ops Q (op :: rest) a w := by
  subst hoo
  refine wpList_load_mid hgd ty y ho g _ hx (iCells (blk x b)).toList d (fun j v hv => ?_) hu hd (by rw [part_size _ (blk_len _ _)]; exact hi) h
  have hj : j < 32 := by
    have := (List.getElem?_eq_some_iff.1 hv).1
    simpa [iCells, blk_len] using this
  rw [Nat.add_assoc, hc (32 * b + j) (by omega), ← hv, Array.getElem?_toList, iCells_get _ _ (by rw [blk_len]; exact hj), blk_getD _ _ _ hj]
/-- An array is read in a statement that draws its order and changes nothing that was there. -/
theorem q_load_fr {C : World → Prop} {a : Act} {o : Oper} {K : Act → Prop} (ty : TypeId) (y : Operand) (ho : o.op = .load ty y) (g b p : Nat) (hp : p = 32 * b) (hx : a.eval y = .pointer (some ⟨g, p, none⟩)) (x : List Int) (d : TypeDesc)
    (hC : ∀ w, C w → FrAt w g x) (hb : 32 * b + 32 ≤ x.length) (hu : P.underlying ty = some d) (hd : d.isRow = true) (hi : (P.info? ty).map (·.size) = some 32)
    (hk : K (a.put o.dst (.agg (iCells (blk x b))))) : o.quiet P a C K :=
  ⟨_, fun w hw => by
    subst hp
    unfold Oper.quietAt execOp
    simp only [ho, hx, Instr.loadAt, Instr.sureAddr, Sem.run_bind, Sem.run_pure, Result.andThen_ok, run_loadVar_mid w g _ ty _ d ((hC w hw).range b hb) hu hd (by rw [part_size _ (blk_len _ _)]; exact hi)]
    exact ⟨rfl, by rw [Array.toArray_toList]⟩, hk⟩
end
end Go.Proofs.Ytdnchnhflfcdkaa
