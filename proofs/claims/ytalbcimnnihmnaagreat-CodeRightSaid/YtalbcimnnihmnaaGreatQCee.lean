/-
  Layer 20: code's Shape. Conditions: a frame's 32 numbers; what give's Pulses and Bits answer.
-/
import Derived.Test.YtalbcimnnihmnaaGreatQS18
import Derived.Test.YtalbcimnnihmnaaGreatQS19
import Derived.Test.YtalbcimnnihmnaaGreatQS21
import Derived.Test.YtalbcimnnihmnaaGreatQS11
import Derived.Test.YtalbcimnnihmnaaGreatQS10
import Derived.Test.YtalbcimnnihmnaaGreatQS9
import Derived.Lib.QuietBelow
import Derived.OrdersHeld
import Derived.Deep.RegionHeld
import Derived.Laws.Tables
namespace Go.Proofs.YtalbcimnnihmnaaGreat
open Go.RowKit
open M
/-- A part of a row is read, in every world that has what was there. -/
theorem yieldsPto20 {ops : Array Oper} {op : Oper} {a : Act} {W0 : World} (hw : Region.wanted op (yielded ops a.tmps) = true) (ty : TypeId) (y : Operand) (ho : op.op = .load ty y)
    (g o n : Nat) (hx : a.eval y = .pointer (some ⟨g, o, none⟩)) (t : TypeId) (x : List Int) (d : TypeDesc) (hr : Row W0 g t (iCells x)) (hb : o + n ≤ x.length) (hu : Tryz.prog.underlying ty = some d) (hd : d.isRow = true)
    (hi : (Tryz.prog.info? ty).map (·.size) = some n) : YieldsIf Tryz.prog ops (fun w' => Below W0.heap.size W0 w') op (.agg (iCells (pto x o n))) a :=
  .inl ⟨hw, fun w hw' => by
    unfold execOp
    simp only [ho, hx, Instr.loadAt, Instr.sureAddr, Sem.run_bind, Sem.run_pure, Result.andThen_ok, run_loadVar_mid w g _ ty _ d (pto_range (hr.below hw' hr.lt) o n hb) hu hd (by rw [iL_size, pto_len]; exact hi)]⟩
/-- What stays as it is read, while a band's pulses are put into the shape. -/
structure Sx20 (g g6 ga b m : Nat) (F Kl : List Int) (S : Int) (w : World) : Prop where
  size : m ≤ w.heap.size
  h2 : g < m
  h6 : g6 < m
  ha : ga < m
  rf : Row w g 41 (iCells F)
  rk : Row w ga 24 (iCells Kl)
  rs : ∃ x : List Int, Row w g6 30 (iCells x) ∧ b < x.length ∧ x.getD b 0 = S
theorem Sx20.trans {g g6 ga b m : Nat} {F Kl : List Int} {S : Int} {w w' : World} (h : Sx20 g g6 ga b m F Kl S w) (k : Below m w w') : Sx20 g g6 ga b m F Kl S w' := by
  obtain ⟨x, h1, h2, h3⟩ := h.rs
  exact ⟨Nat.le_trans h.size k.size, h.h2, h.h6, h.ha, h.rf.below k h.h2, h.rk.below k h.ha, ⟨x, h1.below k h.h6, h2, h3⟩⟩
theorem yieldsRowS {C : World → Prop} {ops : Array Oper} {op : Oper} {a : Act} (hw : Region.wanted op (yielded ops a.tmps) = true) (ty : TypeId) (x : Operand) (ho : op.op = .load ty x)
    (g : Nat) (hx : a.eval x = .pointer (some ⟨g, 0, none⟩)) (t : TypeId) (cs : Array Value) (hr : ∀ w, C w → Row w g t cs) {n : Nat} {e : TypeId} (hu : Tryz.prog.underlying ty = some (.array n e))
    (hi : (Tryz.prog.info? ty).map (·.size) = some cs.size) : YieldsIf Tryz.prog ops C op (.agg cs) a :=
  .inl ⟨hw, fun w hw' => by
    unfold execOp
    simp only [ho, hx, Instr.loadAt, Instr.sureAddr, Sem.run_bind, Sem.run_pure, Result.andThen_ok, run_loadVar_row w g t ty cs (0, 0) _ (hr w hw') hu rfl hi]⟩
theorem yieldsIntS {C : World → Prop} {ops : Array Oper} {op : Oper} {a : Act} (hw : Region.wanted op (yielded ops a.tmps) = true) (y : Operand) (ho : op.op = .load 3 y)
    (g o : Nat) (hx : a.eval y = .pointer (some ⟨g, o, none⟩)) (t : TypeId) (v : Int) (hr : ∀ w, C w → ∃ x : List Int, Row w g t (iCells x) ∧ o < x.length ∧ x.getD o 0 = v) :
    YieldsIf Tryz.prog ops C op (.int .i64 v) a :=
  .inl ⟨hw, fun w hw' => by
    obtain ⟨x, h1, h2, h3⟩ := hr w hw'
    have c := i_at h1 o h2
    rw [h3] at c
    unfold execOp
    simp only [ho, hx]
    go_simp⟩
/-- A shape is built of its steps. -/
theorem sh_built : ∀ l : List Int, l.length = 8 → Tryz.prog.built 30 [(0, .agg (iCells l))] = some (iCells (l ++ List.replicate 32 0))
  | a0 :: a1 :: a2 :: a3 :: a4 :: a5 :: a6 :: a7 :: [], _ => by kernel_rfl
section
variable {P : Program}
/-- What is built of one part. -/
theorem wpList_build_one {ops : Array Oper} {rest : List Oper} {o : Oper} {a : Act} {w : World} {Q : Exit → Act → World → Prop} (hgd : o.guard = none) (t : TypeId) (x : Operand) (ho : o.op = .build t #[(0, x)])
    (u : Value) (hx : a.eval x = u) (cells : Array Value) (hb : P.built t [(0, u)] = some cells) (h : wpList P ops Q rest (a.put o.dst (.agg cells)) w) : wpList P ops Q (o :: rest) a w := by
  have e : ((#[(0, x)] : Array (Nat × Operand)).map fun (i, x) => (i, a.eval x)).toList = [(0, u)] := by
    simp only [List.map_toArray, List.map_cons, List.map_nil, hx]
  exact wpList_plain hgd fun _ hK => wp_build t _ ho (by rw [e, hb]; rfl) (by rw [e, hb]; exact hK _ _ h)
end
theorem sts_sp (F : List Int) : sts F ++ List.replicate 32 0 = sp20 F 8 := by
  unfold sp20
  refine tm_ext _ 40 _ (by rw [List.length_append, sts_len, List.length_replicate]) fun p hp => ?_
  rw [List.getD_eq_getElem?_getD, List.getElem?_append]
  by_cases h : p < 8
  · rw [if_pos (by rw [sts_len]; exact h), if_pos h, ← List.getD_eq_getElem?_getD, sts_get F p h]
    rfl
  · rw [if_neg (by rw [sts_len]; exact h), if_neg h, sts_len, List.getElem?_replicate, if_pos (by omega)]
    rfl
theorem sts_sds (F : List Int) : sds (sp20 F 8) = sts F := by
  rw [← sts_sp]
  unfold sds
  refine Eq.symm (tm_ext _ 8 _ (sts_len F) fun i hi => ?_)
  rw [Nat.zero_add, List.getD_eq_getElem?_getD, List.getD_eq_getElem?_getD, List.getElem?_append, if_pos (by rw [sts_len]; exact hi)]
theorem sts_right (F : List Int) : rt17 (sds (sp20 F 8)) = true := by
  rw [sts_sds]
  unfold rt17
  rw [List.all_eq_true]
  intro b hb
  have := sp16_bd F b
  rw [sts_get F b (List.mem_range.1 hb)]
  exact decide_eq_true this
theorem sts_give (F : List Int) (z : Int) (h : 12 ≤ z ∧ z ≤ 24) : puI (sds (sp20 F 8)) (8 * z - 64) = kl18 (kk20 F (8 * z - 64).toNat) ∧ puE (sds (sp20 F 8)) (8 * z - 64) = 0 := by
  have h : ok18 (sds (sp20 F 8)) (8 * z - 64) := ⟨sts_right F, by omega, by omega⟩
  unfold puI puE kk20
  rw [if_pos h, if_pos h]
  exact ⟨rfl, rfl⟩
theorem of20 (F : List Int) (b : Nat) (h : b < 8) : of16 F (b : Int) = bd16 F b := by
  unfold of16
  rw [if_pos (show isb (b : Int) = true from decide_eq_true (by omega)), Int.toNat_natCast]
theorem isize20_any (n : Int) (w : World) : Calls Tryz.prog 12 #[.int .i64 n] w fun e w' => e = .returned (.bool (decide (12 ≤ n ∧ n ≤ 24))) ∧ w' = w := by
  by_cases h1 : n < 12
  · have e : decide (12 ≤ n ∧ n ≤ 24) = false := decide_eq_false (by omega)
    have h2 : ¬ n ≥ 12 := by omega
    rw [e]
    clear e
    go_enter Tryz.func12, Tryz.ntmps12
    go_wp2
    go_ret
    exact ⟨rfl, rfl⟩
  · have h3 : n ≥ 12 := by omega
    by_cases h2 : n ≤ 24
    · have e : decide (12 ≤ n ∧ n ≤ 24) = true := decide_eq_true (by omega)
      rw [e]
      clear e
      go_enter Tryz.func12, Tryz.ntmps12
      go_wp2
      go_ret
      exact ⟨rfl, rfl⟩
    · have e : decide (12 ≤ n ∧ n ≤ 24) = false := decide_eq_false (by omega)
      rw [e]
      clear e
      go_enter Tryz.func12, Tryz.ntmps12
      go_wp2
      go_ret
      exact ⟨rfl, rfl⟩
theorem side20 : (Tryz.prog.info? 25).map (·.size) = some 8 := by kernel_rfl
theorem pls20 : (Tryz.prog.info? 27).map (·.size) = some 4 := by kernel_rfl
set_option maxRecDepth 100000 in
set_option maxHeartbeats 1000000 in
theorem shape20_no (f : List Int) (z : Int) (w : World) (hz : ¬ (12 ≤ z ∧ z ≤ 24)) :
    Calls Tryz.prog 5 #[.agg (iCells f), .int .i64 z] w fun e w' => e = .returned (.tuple #[.agg (iCells z40), .int .i64 1]) ∧ Below w.heap.size w w' := by
  have HIZ := Lib.hid fun w => isize20_any z w
  rw [decide_eq_false hz] at HIZ
  have hz40 := s40_zero
  have HSZ := Lib.hid (s40_size z40 z40_length)
  have HR1 : Hid (Row ((w.alloc (.cells (iCells f) 41)).alloc (.cells (iCells z40) 30)) (w.heap.size + 1) 30 (iCells z40)) := Lib.hid (row_new _ _ (by simp) _ _)
  have HB : Hid (Below w.heap.size w ((w.alloc (.cells (iCells f) 41)).alloc (.cells (iCells z40) 30))) := Lib.hid (((Below.refl _ _).alloc (Nat.le_refl _) _).alloc (by simp) _)
  clear hz
  go_enter Tryz.func5, Tryz.ntmps5
  go_wp2_with fail
  refine (HIZ.out _).mono ?_
  rintro e w1 ⟨rfl, rfl⟩
  generalize (w.alloc (.cells (iCells f) 41)).alloc (.cells (iCells z40) 30) = w1 at *
  obtain ⟨n0, hn0⟩ : ∃ n0, w.heap.size = n0 := ⟨_, rfl⟩
  have HN0 := Lib.hid fun _ : Unit => hn0
  rw [hn0] at HR1 HB ⊢
  clear hn0
  go_wp2_with (first
    | (refine wpList_store_row rfl 30 (.tmp 4) (.tmp 13) rfl (n0 + 1) (iCells z40) rfl rfl 30 (iCells z40) HR1.out HSZ.out rfl (iCells_one _) ?_)
    | (refine bodyPost_ret (v := .tuple #[.agg (iCells z40), .int .i64 1]) (results_row_tmp Tryz.results5 _ _ (n0 + 1) 30 (iCells z40) (0, 0) _ rfl (Row.setRow HR1.out _) Tryz.underlying30 rfl HSZ.out) rfl ⟨rfl, ?_⟩))
  all_goals exact (by rw [HN0.out ()]; exact below_setRow (g := n0 + 1) HB.out (by omega) _)
set_option maxRecDepth 100000 in
set_option maxHeartbeats 4000000 in
theorem shape20_yes (HP : PulOk) (HBz : BizOk) (f : List Int) (z : Int) (w : World) (hf : f.length = 32) (hsz : 12 ≤ z ∧ z ≤ 24) :
    Calls Tryz.prog 5 #[.agg (iCells f), .int .i64 z] w fun e w' => e = .returned (.tuple #[.agg (iCells (sh20 f (8 * z - 64).toNat)), .int .i64 0]) ∧ Below w.heap.size w w' := by
  have HIZ := Lib.hid fun w => isize20_any z w
  rw [decide_eq_true hsz] at HIZ
  have hz40 := s40_zero
  have hz8 := i8_zero
  have HBZ : Hid (∀ w, Calls Tryz.prog 11 #[.int .i64 z] w fun e w' => e = .returned (.int .i64 (8 * z - 64)) ∧ Below w.heap.size w w') := Lib.hid fun w => by
    have h := HBz z w
    unfold bz18 at h
    rw [if_pos hsz] at h
    exact h
  have HCL := Lib.hid fun w => clamp20_any f w hf
  have hFL : (cg20 f).length = 32 := cq20_len _ _
  have hFB := fun i hi => cg20_bd f i hi
  rw [show sh20 f (8 * z - 64).toNat = sq20 (cg20 f) (8 * z - 64).toNat 8 from rfl]
  have HSF := Lib.hid (fra_size f hf)
  have HSX := Lib.hid (fra_same f (cg20 f) hf hFL)
  obtain ⟨F, hF⟩ : ∃ F, cg20 f = F := ⟨_, rfl⟩
  rw [hF] at hFL hFB HCL HSX ⊢
  have HFL := Lib.hid hFL
  have HFB := Lib.hid hFB
  clear hF hFL hFB
  have HSTS := Lib.hid fun w => steps16_any F w HFL.out
  have HSB := Lib.hid (sts_len F)
  have HSP := Lib.hid (sh_built (sts F) (sts_len F))
  rw [sts_sp F] at HSP
  have hsd := sts_sds F
  obtain ⟨hg1, hg2⟩ := sts_give F z hsz
  have HPU : Hid (∀ w, Calls Tryz.prog 15 #[.agg (iCells (pto (sp20 F 8) 0 8)), .int .i64 (8 * z - 64)] w fun e w' => e = .returned (.tuple #[.agg (iCells (kl18 (kk20 F (8 * z - 64).toNat))), .int .i64 0]) ∧ Below w.heap.size w w') := Lib.hid fun w => by
    have h := HP (pto (sp20 F 8) 0 8) (8 * z - 64) w (pto_len _ _ _)
    rw [show pto (sp20 F 8) 0 8 = sds (sp20 F 8) from rfl, hg1, hg2] at h
    exact h
  obtain ⟨n, hn⟩ : ∃ n, (8 * z - 64).toNat = n := ⟨_, rfl⟩
  rw [hn] at HPU ⊢
  obtain ⟨y, hy⟩ : ∃ y, 8 * z - 64 = y := ⟨_, rfl⟩
  rw [hy] at HBZ HPU
  have HK12 := Lib.hid (show ∀ b, b < 8 → kk20 F n b ≤ 12 from (giv_all _ _).1)
  obtain ⟨Kp, hKp⟩ : ∃ K, kk20 F n = K := ⟨_, rfl⟩
  have HKK := Lib.hid fun _ : Unit => hKp
  rw [hKp] at HK12 HPU
  have HSK := Lib.hid (i8_size (kl18 Kp) (kl18_len Kp))
  have HSS := Lib.hid (sds_same zs8 (kl18 Kp) zs8_length (kl18_len Kp))
  have HSPL := Lib.hid (sp20_len F 8)
  have HSZ0 := Lib.hid (s40_size (sp20 F 8) (sp20_len F 8))
  have HSZX := Lib.hid (s40_same z40 (sp20 F 8) z40_length (sp20_len F 8))
  have HSF2 := Lib.hid (fra_size F HFL.out)
  have HSQ0 := Lib.hid (sq20_zero F n)
  clear hKp hn hy hg1 hg2 hsd
  have HR2 : Hid (Row ((w.alloc (.cells (iCells f) 41)).alloc (.cells (iCells z40) 30)) w.heap.size 41 (iCells f)) := Lib.hid (Row.alloc (heap_alloc_new _ _) _)
  have HR4 : Hid (Row ((w.alloc (.cells (iCells f) 41)).alloc (.cells (iCells z40) 30)) (w.heap.size + 1) 30 (iCells z40)) := Lib.hid (row_new _ _ (by simp) _ _)
  have HB : Hid (Below w.heap.size w ((w.alloc (.cells (iCells f) 41)).alloc (.cells (iCells z40) 30))) := Lib.hid (((Below.refl _ _).alloc (Nat.le_refl _) _).alloc (by simp) _)
  clear hf hsz HP HBz
  go_enter Tryz.func5, Tryz.ntmps5
  go_wp2_with fail
  refine (HIZ.out _).mono ?_
  rintro e w1 ⟨rfl, rfl⟩
  generalize (w.alloc (.cells (iCells f) 41)).alloc (.cells (iCells z40) 30) = w1 at *
  obtain ⟨g, hg⟩ : ∃ g, w.heap.size = g := ⟨_, rfl⟩
  have HG := Lib.hid fun _ : Unit => hg
  rw [hg] at HR2 HR4
  rw [hg]
  clear hg HIZ
  go_wp2_with (refine wpList_load_row rfl 41 (.tmp 2) rfl g rfl 41 (iCells f) (0, 0) _ HR2.out Tryz.underlying41 rfl HSF.out ?_)
  refine (HCL.out _).mono ?_
  rintro e w2 ⟨rfl, hb⟩
  have HR2 := Lib.hid (HR2.out.box hb)
  have HR4 := Lib.hid (HR4.out.box hb)
  have HB := Lib.hid (HB.out.trans (hb.mono HB.out.size))
  clear hb HCL
  go_upto_region 4 with (refine wpList_store_row rfl 41 (.tmp 2) (.tmp 15) rfl g (iCells F) rfl rfl 41 (iCells f) HR2.out HSF2.out HSX.out (iCells_one _) ?_)
  have HR4 := Lib.hid (show Row (w2.setRow g (iCells F)) (g + 1) 30 (iCells z40) from (setRow_other _ _ _ _ (by omega)).trans HR4.out)
  have HB := Lib.hid (below_setRow HB.out (g := g) (by have := HG.out (); omega) (iCells F))
  have HR2 := Lib.hid (Row.setRow HR2.out (iCells F))
  generalize w2.setRow g (iCells F) = w3 at *
  go_wp2_with (refine wpList_load_row rfl 41 (.tmp 2) rfl g rfl 41 (iCells F) (0, 0) _ HR2.out Tryz.underlying41 rfl HSF2.out ?_)
  refine (HSTS.out _).mono ?_
  rintro e w4 ⟨rfl, hb⟩
  have HR2 := Lib.hid (HR2.out.box hb)
  have HR4 := Lib.hid (HR4.out.box hb)
  have HB := Lib.hid (HB.out.trans (hb.mono HB.out.size))
  clear hb HSTS HSF HSX
  have HN : Hid (Row (w4.alloc (.cells (iCells z40) 30)) w4.heap.size 30 (iCells z40)) := Lib.hid (heap_alloc_new _ _)
  go_upto_region 5 with (first
    | (refine wpList_build_one rfl 30 (.tmp 17) rfl (.agg (iCells (sts F))) rfl (iCells (sp20 F 8)) HSP.out ?_)
    | (refine wpList_store_row rfl 30 (.tmp 6) (.tmp 18) rfl w4.heap.size (iCells (sp20 F 8)) rfl rfl 30 (iCells z40) HN.out HSZ0.out HSZX.out (iCells_one _) ?_))
  have HNE : Hid (g ≠ w4.heap.size ∧ g + 1 ≠ w4.heap.size ∧ w.heap.size ≤ w4.heap.size) := Lib.hid (by have h1 := HR4.out.lt; have h2 := HB.out.size; exact ⟨by omega, by omega, h2⟩)
  have HR2 := Lib.hid (row_laid HR2.out (.cells (iCells z40) 30) (iCells (sp20 F 8)))
  have HR4 := Lib.hid (row_laid HR4.out (.cells (iCells z40) 30) (iCells (sp20 F 8)))
  have HB := Lib.hid (below_laid HB.out (.cells (iCells z40) 30) (iCells (sp20 F 8)))
  have HR6 := Lib.hid (Row.setRow HN.out (iCells (sp20 F 8)))
  generalize (w4.alloc (.cells (iCells z40) 30)).setRow w4.heap.size (iCells (sp20 F 8)) = w5 at *
  obtain ⟨g6, hg6⟩ : ∃ g, w4.heap.size = g := ⟨_, rfl⟩
  rw [hg6] at HR6 HNE ⊢
  clear hg6 HN hz40
  simp only [Act.put]
  go_cut [7, 8] from 9 (fun s7 s8 W => ∃ ga : Nat, s7 = .pointer (some ⟨ga, 0, none⟩) ∧ s8 = .int .i64 0 ∧ (g ≠ ga ∧ g + 1 ≠ ga ∧ g6 ≠ ga) ∧ Row W ga 24 (iCells (kl18 Kp)) ∧ Row W g 41 (iCells F) ∧ Row W (g + 1) 30 (iCells z40) ∧ Row W g6 30 (iCells (sp20 F 8)) ∧ Below w.heap.size w W)
  case first =>
    refine wp_region_held_drew (S := fun w' => Below w5.heap.size w5 w') (by kernel_rfl) ?_ (fun hHeld => ?_)
    · exact below_drew1 (Below.refl _ _)
    generalize w5.drew = w9 at hHeld ⊢
    refine wpAnyH_take (i := 0) (oi := _) (v := ?_) rfl (by kernel_rfl) (by kernel_rfl) (by kernel_rfl) (fun _ _ _ h => h) (Or.inl ⟨by rfl, ?_⟩) hHeld ?_
    rotate_left
    · (intro w hSw; (try dsimp only at hSw); first | (go_simp; done) | (go_simp; with_reducible rfl))
    (try simp only [List.getElem_toArray, List.getElem_cons_zero, Act.put, List.setIfInBounds_toArray, List.set_cons_zero, List.set_cons_succ])
    refine wpAnyH_take (i := 1) (oi := _) rfl (by kernel_rfl) (by kernel_rfl) (by kernel_rfl) (fun _ _ _ h => h) (yieldsPto20 (by rfl) 25 (.tmp 20) rfl g6 0 8 rfl 30 (sp20 F 8) _ HR6.out (by have := HSPL.out; omega) Tryz.underlying25 rfl side20) hHeld ?_
    (try simp only [List.getElem_toArray, List.getElem_cons_succ, List.getElem_cons_zero, Act.put, List.setIfInBounds_toArray, List.set_cons_zero, List.set_cons_succ])
    refine wpAnyH_take (i := 2) (oi := _) (v := ?_) rfl (by kernel_rfl) (by kernel_rfl) (by kernel_rfl) (fun _ _ _ h => h) (Or.inl ⟨by rfl, ?_⟩) hHeld ?_
    rotate_left
    · (intro w hSw; (try dsimp only at hSw); first | (go_simp; done) | (go_simp; with_reducible rfl))
    (try simp only [List.getElem_toArray, List.getElem_cons_succ, List.getElem_cons_zero, Act.put, List.setIfInBounds_toArray, List.set_cons_zero, List.set_cons_succ])
    refine wpAnyH_ready (rs := [3, 8]) (by kernel_rfl) (by simp) ?_
    refine (AllReadyH.cons (o := _) rfl (fun K hK => ?_) (AllReadyH.cons (o := _) rfl (fun K hK => ?_) AllReadyH.nil))
    · go_simp
      refine (HBZ.out _).mono ?_
      rintro e w20 ⟨rfl, hb⟩
      go_wp2_with fail
      have hN := hHeld.trans (hb.mono hHeld.size)
      clear hHeld hb
      refine hK.out _ _ hN (fun hHeld => ?_)
      clear hN hK K
      (try simp only [List.getElem_toArray, List.getElem_cons_succ, List.getElem_cons_zero, Act.put, List.setIfInBounds_toArray, List.set_cons_zero, List.set_cons_succ])
      refine wpAnyH_ready (rs := [4, 8]) (by kernel_rfl) (by simp) ?_
      refine (AllReadyH.cons (o := _) rfl (fun K hK => ?_) (AllReadyH.cons (o := _) rfl (fun K hK => ?_) AllReadyH.nil))
      · go_simp
        refine (HPU.out _).mono ?_
        rintro e w21 ⟨rfl, hb⟩
        go_wp2_with fail
        have hN := hHeld.trans (hb.mono hHeld.size)
        clear hHeld hb
        refine hK.out _ _ hN (fun hHeld => ?_)
        clear hN hK K
        (try simp only [List.getElem_toArray, List.getElem_cons_succ, List.getElem_cons_zero, Act.put, List.setIfInBounds_toArray, List.set_cons_zero, List.set_cons_succ])
        refine wpAnyH_take (i := 5) (oi := _) (v := ?_) rfl (by kernel_rfl) (by kernel_rfl) (by kernel_rfl) (fun _ _ _ h => h) (Or.inl ⟨by rfl, ?_⟩) hHeld ?_
        rotate_left
        · (intro w hSw; (try dsimp only at hSw); first | (go_simp; done) | (go_simp; with_reducible rfl))
        (try simp only [List.getElem_toArray, List.getElem_cons_succ, List.getElem_cons_zero, Act.put, List.setIfInBounds_toArray, List.set_cons_zero, List.set_cons_succ])
        refine wpAnyH_take (i := 6) (oi := _) (v := ?_) rfl (by kernel_rfl) (by kernel_rfl) (by kernel_rfl) (fun _ _ _ h => h) (Or.inl ⟨by rfl, ?_⟩) hHeld ?_
        rotate_left
        · (intro w hSw; (try dsimp only at hSw); first | (go_simp; done) | (go_simp; with_reducible rfl))
        (try simp only [List.getElem_toArray, List.getElem_cons_succ, List.getElem_cons_zero, Act.put, List.setIfInBounds_toArray, List.set_cons_zero, List.set_cons_succ])
        refine wpAnyH_take (i := 7) (oi := _) (v := ?_) rfl (by kernel_rfl) (by kernel_rfl) (by kernel_rfl) (fun _ _ _ h => h) (Or.inl ⟨by rfl, ?_⟩) hHeld ?_
        rotate_left
        · (intro w hSw; (try dsimp only at hSw); first | (go_simp; done) | (go_simp; with_reducible rfl))
        (try simp only [List.getElem_toArray, List.getElem_cons_succ, List.getElem_cons_zero, Act.put, List.setIfInBounds_toArray, List.set_cons_zero, List.set_cons_succ])
        refine wpAnyH_ready (rs := [8]) (by kernel_rfl) (by simp) ?_
        refine (AllReadyH.cons (o := _) rfl (fun K hK => ?_) AllReadyH.nil)
        go_simp
        have hHeld0 := hHeld
        refine hK.out _ _ (hHeld.alloc hHeld.size _) (fun hHeld => ?_)
        clear hK K
        obtain ⟨gac, hgac⟩ : ∃ g, w21.heap.size = g := ⟨_, rfl⟩
        have hgec : w5.heap.size ≤ gac := by rw [← hgac]; exact hHeld0.size
        have HAc : Hid (Row (w21.alloc (.cells (iCells zs8) 24)) gac 24 (iCells zs8)) := row_new _ _ hgac _ _
        rw [hgac]
        generalize w21.alloc (.cells (iCells zs8) 24) = w22 at hHeld HAc ⊢
        clear hgac hHeld0
        (try simp only [List.getElem_toArray, List.getElem_cons_succ, List.getElem_cons_zero, Act.put, List.setIfInBounds_toArray, List.set_cons_zero, List.set_cons_succ])
        refine wpAnyH_ready (rs := [9]) (by kernel_rfl) (by simp) ?_
        refine (AllReadyH.cons (o := _) rfl (fun K hK => ?_) AllReadyH.nil)
        refine wp_store_row 24 (.tmp 7) (.tmp 25) rfl gac (iCells (kl18 Kp)) rfl rfl 24 (iCells zs8) HAc.out HSK.out HSS.out (iCells_one _) ?_
        refine hK.out _ _ (below_setRow hHeld hgec _) (fun hHeld => ?_)
        clear hK K
        have HAc := Lib.hid (Row.setRow HAc.out (iCells (kl18 Kp)))
        generalize w22.setRow gac (iCells (kl18 Kp)) = w23 at hHeld HAc ⊢
        (try simp only [List.getElem_toArray, List.getElem_cons_succ, List.getElem_cons_zero, Act.put])
        refine wpAnyH_take (i := 10) (oi := _) (v := ?_) rfl (by kernel_rfl) (by kernel_rfl) (by kernel_rfl) (fun _ _ _ h => h) (Or.inl ⟨by rfl, ?_⟩) hHeld ?_
        rotate_left
        · (intro w hSw; (try dsimp only at hSw); first | (go_simp; done) | (go_simp; with_reducible rfl))
        (try simp only [List.getElem_toArray, List.getElem_cons_succ, List.getElem_cons_zero, Act.put, List.setIfInBounds_toArray, List.set_cons_zero, List.set_cons_succ])
        refine wpAnyH_done (by kernel_rfl) ?_ _
        go_wp2_with fail
        go_meet
        case rel => exact ⟨gac, rfl, rfl, ⟨by have := HR2.out.lt; omega, by have := HR4.out.lt; omega, by have := HR6.out.lt; omega⟩, HAc.out, HR2.out.below hHeld HR2.out.lt, HR4.out.below hHeld HR4.out.lt, HR6.out.below hHeld HR6.out.lt, HB.out.trans (hHeld.mono HB.out.size)⟩
      · go_simp
        have hHeld0 := hHeld
        refine hK.out _ _ (hHeld.alloc hHeld.size _) (fun hHeld => ?_)
        clear hK K
        obtain ⟨gac, hgac⟩ : ∃ g, w20.heap.size = g := ⟨_, rfl⟩
        have hgec : w5.heap.size ≤ gac := by rw [← hgac]; exact hHeld0.size
        have HAc : Hid (Row (w20.alloc (.cells (iCells zs8) 24)) gac 24 (iCells zs8)) := row_new _ _ hgac _ _
        rw [hgac]
        generalize w20.alloc (.cells (iCells zs8) 24) = w24 at hHeld HAc ⊢
        clear hgac hHeld0
        (try simp only [List.getElem_toArray, List.getElem_cons_succ, List.getElem_cons_zero, Act.put, List.setIfInBounds_toArray, List.set_cons_zero, List.set_cons_succ])
        refine wpAnyH_ready (rs := [4]) (by kernel_rfl) (by simp) ?_
        refine (AllReadyH.cons (o := _) rfl (fun K hK => ?_) AllReadyH.nil)
        go_simp
        refine (HPU.out _).mono ?_
        rintro e w25 ⟨rfl, hb⟩
        go_wp2_with fail
        have hN := hHeld.trans (hb.mono hHeld.size)
        have HAc := Lib.hid (Row.box HAc.out hb)
        clear hHeld hb
        refine hK.out _ _ hN (fun hHeld => ?_)
        clear hN hK K
        (try simp only [List.getElem_toArray, List.getElem_cons_succ, List.getElem_cons_zero, Act.put, List.setIfInBounds_toArray, List.set_cons_zero, List.set_cons_succ])
        refine wpAnyH_take (i := 5) (oi := _) (v := ?_) rfl (by kernel_rfl) (by kernel_rfl) (by kernel_rfl) (fun _ _ _ h => h) (Or.inl ⟨by rfl, ?_⟩) hHeld ?_
        rotate_left
        · (intro w hSw; (try dsimp only at hSw); first | (go_simp; done) | (go_simp; with_reducible rfl))
        (try simp only [List.getElem_toArray, List.getElem_cons_succ, List.getElem_cons_zero, Act.put, List.setIfInBounds_toArray, List.set_cons_zero, List.set_cons_succ])
        refine wpAnyH_take (i := 6) (oi := _) (v := ?_) rfl (by kernel_rfl) (by kernel_rfl) (by kernel_rfl) (fun _ _ _ h => h) (Or.inl ⟨by rfl, ?_⟩) hHeld ?_
        rotate_left
        · (intro w hSw; (try dsimp only at hSw); first | (go_simp; done) | (go_simp; with_reducible rfl))
        (try simp only [List.getElem_toArray, List.getElem_cons_succ, List.getElem_cons_zero, Act.put, List.setIfInBounds_toArray, List.set_cons_zero, List.set_cons_succ])
        refine wpAnyH_take (i := 7) (oi := _) (v := ?_) rfl (by kernel_rfl) (by kernel_rfl) (by kernel_rfl) (fun _ _ _ h => h) (Or.inl ⟨by rfl, ?_⟩) hHeld ?_
        rotate_left
        · (intro w hSw; (try dsimp only at hSw); first | (go_simp; done) | (go_simp; with_reducible rfl))
        (try simp only [List.getElem_toArray, List.getElem_cons_succ, List.getElem_cons_zero, Act.put, List.setIfInBounds_toArray, List.set_cons_zero, List.set_cons_succ])
        refine wpAnyH_ready (rs := [9]) (by kernel_rfl) (by simp) ?_
        refine (AllReadyH.cons (o := _) rfl (fun K hK => ?_) AllReadyH.nil)
        refine wp_store_row 24 (.tmp 7) (.tmp 25) rfl gac (iCells (kl18 Kp)) rfl rfl 24 (iCells zs8) HAc.out HSK.out HSS.out (iCells_one _) ?_
        refine hK.out _ _ (below_setRow hHeld hgec _) (fun hHeld => ?_)
        clear hK K
        have HAc := Lib.hid (Row.setRow HAc.out (iCells (kl18 Kp)))
        generalize w25.setRow gac (iCells (kl18 Kp)) = w26 at hHeld HAc ⊢
        (try simp only [List.getElem_toArray, List.getElem_cons_succ, List.getElem_cons_zero, Act.put])
        refine wpAnyH_take (i := 10) (oi := _) (v := ?_) rfl (by kernel_rfl) (by kernel_rfl) (by kernel_rfl) (fun _ _ _ h => h) (Or.inl ⟨by rfl, ?_⟩) hHeld ?_
        rotate_left
        · (intro w hSw; (try dsimp only at hSw); first | (go_simp; done) | (go_simp; with_reducible rfl))
        (try simp only [List.getElem_toArray, List.getElem_cons_succ, List.getElem_cons_zero, Act.put, List.setIfInBounds_toArray, List.set_cons_zero, List.set_cons_succ])
        refine wpAnyH_done (by kernel_rfl) ?_ _
        go_wp2_with fail
        go_meet
        case rel => exact ⟨gac, rfl, rfl, ⟨by have := HR2.out.lt; omega, by have := HR4.out.lt; omega, by have := HR6.out.lt; omega⟩, HAc.out, HR2.out.below hHeld HR2.out.lt, HR4.out.below hHeld HR4.out.lt, HR6.out.below hHeld HR6.out.lt, HB.out.trans (hHeld.mono HB.out.size)⟩
    · go_simp
      have hHeld0 := hHeld
      refine hK.out _ _ (hHeld.alloc hHeld.size _) (fun hHeld => ?_)
      clear hK K
      obtain ⟨gac, hgac⟩ : ∃ g, w9.heap.size = g := ⟨_, rfl⟩
      have hgec : w5.heap.size ≤ gac := by rw [← hgac]; exact hHeld0.size
      have HAc : Hid (Row (w9.alloc (.cells (iCells zs8) 24)) gac 24 (iCells zs8)) := row_new _ _ hgac _ _
      rw [hgac]
      generalize w9.alloc (.cells (iCells zs8) 24) = w27 at hHeld HAc ⊢
      clear hgac hHeld0
      (try simp only [List.getElem_toArray, List.getElem_cons_succ, List.getElem_cons_zero, Act.put, List.setIfInBounds_toArray, List.set_cons_zero, List.set_cons_succ])
      refine wpAnyH_ready (rs := [3]) (by kernel_rfl) (by simp) ?_
      refine (AllReadyH.cons (o := _) rfl (fun K hK => ?_) AllReadyH.nil)
      go_simp
      refine (HBZ.out _).mono ?_
      rintro e w28 ⟨rfl, hb⟩
      go_wp2_with fail
      have hN := hHeld.trans (hb.mono hHeld.size)
      have HAc := Lib.hid (Row.box HAc.out hb)
      clear hHeld hb
      refine hK.out _ _ hN (fun hHeld => ?_)
      clear hN hK K
      (try simp only [List.getElem_toArray, List.getElem_cons_succ, List.getElem_cons_zero, Act.put, List.setIfInBounds_toArray, List.set_cons_zero, List.set_cons_succ])
      refine wpAnyH_ready (rs := [4]) (by kernel_rfl) (by simp) ?_
      refine (AllReadyH.cons (o := _) rfl (fun K hK => ?_) AllReadyH.nil)
      go_simp
      refine (HPU.out _).mono ?_
      rintro e w29 ⟨rfl, hb⟩
      go_wp2_with fail
      have hN := hHeld.trans (hb.mono hHeld.size)
      have HAc := Lib.hid (Row.box HAc.out hb)
      clear hHeld hb
      refine hK.out _ _ hN (fun hHeld => ?_)
      clear hN hK K
      (try simp only [List.getElem_toArray, List.getElem_cons_succ, List.getElem_cons_zero, Act.put, List.setIfInBounds_toArray, List.set_cons_zero, List.set_cons_succ])
      refine wpAnyH_take (i := 5) (oi := _) (v := ?_) rfl (by kernel_rfl) (by kernel_rfl) (by kernel_rfl) (fun _ _ _ h => h) (Or.inl ⟨by rfl, ?_⟩) hHeld ?_
      rotate_left
      · (intro w hSw; (try dsimp only at hSw); first | (go_simp; done) | (go_simp; with_reducible rfl))
      (try simp only [List.getElem_toArray, List.getElem_cons_succ, List.getElem_cons_zero, Act.put, List.setIfInBounds_toArray, List.set_cons_zero, List.set_cons_succ])
      refine wpAnyH_take (i := 6) (oi := _) (v := ?_) rfl (by kernel_rfl) (by kernel_rfl) (by kernel_rfl) (fun _ _ _ h => h) (Or.inl ⟨by rfl, ?_⟩) hHeld ?_
      rotate_left
      · (intro w hSw; (try dsimp only at hSw); first | (go_simp; done) | (go_simp; with_reducible rfl))
      (try simp only [List.getElem_toArray, List.getElem_cons_succ, List.getElem_cons_zero, Act.put, List.setIfInBounds_toArray, List.set_cons_zero, List.set_cons_succ])
      refine wpAnyH_take (i := 7) (oi := _) (v := ?_) rfl (by kernel_rfl) (by kernel_rfl) (by kernel_rfl) (fun _ _ _ h => h) (Or.inl ⟨by rfl, ?_⟩) hHeld ?_
      rotate_left
      · (intro w hSw; (try dsimp only at hSw); first | (go_simp; done) | (go_simp; with_reducible rfl))
      (try simp only [List.getElem_toArray, List.getElem_cons_succ, List.getElem_cons_zero, Act.put, List.setIfInBounds_toArray, List.set_cons_zero, List.set_cons_succ])
      refine wpAnyH_ready (rs := [9]) (by kernel_rfl) (by simp) ?_
      refine (AllReadyH.cons (o := _) rfl (fun K hK => ?_) AllReadyH.nil)
      refine wp_store_row 24 (.tmp 7) (.tmp 25) rfl gac (iCells (kl18 Kp)) rfl rfl 24 (iCells zs8) HAc.out HSK.out HSS.out (iCells_one _) ?_
      refine hK.out _ _ (below_setRow hHeld hgec _) (fun hHeld => ?_)
      clear hK K
      have HAc := Lib.hid (Row.setRow HAc.out (iCells (kl18 Kp)))
      generalize w29.setRow gac (iCells (kl18 Kp)) = w30 at hHeld HAc ⊢
      (try simp only [List.getElem_toArray, List.getElem_cons_succ, List.getElem_cons_zero, Act.put])
      refine wpAnyH_take (i := 10) (oi := _) (v := ?_) rfl (by kernel_rfl) (by kernel_rfl) (by kernel_rfl) (fun _ _ _ h => h) (Or.inl ⟨by rfl, ?_⟩) hHeld ?_
      rotate_left
      · (intro w hSw; (try dsimp only at hSw); first | (go_simp; done) | (go_simp; with_reducible rfl))
      (try simp only [List.getElem_toArray, List.getElem_cons_succ, List.getElem_cons_zero, Act.put, List.setIfInBounds_toArray, List.set_cons_zero, List.set_cons_succ])
      refine wpAnyH_done (by kernel_rfl) ?_ _
      go_wp2_with fail
      go_meet
      case rel => exact ⟨gac, rfl, rfl, ⟨by have := HR2.out.lt; omega, by have := HR4.out.lt; omega, by have := HR6.out.lt; omega⟩, HAc.out, HR2.out.below hHeld HR2.out.lt, HR4.out.below hHeld HR4.out.lt, HR6.out.below hHeld HR6.out.lt, HB.out.trans (hHeld.mono HB.out.size)⟩
  case rest =>
    obtain ⟨ga, rfl, rfl, hne, hra, hr2, hr4, hr6, hb⟩ := hcut
    have HNA := Lib.hid hne
    have HRA := Lib.hid hra
    have HR2 := Lib.hid hr2
    have HR4 := Lib.hid hr4
    have HR6 := Lib.hid hr6
    have HB := Lib.hid hb
    clear hra hr2 hr4 hr6 hb hne HBZ HPU hz8
    generalize wc = w6 at *
    go_wp2_with fail
    go_loopw [27] (fun ii wr => ∃ (b : Nat), b ≤ 8 ∧ ii = .int .i64 (b : Int) ∧ Row wr g 41 (iCells F) ∧ Row wr (g + 1) 30 (iCells z40) ∧ Row wr g6 30 (iCells (sq20 F n b)) ∧ Row wr ga 24 (iCells (kl18 Kp)) ∧ Below w.heap.size w wr) (fun ii _ => 8 - (intOf ii).toNat)
    case atStart => exact ⟨0, by omega, rfl, HR2.out, HR4.out, by rw [HSQ0.out]; exact HR6.out, HRA.out, HB.out⟩
    case round =>
      clear HR2 HR4 HR6 HRA HB
      obtain ⟨b, hb8, rfl, hr2, hr4, hr6, hra, hb⟩ := hrel
      have HR2 := Lib.hid hr2
      have HR4 := Lib.hid hr4
      have HR6 := Lib.hid hr6
      have HRA := Lib.hid hra
      have HB := Lib.hid hb
      rcases Nat.lt_or_ge b 8 with hlt | hge
      · have hbI : (b : Int) < 8 := by omega
        have HJ := Lib.hid hlt
        have HOF : Hid (∀ w, Calls Tryz.prog 17 #[.agg (iCells F), .int .i64 (b : Int)] w fun e w' => e = .returned (.agg (iCells (bd16 F b))) ∧ Below w.heap.size w w') := Lib.hid fun w => by
          have h := of16_any F (b : Int) w HFL.out
          rw [of20 F b hlt] at h
          exact h
        have HFI : Hid (∀ w, Calls Tryz.prog 16 #[.agg (iCells (bd16 F b)), .int .i64 (sd20 F b : Nat), .int .i64 (Kp b : Nat)] w fun e w' => e = .returned (.tuple #[.agg (iCells (yy20 F n b)), .int .i64 0]) ∧ Below w.heap.size w w') := Lib.hid fun w => by
          have h := find_any (bd16 F b) (sd20 F b) (Kp b) w rfl (sd20_le F b) (HK12.out b hlt) (fun j hj => by
            have hj2 : j = 0 ∨ j = 1 ∨ j = 2 ∨ j = 3 := by omega
            rcases hj2 with rfl | rfl | rfl | rfl
            · exact HFB.out (4 * b) (by omega)
            · exact HFB.out (4 * b + 1) (by omega)
            · exact HFB.out (4 * b + 2) (by omega)
            · exact HFB.out (4 * b + 3) (by omega))
          unfold yy20
          rw [HKK.out ()]
          exact h
        have HV1 := Lib.hid (sq20_step F n b b hlt)
        have HV2 := Lib.hid (kl18_at Kp b hlt)
        have HV3 := Lib.hid (sq20_step F n (b + 1) b hlt)
        have HN6 := Lib.hid (And.intro HNE.out.1 HNE.out.2.1)
        have HL1 := Lib.hid (show b < (sq20 F n b).length by rw [sq20_len]; omega)
        have HL2 := Lib.hid (show b < (kl18 Kp).length by rw [kl18_len]; exact hlt)
        have HYL := Lib.hid (show (yy20 F n b).length = 4 from rfl)
        have HLY := Lib.hid (show 8 + b * 4 + (yy20 F n b).length ≤ (sq20 F n b).length by rw [sq20_len, HYL.out]; omega)
        have HSY := Lib.hid (show (Tryz.prog.info? 27).map (·.size) = some (yy20 F n b).length by rw [HYL.out]; exact pls20)
        have HPUT := Lib.hid (sq20_put F n b hlt)
        generalize yy20 F n b = Y at *
        generalize bd16 F b = C at *
        generalize ((sd20 F b : Nat) : Int) = S at *
        generalize ((Kp b : Nat) : Int) = kb at *
        clear hb8 hlt hr2 hr4 hr6 hra hb
        go_upto_region 9 with fail
        refine wp_region_held_drew (S := fun w' => Sx20 g g6 ga b wr.heap.size F (kl18 Kp) S w') (by kernel_rfl) ?_ (fun hHeld => ?_)
        · exact ⟨Nat.le_refl _, HR2.out.lt, HR6.out.lt, HRA.out.lt, Row.drewN HR2.out 1, Row.drewN HRA.out 1, ⟨_, Row.drewN HR6.out 1, HL1.out, HV1.out⟩⟩
        have HR2 : Hid (Row wr.drew _ _ _) := Lib.hid (Row.drewN HR2.out 1)
        have HR4 : Hid (Row wr.drew _ _ _) := Lib.hid (Row.drewN HR4.out 1)
        have HR6 : Hid (Row wr.drew _ _ _) := Lib.hid (Row.drewN HR6.out 1)
        have HRA : Hid (Row wr.drew _ _ _) := Lib.hid (Row.drewN HRA.out 1)
        have HB : Hid (Below _ _ wr.drew) := Lib.hid (below_drew1 HB.out)
        generalize hwd : wr.drew = w9 at *
        clear hwd
        refine wpAnyH_take (i := 0) (oi := _) (v := ?_) rfl (by kernel_rfl) (by kernel_rfl) (by kernel_rfl) (fun _ _ _ h => h) (Or.inl ⟨by rfl, ?_⟩) hHeld ?_
        rotate_left
        · (intro w hSw; (try dsimp only at hSw); first | (go_simp; done) | (go_simp; with_reducible rfl))
        (try simp only [List.getElem_toArray, List.getElem_cons_zero, Act.put, List.setIfInBounds_toArray, List.set_cons_zero, List.set_cons_succ])
        refine wpAnyH_take (i := 1) (oi := _) rfl (by kernel_rfl) (by kernel_rfl) (by kernel_rfl) (fun _ _ _ h => h) (yieldsRowS (by rfl) 41 (.tmp 2) rfl g rfl 41 (iCells F) (fun _ h => h.rf) Tryz.underlying41 HSF2.out) hHeld ?_
        (try simp only [List.getElem_toArray, List.getElem_cons_succ, List.getElem_cons_zero, Act.put, List.setIfInBounds_toArray, List.set_cons_zero, List.set_cons_succ])
        refine wpAnyH_take (i := 2) (oi := _) (v := ?_) rfl (by kernel_rfl) (by kernel_rfl) (by kernel_rfl) (fun _ _ _ h => h) (Or.inl ⟨by rfl, ?_⟩) hHeld ?_
        rotate_left
        · (intro w hSw; (try dsimp only at hSw); first | (go_simp; done) | (go_simp; with_reducible rfl))
        (try simp only [List.getElem_toArray, List.getElem_cons_succ, List.getElem_cons_zero, Act.put, List.setIfInBounds_toArray, List.set_cons_zero, List.set_cons_succ])
        refine wpAnyH_take (i := 4) (oi := _) (v := ?_) rfl (by kernel_rfl) (by kernel_rfl) (by kernel_rfl) (fun _ _ _ h => h) (Or.inl ⟨by rfl, ?_⟩) hHeld ?_
        rotate_left
        · (intro w hSw; (try dsimp only at hSw); first | (go_simp; done) | (go_simp; with_reducible rfl))
        (try simp only [List.getElem_toArray, List.getElem_cons_succ, List.getElem_cons_zero, Act.put, List.setIfInBounds_toArray, List.set_cons_zero, List.set_cons_succ])
        refine wpAnyH_take (i := 5) (oi := _) (v := ?_) rfl (by kernel_rfl) (by kernel_rfl) (by kernel_rfl) (fun _ _ _ h => h) (Or.inl ⟨by rfl, ?_⟩) hHeld ?_
        rotate_left
        · (intro w hSw; (try dsimp only at hSw); first | (go_simp; done) | (go_simp; with_reducible rfl))
        (try simp only [List.getElem_toArray, List.getElem_cons_succ, List.getElem_cons_zero, Act.put, List.setIfInBounds_toArray, List.set_cons_zero, List.set_cons_succ])
        refine wpAnyH_take (i := 6) (oi := _) (v := ?_) rfl (by kernel_rfl) (by kernel_rfl) (by kernel_rfl) (fun _ _ _ h => h) (Or.inl ⟨by rfl, ?_⟩) hHeld ?_
        rotate_left
        · (intro w hSw; (try dsimp only at hSw); first | (go_simp; done) | (go_simp; with_reducible rfl))
        (try simp only [List.getElem_toArray, List.getElem_cons_succ, List.getElem_cons_zero, Act.put, List.setIfInBounds_toArray, List.set_cons_zero, List.set_cons_succ])
        refine wpAnyH_take (i := 7) (oi := _) rfl (by kernel_rfl) (by kernel_rfl) (by kernel_rfl) (fun _ _ _ h => h) (yieldsIntS (by rfl) (.tmp 37) rfl g6 b rfl 30 S (fun _ h => h.rs)) hHeld ?_
        (try simp only [List.getElem_toArray, List.getElem_cons_succ, List.getElem_cons_zero, Act.put, List.setIfInBounds_toArray, List.set_cons_zero, List.set_cons_succ])
        refine wpAnyH_take (i := 8) (oi := _) (v := ?_) rfl (by kernel_rfl) (by kernel_rfl) (by kernel_rfl) (fun _ _ _ h => h) (Or.inl ⟨by rfl, ?_⟩) hHeld ?_
        rotate_left
        · (intro w hSw; (try dsimp only at hSw); first | (go_simp; done) | (go_simp; with_reducible rfl))
        (try simp only [List.getElem_toArray, List.getElem_cons_succ, List.getElem_cons_zero, Act.put, List.setIfInBounds_toArray, List.set_cons_zero, List.set_cons_succ])
        refine wpAnyH_take (i := 9) (oi := _) (v := ?_) rfl (by kernel_rfl) (by kernel_rfl) (by kernel_rfl) (fun _ _ _ h => h) (Or.inl ⟨by rfl, ?_⟩) hHeld ?_
        rotate_left
        · (intro w hSw; (try dsimp only at hSw); first | (go_simp; done) | (go_simp; with_reducible rfl))
        (try simp only [List.getElem_toArray, List.getElem_cons_succ, List.getElem_cons_zero, Act.put, List.setIfInBounds_toArray, List.set_cons_zero, List.set_cons_succ])
        refine wpAnyH_take (i := 10) (oi := _) rfl (by kernel_rfl) (by kernel_rfl) (by kernel_rfl) (fun _ _ _ h => h) (yieldsIntS (by rfl) (.tmp 40) rfl ga b rfl 24 kb (fun _ h => ⟨_, h.rk, HL2.out, HV2.out⟩)) hHeld ?_
        (try simp only [List.getElem_toArray, List.getElem_cons_succ, List.getElem_cons_zero, Act.put, List.setIfInBounds_toArray, List.set_cons_zero, List.set_cons_succ])
        refine wpAnyH_take (i := 15) (oi := _) (v := ?_) rfl (by kernel_rfl) (by kernel_rfl) (by kernel_rfl) (fun _ _ _ h => h) (Or.inl ⟨by rfl, ?_⟩) hHeld ?_
        rotate_left
        · (intro w hSw; (try dsimp only at hSw); first | (go_simp; done) | (go_simp; with_reducible rfl))
        (try simp only [List.getElem_toArray, List.getElem_cons_succ, List.getElem_cons_zero, Act.put, List.setIfInBounds_toArray, List.set_cons_zero, List.set_cons_succ])
        refine wpAnyH_ready (rs := [3]) (by kernel_rfl) (by simp) ?_
        refine (AllReadyH.cons (o := _) rfl (fun K hK => ?_) AllReadyH.nil)
        go_simp
        refine (HOF.out _).mono ?_
        rintro e w30 ⟨rfl, hb⟩
        go_wp2_with fail
        have hN := hHeld.trans (hb.mono hHeld.size)
        have HR2 := Lib.hid (HR2.out.box hb)
        have HR4 := Lib.hid (HR4.out.box hb)
        have HR6 := Lib.hid (HR6.out.box hb)
        have HRA := Lib.hid (HRA.out.box hb)
        have HB := Lib.hid (HB.out.trans (hb.mono HB.out.size))
        clear hHeld hb
        refine hK.out _ _ hN (fun hHeld => ?_)
        clear hN hK K
        (try simp only [List.getElem_toArray, List.getElem_cons_succ, List.getElem_cons_zero, Act.put, List.setIfInBounds_toArray, List.set_cons_zero, List.set_cons_succ])
        refine wpAnyH_ready (rs := [11]) (by kernel_rfl) (by simp) ?_
        refine (AllReadyH.cons (o := _) rfl (fun K hK => ?_) AllReadyH.nil)
        go_simp
        refine (HFI.out _).mono ?_
        rintro e w31 ⟨rfl, hb⟩
        go_wp2_with fail
        have hN := hHeld.trans (hb.mono hHeld.size)
        have HR2 := Lib.hid (HR2.out.box hb)
        have HR4 := Lib.hid (HR4.out.box hb)
        have HR6 := Lib.hid (HR6.out.box hb)
        have HRA := Lib.hid (HRA.out.box hb)
        have HB := Lib.hid (HB.out.trans (hb.mono HB.out.size))
        clear hHeld hb
        refine hK.out _ _ hN (fun hHeld => ?_)
        clear hN hK K
        (try simp only [List.getElem_toArray, List.getElem_cons_succ, List.getElem_cons_zero, Act.put, List.setIfInBounds_toArray, List.set_cons_zero, List.set_cons_succ])
        refine wpAnyH_take (i := 12) (oi := _) (v := ?_) rfl (by kernel_rfl) (by kernel_rfl) (by kernel_rfl) (fun _ _ _ h => h) (Or.inl ⟨by rfl, ?_⟩) hHeld ?_
        rotate_left
        · (intro w hSw; (try dsimp only at hSw); first | (go_simp; done) | (go_simp; with_reducible rfl))
        (try simp only [List.getElem_toArray, List.getElem_cons_succ, List.getElem_cons_zero, Act.put, List.setIfInBounds_toArray, List.set_cons_zero, List.set_cons_succ])
        refine wpAnyH_take (i := 13) (oi := _) (v := ?_) rfl (by kernel_rfl) (by kernel_rfl) (by kernel_rfl) (fun _ _ _ h => h) (Or.inl ⟨by rfl, ?_⟩) hHeld ?_
        rotate_left
        · (intro w hSw; (try dsimp only at hSw); first | (go_simp; done) | (go_simp; with_reducible rfl))
        (try simp only [List.getElem_toArray, List.getElem_cons_succ, List.getElem_cons_zero, Act.put, List.setIfInBounds_toArray, List.set_cons_zero, List.set_cons_succ])
        refine wpAnyH_take (i := 14) (oi := _) (v := ?_) rfl (by kernel_rfl) (by kernel_rfl) (by kernel_rfl) (fun _ _ _ h => h) (Or.inl ⟨by rfl, ?_⟩) hHeld ?_
        rotate_left
        · (intro w hSw; (try dsimp only at hSw); first | (go_simp; done) | (go_simp; with_reducible rfl))
        (try simp only [List.getElem_toArray, List.getElem_cons_succ, List.getElem_cons_zero, Act.put, List.setIfInBounds_toArray, List.set_cons_zero, List.set_cons_succ])
        refine wpAnyH_take (i := 16) (oi := _) (v := ?_) rfl (by kernel_rfl) (by kernel_rfl) (by kernel_rfl) (fun _ _ _ h => h) (Or.inl ⟨by rfl, ?_⟩) hHeld ?_
        rotate_left
        · (intro w hSw; (try dsimp only at hSw); first | (go_simp; done) | (go_simp; with_reducible rfl))
        (try simp only [List.getElem_toArray, List.getElem_cons_succ, List.getElem_cons_zero, Act.put, List.setIfInBounds_toArray, List.set_cons_zero, List.set_cons_succ])
        refine wpAnyH_ready (rs := [17]) (by kernel_rfl) (by simp) ?_
        refine (AllReadyH.cons (o := _) rfl (fun K hK => ?_) AllReadyH.nil)
        refine wp_store_pto 27 (.tmp 46) (.tmp 43) rfl g6 (8 + b * 4) Y rfl rfl 30 (sq20 F n b) HR6.out HLY.out HSY.out ?_
        have HR2 := Lib.hid (show Row (w31.setRow g6 (iCells (ppu (sq20 F n b) (8 + b * 4) Y))) g 41 (iCells F) from (setRow_other _ _ _ _ HN6.out.1).trans HR2.out)
        have HR4 := Lib.hid (show Row (w31.setRow g6 (iCells (ppu (sq20 F n b) (8 + b * 4) Y))) (g + 1) 30 (iCells z40) from (setRow_other _ _ _ _ HN6.out.2).trans HR4.out)
        have HRA := Lib.hid (show Row (w31.setRow g6 (iCells (ppu (sq20 F n b) (8 + b * 4) Y))) ga 24 (iCells (kl18 Kp)) from (setRow_other _ _ _ _ (Ne.symm HNA.out.2.2)).trans HRA.out)
        have HB := Lib.hid (below_setRow HB.out (g := g6) HNE.out.2.2 (iCells (ppu (sq20 F n b) (8 + b * 4) Y)))
        have HR6 := Lib.hid (Row.setRow HR6.out (iCells (ppu (sq20 F n b) (8 + b * 4) Y)))
        refine hK.out _ _ ?_ (fun hHeld => ?_)
        · exact ⟨by rw [size_setRow]; exact hHeld.size, hHeld.h2, hHeld.h6, hHeld.ha, HR2.out, HRA.out, ⟨_, HR6.out, by rw [ppu_len]; exact HL1.out, by rw [HPUT.out, HV3.out]⟩⟩
        clear hK K
        generalize w31.setRow g6 (iCells (ppu (sq20 F n b) (8 + b * 4) Y)) = w32 at *
        (try simp only [List.getElem_toArray, List.getElem_cons_succ, List.getElem_cons_zero, Act.put])
        refine wpAnyH_done (by kernel_rfl) ?_ _
        go_wp2_with fail
        go_roundw
        case rel => exact ⟨b + 1, HJ.out, by go_num, HR2.out, HR4.out, by rw [← HPUT.out]; exact HR6.out, HRA.out, HB.out⟩
        case measure =>
          have := HJ.out
          simp [intOf] <;> omega
      · obtain rfl : b = 8 := by omega
        have HSF := Lib.hid (s40_size (sq20 F n 8) (sq20_len _ _ _))
        have HSX := Lib.hid (s40_same z40 (sq20 F n 8) z40_length (sq20_len _ _ _))
        clear hb8 hge hr2 hr4 hr6 hra hb
        go_wp2_with (first
          | (refine wpList_load_row rfl 30 (.tmp 6) rfl g6 rfl 30 (iCells (sq20 F n 8)) (0, 0) _ HR6.out Tryz.underlying30 rfl HSF.out ?_)
          | (refine wpList_store_row rfl 30 (.tmp 4) (.tmp 48) rfl (g + 1) (iCells (sq20 F n 8)) rfl rfl 30 (iCells z40) HR4.out HSF.out HSX.out (iCells_one _) ?_)
          | (refine bodyPost_ret (v := .tuple #[.agg (iCells (sq20 F n 8)), .int .i64 0]) (results_row_tmp Tryz.results5 _ _ (g + 1) 30 (iCells (sq20 F n 8)) (0, 0) _ rfl (Row.setRow HR4.out _) Tryz.underlying30 rfl HSF.out) rfl ⟨rfl, below_setRow HB.out (by have := HG.out (); omega) _⟩))
theorem shape20_any (HP : PulOk) (HBz : BizOk) (f : List Int) (z : Int) (w : World) (hf : f.length = 32) :
    Calls Tryz.prog 5 #[.agg (iCells f), .int .i64 z] w fun e w' => e = .returned (.tuple #[.agg (iCells (shI f z)), .int .i64 (shE z)]) ∧ Below w.heap.size w w' := by
  unfold shI shE
  by_cases h : 12 ≤ z ∧ z ≤ 24
  · rw [if_pos h, if_pos h]
    exact shape20_yes HP HBz f z w hf h
  · rw [if_neg h, if_neg h]
    exact shape20_no f z w h
end Go.Proofs.YtalbcimnnihmnaaGreat
