/-
  give's Pulses, walked. Conditions: what pvq's Bits answers.
-/
import Derived.Test.YtalbcimnnihmnaaGreatQS31
import Derived.Test.YtalbcimnnihmnaaGreatQS29
import Derived.Test.YtalbcimnnihmnaaGreatQS21
import Derived.Deep.Cut
import Derived.OrdersHeld
import Derived.Deep.RegionHeld
namespace Go.Proofs.YtalbcimnnihmnaaGreat
open Go.RowKit
open M
set_option maxRecDepth 100000 in
theorem own_lower {w : World} {B B' n size : Nat} {e : TypeId} {v : Value} {xs : List Value} (h : w.ownsRow B' e size v n xs) (hB : B ≤ B') : w.ownsRow B e size v n xs := by
  refine ⟨h.1, ?_⟩
  rcases h.2 with h0 | ⟨g, cap, cur, rfl, hb, rest⟩
  · exact Or.inl h0
  · exact Or.inr ⟨g, cap, cur, rfl, Nat.le_trans hB hb, rest⟩
set_option maxRecDepth 100000 in
theorem QS.lower {w0 w : World} {F : Nat → Prop} {B B' h : Nat} {l : List (Nat × Int × Nat)} (H : QS w0 F B' h l w) (hB : B ≤ B') : QS w0 F B h l w := by
  obtain ⟨v, hr, ho, hf⟩ := H.v
  exact ⟨⟨v, hr, own_lower ho hB, hf⟩, Nat.le_trans hB H.hb, H.fh, H.fl, H.be, H.bd, H.ln⟩
set_option maxRecDepth 100000 in
theorem pul_no1 (l : List Int) (n : Int) (h : rt17 l = false) : puI l n = zs8 ∧ puE l n = 1 := by
  have hk : ¬ ok18 l n := fun k => by have := k.1; rw [h] at this; cases this
  exact ⟨if_neg hk, if_neg hk⟩
set_option maxRecDepth 100000 in
theorem pul_no2 (l : List Int) (n : Int) (h : n < 0 ∨ n > 1048576) : puI l n = zs8 ∧ puE l n = 1 := by
  have hk : ¬ ok18 l n := fun k => by have := k.2; omega
  exact ⟨if_neg hk, if_neg hk⟩
set_option maxRecDepth 100000 in
/-- A whole row is read, in every world that has what was there. -/
theorem yieldsRow18 {ops : Array Oper} {op : Oper} {a : Act} {W0 : World} (hw : Region.wanted op (yielded ops a.tmps) = true) (ty : TypeId) (x : Operand) (ho : op.op = .load ty x)
    (g : Nat) (hx : a.eval x = .pointer (some ⟨g, 0, none⟩)) (t : TypeId) (cs : Array Value) (hr : Row W0 g t cs) {n : Nat} {e : TypeId} (hu : Tryz.prog.underlying ty = some (.array n e))
    (hi : (Tryz.prog.info? ty).map (·.size) = some cs.size) : YieldsIf Tryz.prog ops (fun w' => Below W0.heap.size W0 w') op (.agg cs) a :=
  .inl ⟨hw, fun w hw' => by
    unfold execOp
    simp only [ho, hx, Instr.loadAt, Instr.sureAddr, Sem.run_bind, Sem.run_pure, Result.andThen_ok, run_loadVar_row w g t ty cs (0, 0) _ (hr.below hw' hr.lt) hu rfl hi]⟩
set_option maxRecDepth 100000 in
theorem row_far_setRow {w : World} {g h : Nat} {t : TypeId} {cs : Array Value} (hr : Row w g t cs) (hne : g ≠ h) (ds : Array Value) : Row (w.setRow h ds) g t cs := (setRow_other w h g ds hne).trans hr
set_option maxRecDepth 100000 in
theorem own_far_setRow {w : World} {B n size : Nat} {e : TypeId} {v : Value} {xs : List Value} (h : w.ownsRow B e size v n xs) {q : Nat} (hp : v.ownBlock ≠ some q) (ds : Array Value) : (w.setRow q ds).ownsRow B e size v n xs := by
  refine ⟨h.1, ?_⟩
  rcases h.2 with h0 | ⟨g, cap, cur, rfl, hb, hr, rest⟩
  · exact Or.inl h0
  · exact Or.inr ⟨g, cap, cur, rfl, hb, (setRow_other w q g ds (fun e => hp (by rw [← e]; rfl))).trans hr, rest⟩
set_option maxRecDepth 100000 in
theorem QS.setRowKept {w0 w : World} {F : Nat → Prop} {B h g : Nat} {l : List (Nat × Int × Nat)} (H : QS w0 F B h l w) (h1 : F g) (ds : Array Value) : QS (w.setRow g ds) F B h l (w.setRow g ds) := by
  obtain ⟨v, hr, ho, hf⟩ := H.v
  have hs : (w.setRow g ds).heap.size = w.heap.size := by simp [World.setRow]
  exact ⟨⟨v, row_far_setRow hr (fun e => H.fh (by rw [e]; exact h1)) ds, own_far_setRow ho (fun e => hf _ e h1) ds, hf⟩, H.hb, H.fh, fun k hk => by rw [hs]; exact H.fl k hk, KF.refl _ _, H.bd, H.ln⟩
set_option maxRecDepth 100000 in
theorem KF.row {F : Nat → Prop} {w0 w : World} {g : Nat} {t : TypeId} {cs : Array Value} (h : KF F w0 w) (hf : F g) (hr : Row w0 g t cs) : Row w g t cs := (h.block g hf).trans hr
set_option maxRecDepth 100000 in
theorem KF.to {F : Nat → Prop} {B : Nat} {w0 w : World} (h : KF F w0 w) (hF : ∀ k, k < B → F k) : Below B w0 w := ⟨h.os, h.tape, h.output, h.size, fun k hk => h.block k (hF k hk)⟩
/-- How many bands a queue has; how many pulses more there could be: as they stand in a world. -/
def qn18 (h : Nat) (w : World) : Nat := match w.cell? ⟨h, 0, none⟩ with
  | some (.slice _ n _) => n
  | _ => 0
def cn18 (g : Nat) (w : World) (b : Nat) : Nat := match w.cell? ⟨g, b, none⟩ with
  | some v => (intOf v).toNat
  | none => 0
def mz18 (h g : Nat) (w : World) : Nat := 2 * (96 - sum8 (cn18 g w)) + qn18 h w
set_option maxRecDepth 100000 in
theorem QS.qn {w0 w : World} {F : Nat → Prop} {B h : Nat} {l : List (Nat × Int × Nat)} (H : QS w0 F B h l w) : qn18 h w = l.length := by
  obtain ⟨v, hr, ho, _⟩ := H.v
  have c : w.cell? ⟨h, 0, none⟩ = some v := cell_of_row _ _ 0 _ _ _ hr
  unfold qn18
  rw [c]
  rcases ho.2 with ⟨rfl, h0⟩ | ⟨g2, cap2, cur2, rfl, _⟩
  · exact h0.symm
  · rfl
set_option maxRecDepth 100000 in
theorem cn18_is {w : World} {g : Nat} {t : TypeId} {k : Nat → Nat} (hr : Row w g t (iCells (kl18 k))) (b : Nat) (hb : b < 8) : cn18 g w b = k b := by
  have c := i_at hr b (by rw [kl18_len]; exact hb)
  rw [kl18_at k b hb] at c
  unfold cn18
  rw [c]
  simp [intOf]
set_option maxRecDepth 100000 in
theorem mz18_is {w0 w : World} {F : Nat → Prop} {B h g : Nat} {t : TypeId} {l : List (Nat × Int × Nat)} {k : Nat → Nat} (H : QS w0 F B h l w) (hr : Row w g t (iCells (kl18 k))) : mz18 h g w = 2 * (96 - sum8 k) + l.length := by
  unfold mz18 sum8
  rw [H.qn, cn18_is hr 0 (by omega), cn18_is hr 1 (by omega), cn18_is hr 2 (by omega), cn18_is hr 3 (by omega), cn18_is hr 4 (by omega), cn18_is hr 5 (by omega), cn18_is hr 6 (by omega), cn18_is hr 7 (by omega)]
set_option maxRecDepth 100000 in
theorem kl18_put (k : Nat → Nat) (a : Nat) : (iCells (kl18 k)).setIfInBounds a (.int .i64 ((k a + 1 : Nat) : Int)) = iCells (kl18 (mor k a)) := by rw [iCells_set, kl18_set]
set_option maxRecDepth 100000 in
theorem mor_few (k : Nat → Nat) (a : Nat) (hk : ∀ b, b < 8 → k b ≤ 12) (ha : k a < 12) : ∀ b, b < 8 → mor k a b ≤ 12 := by
  intro b hb
  unfold mor
  split
  · rename_i e; subst e; omega
  · exact hk b hb
set_option maxRecDepth 100000 in
set_option maxHeartbeats 1000000 in
theorem pulses_bad1 (l : List Int) (n : Int) (w : World) (hl : l.length = 8) (hR : rt17 l = false) :
    Calls Tryz.prog 15 #[.agg (iCells l), .int .i64 n] w fun e w' => e = .returned (.tuple #[.agg (iCells zs8), .int .i64 1]) ∧ Below w.heap.size w w' := by
  have hz : ∀ w, (zeroValue 24).run Tryz.prog w = .ok (.agg (iCells zs8)) w := i8_zero
  have HRT := Lib.hid fun w => right17_any l w hl
  rw [hR] at HRT
  have HSS := Lib.hid (sds_size l hl)
  have HSZ := Lib.hid (i8_size zs8 zs8_length)
  have HR0 : Hid (Row (((w.alloc (.cells (iCells l) 25)).alloc (.cells (iCells zs8) 24)).alloc (.cells (iCells zs8) 24)) w.heap.size 25 (iCells l)) := Lib.hid (Row.alloc (Row.alloc (heap_alloc_new _ _) _) _)
  have HR1 : Hid (Row (((w.alloc (.cells (iCells l) 25)).alloc (.cells (iCells zs8) 24)).alloc (.cells (iCells zs8) 24)) (w.heap.size + 1) 24 (iCells zs8)) := Lib.hid (Row.alloc (row_new _ _ (by simp) _ _) _)
  have HR2 : Hid (Row (((w.alloc (.cells (iCells l) 25)).alloc (.cells (iCells zs8) 24)).alloc (.cells (iCells zs8) 24)) (w.heap.size + 1 + 1) 24 (iCells zs8)) := Lib.hid (row_new _ _ (by simp) _ _)
  have HB : Hid (Below w.heap.size w (((w.alloc (.cells (iCells l) 25)).alloc (.cells (iCells zs8) 24)).alloc (.cells (iCells zs8) 24))) := Lib.hid ((((Below.refl _ _).alloc (Nat.le_refl _) _).alloc (by simp) _).alloc (by simp; omega) _)
  clear hR hl
  go_enter Tryz.func15, Tryz.ntmps15
  go_upto_region 2 with fail
  generalize ((w.alloc (.cells (iCells l) 25)).alloc (.cells (iCells zs8) 24)).alloc (.cells (iCells zs8) 24) = w1 at *
  obtain ⟨n0, hn0⟩ : ∃ n0, w.heap.size = n0 := ⟨_, rfl⟩
  have HN0 := Lib.hid fun _ : Unit => hn0
  rw [hn0] at HR0 HR1 HR2 HB ⊢
  clear hn0 hz
  go_wp2_with (refine wpList_load_row rfl 25 (.tmp 2) rfl n0 rfl 25 (iCells l) (0, 0) _ HR0.out Tryz.underlying25 rfl HSS.out ?_)
  refine (HRT.out _).mono ?_
  rintro e w2 ⟨rfl, hb⟩
  have HR0 := Lib.hid (HR0.out.box hb)
  have HR1 := Lib.hid (HR1.out.box hb)
  have HR2 := Lib.hid (HR2.out.box hb)
  have HB := Lib.hid (HB.out.trans (hb.mono (by have := HB.out.size; rw [HN0.out ()] at this; exact this)))
  clear hb HRT
  go_wp2_with (first
    | (refine wpList_load_row rfl 24 (.tmp 6) rfl (n0 + 1 + 1) rfl 24 (iCells zs8) (0, 0) _ HR2.out Tryz.underlying24 rfl HSZ.out ?_)
    | (refine wpList_store_row rfl 24 (.tmp 4) (.tmp 24) rfl (n0 + 1) (iCells zs8) rfl rfl 24 (iCells zs8) HR1.out HSZ.out rfl (iCells_one _) ?_)
    | (refine bodyPost_ret (v := .tuple #[.agg (iCells zs8), .int .i64 1]) (results_row_tmp Tryz.results15 _ _ (n0 + 1) 24 (iCells zs8) (0, 0) _ rfl (Row.setRow HR1.out _) Tryz.underlying24 rfl HSZ.out) rfl ⟨rfl, ?_⟩))
  all_goals exact (by rw [HN0.out ()]; exact below_setRow (g := n0 + 1) HB.out (by omega) _)
set_option maxRecDepth 100000 in
set_option maxHeartbeats 1000000 in
theorem pulses_bad2 (l : List Int) (n : Int) (w : World) (hl : l.length = 8) (hR : rt17 l = true) (hn : n < 0) :
    Calls Tryz.prog 15 #[.agg (iCells l), .int .i64 n] w fun e w' => e = .returned (.tuple #[.agg (iCells zs8), .int .i64 1]) ∧ Below w.heap.size w w' := by
  have hz : ∀ w, (zeroValue 24).run Tryz.prog w = .ok (.agg (iCells zs8)) w := i8_zero
  have HRT := Lib.hid fun w => right17_any l w hl
  rw [hR] at HRT
  have HSS := Lib.hid (sds_size l hl)
  have HSZ := Lib.hid (i8_size zs8 zs8_length)
  have HR0 : Hid (Row (((w.alloc (.cells (iCells l) 25)).alloc (.cells (iCells zs8) 24)).alloc (.cells (iCells zs8) 24)) w.heap.size 25 (iCells l)) := Lib.hid (Row.alloc (Row.alloc (heap_alloc_new _ _) _) _)
  have HR1 : Hid (Row (((w.alloc (.cells (iCells l) 25)).alloc (.cells (iCells zs8) 24)).alloc (.cells (iCells zs8) 24)) (w.heap.size + 1) 24 (iCells zs8)) := Lib.hid (Row.alloc (row_new _ _ (by simp) _ _) _)
  have HR2 : Hid (Row (((w.alloc (.cells (iCells l) 25)).alloc (.cells (iCells zs8) 24)).alloc (.cells (iCells zs8) 24)) (w.heap.size + 1 + 1) 24 (iCells zs8)) := Lib.hid (row_new _ _ (by simp) _ _)
  have HB : Hid (Below w.heap.size w (((w.alloc (.cells (iCells l) 25)).alloc (.cells (iCells zs8) 24)).alloc (.cells (iCells zs8) 24))) := Lib.hid ((((Below.refl _ _).alloc (Nat.le_refl _) _).alloc (by simp) _).alloc (by simp; omega) _)
  clear hR hl
  go_enter Tryz.func15, Tryz.ntmps15
  go_upto_region 2 with fail
  generalize ((w.alloc (.cells (iCells l) 25)).alloc (.cells (iCells zs8) 24)).alloc (.cells (iCells zs8) 24) = w1 at *
  obtain ⟨n0, hn0⟩ : ∃ n0, w.heap.size = n0 := ⟨_, rfl⟩
  have HN0 := Lib.hid fun _ : Unit => hn0
  rw [hn0] at HR0 HR1 HR2 HB ⊢
  clear hn0 hz
  go_wp2_with (refine wpList_load_row rfl 25 (.tmp 2) rfl n0 rfl 25 (iCells l) (0, 0) _ HR0.out Tryz.underlying25 rfl HSS.out ?_)
  refine (HRT.out _).mono ?_
  rintro e w2 ⟨rfl, hb⟩
  have HR0 := Lib.hid (HR0.out.box hb)
  have HR1 := Lib.hid (HR1.out.box hb)
  have HR2 := Lib.hid (HR2.out.box hb)
  have HB := Lib.hid (HB.out.trans (hb.mono (by have := HB.out.size; rw [HN0.out ()] at this; exact this)))
  clear hb HRT
  go_wp2_with (first
    | (refine wpList_load_row rfl 24 (.tmp 6) rfl (n0 + 1 + 1) rfl 24 (iCells zs8) (0, 0) _ HR2.out Tryz.underlying24 rfl HSZ.out ?_)
    | (refine wpList_store_row rfl 24 (.tmp 4) (.tmp 24) rfl (n0 + 1) (iCells zs8) rfl rfl 24 (iCells zs8) HR1.out HSZ.out rfl (iCells_one _) ?_)
    | (refine bodyPost_ret (v := .tuple #[.agg (iCells zs8), .int .i64 1]) (results_row_tmp Tryz.results15 _ _ (n0 + 1) 24 (iCells zs8) (0, 0) _ rfl (Row.setRow HR1.out _) Tryz.underlying24 rfl HSZ.out) rfl ⟨rfl, ?_⟩))
  all_goals exact (by rw [HN0.out ()]; exact below_setRow (g := n0 + 1) HB.out (by omega) _)
set_option maxRecDepth 100000 in
set_option maxHeartbeats 1000000 in
theorem pulses_bad3 (l : List Int) (n : Int) (w : World) (hl : l.length = 8) (hR : rt17 l = true) (hn : n > 1048576) :
    Calls Tryz.prog 15 #[.agg (iCells l), .int .i64 n] w fun e w' => e = .returned (.tuple #[.agg (iCells zs8), .int .i64 1]) ∧ Below w.heap.size w w' := by
  have hz : ∀ w, (zeroValue 24).run Tryz.prog w = .ok (.agg (iCells zs8)) w := i8_zero
  have HRT := Lib.hid fun w => right17_any l w hl
  rw [hR] at HRT
  have HSS := Lib.hid (sds_size l hl)
  have HSZ := Lib.hid (i8_size zs8 zs8_length)
  have HR0 : Hid (Row (((w.alloc (.cells (iCells l) 25)).alloc (.cells (iCells zs8) 24)).alloc (.cells (iCells zs8) 24)) w.heap.size 25 (iCells l)) := Lib.hid (Row.alloc (Row.alloc (heap_alloc_new _ _) _) _)
  have HR1 : Hid (Row (((w.alloc (.cells (iCells l) 25)).alloc (.cells (iCells zs8) 24)).alloc (.cells (iCells zs8) 24)) (w.heap.size + 1) 24 (iCells zs8)) := Lib.hid (Row.alloc (row_new _ _ (by simp) _ _) _)
  have HR2 : Hid (Row (((w.alloc (.cells (iCells l) 25)).alloc (.cells (iCells zs8) 24)).alloc (.cells (iCells zs8) 24)) (w.heap.size + 1 + 1) 24 (iCells zs8)) := Lib.hid (row_new _ _ (by simp) _ _)
  have HB : Hid (Below w.heap.size w (((w.alloc (.cells (iCells l) 25)).alloc (.cells (iCells zs8) 24)).alloc (.cells (iCells zs8) 24))) := Lib.hid ((((Below.refl _ _).alloc (Nat.le_refl _) _).alloc (by simp) _).alloc (by simp; omega) _)
  clear hR hl
  go_enter Tryz.func15, Tryz.ntmps15
  go_upto_region 2 with fail
  generalize ((w.alloc (.cells (iCells l) 25)).alloc (.cells (iCells zs8) 24)).alloc (.cells (iCells zs8) 24) = w1 at *
  obtain ⟨n0, hn0⟩ : ∃ n0, w.heap.size = n0 := ⟨_, rfl⟩
  have HN0 := Lib.hid fun _ : Unit => hn0
  rw [hn0] at HR0 HR1 HR2 HB ⊢
  clear hn0 hz
  go_wp2_with (refine wpList_load_row rfl 25 (.tmp 2) rfl n0 rfl 25 (iCells l) (0, 0) _ HR0.out Tryz.underlying25 rfl HSS.out ?_)
  refine (HRT.out _).mono ?_
  rintro e w2 ⟨rfl, hb⟩
  have HR0 := Lib.hid (HR0.out.box hb)
  have HR1 := Lib.hid (HR1.out.box hb)
  have HR2 := Lib.hid (HR2.out.box hb)
  have HB := Lib.hid (HB.out.trans (hb.mono (by have := HB.out.size; rw [HN0.out ()] at this; exact this)))
  clear hb HRT
  have hn2 : ¬ n < 0 := by omega
  go_wp2_with (first
    | (refine wpList_load_row rfl 24 (.tmp 6) rfl (n0 + 1 + 1) rfl 24 (iCells zs8) (0, 0) _ HR2.out Tryz.underlying24 rfl HSZ.out ?_)
    | (refine wpList_store_row rfl 24 (.tmp 4) (.tmp 24) rfl (n0 + 1) (iCells zs8) rfl rfl 24 (iCells zs8) HR1.out HSZ.out rfl (iCells_one _) ?_)
    | (refine bodyPost_ret (v := .tuple #[.agg (iCells zs8), .int .i64 1]) (results_row_tmp Tryz.results15 _ _ (n0 + 1) 24 (iCells zs8) (0, 0) _ rfl (Row.setRow HR1.out _) Tryz.underlying24 rfl HSZ.out) rfl ⟨rfl, ?_⟩))
  all_goals exact (by rw [HN0.out ()]; exact below_setRow (g := n0 + 1) HB.out (by omega) _)
set_option maxRecDepth 100000 in
set_option maxHeartbeats 4000000 in
theorem pulses_good (HV : BvOk) (l : List Int) (n : Nat) (w : World) (hl : l.length = 8) (hR : rt17 l = true) (hn : n ≤ 1048576) :
    Calls Tryz.prog 15 #[.agg (iCells l), .int .i64 (n : Int)] w fun e w' => e = .returned (.tuple #[.agg (iCells (kl18 (giv (fun b => l.getD b 0) n))), .int .i64 0]) ∧ Below w.heap.size w w' := by
  have hz : ∀ w, (zeroValue 24).run Tryz.prog w = .ok (.agg (iCells zs8)) w := i8_zero
  have HRT := Lib.hid fun w => right17_any l w hl
  rw [hR] at HRT
  have HSS := Lib.hid (sds_size l hl)
  have HSZ := Lib.hid (i8_size zs8 zs8_length)
  have HR0 : Hid (Row (((w.alloc (.cells (iCells l) 25)).alloc (.cells (iCells zs8) 24)).alloc (.cells (iCells zs8) 24)) w.heap.size 25 (iCells l)) := Lib.hid (Row.alloc (Row.alloc (heap_alloc_new _ _) _) _)
  have HR1 : Hid (Row (((w.alloc (.cells (iCells l) 25)).alloc (.cells (iCells zs8) 24)).alloc (.cells (iCells zs8) 24)) (w.heap.size + 1) 24 (iCells zs8)) := Lib.hid (Row.alloc (row_new _ _ (by simp) _ _) _)
  have HR2 : Hid (Row (((w.alloc (.cells (iCells l) 25)).alloc (.cells (iCells zs8) 24)).alloc (.cells (iCells zs8) 24)) (w.heap.size + 1 + 1) 24 (iCells zs8)) := Lib.hid (row_new _ _ (by simp) _ _)
  have HB : Hid (Below w.heap.size w (((w.alloc (.cells (iCells l) 25)).alloc (.cells (iCells zs8) 24)).alloc (.cells (iCells zs8) 24))) := Lib.hid ((((Below.refl _ _).alloc (Nat.le_refl _) _).alloc (by simp) _).alloc (by simp; omega) _)
  have hx := (rt_iff l).1 hR
  have HQD := Lib.hid fun w => tqueued_any (0, 0, 0) l w hl hx
  have HAC := Lib.hid (allcosts_any HV)
  have hzc := costs_zero
  have hn1 : ¬ (n : Int) < 0 := by omega
  have hn2 : ¬ (n : Int) > 1048576 := by omega
  have HNN := Lib.hid hn
  have HL8 := Lib.hid hl
  have HSC := Lib.hid (costs_size (co18 13) (co18_len _))
  have HSX : Hid ((iCells cz18).size = (iCells (co18 13)).size) := Lib.hid (by rw [iCells_size, iCells_size, co18_len]; simp [cz18])
  clear hR hl hx HV hn
  go_enter Tryz.func15, Tryz.ntmps15
  go_upto_region 2 with fail
  generalize ((w.alloc (.cells (iCells l) 25)).alloc (.cells (iCells zs8) 24)).alloc (.cells (iCells zs8) 24) = w1 at *
  obtain ⟨n0, hn0⟩ : ∃ n0, w.heap.size = n0 := ⟨_, rfl⟩
  have HN0 := Lib.hid fun _ : Unit => hn0
  rw [hn0] at HR0 HR1 HR2 HB ⊢
  clear hn0 hz
  go_wp2_with (refine wpList_load_row rfl 25 (.tmp 2) rfl n0 rfl 25 (iCells l) (0, 0) _ HR0.out Tryz.underlying25 rfl HSS.out ?_)
  refine (HRT.out _).mono ?_
  rintro e w2 ⟨rfl, hb⟩
  have HR0 := Lib.hid (HR0.out.box hb)
  have HR1 := Lib.hid (HR1.out.box hb)
  have HR2 := Lib.hid (HR2.out.box hb)
  have HB := Lib.hid (HB.out.trans (hb.mono (by have := HB.out.size; rw [HN0.out ()] at this; exact this)))
  clear hb HRT
  go_upto_region 4 with fail
  obtain ⟨W, hW⟩ : ∃ W, w2 = W := ⟨_, rfl⟩
  rw [hW] at HR0 HR1 HR2 HB ⊢
  clear hW
  have HBS : Hid (n0 + 2 < W.heap.size) := Lib.hid HR2.out.lt
  go_cut [7, 8, 9] from 25 (fun a b c wx => ∃ cb h L, a = .pointer (some ⟨cb, 0, none⟩) ∧ b = .pointer (some ⟨h, 0, none⟩) ∧ c = .int .i64 (n : Int) ∧ Row wx cb 78 (iCells (co18 13)) ∧ W.heap.size ≤ cb ∧ QS wx (fun k => k < W.heap.size ∨ k = cb) W.heap.size h L wx ∧ Hp lt18 (0, 0, 0) L L.length 0 ∧ L.Perm (q18 fun i => l.getD i 0) ∧ Below W.heap.size W wx)
  case first =>
    refine wp_region_held_drew (S := fun w' => Below W.heap.size W w') (by kernel_rfl) ?_ (fun hHeld => ?_)
    · exact below_drew1 (Below.refl _ _)
    generalize W.drew = w3 at hHeld ⊢
    refine wpAnyH_take (i := 1) (oi := _) rfl (by kernel_rfl) (by kernel_rfl) (by kernel_rfl) (fun _ _ _ h => h) (yieldsRow18 (by rfl) 25 (.tmp 2) rfl n0 rfl 25 (iCells l) HR0.out Tryz.underlying25 HSS.out) hHeld ?_
    (try simp only [List.getElem_toArray, Act.put, List.setIfInBounds_toArray])
    refine wpAnyH_take (i := 3) (oi := _) (v := ?_) rfl (by kernel_rfl) (by kernel_rfl) (by kernel_rfl) (fun _ _ _ h => h) (Or.inl ⟨by rfl, ?_⟩) hHeld ?_
    rotate_left
    · (intro w hSw; (try dsimp only at hSw); first | (go_simp; done) | (go_simp; with_reducible rfl))
    (try simp only [List.getElem_toArray, List.getElem_cons_succ, List.getElem_cons_zero, Act.put, List.setIfInBounds_toArray, List.set_cons_zero, List.set_cons_succ])
    refine wpAnyH_ready (rs := [0, 4]) (by kernel_rfl) (by simp) ?_
    refine (AllReadyH.cons (o := _) rfl (fun K hK => ?_) (AllReadyH.cons (o := _) rfl (fun K hK => ?_) AllReadyH.nil))
    · go_simp
      refine (HAC.out _).mono ?_
      rintro e w20 ⟨rfl, hb⟩
      go_wp2_with fail
      have hN := hHeld.trans (hb.mono hHeld.size)
      clear hHeld hb
      refine hK.out _ _ hN (fun hHeld => ?_)
      clear hN hK K
      (try simp only [List.getElem_toArray, List.getElem_cons_succ, List.getElem_cons_zero, Act.put, List.setIfInBounds_toArray, List.set_cons_zero, List.set_cons_succ])
      refine wpAnyH_ready (rs := [2, 4]) (by kernel_rfl) (by simp) ?_
      refine (AllReadyH.cons (o := _) rfl (fun K hK => ?_) (AllReadyH.cons (o := _) rfl (fun K hK => ?_) AllReadyH.nil))
      · go_simp
        refine (HQD.out _).mono ?_
        rintro e w21 ⟨h, L, rfl, hq, hp, hpm⟩
        have hb : Below w20.heap.size w20 w21 := hq.be.below
        have HP := Lib.hid hp
        have HPM := Lib.hid hpm
        have HQ : Hid (QS w21 (fun k => k < W.heap.size) W.heap.size h L w21) := Lib.hid ((hq.framed (w0 := w21) (F := fun k => k < W.heap.size) (fun k e => by have h1 := hHeld.size; omega) (KF.refl _ _)).lower hHeld.size)
        clear hq hp hpm
        go_wp2_with fail
        have hN := hHeld.trans (hb.mono hHeld.size)
        clear hHeld hb
        refine hK.out _ _ hN (fun hHeld => ?_)
        clear hN hK K
        (try simp only [List.getElem_toArray, List.getElem_cons_succ, List.getElem_cons_zero, Act.put, List.setIfInBounds_toArray, List.set_cons_zero, List.set_cons_succ])
        refine wpAnyH_ready (rs := [4]) (by kernel_rfl) (by simp) ?_
        refine (AllReadyH.cons (o := _) rfl (fun K hK => ?_) AllReadyH.nil)
        go_simp
        have hHeld0 := hHeld
        refine hK.out _ _ (hHeld.alloc hHeld.size _) (fun hHeld => ?_)
        clear hK K
        obtain ⟨gac, hgac⟩ : ∃ g, w21.heap.size = g := ⟨_, rfl⟩
        have hgec : W.heap.size ≤ gac := by rw [← hgac]; exact hHeld0.size
        have HAc : Hid (Row (w21.alloc (.cells (iCells cz18) 78)) gac 78 (iCells cz18)) := row_new _ _ hgac _ _
        rw [hgac]
        have HQ := Lib.hid (HQ.out.guard (.cells (iCells cz18) 78))
        rw [hgac] at HQ
        generalize w21.alloc (.cells (iCells cz18) 78) = w22 at HQ hHeld HAc ⊢
        clear hgac hHeld0
        (try simp only [List.getElem_toArray, List.getElem_cons_succ, List.getElem_cons_zero, Act.put, List.setIfInBounds_toArray, List.set_cons_zero, List.set_cons_succ])
        refine wpAnyH_ready (rs := [5]) (by kernel_rfl) (by simp) ?_
        refine (AllReadyH.cons (o := _) rfl (fun K hK => ?_) AllReadyH.nil)
        refine wp_store_row 78 (.tmp 7) (.tmp 25) rfl gac (iCells (co18 13)) rfl rfl 78 (iCells cz18) HAc.out HSC.out HSX.out (iCells_one _) ?_
        refine hK.out _ _ (below_setRow hHeld hgec _) (fun hHeld => ?_)
        clear hK K
        have HAc := Lib.hid (Row.setRow HAc.out (iCells (co18 13)))
        have HQ := Lib.hid (HQ.out.setRowKept (g := gac) (Or.inr rfl) (iCells (co18 13)))
        generalize w22.setRow gac (iCells (co18 13)) = w23 at HQ hHeld HAc ⊢
        (try simp only [List.getElem_toArray, List.getElem_cons_succ, List.getElem_cons_zero, Act.put])
        refine wpAnyH_take (i := 6) (oi := _) (v := ?_) rfl (by kernel_rfl) (by kernel_rfl) (by kernel_rfl) (fun _ _ _ h => h) (Or.inl ⟨by rfl, ?_⟩) hHeld ?_
        rotate_left
        · (intro w hSw; (try dsimp only at hSw); first | (go_simp; done) | (go_simp; with_reducible rfl))
        (try simp only [List.getElem_toArray, List.getElem_cons_succ, List.getElem_cons_zero, Act.put, List.setIfInBounds_toArray, List.set_cons_zero, List.set_cons_succ])
        refine wpAnyH_take (i := 7) (oi := _) (v := ?_) rfl (by kernel_rfl) (by kernel_rfl) (by kernel_rfl) (fun _ _ _ h => h) (Or.inl ⟨by rfl, ?_⟩) hHeld ?_
        rotate_left
        · (intro w hSw; (try dsimp only at hSw); first | (go_simp; done) | (go_simp; with_reducible rfl))
        (try simp only [List.getElem_toArray, List.getElem_cons_succ, List.getElem_cons_zero, Act.put, List.setIfInBounds_toArray, List.set_cons_zero, List.set_cons_succ])
        refine wpAnyH_done (by kernel_rfl) ?_ _
        go_wp2_with fail
        go_meet
        case rel => exact ⟨gac, h, L, rfl, rfl, rfl, HAc.out, hgec, HQ.out, HP.out, HPM.out, hHeld⟩
      · go_simp
        have hHeld0 := hHeld
        refine hK.out _ _ (hHeld.alloc hHeld.size _) (fun hHeld => ?_)
        clear hK K
        obtain ⟨gac, hgac⟩ : ∃ g, w20.heap.size = g := ⟨_, rfl⟩
        have hgec : W.heap.size ≤ gac := by rw [← hgac]; exact hHeld0.size
        have HAc : Hid (Row (w20.alloc (.cells (iCells cz18) 78)) gac 78 (iCells cz18)) := row_new _ _ hgac _ _
        rw [hgac]
        generalize w20.alloc (.cells (iCells cz18) 78) = w24 at hHeld HAc ⊢
        clear hgac hHeld0
        (try simp only [List.getElem_toArray, List.getElem_cons_succ, List.getElem_cons_zero, Act.put, List.setIfInBounds_toArray, List.set_cons_zero, List.set_cons_succ])
        refine wpAnyH_ready (rs := [2]) (by kernel_rfl) (by simp) ?_
        refine (AllReadyH.cons (o := _) rfl (fun K hK => ?_) AllReadyH.nil)
        go_simp
        refine (HQD.out _).mono ?_
        rintro e w25 ⟨h, L, rfl, hq, hp, hpm⟩
        have hb : Below w24.heap.size w24 w25 := hq.be.below
        have HP := Lib.hid hp
        have HPM := Lib.hid hpm
        have HQ : Hid (QS w25 (fun k => k < W.heap.size ∨ k = gac) W.heap.size h L w25) := Lib.hid ((hq.framed (w0 := w25) (F := fun k => k < W.heap.size ∨ k = gac) (fun k e => by have h1 := hHeld.size; have h2 := HAc.out.lt; rcases e with e | e <;> omega) (KF.refl _ _)).lower hHeld.size)
        clear hq hp hpm
        go_wp2_with fail
        have hN := hHeld.trans (hb.mono hHeld.size)
        have HAc := Lib.hid (Row.box HAc.out hb)
        clear hHeld hb
        refine hK.out _ _ hN (fun hHeld => ?_)
        clear hN hK K
        (try simp only [List.getElem_toArray, List.getElem_cons_succ, List.getElem_cons_zero, Act.put, List.setIfInBounds_toArray, List.set_cons_zero, List.set_cons_succ])
        refine wpAnyH_ready (rs := [5]) (by kernel_rfl) (by simp) ?_
        refine (AllReadyH.cons (o := _) rfl (fun K hK => ?_) AllReadyH.nil)
        refine wp_store_row 78 (.tmp 7) (.tmp 25) rfl gac (iCells (co18 13)) rfl rfl 78 (iCells cz18) HAc.out HSC.out HSX.out (iCells_one _) ?_
        refine hK.out _ _ (below_setRow hHeld hgec _) (fun hHeld => ?_)
        clear hK K
        have HAc := Lib.hid (Row.setRow HAc.out (iCells (co18 13)))
        have HQ := Lib.hid (HQ.out.setRowKept (g := gac) (Or.inr rfl) (iCells (co18 13)))
        generalize w25.setRow gac (iCells (co18 13)) = w26 at HQ hHeld HAc ⊢
        (try simp only [List.getElem_toArray, List.getElem_cons_succ, List.getElem_cons_zero, Act.put])
        refine wpAnyH_take (i := 6) (oi := _) (v := ?_) rfl (by kernel_rfl) (by kernel_rfl) (by kernel_rfl) (fun _ _ _ h => h) (Or.inl ⟨by rfl, ?_⟩) hHeld ?_
        rotate_left
        · (intro w hSw; (try dsimp only at hSw); first | (go_simp; done) | (go_simp; with_reducible rfl))
        (try simp only [List.getElem_toArray, List.getElem_cons_succ, List.getElem_cons_zero, Act.put, List.setIfInBounds_toArray, List.set_cons_zero, List.set_cons_succ])
        refine wpAnyH_take (i := 7) (oi := _) (v := ?_) rfl (by kernel_rfl) (by kernel_rfl) (by kernel_rfl) (fun _ _ _ h => h) (Or.inl ⟨by rfl, ?_⟩) hHeld ?_
        rotate_left
        · (intro w hSw; (try dsimp only at hSw); first | (go_simp; done) | (go_simp; with_reducible rfl))
        (try simp only [List.getElem_toArray, List.getElem_cons_succ, List.getElem_cons_zero, Act.put, List.setIfInBounds_toArray, List.set_cons_zero, List.set_cons_succ])
        refine wpAnyH_done (by kernel_rfl) ?_ _
        go_wp2_with fail
        go_meet
        case rel => exact ⟨gac, h, L, rfl, rfl, rfl, HAc.out, hgec, HQ.out, HP.out, HPM.out, hHeld⟩
    · go_simp
      have hHeld0 := hHeld
      refine hK.out _ _ (hHeld.alloc hHeld.size _) (fun hHeld => ?_)
      clear hK K
      obtain ⟨gac, hgac⟩ : ∃ g, w3.heap.size = g := ⟨_, rfl⟩
      have hgec : W.heap.size ≤ gac := by rw [← hgac]; exact hHeld0.size
      have HAc : Hid (Row (w3.alloc (.cells (iCells cz18) 78)) gac 78 (iCells cz18)) := row_new _ _ hgac _ _
      rw [hgac]
      generalize w3.alloc (.cells (iCells cz18) 78) = w27 at hHeld HAc ⊢
      clear hgac hHeld0
      (try simp only [List.getElem_toArray, List.getElem_cons_succ, List.getElem_cons_zero, Act.put, List.setIfInBounds_toArray, List.set_cons_zero, List.set_cons_succ])
      refine wpAnyH_ready (rs := [0]) (by kernel_rfl) (by simp) ?_
      refine (AllReadyH.cons (o := _) rfl (fun K hK => ?_) AllReadyH.nil)
      go_simp
      refine (HAC.out _).mono ?_
      rintro e w28 ⟨rfl, hb⟩
      go_wp2_with fail
      have hN := hHeld.trans (hb.mono hHeld.size)
      have HAc := Lib.hid (Row.box HAc.out hb)
      clear hHeld hb
      refine hK.out _ _ hN (fun hHeld => ?_)
      clear hN hK K
      (try simp only [List.getElem_toArray, List.getElem_cons_succ, List.getElem_cons_zero, Act.put, List.setIfInBounds_toArray, List.set_cons_zero, List.set_cons_succ])
      refine wpAnyH_ready (rs := [2]) (by kernel_rfl) (by simp) ?_
      refine (AllReadyH.cons (o := _) rfl (fun K hK => ?_) AllReadyH.nil)
      go_simp
      refine (HQD.out _).mono ?_
      rintro e w29 ⟨h, L, rfl, hq, hp, hpm⟩
      have hb : Below w28.heap.size w28 w29 := hq.be.below
      have HP := Lib.hid hp
      have HPM := Lib.hid hpm
      have HQ : Hid (QS w29 (fun k => k < W.heap.size ∨ k = gac) W.heap.size h L w29) := Lib.hid ((hq.framed (w0 := w29) (F := fun k => k < W.heap.size ∨ k = gac) (fun k e => by have h1 := hHeld.size; have h2 := HAc.out.lt; rcases e with e | e <;> omega) (KF.refl _ _)).lower hHeld.size)
      clear hq hp hpm
      go_wp2_with fail
      have hN := hHeld.trans (hb.mono hHeld.size)
      have HAc := Lib.hid (Row.box HAc.out hb)
      clear hHeld hb
      refine hK.out _ _ hN (fun hHeld => ?_)
      clear hN hK K
      (try simp only [List.getElem_toArray, List.getElem_cons_succ, List.getElem_cons_zero, Act.put, List.setIfInBounds_toArray, List.set_cons_zero, List.set_cons_succ])
      refine wpAnyH_ready (rs := [5]) (by kernel_rfl) (by simp) ?_
      refine (AllReadyH.cons (o := _) rfl (fun K hK => ?_) AllReadyH.nil)
      refine wp_store_row 78 (.tmp 7) (.tmp 25) rfl gac (iCells (co18 13)) rfl rfl 78 (iCells cz18) HAc.out HSC.out HSX.out (iCells_one _) ?_
      refine hK.out _ _ (below_setRow hHeld hgec _) (fun hHeld => ?_)
      clear hK K
      have HAc := Lib.hid (Row.setRow HAc.out (iCells (co18 13)))
      have HQ := Lib.hid (HQ.out.setRowKept (g := gac) (Or.inr rfl) (iCells (co18 13)))
      generalize w29.setRow gac (iCells (co18 13)) = w30 at HQ hHeld HAc ⊢
      (try simp only [List.getElem_toArray, List.getElem_cons_succ, List.getElem_cons_zero, Act.put])
      refine wpAnyH_take (i := 6) (oi := _) (v := ?_) rfl (by kernel_rfl) (by kernel_rfl) (by kernel_rfl) (fun _ _ _ h => h) (Or.inl ⟨by rfl, ?_⟩) hHeld ?_
      rotate_left
      · (intro w hSw; (try dsimp only at hSw); first | (go_simp; done) | (go_simp; with_reducible rfl))
      (try simp only [List.getElem_toArray, List.getElem_cons_succ, List.getElem_cons_zero, Act.put, List.setIfInBounds_toArray, List.set_cons_zero, List.set_cons_succ])
      refine wpAnyH_take (i := 7) (oi := _) (v := ?_) rfl (by kernel_rfl) (by kernel_rfl) (by kernel_rfl) (fun _ _ _ h => h) (Or.inl ⟨by rfl, ?_⟩) hHeld ?_
      rotate_left
      · (intro w hSw; (try dsimp only at hSw); first | (go_simp; done) | (go_simp; with_reducible rfl))
      (try simp only [List.getElem_toArray, List.getElem_cons_succ, List.getElem_cons_zero, Act.put, List.setIfInBounds_toArray, List.set_cons_zero, List.set_cons_succ])
      refine wpAnyH_done (by kernel_rfl) ?_ _
      go_wp2_with fail
      go_meet
      case rel => exact ⟨gac, h, L, rfl, rfl, rfl, HAc.out, hgec, HQ.out, HP.out, HPM.out, hHeld⟩
  case rest =>
    obtain ⟨cb, h, L, rfl, rfl, rfl, hrc, hcb, hq, hp, hpm, hbw⟩ := hcut
    have HCB := Lib.hid hcb
    obtain ⟨S, hS⟩ : ∃ S, W.heap.size = S := ⟨_, rfl⟩
    have HWS := Lib.hid fun _ : Unit => hS
    rw [hS] at hcb hq hbw HBS HCB
    have HR1 := Lib.hid (HR1.out.below hbw (by have := HBS.out; omega))
    have HR2 := Lib.hid (HR2.out.below hbw (by have := HBS.out; omega))
    have HB := Lib.hid (HB.out.trans (hbw.mono (by have := HBS.out; omega)))
    have HRC := Lib.hid hrc
    have HQ := Lib.hid hq
    have HP := Lib.hid hp
    have HIN := Lib.hid ((q18_in (fun i => l.getD i 0) n).perm hpm.symm)
    have HZ8 : Hid (iCells zs8 = iCells (kl18 fun _ => 0)) := Lib.hid (by rw [kl18_zero]; rfl)
    clear HR0 hrc hcb hq hp hpm hbw hS HQD HAC hzc HSC HSX
    obtain ⟨s, hs⟩ : ∃ s : Nat → Int, (fun i => l.getD i 0) = s := ⟨_, rfl⟩
    rw [hs] at HIN
    have HSE := Lib.hid fun _ : Unit => hs
    clear hs
    go_wp2_with fail
    go_loopw [9] (fun c wr => ∃ (k : Nat → Nat) (a f : Nat) (L : List (Nat × Int × Nat)), c = .int .i64 (a : Int) ∧ a ≤ 1048576 ∧ In18 s k a L ∧ Hp lt18 (0, 0, 0) L L.length 0 ∧ (∀ b, b < 8 → k b ≤ 12) ∧ gvn s k a f = gvn s (fun _ => 0) n 97 ∧ 97 ≤ f + sum8 k ∧ QS wr (fun k => k < S ∨ k = cb) S h L wr ∧ Row wr cb 78 (iCells (co18 13)) ∧ Row wr (n0 + 1 + 1) 24 (iCells (kl18 k)) ∧ Row wr (n0 + 1) 24 (iCells zs8) ∧ Below n0 w wr) (fun _ wr => mz18 h (n0 + 1 + 1) wr)
    case atStart => exact ⟨fun _ => 0, n, 97, L, rfl, HNN.out, HIN.out, HP.out, fun _ _ => Nat.zero_le _, rfl, by omega, HQ.out, HRC.out, by rw [← HZ8.out]; exact HR2.out, HR1.out, HB.out⟩
    case round =>
      clear HQ HP HIN HRC HR1 HR2 HB HZ8
      obtain ⟨k, a, f, L, rfl, ha, hin, hp, hk, hg, hf, hq, hrc, hrk, hrz, hb⟩ := hrel
      have HQ := Lib.hid hq
      have HMS := Lib.hid (mz18_is hq hrk)
      have HRC := Lib.hid hrc
      have HRK := Lib.hid hrk
      have HRZ := Lib.hid hrz
      have HB := Lib.hid hb
      have HA := Lib.hid ha
      have HG := Lib.hid hg
      have HF := Lib.hid hf
      have HK := Lib.hid hk
      have HP := Lib.hid hp
      have HIN := Lib.hid hin
      obtain ⟨v, hrv, hov, _⟩ := hq.v
      have hv : ∃ aa cap, v = .slice aa L.length cap := by
        rcases hov.2 with ⟨rfl, h0⟩ | ⟨g2, cap2, cur2, rfl, _⟩
        · exact ⟨none, 0, by rw [h0]⟩
        · exact ⟨_, _, rfl⟩
      obtain ⟨aa, cap, rfl⟩ := hv
      have HLEN := Lib.hid (tlen_any h L.length aa cap wr hrv)
      clear hrv hov hq hrc hrk hrz hb ha hg hf hk hp hin
      rcases Nat.eq_zero_or_pos L.length with h0 | h0
      · obtain rfl := List.length_eq_zero_iff.1 h0
        have HFIN : Hid (iCells (kl18 (giv (fun b => l.getD b 0) n)) = iCells (kl18 k)) := Lib.hid (by
          have e : giv s n = k := by
            show (gvn s (fun _ => 0) n 97).1 = k
            rw [← HG.out, HIN.out.none f]
          rw [HSE.out (), e])
        have HSK := Lib.hid (i8_size (kl18 k) (kl18_len k))
        have HSX8 := Lib.hid (sds_same zs8 (kl18 k) zs8_length (kl18_len k))
        clear h0
        go_wp2_with fail
        refine HLEN.out.mono ?_
        rintro e w3 ⟨rfl, rfl⟩
        go_wp2_with (first
          | (refine wpList_load_row rfl 24 (.tmp 6) rfl (n0 + 1 + 1) rfl 24 (iCells (kl18 k)) (0, 0) _ HRK.out Tryz.underlying24 rfl HSK.out ?_)
          | (refine wpList_store_row rfl 24 (.tmp 4) (.tmp 60) rfl (n0 + 1) (iCells (kl18 k)) rfl rfl 24 (iCells zs8) HRZ.out HSK.out HSX8.out (iCells_one _) ?_)
          | (refine bodyPost_ret (v := .tuple #[.agg (iCells (kl18 k)), .int .i64 0]) (results_row_tmp Tryz.results15 _ _ (n0 + 1) 24 (iCells (kl18 k)) (0, 0) _ rfl (Row.setRow HRZ.out _) Tryz.underlying24 rfl HSK.out) rfl ⟨?_, ?_⟩))
        · rw [HFIN.out]
        · rw [HN0.out ()]
          exact below_setRow (g := n0 + 1) HB.out (by omega) _
      · obtain ⟨m, hm⟩ : ∃ m, L.length = m + 1 := ⟨L.length - 1, by omega⟩
        have HTK := Lib.hid (ttake_any (0, 0, 0) L m wr HQ.out hm HP.out)
        unfold TkP at HTK
        have HM := Lib.hid hm
        have HLN : Hid (m < 1000) := Lib.hid (by have := HQ.out.ln; omega)
        have hgt : decide ((0 : Int) < (L.length : Int)) = true := decide_eq_true (by omega)
        have hgt2 : (0 : Int) < (L.length : Int) := by omega
        have hx0 := HQ.out.bd _ (getD_mem13 L (0, 0, 0) 0 h0)
        have hi0 := HIN.out.is _ (getD_mem13 L (0, 0, 0) 0 h0)
        have HNX := Lib.hid fun hc => HIN.out.next (0, 0, 0) h0 HP.out hc
        clear hm h0
        obtain ⟨⟨b, sb, kb⟩, hpx⟩ : ∃ x, L.getD 0 (0, 0, 0) = x := ⟨_, rfl⟩
        rw [hpx] at HTK hx0 hi0 HNX
        have HPX := Lib.hid fun _ : Unit => hpx
        have HX0 := Lib.hid hx0
        have HI0 := Lib.hid hi0
        clear hpx hx0 hi0
        have htz := taker_zero
        go_wp2_with fail
        refine HLEN.out.mono ?_
        rintro e w3 ⟨rfl, rfl⟩
        clear HLEN
        go_wp2_with fail
        refine HTK.out.mono ?_
        rintro e w5 ⟨R, rfl, hq5, hl5, hp5, hm5⟩
        unfold tA
        simp only
        have HBK : Hid (KF (fun k => k < S ∨ k = cb) w3 w5) := Lib.hid hq5.be
        have HRC := Lib.hid (HBK.out.row (Or.inr rfl) HRC.out)
        have HRK := Lib.hid (HBK.out.row (Or.inl (by have := HBS.out; omega)) HRK.out)
        have HRZ := Lib.hid (HBK.out.row (Or.inl (by have := HBS.out; omega)) HRZ.out)
        have HB := Lib.hid (HB.out.trans (HBK.out.to (B := n0) (fun k hk => Or.inl (by have := HBS.out; omega))))
        have HQ5 := Lib.hid hq5.again
        have HL5 := Lib.hid hl5
        have HP5 := Lib.hid hp5
        have HM5 := Lib.hid hm5
        clear hq5 hl5 hp5 hm5 HTK HBK
        go_upto_region 7 with fail
        have HNW : Hid (Row (w5.alloc (.cells #[.int .i64 (b : Int), .int .i64 sb, .int .i64 (kb : Int)] 84)) w5.heap.size 84 #[.int .i64 (b : Int), .int .i64 sb, .int .i64 (kb : Int)]) := Lib.hid (heap_alloc_new _ _)
        have HQ6 := Lib.hid (HQ5.out.guard (.cells #[.int .i64 (b : Int), .int .i64 sb, .int .i64 (kb : Int)] 84))
        have HRC := Lib.hid (HRC.out.alloc (.cells #[.int .i64 (b : Int), .int .i64 sb, .int .i64 (kb : Int)] 84))
        have HRK := Lib.hid (HRK.out.alloc (.cells #[.int .i64 (b : Int), .int .i64 sb, .int .i64 (kb : Int)] 84))
        have HRZ := Lib.hid (HRZ.out.alloc (.cells #[.int .i64 (b : Int), .int .i64 sb, .int .i64 (kb : Int)] 84))
        have HNXB : Hid (n0 + 2 < w5.heap.size ∧ S ≤ w5.heap.size ∧ cb < w5.heap.size) := Lib.hid (by
          have h1 := HQ5.out.fl cb (Or.inr rfl)
          have h2 := HBS.out
          have h3 := HCB.out
          omega)
        have HB := Lib.hid (HB.out.alloc (by have := HNXB.out; omega) (.cells #[.int .i64 (b : Int), .int .i64 sb, .int .i64 (kb : Int)] 84))
        clear HQ5 HQ
        generalize w5.alloc (.cells #[.int .i64 (b : Int), .int .i64 sb, .int .i64 (kb : Int)] 84) = w6 at *
        obtain ⟨nx, hnx⟩ : ∃ nx, w5.heap.size = nx := ⟨_, rfl⟩
        rw [hnx] at HNW HNXB HQ6 ⊢
        clear hnx htz
        have hkb : kb ≤ 12 := by have h1 := HI0.out; have h2 := HK.out b h1.1; omega
        have HMO := Lib.hid fun w hr => more_any cb kb a w hr hkb
        have HKB := Lib.hid hkb
        have c2 : w6.cell? ⟨nx, 2, none⟩ = some (.int .i64 (kb : Int)) := cell_of_row _ _ 2 _ _ _ HNW.out
        clear hkb
        go_wp2_with fail
        refine (HMO.out _ HRC.out).mono ?_
        rintro e w7 ⟨rfl, hb7⟩
        have HQ7 := Lib.hid (HQ6.out.below hb7).again
        have HRC := Lib.hid (HRC.out.box hb7)
        have HRK := Lib.hid (HRK.out.box hb7)
        have HRZ := Lib.hid (HRZ.out.box hb7)
        have HNW := Lib.hid (HNW.out.box hb7)
        have HB := Lib.hid (HB.out.trans (hb7.mono (by have h1 := HQ6.out.fl nx (Or.inr rfl); have := HNXB.out; omega)))
        clear HMO c2 hb7 HQ6
        obtain ⟨PR, hPR⟩ : ∃ PR, pr18 kb = PR := ⟨_, rfl⟩
        obtain ⟨MO, hMO⟩ : ∃ MO, mo18 kb a = MO := ⟨_, rfl⟩
        rw [hPR, hMO]
        have HCG : Hid (cang k a b = MO) := Lib.hid (by rw [mo18_cang, ← HI0.out.2.2, hMO])
        have HPR := Lib.hid fun _ : Unit => hPR
        have HMO := Lib.hid fun _ : Unit => hMO
        clear hPR hMO
        cases MO
        · go_wp2_with fail
          go_roundw
          case rel =>
            have hin := (HIN.out.perm HM5.out).out HCG.out
            exact ⟨k, a, f, R, rfl, HA.out, hin, HP5.out, HK.out, HG.out, HF.out, HQ7.out.framed (w0 := w7) (fun k e => Or.inl e) (KF.refl _ _), HRC.out, HRK.out, HRZ.out, HB.out⟩
          case measure =>
            rw [mz18_is HQ7.out HRK.out, HMS.out, HL5.out, HM.out]
            omega
        · have hmo := HMO.out ()
          unfold mo18 at hmo
          rw [Bool.and_eq_true, decide_eq_true_iff, decide_eq_true_iff] at hmo
          have hpr := HPR.out ()
          rw [pr18, if_pos hmo.1] at hpr
          rw [hpr] at hmo
          have HI2 : Hid (inc (k b) = PR) := Lib.hid (by rw [← HI0.out.2.2]; exact hpr)
          have HKB2 := Lib.hid hmo.1
          have ha0 := HA.out
          obtain ⟨a2, ha2⟩ : ∃ a2, a - PR = a2 := ⟨_, rfl⟩
          have e1 : wrap64 ((a : Int) - (PR : Int)) = (a2 : Int) := by rw [wrap64]; omega
          have HA2 := Lib.hid fun _ : Unit => ha2
          have HPA := Lib.hid hmo.2
          clear hmo hpr ha0 ha2
          have c2 : w7.cell? ⟨nx, 2, none⟩ = some (.int .i64 (kb : Int)) := cell_of_row _ _ 2 _ _ _ HNW.out
          have f2 := HNW.out.free 2
          obtain ⟨k1, hk1⟩ : ∃ k1, kb + 1 = k1 := ⟨_, rfl⟩
          have e2 : wrap64 (k1 : Int) = (k1 : Int) := by have := HKB2.out; rw [wrap64]; omega
          have e3 : (kb : Int) + 1 = (k1 : Int) := by omega
          have HK1 := Lib.hid fun _ : Unit => hk1
          clear hk1
          go_upto_region 11 with fail
          have HQ8 := Lib.hid (HQ7.out.setKept (p := ⟨nx, 2, none⟩) (Or.inr rfl) (.int .i64 (k1 : Int)))
          have hne := HNXB.out
          have HRC := Lib.hid (HRC.out.far (p := ⟨nx, 2, none⟩) (by simp only; omega) (.int .i64 (k1 : Int)))
          have HRK := Lib.hid (HRK.out.far (p := ⟨nx, 2, none⟩) (by simp only; omega) (.int .i64 (k1 : Int)))
          have HRZ := Lib.hid (HRZ.out.far (p := ⟨nx, 2, none⟩) (by simp only; omega) (.int .i64 (k1 : Int)))
          have HNW : Hid (Row (w7.setCell ⟨nx, 2, none⟩ (.int .i64 (k1 : Int))) nx 84 #[.int .i64 (b : Int), .int .i64 sb, .int .i64 (k1 : Int)]) := Lib.hid (HNW.out.set 2 _)
          have HB := Lib.hid (Below.setCell HB.out (p := ⟨nx, 2, none⟩) (by simp only; omega) (.int .i64 (k1 : Int)))
          clear HQ7 c2 f2 hne
          generalize w7.setCell ⟨nx, 2, none⟩ (.int .i64 (k1 : Int)) = w8 at *
          have d0 : w8.cell? ⟨nx, 0, none⟩ = some (.int .i64 (b : Int)) := cell_of_row _ _ 0 _ _ _ HNW.out
          have d2 : w8.cell? ⟨nx, 2, none⟩ = some (.int .i64 (k1 : Int)) := cell_of_row _ _ 2 _ _ _ HNW.out
          have hb8 := HI0.out.1
          have hbI : (b : Int) < 8 := by omega
          have dk := i_at HRK.out b (by rw [kl18_len]; exact hb8)
          have df := HRK.out.free b
          go_upto_region 12 with fail
          have HQ9 := Lib.hid (HQ8.out.setKept (p := ⟨n0 + 1 + 1, b, none⟩) (Or.inl (Or.inl (by have := HBS.out; simp only; omega))) (.int .i64 (k1 : Int)))
          have hne := HNXB.out
          have hne2 := HBS.out
          have hne3 := HCB.out
          have HRC := Lib.hid (HRC.out.far (p := ⟨n0 + 1 + 1, b, none⟩) (by simp only; omega) (.int .i64 (k1 : Int)))
          have HRK : Hid (Row (w8.setCell ⟨n0 + 1 + 1, b, none⟩ (.int .i64 (k1 : Int))) (n0 + 1 + 1) 24 (iCells (kl18 (mor k b)))) := Lib.hid (by
            rw [← kl18_put, ← HI0.out.2.2, HK1.out ()]
            exact HRK.out.set b _)
          have HRZ := Lib.hid (HRZ.out.far (p := ⟨n0 + 1 + 1, b, none⟩) (by simp only; omega) (.int .i64 (k1 : Int)))
          have HNW := Lib.hid (HNW.out.far (p := ⟨n0 + 1 + 1, b, none⟩) (by simp only; omega) (.int .i64 (k1 : Int)))
          have HB := Lib.hid (Below.setCell HB.out (p := ⟨n0 + 1 + 1, b, none⟩) (by simp only; omega) (.int .i64 (k1 : Int)))
          clear HQ8 d0 d2 dk df hne hne2 hne3 hb8 hbI
          generalize w8.setCell ⟨n0 + 1 + 1, b, none⟩ (.int .i64 (k1 : Int)) = w9 at *
          have d0 : w9.cell? ⟨nx, 0, none⟩ = some (.int .i64 (b : Int)) := cell_of_row _ _ 0 _ _ _ HNW.out
          have d1 : w9.cell? ⟨nx, 1, none⟩ = some (.int .i64 sb) := cell_of_row _ _ 1 _ _ _ HNW.out
          have d2 : w9.cell? ⟨nx, 2, none⟩ = some (.int .i64 (k1 : Int)) := cell_of_row _ _ 2 _ _ _ HNW.out
          have HPU := Lib.hid (thpush_any (0, 0, 0) R (b, sb, k1) w9 HQ9.out (by rw [HL5.out]; exact HLN.out) ⟨HX0.out.1, HX0.out.2.1, by have h1 := HK1.out (); have h2 := HKB2.out; simp only; omega⟩ HP5.out)
          unfold PsP tA at HPU
          simp only at HPU
          go_wp2_with fail
          refine HPU.out.mono ?_
          rintro e w10 ⟨R9, rfl, hq9, hp9, hm9⟩
          have HQ10 := Lib.hid hq9
          have HP10 := Lib.hid hp9
          have HM10 := Lib.hid hm9
          clear hq9 hp9 hm9 HPU d0 d1 d2
          have HRC := Lib.hid (HQ10.out.be.row (Or.inl (Or.inr rfl)) HRC.out)
          have HRK := Lib.hid (HQ10.out.be.row (Or.inl (Or.inl (by have := HBS.out; omega))) HRK.out)
          have HRZ := Lib.hid (HQ10.out.be.row (Or.inl (Or.inl (by have := HBS.out; omega))) HRZ.out)
          have HB := Lib.hid (HB.out.trans (HQ10.out.be.to (B := n0) (fun k hk => Or.inl (Or.inl (by have := HBS.out; omega)))))
          go_wp2_with fail
          obtain ⟨f', hf'⟩ : ∃ f', f = f' + 1 := ⟨f - 1, by
            have h1 := HF.out
            have h2 := sum8_le k HK.out
            omega⟩
          go_roundw
          case rel =>
            have hin := (HIN.out.perm HM5.out).more (l' := a2) (by have := HA2.out (); omega)
            simp only [HK1.out ()] at hin
            refine ⟨mor k b, a2, f', R9, rfl, by have := HA2.out (); have := HA.out; omega, hin.perm HM10.out.symm, HP10.out, mor_few k b HK.out (by rw [← HI0.out.2.2]; exact HKB2.out), ?_, ?_, HQ10.out.again.framed (w0 := w10) (fun k e => Or.inl e) (KF.refl _ _), HRC.out, HRK.out, HRZ.out, HB.out⟩
            · have h1 := gvn_one s k a f' b (HNX.out HCG.out)
              rw [HI2.out, HA2.out ()] at h1
              rw [← h1, ← hf']
              exact HG.out
            · rw [sum8_more k b HI0.out.1]
              have := HF.out
              omega
          case measure =>
            have h1 := sum8_le (mor k b) (mor_few k b HK.out (by rw [← HI0.out.2.2]; exact HKB2.out))
            rw [mz18_is HQ10.out HRK.out, HMS.out, HM.out, HM10.out.length_eq, List.length_append, HL5.out]
            rw [sum8_more k b HI0.out.1] at h1 ⊢
            simp only [List.length_singleton]
            omega
set_option maxRecDepth 100000 in
theorem pulOk (HV : BvOk) : PulOk := by
  intro l n w hl
  cases hR : rt17 l
  · obtain ⟨p1, p2⟩ := pul_no1 l n hR
    rw [p1, p2]
    exact pulses_bad1 l n w hl hR
  · by_cases h1 : n < 0
    · obtain ⟨p1, p2⟩ := pul_no2 l n (Or.inl h1)
      rw [p1, p2]
      exact pulses_bad2 l n w hl hR h1
    · by_cases h2 : n > 1048576
      · obtain ⟨p1, p2⟩ := pul_no2 l n (Or.inr h2)
        rw [p1, p2]
        exact pulses_bad3 l n w hl hR h2
      · obtain ⟨m, rfl⟩ : ∃ m : Nat, n = m := ⟨n.toNat, by omega⟩
        have hok : ok18 l (m : Int) := ⟨hR, by omega, by omega⟩
        have e1 : puI l (m : Int) = kl18 (giv (fun b => l.getD b 0) m) := by rw [puI, if_pos hok, Int.toNat_natCast]
        have e2 : puE l (m : Int) = 0 := if_pos hok
        rw [e1, e2]
        exact pulses_good HV l m w hl hR (by omega)
end Go.Proofs.YtalbcimnnihmnaaGreat
