/-
  The contracts of layer 2's Frame, Num, bitsOf. Condition: the signs lie as the program's text lays them.
-/
import Derived.Test.YtppkiponpjnkkaaDoorGw
import Derived.Test.YtppkiponpjnkkaaDoorKm
namespace Go.Proofs.YtppkiponpjnkkaaDoor
open Go.RowKit
open M
attribute [local go_sem] un_add un_sub un_xor un_or un_nonneg un_beq un_bne

theorem frame_any (f : Int) (w : World) :
    Calls Tryd.prog 10 #[.int .i64 f] w fun e w' => e = .returned (.int .i64 (fr f : Nat)) ∧ w = w' := by
  have b1 : -1016 < f.tmod 1016 := by
    rcases Int.le_total 0 f with h | h
    · have := Int.tmod_nonneg 1016 h; omega
    · have h3 := Int.tmod_lt_of_pos (-f) (show (0 : Int) < 1016 by decide)
      rw [Int.neg_tmod] at h3; omega
  have b2 := Int.tmod_lt_of_pos f (show (0 : Int) < 1016 by decide)
  have he : f.tmod 1016 = f % 1016 ∨ f.tmod 1016 < 0 ∧ f.tmod 1016 + 1016 = f % 1016 := by
    rcases Int.le_total 0 f with h | h
    · exact Or.inl (Int.tmod_eq_emod_of_nonneg h)
    · have e : f.tmod 1016 = -((-f) % 1016) := by rw [← Int.tmod_eq_emod_of_nonneg (show 0 ≤ -f by omega), Int.neg_tmod, Int.neg_neg]
      omega
  have HE := Lib.hid he
  clear he
  have HF := Lib.hid (fr_int f)
  by_cases h0 : f.tmod 1016 < 0
  · go_enter Tryd.func10, Tryd.ntmps10
    go_wp2
    go_ret
    exact ⟨ret_eq (by rw [HF.out]; have := HE.out; omega), rfl⟩
  · go_enter Tryd.func10, Tryd.ntmps10
    go_wp2
    go_ret
    exact ⟨ret_eq (by rw [HF.out]; have := HE.out; omega), rfl⟩

theorem cases8 {p : Nat → Prop} (h0 : p 0) (h1 : p 1) (h2 : p 2) (h3 : p 3) (h4 : p 4) (h5 : p 5) (h6 : p 6) (h7 : p 7) (i : Nat) (hi : i < 8) : p i := by
  match i, hi with
  | 0, _ => exact h0
  | 1, _ => exact h1
  | 2, _ => exact h2
  | 3, _ => exact h3
  | 4, _ => exact h4
  | 5, _ => exact h5
  | 6, _ => exact h6
  | 7, _ => exact h7
  | n + 8, h => omega
theorem numU_set (sg : UInt8) (x : BitVec 64) (i : Nat) (hi : i < 8) : (byteCells (numU sg x i)).setIfInBounds (1 + i) (.int .u8 ((byteN x i).toNat : Int)) = byteCells (numU sg x (i + 1)) := by
  refine cases8 (p := fun i => (byteCells (numU sg x i)).setIfInBounds (1 + i) (.int .u8 ((byteN x i).toNat : Int)) = byteCells (numU sg x (i + 1))) ?_ ?_ ?_ ?_ ?_ ?_ ?_ ?_ i hi <;> rfl

/-- A conversion in a statement that draws its order and changes nothing that was there. -/
theorem quiet_conv {P : Program} {C : World → Prop} {a : Act} {o : Oper} {K : Act → Prop} (t1 t2 : TypeId) (x : Operand) (ho : o.op = .convert t1 t2 x) (v : Value)
    (hC : ∀ w, C w → (convert t1 t2 (a.eval x)).run P w = .ok v w) (hk : K (a.put o.dst v)) : o.quiet P a C K :=
  ⟨_, fun w hw => by
    unfold Oper.quietAt execOp
    simp only [ho, Sem.run_bind, Sem.run_pure, hC w hw, Result.andThen_ok]
    exact ⟨rfl, rfl⟩, hk⟩

attribute [local go_sem] byteN_wrap un_cw
set_option maxHeartbeats 1000000 in
theorem num_any (k : List UInt8) (sg : UInt8) (n : Int) (w : World) (hk : k.length = 16) (h : Signs w) :
    Calls Tryd.prog 11 #[.agg (byteCells k), .int .u8 (ub sg), .int .i64 n] w fun e w' => e = .returned (.int .u64 (un (num k sg n))) ∧ Below w.heap.size w w' := by
  have HG := Lib.hid h
  have HI := Lib.hid (key_info k hk)
  clear h
  go_enter Tryd.func11, Tryd.ntmps11
  go_wp2
  go_loopw [14] (fun i wr => ∃ j : Nat, j ≤ 8 ∧ i = .int .i64 j ∧ Row wr (w.heap.size + 1) 39 (byteCells (numU sg (cw n) j)) ∧ Row wr w.heap.size 23 (byteCells k) ∧ Below w.heap.size w wr) (fun i _ => 8 - (intOf i).toNat)
  case atStart => exact ⟨0, Nat.zero_le _, rfl, heap_alloc2_new _ _ _, heap_alloc2_old _ _ _, ((Below.refl _ _).alloc (Nat.le_refl _) _).alloc (by simp) _⟩
  case round =>
    obtain ⟨j, hj, rfl, hr, hz, hb⟩ := hrel
    have HR := Lib.hid hr
    have HZ := Lib.hid hz
    have HB := Lib.hid hb
    by_cases hlt : j < 8
    · have f0 := hr.free (1 + j)
      obtain ⟨u0, c0⟩ : ∃ u, wr.cell? ⟨w.heap.size + 1, 1 + j, none⟩ = some u := ⟨_, (cell_of_row _ _ _ _ _ _ hr).trans (byteCells_get _ (1 + j) (by rw [numU_length _ _ j hj]; omega))⟩
      clear hr hz hb
      go_wp2
      go_roundw
      case rel =>
        refine ⟨j + 1, by omega, by go_num, ?_, HZ.out.far (p := ⟨w.heap.size + 1, 1 + j, none⟩) (by simp) _, HB.out.setCell (p := ⟨w.heap.size + 1, 1 + j, none⟩) (by simp) _⟩
        rw [← numU_set sg (cw n) j hlt]
        exact HR.out.set (1 + j) _
      case measure => simp [intOf]; omega
    · obtain rfl : j = 8 := by omega
      have HGG := Lib.hid (HG.out.below hb HG.out.lt)
      clear hr hz hb
      have hC : ∀ W : World, (∃ p : Regrown, W = Sort.grow (redrawn wr p.d) p.os) → W.heap[w.heap.size]? = some (.cells (byteCells k) 23 (0, 0)) := by
        rintro W ⟨p, rfl⟩
        exact HZ.out.below (below_regrown wr p.d p.os) HZ.out.lt
      have hV : ∀ W : World, (∃ p : Regrown, W = Sort.grow (redrawn wr p.d) p.os) → (convert 41 9 (.slice (some ⟨w.heap.size + 1, 0, none⟩) 9 9)).run Tryd.prog W = .ok (.string (ofB (numText sg n))) W := by
        rintro W ⟨p, rfl⟩
        have hrow := HR.out.below (below_regrown wr p.d p.os) HR.out.lt
        exact run_conv _ (w.heap.size + 1) 0 9 9 (numText sg n) rfl fun i hi => by rw [Nat.zero_add, cell_of_row _ _ _ _ _ _ hrow]; exact byteCells_get (numText sg n) i hi
      have cS : ∀ d os, Calls Tryd.prog 21 #[.agg (byteCells k), .string (ofB (numText sg n))] (Sort.grow (redrawn wr d) os) fun e w'' => e = .returned (.int .u64 (un (num k sg n))) ∧ ∃ p : Regrown, w'' = Sort.grow (redrawn wr p.d) p.os :=
        fun d os => Calls.regrown_of (sum_any k (ofB (numText sg n)) _ hk (by rw [ofB_size, numText_length]; unfold maxLen; omega) (HGG.out.below (below_regrown wr d os) HGG.out.lt))
      have HCC := Lib.hid hC
      have HCV := Lib.hid hV
      have HCS := Lib.hid cS
      clear hC hV cS
      go_wp2_with fail
      refine wp_region_quiet_below (by kernel_rfl) (by kernel_rfl) ?_
      refine BigFrame.wpQuiet_want (by rfl) (fun K hK => ?_)
      refine quiet_load_row 23 (.tmp 3) rfl w.heap.size rfl 23 (byteCells k) (0, 0) _ HCC.out Tryd.underlying23 rfl HI.out ?_
      refine hK _ ?_
      clear hK K
      simp only [Act.put, List.setIfInBounds_toArray, List.set_cons_zero, List.set_cons_succ]
      quiet_step (fail)
      refine BigFrame.wpQuiet_want (by rfl) (fun K hK => ?_)
      refine quiet_conv 41 9 (.tmp 27) rfl _ HCV.out ?_
      refine hK _ ?_
      clear hK K
      simp only [Act.put, List.setIfInBounds_toArray, List.set_cons_zero, List.set_cons_succ]
      repeat (quiet_step (first | (go_at_call 21; exact HCS.out _ _)))
      refine wpQuiet_nil ?_
      intro _ hw'
      obtain ⟨⟨dq, osq⟩, hw''⟩ := hw'
      subst hw''
      have HBQ := Lib.hid (HB.out.trans ((below_regrown wr dq osq).mono HB.out.size))
      generalize Sort.grow (redrawn wr dq) osq = wq at *
      go_wp2
      go_ret
      exact ⟨rfl, HBQ.out⟩
end Go.Proofs.YtppkiponpjnkkaaDoor
