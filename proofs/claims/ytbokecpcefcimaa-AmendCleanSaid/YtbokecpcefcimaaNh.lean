/-
  The contracts of layer 6's Count, within, Near, proper. Conditions: words have 127 bits; a slice of numbers lies where it can be read.
-/
import Derived.Test.YtbokecpcefcimaaNg
namespace Go.Proofs.Ytbokecpcefcimaa
open Go.RowKit
open M

/-- A whole array is read in a guarded operation whose turn it is. -/
theorem wpList_load_guard {P : Program} {ops : Array Oper} {rest : List Oper} {o : Oper} {a : Act} {w : World} {Q : Exit → Act → World → Prop} (hw : Region.wanted o (yielded ops a.tmps) = true) (ty : TypeId) (x : Operand) (ho : o.op = .load ty x)
    (g : Nat) (hx : a.eval x = .pointer (some ⟨g, 0, none⟩)) (t : TypeId) (cs : Array Value) (fr : Nat × Nat) (d : TypeDesc) (hg : w.heap[g]? = some (.cells cs t fr))
    (hu : P.underlying ty = some d) (hd : (match d with | .struct _ | .array _ _ => true | _ => false) = true) (hi : (P.info? ty).map (·.size) = some cs.size)
    (h : wpList P ops Q rest (a.put o.dst (.agg cs)) w) : wpList P ops Q (o :: rest) a w := by
  unfold wpList
  rw [if_pos hw]
  exact Or.inl (wp_load_row ty x ho g hx t cs fr d hg hu hd hi h)
theorem wx_w0 : ∀ (h : List Bool) (n : Nat), n = h.length → wx h (List.replicate n false) = h
  | [], n, e => by subst e; rfl
  | b :: h, n, e => by
    subst e
    rw [List.length_cons, List.replicate_succ]
    show (b != false) :: wx h (List.replicate h.length false) = b :: h
    rw [wx_w0 h _ rfl]
    cases b <;> rfl
/-- How many holes. -/
theorem dst_w0 (h : List Bool) (hl : h.length = 127) : dst h w0 = h.count true := by
  unfold dst w0
  rw [wx_w0 h 127 hl.symm]
theorem count_take (h : List Bool) (j : Nat) (hj : j < h.length) : (h.take (j + 1)).count true = (h.take j).count true + if h.getD j false = true then 1 else 0 := by
  rw [List.take_succ_eq_append_getElem hj, List.count_append, List.getD_eq_getElem?_getD, List.getElem?_eq_getElem hj]
  cases h[j] <;> rfl
/-- The distance with holes by the words that have their holes filled. -/
theorem far_fill (l h c : List Bool) (hh : h.length = 127) (j : Nat) (hj : j ≤ 127) :
    2 * dstN (M.fill l h false) (M.fill c h false) j + (h.take j).count true = farN l h c j := by
  induction j with
  | zero => simp [dstN, farN]
  | succ j ih =>
    have ih := ih (by omega)
    rw [dstN_succ _ _ j (by rw [fill_length, fill_length]) (by rw [fill_length]; omega), fill_getD _ _ _ _ (by omega), fill_getD _ _ _ _ (by omega), count_take h j (by omega)]
    simp only [farN]
    generalize dstN (M.fill l h false) (M.fill c h false) j = n at *
    generalize (h.take j).count true = m at *
    generalize farN l h c j = p at *
    generalize c.getD j false = x
    generalize l.getD j false = z
    generalize h.getD j false = t
    unfold far1
    cases x <;> cases z <;> cases t <;> simp <;> omega
theorem far_all (l h c : List Bool) (hh : h.length = 127) : 2 * dst (M.fill l h false) (M.fill c h false) + h.count true = farN l h c 127 := by
  have h1 := far_fill l h c hh 127 (by omega)
  have e1 : dstN (M.fill l h false) (M.fill c h false) 127 = dst (M.fill l h false) (M.fill c h false) := by
    have := dstN_all (M.fill l h false) (M.fill c h false) (by rw [fill_length, fill_length]); rwa [fill_length] at this
  rw [e1, show (127 : Nat) = h.length from hh.symm, List.take_length, hh] at h1
  exact h1
theorem count_le (h : List Bool) : h.count true ≤ h.length := List.count_le_length

set_option maxRecDepth 100000 in
set_option maxHeartbeats 1000000 in
theorem count_any (h : List Bool) (w : World) (hh : h.length = 127) :
    Calls Try.prog 15 #[.agg (boolCells h)] w fun e w' => e = .returned (.int .i64 (h.count true : Nat)) ∧ Below w.heap.size w w' := by
  have hz := word_zero
  have HR : Hid (Row (w.alloc (.cells (boolCells h) 32)) w.heap.size 32 (boolCells h)) := heap_alloc_new _ _
  have HB : Hid (Below w.heap.size w (w.alloc (.cells (boolCells h) 32))) := (Below.refl _ _).alloc (Nat.le_refl _) _
  have HS := Lib.hid fun _ : Unit => word_size h hh
  have HD := Lib.hid (dst_w0 h hh)
  have HL := Lib.hid hh
  clear hh
  go_enter Try.func15, Try.ntmps15
  go_wp2_with (first
    | (refine wpList_load_row rfl 32 (.tmp 1) rfl w.heap.size rfl 32 (boolCells h) (0, 0) _ HR.out Try.underlying32 rfl (HS.out ()) ?_))
  clear hz
  refine (distance_any h w0 _ HL.out w0_length).mono ?_
  rintro e w5 ⟨rfl, hb⟩
  have HB5 := Lib.hid (HB.out.trans (hb.mono HB.out.size))
  clear hb
  rw [HD.out]
  go_wp2
  go_ret
  exact ⟨rfl, HB5.out⟩

set_option maxRecDepth 100000 in
set_option maxHeartbeats 2000000 in
theorem within_any (l h c : List Bool) (w : World) (hl : l.length = 127) (hh : h.length = 127) (hc : c.length = 127) :
    Calls Try.prog 23 #[.agg (boolCells l), .agg (boolCells h), .agg (boolCells c)] w fun e w' => e = .returned (.bool (decide (farN l h c 127 ≤ 20))) ∧ Below w.heap.size w w' := by
  have r0 : Row (((w.alloc (.cells (boolCells l) 32)).alloc (.cells (boolCells h) 32)).alloc (.cells (boolCells c) 32)) w.heap.size 32 (boolCells l) := ((row_new w _ rfl _ _).alloc _).alloc _
  have r1 : Row (((w.alloc (.cells (boolCells l) 32)).alloc (.cells (boolCells h) 32)).alloc (.cells (boolCells c) 32)) (w.heap.size + 1) 32 (boolCells h) := (row_new _ _ (by simp) _ _).alloc _
  have r2 : Row (((w.alloc (.cells (boolCells l) 32)).alloc (.cells (boolCells h) 32)).alloc (.cells (boolCells c) 32)) (w.heap.size + 1 + 1) 32 (boolCells c) := row_new _ _ (by simp) _ _
  have HB0 : Hid (Below w.heap.size w (((w.alloc (.cells (boolCells l) 32)).alloc (.cells (boolCells h) 32)).alloc (.cells (boolCells c) 32))) := (((Below.refl _ _).alloc (Nat.le_refl _) _).alloc (by simp) _).alloc (by simp; omega) _
  have HR0 := Lib.hid r0
  have HR1 := Lib.hid r1
  have HR2 := Lib.hid r2
  have HS0 := Lib.hid fun _ : Unit => word_size l hl
  have HS1 := Lib.hid fun _ : Unit => word_size h hh
  have HS2 := Lib.hid fun _ : Unit => word_size c hc
  have HF := Lib.hid (far_all l h c hh)
  have hFA := fun W => fill_any l h false W hl hh
  have hFC := fun W => fill_any c h false W hc hh
  obtain ⟨fl, hfl⟩ : ∃ x, M.fill l h false = x := ⟨_, rfl⟩
  obtain ⟨fc, hfc⟩ : ∃ x, M.fill c h false = x := ⟨_, rfl⟩
  have k1 : fl.length = 127 := by rw [← hfl]; exact fill_length _ _ _
  have k2 : fc.length = 127 := by rw [← hfc]; exact fill_length _ _ _
  rw [hfl] at hFA HF
  rw [hfc] at hFC HF
  have hDA := fun W => distance_any fl fc W k1 k2
  have hCA := fun W => count_any h W hh
  obtain ⟨dd, hd⟩ : ∃ d, dst fl fc = d := ⟨_, rfl⟩
  have hdl : dd ≤ 127 := by
    rw [← hd]
    have := count_le (wx fl fc)
    rw [wx_length _ _ (by omega), k1] at this
    exact this
  obtain ⟨n, hn⟩ : ∃ n, h.count true = n := ⟨_, rfl⟩
  have hnl : n ≤ 127 := by rw [← hn, ← hh]; exact count_le h
  rw [hd] at hDA HF
  rw [hn] at hCA HF
  obtain ⟨z, hze⟩ : ∃ z, farN l h c 127 = z := ⟨_, rfl⟩
  rw [hze] at HF ⊢
  have HFA := Lib.hid hFA
  have HFC := Lib.hid hFC
  have HDA := Lib.hid hDA
  have HCA := Lib.hid hCA
  clear r0 r1 r2 hl hh hc hFA hFC hDA hCA hfl hfc k1 k2 hd hn hze
  go_enter Try.func23, Try.ntmps23
  go_wp2_with fail
  generalize ((w.alloc (.cells (boolCells l) 32)).alloc (.cells (boolCells h) 32)).alloc (.cells (boolCells c) 32) = wr at *
  have HC0 : Hid (∀ W : World, (∃ p : Regrown, W = Sort.grow (redrawn wr p.d) p.os) → W.heap[w.heap.size]? = some (.cells (boolCells l) 32 (0, 0))) := by
    rintro W ⟨p, rfl⟩
    exact HR0.out.below (below_regrown wr p.d p.os) HR0.out.lt
  have HC1 : Hid (∀ W : World, (∃ p : Regrown, W = Sort.grow (redrawn wr p.d) p.os) → W.heap[(w.heap.size + 1)]? = some (.cells (boolCells h) 32 (0, 0))) := by
    rintro W ⟨p, rfl⟩
    exact HR1.out.below (below_regrown wr p.d p.os) HR1.out.lt
  have HC2 : Hid (∀ W : World, (∃ p : Regrown, W = Sort.grow (redrawn wr p.d) p.os) → W.heap[(w.heap.size + 1 + 1)]? = some (.cells (boolCells c) 32 (0, 0))) := by
    rintro W ⟨p, rfl⟩
    exact HR2.out.below (below_regrown wr p.d p.os) HR2.out.lt
  have KFA : Hid (∀ d os, Calls Try.prog 21 #[.agg (boolCells l), .agg (boolCells h), .bool false] (Sort.grow (redrawn wr d) os) fun e w'' => e = .returned (.agg (boolCells fl)) ∧ ∃ p : Regrown, w'' = Sort.grow (redrawn wr p.d) p.os) :=
    fun d os => Calls.regrown_of (HFA.out _)
  have KFC : Hid (∀ d os, Calls Try.prog 21 #[.agg (boolCells c), .agg (boolCells h), .bool false] (Sort.grow (redrawn wr d) os) fun e w'' => e = .returned (.agg (boolCells fc)) ∧ ∃ p : Regrown, w'' = Sort.grow (redrawn wr p.d) p.os) :=
    fun d os => Calls.regrown_of (HFC.out _)
  have KD : Hid (∀ d os, Calls Try.prog 25 #[.agg (boolCells fl), .agg (boolCells fc)] (Sort.grow (redrawn wr d) os) fun e w'' => e = .returned (.int .i64 (dd : Nat)) ∧ ∃ p : Regrown, w'' = Sort.grow (redrawn wr p.d) p.os) :=
    fun d os => Calls.regrown_of (HDA.out _)
  refine wp_region_quiet_below (by kernel_rfl) (by kernel_rfl) ?_
  refine BigFrame.wpQuiet_want (by rfl) (fun K hK => ?_)
  refine quiet_load_row 32 (.tmp 3) rfl w.heap.size rfl 32 (boolCells l) (0, 0) _ HC0.out Try.underlying32 rfl (HS0.out ()) ?_
  refine hK _ ?_
  clear hK K
  simp only [Act.put, List.setIfInBounds_toArray, List.set_cons_zero, List.set_cons_succ]
  refine BigFrame.wpQuiet_want (by rfl) (fun K hK => ?_)
  refine quiet_load_row 32 (.tmp 4) rfl (w.heap.size + 1) rfl 32 (boolCells h) (0, 0) _ HC1.out Try.underlying32 rfl (HS1.out ()) ?_
  refine hK _ ?_
  clear hK K
  simp only [Act.put, List.setIfInBounds_toArray, List.set_cons_zero, List.set_cons_succ]
  quiet_step (first | (go_at_call 21; exact KFA.out _ _))
  refine BigFrame.wpQuiet_want (by rfl) (fun K hK => ?_)
  refine quiet_load_row 32 (.tmp 5) rfl (w.heap.size + 1 + 1) rfl 32 (boolCells c) (0, 0) _ HC2.out Try.underlying32 rfl (HS2.out ()) ?_
  refine hK _ ?_
  clear hK K
  simp only [Act.put, List.setIfInBounds_toArray, List.set_cons_zero, List.set_cons_succ]
  refine BigFrame.wpQuiet_want (by rfl) (fun K hK => ?_)
  refine quiet_load_row 32 (.tmp 4) rfl (w.heap.size + 1) rfl 32 (boolCells h) (0, 0) _ HC1.out Try.underlying32 rfl (HS1.out ()) ?_
  refine hK _ ?_
  clear hK K
  simp only [Act.put, List.setIfInBounds_toArray, List.set_cons_zero, List.set_cons_succ]
  quiet_step (first | (go_at_call 21; exact KFC.out _ _))
  quiet_step (first | (go_at_call 25; exact KD.out _ _))
  repeat (quiet_step (fail))
  refine wpQuiet_nil ?_
  intro _ hw'
  obtain ⟨⟨dq, osq⟩, hw''⟩ := hw'
  subst hw''
  have HBQ := Lib.hid (HB0.out.trans ((below_regrown wr dq osq).mono HB0.out.size))
  have HR1Q := Lib.hid (HR1.out.below (below_regrown wr dq osq) HR1.out.lt)
  clear HC0 HC1 HC2 KFA KFC KD HR0 HR1 HR2 HB0
  generalize Sort.grow (redrawn wr dq) osq = wq at *
  go_wp2_with (first
    | (refine wpList_load_row rfl 32 (.tmp 4) rfl (w.heap.size + 1) rfl 32 (boolCells h) (0, 0) _ HR1Q.out Try.underlying32 rfl (HS1.out ()) ?_))
  refine (HCA.out _).mono ?_
  rintro e w5 ⟨rfl, hb⟩
  have HB5 := Lib.hid (HBQ.out.trans (hb.mono HBQ.out.size))
  clear hb
  have HX : Hid (decide (2 * (dd : Int) + (n : Int) ≤ 20) = decide (z ≤ 20)) := by
    have := HF.out
    unfold Hid
    rw [decide_eq_decide]
    omega
  go_wp2
  go_ret
  exact ⟨by rw [HX.out]; rfl, HB5.out⟩

set_option maxRecDepth 100000 in
set_option maxHeartbeats 2000000 in
theorem near_any (l h c : List Bool) (w : World) (hl : l.length = 127) (hh : h.length = 127) (hc : c.length = 127) :
    Calls Try.prog 16 #[.agg (boolCells l), .agg (boolCells h), .agg (boolCells c)] w fun e w' => e = .returned (.bool (decide (farN l h c 127 ≤ 20) && isCw c)) ∧ Below w.heap.size w w' := by
  have r0 : Row (((w.alloc (.cells (boolCells l) 32)).alloc (.cells (boolCells h) 32)).alloc (.cells (boolCells c) 32)) w.heap.size 32 (boolCells l) := ((row_new w _ rfl _ _).alloc _).alloc _
  have r1 : Row (((w.alloc (.cells (boolCells l) 32)).alloc (.cells (boolCells h) 32)).alloc (.cells (boolCells c) 32)) (w.heap.size + 1) 32 (boolCells h) := (row_new _ _ (by simp) _ _).alloc _
  have r2 : Row (((w.alloc (.cells (boolCells l) 32)).alloc (.cells (boolCells h) 32)).alloc (.cells (boolCells c) 32)) (w.heap.size + 1 + 1) 32 (boolCells c) := row_new _ _ (by simp) _ _
  have HB0 : Hid (Below w.heap.size w (((w.alloc (.cells (boolCells l) 32)).alloc (.cells (boolCells h) 32)).alloc (.cells (boolCells c) 32))) := (((Below.refl _ _).alloc (Nat.le_refl _) _).alloc (by simp) _).alloc (by simp; omega) _
  have HR0 := Lib.hid r0
  have HR1 := Lib.hid r1
  have HR2 := Lib.hid r2
  have HS0 := Lib.hid fun _ : Unit => word_size l hl
  have HS1 := Lib.hid fun _ : Unit => word_size h hh
  have HS2 := Lib.hid fun _ : Unit => word_size c hc
  have HW := Lib.hid fun W => within_any l h c W hl hh hc
  have HI := Lib.hid fun W => is_any c W hc
  clear r0 r1 r2 hl hh hc
  generalize decide (farN l h c 127 ≤ 20) = x at *
  generalize isCw c = y at *
  go_enter Try.func16, Try.ntmps16
  go_wp2_with (first
    | (refine wpList_load_row rfl 32 (.tmp 3) rfl w.heap.size rfl 32 (boolCells l) (0, 0) _ HR0.out Try.underlying32 rfl (HS0.out ()) ?_)
    | (refine wpList_load_row rfl 32 (.tmp 4) rfl (w.heap.size + 1) rfl 32 (boolCells h) (0, 0) _ HR1.out Try.underlying32 rfl (HS1.out ()) ?_)
    | (refine wpList_load_row rfl 32 (.tmp 5) rfl (w.heap.size + 1 + 1) rfl 32 (boolCells c) (0, 0) _ HR2.out Try.underlying32 rfl (HS2.out ()) ?_))
  refine (HW.out _).mono ?_
  rintro e w5 ⟨rfl, hb⟩
  have HB5 := Lib.hid (HB0.out.trans (hb.mono HB0.out.size))
  have HR5 := Lib.hid (HR2.out.box hb)
  clear hb HR0 HR1 HR2 HB0
  cases x
  · go_wp2
    go_ret
    exact ⟨rfl, HB5.out⟩
  · go_wp2_with (refine wpList_load_guard (by rfl) 32 (.tmp 5) rfl (w.heap.size + 1 + 1) rfl 32 (boolCells c) (0, 0) _ HR5.out Try.underlying32 rfl (HS2.out ()) ?_)
    refine (HI.out _).mono ?_
    rintro e w6 ⟨rfl, hb⟩
    have HB6 := Lib.hid (HB5.out.trans (hb.mono HB5.out.size))
    clear hb
    go_wp2
    go_ret
    exact ⟨rfl, HB6.out⟩

/-- Could a list be syndromes? -/
def prp (xs : List Int) : Bool := decide (xs.length = 20) && xs.all fun x => decide (0 ≤ x ∧ x < 128)
theorem prp_in (xs : List Int) : prp xs = true ↔ xs.length = 20 ∧ ∀ i, i < xs.length → 0 ≤ xs.getD i 0 ∧ xs.getD i 0 < 128 := by
  unfold prp
  rw [Bool.and_eq_true, decide_eq_true_iff, List.all_eq_true]
  constructor
  · rintro ⟨h1, h2⟩
    refine ⟨h1, fun i hi => ?_⟩
    have := h2 _ (List.getElem_mem hi)
    rw [decide_eq_true_iff] at this
    rw [List.getD_eq_getElem?_getD, List.getElem?_eq_getElem hi]
    exact this
  · rintro ⟨h1, h2⟩
    refine ⟨h1, fun x hx => ?_⟩
    obtain ⟨i, hi, rfl⟩ := List.getElem_of_mem hx
    have := h2 i hi
    rw [List.getD_eq_getElem?_getD, List.getElem?_eq_getElem hi] at this
    rw [decide_eq_true_iff]
    exact this
set_option maxRecDepth 100000 in
set_option maxHeartbeats 1000000 in
theorem proper_any (xs : List Int) (v : Value) (w : World) (h : IntsAt w v xs) :
    Calls Try.prog 29 #[v] w fun e w' => e = .returned (.bool (prp xs)) ∧ w = w' := by
  obtain ⟨a, cap, rfl, hcells⟩ := h
  have HC := Lib.hid hcells
  have HP := Lib.hid (prp_in xs)
  clear hcells
  by_cases hl : xs.length = 20
  · have HL := Lib.hid hl
    rw [hl] at HC ⊢
    have HPT : Hid ((∀ i, i < 20 → 0 ≤ xs.getD i 0 ∧ xs.getD i 0 < 128) → prp xs = true) := fun k => HP.out.2 ⟨HL.out, fun i hi => k i (by have := HL.out; omega)⟩
    have HPF : Hid (∀ i, i < 20 → ¬ (0 ≤ xs.getD i 0 ∧ xs.getD i 0 < 128) → prp xs = false) := by
      intro i hi k
      cases hb : prp xs with
      | false => rfl
      | true => exact absurd ((HP.out.1 hb).2 i (by have := HL.out; omega)) k
    clear HP hl
    go_enter Try.func29, Try.ntmps29
    go_wp2
    go_loop [10] (fun i => ∃ k : Nat, k ≤ 20 ∧ i = .int .i64 (k : Nat) ∧ ∀ i, i < k → 0 ≤ xs.getD i 0 ∧ xs.getD i 0 < 128) (fun i => 20 - (intOf i).toNat)
    case atStart => exact ⟨0, by omega, rfl, fun i hi => absurd hi (Nat.not_lt_zero _)⟩
    case round =>
      obtain ⟨k, hk, rfl, hall⟩ := hrel
      have HALL := Lib.hid hall
      clear hall
      by_cases hlt : k < 20
      · obtain ⟨b0, off, rfl, hbw, hcc⟩ := HC.out (by omega)
        have c0 := hcc k hlt
        have HBAD := Lib.hid (HPF.out k hlt)
        have HSTEP : Hid (0 ≤ xs.getD k 0 → xs.getD k 0 < 128 → ∀ i, i < k + 1 → 0 ≤ xs.getD i 0 ∧ xs.getD i 0 < 128) := by
          intro h1 h2 i hi
          rcases Nat.lt_or_ge i k with h3 | h3
          · exact HALL.out i h3
          · obtain rfl : i = k := by omega
            exact ⟨h1, h2⟩
        obtain ⟨x, hx⟩ : ∃ x, xs.getD k 0 = x := ⟨_, rfl⟩
        rw [hx] at c0 HBAD HSTEP
        clear hx hcc
        by_cases h1 : x < 0
        · go_wp2
          go_ret
          exact ⟨by rw [HBAD.out (by omega)]; rfl, rfl⟩
        · by_cases h2 : 128 ≤ x
          · go_wp2
            go_ret
            exact ⟨by rw [HBAD.out (by omega)]; rfl, rfl⟩
          · go_wp2
            go_round
            case rel => exact ⟨k + 1, by omega, by go_num, HSTEP.out (by omega) (by omega)⟩
            case measure => simp [intOf] <;> omega
      · obtain rfl : k = 20 := by omega
        have HT : Hid (prp xs = true) := HPT.out HALL.out
        go_wp2
        go_ret
        exact ⟨by rw [HT.out]; rfl, rfl⟩
  · have e0 : ((xs.length : Int) != 20) = true := by rw [bne_iff_ne]; omega
    have e0' : (xs.length != 20) = true := by rw [bne_iff_ne]; omega
    have HF : Hid (prp xs = false) := by
      unfold Hid
      cases hb : prp xs with
      | false => rfl
      | true => exact absurd (HP.out.1 hb).1 hl
    clear HP hl
    go_enter Try.func29, Try.ntmps29
    go_wp2
    go_ret
    exact ⟨by rw [HF.out]; rfl, rfl⟩
end Go.Proofs.Ytbokecpcefcimaa
