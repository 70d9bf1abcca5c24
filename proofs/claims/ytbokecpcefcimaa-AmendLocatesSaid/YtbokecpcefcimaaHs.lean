/-
  The contracts of layer 5's Syndromes and Is. Condition: words have 127 bits.
-/
import Derived.Test.YtbokecpcefcimaaHd
import Derived.Test.YtbokecpcefcimaaFe
namespace Go.Proofs.Ytbokecpcefcimaa
open Go.RowKit
open M

theorem exp_nat (n g : Nat) (w : World) (hn : n < 127) (h : Fd w g) :
    Calls Try.prog 37 #[.pointer (some ⟨g, 0, none⟩), .int .i64 n] w fun e w' => e = .returned (.int .i64 (E n : Nat)) ∧ Qt w w' := by
  have := exp_any (n : Int) g w ⟨by omega, by omega⟩ h
  rwa [re_nat n hn] at this
def castL (l : List Nat) : List Int := l.map fun x : Nat => (x : Int)
theorem castL_length (l : List Nat) : (castL l).length = l.length := by simp [castL]
theorem cast_el (l : List Nat) (h : Els l) : (castL l).map el = l := by
  unfold castL
  rw [List.map_map]
  conv => rhs; rw [← List.map_id l]
  apply List.map_congr_left
  intro a ha
  exact el_nat a (h a ha)
theorem row_ints {w : World} {g n cap : Nat} {l : List Nat} (h : Row w g 3 (natCells l)) (hl : l.length = n) : IntsAt w (.slice (some ⟨g, 0, none⟩) n cap) (castL l) := by
  refine ⟨_, cap, by rw [castL_length, hl], fun _ => ⟨g, 0, rfl, h.lt, fun i hi => ?_⟩⟩
  rw [castL_length] at hi
  rw [Nat.zero_add, nat_at h i hi]
  simp [castL, List.getD_eq_getElem?_getD, List.getElem?_eq_getElem hi]
theorem castL_in (l : List Nat) (h : Els l) : ∀ p ∈ castL l, inI p := by
  intro p hp
  obtain ⟨c, hc, rfl⟩ := List.mem_map.1 hp
  have := h c hc
  exact ⟨by omega, by omega⟩
/-- Eval of a word's polynomial at an element. -/
theorem eval_word (l : List Bool) (x g m : Nat) (w : World) (cap : Nat) (hx : x < 128) (hl : l.length = 127) (h : Row w m 3 (natCells (wp l))) (hf : Fd w g) :
    Calls Try.prog 36 #[.pointer (some ⟨g, 0, none⟩), .slice (some ⟨m, 0, none⟩) 127 cap, .int .i64 x] w fun e w' => e = .returned (.int .i64 (ev x (wp l) : Nat)) ∧ Qt w w' := by
  have := eval_any (castL (wp l)) _ (x : Int) g w ⟨by omega, by omega⟩ (by rw [castL_length, wp_length, hl]; omega) (castL_in _ (wp_els l)) (row_ints (cap := cap) h (by rw [wp_length, hl])) hf
  rwa [cast_el _ (wp_els l), el_nat x hx] at this

/-- The syndromes of a word, as far as the loop has come. -/
def sj (l : List Bool) (j : Nat) : List Nat := (List.range 20).map fun i => if i < j then ev (E (i + 1)) (wp l) else 0
theorem sj_length (l : List Bool) (j : Nat) : (sj l j).length = 20 := by simp [sj]
theorem sj_zero (l : List Bool) : sj l 0 = List.replicate 20 0 := by
  unfold sj
  rw [tab_congr 20 _ (fun _ => 0) (fun i _ => if_neg (by omega)), List.map_const', List.length_range]
theorem sj_set (l : List Bool) (j : Nat) : (sj l j).set j (ev (E (j + 1)) (wp l)) = sj l (j + 1) := by
  unfold sj
  apply tab_set
  · rw [if_pos (by omega)]
  · intro i e
    rcases Nat.lt_or_ge i j with h1 | h1
    · rw [if_pos h1, if_pos (by omega)]
    · rw [if_neg (by omega), if_neg (by omega)]
/-- The syndromes of a word. -/
def syn (l : List Bool) : List Nat := sj l 20
theorem syn_getD (l : List Bool) (i : Nat) (h : i < 20) : (syn l).getD i 0 = ev (E (i + 1)) (wp l) := by
  unfold syn sj
  rw [tab_getD _ _ _ _ h, if_pos h]
theorem syn_length (l : List Bool) : (syn l).length = 20 := sj_length l 20

set_option maxRecDepth 100000 in
theorem syn_any (l : List Bool) (w : World) (hl : l.length = 127) :
    Calls Try.prog 19 #[.agg (boolCells l)] w fun e w' => ∃ g, w.heap.size ≤ g ∧ e = .returned (.slice (some ⟨g, 0, none⟩) 20 20) ∧ Row w' g 3 (natCells (syn l)) ∧ Below w.heap.size w w' := by
  have HX0 : Hid (Row (w.alloc (.cells (boolCells l) 32)) w.heap.size 32 (boolCells l)) := heap_alloc_new _ _
  have HB0 : Hid (Below w.heap.size w (w.alloc (.cells (boolCells l) 32))) := (Below.refl _ _).alloc (Nat.le_refl _) _
  have HSZ := Lib.hid (word_size l hl)
  have HL := Lib.hid hl
  have HZ := Lib.hid ((made_nats 20).trans (by rw [← sj_zero l]))
  clear hl
  go_enter Try.func19, Try.ntmps19
  go_wp2_with fail
  refine (new_any _).mono ?_
  rintro e w1 ⟨rfl, hb, hf⟩
  have HX1 := Lib.hid (HX0.out.box hb)
  have HB1 := Lib.hid (HB0.out.trans (hb.mono HB0.out.size))
  have hg := HB0.out.size
  generalize (w.alloc (.cells (boolCells l) 32)).heap.size = f at *
  have HF1 := Lib.hid hf
  clear hb hf HB0 HX0
  go_wp2_with (refine wpList_load_row rfl 32 (.tmp 1) rfl w.heap.size rfl 32 (boolCells l) (0, 0) _ HX1.out Try.underlying32 rfl HSZ.out ?_)
  refine (poly_any l _ HL.out).mono ?_
  rintro e w2 ⟨rfl, hr, hb⟩
  have HB2 := Lib.hid (HB1.out.trans (hb.mono HB1.out.size))
  have HF2 := Lib.hid (Row.box HF1.out hb)
  have hp := HB1.out.size
  generalize hpp : w1.heap.size + 1 = p at *
  have HP2 := Lib.hid hr
  have hfl := Row.lt HF1.out
  clear hb hr HB1 HF1 HX1
  have hmk : ∀ w, (Instr.makeSlice 40 (.int .i64 20) (.int .i64 20)).run Try.prog w = .ok (.slice (some ⟨w.heap.size, 0, none⟩) 20 20) (w.alloc (.cells (madeCells #[.int .i64 0] 20) 3)) := fun w => run_make_row' (P := Try.prog) 40 3 (.int .i64 0) 8 Try.underlying40 int_info rfl .i64 .i64 20 (by omega) (by omega) w
  go_wp2
  clear hmk
  have HR0 : Hid (Row (w2.alloc (.cells (madeCells #[.int .i64 0] 20) 3)) w2.heap.size 3 (natCells (sj l 0))) := by
    unfold Hid; rw [← HZ.out]; exact heap_alloc_new _ _
  have HB0 : Hid (Below w.heap.size w (w2.alloc (.cells (madeCells #[.int .i64 0] 20) 3))) := HB2.out.alloc HB2.out.size _
  have HF0 : Hid (Fd (w2.alloc (.cells (madeCells #[.int .i64 0] 20) 3)) f) := Row.alloc HF2.out _
  have HP0 : Hid (Row (w2.alloc (.cells (madeCells #[.int .i64 0] 20) 3)) p 3 (natCells (wp l))) := Row.alloc HP2.out _
  have hs := HB2.out.size
  have hf2 := Row.lt HF2.out
  have hp2 := Row.lt HP2.out
  clear HF2 HP2 HB2
  generalize w2.heap.size = s at *
  generalize w2.alloc (.cells (madeCells #[.int .i64 0] 20) 3) = w3 at *
  clear hpp hp hfl
  go_loopw [13] (fun i wr => ∃ k : Nat, k ≤ 20 ∧ i = .int .i64 k ∧ Row wr s 3 (natCells (sj l k)) ∧ Row wr p 3 (natCells (wp l)) ∧ Fd wr f ∧ Below w.heap.size w wr) (fun i _ => 20 - (intOf i).toNat)
  case atStart => exact ⟨0, by omega, rfl, HR0.out, HP0.out, HF0.out, HB0.out⟩
  case round =>
    clear HR0 HB0 HP0 HF0 HZ
    obtain ⟨k, hk, rfl, h1, h2, h3, h4⟩ := hrel
    have HR := Lib.hid h1
    have HP := Lib.hid h2
    have HF := Lib.hid h3
    have HB := Lib.hid h4
    clear h1 h2 h3 h4
    by_cases hlt : k < 20
    · have HE := Lib.hid (E_bd (k + 1) (by omega))
      have HSET := Lib.hid (sj_set l k)
      go_wp2_with fail
      refine (exp_nat (k + 1) f _ (by omega) HF.out).mono ?_
      rintro e w4 ⟨rfl, hq⟩
      have HR1 := Lib.hid (hq.row HR.out)
      have HP1 := Lib.hid (hq.row HP.out)
      have HF1 : Hid (Fd w4 f) := hq.row HF.out
      have HB1 := Lib.hid (hq.below HB.out)
      clear hq HR HP HF HB
      go_wp2_with fail
      refine (eval_word l (E (k + 1)) f p _ 127 HE.out.2 HL.out HP1.out HF1.out).mono ?_
      rintro e w5 ⟨rfl, hq⟩
      have HR2 := Lib.hid (hq.row HR1.out)
      have HP2 := Lib.hid (hq.row HP1.out)
      have HF2 : Hid (Fd w5 f) := hq.row HF1.out
      have HB2 := Lib.hid (hq.below HB1.out)
      clear hq HR1 HP1 HF1 HB1
      have f0 := HR2.out.free k
      have g0 := nat_at HR2.out k (by rw [sj_length]; exact hlt)
      generalize ev (E (k + 1)) (wp l) = x at *
      go_wp2
      go_roundw
      case rel =>
        refine ⟨k + 1, by omega, by go_num, ?_, HP2.out.far (p := ⟨s, k, none⟩) (by show p ≠ s; omega) _, Row.far HF2.out (p := ⟨s, k, none⟩) (by show f ≠ s; omega) _, HB2.out.setCell (p := ⟨s, k, none⟩) hs _⟩
        rw [← HSET.out, ← natCells_set]
        exact HR2.out.set k _
      case measure => simp [intOf] <;> omega
    · obtain rfl : k = 20 := by omega
      go_wp2
      go_ret
      exact ⟨s, hs, rfl, HR.out, HB.out⟩

/-- Are the first syndromes 0? -/
def cwN (l : List Bool) (j : Nat) : Bool := (List.range j).all fun i => ev (E (i + 1)) (wp l) == 0
theorem cwN_succ (l : List Bool) (j : Nat) : cwN l (j + 1) = (cwN l j && (ev (E (j + 1)) (wp l) == 0)) := by
  unfold cwN
  rw [List.range_succ, List.all_append]
  simp
theorem cwN_not (l : List Bool) (j : Nat) (hj : j < 20) (h : ev (E (j + 1)) (wp l) ≠ 0) : isCw l = false := by
  cases hc : isCw l with
  | false => rfl
  | true =>
    have := (isCw_iff l).1 hc (j + 1) (by omega) (by omega)
    exact absurd this h
set_option maxRecDepth 100000 in
theorem is_any (l : List Bool) (w : World) (hl : l.length = 127) :
    Calls Try.prog 26 #[.agg (boolCells l)] w fun e w' => e = .returned (.bool (isCw l)) ∧ Below w.heap.size w w' := by
  have HX0 : Hid (Row (w.alloc (.cells (boolCells l) 32)) w.heap.size 32 (boolCells l)) := heap_alloc_new _ _
  have HB0 : Hid (Below w.heap.size w (w.alloc (.cells (boolCells l) 32))) := (Below.refl _ _).alloc (Nat.le_refl _) _
  have HSZ := Lib.hid (word_size l hl)
  have HL := Lib.hid hl
  clear hl
  go_enter Try.func26, Try.ntmps26
  go_wp2_with (refine wpList_load_row rfl 32 (.tmp 1) rfl w.heap.size rfl 32 (boolCells l) (0, 0) _ HX0.out Try.underlying32 rfl HSZ.out ?_)
  refine (syn_any l _ HL.out).mono ?_
  rintro e w1 ⟨g, hg, rfl, hr, hb⟩
  have HB := Lib.hid (HB0.out.trans (hb.mono HB0.out.size))
  have HR := Lib.hid hr
  clear hr hb HB0 HX0 hg HSZ
  go_wp2
  go_loop [8] (fun i => ∃ k : Nat, k ≤ 20 ∧ i = .int .i64 k ∧ cwN l k = true) (fun i => 20 - (intOf i).toNat)
  case atStart => exact ⟨0, by omega, rfl, rfl⟩
  case round =>
    obtain ⟨k, hk, rfl, hc⟩ := hrel
    have HC := Lib.hid hc
    clear hc
    by_cases hlt : k < 20
    · have c0 := nat_at HR.out k (by rw [syn_length]; exact hlt)
      rw [syn_getD l k hlt] at c0
      have HS := Lib.hid (cwN_succ l k)
      have HN := Lib.hid (cwN_not l k hlt)
      obtain ⟨x, hx⟩ : ∃ x, ev (E (k + 1)) (wp l) = x := ⟨_, rfl⟩
      rw [hx] at c0 HS HN
      clear hx
      by_cases h0 : x = 0
      · subst h0
        go_wp2
        go_round
        case rel => exact ⟨k + 1, by omega, by go_num, by rw [HS.out, HC.out]; rfl⟩
        case measure => simp [intOf] <;> omega
      · have e0 : (((x : Nat) : Int) != 0) = true := by rw [bne_iff_ne]; omega
        have e0' : ((x : Nat) != 0) = true := by rw [bne_iff_ne]; omega
        have HN2 := Lib.hid (HN.out h0)
        clear HN HS h0
        go_wp2
        go_ret
        exact ⟨by rw [HN2.out]; rfl, HB.out⟩
    · obtain rfl : k = 20 := by omega
      have HI : Hid (isCw l = true) := HC.out
      go_wp2
      go_ret
      exact ⟨by rw [HI.out]; rfl, HB.out⟩
end Go.Proofs.Ytbokecpcefcimaa
