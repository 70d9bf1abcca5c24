/-
  The contracts of layer 5's Info, Distance, polynomial. Condition: words have 127 bits.
-/
import Derived.Test.YtbokecpcefcimaaHw
import Derived.Test.YtbokecpcefcimaaHx
namespace Go.Proofs.Ytbokecpcefcimaa
open Go.RowKit
open M

theorem shl_one (k : Nat) (hk : k < 64) : IntKind.u64.wrap (2 ^ k) = un (1#64 <<< k) := by
  have h : 2 ^ k < 18446744073709551616 := Nat.lt_of_lt_of_eq (Nat.pow_lt_pow_right (a := 2) (by decide) hk) (by decide)
  have e : (2 : Int) ^ k = ((2 ^ k : Nat) : Int) := by rw [Int.natCast_pow]; rfl
  unfold un
  rw [e, IntKind.wrap_u64, BitVec.toNat_shiftLeft, Nat.shiftLeft_eq]
  simp only [BitVec.toNat_ofNat]
  rw [show 1 % 2 ^ 64 = 1 from by decide, Nat.one_mul, Nat.mod_eq_of_lt h]
  generalize 2 ^ k = b at *
  omega
attribute [local go_sem] un_or
set_option maxRecDepth 100000 in
theorem info_any (l : List Bool) (w : World) (hl : l.length = 127) :
    Calls Try.prog 24 #[.agg (boolCells l)] w fun e w' => e = .returned (.int .u64 (un (told l))) ∧ Below w.heap.size w w' := by
  have HB0 : Hid (Row (w.alloc (.cells (boolCells l) 32)) w.heap.size 32 (boolCells l)) := heap_alloc_new _ _
  obtain ⟨f, hf⟩ : ∃ f, (fun i => l.getD (63 + i) false) = f := ⟨_, rfl⟩
  have HT : Hid (told l = bo f 64) := by unfold Hid told; rw [hf]
  have HF : Hid (∀ k, l.getD (63 + k) false = f k) := by intro k; rw [← hf]
  clear hf
  go_enter Try.func24, Try.ntmps24
  go_wp2
  go_loop [3, 5] (fun x i => ∃ k : Nat, k ≤ 64 ∧ i = .int .i64 k ∧ x = .int .u64 (un (bo f k))) (fun _ i => 64 - (intOf i).toNat)
  case atStart => exact ⟨0, by omega, rfl, rfl⟩
  case round =>
    obtain ⟨k, hk, rfl, rfl⟩ := hrel
    by_cases hlt : k < 64
    · have c0 := word_at HB0.out (63 + k) (by omega)
      have HS : Hid (bo f (k + 1) = if f k then bo f k ||| (1#64 <<< k) else bo f k) := rfl
      have HO := Lib.hid (shl_one k hlt)
      rw [HF.out k] at c0
      obtain ⟨b, hb⟩ : ∃ b, f k = b := ⟨_, rfl⟩
      rw [hb] at c0 HS
      obtain ⟨y, hy⟩ : ∃ y, bo f k = y := ⟨_, rfl⟩
      rw [hy] at HS ⊢
      clear hb hy
      cases b
      · go_wp2
        go_round
        case rel => exact ⟨k + 1, by omega, by go_num, by rw [HS.out]; rfl⟩
        case measure => simp [intOf]; omega
      · go_wp2
        go_round
        case rel => exact ⟨k + 1, by omega, by go_num, by rw [HS.out, if_pos rfl, ← un_or, ← HO.out]⟩
        case measure => simp [intOf]; omega
    · obtain rfl : k = 64 := by omega
      go_wp2
      go_ret
      exact ⟨by rw [HT.out]; rfl, (Below.refl _ _).alloc (Nat.le_refl _) _⟩

set_option maxRecDepth 100000 in
theorem distance_any (a b : List Bool) (w : World) (ha : a.length = 127) (hb : b.length = 127) :
    Calls Try.prog 25 #[.agg (boolCells a), .agg (boolCells b)] w fun e w' => e = .returned (.int .i64 (dst a b : Nat)) ∧ Below w.heap.size w w' := by
  have HA0 : Hid (Row ((w.alloc (.cells (boolCells a) 32)).alloc (.cells (boolCells b) 32)) w.heap.size 32 (boolCells a)) := heap_alloc2_old _ _ _
  have HB0 : Hid (Row ((w.alloc (.cells (boolCells a) 32)).alloc (.cells (boolCells b) 32)) (w.heap.size + 1) 32 (boolCells b)) := heap_alloc2_new _ _ _
  have HD : Hid (dstN a b 127 = dst a b) := by unfold Hid; rw [← ha]; exact dstN_all a b (by omega)
  have HL := Lib.hid (And.intro ha hb)
  clear ha hb
  have HBB : Hid (Below w.heap.size w ((w.alloc (.cells (boolCells a) 32)).alloc (.cells (boolCells b) 32))) := ((Below.refl _ _).alloc (Nat.le_refl _) _).alloc (by simp) _
  go_enter Try.func25, Try.ntmps25
  go_wp2
  generalize (w.alloc (.cells (boolCells a) 32)).alloc (.cells (boolCells b) 32) = w1 at *
  go_loopw [5, 7] (fun x i wr => ∃ k : Nat, k ≤ 127 ∧ i = .int .i64 k ∧ x = .int .i64 (dstN a b k : Nat) ∧ Row wr w.heap.size 32 (boolCells a) ∧ Row wr (w.heap.size + 1) 32 (boolCells b) ∧ Below w.heap.size w wr) (fun _ i _ => 127 - (intOf i).toNat)
  case atStart => exact ⟨0, by omega, rfl, rfl, HA0.out, HB0.out, HBB.out⟩
  case round =>
    clear HA0 HB0 HBB
    obtain ⟨k, hk, rfl, rfl, h1, h2, h3⟩ := hrel
    have HA := Lib.hid h1
    have HB := Lib.hid h2
    have HBB := Lib.hid h3
    by_cases hlt : k < 127
    · have c0 := word_at h1 k (by have := HL.out.1; omega)
      have c1 := word_at h2 k (by have := HL.out.2; omega)
      have HS := Lib.hid (dstN_succ a b k (by have := HL.out; omega) (by have := HL.out.1; omega))
      have hle := dstN_le a b k
      obtain ⟨p, hp⟩ : ∃ p, a.getD k false = p := ⟨_, rfl⟩
      obtain ⟨q, hq⟩ : ∃ q, b.getD k false = q := ⟨_, rfl⟩
      rw [hp] at c0 HS
      rw [hq] at c1 HS
      obtain ⟨d, hd⟩ : ∃ d, dstN a b k = d := ⟨_, rfl⟩
      rw [hd] at HS hle ⊢
      clear h1 h2 h3 hp hq hd
      cases p <;> cases q
      all_goals
        go_wp2
        go_quiet (fail)
        go_wp2
        go_roundw
        case rel => exact ⟨k + 1, by omega, by go_num, by rw [HS.out]; go_num, HA.out.drewN _, HB.out.drewN _, Below.drewN HBB.out _⟩
        case measure => simp [intOf] <;> omega
    · obtain rfl : k = 127 := by omega
      clear h1 h2 h3
      go_wp2
      go_ret
      exact ⟨by rw [HD.out]; rfl, HBB.out⟩

/-- A word's polynomial, as far as the loop has come. -/
def pj (l : List Bool) (j : Nat) : List Nat := (List.range 127).map fun i => if i < j then (l.getD i false).toNat else 0
theorem pj_length (l : List Bool) (j : Nat) : (pj l j).length = 127 := by simp [pj]
theorem pj_zero (l : List Bool) : pj l 0 = List.replicate 127 0 := by
  unfold pj
  rw [tab_congr 127 _ (fun _ => 0) (fun i _ => if_neg (by omega)), List.map_const', List.length_range]
theorem pj_not (l : List Bool) (j : Nat) (h : l.getD j false = false) : pj l (j + 1) = pj l j := by
  unfold pj
  apply tab_congr
  intro i _
  by_cases e : i = j
  · subst e
    rw [if_pos (by omega), if_neg (by omega), h]; rfl
  · rcases Nat.lt_or_ge i j with h1 | h1
    · rw [if_pos h1, if_pos (by omega)]
    · rw [if_neg (by omega), if_neg (by omega)]
theorem pj_set (l : List Bool) (j : Nat) (h : l.getD j false = true) : (pj l j).set j 1 = pj l (j + 1) := by
  unfold pj
  apply tab_set
  · rw [if_pos (by omega), h]; rfl
  · intro i e
    rcases Nat.lt_or_ge i j with h1 | h1
    · rw [if_pos h1, if_pos (by omega)]
    · rw [if_neg (by omega), if_neg (by omega)]
theorem pj_done (l : List Bool) (h : l.length = 127) : pj l 127 = wp l := by
  unfold pj
  rw [tab_congr 127 _ (fun i => (wp l).getD i 0) ?_, tab_of _ 0 127 (by rw [wp_length, h])]
  intro i hi
  rw [if_pos hi]
  unfold wp
  rw [List.getD_eq_getElem?_getD, List.getD_eq_getElem?_getD, List.getElem?_map, List.getElem?_eq_getElem (show i < l.length by omega)]
  rfl
theorem made_nats (n : Nat) : madeCells #[.int .i64 0] n = natCells (List.replicate n 0) := by
  apply Array.ext_getElem?
  intro i
  rcases Nat.lt_or_ge i n with hi | hi
  · rw [natCells_get _ i (by rw [List.length_replicate]; exact hi)]
    have hm : i < (madeCells #[Value.int .i64 0] n).size := by rw [size_madeCells]; exact hi
    rw [Array.getElem?_eq_getElem hm]
    simp [madeCells, Nat.mod_one, List.getD_eq_getElem?_getD, hi]
  · rw [Array.getElem?_eq_none (by rw [size_madeCells]; exact hi), Array.getElem?_eq_none (by rw [natCells_size, List.length_replicate]; exact hi)]

theorem index_word (l : List Bool) (hl : l.length = 127) (k : Nat) (hk : k < 127) (w : World) :
    (Instr.index 32 (.agg (boolCells l)) (.int .i64 k)).run Try.prog w = .ok (.bool (l.getD k false)) w := by
  obtain ⟨i, hi⟩ := word_info?
  have c := boolCells_get l k (by omega)
  simp [Instr.index, run_underlying Try.underlying32, asIntOf, hk, run_sizeOf w hi, cells_bool, c, go_sem]
set_option maxRecDepth 100000 in
theorem poly_any (l : List Bool) (w : World) (hl : l.length = 127) :
    Calls Try.prog 35 #[.agg (boolCells l)] w fun e w' => e = .returned (.slice (some ⟨w.heap.size + 1, 0, none⟩) 127 127) ∧ Row w' (w.heap.size + 1) 3 (natCells (wp l)) ∧ Below w.heap.size w w' := by
  have hmk : ∀ w, (Instr.makeSlice 40 (.int .i64 127) (.int .i64 127)).run Try.prog w = .ok (.slice (some ⟨w.heap.size, 0, none⟩) 127 127) (w.alloc (.cells (madeCells #[.int .i64 0] 127) 3)) := fun w => run_make_row' (P := Try.prog) 40 3 (.int .i64 0) 8 Try.underlying40 int_info rfl .i64 .i64 127 (by omega) (by omega) w
  have HZ := Lib.hid ((made_nats 127).trans (by rw [← pj_zero l]))
  have HBX : Hid (Row ((w.alloc (.cells (boolCells l) 32)).alloc (.cells (madeCells #[.int .i64 0] 127) 3)) w.heap.size 32 (boolCells l)) := heap_alloc2_old _ _ _
  have HSZ := Lib.hid (word_size l hl)
  have HL := Lib.hid hl
  have HDN := Lib.hid (pj_done l hl)
  clear hl
  go_enter Try.func35, Try.ntmps35
  go_wp2_with (refine wpList_load_row rfl 32 (.tmp 1) rfl w.heap.size rfl 32 (boolCells l) (0, 0) _ HBX.out Try.underlying32 rfl HSZ.out ?_)
  clear hmk
  have HR0 : Hid (Row ((w.alloc (.cells (boolCells l) 32)).alloc (.cells (madeCells #[.int .i64 0] 127) 3)) (w.heap.size + 1) 3 (natCells (pj l 0))) := by
    unfold Hid; rw [← HZ.out]; exact heap_alloc2_new _ _ _
  have HB0 : Hid (Below w.heap.size w ((w.alloc (.cells (boolCells l) 32)).alloc (.cells (madeCells #[.int .i64 0] 127) 3))) := ((Below.refl _ _).alloc (Nat.le_refl _) _).alloc (by simp) _
  generalize (w.alloc (.cells (boolCells l) 32)).alloc (.cells (madeCells #[.int .i64 0] 127) 3) = w1 at *
  go_loopw [8] (fun i wr => ∃ k : Nat, k ≤ 127 ∧ i = .int .i64 k ∧ Row wr (w.heap.size + 1) 3 (natCells (pj l k)) ∧ Below w.heap.size w wr) (fun i _ => 127 - (intOf i).toNat)
  case atStart => exact ⟨0, by omega, rfl, HR0.out, HB0.out⟩
  case round =>
    clear HR0 HB0 HBX HZ
    obtain ⟨k, hk, rfl, h1, h2⟩ := hrel
    have HR := Lib.hid h1
    have HB := Lib.hid h2
    by_cases hlt : k < 127
    · have f0 := h1.free k
      have g0 := nat_at h1 k (by rw [pj_length]; exact hlt)
      have hix := index_word l HL.out k hlt
      have HN := Lib.hid (pj_not l k)
      have HT := Lib.hid (pj_set l k)
      obtain ⟨b, hb⟩ : ∃ b, l.getD k false = b := ⟨_, rfl⟩
      rw [hb] at hix HN HT
      clear h1 h2 hb
      cases b
      · go_wp2
        go_roundw
        case rel => exact ⟨k + 1, by omega, by go_num, by rw [HN.out rfl]; exact HR.out, HB.out⟩
        case measure => simp [intOf] <;> omega
      · go_wp2
        go_roundw
        case rel =>
          refine ⟨k + 1, by omega, by go_num, ?_, HB.out.setCell (p := ⟨w.heap.size + 1, k, none⟩) (by simp) _⟩
          rw [← HT.out rfl, ← natCells_set]
          exact HR.out.set k _
        case measure => simp [intOf] <;> omega
    · obtain rfl : k = 127 := by omega
      clear h1 h2
      go_wp2
      go_ret
      exact ⟨rfl, by rw [← HDN.out]; exact HR.out, HB.out⟩
end Go.Proofs.Ytbokecpcefcimaa
