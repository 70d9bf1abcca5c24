/-
  Contracts and plain facts that the laws share, part 5; each piece is headed by what it holds and its conditions.
-/
import Derived.Test.YtmfnjjkbfabonaaDoorQ04
import Derived.Test.YtmfnjjkbfabonaaDoorQ03
import Derived.Test.YtmfnjjkbfabonaaDoorQ02
import Derived.Deep.RegionWith

/- The contracts of layer 5's Info, Distance, polynomial. Condition: words have 127 bits. -/
namespace Go.Proofs.YtmfnjjkbfabonaaDoor
open Go.RowKit
open M

theorem shl_one (k : Nat) (hk : k < 64) : IntKind.u64.wrap (2 ^ k) = un (1#64 <<< k) := by
  have h : 2 ^ k < 18446744073709551616 := Nat.lt_of_lt_of_eq (Nat.pow_lt_pow_right (a := 2) (by decide) hk) (by decide)
  have e : (2 : Int) ^ k = ((2 ^ k : Nat) : Int) := by rw [Int.natCast_pow]; rfl
  unfold un
  rw [e, IntKind.wrap_u64, BitVec.toNat_shiftLeft, Nat.shiftLeft_eq]
  simp only [BitVec.toNat_ofNat]
  rw [show 1 % 2 ^ 64 = 1 from by decide, Nat.one_mul, Nat.mod_eq_of_lt h]
  generalize 2 ^ k = b at *
  omega
attribute [local go_sem] un_or
set_option maxRecDepth 100000 in
theorem info_any (l : List Bool) (w : World) (hl : l.length = 127) :
    Calls Tryd.prog 36 #[.agg (boolCells l)] w fun e w' => e = .returned (.int .u64 (un (told l))) ∧ Below w.heap.size w w' := by
  have HB0 : Hid (Row (w.alloc (.cells (boolCells l) 40)) w.heap.size 40 (boolCells l)) := heap_alloc_new _ _
  obtain ⟨f, hf⟩ : ∃ f, (fun i => l.getD (63 + i) false) = f := ⟨_, rfl⟩
  have HT : Hid (told l = bo f 64) := by unfold Hid told; rw [hf]
  have HF : Hid (∀ k, l.getD (63 + k) false = f k) := by intro k; rw [← hf]
  clear hf
  go_enter Tryd.func36, Tryd.ntmps36
  go_wp2
  go_loop [3, 5] (fun x i => ∃ k : Nat, k ≤ 64 ∧ i = .int .i64 k ∧ x = .int .u64 (un (bo f k))) (fun _ i => 64 - (intOf i).toNat)
  case atStart => exact ⟨0, by omega, rfl, rfl⟩
  case round =>
    obtain ⟨k, hk, rfl, rfl⟩ := hrel
    by_cases hlt : k < 64
    · have c0 := word_at HB0.out (63 + k) (by omega)
      have HS : Hid (bo f (k + 1) = if f k then bo f k ||| (1#64 <<< k) else bo f k) := rfl
      have HO := Lib.hid (shl_one k hlt)
      rw [HF.out k] at c0
      obtain ⟨b, hb⟩ : ∃ b, f k = b := ⟨_, rfl⟩
      rw [hb] at c0 HS
      obtain ⟨y, hy⟩ : ∃ y, bo f k = y := ⟨_, rfl⟩
      rw [hy] at HS ⊢
      clear hb hy
      cases b
      · go_wp2
        go_round
        case rel => exact ⟨k + 1, by omega, by go_num, by rw [HS.out]; rfl⟩
        case measure => simp [intOf]; omega
      · go_wp2
        go_round
        case rel => exact ⟨k + 1, by omega, by go_num, by rw [HS.out, if_pos rfl, ← un_or, ← HO.out]⟩
        case measure => simp [intOf]; omega
    · obtain rfl : k = 64 := by omega
      go_wp2
      go_ret
      exact ⟨by rw [HT.out]; rfl, (Below.refl _ _).alloc (Nat.le_refl _) _⟩

set_option maxRecDepth 100000 in
theorem distance_any (a b : List Bool) (w : World) (ha : a.length = 127) (hb : b.length = 127) :
    Calls Tryd.prog 54 #[.agg (boolCells a), .agg (boolCells b)] w fun e w' => e = .returned (.int .i64 (dst a b : Nat)) ∧ Below w.heap.size w w' := by
  have HA0 : Hid (Row ((w.alloc (.cells (boolCells a) 40)).alloc (.cells (boolCells b) 40)) w.heap.size 40 (boolCells a)) := heap_alloc2_old _ _ _
  have HB0 : Hid (Row ((w.alloc (.cells (boolCells a) 40)).alloc (.cells (boolCells b) 40)) (w.heap.size + 1) 40 (boolCells b)) := heap_alloc2_new _ _ _
  have HD : Hid (dstN a b 127 = dst a b) := by unfold Hid; rw [← ha]; exact dstN_all a b (by omega)
  have HL := Lib.hid (And.intro ha hb)
  clear ha hb
  have HBB : Hid (Below w.heap.size w ((w.alloc (.cells (boolCells a) 40)).alloc (.cells (boolCells b) 40))) := ((Below.refl _ _).alloc (Nat.le_refl _) _).alloc (by simp) _
  go_enter Tryd.func54, Tryd.ntmps54
  go_wp2
  generalize (w.alloc (.cells (boolCells a) 40)).alloc (.cells (boolCells b) 40) = w1 at *
  go_loopw [5, 7] (fun x i wr => ∃ k : Nat, k ≤ 127 ∧ i = .int .i64 k ∧ x = .int .i64 (dstN a b k : Nat) ∧ Row wr w.heap.size 40 (boolCells a) ∧ Row wr (w.heap.size + 1) 40 (boolCells b) ∧ Below w.heap.size w wr) (fun _ i _ => 127 - (intOf i).toNat)
  case atStart => exact ⟨0, by omega, rfl, rfl, HA0.out, HB0.out, HBB.out⟩
  case round =>
    clear HA0 HB0 HBB
    obtain ⟨k, hk, rfl, rfl, h1, h2, h3⟩ := hrel
    have HA := Lib.hid h1
    have HB := Lib.hid h2
    have HBB := Lib.hid h3
    by_cases hlt : k < 127
    · have c0 := word_at h1 k (by have := HL.out.1; omega)
      have c1 := word_at h2 k (by have := HL.out.2; omega)
      have HS := Lib.hid (dstN_succ a b k (by have := HL.out; omega) (by have := HL.out.1; omega))
      have hle := dstN_le a b k
      obtain ⟨p, hp⟩ : ∃ p, a.getD k false = p := ⟨_, rfl⟩
      obtain ⟨q, hq⟩ : ∃ q, b.getD k false = q := ⟨_, rfl⟩
      rw [hp] at c0 HS
      rw [hq] at c1 HS
      obtain ⟨d, hd⟩ : ∃ d, dstN a b k = d := ⟨_, rfl⟩
      rw [hd] at HS hle ⊢
      clear h1 h2 h3 hp hq hd
      cases p <;> cases q
      all_goals
        go_wp2
        go_quiet (fail)
        go_wp2
        go_roundw
        case rel => exact ⟨k + 1, by omega, by go_num, by rw [HS.out]; go_num, HA.out.drewN _, HB.out.drewN _, Below.drewN HBB.out _⟩
        case measure => simp [intOf] <;> omega
    · obtain rfl : k = 127 := by omega
      clear h1 h2 h3
      go_wp2
      go_ret
      exact ⟨by rw [HD.out]; rfl, HBB.out⟩

/-- A word's polynomial, as far as the loop has come. -/
def pj (l : List Bool) (j : Nat) : List Nat := (List.range 127).map fun i => if i < j then (l.getD i false).toNat else 0
theorem pj_length (l : List Bool) (j : Nat) : (pj l j).length = 127 := by simp [pj]
theorem pj_zero (l : List Bool) : pj l 0 = List.replicate 127 0 := by
  unfold pj
  rw [tab_congr 127 _ (fun _ => 0) (fun i _ => if_neg (by omega)), List.map_const', List.length_range]
theorem pj_not (l : List Bool) (j : Nat) (h : l.getD j false = false) : pj l (j + 1) = pj l j := by
  unfold pj
  apply tab_congr
  intro i _
  by_cases e : i = j
  · subst e
    rw [if_pos (by omega), if_neg (by omega), h]; rfl
  · rcases Nat.lt_or_ge i j with h1 | h1
    · rw [if_pos h1, if_pos (by omega)]
    · rw [if_neg (by omega), if_neg (by omega)]
theorem pj_set (l : List Bool) (j : Nat) (h : l.getD j false = true) : (pj l j).set j 1 = pj l (j + 1) := by
  unfold pj
  apply tab_set
  · rw [if_pos (by omega), h]; rfl
  · intro i e
    rcases Nat.lt_or_ge i j with h1 | h1
    · rw [if_pos h1, if_pos (by omega)]
    · rw [if_neg (by omega), if_neg (by omega)]
theorem pj_done (l : List Bool) (h : l.length = 127) : pj l 127 = wp l := by
  unfold pj
  rw [tab_congr 127 _ (fun i => (wp l).getD i 0) ?_, tab_of _ 0 127 (by rw [wp_length, h])]
  intro i hi
  rw [if_pos hi]
  unfold wp
  rw [List.getD_eq_getElem?_getD, List.getD_eq_getElem?_getD, List.getElem?_map, List.getElem?_eq_getElem (show i < l.length by omega)]
  rfl
theorem made_nats (n : Nat) : madeCells #[.int .i64 0] n = natCells (List.replicate n 0) := by
  apply Array.ext_getElem?
  intro i
  rcases Nat.lt_or_ge i n with hi | hi
  · rw [natCells_get _ i (by rw [List.length_replicate]; exact hi)]
    have hm : i < (madeCells #[Value.int .i64 0] n).size := by rw [size_madeCells]; exact hi
    rw [Array.getElem?_eq_getElem hm]
    simp [madeCells, Nat.mod_one, List.getD_eq_getElem?_getD, hi]
  · rw [Array.getElem?_eq_none (by rw [size_madeCells]; exact hi), Array.getElem?_eq_none (by rw [natCells_size, List.length_replicate]; exact hi)]

theorem index_word (l : List Bool) (hl : l.length = 127) (k : Nat) (hk : k < 127) (w : World) :
    (Instr.index 40 (.agg (boolCells l)) (.int .i64 k)).run Tryd.prog w = .ok (.bool (l.getD k false)) w := by
  obtain ⟨i, hi⟩ := word_info?
  have c := boolCells_get l k (by omega)
  simp [Instr.index, run_underlying Tryd.underlying40, asIntOf, hk, run_sizeOf w hi, cells_bool, c, go_sem]
set_option maxRecDepth 100000 in
theorem poly_any (l : List Bool) (w : World) (hl : l.length = 127) :
    Calls Tryd.prog 51 #[.agg (boolCells l)] w fun e w' => e = .returned (.slice (some ⟨w.heap.size + 1, 0, none⟩) 127 127) ∧ Row w' (w.heap.size + 1) 3 (natCells (wp l)) ∧ Below w.heap.size w w' := by
  have hmk : ∀ w, (Instr.makeSlice 57 (.int .i64 127) (.int .i64 127)).run Tryd.prog w = .ok (.slice (some ⟨w.heap.size, 0, none⟩) 127 127) (w.alloc (.cells (madeCells #[.int .i64 0] 127) 3)) := fun w => run_make_row' (P := Tryd.prog) 57 3 (.int .i64 0) 8 Tryd.underlying57 int_info rfl .i64 .i64 127 (by omega) (by omega) w
  have HZ := Lib.hid ((made_nats 127).trans (by rw [← pj_zero l]))
  have HBX : Hid (Row ((w.alloc (.cells (boolCells l) 40)).alloc (.cells (madeCells #[.int .i64 0] 127) 3)) w.heap.size 40 (boolCells l)) := heap_alloc2_old _ _ _
  have HSZ := Lib.hid (word_size l hl)
  have HL := Lib.hid hl
  have HDN := Lib.hid (pj_done l hl)
  clear hl
  go_enter Tryd.func51, Tryd.ntmps51
  go_wp2_with (refine wpList_load_row rfl 40 (.tmp 1) rfl w.heap.size rfl 40 (boolCells l) (0, 0) _ HBX.out Tryd.underlying40 rfl HSZ.out ?_)
  clear hmk
  have HR0 : Hid (Row ((w.alloc (.cells (boolCells l) 40)).alloc (.cells (madeCells #[.int .i64 0] 127) 3)) (w.heap.size + 1) 3 (natCells (pj l 0))) := by
    unfold Hid; rw [← HZ.out]; exact heap_alloc2_new _ _ _
  have HB0 : Hid (Below w.heap.size w ((w.alloc (.cells (boolCells l) 40)).alloc (.cells (madeCells #[.int .i64 0] 127) 3))) := ((Below.refl _ _).alloc (Nat.le_refl _) _).alloc (by simp) _
  generalize (w.alloc (.cells (boolCells l) 40)).alloc (.cells (madeCells #[.int .i64 0] 127) 3) = w1 at *
  go_loopw [8] (fun i wr => ∃ k : Nat, k ≤ 127 ∧ i = .int .i64 k ∧ Row wr (w.heap.size + 1) 3 (natCells (pj l k)) ∧ Below w.heap.size w wr) (fun i _ => 127 - (intOf i).toNat)
  case atStart => exact ⟨0, by omega, rfl, HR0.out, HB0.out⟩
  case round =>
    clear HR0 HB0 HBX HZ
    obtain ⟨k, hk, rfl, h1, h2⟩ := hrel
    have HR := Lib.hid h1
    have HB := Lib.hid h2
    by_cases hlt : k < 127
    · have f0 := h1.free k
      have g0 := nat_at h1 k (by rw [pj_length]; exact hlt)
      have hix := index_word l HL.out k hlt
      have HN := Lib.hid (pj_not l k)
      have HT := Lib.hid (pj_set l k)
      obtain ⟨b, hb⟩ : ∃ b, l.getD k false = b := ⟨_, rfl⟩
      rw [hb] at hix HN HT
      clear h1 h2 hb
      cases b
      · go_wp2
        go_roundw
        case rel => exact ⟨k + 1, by omega, by go_num, by rw [HN.out rfl]; exact HR.out, HB.out⟩
        case measure => simp [intOf] <;> omega
      · go_wp2
        go_roundw
        case rel =>
          refine ⟨k + 1, by omega, by go_num, ?_, HB.out.setCell (p := ⟨w.heap.size + 1, k, none⟩) (by simp) _⟩
          rw [← HT.out rfl, ← natCells_set]
          exact HR.out.set k _
        case measure => simp [intOf] <;> omega
    · obtain rfl : k = 127 := by omega
      clear h1 h2
      go_wp2
      go_ret
      exact ⟨rfl, by rw [← HDN.out]; exact HR.out, HB.out⟩
end Go.Proofs.YtmfnjjkbfabonaaDoor

/- The contract of layer 4's Eval. Conditions: numbers are int's; the Field lies in a block of its own; no more than 1000 numbers. -/
namespace Go.Proofs.YtmfnjjkbfabonaaDoor
open Go.RowKit
open M

theorem els_map (ps : List Int) : Els (ps.map el) := by
  intro c hc
  obtain ⟨p, _, rfl⟩ := List.mem_map.1 hc
  exact el_lt p
theorem els_drop {l : List Nat} (h : Els l) (k : Nat) : Els (l.drop k) := fun c hc => h c (List.mem_of_mem_drop hc)
theorem drop_el (ps : List Int) (j : Nat) (h : j < ps.length) : (ps.map el).drop j = el (ps.getD j 0) :: (ps.map el).drop (j + 1) := by
  rw [List.drop_eq_getElem_cons (by simpa using h)]
  simp [List.getD_eq_getElem?_getD, List.getElem?_eq_getElem h]

set_option maxRecDepth 100000 in
set_option maxHeartbeats 1000000 in
theorem eval_any (ps : List Int) (l : Value) (x : Int) (g : Nat) (w : World) (hx : inI x) (hlen : ps.length ≤ 1000) (hp : ∀ p ∈ ps, inI p) (h : IntsAt w l ps) (hf : Fd w g) :
    Calls Tryd.prog 52 #[.pointer (some ⟨g, 0, none⟩), l, .int .i64 x] w fun e w' => e = .returned (.int .i64 (ev (el x) (ps.map el) : Nat)) ∧ Qt w w' := by
  obtain ⟨a, lcap, rfl, hcells⟩ := h
  have HC := Lib.hid hcells
  have HP := Lib.hid hp
  have HX := Lib.hid hx
  have HF := Lib.hid hf
  clear hcells hp hx hf
  go_enter Tryd.func52, Tryd.ntmps52
  go_wp2
  go_loopw [7, 8] (fun s i wr => ∃ k : Nat, k ≤ ps.length ∧ i = .int .i64 ((k : Int) - 1) ∧ s = .int .i64 (ev (el x) ((ps.map el).drop k) : Nat) ∧ Qt w wr) (fun _ i _ => (intOf i + 1).toNat)
  case atStart => exact ⟨ps.length, Nat.le_refl _, rfl, by rw [List.drop_of_length_le (by simp)]; rfl, Qt.refl _⟩
  case round =>
    obtain ⟨k, hk, rfl, rfl, hq⟩ := hrel
    have HQ := Lib.hid hq
    clear hq
    cases k with
    | zero =>
      rw [show (((0 : Nat) : Int) - 1) = -1 from rfl]
      go_wp2
      go_ret
      exact ⟨rfl, HQ.out⟩
    | succ j =>
      rw [show (((j + 1 : Nat) : Int) - 1) = (j : Int) by omega]
      obtain ⟨b, off, rfl, hbw, hcc⟩ := HC.out (by omega)
      have hcj := hcc j (by omega)
      have HD := Lib.hid (drop_el ps j (by omega))
      obtain ⟨n, hn⟩ : ∃ n, ps.getD j 0 = n := ⟨_, rfl⟩
      have hnok : inI n := by
        have e : ps.getD j 0 = ps[j] := by rw [List.getD_eq_getElem?_getD, List.getElem?_eq_getElem (show j < ps.length by omega)]; rfl
        rw [← hn, e]; exact HP.out _ (List.getElem_mem _)
      rw [hn] at hcj
      have c0 : wr.cell? ⟨b, off + j, none⟩ = some (.int .i64 n) := by
        obtain ⟨m, rfl⟩ := HQ.out; exact hcj
      have HNOK := Lib.hid hnok
      have HNE := Lib.hid hn
      have HFR := Lib.hid (HQ.out.row HF.out)
      have hel := ev_lt (el x) (el_lt x) _ (els_drop (els_map ps) (j + 1))
      obtain ⟨s, hs⟩ : ∃ s, ev (el x) ((ps.map el).drop (j + 1)) = s := ⟨_, rfl⟩
      rw [hs] at hel
      have HS := Lib.hid hs
      have hji : (j : Int) < (ps.length : Int) := by omega
      have hM : ∀ W, Fd W g → Calls Tryd.prog 61 #[.pointer (some ⟨g, 0, none⟩), .int .i64 (s : Int), .int .i64 x] W fun e w' => e = .returned (.int .i64 (mul s (el x) : Nat)) ∧ Qt W w' := by
        intro W hW
        have := mul_field (s : Int) x g W ⟨by omega, by omega⟩ HX.out hW
        rwa [el_nat s hel] at this
      have HM := Lib.hid hM
      have hmm := mul_lt s (el x) hel (el_lt x)
      obtain ⟨m, hme⟩ : ∃ m, mul s (el x) = m := ⟨_, rfl⟩
      rw [hme] at hmm
      have HME := Lib.hid hme
      have hnl := el_lt n
      have hxor := i64_xor_nat m (el n) (by omega) (by omega)
      have hM2 : ∀ W, Fd W g → Calls Tryd.prog 61 #[.pointer (some ⟨g, 0, none⟩), .int .i64 (s : Int), .int .i64 x] W fun e w' => e = .returned (.int .i64 (m : Nat)) ∧ Qt W w' := by
        intro W hW
        have := hM W hW
        rwa [hme] at this
      have HM2 := Lib.hid hM2
      rw [hs]
      clear hcc hcj hn hnok HC hs hM hme hM2
      go_wp2
      go_quiet (first | (go_at_call 61; exact Calls.quiet_of (HM2.out _ (HFR.out.drewN _))) | (go_at_call 68; exact Calls.quiet_of_same ((element_any n _ HNOK.out).mono fun _ _ h => ⟨h.1, h.2.symm⟩)))
      go_wp2
      go_roundw
      case rel =>
        refine ⟨j, by omega, by go_num, ?_, HQ.out.trans (Qt.of _ _)⟩
        rw [HD.out, HNE.out]
        show _ = Value.int .i64 ((mul (ev (el x) ((ps.map el).drop (j + 1))) (el x) ^^^ el n : Nat) : Int)
        rw [HS.out, HME.out]
      case measure => simp [intOf] <;> omega
end Go.Proofs.YtmfnjjkbfabonaaDoor

/- The contracts of layer 5's Syndromes and Is. Condition: words have 127 bits. -/
namespace Go.Proofs.YtmfnjjkbfabonaaDoor
open Go.RowKit
open M

theorem exp_nat (n g : Nat) (w : World) (hn : n < 127) (h : Fd w g) :
    Calls Tryd.prog 53 #[.pointer (some ⟨g, 0, none⟩), .int .i64 n] w fun e w' => e = .returned (.int .i64 (E n : Nat)) ∧ Qt w w' := by
  have := exp_any (n : Int) g w ⟨by omega, by omega⟩ h
  rwa [re_nat n hn] at this
def castL (l : List Nat) : List Int := l.map fun x : Nat => (x : Int)
theorem castL_length (l : List Nat) : (castL l).length = l.length := by simp [castL]
theorem cast_el (l : List Nat) (h : Els l) : (castL l).map el = l := by
  unfold castL
  rw [List.map_map]
  conv => rhs; rw [← List.map_id l]
  apply List.map_congr_left
  intro a ha
  exact el_nat a (h a ha)
theorem row_ints {w : World} {g n cap : Nat} {l : List Nat} (h : Row w g 3 (natCells l)) (hl : l.length = n) : IntsAt w (.slice (some ⟨g, 0, none⟩) n cap) (castL l) := by
  refine ⟨_, cap, by rw [castL_length, hl], fun _ => ⟨g, 0, rfl, h.lt, fun i hi => ?_⟩⟩
  rw [castL_length] at hi
  rw [Nat.zero_add, nat_at h i hi]
  simp [castL, List.getD_eq_getElem?_getD, List.getElem?_eq_getElem hi]
theorem castL_in (l : List Nat) (h : Els l) : ∀ p ∈ castL l, inI p := by
  intro p hp
  obtain ⟨c, hc, rfl⟩ := List.mem_map.1 hp
  have := h c hc
  exact ⟨by omega, by omega⟩
/-- Eval of a word's polynomial at an element. -/
theorem eval_word (l : List Bool) (x g m : Nat) (w : World) (cap : Nat) (hx : x < 128) (hl : l.length = 127) (h : Row w m 3 (natCells (wp l))) (hf : Fd w g) :
    Calls Tryd.prog 52 #[.pointer (some ⟨g, 0, none⟩), .slice (some ⟨m, 0, none⟩) 127 cap, .int .i64 x] w fun e w' => e = .returned (.int .i64 (ev x (wp l) : Nat)) ∧ Qt w w' := by
  have := eval_any (castL (wp l)) _ (x : Int) g w ⟨by omega, by omega⟩ (by rw [castL_length, wp_length, hl]; omega) (castL_in _ (wp_els l)) (row_ints (cap := cap) h (by rw [wp_length, hl])) hf
  rwa [cast_el _ (wp_els l), el_nat x hx] at this

/-- The syndromes of a word, as far as the loop has come. -/
def sj (l : List Bool) (j : Nat) : List Nat := (List.range 20).map fun i => if i < j then ev (E (i + 1)) (wp l) else 0
theorem sj_length (l : List Bool) (j : Nat) : (sj l j).length = 20 := by simp [sj]
theorem sj_zero (l : List Bool) : sj l 0 = List.replicate 20 0 := by
  unfold sj
  rw [tab_congr 20 _ (fun _ => 0) (fun i _ => if_neg (by omega)), List.map_const', List.length_range]
theorem sj_set (l : List Bool) (j : Nat) : (sj l j).set j (ev (E (j + 1)) (wp l)) = sj l (j + 1) := by
  unfold sj
  apply tab_set
  · rw [if_pos (by omega)]
  · intro i e
    rcases Nat.lt_or_ge i j with h1 | h1
    · rw [if_pos h1, if_pos (by omega)]
    · rw [if_neg (by omega), if_neg (by omega)]
/-- The syndromes of a word. -/
def syn (l : List Bool) : List Nat := sj l 20
theorem syn_getD (l : List Bool) (i : Nat) (h : i < 20) : (syn l).getD i 0 = ev (E (i + 1)) (wp l) := by
  unfold syn sj
  rw [tab_getD _ _ _ _ h, if_pos h]
theorem syn_length (l : List Bool) : (syn l).length = 20 := sj_length l 20

set_option maxRecDepth 100000 in
theorem syn_any (l : List Bool) (w : World) (hl : l.length = 127) :
    Calls Tryd.prog 30 #[.agg (boolCells l)] w fun e w' => ∃ g, w.heap.size ≤ g ∧ e = .returned (.slice (some ⟨g, 0, none⟩) 20 20) ∧ Row w' g 3 (natCells (syn l)) ∧ Below w.heap.size w w' := by
  have HX0 : Hid (Row (w.alloc (.cells (boolCells l) 40)) w.heap.size 40 (boolCells l)) := heap_alloc_new _ _
  have HB0 : Hid (Below w.heap.size w (w.alloc (.cells (boolCells l) 40))) := (Below.refl _ _).alloc (Nat.le_refl _) _
  have HSZ := Lib.hid (word_size l hl)
  have HL := Lib.hid hl
  have HZ := Lib.hid ((made_nats 20).trans (by rw [← sj_zero l]))
  clear hl
  go_enter Tryd.func30, Tryd.ntmps30
  go_wp2_with fail
  refine (new_any _).mono ?_
  rintro e w1 ⟨rfl, hb, hf⟩
  have HX1 := Lib.hid (HX0.out.box hb)
  have HB1 := Lib.hid (HB0.out.trans (hb.mono HB0.out.size))
  have hg := HB0.out.size
  generalize (w.alloc (.cells (boolCells l) 40)).heap.size = f at *
  have HF1 := Lib.hid hf
  clear hb hf HB0 HX0
  go_wp2_with (refine wpList_load_row rfl 40 (.tmp 1) rfl w.heap.size rfl 40 (boolCells l) (0, 0) _ HX1.out Tryd.underlying40 rfl HSZ.out ?_)
  refine (poly_any l _ HL.out).mono ?_
  rintro e w2 ⟨rfl, hr, hb⟩
  have HB2 := Lib.hid (HB1.out.trans (hb.mono HB1.out.size))
  have HF2 := Lib.hid (Row.box HF1.out hb)
  have hp := HB1.out.size
  generalize hpp : w1.heap.size + 1 = p at *
  have HP2 := Lib.hid hr
  have hfl := Row.lt HF1.out
  clear hb hr HB1 HF1 HX1
  have hmk : ∀ w, (Instr.makeSlice 57 (.int .i64 20) (.int .i64 20)).run Tryd.prog w = .ok (.slice (some ⟨w.heap.size, 0, none⟩) 20 20) (w.alloc (.cells (madeCells #[.int .i64 0] 20) 3)) := fun w => run_make_row' (P := Tryd.prog) 57 3 (.int .i64 0) 8 Tryd.underlying57 int_info rfl .i64 .i64 20 (by omega) (by omega) w
  go_wp2
  clear hmk
  have HR0 : Hid (Row (w2.alloc (.cells (madeCells #[.int .i64 0] 20) 3)) w2.heap.size 3 (natCells (sj l 0))) := by
    unfold Hid; rw [← HZ.out]; exact heap_alloc_new _ _
  have HB0 : Hid (Below w.heap.size w (w2.alloc (.cells (madeCells #[.int .i64 0] 20) 3))) := HB2.out.alloc HB2.out.size _
  have HF0 : Hid (Fd (w2.alloc (.cells (madeCells #[.int .i64 0] 20) 3)) f) := Row.alloc HF2.out _
  have HP0 : Hid (Row (w2.alloc (.cells (madeCells #[.int .i64 0] 20) 3)) p 3 (natCells (wp l))) := Row.alloc HP2.out _
  have hs := HB2.out.size
  have hf2 := Row.lt HF2.out
  have hp2 := Row.lt HP2.out
  clear HF2 HP2 HB2
  generalize w2.heap.size = s at *
  generalize w2.alloc (.cells (madeCells #[.int .i64 0] 20) 3) = w3 at *
  clear hpp hp hfl
  go_loopw [13] (fun i wr => ∃ k : Nat, k ≤ 20 ∧ i = .int .i64 k ∧ Row wr s 3 (natCells (sj l k)) ∧ Row wr p 3 (natCells (wp l)) ∧ Fd wr f ∧ Below w.heap.size w wr) (fun i _ => 20 - (intOf i).toNat)
  case atStart => exact ⟨0, by omega, rfl, HR0.out, HP0.out, HF0.out, HB0.out⟩
  case round =>
    clear HR0 HB0 HP0 HF0 HZ
    obtain ⟨k, hk, rfl, h1, h2, h3, h4⟩ := hrel
    have HR := Lib.hid h1
    have HP := Lib.hid h2
    have HF := Lib.hid h3
    have HB := Lib.hid h4
    clear h1 h2 h3 h4
    by_cases hlt : k < 20
    · have HE := Lib.hid (E_bd (k + 1) (by omega))
      have HSET := Lib.hid (sj_set l k)
      go_wp2_with fail
      refine (exp_nat (k + 1) f _ (by omega) HF.out).mono ?_
      rintro e w4 ⟨rfl, hq⟩
      have HR1 := Lib.hid (hq.row HR.out)
      have HP1 := Lib.hid (hq.row HP.out)
      have HF1 : Hid (Fd w4 f) := hq.row HF.out
      have HB1 := Lib.hid (hq.below HB.out)
      clear hq HR HP HF HB
      go_wp2_with fail
      refine (eval_word l (E (k + 1)) f p _ 127 HE.out.2 HL.out HP1.out HF1.out).mono ?_
      rintro e w5 ⟨rfl, hq⟩
      have HR2 := Lib.hid (hq.row HR1.out)
      have HP2 := Lib.hid (hq.row HP1.out)
      have HF2 : Hid (Fd w5 f) := hq.row HF1.out
      have HB2 := Lib.hid (hq.below HB1.out)
      clear hq HR1 HP1 HF1 HB1
      have f0 := HR2.out.free k
      have g0 := nat_at HR2.out k (by rw [sj_length]; exact hlt)
      generalize ev (E (k + 1)) (wp l) = x at *
      go_wp2
      go_roundw
      case rel =>
        refine ⟨k + 1, by omega, by go_num, ?_, HP2.out.far (p := ⟨s, k, none⟩) (by show p ≠ s; omega) _, Row.far HF2.out (p := ⟨s, k, none⟩) (by show f ≠ s; omega) _, HB2.out.setCell (p := ⟨s, k, none⟩) hs _⟩
        rw [← HSET.out, ← natCells_set]
        exact HR2.out.set k _
      case measure => simp [intOf] <;> omega
    · obtain rfl : k = 20 := by omega
      go_wp2
      go_ret
      exact ⟨s, hs, rfl, HR.out, HB.out⟩

/-- Are the first syndromes 0? -/
def cwN (l : List Bool) (j : Nat) : Bool := (List.range j).all fun i => ev (E (i + 1)) (wp l) == 0
theorem cwN_succ (l : List Bool) (j : Nat) : cwN l (j + 1) = (cwN l j && (ev (E (j + 1)) (wp l) == 0)) := by
  unfold cwN
  rw [List.range_succ, List.all_append]
  simp
theorem cwN_not (l : List Bool) (j : Nat) (hj : j < 20) (h : ev (E (j + 1)) (wp l) ≠ 0) : isCw l = false := by
  cases hc : isCw l with
  | false => rfl
  | true =>
    have := (isCw_iff l).1 hc (j + 1) (by omega) (by omega)
    exact absurd this h
set_option maxRecDepth 100000 in
theorem is_any (l : List Bool) (w : World) (hl : l.length = 127) :
    Calls Tryd.prog 21 #[.agg (boolCells l)] w fun e w' => e = .returned (.bool (isCw l)) ∧ Below w.heap.size w w' := by
  have HX0 : Hid (Row (w.alloc (.cells (boolCells l) 40)) w.heap.size 40 (boolCells l)) := heap_alloc_new _ _
  have HB0 : Hid (Below w.heap.size w (w.alloc (.cells (boolCells l) 40))) := (Below.refl _ _).alloc (Nat.le_refl _) _
  have HSZ := Lib.hid (word_size l hl)
  have HL := Lib.hid hl
  clear hl
  go_enter Tryd.func21, Tryd.ntmps21
  go_wp2_with (refine wpList_load_row rfl 40 (.tmp 1) rfl w.heap.size rfl 40 (boolCells l) (0, 0) _ HX0.out Tryd.underlying40 rfl HSZ.out ?_)
  refine (syn_any l _ HL.out).mono ?_
  rintro e w1 ⟨g, hg, rfl, hr, hb⟩
  have HB := Lib.hid (HB0.out.trans (hb.mono HB0.out.size))
  have HR := Lib.hid hr
  clear hr hb HB0 HX0 hg HSZ
  go_wp2
  go_loop [8] (fun i => ∃ k : Nat, k ≤ 20 ∧ i = .int .i64 k ∧ cwN l k = true) (fun i => 20 - (intOf i).toNat)
  case atStart => exact ⟨0, by omega, rfl, rfl⟩
  case round =>
    obtain ⟨k, hk, rfl, hc⟩ := hrel
    have HC := Lib.hid hc
    clear hc
    by_cases hlt : k < 20
    · have c0 := nat_at HR.out k (by rw [syn_length]; exact hlt)
      rw [syn_getD l k hlt] at c0
      have HS := Lib.hid (cwN_succ l k)
      have HN := Lib.hid (cwN_not l k hlt)
      obtain ⟨x, hx⟩ : ∃ x, ev (E (k + 1)) (wp l) = x := ⟨_, rfl⟩
      rw [hx] at c0 HS HN
      clear hx
      by_cases h0 : x = 0
      · subst h0
        go_wp2
        go_round
        case rel => exact ⟨k + 1, by omega, by go_num, by rw [HS.out, HC.out]; rfl⟩
        case measure => simp [intOf] <;> omega
      · have e0 : (((x : Nat) : Int) != 0) = true := by rw [bne_iff_ne]; omega
        have e0' : ((x : Nat) != 0) = true := by rw [bne_iff_ne]; omega
        have HN2 := Lib.hid (HN.out h0)
        clear HN HS h0
        go_wp2
        go_ret
        exact ⟨by rw [HN2.out]; rfl, HB.out⟩
    · obtain rfl : k = 20 := by omega
      have HI : Hid (isCw l = true) := HC.out
      go_wp2
      go_ret
      exact ⟨by rw [HI.out]; rfl, HB.out⟩
end Go.Proofs.YtmfnjjkbfabonaaDoor

/- The contracts of layer 4's reference: Rest, Mul, Pow. Conditions: numbers are int's; Pow's count is no more than 1000. -/
namespace Go.Proofs.YtmfnjjkbfabonaaDoor
open Go.RowKit
open M

theorem rest_ref (x : Int) (w : World) (hx : inI x) :
    Calls Tryd.prog 66 #[.int .i64 x] w fun e w' => e = .returned (.int .i64 (el x : Nat)) ∧ w = w' := by
  obtain ⟨h1, h2⟩ := hx
  obtain ⟨he, b1, b2⟩ := tmod_rest x 128 (by decide)
  have HE := Lib.hid he
  clear he
  have HF := Lib.hid (el_int x)
  by_cases h0 : x.tmod 128 < 0
  · go_enter Tryd.func66, Tryd.ntmps66
    go_wp2
    go_ret
    exact ⟨ret_eq (by rw [HF.out]; have := HE.out; omega), rfl⟩
  · go_enter Tryd.func66, Tryd.ntmps66
    go_wp2
    go_ret
    exact ⟨ret_eq (by rw [HF.out]; have := HE.out; omega), rfl⟩

theorem dblE_lt (a : Nat) (h : a < 128) : dblE a < 128 := by
  have := of_all (n := 128) (p := fun a => decide (dblE a < 128)) (by decide +kernel) a h
  simpa using this
theorem pm_end (k a o : Nat) : pm k a 0 o = o := by
  induction k generalizing a o with
  | zero => rfl
  | succ k ih =>
    show pm k (dblE a) (0 / 2) (if 0 % 2 = 1 then o ^^^ a else o) = o
    rw [if_neg (by decide)]
    exact ih _ _

set_option maxHeartbeats 1000000 in
theorem mul_ref (x y : Int) (w : World) (hx : inI x) (hy : inI y) :
    Calls Tryd.prog 49 #[.int .i64 x, .int .i64 y] w fun e w' => e = .returned (.int .i64 (mul (el x) (el y) : Nat)) ∧ w = w' := by
  have HX := Lib.hid hx
  have HY := Lib.hid hy
  obtain ⟨p, hp⟩ : ∃ p, el x = p := ⟨_, rfl⟩
  obtain ⟨q, hq⟩ : ∃ q, el y = q := ⟨_, rfl⟩
  have hp1 : p < 128 := by rw [← hp]; exact el_lt x
  have hq1 : q < 128 := by rw [← hq]; exact el_lt y
  have HP := Lib.hid hp
  have HQ := Lib.hid hq
  clear hx hy hp hq
  go_enter Tryd.func49, Tryd.ntmps49
  go_wp2_with fail
  refine (rest_ref x _ HX.out).mono ?_
  rintro e w1 ⟨rfl, rfl⟩
  rw [HP.out]
  go_wp2_with fail
  refine (rest_ref y _ HY.out).mono ?_
  rintro e w1 ⟨rfl, rfl⟩
  rw [HQ.out]
  go_wp2
  go_loop [0, 1, 5] (fun a b o => ∃ k A B O : Nat, A < 128 ∧ B < 2 ^ k ∧ k ≤ 7 ∧ O < 128 ∧ a = .int .i64 A ∧ b = .int .i64 B ∧ o = .int .i64 O ∧ pm k A B O = mul p q) (fun _ b _ => (intOf b).toNat)
  case atStart => exact ⟨7, p, q, 0, hp1, hq1, by omega, by omega, rfl, rfl, rfl, rfl⟩
  case round =>
    obtain ⟨k, A, B, O, hA, hB, hk, hO, rfl, rfl, rfl, hpm⟩ := hrel
    have HPM := Lib.hid hpm
    clear hpm
    by_cases hz : B = 0
    · subst hz
      go_wp2
      go_ret
      exact ⟨ret_eq (by rw [HP.out, HQ.out, ← HPM.out, pm_end]), rfl⟩
    · obtain ⟨j, rfl⟩ : ∃ j, k = j + 1 := by
        cases k with
        | zero => simp at hB; omega
        | succ j => exact ⟨j, rfl⟩
      have hB7 : B < 128 := by
        have : 2 ^ (j + 1) ≤ 2 ^ 7 := Nat.pow_le_pow_right (by omega) hk
        omega
      have hB2 : B / 2 < 2 ^ j := by rw [Nat.pow_succ] at hB; omega
      have hd := dblE_lt A hA
      have hxl := xor_lt O A hO hA
      have HD : Hid (dblE A = if 128 ≤ 2 * A then (2 * A) ^^^ 137 else 2 * A) := rfl
      have HX1 := Lib.hid (i64_xor_nat O A (by omega) (by omega))
      have HX2 : Hid (bits .xor .i64 (2 * (A : Int)) 137 = (((2 * A) ^^^ 137 : Nat) : Int)) := by
        have := i64_xor_nat (2 * A) 137 (by omega) (by omega)
        rw [show ((2 * A : Nat) : Int) = 2 * (A : Int) by omega] at this
        exact this
      have HS : Hid (pm (j + 1) A B O = pm j (dblE A) (B / 2) (if B % 2 = 1 then O ^^^ A else O)) := rfl
      have HK := Lib.hid hB2
      have HZ := Lib.hid hz
      clear hB hB2 hz
      by_cases hodd : B % 2 = 1 <;> by_cases hbig : 128 ≤ 2 * A
      all_goals
        have HO := Lib.hid hodd
        have HG := Lib.hid hbig
      · have b1 : (B : Int) % 2 = 1 := by omega
        have b2 : 128 ≤ 2 * (A : Int) := by omega
        have hB1 : 0 < (B : Int) := by have := HZ.out; omega
        clear hodd hbig
        go_wp2
        go_round
        case rel => exact ⟨j, dblE A, B / 2, O ^^^ A, hd, HK.out, by omega, hxl, by rw [HD.out, if_pos HG.out, HX2.out], by go_num, by rw [HX1.out], by rw [← HPM.out, HS.out, if_pos HO.out]⟩
        case measure => simp [intOf]; omega
      · have b1 : (B : Int) % 2 = 1 := by omega
        have b2 : ¬ (128 ≤ 2 * (A : Int)) := by omega
        have hB1 : 0 < (B : Int) := by have := HZ.out; omega
        clear hodd hbig
        go_wp2
        go_round
        case rel => exact ⟨j, dblE A, B / 2, O ^^^ A, hd, HK.out, by omega, hxl, by rw [HD.out, if_neg HG.out]; go_num, by go_num, by rw [HX1.out], by rw [← HPM.out, HS.out, if_pos HO.out]⟩
        case measure => simp [intOf]; omega
      · have b1 : (B : Int) % 2 = 0 := by omega
        have b2 : 128 ≤ 2 * (A : Int) := by omega
        have hB1 : 0 < (B : Int) := by have := HZ.out; omega
        clear hodd hbig
        go_wp2
        go_round
        case rel => exact ⟨j, dblE A, B / 2, O, hd, HK.out, by omega, hO, by rw [HD.out, if_pos HG.out, HX2.out], by go_num, rfl, by rw [← HPM.out, HS.out, if_neg HO.out]⟩
        case measure => simp [intOf]; omega
      · have b1 : (B : Int) % 2 = 0 := by omega
        have b2 : ¬ (128 ≤ 2 * (A : Int)) := by omega
        have hB1 : 0 < (B : Int) := by have := HZ.out; omega
        clear hodd hbig
        go_wp2
        go_round
        case rel => exact ⟨j, dblE A, B / 2, O, hd, HK.out, by omega, hO, by rw [HD.out, if_neg HG.out]; go_num, by go_num, rfl, by rw [← HPM.out, HS.out, if_neg HO.out]⟩
        case measure => simp [intOf]; omega

theorem pow_ref (x : Int) (n : Nat) (w : World) (hx : inI x) (hn : n ≤ 1000) :
    Calls Tryd.prog 47 #[.int .i64 x, .int .i64 n] w fun e w' => e = .returned (.int .i64 (pw (el x) n : Nat)) ∧ w = w' := by
  have HX := Lib.hid hx
  clear hx
  go_enter Tryd.func47, Tryd.ntmps47
  go_wp2
  go_loop [5, 6] (fun o i => ∃ k : Nat, k ≤ n ∧ i = .int .i64 k ∧ o = .int .i64 (pw (el x) k : Nat)) (fun _ i => n - (intOf i).toNat)
  case atStart => exact ⟨0, Nat.zero_le _, rfl, rfl⟩
  case round =>
    obtain ⟨k, hk, rfl, rfl⟩ := hrel
    by_cases hlt : k < n
    · have hl := pw_lt (el x) k (el_lt x)
      have HS : Hid (mul (el ((pw (el x) k : Nat) : Int)) (el x) = pw (el x) (k + 1)) := by unfold Hid; rw [el_nat _ hl]; rfl
      go_wp2_with (go_at_call 49; refine (mul_ref _ x _ ⟨by omega, by omega⟩ HX.out).mono ?_; rintro e w' ⟨rfl, rfl⟩)
      go_round
      case rel => exact ⟨k + 1, by omega, by go_num, by rw [HS.out]⟩
      case measure => simp [intOf]; omega
    · obtain rfl : k = n := by omega
      go_wp2
      go_ret
      exact ⟨rfl, rfl⟩
end Go.Proofs.YtmfnjjkbfabonaaDoor

/- The contracts of layer 5's timesRoot and of the reference's Times. Conditions: elements, no more than 100; the Field lies in a block of its own. -/
namespace Go.Proofs.YtmfnjjkbfabonaaDoor
open Go.RowKit
open M

/-- A product with x + a, as far as the loop has come. -/
def qj (p : List Nat) (a j : Nat) : List Nat := (List.range (p.length + 1)).map fun i => if i < j then (tm p a).getD i 0 else if i = j then (0 :: p).getD j 0 else 0
theorem qj_length (p : List Nat) (a j : Nat) : (qj p a j).length = p.length + 1 := by simp [qj]
theorem qj_zero (p : List Nat) (a : Nat) : qj p a 0 = List.replicate (p.length + 1) 0 := by
  unfold qj
  rw [tab_congr (p.length + 1) _ (fun _ => 0) ?_, List.map_const', List.length_range]
  intro i _
  rw [if_neg (by omega)]
  split <;> simp
theorem qj_done (p : List Nat) (a : Nat) : qj p a p.length = tm p a := by
  unfold qj
  rw [tab_congr (p.length + 1) _ (fun i => (tm p a).getD i 0) ?_, tab_of _ 0 _ (tm_length p a)]
  intro i hi
  by_cases h : i < p.length
  · rw [if_pos h]
  · obtain rfl : i = p.length := by omega
    rw [if_neg h, if_pos rfl]
    unfold tm
    rw [lx_getD _ _ _ (by simp)]
    have e : ((p.map fun c => mul c a) ++ [0]).getD p.length 0 = 0 := by
      rw [List.getD_eq_getElem?_getD, List.getElem?_append_right (by simp)]
      simp
    rw [e, Nat.xor_zero]
theorem tm_getD (p : List Nat) (a i : Nat) (h : i < p.length) : (tm p a).getD i 0 = (0 :: p).getD i 0 ^^^ mul (p.getD i 0) a := by
  unfold tm
  rw [lx_getD _ _ _ (by simp)]
  congr 1
  rw [List.getD_eq_getElem?_getD, List.getElem?_append_left (by simpa using h), List.getElem?_map, List.getD_eq_getElem?_getD, List.getElem?_eq_getElem h]
  rfl
theorem qj_set (p : List Nat) (a j : Nat) : ((qj p a j).set j ((tm p a).getD j 0)).set (j + 1) (p.getD j 0) = qj p a (j + 1) := by
  unfold qj
  rw [tab_set (p.length + 1) _ (fun i => if i < j + 1 then (tm p a).getD i 0 else 0) j _ (by rw [if_pos (by omega)]) ?_, tab_set (p.length + 1) _ _ (j + 1) _ ?_ ?_]
  · rw [if_neg (by omega), if_pos rfl]; simp
  · intro i e
    by_cases h1 : i < j + 1
    · rw [if_pos h1, if_pos h1]
    · rw [if_neg h1, if_neg e, if_neg h1]
  · intro i e
    by_cases h1 : i < j
    · rw [if_pos (by omega), if_pos h1]
    · rw [if_neg (by omega), if_neg h1, if_neg e]
theorem qj_set2 (p : List Nat) (a j : Nat) : ((qj p a j).set (j + 1) (p.getD j 0)).set j ((tm p a).getD j 0) = qj p a (j + 1) := by
  rw [← qj_set p a j]
  exact List.set_comm _ _ (by omega)
theorem qj_at (p : List Nat) (a j : Nat) (h : j < p.length) : (qj p a j).getD j 0 = (0 :: p).getD j 0 := by
  unfold qj
  rw [tab_getD _ _ _ _ (by omega), if_neg (by omega), if_pos rfl]
theorem qj_next (p : List Nat) (a j : Nat) (h : j < p.length) : (qj p a j).getD (j + 1) 0 = 0 := by
  unfold qj
  rw [tab_getD _ _ _ _ (by omega), if_neg (by omega), if_neg (by omega)]
theorem nset (l : List Nat) (i k v : Nat) (h : i ≠ k) : (l.set i v).getD k 0 = l.getD k 0 := by
  rw [List.getD_eq_getElem?_getD, List.getD_eq_getElem?_getD, List.getElem?_set, if_neg h]
theorem mul_nat (a b m g : Nat) (w : World) (ha : a < 128) (hb : b < 128) (hm : mul a b = m) (h : Fd w g) :
    Calls Tryd.prog 61 #[.pointer (some ⟨g, 0, none⟩), .int .i64 a, .int .i64 b] w fun e w' => e = .returned (.int .i64 (m : Nat)) ∧ Qt w w' := by
  have := mul_field (a : Int) (b : Int) g w ⟨by omega, by omega⟩ ⟨by omega, by omega⟩ h
  rwa [el_nat a ha, el_nat b hb, hm] at this
theorem mul_rnat (a b m : Nat) (w : World) (ha : a < 128) (hb : b < 128) (hm : mul a b = m) :
    Calls Tryd.prog 49 #[.int .i64 a, .int .i64 b] w fun e w' => e = .returned (.int .i64 (m : Nat)) ∧ w = w' := by
  have := mul_ref (a : Int) (b : Int) w ⟨by omega, by omega⟩ ⟨by omega, by omega⟩
  rwa [el_nat a ha, el_nat b hb, hm] at this
/-- A list of elements, where it lies. -/
def NatsAt (W : World) (v : Value) (p : List Nat) : Prop :=
  ∃ b cap, v = .slice (some ⟨b, 0, none⟩) p.length cap ∧ Row W b 3 (natCells p)

set_option maxRecDepth 100000 in
set_option maxHeartbeats 1000000 in
theorem tr_any (p : List Nat) (a f b cap : Nat) (w : World) (hp : Els p) (ha : a < 128) (hlen : p.length ≤ 100) (h : ∀ i, i < p.length → w.cell? ⟨b, i, none⟩ = some (.int .i64 (p.getD i 0 : Nat))) (hbw : b < w.heap.size) (hf : Fd w f) :
    Calls Tryd.prog 63 #[.slice (some ⟨b, 0, none⟩) p.length cap, .int .i64 a, .func (.func 61) #[.pointer (some ⟨f, 0, none⟩)] #[]] w fun e w' =>
      e = .returned (.slice (some ⟨w.heap.size, 0, none⟩) (p.length + 1) (p.length + 1)) ∧ Row w' w.heap.size 3 (natCells (tm p a)) ∧ Below w.heap.size w w' := by
  obtain ⟨n, hn⟩ : ∃ n, p.length = n := ⟨_, rfl⟩
  have hmk : ∀ w, (Instr.makeSlice 57 (.int .i64 ((n : Int) + 1)) (.int .i64 ((n : Int) + 1))).run Tryd.prog w = .ok (.slice (some ⟨w.heap.size, 0, none⟩) (n + 1) (n + 1)) (w.alloc (.cells (madeCells #[.int .i64 0] (n + 1)) 3)) := fun w => by
    have := run_make_row' (P := Tryd.prog) 57 3 (.int .i64 0) 8 Tryd.underlying57 int_info rfl .i64 .i64 (n + 1) (by omega) (by omega) w
    rw [show ((n + 1 : Nat) : Int) = (n : Int) + 1 by omega] at this
    exact this
  have HZ := Lib.hid ((made_nats (n + 1)).trans (by rw [← hn, ← qj_zero p a]))
  have HN := Lib.hid hn
  have HC := Lib.hid h
  have HF := Lib.hid hf
  have HP := Lib.hid hp
  rw [hn] at hlen ⊢
  clear hn h hp hf
  go_enter Tryd.func63, Tryd.ntmps63
  go_wp2
  clear hmk
  have HR0 : Hid (Row (w.alloc (.cells (madeCells #[.int .i64 0] (n + 1)) 3)) w.heap.size 3 (natCells (qj p a 0))) := by unfold Hid; rw [← HZ.out]; exact heap_alloc_new _ _
  have HB0 : Hid (Below w.heap.size w (w.alloc (.cells (madeCells #[.int .i64 0] (n + 1)) 3))) := (Below.refl _ _).alloc (Nat.le_refl _) _
  generalize w.alloc (.cells (madeCells #[.int .i64 0] (n + 1)) 3) = w1 at *
  go_loopw [16] (fun i wr => ∃ k : Nat, k ≤ n ∧ i = .int .i64 k ∧ Row wr w.heap.size 3 (natCells (qj p a k)) ∧ Below w.heap.size w wr) (fun i _ => n - (intOf i).toNat)
  case atStart => exact ⟨0, by omega, rfl, HR0.out, HB0.out⟩
  case round =>
    clear HR0 HB0 HZ
    obtain ⟨k, hk, rfl, h1, h2⟩ := hrel
    have HR := Lib.hid h1
    have HB := Lib.hid h2
    clear h1 h2
    by_cases hlt : k < n
    · have c0 : wr.cell? ⟨b, k, none⟩ = some (.int .i64 (p.getD k 0 : Nat)) := (HB.out.cell (p := ⟨b, k, none⟩) hbw).trans (HC.out k (by have := HN.out; omega))
      have c1 := nat_at HR.out k (by rw [qj_length, HN.out]; omega)
      rw [qj_at p a k (by have := HN.out; omega)] at c1
      have HS := Lib.hid (qj_set p a k)
      have HT := Lib.hid (tm_getD p a k (by have := HN.out; omega))
      have hx := HP.out.getD k
      have hy : (0 :: p).getD k 0 < 128 := by
        cases k with
        | zero => simp
        | succ k => rw [List.getD_cons_succ]; exact HP.out.getD k
      have hm := mul_lt _ a hx ha
      obtain ⟨x, hxe⟩ : ∃ x, p.getD k 0 = x := ⟨_, rfl⟩
      obtain ⟨y, hye⟩ : ∃ y, (0 :: p).getD k 0 = y := ⟨_, rfl⟩
      rw [hxe] at hx c0 hm HS HT
      rw [hye] at hy c1 HT
      obtain ⟨m, hme⟩ : ∃ m, mul x a = m := ⟨_, rfl⟩
      rw [hme] at hm HT
      have HME := Lib.hid hme
      have hxor := i64_xor_nat y m (by omega) (by omega)
      have f0 := HR.out.free k
      have HFR := Lib.hid (Row.below HF.out HB.out HF.out.lt)
      clear hxe hye hme
      go_wp2
      go_region_with (go_at_call 61; refine (mul_nat x a m f _ hx ha HME.out (Row.drewN HFR.out _)).mono ?_; rintro e w' ⟨rfl, ⟨q, rfl⟩⟩)
      all_goals
        have HR2 : Hid (Row ((wr.drewN (1 + q)).setCell ⟨w.heap.size, k, none⟩ (.int .i64 ((y ^^^ m : Nat) : Int))) w.heap.size 3 (natCells ((qj p a k).set k (y ^^^ m)))) := by
          unfold Hid; rw [← natCells_set]; exact Row.set (HR.out.drewN _) k _
        have HB2 : Hid (Below w.heap.size w ((wr.drewN (1 + q)).setCell ⟨w.heap.size, k, none⟩ (.int .i64 ((y ^^^ m : Nat) : Int)))) := (Below.drewN HB.out _).setCell (p := ⟨w.heap.size, k, none⟩) (Nat.le_refl _) _
        clear c0 c1 f0 hxor
        generalize (wr.drewN (1 + q)).setCell ⟨w.heap.size, k, none⟩ (.int .i64 ((y ^^^ m : Nat) : Int)) = w4 at *
        have c2 := nat_at HR2.out (k + 1) (by rw [List.length_set, qj_length, HN.out]; omega)
        rw [nset _ _ _ _ (by omega), qj_next p a k (by have := HN.out; omega)] at c2
        have f2 := HR2.out.free (k + 1)
        have hx2 : bits .xor .i64 0 (x : Int) = (x : Int) := by
          have := i64_xor_nat 0 x (by omega) (by omega)
          rw [Nat.zero_xor] at this
          exact this
        go_wp2
        go_roundw
        case rel =>
          refine ⟨k + 1, by omega, by go_num, ?_, HB2.out.setCell (p := ⟨w.heap.size, k + 1, none⟩) (Nat.le_refl _) _⟩
          rw [← HS.out, HT.out, ← natCells_set]
          exact HR2.out.set (k + 1) _
        case measure => simp [intOf] <;> omega
    · obtain rfl : k = n := by omega
      have HD := Lib.hid (qj_done p a)
      rw [HN.out] at HD
      go_wp2
      go_ret
      exact ⟨rfl, by rw [← HD.out]; exact HR.out, HB.out⟩
end Go.Proofs.YtmfnjjkbfabonaaDoor
