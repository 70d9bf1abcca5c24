/-
  The contract of layer 5's Encode. No conditions.
-/
import Derived.Test.YtbokecpcefcimaaHy
import Derived.Laws.CopyRow
namespace Go.Proofs.Ytbokecpcefcimaa
open Go.RowKit
open M

/-- A wide number's bits from 63 on, as far as the loop has come. -/
def ej (x : BitVec 64) (j : Nat) : List Bool := (List.range 127).map fun i => if i < 63 + j then (if 63 ≤ i then x.getLsbD (i - 63) else false) else false
theorem ej_length (x : BitVec 64) (j : Nat) : (ej x j).length = 127 := by unfold ej; rw [List.length_map, List.length_range]
theorem ej_zero (x : BitVec 64) : ej x 0 = w0 := by
  unfold ej w0
  rw [tab_congr 127 _ (fun _ => false) ?_, List.map_const', List.length_range]
  intro i _
  split
  · rw [if_neg (by omega)]
  · rfl
theorem ej_set (x : BitVec 64) (j : Nat) : (ej x j).set (63 + j) (x.getLsbD j) = ej x (j + 1) := by
  unfold ej
  apply tab_set
  · rw [if_pos (by omega), if_pos (by omega), show 63 + j - 63 = j by omega]
  · intro i e
    rcases Nat.lt_or_ge i (63 + j) with h1 | h1
    · rw [if_pos (show i < 63 + (j + 1) by omega), if_pos h1]
    · rw [if_neg (show ¬ i < 63 + (j + 1) by omega), if_neg (show ¬ i < 63 + j by omega)]
theorem ej_drop (x : BitVec 64) : (ej x 64).drop 63 = xb x := by
  apply bext _ _ (by rw [List.length_drop, ej_length, xb_length])
  intro i hi
  rw [List.length_drop, ej_length] at hi
  rw [xb_getD _ _ (by omega), List.getD_eq_getElem?_getD, List.getElem?_drop, ← List.getD_eq_getElem?_getD]
  unfold ej
  rw [tab_getD _ _ _ _ (by omega), if_pos (by omega), if_pos (by omega), show 63 + i - 63 = i by omega]
theorem ej_rb (x : BitVec 64) : ej x 64 = rb (xb x) 0 := by
  have hx := xb_length x
  apply bext _ _ (by rw [ej_length, rb_length _ hx 0 (by omega)])
  intro i hi
  rw [ej_length] at hi
  unfold rb
  rw [ob_getD]
  show _ = ((r0 (xb x)).getD i 0 == 1)
  unfold ej
  rw [tab_getD _ _ _ _ hi, if_pos (by omega)]
  by_cases h : 63 ≤ i
  · rw [if_pos h]
    conv => rhs; rw [show i = 63 + (i - 63) by omega, r0_high, xb_getD _ _ (by omega)]
    cases x.getLsbD (i - 63) <;> rfl
  · rw [if_neg h, r0_low _ _ (by omega)]; rfl

/-- copy of a word's first 63 bits. -/
theorem copy_word (W : World) (g c : Nat) (a b : List Bool) (ha : a.length = 127) (hb : b.length = 127) (hg : Row W g 32 (boolCells a)) (hc : Row W c 32 (boolCells b)) :
    (Builtin.copy_ #[49, 49] 3 #[.slice (some ⟨g, 0, none⟩) 63 127, .slice (some ⟨c, 0, none⟩) 63 127]).run Try.prog W = .ok (goInt 63) (W.setRow g (boolCells (b.take 63 ++ a.drop 63))) := by
  have hn : ((b.take 63).map Value.bool).length = 63 := by rw [List.length_map, List.length_take, hb]; rfl
  have hs : (Try.prog.info? 4).map (·.size) = some 1 := by
    have := cells_bool
    unfold Program.cellsOf at this
    obtain ⟨i, hi⟩ := word_info?
    rw [hi] at this ⊢
    simpa using this
  have h := run_copy_row (P := Try.prog) W 49 49 3 4 g 0 63 127 ⟨c, 0, none⟩ 63 127 (boolCells a) 32 ((b.take 63).map Value.bool)
    Try.underlying49 hs hg (by rw [hn]; rfl) (fun j v hv => ?_) (by rw [hn, boolCells_size, ha]; omega) (fun v hv => ?_)
  · rw [hn] at h
    rw [h]
    congr 2
    unfold boolCells
    simp
  · have hj : j < 63 := by
      rcases Nat.lt_or_ge j 63 with h | h
      · exact h
      · rw [List.getElem?_eq_none (by rw [hn]; exact h)] at hv; cases hv
    have hadd : (⟨c, 0, none⟩ : Addr).add j = ⟨c, j, none⟩ := by unfold Addr.add; split <;> simp_all
    rw [hadd, word_at hc j (by omega), ← hv, List.getElem?_map, List.getElem?_take, if_pos hj, List.getElem?_eq_getElem (show j < b.length by omega), List.getD_eq_getElem?_getD, List.getElem?_eq_getElem (show j < b.length by omega)]
    rfl
  · obtain ⟨x, _, rfl⟩ := List.mem_map.1 hv
    rfl
theorem store_at (w : World) (g : Nat) (old l : List Bool) (ho : old.length = 127) (h : l.length = 127) (hg : Row w g 32 (boolCells old)) :
    (storeCells ⟨g, 0, none⟩ (boolCells l).toList 0).run Try.prog w = .ok () (w.setRow g (boolCells l)) := by
  have hi := word_size l h
  have := run_storeVar_row (P := Try.prog) w g 32 32 (boolCells old) (boolCells l) hg hi (by rw [boolCells_size, boolCells_size, ho, h]) (boolCells_one l)
  cases hq : Try.prog.info? 32 with
  | none => simp [hq] at hi
  | some i =>
    have hs : (boolCells l).size = i.size := by simp [hq] at hi; omega
    simpa [storeVar, sizeOf, typeInfo, hq, Value.cells, hs] using this
theorem bit_u64 (x : BitVec 64) (k : Nat) : (bits .and .u64 (un x / 2 ^ k) 1 == 1) = x.getLsbD k := by
  have hx := x.isLt
  have h2 : x.toNat / 2 ^ k ≤ x.toNat := Nat.div_le_self _ _
  have e : un x / 2 ^ k = ((x.toNat / 2 ^ k : Nat) : Int) := div_pow x.toNat k
  rw [e, show (1 : Int) = ((1 : Nat) : Int) from rfl, u64_and_nat _ _ (by omega) (by decide), Nat.and_one_is_mod]
  show _ = x.toNat.testBit k
  rw [Nat.testBit_eq_decide_div_mod_eq]
  rcases Nat.mod_two_eq_zero_or_one (x.toNat / 2 ^ k) with h | h <;> simp [h]
set_option maxRecDepth 100000 in
set_option maxHeartbeats 1000000 in
theorem encode_any (x : BitVec 64) (w : World) :
    Calls Try.prog 17 #[.int .u64 (un x)] w fun e w' => e = .returned (.agg (boolCells (cwd x))) ∧ Below w.heap.size w w' := by
  have hz := word_zero w
  have hz1 := fun o => word_zero (w.alloc o)
  have HEL := Lib.hid (ej_length x)
  have HRL := Lib.hid (rb_length (xb x) (xb_length x))
  go_enter Try.func17, Try.ntmps17
  go_wp2
  clear hz hz1
  have HR0 : Hid (Row ((w.alloc (.cells (boolCells w0) 32)).alloc (.cells (boolCells w0) 32)) w.heap.size 32 (boolCells w0)) := heap_alloc2_old _ _ _
  have HR1 : Hid (Row ((w.alloc (.cells (boolCells w0) 32)).alloc (.cells (boolCells w0) 32)) (w.heap.size + 1) 32 (boolCells (ej x 0))) := by
    unfold Hid; rw [ej_zero]; exact heap_alloc2_new _ _ _
  have HB0 : Hid (Below w.heap.size w ((w.alloc (.cells (boolCells w0) 32)).alloc (.cells (boolCells w0) 32))) := ((Below.refl _ _).alloc (Nat.le_refl _) _).alloc (by simp) _
  generalize (w.alloc (.cells (boolCells w0) 32)).alloc (.cells (boolCells w0) 32) = w1 at *
  go_loopw [8] (fun i wr => ∃ k : Nat, k ≤ 64 ∧ i = .int .i64 k ∧ Row wr w.heap.size 32 (boolCells w0) ∧ Row wr (w.heap.size + 1) 32 (boolCells (ej x k)) ∧ Below w.heap.size w wr) (fun i _ => 64 - (intOf i).toNat)
  case atStart => exact ⟨0, by omega, rfl, HR0.out, HR1.out, HB0.out⟩
  case round =>
    clear HR0 HR1 HB0
    obtain ⟨k, hk, rfl, hr0, hr, hb⟩ := hrel
    have HR0 := Lib.hid hr0
    have HR := Lib.hid hr
    have HB := Lib.hid hb
    clear hr0 hr hb
    by_cases hlt : k < 64
    · have hbit := bit_u64 x k
      have HS := Lib.hid (ej_set x k)
      have c0 := word_at HR.out (63 + k) (by rw [HEL.out]; omega)
      have f0 := HR.out.free (63 + k)
      generalize x.getLsbD k = b at *
      go_wp2
      go_roundw
      case rel =>
        refine ⟨k + 1, by omega, by go_num, HR0.out.far (p := ⟨w.heap.size + 1, 63 + k, none⟩) (by simp) _, ?_, HB.out.setCell (p := ⟨w.heap.size + 1, 63 + k, none⟩) (by simp) _⟩
        rw [← HS.out, ← boolCells_set]
        exact HR.out.set _ _
      case measure => simp [intOf] <;> omega
    · obtain rfl : k = 64 := by omega
      have HSZ := Lib.hid (word_size (ej x 64) (HEL.out 64))
      have hz := word_zero wr
      have hst := store_word wr (ej x 64) (HEL.out 64)
      have hsz : (boolCells (ej x 64)).size = 127 := by rw [boolCells_size, HEL.out]
      clear hlt hk
      go_wp2_with (refine wpList_load_row rfl 32 (.tmp 3) rfl (w.heap.size + 1) rfl 32 (boolCells (ej x 64)) (0, 0) _ HR.out Try.underlying32 rfl HSZ.out ?_)
      clear hz hst hsz HSZ
      have hs := HB.out.size
      have hs1 := Row.lt HR.out
      have HRA : Hid (Row (wr.alloc (.cells (boolCells (ej x 64)) 32)) (w.heap.size + 1) 32 (boolCells (ej x 64))) := Row.alloc HR.out _
      have HR0A : Hid (Row (wr.alloc (.cells (boolCells (ej x 64)) 32)) w.heap.size 32 (boolCells w0)) := Row.alloc HR0.out _
      have HCA : Hid (Row (wr.alloc (.cells (boolCells (ej x 64)) 32)) wr.heap.size 32 (boolCells (rb (xb x) 0))) := by
        unfold Hid; rw [ej_rb]; exact heap_alloc_new _ _
      have HBA : Hid (Below w.heap.size w (wr.alloc (.cells (boolCells (ej x 64)) 32))) := HB.out.alloc hs _
      clear HR0 HR HB
      have hc : wr.heap.size < (wr.alloc (.cells (boolCells (ej x 64)) 32)).heap.size := Row.lt HCA.out
      generalize wr.heap.size = c at *
      generalize wr.alloc (.cells (boolCells (ej x 64)) 32) = w2 at *
      refine (gen_any _).mono ?_
      rintro e w3 ⟨b, hbs, rfl, hg, hb⟩
      have HR := Lib.hid (Row.box HRA.out hb)
      have HR0 := Lib.hid (Row.box HR0A.out hb)
      have HC := Lib.hid (Row.box HCA.out hb)
      have HB := Lib.hid (HBA.out.trans (hb.mono HBA.out.size))
      have HG := Lib.hid hg
      clear HRA HR0A HCA HBA hb hg
      go_wp2
      go_loopw [7] (fun i wr => ∃ d : Nat, d ≤ 64 ∧ i = .int .i64 (126 - (d : Int)) ∧ Row wr c 32 (boolCells (rb (xb x) d)) ∧ Only c w3 wr) (fun i _ => (intOf i).toNat + 1 - 63)
      case atStart => exact ⟨0, by omega, rfl, HC.out, Only.refl _ _⟩
      case round =>
        clear HC
        obtain ⟨d, hd, rfl, hr, ho⟩ := hrel
        have HC := Lib.hid hr
        have HO := Lib.hid ho
        clear hr ho
        by_cases hlt : d < 64
        · have c0 := word_at HC.out (126 - d) (by rw [HRL.out d hd]; omega)
          have HN := Lib.hid (rb_not (xb x) d)
          have HS := Lib.hid (rb_one (xb x) (xb_length x) d hlt)
          have HGR : Hid (Row wr b 3 (natCells genT)) := (HO.out.block b (by omega)).trans HG.out
          generalize (rb (xb x) d).getD (126 - d) false = y at *
          rw [show (126 - (d : Int)) = ((126 - d : Nat) : Int) by omega]
          obtain ⟨i, hi⟩ : ∃ i, 126 - d = i := ⟨_, rfl⟩
          rw [hi] at c0 ⊢
          have hi1 : 63 ≤ i := by omega
          have hi2 : i ≤ 126 := by omega
          cases y
          · go_wp2
            go_roundw
            case rel => exact ⟨d + 1, by omega, by congr 1; omega, by rw [HN.out rfl]; exact HC.out, HO.out⟩
            case measure => simp [intOf] <;> omega
          · go_wp2_with fail
            have hA := add_any (rb (xb x) d) c b (63 - d) wr (HRL.out d hd) (by omega) HC.out HGR.out (by omega)
            rw [show ((63 - d : Nat) : Int) = (i : Int) - 63 by omega] at hA
            refine hA.mono ?_
            rintro e w4 ⟨rfl, hr, ho⟩
            have HC4 := Lib.hid hr
            have HO4 := Lib.hid (HO.out.trans ho)
            clear hr ho hA c0
            go_wp2
            go_roundw
            case rel => exact ⟨d + 1, by omega, by congr 1; omega, by rw [HS.out (by trivial)]; exact HC4.out, HO4.out⟩
            case measure => simp [intOf] <;> omega
        · obtain rfl : d = 64 := by omega
          clear hlt hd
          have HA : Hid (Row wr (w.heap.size + 1) 32 (boolCells (ej x 64))) := (HO.out.block (w.heap.size + 1) (by omega)).trans HR.out
          have HZ : Hid (Row wr w.heap.size 32 (boolCells w0)) := (HO.out.block w.heap.size (by omega)).trans HR0.out
          have hcp := copy_word wr.drew (w.heap.size + 1) c (ej x 64) (rb (xb x) 64) (HEL.out 64) (HRL.out 64 (by omega)) (HA.out.drewN 1) (HC.out.drewN 1)
          have hE : (rb (xb x) 64).take 63 ++ (ej x 64).drop 63 = cwd x := rb_end _ _ (ej_drop x)
          have hl := cwd_length x
          obtain ⟨cw, hcw⟩ : ∃ l, cwd x = l := ⟨_, rfl⟩
          rw [hcw] at hE hl
          have HCW := Lib.hid hcw
          rw [hE] at hcp
          have HSZ := Lib.hid (word_size cw hl)
          have HCL := Lib.hid hl
          clear hE hcw hl
          have HBW : Hid (Below w.heap.size w (wr.drew.setRow (w.heap.size + 1) (boolCells cw))) := below_setRow (below_drew1 (HB.out.trans (HO.out.below (by omega)))) (by omega) _
          have HRW : Hid (Row (wr.drew.setRow (w.heap.size + 1) (boolCells cw)) (w.heap.size + 1) 32 (boolCells cw)) := Row.setRow (HA.out.drewN 1) _
          have HZW : Hid (Row (wr.drew.setRow (w.heap.size + 1) (boolCells cw)) w.heap.size 32 (boolCells w0)) := (setRow_other _ _ _ _ (by omega)).trans (HZ.out.drewN 1)
          clear HA HZ HC HO HG HR0 HB HR
          go_wp2
          go_region
          clear hcp
          have hsz := boolCells_size cw
          rw [HCL.out] at hsz
          generalize wr.drew.setRow (w.heap.size + 1) (boolCells cw) = w5 at *
          have hst := store_at w5 w.heap.size w0 cw w0_length HCL.out HZW.out
          go_wp2_with (refine wpList_load_row rfl 32 (.tmp 3) rfl (w.heap.size + 1) rfl 32 (boolCells cw) (0, 0) _ HRW.out Try.underlying32 rfl HSZ.out ?_)
          refine bodyPost_ret (v := .agg (boolCells cw)) (results_cell_row Try.results17 _ _ w.heap.size 32 (boolCells cw) (0, 0) _ rfl (Row.setRow HZW.out _) Try.underlying32 rfl HSZ.out) rfl ⟨by rw [HCW.out], below_setRow HBW.out (Nat.le_refl _) _⟩
end Go.Proofs.Ytbokecpcefcimaa
