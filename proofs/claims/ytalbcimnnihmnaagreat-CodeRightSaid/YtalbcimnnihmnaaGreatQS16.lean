/-
  Contracts and plain facts that the laws share; each piece is headed by what it holds and its conditions.
-/
import Derived.Test.YtalbcimnnihmnaaGreatQS5
import Derived.Test.YtalbcimnnihmnaaGreatQS12
import Derived.Test.YtalbcimnnihmnaaGreatQS8
import Derived.Test.YtalbcimnnihmnaaGreatQS1
import Derived.Test.YtalbcimnnihmnaaGreatQS7
import Derived.Deep.WholeRow
import Derived.DeepKeys
import Derived.StillTailTactics
import Derived.Deep.Cut
import Derived.Stop.Joined
import Derived.Deep.RegionWith

/- Frames by value: how they lie, their zero value, that == tells whether they are the same. No conditions. -/
namespace Go.Proofs.YtalbcimnnihmnaaGreat
open Go.RowKit
open M
/-- Frame of nothing; wheel of nothing. -/
def f0 : List Int := List.replicate 32 0
theorem f0_length : f0.length = 32 := by unfold f0; rw [List.length_replicate]
theorem frame_info : (Tryz.prog.info? 41).map (fun i => (i.zero, i.size)) = some (some (.agg (iCells f0)), 32) := by kernel_rfl
theorem nums_info : (Tryz.prog.info? 22).map (fun i => (i.zero, i.size)) = some (some (.agg (iCells f0)), 32) := by kernel_rfl
theorem frame_zero (w : World) : (zeroValue 41).run Tryz.prog w = .ok (.agg (iCells f0)) w := (zero_of_info frame_info).1 w
theorem nums_zero (w : World) : (zeroValue 22).run Tryz.prog w = .ok (.agg (iCells f0)) w := (zero_of_info nums_info).1 w
theorem frame_size (l : List Int) (h : l.length = 32) : (Tryz.prog.info? 41).map (·.size) = some (iCells l).size := by
  rw [iCells_size, h]; exact (zero_of_info frame_info).2
theorem nums_size (l : List Int) (h : l.length = 32) : (Tryz.prog.info? 22).map (·.size) = some (iCells l).size := by
  rw [iCells_size, h]; exact (zero_of_info nums_info).2
theorem frame_same (l m : List Int) (h : l.length = 32) (k : m.length = 32) : (iCells l).size = (iCells m).size := by
  rw [iCells_size, iCells_size, h, k]
theorem int_is : (Tryz.prog.info? 3).isSome = true := by kernel_rfl
theorem int_info32 : ∃ i, Tryz.prog.info? 3 = some i := by
  cases h : Tryz.prog.info? 3 with
  | some i => exact ⟨i, rfl⟩
  | none =>
    have := int_is
    rw [h] at this; cases this
theorem plain_int : Tryz.prog.plainKey 3 = true := by kernel_rfl
theorem cells_int : Tryz.prog.cellsOf 3 = 1 := by kernel_rfl
theorem ints_items (d : Nat) (a b : List Int) (w : World) (hl : a.length = b.length) : ∀ is : List Nat, (∀ i ∈ is, i < a.length) →
    (Op.eqItems (d + 1) 3 (Tryz.prog.cellsOf 3) (iCells a) (iCells b) is).run Tryz.prog w = .ok (is.all fun i => a.getD i 0 == b.getD i 0) w
  | [], _ => by simp [Op.eqItems]
  | i :: is, h => by
    have ih := ints_items d a b w hl is fun j hj => h j (List.mem_cons_of_mem _ hj)
    have hi := h i (List.mem_cons_self ..)
    have p1 := run_part_plain w plain_int (iCells_get a i hi)
    have p2 := run_part_plain w plain_int (iCells_get b i (by omega))
    rw [cells_int] at ih ⊢
    simp only [Op.eqItems, Sem.run_bind, Nat.mul_one, p1, p2, Result.andThen_ok, run_equalIn_int w d 3 .i64 .i64 _ _ Tryz.underlying3, List.all_cons]
    cases a.getD i 0 == b.getD i 0
    · simp
    · simpa using ih
theorem all_same (a b : List Int) (h : a.length = b.length) (n : Nat) (hn : n = a.length) : ((List.range n).all fun i => a.getD i 0 == b.getD i 0) = (a == b) := by
  subst hn
  rw [Bool.eq_iff_iff, List.all_eq_true, beq_iff_eq]
  constructor
  · intro k
    apply List.ext_getElem h
    intro i h1 h2
    have := k i (List.mem_range.2 h1)
    rw [List.getD_eq_getElem?_getD, List.getD_eq_getElem?_getD, List.getElem?_eq_getElem h1, List.getElem?_eq_getElem h2] at this
    simpa using this
  · rintro rfl i _
    simp
theorem frame_eq (a b : List Int) (ha : a.length = 32) (hb : b.length = 32) (w : World) :
    (Op.equalIn 10000 41 (.agg (iCells a)) (.agg (iCells b))).run Tryz.prog w = .ok (a == b) w := by
  obtain ⟨i, hi⟩ := int_info32
  rw [show (10000 : Nat) = 9998 + 1 + 1 from rfl, run_equalIn_array w (9998 + 1) _ _ Tryz.underlying41 hi, ints_items 9998 a b w (by omega) _ (fun j hj => by have := List.mem_range.1 hj; omega), all_same a b (by omega) 32 ha.symm]
theorem index_frame (l : List Int) (hl : l.length = 32) (k : Nat) (hk : k < 32) (w : World) :
    (Instr.index 41 (.agg (iCells l)) (.int .i64 k)).run Tryz.prog w = .ok (.int .i64 (l.getD k 0)) w := by
  obtain ⟨i, hi, _, _, _⟩ := info_parts int_info
  have c := iCells_get l k (by omega)
  simp [Instr.index, run_underlying Tryz.underlying41, asIntOf, hk, run_sizeOf w hi, cells_int, c, go_sem]
end Go.Proofs.YtalbcimnnihmnaaGreat

/- band's questions (is there such a band, may a step be), the closure that tells what is too great for a step, whether a list of numbers has any such. Conditions: a step from 0 to 14 where a closure is made; numbers of a list as they lie. -/
namespace Go.Proofs.YtalbcimnnihmnaaGreat
open Go.RowKit
open M
/-- Whether there is such a band. -/
def isb (n : Int) : Bool := decide (0 ≤ n ∧ n < 8)
/-- Whether a step may be. -/
def isp (n : Int) : Bool := decide (0 ≤ n ∧ n ≤ 15)
theorem isband_any (n : Int) (w : World) : Calls Tryz.prog 49 #[.int .i64 n] w fun e w' => e = .returned (.bool (isb n)) ∧ w' = w := by
  by_cases h1 : n < 0
  · have e : isb n = false := decide_eq_false (by omega)
    have h2 : ¬ n ≥ 0 := by omega
    rw [e]
    clear e
    go_enter Tryz.func49, Tryz.ntmps49
    go_wp2
    go_ret
    exact ⟨rfl, rfl⟩
  · by_cases h2 : n < 8
    · have e : isb n = true := decide_eq_true (by omega)
      have h3 : n ≥ 0 := by omega
      rw [e]
      clear e
      go_enter Tryz.func49, Tryz.ntmps49
      go_wp2
      go_ret
      exact ⟨rfl, rfl⟩
    · have e : isb n = false := decide_eq_false (by omega)
      have h3 : n ≥ 0 := by omega
      rw [e]
      clear e
      go_enter Tryz.func49, Tryz.ntmps49
      go_wp2
      go_ret
      exact ⟨rfl, rfl⟩
theorem isstep_any (n : Int) (w : World) : Calls Tryz.prog 65 #[.int .i64 n] w fun e w' => e = .returned (.bool (isp n)) ∧ w' = w := by
  by_cases h1 : n < 0
  · have e : isp n = false := decide_eq_false (by omega)
    have h2 : ¬ n ≥ 0 := by omega
    rw [e]
    clear e
    go_enter Tryz.func65, Tryz.ntmps65
    go_wp2
    go_ret
    exact ⟨rfl, rfl⟩
  · by_cases h2 : n ≤ 15
    · have e : isp n = true := decide_eq_true (by omega)
      have h3 : n ≥ 0 := by omega
      rw [e]
      clear e
      go_enter Tryz.func65, Tryz.ntmps65
      go_wp2
      go_ret
      exact ⟨rfl, rfl⟩
    · have e : isp n = false := decide_eq_false (by omega)
      have h3 : n ≥ 0 := by omega
      rw [e]
      clear e
      go_enter Tryz.func65, Tryz.ntmps65
      go_wp2
      go_ret
      exact ⟨rfl, rfl⟩
/-- Whether a number is greater than the greatest one. -/
def grt (m x : Int) : Bool := decide (x < -m ∨ x > m)
theorem grt_any (m x : Int) (g : Nat) (w : World) (hc : w.cell? ⟨g, 0, none⟩ = some (.int .i64 m)) (h0 : 0 ≤ m) (h1 : m ≤ 9223372036854775807) :
    Calls Tryz.prog 85 #[.int .i64 x, .pointer (some ⟨g, 0, none⟩)] w fun e w' => e = .returned (.bool (grt m x)) ∧ w' = w := by
  have hw : wrap64 (-m) = -m := by rw [wrap64]; omega
  have HD : Hid (grt m x = decide (x < -m ∨ x > m)) := rfl
  go_enter Tryz.func85, Tryz.ntmps85
  by_cases h2 : x < -m
  · rw [decide_eq_true (Or.inl h2)] at HD
    go_wp2
    go_ret
    exact ⟨by rw [HD.out]; rfl, rfl⟩
  · by_cases h3 : x > m
    · rw [decide_eq_true (Or.inr h3)] at HD
      go_wp2
      go_ret
      exact ⟨by rw [HD.out]; rfl, rfl⟩
    · rw [decide_eq_false (fun h => h.elim h2 h3)] at HD
      go_wp2
      go_ret
      exact ⟨by rw [HD.out]; rfl, rfl⟩
theorem toog_any (s T : Nat) (w : World) (hs : s ≤ 14) (hT : 6 * 2 ^ s = T) : Calls Tryz.prog 64 #[.int .i64 (s : Int)] w fun e w' =>
    ∃ gb, e = .returned (.func (.func 85) #[] #[.pointer (some ⟨gb, 0, none⟩)]) ∧ w'.cell? ⟨gb, 0, none⟩ = some (.int .i64 (T : Int)) ∧ Below w.heap.size w w' := by
  have hb := pow2_le s 14 hs
  have h0 : (0 : Int) ≤ (s : Int) := by omega
  have hTb : T ≤ 98304 := by omega
  have hsh : IntKind.i64.wrap (6 * 2 ^ s) = (T : Int) := by
    have e : (6 * 2 ^ s : Int) = (T : Int) := by rw [← hT]; push_cast; rfl
    rw [e, IntKind.wrap_i64]; omega
  have HC : Hid ((w.alloc (.cells #[.int .i64 (T : Int)] 3)).cell? ⟨w.heap.size, 0, none⟩ = some (.int .i64 (T : Int))) := Lib.hid (cell_one_new w _ _ 0 _ rfl)
  have HB : Hid (Below w.heap.size w (w.alloc (.cells #[.int .i64 (T : Int)] 3))) := Lib.hid ((Below.refl _ _).alloc (Nat.le_refl _) _)
  clear hb hT
  go_enter Tryz.func64, Tryz.ntmps64
  go_wp2
  go_ret
  exact ⟨_, rfl, HC.out, HB.out⟩
end Go.Proofs.YtalbcimnnihmnaaGreat

/- Whether a list of numbers has any that is too great for a step (ContainsFunc over band's closure). Conditions: numbers of a list as they lie. -/
namespace Go.Proofs.YtalbcimnnihmnaaGreat
open Go.RowKit
open M
theorem gany_no (m : Int) (xs : List Int) (h : ∀ j, j < xs.length → grt m (xs.getD j 0) = false) : xs.any (grt m) = false := by
  rw [Bool.eq_false_iff]
  intro hc
  obtain ⟨x, hx, hb⟩ := List.any_eq_true.1 hc
  obtain ⟨i, hi, rfl⟩ := List.getElem_of_mem hx
  have := h i hi
  rw [List.getD_eq_getElem?_getD, List.getElem?_eq_getElem hi] at this
  rw [show (some xs[i]).getD 0 = xs[i] from rfl, hb] at this
  cases this
theorem gany_yes (m : Int) (xs : List Int) (k : Nat) (hk : k < xs.length) (h : grt m (xs.getD k 0) = true) : xs.any (grt m) = true := by
  rw [List.getD_eq_getElem?_getD, List.getElem?_eq_getElem hk] at h
  exact List.any_eq_true.2 ⟨xs[k], List.getElem_mem hk, h⟩
set_option maxRecDepth 100000 in
theorem gindex_any (m : Int) (xs : List Int) (v : Value) (g : Nat) (w : World) (hv : IntsAt w v xs) (hl : xs.length ≤ maxLen) (hc : w.cell? ⟨g, 0, none⟩ = some (.int .i64 m)) (h0 : 0 ≤ m) (h1 : m ≤ 9223372036854775807) :
    Calls Tryz.prog 84 #[v, .func (.func 85) #[] #[.pointer (some ⟨g, 0, none⟩)]] w fun e w' => (∃ n : Int, e = .returned (.int .i64 n) ∧ decide (n ≥ 0) = xs.any (grt m)) ∧ w' = w := by
  obtain ⟨a, cap, rfl, hcell⟩ := hv
  have HM := Lib.hid hl
  have HT := fun x => grt_any m x g w hc h0 h1
  have HNO := Lib.hid (gany_no m xs)
  have HYES := Lib.hid (gany_yes m xs)
  generalize xs.any (grt m) = R at *
  have hlen : (xs.length : Int) ≤ 9223372036854775807 := by unfold maxLen at hl; omega
  obtain ⟨L, hL⟩ : ∃ L, xs.length = L := ⟨_, rfl⟩
  rw [hL] at hcell HNO HYES hlen ⊢
  clear hc hl HM hL
  go_enter Tryz.func84, Tryz.ntmps84
  go_wp2
  go_loop [8] (fun i => ∃ k : Nat, k ≤ L ∧ i = .int .i64 k ∧ ∀ j, j < k → grt m (xs.getD j 0) = false) (fun i => L - (intOf i).toNat)
  case atStart => exact ⟨0, by omega, rfl, fun j hj => by omega⟩
  case round =>
    obtain ⟨k, hk, rfl, hall⟩ := hrel
    have HA := Lib.hid hall
    clear hall
    rcases Nat.lt_or_ge k L with hlt | hge
    · obtain ⟨b, off, rfl, hbs, hcs⟩ := hcell (by omega)
      have c0 := hcs k hlt
      have HY := Lib.hid (HYES.out k hlt)
      have HST : Hid (grt m (xs.getD k 0) = false → ∀ j, j < k + 1 → grt m (xs.getD j 0) = false) := fun h j hj => by
        rcases Nat.lt_or_ge j k with hl | hg
        · exact HA.out j hl
        · obtain rfl : j = k := by omega
          exact h
      clear hcs hcell
      obtain ⟨x, hx⟩ : ∃ x, xs.getD k 0 = x := ⟨_, rfl⟩
      rw [hx] at c0 HY HST
      clear hx hk
      go_wp2_with fail
      refine (HT x).mono ?_
      rintro e w1 ⟨rfl, rfl⟩
      cases hb : grt m x
      · go_wp2_with fail
        go_round
        case rel => exact ⟨k + 1, hlt, by go_num, HST.out hb⟩
        case measure => simp [intOf] <;> omega
      · go_wp2_with fail
        go_ret
        exact ⟨⟨(k : Int), rfl, by rw [HY.out hb]; simp⟩, rfl⟩
    · obtain rfl : k = L := by omega
      clear hcell
      go_wp2_with fail
      go_ret
      exact ⟨⟨-1, rfl, by rw [HNO.out HA.out]; rfl⟩, rfl⟩
theorem gcontains_any (m : Int) (xs : List Int) (v : Value) (g : Nat) (w : World) (hv : IntsAt w v xs) (hl : xs.length ≤ maxLen) (hc : w.cell? ⟨g, 0, none⟩ = some (.int .i64 m)) (h0 : 0 ≤ m) (h1 : m ≤ 9223372036854775807) :
    Calls Tryz.prog 63 #[v, .func (.func 85) #[] #[.pointer (some ⟨g, 0, none⟩)]] w fun e w' => e = .returned (.bool (xs.any (grt m))) ∧ w' = w := by
  have HI := gindex_any m xs v g w hv hl hc h0 h1
  generalize xs.any (grt m) = R at *
  clear hv hl hc h0 h1
  go_enter Tryz.func63, Tryz.ntmps63
  go_wp2_with fail
  refine HI.mono ?_
  rintro e w1 ⟨⟨n, rfl, hn⟩, rfl⟩
  have HN := Lib.hid hn
  clear hn HI
  go_wp2
  go_ret
  exact ⟨by rw [← HN.out]; rfl, rfl⟩
end Go.Proofs.YtalbcimnnihmnaaGreat

/- band's Step: the step of the greatest of four. Conditions: four numbers. -/
namespace Go.Proofs.YtalbcimnnihmnaaGreat
open Go.RowKit
open M
theorem ints_row16 {w : World} {g : Nat} {t : TypeId} {f : List Int} (h : Row w g t (iCells f)) (c : Nat) : IntsAt w (.slice (some ⟨g, 0, none⟩) f.length c) f :=
  ⟨_, c, rfl, fun _ => ⟨g, 0, rfl, Row.lt h, fun i hi => by rw [Nat.zero_add]; exact i_at h i hi⟩⟩
theorem grt_gm (l : List Int) (T : Nat) (hl : l.length = 4) : l.any (grt (T : Int)) = !decide (gm16 l ≤ T) := by
  match l, hl with
  | [a, b, c, d], _ =>
    unfold gm16 grt
    simp only [List.any_cons, List.any_nil, Bool.or_false, List.getD_cons_zero, List.getD_cons_succ]
    rw [Bool.eq_iff_iff]
    simp only [Bool.or_eq_true, decide_eq_true_eq, Bool.not_eq_true', decide_eq_false_iff_not]
    omega
set_option maxRecDepth 100000 in
set_option maxHeartbeats 1000000 in
theorem step16_any (l : List Int) (w : World) (hl : l.length = 4) :
    Calls Tryz.prog 35 #[.agg (iCells l)] w fun e w' => e = .returned (.int .i64 (stp (gm16 l) : Nat)) ∧ Below w.heap.size w w' := by
  have HL := Lib.hid hl
  have HR : Hid (Row (w.alloc (.cells (iCells l) 26)) w.heap.size 26 (iCells l)) := Lib.hid (heap_alloc_new _ _)
  have HB : Hid (Below w.heap.size w (w.alloc (.cells (iCells l) 26))) := Lib.hid ((Below.refl _ _).alloc (Nat.le_refl _) _)
  clear hl
  go_enter Tryz.func35, Tryz.ntmps35
  go_wp2_with fail
  generalize w.alloc (.cells (iCells l) 26) = w1 at *
  obtain ⟨g, hg⟩ : ∃ g, w.heap.size = g := ⟨_, rfl⟩
  rw [hg] at HR HB ⊢
  have hgw := Lib.hid hg
  clear hg
  go_loopw [3] (fun ii wr => ∃ (s : Nat), s ≤ 15 ∧ ii = .int .i64 s ∧ stpN (gm16 l) s (15 - s) = stp (gm16 l) ∧ Row wr g 26 (iCells l) ∧ Below g w wr) (fun ii _ => 15 - (intOf ii).toNat)
  case atStart => exact ⟨0, by omega, rfl, rfl, HR.out, HB.out⟩
  case round =>
    obtain ⟨s, hs, rfl, hst, hr, hb⟩ := hrel
    have HST := Lib.hid hst
    have HRR := Lib.hid hr
    have HBB := Lib.hid hb
    clear hst hr hb HR HB
    rcases Nat.lt_or_ge s 15 with hlt | hge
    · have hsI : (s : Int) < 15 := by omega
      obtain ⟨T, hT⟩ : ∃ T : Nat, 6 * 2 ^ s = T := ⟨_, rfl⟩
      have HT := Lib.hid hT
      have HS := Lib.hid hlt
      have hTb : (T : Int) ≤ 9223372036854775807 := by
        have := pow2_le s 14 (by omega)
        omega
      have HTB := Lib.hid hTb
      have hN : stpN (gm16 l) s (15 - s) = if gm16 l ≤ 6 * 2 ^ s then s else stpN (gm16 l) (s + 1) (15 - (s + 1)) := by
        have e : 15 - s = (15 - (s + 1)) + 1 := by have := HS.out; omega
        rw [e]
        rfl
      rw [HST.out, hT] at hN
      have HN := Lib.hid hN
      have HGM := Lib.hid (grt_gm l T HL.out)
      clear hs hlt hT hTb hN HST
      go_wp2_with fail
      go_region_with (first
        | (go_at_call 64; refine (toog_any s T _ (Nat.le_of_lt_succ HS.out) HT.out).mono ?_; rintro e w6 ⟨gb, rfl, hcb, hb6⟩; have HR6 := Lib.hid (Row.box (w := wr.drew) HRR.out hb6); have HB6 := Lib.hid ((below_drew1 HBB.out).trans (hb6.mono (show g ≤ wr.heap.size from Nat.le_of_lt (Row.lt HRR.out)))); have HCB := Lib.hid hcb; clear hcb hb6 HRR HBB)
        | (go_at_call 63; refine (gcontains_any T l _ gb w6 (by have := ints_row16 HR6.out 4; rw [HL.out] at this; exact this) (by rw [HL.out]; decide) HCB.out (by omega) HTB.out).mono ?_; rintro e w7 ⟨rfl, rfl⟩; rw [HGM.out]))
      (try simp only [List.getElem_toArray, List.getElem_cons_succ, List.getElem_cons_zero, Act.put, List.setIfInBounds_toArray, List.set_cons_zero, List.set_cons_succ])
      by_cases hf : gm16 l ≤ T
      · rw [if_pos hf] at HN
        rw [decide_eq_true hf]
        clear hf HGM
        go_wp2_with fail
        go_ret
        exact ⟨by rw [HN.out]; rfl, by rw [hgw.out]; exact HB6.out⟩
      · rw [if_neg hf] at HN
        rw [decide_eq_false hf]
        clear hf HGM
        go_wp2_with fail
        go_roundw
        case rel => exact ⟨s + 1, HS.out, by go_num, HN.out.symm, HR6.out, HB6.out⟩
        case measure =>
          have := HS.out
          simp [intOf] <;> omega
    · obtain rfl : s = 15 := by omega
      clear hs hge
      go_wp2_with fail
      go_region
      go_wp2_with fail
      go_ret
      exact ⟨by rw [← HST.out]; rfl, by rw [hgw.out]; exact below_drew1 HBB.out⟩
end Go.Proofs.YtalbcimnnihmnaaGreat
