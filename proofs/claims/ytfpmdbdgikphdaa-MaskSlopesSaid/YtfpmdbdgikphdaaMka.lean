/-
  Layer 17's laws, what they share: what mask's functions are to answer (as conditions), awake, held. Conditions: eight ints; what mask's All answers.
-/
import Derived.Test.YtfpmdbdgikphdaaSde
import Derived.Test.YtfpmdbdgikphdaaA15
import Derived.Test.YtfpmdbdgikphdaaRfc
import Derived.Test.YtfpmdbdgikphdaaRfg
import Derived.Test.YtfpmdbdgikphdaaTi
namespace Go.Proofs.Ytfpmdbdgikphdaa
open Go.RowKit
open M
/-- A budget, of any ints. -/
def bdI (l : List Int) (b : Int) : Int := if rt17 l = true ∧ 0 ≤ b ∧ b < 8 then (bud (fun j => (l.getD j 0).toNat) b.toNat : Nat) else 0
/-- All budgets. -/
def alL (l : List Int) : List Int := (List.range 8).map fun b => bdI l (b : Nat)
/-- How far they may be. -/
def mvI (l : List Int) (b : Int) : Int := if rt17 l = true ∧ 0 ≤ b ∧ b < 8 then (bud (fun j => (l.getD j 0).toNat) b.toNat / 2 ^ (l.getD b.toNat 0).toNat : Nat) else 0
/-- A distance, of any ints. -/
def fyI (y z : List Int) : Int := if sm17 y = true ∧ sm17 z = true then (farL y z : Nat) else -1
/-- May they become the others? -/
def myB (l : List Int) (b : Int) (y z : List Int) : Bool := decide (rt17 l = true ∧ (0 ≤ b ∧ b < 8) ∧ (sm17 y = true ∧ sm17 z = true) ∧ farL y z * 2 ^ (l.getD b.toNat 0).toNat ≤ bud (fun j => (l.getD j 0).toNat) b.toNat)
def BudOk : Prop := ∀ (l : List Int) (b : Int) (w : World), l.length = 8 → Calls Try.prog 9 #[.agg (iCells l), .int .i64 b] w fun e w' => e = .returned (.int .i64 (bdI l b)) ∧ Below w.heap.size w w'
def MovOk : Prop := ∀ (l : List Int) (b : Int) (w : World), l.length = 8 → Calls Try.prog 11 #[.agg (iCells l), .int .i64 b] w fun e w' => e = .returned (.int .i64 (mvI l b)) ∧ Below w.heap.size w w'
def AllOk : Prop := ∀ (l : List Int) (w : World), l.length = 8 → Calls Try.prog 18 #[.agg (iCells l)] w fun e w' => e = .returned (.agg (iCells (alL l))) ∧ Below w.heap.size w w'
def FarOk : Prop := ∀ (y z : List Int) (w : World), y.length = 4 → z.length = 4 → Calls Try.prog 12 #[.agg (iCells y), .agg (iCells z)] w fun e w' => e = .returned (.int .i64 (fyI y z)) ∧ Below w.heap.size w w'
def MayOk : Prop := ∀ (l : List Int) (b : Int) (y z : List Int) (w : World), l.length = 8 → y.length = 4 → z.length = 4 → Calls Try.prog 13 #[.agg (iCells l), .int .i64 b, .agg (iCells y), .agg (iCells z)] w fun e w' => e = .returned (.bool (myB l b y z)) ∧ Below w.heap.size w w'
theorem alL_len (l : List Int) : (alL l).length = 8 := by simp [alL]
theorem alL_get (l : List Int) (b : Nat) (h : b < 8) : (alL l).getD b 0 = bdI l b := by
  unfold alL
  rw [List.getD_eq_getElem?_getD, List.getElem?_map, List.getElem?_range h]
  rfl
theorem alL_wake : alL [8, 0, 0, 0, 0, 0, 0, 0] = [1024, 512, 256, 128, 64, 32, 16, 8] := by decide +kernel
theorem awake17_any (HA : AllOk) (w : World) : Calls Try.prog 7 #[] w fun e w' => e = .returned (.bool true) ∧ Below w.heap.size w w' := by
  have hz : ∀ w, (zeroValue 24).run Try.prog w = .ok (.agg #[.int .i64 0, .int .i64 0, .int .i64 0, .int .i64 0, .int .i64 0, .int .i64 0, .int .i64 0, .int .i64 0]) w := sds_zero
  have H1 : Hid (∀ w, Calls Try.prog 18 #[.agg #[.int .i64 8, .int .i64 0, .int .i64 0, .int .i64 0, .int .i64 0, .int .i64 0, .int .i64 0, .int .i64 0]] w fun e w' => e = .returned (.agg (iCells [1024, 512, 256, 128, 64, 32, 16, 8])) ∧ Below w.heap.size w w') := Lib.hid fun w => by
    have h := HA [8, 0, 0, 0, 0, 0, 0, 0] w rfl
    rw [alL_wake] at h
    exact h
  have hq : ∀ w, (Op.equalIn 10000 24 (.agg (iCells [1024, 512, 256, 128, 64, 32, 16, 8])) (.agg #[.int .i64 1024, .int .i64 512, .int .i64 256, .int .i64 128, .int .i64 64, .int .i64 32, .int .i64 16, .int .i64 8])).run Try.prog w = .ok true w := fun w =>
    sds_eq [1024, 512, 256, 128, 64, 32, 16, 8] [1024, 512, 256, 128, 64, 32, 16, 8] rfl rfl w
  go_enter Try.func7, Try.ntmps7
  go_wp2_with fail
  refine (H1.out _).mono ?_
  rintro e w1 ⟨rfl, hb1⟩
  have HB1 := Lib.hid hb1
  clear hb1
  go_wp2_with fail
  go_ret
  exact ⟨rfl, HB1.out⟩
/-- Steps held in their range, as far as i. -/
def hd17 (x : List Int) (i : Nat) : List Int := (List.range 8).map fun p => if p < i then x.getD p 0 % 16 else x.getD p 0
theorem hd17_len (x : List Int) (i : Nat) : (hd17 x i).length = 8 := by simp [hd17]
theorem hd17_get (x : List Int) (i p : Nat) (h : p < 8) : (hd17 x i).getD p 0 = if p < i then x.getD p 0 % 16 else x.getD p 0 := by
  unfold hd17
  rw [List.getD_eq_getElem?_getD, List.getElem?_map, List.getElem?_range h]
  rfl
theorem list_eqn (n : Nat) (l m : List Int) (hl : l.length = n) (hm : m.length = n) (h : ∀ j, j < n → l.getD j 0 = m.getD j 0) : l = m := by
  apply List.ext_getElem (by omega)
  intro i h1 h2
  have := h i (by omega)
  rw [List.getD_eq_getElem?_getD, List.getD_eq_getElem?_getD, List.getElem?_eq_getElem h1, List.getElem?_eq_getElem h2] at this
  exact this
theorem hd17_zero (x : List Int) (h : x.length = 8) : hd17 x 0 = x :=
  list_eqn 8 _ _ (hd17_len _ _) h fun j hj => by rw [hd17_get _ _ _ hj, if_neg (by omega)]
theorem hd17_set (x : List Int) (i : Nat) (h : i < 8) : (hd17 x i).set i (x.getD i 0 % 16) = hd17 x (i + 1) := by
  refine list_eqn 8 _ _ (by rw [List.length_set, hd17_len]) (hd17_len _ _) fun j hj => ?_
  rw [set_getD13 _ _ _ _ (by rw [hd17_len]; exact h), hd17_get _ _ _ hj, hd17_get _ _ _ hj]
  by_cases e : j = i
  · rw [if_pos e, if_pos (by omega), e]
  · rw [if_neg e]
    by_cases k : j < i
    · rw [if_pos k, if_pos (by omega)]
    · rw [if_neg k, if_neg (by omega)]
theorem hd17_bd (x : List Int) (j : Nat) (h : j < 8) : 0 ≤ (hd17 x 8).getD j 0 ∧ (hd17 x 8).getD j 0 ≤ 15 := by
  rw [hd17_get _ _ _ h, if_pos h]; omega
theorem hd17_right (x : List Int) : rt17 (hd17 x 8) = true := (rt_iff _).2 fun j hj => hd17_bd x j hj
set_option maxRecDepth 100000 in
set_option maxHeartbeats 1000000 in
theorem held17_any (x : List Int) (w : World) (hx : x.length = 8) :
    Calls Try.prog 8 #[.agg (iCells x)] w fun e w' => e = .returned (.agg (iCells (hd17 x 8))) ∧ Below w.heap.size w w' := by
  have hz := sds_zero
  have HX := Lib.hid hx
  have H0 := Lib.hid (hd17_zero x hx)
  have HR : Hid (Row ((w.alloc (.cells (iCells x) 22)).alloc (.cells (iCells zs8) 24)) w.heap.size 22 (iCells x)) := Lib.hid (Row.alloc (heap_alloc_new _ _) _)
  have HZ : Hid (Row ((w.alloc (.cells (iCells x) 22)).alloc (.cells (iCells zs8) 24)) (w.heap.size + 1) 24 (iCells zs8)) := Lib.hid (row_new _ _ (by simp) _ _)
  have HB : Hid (Below w.heap.size w ((w.alloc (.cells (iCells x) 22)).alloc (.cells (iCells zs8) 24))) := Lib.hid (((Below.refl _ _).alloc (Nat.le_refl _) _).alloc (by simp) _)
  clear hx
  go_enter Try.func8, Try.ntmps8
  go_wp2_with fail
  generalize (w.alloc (.cells (iCells x) 22)).alloc (.cells (iCells zs8) 24) = w1 at *
  obtain ⟨g, hg⟩ : ∃ g, w.heap.size = g := ⟨_, rfl⟩
  have HG := Lib.hid fun _ : Unit => hg
  rw [hg] at HR HZ
  rw [hg]
  clear hg hz
  go_loopw [3] (fun ii wr => ∃ (i : Nat), i ≤ 8 ∧ ii = .int .i64 (i : Int) ∧ Row wr g 22 (iCells (hd17 x i)) ∧ Row wr (g + 1) 24 (iCells zs8) ∧ Below w.heap.size w wr) (fun ii _ => 8 - (intOf ii).toNat)
  case atStart => exact ⟨0, by omega, rfl, by rw [H0.out]; exact HR.out, HZ.out, HB.out⟩
  case round =>
    clear HR HZ HB
    obtain ⟨i, hi, rfl, hr, hz, hb⟩ := hrel
    have HR := Lib.hid hr
    have HZ := Lib.hid hz
    have HB := Lib.hid hb
    rcases Nat.lt_or_ge i 8 with hlt | hge
    · have hiI : (i : Int) < 8 := by omega
      have HI := Lib.hid hlt
      have c0 := i_at hr i (by rw [hd17_len]; exact hlt)
      rw [hd17_get _ _ _ hlt, if_neg (by omega)] at c0
      have f0 := hr.free i
      have ha := and15 (x.getD i 0)
      have HROW := Lib.hid (show Row (wr.setCell ⟨g, i, none⟩ (.int .i64 (x.getD i 0 % 16))) g 22 (iCells (hd17 x (i + 1))) by
        have h := hr.set i (.int .i64 (x.getD i 0 % 16))
        rw [iCells_set, hd17_set x i hlt] at h
        exact h)
      obtain ⟨v, hv⟩ : ∃ v, x.getD i 0 = v := ⟨_, rfl⟩
      rw [hv] at c0 ha HROW
      clear hi hlt hr hz hb hv
      go_wp2_with fail
      go_roundw
      case rel => exact ⟨i + 1, HI.out, by go_num, HROW.out, HZ.out.far (p := ⟨g, i, none⟩) (by simp only; omega) _, Below.setCell HB.out (p := ⟨g, i, none⟩) (by have := HG.out (); simp only; omega) _⟩
      case measure =>
        have := HI.out
        simp [intOf] <;> omega
    · obtain rfl : i = 8 := by omega
      have HSF := Lib.hid (i8_size (hd17 x 8) (hd17_len _ _))
      have HSS := Lib.hid (sds_size (hd17 x 8) (hd17_len _ _))
      have HSX := Lib.hid (sds_same zs8 (hd17 x 8) zs8_length (hd17_len _ _))
      clear hi hge hr hz hb
      go_wp2_with (first
        | (refine wpList_load_row rfl 22 (.tmp 1) rfl g rfl 22 (iCells (hd17 x 8)) (0, 0) _ HR.out Try.underlying22 rfl HSF.out ?_)
        | (refine wpList_store_row rfl 24 (.tmp 2) (.tmp 14) rfl (g + 1) (iCells (hd17 x 8)) rfl rfl 24 (iCells zs8) HZ.out HSS.out HSX.out (iCells_one _) ?_))
      refine bodyPost_ret (v := .agg (iCells (hd17 x 8))) (results_cell_row Try.results8 _ _ (g + 1) 24 (iCells (hd17 x 8)) (0, 0) _ rfl (Row.setRow HZ.out _) Try.underlying24 rfl HSS.out) rfl ⟨rfl, by rw [← HG.out ()]; exact below_setRow HB.out (by have := HG.out (); omega) _⟩
end Go.Proofs.Ytfpmdbdgikphdaa
