/-
  The reference's Step, Band, Clamp of layer 16. Conditions: four numbers; a frame of 32 numbers, a band from 0 to 7.
-/
import Derived.Test.YtagcdnglipdldaaGagp
import Derived.Test.YtagcdnglipdldaaDi
import Derived.Test.YtagcdnglipdldaaTi
import Derived.StillTailTactics
import Derived.Deep.Cut
import Derived.Deep.WholeRow
namespace Go.Proofs.Ytagcdnglipdldaa
open Go.RowKit
open M
theorem four_i16 : (Try.prog.info? 23).map (fun i => (i.zero, i.size)) = some (some (.agg (iCells [0, 0, 0, 0])), 4) := by kernel_rfl
theorem four_z16 (w : World) : (zeroValue 23).run Try.prog w = .ok (.agg (iCells [0, 0, 0, 0])) w := (zero_of_info four_i16).1 w
/-- The greatest of four, without signs. -/
def gm16 (l : List Int) : Nat := max (max (l.getD 0 0).natAbs (l.getD 1 0).natAbs) (max (l.getD 2 0).natAbs (l.getD 3 0).natAbs)
/-- Do the first k fit? -/
def ft16 (l : List Int) (t : Nat) : Nat → Bool
  | 0 => true
  | k + 1 => ft16 l t k && decide ((l.getD k 0).natAbs ≤ t)
theorem ft_gm (l : List Int) (t : Nat) : ft16 l t 4 = decide (gm16 l ≤ t) := by
  unfold gm16
  simp only [ft16, Bool.true_and]
  rw [Bool.eq_iff_iff]
  simp
  omega
theorem ft_no (l : List Int) (t k : Nat) (x : Int) (hx : l.getD k 0 = x) (h : x > (t : Int) ∨ x < -(t : Int)) : ft16 l t (k + 1) = false := by
  show (ft16 l t k && decide ((l.getD k 0).natAbs ≤ t)) = _
  rw [hx, decide_eq_false (by omega), Bool.and_false]
theorem ft_yes (l : List Int) (t k : Nat) (x : Int) (hx : l.getD k 0 = x) (h1 : ¬ x > (t : Int)) (h2 : ¬ x < -(t : Int)) : ft16 l t (k + 1) = ft16 l t k := by
  show (ft16 l t k && decide ((l.getD k 0).natAbs ≤ t)) = _
  rw [hx, decide_eq_true (by omega), Bool.and_true]
set_option maxRecDepth 100000 in
set_option maxHeartbeats 1000000 in
theorem rstep_any (l : List Int) (w : World) (hl : l.length = 4) :
    Calls Try.prog 16 #[.agg (iCells l)] w fun e w' => e = .returned (.int .i64 (stp (gm16 l) : Nat)) ∧ Below w.heap.size w w' := by
  have HL := Lib.hid hl
  have HR : Hid (Row (w.alloc (.cells (iCells l) 23)) w.heap.size 23 (iCells l)) := Lib.hid (heap_alloc_new _ _)
  have HB : Hid (Below w.heap.size w (w.alloc (.cells (iCells l) 23))) := Lib.hid ((Below.refl _ _).alloc (Nat.le_refl _) _)
  clear hl
  go_enter Try.func16, Try.ntmps16
  go_wp2_with fail
  generalize w.alloc (.cells (iCells l) 23) = w1 at *
  obtain ⟨g, hg⟩ : ∃ g, w.heap.size = g := ⟨_, rfl⟩
  rw [hg] at HR
  rw [hg]
  clear hg
  go_loop [3, 4] (fun gg ii => ∃ (s : Nat) (G : Int), s ≤ 15 ∧ ii = .int .i64 s ∧ gg = .int .i64 G ∧ G = ((2 ^ s : Nat) : Int) ∧ stpN (gm16 l) s (15 - s) = stp (gm16 l)) (fun _ ii => 15 - (intOf ii).toNat)
  case atStart => exact ⟨0, 1, by omega, rfl, rfl, rfl, rfl⟩
  case round =>
    obtain ⟨s, G, hs, rfl, rfl, hG, hst⟩ := hrel
    have hGb : 1 ≤ G ∧ G ≤ 32768 := by
      have h1 := pow2_le s 15 hs
      have h2 : 1 ≤ 2 ^ s := Nat.one_le_two_pow
      rw [hG]; omega
    obtain ⟨T, hT⟩ : ∃ T : Nat, 6 * 2 ^ s = T := ⟨_, rfl⟩
    have hTG : 6 * G = (T : Int) := by rw [hG, ← hT]; omega
    have hTG2 : -6 * G = -(T : Int) := by omega
    have HST := Lib.hid hst
    have HG := Lib.hid hG
    have HT := Lib.hid fun _ : Unit => hT
    clear hst hG hT
    rcases Nat.lt_or_ge s 15 with hlt | hge
    · have hsI : (s : Int) < 15 := by omega
      have HS := Lib.hid hlt
      have hTb : (T : Int) ≤ 196608 := by omega
      clear hs hlt
      go_wp2_with fail
      go_loop [5, 6] (fun bb ii => ∃ (k : Nat) (b : Bool), k ≤ 4 ∧ ii = .int .i64 k ∧ bb = .bool b ∧ b = ft16 l T k) (fun _ ii => 4 - (intOf ii).toNat)
      case atStart => exact ⟨0, true, by omega, rfl, rfl, rfl⟩
      case round =>
        obtain ⟨k, b, hk, rfl, rfl, hb⟩ := hrel
        rcases Nat.lt_or_ge k 4 with hlk | hgk
        · have c0 := i_at HR.out k (by rw [HL.out]; exact hlk)
          have hkI : (k : Int) < 4 := by omega
          obtain ⟨x, hx⟩ : ∃ x, l.getD k 0 = x := ⟨_, rfl⟩
          have hno := ft_no l T k x hx
          have hyes := ft_yes l T k x hx
          rw [hx] at c0
          have HK := Lib.hid hlk
          have HBB := Lib.hid hb
          clear hk hlk hb hx
          by_cases h1 : x > (T : Int)
          · have HN := Lib.hid (hno (Or.inl h1))
            clear hno hyes
            go_wp2_with fail
            go_round
            case rel => exact ⟨k + 1, false, HK.out, by go_num, rfl, HN.out.symm⟩
            case measure =>
              have := HK.out
              simp [intOf] <;> omega
          · by_cases h2 : x < -(T : Int)
            · have HN := Lib.hid (hno (Or.inr h2))
              clear hno hyes
              go_wp2_with fail
              go_round
              case rel => exact ⟨k + 1, false, HK.out, by go_num, rfl, HN.out.symm⟩
              case measure =>
                have := HK.out
                simp [intOf] <;> omega
            · have HN := Lib.hid (hyes h1 h2)
              clear hno hyes
              go_wp2_with fail
              go_round
              case rel => exact ⟨k + 1, b, HK.out, by go_num, rfl, by rw [HN.out]; exact HBB.out⟩
              case measure =>
                have := HK.out
                simp [intOf] <;> omega
        · obtain rfl : k = 4 := by omega
          rw [ft_gm] at hb
          have hN : stpN (gm16 l) s (15 - s) = if gm16 l ≤ 6 * 2 ^ s then s else stpN (gm16 l) (s + 1) (15 - (s + 1)) := by
            have e : 15 - s = (15 - (s + 1)) + 1 := by have := HS.out; omega
            rw [e]
            rfl
          rw [HST.out] at hN
          clear hk hgk
          by_cases hf : gm16 l ≤ T
          · have hbt : b = true := by rw [hb]; exact decide_eq_true hf
            subst hbt
            rw [if_pos (by rw [HT.out ()]; exact hf)] at hN
            have HN := Lib.hid hN
            clear hb hN hf
            go_wp2_with fail
            go_ret
            exact ⟨by rw [HN.out]; rfl, HB.out⟩
          · have hbt : b = false := by rw [hb]; exact decide_eq_false hf
            subst hbt
            rw [if_neg (by rw [HT.out ()]; exact hf)] at hN
            have HN := Lib.hid hN
            have HG2 := Lib.hid (show 2 * G = ((2 ^ (s + 1) : Nat) : Int) by rw [HG.out, Nat.pow_succ]; omega)
            clear hb hN hf
            go_wp2_with fail
            go_round
            case rel => exact ⟨s + 1, 2 * G, HS.out, by go_num, rfl, HG2.out, HN.out.symm⟩
            case measure =>
              have := HS.out
              simp [intOf] <;> omega
    · obtain rfl : s = 15 := by omega
      clear hs hge
      go_wp2_with fail
      go_ret
      exact ⟨by rw [← HST.out]; rfl, HB.out⟩
/-- A band's four. -/
def bd16 (f : List Int) (b : Nat) : List Int := [f.getD (4 * b) 0, f.getD (4 * b + 1) 0, f.getD (4 * b + 2) 0, f.getD (4 * b + 3) 0]
set_option maxRecDepth 100000 in
set_option maxHeartbeats 1000000 in
theorem rband_any (f : List Int) (b : Nat) (w : World) (hf : f.length = 32) (hb : b ≤ 7) :
    Calls Try.prog 15 #[.agg (iCells f), .int .i64 (b : Int)] w fun e w' => e = .returned (.agg (iCells (bd16 f b))) ∧ Below w.heap.size w w' := by
  have hr : Row (w.alloc (.cells (iCells f) 22)) w.heap.size 22 (iCells f) := heap_alloc_new _ _
  have HB : Hid (Below w.heap.size w (w.alloc (.cells (iCells f) 22))) := Lib.hid ((Below.refl _ _).alloc (Nat.le_refl _) _)
  have h1 := Row.alloc hr (.cells #[.int .i64 0, .int .i64 0, .int .i64 0, .int .i64 0] 23)
  have e0 := i_at h1 (4 * b) (by omega)
  have e1 := i_at h1 (4 * b + 1) (by omega)
  have e2 := i_at h1 (4 * b + 2) (by omega)
  have e3 := i_at h1 (4 * b + 3) (by omega)
  have HBA : Hid (∀ o, Below w.heap.size w ((w.alloc (.cells (iCells f) 22)).alloc o)) := Lib.hid fun o => HB.out.alloc (by simp) o
  have HD : Hid (bd16 f b = [f.getD (4 * b) 0, f.getD (4 * b + 1) 0, f.getD (4 * b + 2) 0, f.getD (4 * b + 3) 0]) := Lib.hid rfl
  obtain ⟨x0, hx0⟩ : ∃ x, f.getD (4 * b) 0 = x := ⟨_, rfl⟩
  obtain ⟨x1, hx1⟩ : ∃ x, f.getD (4 * b + 1) 0 = x := ⟨_, rfl⟩
  obtain ⟨x2, hx2⟩ : ∃ x, f.getD (4 * b + 2) 0 = x := ⟨_, rfl⟩
  obtain ⟨x3, hx3⟩ : ∃ x, f.getD (4 * b + 3) 0 = x := ⟨_, rfl⟩
  rw [hx0, hx1, hx2, hx3] at HD
  rw [hx0] at e0
  rw [hx1] at e1
  rw [hx2] at e2
  rw [hx3] at e3
  obtain ⟨n0, hn0⟩ : ∃ n, 4 * b = n := ⟨_, rfl⟩
  rw [hn0] at e0 e1 e2 e3
  have w0 : IntKind.i64.wrap (4 * (b : Int)) = (n0 : Int) := by rw [IntKind.wrap_i64]; omega
  obtain ⟨n1, hn1⟩ : ∃ n, n0 + 1 = n := ⟨_, rfl⟩
  obtain ⟨n2, hn2⟩ : ∃ n, n0 + 2 = n := ⟨_, rfl⟩
  obtain ⟨n3, hn3⟩ : ∃ n, n0 + 3 = n := ⟨_, rfl⟩
  rw [hn1] at e1
  rw [hn2] at e2
  rw [hn3] at e3
  have w1 : IntKind.i64.wrap ((n0 : Int) + 1) = (n1 : Int) := by rw [IntKind.wrap_i64]; omega
  have w2 : IntKind.i64.wrap ((n0 : Int) + 2) = (n2 : Int) := by rw [IntKind.wrap_i64]; omega
  have w3 : IntKind.i64.wrap ((n0 : Int) + 3) = (n3 : Int) := by rw [IntKind.wrap_i64]; omega
  have b0 : (n0 : Int) < 32 := by omega
  have b1 : (n1 : Int) < 32 := by omega
  have b2 : (n2 : Int) < 32 := by omega
  have b3 : (n3 : Int) < 32 := by omega
  clear hn1 hn2 hn3
  have hz : ∀ w, (zeroValue 23).run Try.prog w = .ok (.agg #[.int .i64 0, .int .i64 0, .int .i64 0, .int .i64 0]) w := four_z16
  clear hr h1 hx0 hx1 hx2 hx3 hn0 hf hb
  go_enter Try.func15, Try.ntmps15
  go_wp2_with fail
  have HT : Hid (Row ((w.alloc (.cells (iCells f) 22)).alloc (.cells #[.int .i64 0, .int .i64 0, .int .i64 0, .int .i64 0] 23)) (w.heap.size + 1) 23 #[.int .i64 0, .int .i64 0, .int .i64 0, .int .i64 0]) := Lib.hid (row_new _ _ (by simp) _ _)
  have HBB := Lib.hid (HBA.out (.cells #[.int .i64 0, .int .i64 0, .int .i64 0, .int .i64 0] 23))
  generalize (w.alloc (.cells (iCells f) 22)).alloc (.cells #[.int .i64 0, .int .i64 0, .int .i64 0, .int .i64 0] 23) = w5 at *
  obtain ⟨g1, hg1⟩ : ∃ g, w.heap.size + 1 = g := ⟨_, rfl⟩
  have HG := Lib.hid fun _ : Unit => hg1
  rw [hg1] at HT ⊢
  clear hg1
  refine wp_region_still_tail 20 (by kernel_rfl) (by kernel_rfl) ?_
  simp only [List.take_succ_cons, List.take_zero, List.drop_succ_cons, List.drop_zero]
  repeat still_step
  refine wpStill_nil ?_
  change wpList _ _ _ _ _ w5.drew
  have c0 : w5.cell? ⟨g1, 0, none⟩ = some (.int .i64 0) := cell_of_row _ _ 0 _ _ _ HT.out
  have c1 : w5.cell? ⟨g1, 1, none⟩ = some (.int .i64 0) := cell_of_row _ _ 1 _ _ _ HT.out
  have c2 : w5.cell? ⟨g1, 2, none⟩ = some (.int .i64 0) := cell_of_row _ _ 2 _ _ _ HT.out
  have c3 : w5.cell? ⟨g1, 3, none⟩ = some (.int .i64 0) := cell_of_row _ _ 3 _ _ _ HT.out
  have f0 : w5.frozen? ⟨g1, 0, none⟩ = false := frozen_of_row _ _ 0 _ _ HT.out
  have f1 : w5.frozen? ⟨g1, 1, none⟩ = false := frozen_of_row _ _ 1 _ _ HT.out
  have f2 : w5.frozen? ⟨g1, 2, none⟩ = false := frozen_of_row _ _ 2 _ _ HT.out
  have f3 : w5.frozen? ⟨g1, 3, none⟩ = false := frozen_of_row _ _ 3 _ _ HT.out
  clear e0 e1 e2 e3
  go_wp2_with fail
  refine bodyPost_ret (v := .agg (iCells [x0, x1, x2, x3])) (results_cell_row Try.results15 _ _ g1 23 (iCells [x0, x1, x2, x3]) (0, 0) _ rfl (show Row (((((w5.setCell ⟨g1, 0, none⟩ (.int .i64 x0)).setCell ⟨g1, 1, none⟩ (.int .i64 x1)).setCell ⟨g1, 2, none⟩ (.int .i64 x2)).setCell ⟨g1, 3, none⟩ (.int .i64 x3)).drew) g1 23 (iCells [x0, x1, x2, x3]) from (((HT.out.set 0 _).set 1 _).set 2 _).set 3 _) Try.underlying23 rfl (by kernel_rfl)) rfl ?_
  have hg : w.heap.size ≤ g1 := by have := HG.out (); omega
  exact ⟨by rw [HD.out], below_drew1 ((((HBB.out.setCell (p := ⟨g1, 0, none⟩) hg _).setCell (p := ⟨g1, 1, none⟩) hg _).setCell (p := ⟨g1, 2, none⟩) hg _).setCell (p := ⟨g1, 3, none⟩) hg _)⟩
theorem rclamp_any (x : Int) (w : World) :
    Calls Try.prog 17 #[.int .i64 x] w fun e w' => e = .returned (.int .i64 (max (-1048576) (min x 1048576))) ∧ w' = w := by
  by_cases h1 : x > 1048576
  · have e : max (-1048576) (min x 1048576) = 1048576 := by omega
    rw [e]
    go_enter Try.func17, Try.ntmps17
    go_wp2
    go_ret
    exact ⟨rfl, rfl⟩
  · by_cases h2 : x < -1048576
    · have e : max (-1048576) (min x 1048576) = -1048576 := by omega
      rw [e]
      go_enter Try.func17, Try.ntmps17
      go_wp2
      go_ret
      exact ⟨rfl, rfl⟩
    · have e : max (-1048576) (min x 1048576) = x := by omega
      rw [e]
      go_enter Try.func17, Try.ntmps17
      go_wp2
      go_ret
      exact ⟨rfl, rfl⟩
end Go.Proofs.Ytagcdnglipdldaa
