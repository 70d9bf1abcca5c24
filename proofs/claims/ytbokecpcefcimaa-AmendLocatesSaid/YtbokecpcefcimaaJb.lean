/-
  The contract of layer 5's reference Generator. No conditions.
-/
import Derived.Test.YtbokecpcefcimaaJa
namespace Go.Proofs.Ytbokecpcefcimaa
open Go.RowKit
open M

theorem gin_met (met : List Bool) (p : List Nat) (a j : Nat) (h : met.length = 128) : (gin met p a j).1.length = 128 := by
  induction j with
  | zero => exact h
  | succ j ih => simp only [gin]; split <;> simp [ih]
theorem gin_lt (met : List Bool) (p : List Nat) (a j : Nat) (h : a < 128) : (gin met p a j).2.2 < 128 := by
  induction j with
  | zero => exact h
  | succ j ih => simp only [gin]; split <;> exact mul_lt _ _ ih ih
theorem gin_few (met : List Bool) (p : List Nat) (a j : Nat) : (gin met p a j).2.1.length ≤ p.length + j := by
  induction j with
  | zero => exact Nat.le_refl _
  | succ j ih => simp only [gin]; split <;> simp only [tm_length] <;> omega
theorem gin_els (met : List Bool) (p : List Nat) (a j : Nat) (h : Els p) (ha : a < 128) : Els (gin met p a j).2.1 := by
  induction j with
  | zero => exact h
  | succ j ih => simp only [gin]; split; exact ih; exact tm_els _ _ (gin_lt met p a j ha) ih
theorem pw2_lt (i : Nat) : pw 2 i < 128 := pw_lt 2 i (by omega)
theorem gout_met (i : Nat) : (gout i).1.length = 128 := by
  induction i with
  | zero => exact m0_length
  | succ i ih => exact gin_met _ _ _ _ ih
theorem gout_few (i : Nat) : (gout i).2.length ≤ 1 + 7 * i := by
  induction i with
  | zero => exact Nat.le_refl _
  | succ i ih =>
    have : (gin (gout i).1 (gout i).2 (pw 2 (i + 1)) 7).2.1.length ≤ _ := gin_few _ _ _ 7
    show (gin (gout i).1 (gout i).2 (pw 2 (i + 1)) 7).2.1.length ≤ _
    omega
theorem gout_els (i : Nat) : Els (gout i).2 := by
  induction i with
  | zero => exact fun c hc => by simp [gout] at hc; omega
  | succ i ih => exact gin_els _ _ _ 7 ih (pw2_lt _)
theorem pow_2 (k : Nat) (w : World) (hk : k < 20) :
    Calls Try.prog 38 #[.int .i64 2, .int .i64 ((k : Int) + 1)] w fun e w' => e = .returned (.int .i64 (pw 2 (k + 1) : Nat)) ∧ w = w' := by
  have := pow_ref 2 (k + 1) w ⟨by omega, by omega⟩ (by omega)
  rw [show el 2 = 2 by decide] at this
  rwa [show ((k + 1 : Nat) : Int) = (k : Int) + 1 by omega] at this

set_option maxRecDepth 100000 in
set_option maxHeartbeats 1000000 in
theorem gen_ref (w : World) :
    Calls Try.prog 20 #[] w fun e w' => ∃ g, w.heap.size ≤ g ∧ e = .returned (.slice (some ⟨g, 0, none⟩) 64 64) ∧ Row w' g 3 (natCells genT) ∧ Below w.heap.size w w' := by
  have hz := met_zero w
  go_enter Try.func20, Try.ntmps20
  go_wp2
  clear hz
  have HM0 : Hid (Row ((w.alloc (.cells (boolCells m0) 68)).alloc (.cells #[.int .i64 1] 3)) w.heap.size 68 (boolCells m0)) := heap_alloc2_old _ _ _
  have HP0 : Hid (Row ((w.alloc (.cells (boolCells m0) 68)).alloc (.cells #[.int .i64 1] 3)) (w.heap.size + 1) 3 (natCells [1])) := heap_alloc2_new _ _ _
  have HB0 : Hid (Below w.heap.size w ((w.alloc (.cells (boolCells m0) 68)).alloc (.cells #[.int .i64 1] 3))) := ((Below.refl _ _).alloc (Nat.le_refl _) _).alloc (by simp) _
  generalize (w.alloc (.cells (boolCells m0) 68)).alloc (.cells #[.int .i64 1] 3) = w1 at *
  go_loopw [2, 3] (fun v i wr => ∃ (k b : Nat), k ≤ 20 ∧ i = .int .i64 ((k : Int) + 1) ∧ v = .slice (some ⟨b, 0, none⟩) (gout k).2.length (gout k).2.length ∧ w.heap.size < b ∧ Row wr b 3 (natCells (gout k).2) ∧ Row wr w.heap.size 68 (boolCells (gout k).1) ∧ Below w.heap.size w wr) (fun _ i _ => 21 - (intOf i).toNat)
  case atStart => exact ⟨0, w.heap.size + 1, by omega, rfl, rfl, by omega, HP0.out, HM0.out, HB0.out⟩
  case round =>
    clear HM0 HP0 HB0
    obtain ⟨k, b, hk, rfl, rfl, hbw, hp, hm, hb⟩ := hrel
    have HP := Lib.hid hp
    have HM := Lib.hid hm
    have HB := Lib.hid hb
    clear hp hm hb
    by_cases hlt : k < 20
    · have HMK := Lib.hid (gout_met k)
      have HFK := Lib.hid (gout_few k)
      have HEK := Lib.hid (gout_els k)
      have HNX : Hid (Unit → gout (k + 1) = ((gin (gout k).1 (gout k).2 (pw 2 (k + 1)) 7).1, (gin (gout k).1 (gout k).2 (pw 2 (k + 1)) 7).2.1)) := fun _ => rfl
      obtain ⟨M, hM⟩ : ∃ M, (gout k).1 = M := ⟨_, rfl⟩
      obtain ⟨L, hL⟩ : ∃ L, (gout k).2 = L := ⟨_, rfl⟩
      rw [hM] at HM HMK HNX
      rw [hL] at HP HFK HEK HNX ⊢
      have hx := pw2_lt (k + 1)
      have hPW := fun W => pow_2 k W hlt
      generalize pw 2 (k + 1) = x at *
      have HPW := Lib.hid hPW
      clear hM hL hPW
      go_wp2_with fail
      refine (HPW.out _).mono ?_
      rintro e w2 ⟨rfl, rfl⟩
      go_wp2
      go_loopw [2, 4, 5] (fun v a i wr => ∃ (j b : Nat), j ≤ 7 ∧ i = .int .i64 j ∧ a = .int .i64 ((gin M L x j).2.2 : Nat) ∧ v = .slice (some ⟨b, 0, none⟩) (gin M L x j).2.1.length (gin M L x j).2.1.length ∧ w.heap.size < b ∧ Row wr b 3 (natCells (gin M L x j).2.1) ∧ Row wr w.heap.size 68 (boolCells (gin M L x j).1) ∧ Below w.heap.size w wr) (fun _ _ i _ => 7 - (intOf i).toNat)
      case atStart => exact ⟨0, b, by omega, rfl, rfl, rfl, hbw, HP.out, HM.out, HB.out⟩
      case round =>
        clear HP HM HB hbw
        obtain ⟨j, b, hj, rfl, rfl, rfl, hbw, hp, hm, hb⟩ := hrel
        have HP := Lib.hid hp
        have HM := Lib.hid hm
        have HB := Lib.hid hb
        clear hp hm hb
        have HML := Lib.hid (gin_met M L x j HMK.out)
        have ha := gin_lt M L x j hx
        have HE := Lib.hid (gin_els M L x j HEK.out hx)
        have hfew := gin_few M L x j
        have hLf := HFK.out
        have HS : Hid (Unit → gin M L x (j + 1) = if (gin M L x j).1.getD (gin M L x j).2.2 false then ((gin M L x j).1, (gin M L x j).2.1, mul (gin M L x j).2.2 (gin M L x j).2.2) else ((gin M L x j).1.set (gin M L x j).2.2 true, tm (gin M L x j).2.1 (gin M L x j).2.2, mul (gin M L x j).2.2 (gin M L x j).2.2)) := fun _ => rfl
        by_cases hlt7 : j < 7
        · obtain ⟨met, hmet⟩ : ∃ y, (gin M L x j).1 = y := ⟨_, rfl⟩
          obtain ⟨l, hl⟩ : ∃ y, (gin M L x j).2.1 = y := ⟨_, rfl⟩
          obtain ⟨a, hae⟩ : ∃ y, (gin M L x j).2.2 = y := ⟨_, rfl⟩
          rw [hmet] at HS HM HML
          rw [hl] at HS HP HE hfew ⊢
          rw [hae] at HS ha ⊢
          clear hmet hl hae
          have c0 := word_at HM.out a (by rw [HML.out]; exact ha)
          have hsq := mul_lt a a ha ha
          obtain ⟨q, hq⟩ : ∃ q, mul a a = q := ⟨_, rfl⟩
          have hMU := fun W => mul_rnat a a q W ha ha hq
          rw [hq] at HS hsq
          have HMU := Lib.hid hMU
          clear hMU hq
          obtain ⟨y, hy⟩ : ∃ y, met.getD a false = y := ⟨_, rfl⟩
          rw [hy] at c0 HS
          have h128 : (a : Int) < 128 := by omega
          clear hy
          cases y
          · have f0 := HM.out.free a
            go_wp2_with fail
            have HM2 : Hid (Row (wr.setCell ⟨w.heap.size, a, none⟩ (.bool true)) w.heap.size 68 (boolCells (met.set a true))) := by
              unfold Hid; rw [← boolCells_set]; exact HM.out.set a _
            have HP2 : Hid (Row (wr.setCell ⟨w.heap.size, a, none⟩ (.bool true)) b 3 (natCells l)) := HP.out.far (p := ⟨w.heap.size, a, none⟩) (by show b ≠ w.heap.size; omega) _
            have HB2 : Hid (Below w.heap.size w (wr.setCell ⟨w.heap.size, a, none⟩ (.bool true))) := HB.out.setCell (p := ⟨w.heap.size, a, none⟩) (Nat.le_refl _) _
            clear HM HP HB c0 f0
            generalize wr.setCell ⟨w.heap.size, a, none⟩ (.bool true) = w3 at *
            have hT := times_ref l a b l.length w3 HE.out ha (by omega) (fun i hi => nat_at HP2.out i hi) HP2.out.lt
            refine hT.mono ?_
            rintro e w4 ⟨rfl, hr, hb⟩
            have HR4 := Lib.hid hr
            have HM4 := Lib.hid (HM2.out.box hb)
            have HB4 := Lib.hid (HB2.out.trans (hb.mono HB2.out.size))
            have hb4 : w.heap.size < w3.heap.size := HM2.out.lt
            clear hr hb hT HM2 HP2 HB2
            go_wp2_with fail
            refine (HMU.out _).mono ?_
            rintro e w5 ⟨rfl, rfl⟩
            go_wp2
            go_roundw
            case rel =>
              refine ⟨j + 1, w3.heap.size, by omega, by go_num, ?_, ?_, hb4, ?_⟩
              · rw [HS.out ()]; rfl
              · rw [HS.out (), if_neg (by simp), tm_length]
              · rw [HS.out ()]; exact ⟨HR4.out, HM4.out, HB4.out⟩
            case measure => simp [intOf] <;> omega
          · go_wp2_with fail
            refine (HMU.out _).mono ?_
            rintro e w5 ⟨rfl, rfl⟩
            go_wp2
            go_roundw
            case rel =>
              refine ⟨j + 1, b, by omega, by go_num, ?_, ?_, hbw, ?_⟩
              · rw [HS.out ()]; rfl
              · rw [HS.out ()]; rfl
              · rw [HS.out ()]; exact ⟨HP.out, HM.out, HB.out⟩
            case measure => simp [intOf] <;> omega
        · obtain rfl : j = 7 := by omega
          go_wp2
          go_roundw
          case rel =>
            refine ⟨k + 1, b, by omega, by go_num, ?_, hbw, ?_⟩
            · rw [HNX.out ()]
            · rw [HNX.out ()]; exact ⟨HP.out, HM.out, HB.out⟩
          case measure => simp [intOf] <;> omega
    · obtain rfl : k = 20 := by omega
      have hg := gout_gen
      have hgl := gen_length
      rw [hg] at HP ⊢
      rw [hgl]
      clear hg hgl
      go_wp2
      go_ret
      exact ⟨b, by omega, rfl, HP.out, HB.out⟩
end Go.Proofs.Ytbokecpcefcimaa
