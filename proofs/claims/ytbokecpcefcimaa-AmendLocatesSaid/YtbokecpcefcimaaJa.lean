/-
  The contract of layer 5's reference Times. Conditions: elements, no more than 100.
-/
import Derived.Test.YtbokecpcefcimaaHn
namespace Go.Proofs.Ytbokecpcefcimaa
open Go.RowKit
open M

set_option maxRecDepth 100000 in
set_option maxHeartbeats 1000000 in
theorem times_ref (p : List Nat) (a b cap : Nat) (w : World) (hp : Els p) (ha : a < 128) (hlen : p.length ≤ 1000) (h : ∀ i, i < p.length → w.cell? ⟨b, i, none⟩ = some (.int .i64 (p.getD i 0 : Nat))) (hbw : b < w.heap.size) :
    Calls Try.prog 39 #[.slice (some ⟨b, 0, none⟩) p.length cap, .int .i64 a] w fun e w' =>
      e = .returned (.slice (some ⟨w.heap.size, 0, none⟩) (p.length + 1) (p.length + 1)) ∧ Row w' w.heap.size 3 (natCells (tm p a)) ∧ Below w.heap.size w w' := by
  obtain ⟨n, hn⟩ : ∃ n, p.length = n := ⟨_, rfl⟩
  have hmk : ∀ w, (Instr.makeSlice 40 (.int .i64 ((n : Int) + 1)) (.int .i64 ((n : Int) + 1))).run Try.prog w = .ok (.slice (some ⟨w.heap.size, 0, none⟩) (n + 1) (n + 1)) (w.alloc (.cells (madeCells #[.int .i64 0] (n + 1)) 3)) := fun w => by
    have := run_make_row' (P := Try.prog) 40 3 (.int .i64 0) 8 Try.underlying40 int_info rfl .i64 .i64 (n + 1) (by omega) (by omega) w
    rw [show ((n + 1 : Nat) : Int) = (n : Int) + 1 by omega] at this
    exact this
  have HZ := Lib.hid ((made_nats (n + 1)).trans (by rw [← hn, ← qj_zero p a]))
  have HN := Lib.hid hn
  have HC := Lib.hid h
  have HP := Lib.hid hp
  rw [hn] at hlen ⊢
  clear hn h hp
  go_enter Try.func39, Try.ntmps39
  go_wp2
  clear hmk
  have HR0 : Hid (Row (w.alloc (.cells (madeCells #[.int .i64 0] (n + 1)) 3)) w.heap.size 3 (natCells (qj p a 0))) := by unfold Hid; rw [← HZ.out]; exact heap_alloc_new _ _
  have HB0 : Hid (Below w.heap.size w (w.alloc (.cells (madeCells #[.int .i64 0] (n + 1)) 3))) := (Below.refl _ _).alloc (Nat.le_refl _) _
  generalize w.alloc (.cells (madeCells #[.int .i64 0] (n + 1)) 3) = w1 at *
  go_loopw [6] (fun i wr => ∃ k : Nat, k ≤ n ∧ i = .int .i64 k ∧ Row wr w.heap.size 3 (natCells (qj p a k)) ∧ Below w.heap.size w wr) (fun i _ => n - (intOf i).toNat)
  case atStart => exact ⟨0, by omega, rfl, HR0.out, HB0.out⟩
  case round =>
    clear HR0 HB0 HZ
    obtain ⟨k, hk, rfl, h1, h2⟩ := hrel
    have HR := Lib.hid h1
    have HB := Lib.hid h2
    clear h1 h2
    by_cases hlt : k < n
    · have c0 : wr.cell? ⟨b, k, none⟩ = some (.int .i64 (p.getD k 0 : Nat)) := (HB.out.cell (p := ⟨b, k, none⟩) hbw).trans (HC.out k (by have := HN.out; omega))
      have c1 := nat_at HR.out k (by rw [qj_length, HN.out]; omega)
      rw [qj_at p a k (by have := HN.out; omega)] at c1
      have c2 := nat_at HR.out (k + 1) (by rw [qj_length, HN.out]; omega)
      rw [qj_next p a k (by have := HN.out; omega)] at c2
      have HS := Lib.hid (qj_set2 p a k)
      have HT := Lib.hid (tm_getD p a k (by have := HN.out; omega))
      have hx := HP.out.getD k
      have hy : (0 :: p).getD k 0 < 128 := by
        cases k with
        | zero => simp
        | succ k => rw [List.getD_cons_succ]; exact HP.out.getD k
      have hm := mul_lt _ a hx ha
      obtain ⟨x, hxe⟩ : ∃ x, p.getD k 0 = x := ⟨_, rfl⟩
      obtain ⟨y, hye⟩ : ∃ y, (0 :: p).getD k 0 = y := ⟨_, rfl⟩
      rw [hxe] at hx c0 hm HS HT
      rw [hye] at hy c1 HT
      obtain ⟨m, hme⟩ : ∃ m, mul x a = m := ⟨_, rfl⟩
      rw [hme] at hm HT
      have HME := Lib.hid hme
      have HYE := Lib.hid hye
      have hxor := i64_xor_nat y m (by omega) (by omega)
      have hx2 : bits .xor .i64 0 (x : Int) = (x : Int) := by
        have := i64_xor_nat 0 x (by omega) (by omega)
        rw [Nat.zero_xor] at this
        exact this
      have f0 := HR.out.free (k + 1)
      clear hxe hye hme
      go_wp2
      go_region
      have HR2 : Hid (Row ((wr.setCell ⟨w.heap.size, k + 1, none⟩ (.int .i64 (x : Int))).drew) w.heap.size 3 (natCells ((qj p a k).set (k + 1) x))) := by
        unfold Hid; rw [← natCells_set]; exact Row.drewN (HR.out.set (k + 1) _) 1
      have HB2 : Hid (Below w.heap.size w ((wr.setCell ⟨w.heap.size, k + 1, none⟩ (.int .i64 (x : Int))).drew)) := below_drew1 (HB.out.setCell (p := ⟨w.heap.size, k + 1, none⟩) (Nat.le_refl _) _)
      have c3 : ((wr.setCell ⟨w.heap.size, k + 1, none⟩ (.int .i64 (x : Int))).drew).cell? ⟨b, k, none⟩ = some (.int .i64 (x : Nat)) := (HB2.out.cell (p := ⟨b, k, none⟩) hbw).trans ((HB.out.cell (p := ⟨b, k, none⟩) hbw).symm.trans c0)
      clear c0 c1 c2 f0 hx2
      generalize (wr.setCell ⟨w.heap.size, k + 1, none⟩ (.int .i64 (x : Int))).drew = w4 at *
      have c4 := nat_at HR2.out k (by rw [List.length_set, qj_length, HN.out]; omega)
      rw [nset _ _ _ _ (by omega), qj_at p a k (by have := HN.out; omega), HYE.out] at c4
      have f4 := HR2.out.free k
      go_wp2
      go_region_with (go_at_call 40; refine (mul_rnat x a m _ hx ha HME.out).mono ?_; rintro e w' ⟨rfl, rfl⟩)
      all_goals
        go_wp2
        go_roundw
        case rel =>
          refine ⟨k + 1, by omega, by go_num, ?_, below_drew1 (HB2.out.setCell (p := ⟨w.heap.size, k, none⟩) (Nat.le_refl _) _)⟩
          rw [← HS.out, HT.out, ← natCells_set]
          exact Row.drewN (HR2.out.set k _) 1
        case measure => simp [intOf] <;> omega
    · obtain rfl : k = n := by omega
      have HD := Lib.hid (qj_done p a)
      rw [HN.out] at HD
      go_wp2
      go_ret
      exact ⟨rfl, by rw [← HD.out]; exact HR.out, HB.out⟩
end Go.Proofs.Ytbokecpcefcimaa
