/-
  Promise 8.1, TrigPlays: any angle's cosine and sine, any root, and the table are the reference's. No conditions but an int.
-/
import Derived.Test.YtfkgkchlfkdglaaOg
import Derived.Test.YtfkgkchlfkdglaaOh
import Derived.Test.YtfkgkchlfkdglaaOi
import Derived.Test.YtfkgkchlfkdglaaOn
namespace Go.Proofs.Ytfkgkchlfkdglaa
open Go.RowKit
open M
theorem trg_tab (i : Nat) (h : i < 128) : trg (i : Int) = tab8.getD i (0, 0) := by
  rw [trN_trg i (by omega)]
  unfold trN
  rw [Nat.mod_eq_of_lt h, Nat.div_eq_of_lt h]
  rfl
theorem store_table (w : World) : (storeCells ⟨w.heap.size, 0, none⟩ (iCells (tbl 128)).toList 0).run Try.prog (w.alloc (.cells (iCells t0) 31)) = .ok () (w.alloc (.cells (iCells (tbl 128)) 31)) :=
  run_storeCells_new w _ _ _ (table_size (tbl 128) (tbl_length 128)) (by rw [iCells_size, iCells_size, tbl_length]; unfold t0; rw [List.length_replicate]) (iCells_one (tbl 128))
theorem rest128 (k : Int) : ∃ z : Int, k.tmod 128 = z ∧ -128 < z ∧ z < 128 := by
  refine ⟨_, rfl, ?_⟩
  rcases (show k < 0 ∨ 0 ≤ k by omega) with e | e
  · obtain ⟨m, rfl⟩ : ∃ m : Int, k = -m := ⟨-k, by omega⟩
    rw [Int.neg_tmod, Int.tmod_eq_emod_of_nonneg (by omega)]
    omega
  · rw [Int.tmod_eq_emod_of_nonneg e]
    omega
set_option maxRecDepth 100000 in
theorem plays_law (k : Int) (x : BitVec 64) (w : World) (hk : -9223372036854775808 ≤ k ∧ k ≤ 9223372036854775807) :
    Calls Try.prog 7 #[.int .i64 k, .int .u64 (un x)] w fun e w' => e = .returned (.bool true) ∧ Below w.heap.size w w' := by
  have HA := Lib.hid (and62 x)
  obtain ⟨m, hm⟩ : ∃ m, x.toNat % 4611686018427387904 = m := ⟨_, rfl⟩
  have hm2 : m < 4611686018427387904 := by omega
  rw [hm] at HA
  clear hm
  obtain ⟨z, hz, hz1, hz2⟩ := rest128 k
  obtain ⟨i, hi⟩ : ∃ i : Nat, (z + 128) % 128 = i := ⟨((z + 128) % 128).toNat, by omega⟩
  have hi1 : i < 128 := by omega
  have HZ := Lib.hid hz
  have HI := Lib.hid hi
  have HI2 := Lib.hid (show z % 128 = (i : Int) by omega)
  have HTI := Lib.hid (trg_tab i hi1)
  have HTA := Lib.hid (tbl_at i hi1)
  obtain ⟨P, hP⟩ : ∃ P, tab8.getD i (0, 0) = P := ⟨_, rfl⟩
  rw [hP] at HTI HTA
  clear hP
  obtain ⟨c, d⟩ := P
  obtain ⟨Q, hQ⟩ : ∃ Q, trg k = Q := ⟨_, rfl⟩
  have HQ := Lib.hid hQ
  clear hQ
  obtain ⟨a, b⟩ := Q
  obtain ⟨r, hr⟩ : ∃ r, rtN m = r := ⟨_, rfl⟩
  have HR := Lib.hid hr
  have hk1 := hk.1
  have hk2 := hk.2
  clear hr hz hi
  go_enter Try.func7, Try.ntmps7
  go_wp2_with fail
  refine (awake_any _).mono ?_
  rintro e w1 ⟨rfl, hb⟩
  have HB1 := Lib.hid hb
  clear hb
  go_wp2_with fail
  rw [HA.out, IntWalk.wrap64_in (m : Int) (by omega)]
  refine (turn_any k _ (by omega) (by omega)).mono ?_
  rintro e w2 ⟨rfl, hb⟩
  have HB2 := Lib.hid (HB1.out.trans (hb.mono HB1.out.size))
  clear hb HB1
  rw [HQ.out]
  go_wp2_with fail
  refine (turn_ref k _ (by omega) (by omega)).mono ?_
  rintro e w' ⟨rfl, rfl⟩
  rw [HQ.out]
  have hz := HZ.out
  go_wp2_with fail
  clear hz
  rw [HI.out, HI2.out]
  refine (turn_ref (i : Int) _ (by omega) (by omega)).mono ?_
  rintro e w' ⟨rfl, rfl⟩
  rw [HTI.out]
  go_wp2_with fail
  refine (table_any _).mono ?_
  rintro e w3 ⟨rfl, hb⟩
  have HB3 := Lib.hid (HB2.out.trans (hb.mono HB2.out.size))
  clear hb HB2
  have hz := table_zero w3
  have hst := store_table w3
  have hsz : (iCells (tbl 128)).size = 256 := by rw [iCells_size, tbl_length]
  have HT0 : Hid (Row (w3.alloc (.cells (iCells (tbl 128)) 31)) w3.heap.size 31 (iCells (tbl 128))) := heap_alloc_new _ _
  have HB4 : Hid (Below w.heap.size w (w3.alloc (.cells (iCells (tbl 128)) 31))) := HB3.out.alloc HB3.out.size _
  go_wp2_with fail
  clear hz hst hsz
  generalize w3.alloc (.cells (iCells (tbl 128)) 31) = w4 at *
  have g0 := i_at HT0.out (i * 2) (by rw [tbl_length]; omega)
  have g1 := i_at HT0.out (i * 2 + 1) (by rw [tbl_length]; omega)
  rw [Nat.mul_comm i 2, HTA.out.1] at g0
  rw [Nat.mul_comm i 2, HTA.out.2] at g1
  rw [Nat.mul_comm 2 i] at g0 g1
  generalize w3.heap.size = g at *
  refine (root_any m _ hm2).mono ?_
  rintro e w' ⟨rfl, rfl⟩
  rw [HR.out]
  go_wp2_with fail
  refine (root_ref m _ hm2).mono ?_
  rintro e w' ⟨rfl, rfl⟩
  rw [HR.out]
  go_wp2
  go_ret
  exact ⟨rfl, HB4.out⟩
end Go.Proofs.Ytfkgkchlfkdglaa
