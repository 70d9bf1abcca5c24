/-
  The walks of the laws SipTurns and SipKeys: each returns true, and nothing that was there is changed. Condition: the signs lie as the program's text lays them.
-/
import Derived.Test.YtplbmebhpjpnfaaDoorFr
namespace Go.Proofs.YtplbmebhpjpnfaaDoor
open Go.RowKit
open M
attribute [local go_sem] un_add un_sub un_xor un_or un_nonneg un_beq un_bne

theorem tmod_bd (n : Int) : -1000000 < n.tmod 1000000 ∧ n.tmod 1000000 < 1000000 := by
  have h1 := Int.tmod_lt_of_pos n (show (0 : Int) < 1000000 by decide)
  rcases Int.le_total 0 n with h | h
  · have := Int.tmod_nonneg 1000000 h; omega
  · have h3 := Int.tmod_lt_of_pos (-n) (show (0 : Int) < 1000000 by decide)
    rw [Int.neg_tmod] at h3; omega

attribute [local go_sem] rot_rot rot_zero rot_period rot_neg
set_option maxHeartbeats 1000000 in
theorem turns_walk (x : BitVec 64) (n m : Int) (w : World) (h : Signs w) :
    Calls Tryd.prog 5 #[.int .u64 (un x), .int .i64 n, .int .i64 m] w fun e w' => e = .returned (.bool true) ∧ Below w.heap.size w w' := by
  have HG := Lib.hid h
  have b1 := (tmod_bd n).1
  have b2 := (tmod_bd n).2
  have b3 := (tmod_bd m).1
  have b4 := (tmod_bd m).2
  clear h
  go_enter Tryd.func5, Tryd.ntmps5
  go_wp2_with (first
    | (go_at_call 9; refine (awake_any _ HG.out).mono ?_; rintro e w1 ⟨rfl, hb⟩; have HB := Lib.hid hb; clear hb)
    | (go_at_call 17; refine (turn_any _ _ _).mono ?_; rintro e w' ⟨rfl, rfl⟩))
  go_ret
  exact ⟨rfl, HB.out⟩

theorem keyI_set (a b : BitVec 64) (i : Nat) (hi : i < 8) : ((byteCells (keyI a b i)).setIfInBounds i (.int .u8 ((byteN a i).toNat : Int))).setIfInBounds (8 + i) (.int .u8 ((byteN b i).toNat : Int)) = byteCells (keyI a b (i + 1)) := by
  refine cases16 (p := fun i => i < 8 → ((byteCells (keyI a b i)).setIfInBounds i (.int .u8 ((byteN a i).toNat : Int))).setIfInBounds (8 + i) (.int .u8 ((byteN b i).toNat : Int)) = byteCells (keyI a b (i + 1))) ?_ ?_ ?_ ?_ ?_ ?_ ?_ ?_ ?_ ?_ ?_ ?_ ?_ ?_ ?_ ?_ i (by omega) hi <;> (intro h; first | rfl | omega)

theorem byteCells_one (k : List UInt8) : (byteCells k).all (·.oneCell') = true := by
  simp [byteCells, Value.oneCell']
theorem byteCells_size (k : List UInt8) : (byteCells k).size = k.length := by simp [byteCells]

attribute [local go_sem] byteN_wrap
set_option maxHeartbeats 1000000 in
theorem key_any (a b : BitVec 64) (w : World) :
    Calls Tryd.prog 18 #[.int .u64 (un a), .int .u64 (un b)] w fun e w' => e = .returned (.agg (byteCells (keyI a b 8))) ∧ Below w.heap.size w w' := by
  go_enter Tryd.func18, Tryd.ntmps18
  go_wp2
  go_loopw [7] (fun i wr => ∃ j : Nat, j ≤ 8 ∧ i = .int .i64 j ∧ Row wr (w.heap.size + 1) 23 (byteCells (keyI a b j)) ∧ Row wr w.heap.size 23 (byteCells (List.replicate 16 0)) ∧ Below w.heap.size w wr) (fun i _ => 8 - (intOf i).toNat)
  case atStart => exact ⟨0, Nat.zero_le _, rfl, heap_alloc2_new _ _ _, heap_alloc2_old _ _ _, ((Below.refl _ _).alloc (Nat.le_refl _) _).alloc (by simp) _⟩
  case round =>
    obtain ⟨j, hj, rfl, hr, hz, hb⟩ := hrel
    have HR := Lib.hid hr
    have HZ := Lib.hid hz
    have HB := Lib.hid hb
    by_cases hlt : j < 8
    · have f0 := hr.free j
      have f1 := hr.free (8 + j)
      obtain ⟨u0, c0⟩ : ∃ u, wr.cell? ⟨w.heap.size + 1, j, none⟩ = some u := ⟨_, (cell_of_row _ _ _ _ _ _ hr).trans (byteCells_get _ j (by rw [keyI_length _ _ j hj]; omega))⟩
      obtain ⟨u1, c1⟩ : ∃ u, wr.cell? ⟨w.heap.size + 1, 8 + j, none⟩ = some u := ⟨_, (cell_of_row _ _ _ _ _ _ hr).trans (byteCells_get _ (8 + j) (by rw [keyI_length _ _ j hj]; omega))⟩
      clear hr hz hb
      go_wp2
      go_roundw
      case rel =>
        refine ⟨j + 1, by omega, by go_num, ?_, (HZ.out.far (p := ⟨w.heap.size + 1, j, none⟩) (by simp) _).far (p := ⟨w.heap.size + 1, 8 + j, none⟩) (by simp) _,
          (HB.out.setCell (p := ⟨w.heap.size + 1, j, none⟩) (by simp) _).setCell (p := ⟨w.heap.size + 1, 8 + j, none⟩) (by simp) _⟩
        rw [← keyI_set a b j hlt]
        exact (HR.out.set j _).set (8 + j) _
      case measure => simp [intOf]; omega
    · obtain rfl : j = 8 := by omega
      have HK := Lib.hid (key_info (keyI a b 8) (keyI_length a b 8 (by omega)))
      have hsz : (byteCells (List.replicate 16 0)).size = (byteCells (keyI a b 8)).size := by rw [byteCells_size, byteCells_size, keyI_length a b 8 (by omega)]; rfl
      have HS := Lib.hid hsz
      clear hr hz hb hsz
      go_wp2_with (first
        | (refine wpList_load_row rfl 23 (.tmp 5) rfl (w.heap.size + 1) rfl 23 (byteCells (keyI a b 8)) (0, 0) _ HR.out Tryd.underlying23 rfl HK.out ?_)
        | (refine wpList_store_row rfl 23 (.tmp 4) (.tmp 26) rfl w.heap.size (byteCells (keyI a b 8)) rfl rfl 23 (byteCells (List.replicate 16 0)) HZ.out HK.out HS.out (byteCells_one _) ?_))
      refine bodyPost_ret (results_cell_row Tryd.results18 _ _ w.heap.size 23 (byteCells (keyI a b 8)) (0, 0) _ rfl (HZ.out.setRow _) Tryd.underlying23 rfl HK.out) rfl ⟨rfl, ?_⟩
      exact below_setRow HB.out (Nat.le_refl _) _

theorem keyI_word0 (a b : BitVec 64) : tail8 (ofB (keyI a b 8)) 0 0 = a := by
  unfold tail8
  exact word_bytes8 a
theorem keyI_word8 (a b : BitVec 64) : tail8 (ofB (keyI a b 8)) 8 0 = b := by
  unfold tail8
  exact word_bytes8 b

/-- A block of bytes of its own, told. -/
theorem row_told (w1 : World) (k : List UInt8) (old : Array Value) : Row ((w1.alloc (.cells old 23)).setRow w1.heap.size (byteCells k)) w1.heap.size 23 (byteCells k) ∧
    Below w1.heap.size w1 ((w1.alloc (.cells old 23)).setRow w1.heap.size (byteCells k)) :=
  ⟨Row.setRow (heap_alloc_new _ _) _, below_setRow ((Below.refl _ _).alloc (Nat.le_refl _) _) (Nat.le_refl _) _⟩
theorem conv_row (w : World) (g : Nat) (k : List UInt8) (hk : k.length = 16) (h : Row w g 23 (byteCells k)) :
    (convert 37 9 (.slice (some ⟨g, 0, none⟩) 16 16)).run Tryd.prog w = .ok (.string (ofB k)) w :=
  run_conv w g 0 16 16 k hk fun i hi => by rw [Nat.zero_add, cell_of_row _ _ _ _ _ _ h, byteCells_get k i hi]

set_option maxHeartbeats 1000000 in
theorem keys_walk (a b : BitVec 64) (w : World) (h : Signs w) :
    Calls Tryd.prog 7 #[.int .u64 (un a), .int .u64 (un b)] w fun e w' => e = .returned (.bool true) ∧ Below w.heap.size w w' := by
  have HG := Lib.hid h
  have hk := keyI_length a b 8 (by omega)
  have HI := Lib.hid (key_info (keyI a b 8) hk)
  have HK := Lib.hid hk
  have H0 := Lib.hid (keyI_word0 a b)
  have H8 := Lib.hid (keyI_word8 a b)
  clear h hk
  go_enter Tryd.func7, Tryd.ntmps7
  go_wp2_with (first
    | (go_at_call 18; refine (key_any _ _ _).mono ?_; rintro e w1 ⟨rfl, hb⟩; have HB := Lib.hid hb; clear hb)
    | (refine wpList_store_row rfl 23 (.tmp 5) (.tmp 9) rfl w1.heap.size (byteCells (keyI a b 8)) rfl rfl 23 _ (heap_alloc_new _ _) HI.out (by rw [byteCells_size, HK.out]; rfl) (byteCells_one _) ?_
       have ht := row_told w1 (keyI a b 8) (byteCells (List.replicate 16 0))
       generalize hw2 : World.setRow _ _ _ = w2
       have ht2 : Row w2 w1.heap.size 23 (byteCells (keyI a b 8)) ∧ Below w1.heap.size w1 w2 := by rw [← hw2]; exact ht
       have kc := conv_row w2 w1.heap.size (keyI a b 8) HK.out ht2.1
       have HB2 := Lib.hid (HB.out.trans (ht2.2.mono HB.out.size))
       clear ht hw2 ht2)
    | (go_at_call 9; refine (awake_any _ (HG.out.below HB2.out HG.out.lt)).mono ?_; rintro e w3 ⟨rfl, hb⟩; have HB3 := Lib.hid (HB2.out.trans (hb.mono HB2.out.size)); clear hb))
  refine (word_any _ 0 _ (by rw [ofB_size, HK.out]; unfold maxLen; omega) (by unfold maxLen; omega)).mono ?_
  rintro e w' ⟨rfl, rfl⟩
  rw [H0.out]
  go_wp2_with fail
  refine (word_any _ 8 _ (by rw [ofB_size, HK.out]; unfold maxLen; omega) (by unfold maxLen; omega)).mono ?_
  rintro e w' ⟨rfl, rfl⟩
  rw [H8.out]
  go_wp2
  go_ret
  exact ⟨rfl, HB3.out⟩
end Go.Proofs.YtplbmebhpjpnfaaDoor
