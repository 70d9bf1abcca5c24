/-
  The walk of the law BchFar. No conditions.
-/
import Derived.Test.YtddmpfoafjoofaaIa
namespace Go.Proofs.Ytddmpfoafjoofaa
open Go.RowKit
open M
attribute [local go_sem] un_beq un_bne un_xor

set_option maxRecDepth 100000 in
set_option maxHeartbeats 2000000 in
theorem far_law (x y : BitVec 64) (w : World) :
    Calls Try.prog 4 #[.int .u64 (un x), .int .u64 (un y)] w fun e w' => e = .returned (.bool true) ∧ Below w.heap.size w w' := by
  have hD : x = y ∧ dst (cwd x) (cwd y) = 0 ∨ x ≠ y ∧ 21 ≤ dst (cwd x) (cwd y) ∧ dst (cwd x) (cwd y) ≤ 127 := by
    by_cases e : x = y
    · left; refine ⟨e, ?_⟩; rw [e]; exact dst_self _
    · right; exact ⟨e, dst_cwd x y e⟩
  have HD := Lib.hid hD
  clear hD
  have hla := cwd_length x
  have hlb := cwd_length y
  have HEA := Lib.hid (encode_any x)
  have HEB := Lib.hid (encode_any y)
  obtain ⟨a, ha⟩ : ∃ l, cwd x = l := ⟨_, rfl⟩
  obtain ⟨b, hb⟩ : ∃ l, cwd y = l := ⟨_, rfl⟩
  rw [ha] at hla HEA
  rw [hb] at hlb HEB
  have HXA := Lib.hid fun _ : Unit => ha
  have HXB := Lib.hid fun _ : Unit => hb
  have HLA := Lib.hid hla
  have HLB := Lib.hid hlb
  have HSA := Lib.hid fun _ : Unit => word_size a hla
  have HSB := Lib.hid fun _ : Unit => word_size b hlb
  have HS0 : Hid (Unit → (boolCells w0).size = (boolCells a).size) := by intro _; rw [boolCells_size, boolCells_size, w0_length, hla]
  have HS1 : Hid (Unit → (boolCells w0).size = (boolCells b).size) := by intro _; rw [boolCells_size, boolCells_size, w0_length, hlb]
  clear ha hb hla hlb
  rw [HXA.out (), HXB.out ()] at HD
  have HC := Lib.hid (dst_comm b a)
  go_enter Try.func4, Try.ntmps4
  go_wp2_with fail
  refine (awake_any _).mono ?_
  rintro e w1 ⟨rfl, hb⟩
  have HB1 := Lib.hid hb
  clear hb
  go_wp2_with fail
  refine (HEA.out _).mono ?_
  rintro e w2 ⟨rfl, hb⟩
  have HB2 := Lib.hid (HB1.out.trans (hb.mono HB1.out.size))
  clear hb HB1
  go_wp2_with fail
  refine (HEB.out _).mono ?_
  rintro e w3 ⟨rfl, hb⟩
  have HB3 := Lib.hid (HB2.out.trans (hb.mono HB2.out.size))
  clear hb HB2
  have hz := word_zero
  have H0 : Hid (Row ((w3.alloc (.cells (boolCells w0) 25)).alloc (.cells (boolCells w0) 25)) w3.heap.size 25 (boolCells w0)) := heap_alloc2_old _ _ _
  have H1 : Hid (Row ((w3.alloc (.cells (boolCells w0) 25)).alloc (.cells (boolCells w0) 25)) (w3.heap.size + 1) 25 (boolCells w0)) := heap_alloc2_new _ _ _
  have H2 : Hid (Row (((w3.alloc (.cells (boolCells w0) 25)).alloc (.cells (boolCells w0) 25)).setRow w3.heap.size (boolCells a)) (w3.heap.size + 1) 25 (boolCells w0)) := (setRow_other _ _ _ _ (by omega)).trans H1.out
  have HRA : Hid (Row ((((w3.alloc (.cells (boolCells w0) 25)).alloc (.cells (boolCells w0) 25)).setRow w3.heap.size (boolCells a)).setRow (w3.heap.size + 1) (boolCells b)) w3.heap.size 25 (boolCells a)) := (setRow_other _ _ _ _ (by omega)).trans (Row.setRow H0.out _)
  have HRB : Hid (Row ((((w3.alloc (.cells (boolCells w0) 25)).alloc (.cells (boolCells w0) 25)).setRow w3.heap.size (boolCells a)).setRow (w3.heap.size + 1) (boolCells b)) (w3.heap.size + 1) 25 (boolCells b)) := Row.setRow H2.out _
  have HB4 : Hid (Below w.heap.size w ((((w3.alloc (.cells (boolCells w0) 25)).alloc (.cells (boolCells w0) 25)).setRow w3.heap.size (boolCells a)).setRow (w3.heap.size + 1) (boolCells b))) :=
    below_setRow (below_setRow ((HB3.out.alloc HB3.out.size _).alloc (by have := HB3.out.size; simp; omega) _) HB3.out.size _) (by have := HB3.out.size; omega) _
  clear HB3
  go_wp2_with (first
    | (refine wpList_store_row rfl 25 (.tmp 5) (.tmp 11) rfl w3.heap.size (boolCells a) rfl rfl 25 (boolCells w0) H0.out (HSA.out ()) (HS0.out ()) (boolCells_one a) ?_)
    | (refine wpList_store_row rfl 25 (.tmp 6) (.tmp 13) rfl (w3.heap.size + 1) (boolCells b) rfl rfl 25 (boolCells w0) H2.out (HSB.out ()) (HS1.out ()) (boolCells_one b) ?_)
    | (refine wpList_load_row rfl 25 (.tmp 5) rfl w3.heap.size rfl 25 (boolCells a) (0, 0) _ HRA.out Try.underlying25 rfl (HSA.out ()) ?_)
    | (refine wpList_load_row rfl 25 (.tmp 6) rfl (w3.heap.size + 1) rfl 25 (boolCells b) (0, 0) _ HRB.out Try.underlying25 rfl (HSB.out ()) ?_))
  clear H0 H1 H2 hz
  generalize (((w3.alloc (.cells (boolCells w0) 25)).alloc (.cells (boolCells w0) 25)).setRow w3.heap.size (boolCells a)).setRow (w3.heap.size + 1) (boolCells b) = w4 at *
  generalize w3.heap.size = g at *
  refine (distance_any a b _ HLA.out HLB.out).mono ?_
  rintro e w5 ⟨rfl, hb⟩
  have HRA5 := Lib.hid (HRA.out.box hb)
  have HRB5 := Lib.hid (HRB.out.box hb)
  have HB5 := Lib.hid (HB4.out.trans (hb.mono HB4.out.size))
  clear hb HRA HRB HB4
  go_wp2_with (first
    | (refine wpList_load_row rfl 25 (.tmp 5) rfl g rfl 25 (boolCells a) (0, 0) _ HRA5.out Try.underlying25 rfl (HSA.out ()) ?_)
    | (refine wpList_load_row rfl 25 (.tmp 6) rfl (g + 1) rfl 25 (boolCells b) (0, 0) _ HRB5.out Try.underlying25 rfl (HSB.out ()) ?_))
  refine (distance_any b a _ HLB.out HLA.out).mono ?_
  rintro e w6 ⟨rfl, hb⟩
  have HB6 := Lib.hid (HB5.out.trans (hb.mono HB5.out.size))
  clear hb HRA5 HRB5 HB5
  rw [HC.out]
  have hD := HD.out
  generalize dst a b = D at *
  rcases hD with ⟨rfl, rfl⟩ | ⟨hne, h21, h127⟩
  · go_wp2
    go_ret
    exact ⟨rfl, HB6.out⟩
  · have hx : (x == y) = false := by rw [beq_eq_false_iff_ne]; exact hne
    have hx2 : (x != y) = true := by rw [bne_iff_ne]; exact hne
    have h1 : (21 : Int) ≤ (D : Int) := by omega
    have h2 : (D : Int) ≤ 127 := by omega
    clear hne h21 h127 HD HC
    go_wp2
    go_ret
    exact ⟨rfl, HB6.out⟩
end Go.Proofs.Ytddmpfoafjoofaa
