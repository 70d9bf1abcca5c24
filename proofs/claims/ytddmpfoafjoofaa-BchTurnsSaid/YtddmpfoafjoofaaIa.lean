/-
  The contract of layer 5's awake, and what the laws' walks share: two words laid one behind the other. No conditions.
-/
import Derived.Test.YtddmpfoafjoofaaHz
namespace Go.Proofs.Ytddmpfoafjoofaa
open Go.RowKit
open M

/-- Two words' blocks, the first laid. -/
def T1 (W : World) (a : List Bool) : World := ((W.alloc (.cells (boolCells w0) 25)).alloc (.cells (boolCells w0) 25)).setRow W.heap.size (boolCells a)
/-- .. both laid. -/
def T2 (W : World) (a b : List Bool) : World := (T1 W a).setRow (W.heap.size + 1) (boolCells b)
theorem two_st (W : World) (a b : List Bool) (ha : a.length = 127) (hb : b.length = 127) :
    (storeCells ⟨W.heap.size, 0, none⟩ (boolCells a).toList 0).run Try.prog ((W.alloc (.cells (boolCells w0) 25)).alloc (.cells (boolCells w0) 25)) = .ok () (T1 W a) ∧
    (storeCells ⟨W.heap.size + 1, 0, none⟩ (boolCells b).toList 0).run Try.prog (T1 W a) = .ok () (T2 W a b) ∧
    Row (T2 W a b) W.heap.size 25 (boolCells a) ∧ Row (T2 W a b) (W.heap.size + 1) 25 (boolCells b) ∧ Below W.heap.size W (T2 W a b) := by
  have h0 : Row ((W.alloc (.cells (boolCells w0) 25)).alloc (.cells (boolCells w0) 25)) W.heap.size 25 (boolCells w0) := heap_alloc2_old _ _ _
  have h1 : Row ((W.alloc (.cells (boolCells w0) 25)).alloc (.cells (boolCells w0) 25)) (W.heap.size + 1) 25 (boolCells w0) := heap_alloc2_new _ _ _
  have h2 : Row (T1 W a) (W.heap.size + 1) 25 (boolCells w0) := (setRow_other _ _ _ _ (by omega)).trans h1
  have h3 : Row (T1 W a) W.heap.size 25 (boolCells a) := Row.setRow h0 _
  exact ⟨store_at _ _ w0 a w0_length ha h0, store_at _ _ w0 b w0_length hb h2, (setRow_other _ _ _ _ (by omega)).trans h3, Row.setRow h2 _,
    below_setRow (below_setRow (((Below.refl _ _).alloc (Nat.le_refl _) _).alloc (by simp) _) (Nat.le_refl _) _) (by omega) _⟩
theorem cwd_zero : cwd 0#64 = w0 := by decide +kernel
theorem encode_zero (w : World) : Calls Try.prog 10 #[.int .u64 0] w fun e w' => e = .returned (.agg (boolCells w0)) ∧ Below w.heap.size w w' := by
  have := encode_any 0#64 w
  rwa [show un 0#64 = 0 from rfl, cwd_zero] at this
theorem encode_five (w : World) : Calls Try.prog 10 #[.int .u64 5] w fun e w' => e = .returned (.agg (boolCells (cwd 5#64))) ∧ Below w.heap.size w w' := by
  have := encode_any 5#64 w
  rwa [show un 5#64 = 5 from rfl] at this

set_option maxRecDepth 100000 in
theorem awake_any (w : World) :
    Calls Try.prog 9 #[] w fun e w' => e = .returned (.bool true) ∧ Below w.heap.size w w' := by
  have hz := word_zero
  have heq := word_eq w0 w0 w0_length w0_length
  rw [show (w0 == w0) = true from beq_self_eq_true w0] at heq
  have HC5 := Lib.hid (cwd_length 5#64)
  have HT5 : Hid (un (told (cwd 5#64)) = 5) := by unfold Hid; rw [told_cwd]; rfl
  go_enter Try.func9, Try.ntmps9
  go_wp2_with fail
  refine (encode_zero _).mono ?_
  rintro e w1 ⟨rfl, hb⟩
  have HB := Lib.hid hb
  clear hb
  go_wp2_with fail
  refine (encode_five _).mono ?_
  rintro e w2 ⟨rfl, hb⟩
  have HB2 := Lib.hid (HB.out.trans (hb.mono HB.out.size))
  clear hb
  generalize cwd 5#64 = c at *
  go_wp2_with fail
  refine (info_any c _ HC5.out).mono ?_
  rintro e w3 ⟨rfl, hb⟩
  have HB3 := Lib.hid (HB2.out.trans (hb.mono HB2.out.size))
  clear hb
  rw [HT5.out]
  go_wp2
  go_ret
  exact ⟨rfl, HB3.out⟩
end Go.Proofs.Ytddmpfoafjoofaa
