/-
  The walk of the law BchTurns. No conditions.
-/
import Derived.Test.YtddmpfoafjoofaaIa
namespace Go.Proofs.Ytddmpfoafjoofaa
open Go.RowKit
open M
attribute [local go_sem] un_beq un_bne un_xor

/-- A word turned, as far as the loop has come. -/
def tj (l v : List Bool) (r : Nat) : Nat → List Bool
  | 0 => w0
  | j + 1 => (tj l v r j).set ((j + r) % 127) (l.getD j false)
theorem tj_length (l v : List Bool) (r j : Nat) : (tj l v r j).length = 127 := by
  induction j with
  | zero => exact w0_length
  | succ j ih => show (List.set _ _ _).length = 127; rw [List.length_set, ih]
theorem tj_getD (l v : List Bool) (r : Nat) (j : Nat) (hj : j ≤ 127) (i : Nat) (hi : i < j) : (tj l v r j).getD ((i + r) % 127) false = l.getD i false := by
  induction j with
  | zero => omega
  | succ j ih =>
    show ((tj l v r j).set ((j + r) % 127) (l.getD j false)).getD ((i + r) % 127) false = _
    rw [bset _ _ _ _ (by rw [tj_length]; exact Nat.mod_lt _ (by omega))]
    by_cases e : i = j
    · subst e; rw [if_pos rfl]
    · rw [if_neg (by omega)]
      exact ih (by omega) (by omega)
theorem tj_turns (l v : List Bool) (hl : l.length = 127) (r : Nat) : tj l v r 127 = turns l r := by
  apply bext _ _ (by rw [tj_length, turns_length l hl])
  intro i hi
  rw [tj_length] at hi
  obtain ⟨k, hk, rfl⟩ : ∃ k, k < 127 ∧ i = (k + r) % 127 := ⟨(i + 127 * (r + 1) - r) % 127, Nat.mod_lt _ (by omega), by omega⟩
  rw [tj_getD l v r 127 (by omega) k hk, turns_getD l hl r k hk]

set_option maxRecDepth 100000 in
set_option maxHeartbeats 1000000 in
theorem turns_law (x : BitVec 64) (by8 : UInt8) (w : World) :
    Calls Try.prog 8 #[.int .u64 (un x), .int .u8 (ub by8)] w fun e w' => e = .returned (.bool true) ∧ Below w.heap.size w w' := by
  have hbd := ub_bd by8
  obtain ⟨r, hr⟩ : ∃ r : Nat, ub by8 = r := ⟨by8.toNat, rfl⟩
  rw [hr] at hbd ⊢
  have hr0 : r < 256 := by omega
  have HCW := Lib.hid fun _ : Unit => (cwd_cw x)
  have hla := cwd_length x
  have HEA := Lib.hid (encode_any x)
  obtain ⟨a, ha⟩ : ∃ l, cwd x = l := ⟨_, rfl⟩
  rw [ha] at hla HEA
  have HXA := Lib.hid fun _ : Unit => ha
  have HLA := Lib.hid hla
  have HSA := Lib.hid fun _ : Unit => word_size a hla
  have HS0 : Hid (Unit → (boolCells w0).size = (boolCells a).size) := by intro _; rw [boolCells_size, boolCells_size, w0_length, hla]
  clear ha hla
  rw [HXA.out ()] at HCW
  have hturn := turns_cw a HLA.out (HCW.out ()) r
  have htl := turns_length a HLA.out r
  have HTJ := Lib.hid fun _ : Unit => (tj_turns a a HLA.out r)
  have HIS := Lib.hid fun _ : Unit => (isCw_iff _).2 hturn
  have HTO := Lib.hid fun _ : Unit => cw_told _ htl hturn
  have HTL := Lib.hid htl
  clear hturn htl hr HCW HXA
  generalize turns a r = v at *
  go_enter Try.func8, Try.ntmps8
  go_wp2_with fail
  refine (awake_any _).mono ?_
  rintro e w1 ⟨rfl, hb⟩
  have HB1 := Lib.hid hb
  clear hb
  go_wp2_with fail
  refine (HEA.out _).mono ?_
  rintro e w2 ⟨rfl, hb⟩
  have HB2 := Lib.hid (HB1.out.trans (hb.mono HB1.out.size))
  clear hb HB1
  have hz := word_zero
  have H0 : Hid (Row (w2.alloc (.cells (boolCells w0) 25)) w2.heap.size 25 (boolCells w0)) := heap_alloc_new _ _
  go_wp2_with (first
    | ((refine wpList_store_row rfl 25 (.tmp 5) (.tmp 11) rfl w2.heap.size (boolCells a) rfl rfl 25 (boolCells w0) H0.out (HSA.out ()) (HS0.out ()) (boolCells_one a) ?_)
       have HA1 : Hid (Row ((w2.alloc (.cells (boolCells w0) 25)).setRow w2.heap.size (boolCells a)) w2.heap.size 25 (boolCells a)) := Row.setRow H0.out _
       have HBA : Hid (Below w.heap.size w ((w2.alloc (.cells (boolCells w0) 25)).setRow w2.heap.size (boolCells a))) := below_setRow (HB2.out.alloc HB2.out.size _) HB2.out.size _
       have HSZ : Hid (Unit → ((w2.alloc (.cells (boolCells w0) 25)).setRow w2.heap.size (boolCells a)).heap.size = w2.heap.size + 1) := by intro _; simp [World.setRow]
       generalize ((w2.alloc (.cells (boolCells w0) 25)).setRow w2.heap.size (boolCells a)) = w3 at *))
  have HV0 : Hid (Row (w3.alloc (.cells (boolCells w0) 25)) w3.heap.size 25 (boolCells (tj a a r 0))) := heap_alloc_new _ _
  have HW0 : Hid (Row (w3.alloc (.cells (boolCells w0) 25)) w2.heap.size 25 (boolCells a)) := HA1.out.alloc _
  have HB4 : Hid (Below w.heap.size w (w3.alloc (.cells (boolCells w0) 25))) := HBA.out.alloc HBA.out.size _
  have hgv : w2.heap.size < w3.heap.size := by have := HSZ.out (); omega
  have hg : w.heap.size ≤ w2.heap.size := HB2.out.size
  clear HSZ HBA HA1 H0 hz HB2 HS0 HEA
  generalize (w3.alloc (.cells (boolCells w0) 25)) = w4 at *
  generalize w3.heap.size = gv at *
  generalize w2.heap.size = gw at *
  go_loopw [7] (fun i wr => ∃ j : Nat, j ≤ 127 ∧ i = .int .i64 j ∧ Row wr gv 25 (boolCells (tj a a r j)) ∧ Row wr gw 25 (boolCells a) ∧ Below w.heap.size w wr) (fun i _ => 127 - (intOf i).toNat)
  case atStart => exact ⟨0, Nat.zero_le _, rfl, HV0.out, HW0.out, HB4.out⟩
  case round =>
    clear HV0 HW0 HB4
    obtain ⟨j, hj, rfl, h1, h2, h3⟩ := hrel
    have HV := Lib.hid h1
    have HW := Lib.hid h2
    have HB := Lib.hid h3
    clear h1 h2 h3
    by_cases hlt : j < 127
    · have hk : ((j : Int) + (r : Int)).tmod 127 = (((j + r) % 127 : Nat) : Int) := by rw [Int.tmod_eq_emod_of_nonneg (by omega)]; omega
      have hk2 : ((j : Int) + (r : Int)) % 127 = (((j + r) % 127 : Nat) : Int) := by omega
      have hk3 : (j + r) % 127 < 127 := Nat.mod_lt _ (by omega)
      have HS : Hid (tj a a r (j + 1) = (tj a a r j).set ((j + r) % 127) (a.getD j false)) := rfl
      generalize (j + r) % 127 = k at *
      have c0 := word_at HW.out j (by rw [HLA.out]; exact hlt)
      have c1 := word_at HV.out k (by rw [tj_length]; exact hk3)
      have f1 := HV.out.free k
      generalize a.getD j false = y at *
      have hk5 : (k : Int) < 127 := by omega
      have hw1 : wrap64 (r : Int) = (r : Int) := IntWalk.wrap64_in _ (by omega)
      have hw2 : wrap64 ((j : Int) + (r : Int)) = (j : Int) + (r : Int) := IntWalk.wrap64_in _ (by omega)
      go_wp2
      go_roundw
      case rel =>
        refine ⟨j + 1, by omega, by go_num, ?_, HW.out.far (p := ⟨gv, k, none⟩) (by show gw ≠ gv; omega) _, HB.out.setCell (p := ⟨gv, k, none⟩) (by show w.heap.size ≤ gv; omega) _⟩
        rw [HS.out, ← boolCells_set]
        exact HV.out.set k _
      case measure => simp [intOf] <;> omega
    · obtain rfl : j = 127 := by omega
      rw [HTJ.out ()] at HV
      have hEN := encode_any (told v)
      rw [← HTO.out ()] at hEN
      have hIS := is_any v
      rw [HIS.out ()] at hIS
      have heq := word_eq v v HTL.out HTL.out
      rw [beq_self_eq_true] at heq
      have HSV := Lib.hid fun _ : Unit => word_size v HTL.out
      clear HTJ HIS HTO
      have HCV : Hid (∀ W : World, (∃ p : Regrown, W = Sort.grow (redrawn wr p.d) p.os) → W.heap[gv]? = some (.cells (boolCells v) 25 (0, 0))) := by
        rintro W ⟨p, rfl⟩
        exact HV.out.below (below_regrown wr p.d p.os) HV.out.lt
      have HCI : Hid (∀ d os, Calls Try.prog 11 #[.agg (boolCells v)] (Sort.grow (redrawn wr d) os) fun e w'' => e = .returned (.bool true) ∧ ∃ p : Regrown, w'' = Sort.grow (redrawn wr p.d) p.os) :=
        fun d os => Calls.regrown_of (hIS _ HTL.out)
      have HCN : Hid (∀ d os, Calls Try.prog 12 #[.agg (boolCells v)] (Sort.grow (redrawn wr d) os) fun e w'' => e = .returned (.int .u64 (un (told v))) ∧ ∃ p : Regrown, w'' = Sort.grow (redrawn wr p.d) p.os) :=
        fun d os => Calls.regrown_of (info_any v _ HTL.out)
      have HCE : Hid (∀ d os, Calls Try.prog 10 #[.int .u64 (un (told v))] (Sort.grow (redrawn wr d) os) fun e w'' => e = .returned (.agg (boolCells v)) ∧ ∃ p : Regrown, w'' = Sort.grow (redrawn wr p.d) p.os) :=
        fun d os => Calls.regrown_of (hEN _)
      clear hEN hIS hlt hj
      generalize un (told v) = tv at *
      go_wp2_with fail
      refine wp_region_quiet_below (by kernel_rfl) (by kernel_rfl) ?_
      refine BigFrame.wpQuiet_want (by rfl) (fun K hK => ?_)
      refine quiet_load_row 25 (.tmp 6) rfl gv rfl 25 (boolCells v) (0, 0) _ HCV.out Try.underlying25 rfl (HSV.out ()) ?_
      refine hK _ ?_
      clear hK K
      simp only [Act.put, List.setIfInBounds_toArray, List.set_cons_zero, List.set_cons_succ]
      quiet_step (first | (go_at_call 11; exact HCI.out _ _))
      quiet_step (fail)
      refine BigFrame.wpQuiet_want (by rfl) (fun K hK => ?_)
      refine quiet_load_row 25 (.tmp 6) rfl gv rfl 25 (boolCells v) (0, 0) _ HCV.out Try.underlying25 rfl (HSV.out ()) ?_
      refine hK _ ?_
      clear hK K
      simp only [Act.put, List.setIfInBounds_toArray, List.set_cons_zero, List.set_cons_succ]
      refine BigFrame.wpQuiet_want (by rfl) (fun K hK => ?_)
      refine quiet_load_row 25 (.tmp 6) rfl gv rfl 25 (boolCells v) (0, 0) _ HCV.out Try.underlying25 rfl (HSV.out ()) ?_
      refine hK _ ?_
      clear hK K
      simp only [Act.put, List.setIfInBounds_toArray, List.set_cons_zero, List.set_cons_succ]
      quiet_step (first | (go_at_call 12; exact HCN.out _ _))
      quiet_step (first | (go_at_call 10; exact HCE.out _ _))
      repeat (quiet_step (fail))
      refine wpQuiet_nil ?_
      intro _ hw'
      obtain ⟨⟨dq, osq⟩, hw''⟩ := hw'
      subst hw''
      have HBQ := Lib.hid (HB.out.trans ((below_regrown wr dq osq).mono HB.out.size))
      generalize Sort.grow (redrawn wr dq) osq = wq at *
      go_wp2
      go_ret
      exact ⟨rfl, HBQ.out⟩
end Go.Proofs.Ytddmpfoafjoofaa
