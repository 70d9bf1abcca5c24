/-
  lift's steps, and its Turn and Back: two numbers turned by any angle, and turned back. Conditions: ints; Turn and Back of numbers beyond 2^40 are these.
-/
import Derived.Test.YtpfdjddjoclldaaREd
import Derived.Laws.EntriesVeiled
namespace Go.Proofs.Ytpfdjddjoclldaa
open Go.RowKit
open M
/-- A turn's steps, as values. -/
def stp (g : Nat) : Array Value := #[.func (.func 52) #[.pointer (some ⟨g, 0, none⟩)] #[], .func (.func 53) #[.pointer (some ⟨g, 0, none⟩)] #[], .func (.func 52) #[.pointer (some ⟨g, 0, none⟩)] #[], .func (.func 54) #[.pointer (some ⟨g, 0, none⟩)] #[]]
theorem stp_size {g : Nat} : (Try.prog.info? 74).map (·.size) = some (stp g).size := by
  show _ = some 4
  kernel_rfl
set_option maxRecDepth 100000 in
theorem steps_any (g : Nat) (w : World) :
    Calls Try.prog 50 #[.pointer (some ⟨g, 0, none⟩)] w fun e w' => e = .returned (.agg (stp g)) ∧ Below w.heap.size w w' := by
  go_enter Try.func50, Try.ntmps50
  go_wp2
  refine bodyPost_ret (v := .agg (stp g)) (results_cell_row Try.results50 _ _ w.heap.size 74 (stp g) (0, 0) _ rfl (heap_alloc_new _ _) Try.underlying74 rfl stp_size) rfl ⟨rfl, (Below.refl _ _).alloc (Nat.le_refl _) _⟩
theorem func_info : (Try.prog.info? 73).map (·.size) = some 1 := by kernel_rfl
theorem func_cells : Try.prog.cellsOf 73 = 1 := by kernel_rfl
theorem func_info? : ∃ i, Try.prog.info? 73 = some i := by
  have hq := func_info
  cases hi : Try.prog.info? 73 with
  | none => simp [hi] at hq
  | some i => exact ⟨i, rfl⟩
theorem index_0 (g : Nat) (w : World) : (Instr.index 74 (.agg (stp g)) (.int .i64 0)).run Try.prog w = .ok (.func (.func 52) #[.pointer (some ⟨g, 0, none⟩)] #[]) w := by
  obtain ⟨i, hi⟩ := func_info?
  simp [Instr.index, run_underlying Try.underlying74, asIntOf, run_sizeOf w hi, stp, go_sem]
theorem index_1 (g : Nat) (w : World) : (Instr.index 74 (.agg (stp g)) (.int .i64 1)).run Try.prog w = .ok (.func (.func 53) #[.pointer (some ⟨g, 0, none⟩)] #[]) w := by
  obtain ⟨i, hi⟩ := func_info?
  simp [Instr.index, run_underlying Try.underlying74, asIntOf, run_sizeOf w hi, stp, func_cells, go_sem]
theorem index_2 (g : Nat) (w : World) : (Instr.index 74 (.agg (stp g)) (.int .i64 2)).run Try.prog w = .ok (.func (.func 52) #[.pointer (some ⟨g, 0, none⟩)] #[]) w := by
  obtain ⟨i, hi⟩ := func_info?
  simp [Instr.index, run_underlying Try.underlying74, asIntOf, run_sizeOf w hi, stp, func_cells, go_sem]
theorem index_3 (g : Nat) (w : World) : (Instr.index 74 (.agg (stp g)) (.int .i64 3)).run Try.prog w = .ok (.func (.func 54) #[.pointer (some ⟨g, 0, none⟩)] #[]) w := by
  obtain ⟨i, hi⟩ := func_info?
  simp [Instr.index, run_underlying Try.underlying74, asIntOf, run_sizeOf w hi, stp, func_cells, go_sem]
end Go.Proofs.Ytpfdjddjoclldaa
