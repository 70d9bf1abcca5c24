/-
  Frames and samples there and back as lists. Conditions: up to 4096 samples within 2^20.
-/
import Derived.Test.YtpfdjddjoclldaaRLm
import Derived.Test.YtpfdjddjoclldaaRDr
namespace Go.Proofs.Ytpfdjddjoclldaa.M
theorem frm_mem (l : List Int) (f : List Int) (h : f ∈ frm l) : f.length = 32 := by
  obtain ⟨b, _, rfl⟩ := List.mem_map.1 h
  exact wav_len _
theorem frm_at (l : List Int) (b : Nat) (h : b < cnt l.length) : ((frm l).getD b []).length = 32 := by
  have hl : b < (frm l).length := by rw [frm_len]; exact h
  rw [List.getD_eq_getElem?_getD, List.getElem?_eq_getElem hl]
  exact frm_mem l _ (List.getElem_mem hl)
end Go.Proofs.Ytpfdjddjoclldaa.M
namespace Go.Proofs.Ytpfdjddjoclldaa
open Go.RowKit
open M
theorem fsl_frm (l : List Int) : fsl (jnb (frm l)) (cnt l.length) = frm l := by
  refine Eq.symm (tb_ext [] (frm l) _ _ (frm_len l) fun b hb => ?_)
  exact (blk_jnb _ _ (by rw [frm_len]; exact hb) (frm_at l b hb)).symm
theorem jfrm_len (l : List Int) : (jnb (frm l)).length = 32 * cnt l.length := by rw [jnb_len, frm_len]
/-- Samples there and back. -/
theorem sback_any (l : List Int) (cap g : Nat) (w : World) (h : Row w g 52 (iCells (jnb (frm l)))) (hl : l.length ≤ 4096) (hb : ∀ x ∈ l, -1048576 ≤ x ∧ x ≤ 1048576) :
    Calls Try.prog 19 #[.slice (some ⟨g, 0, none⟩) (cnt l.length) cap] w fun e w' => (∃ g, w.heap.size ≤ g ∧ e = .returned (.slice (some ⟨g, 0, none⟩) (32 * cnt l.length) (32 * cnt l.length)) ∧ Row w' g 3 (iCells (padd l))) ∧ Below w.heap.size w w' := by
  have := samples_any (jnb (frm l)) (cnt l.length) cap g w (FrAt.row h) (jfrm_len l) (by unfold cnt; omega)
  rw [fsl_frm, smp_frm l hb] at this
  exact this
end Go.Proofs.Ytpfdjddjoclldaa
