/-
  Layer 11's laws, what they share: frames and samples there and back as lists; the document's example. No conditions.
-/
import Derived.Test.YtdnchnhflfcdkaaQLm
import Derived.Test.YtdnchnhflfcdkaaQDr
namespace Go.Proofs.Ytdnchnhflfcdkaa.M
theorem frm_mem (l : List Int) (f : List Int) (h : f ∈ frm l) : f.length = 32 := by
  obtain ⟨b, _, rfl⟩ := List.mem_map.1 h
  exact wav_len _
theorem frm_at (l : List Int) (b : Nat) (h : b < cnt l.length) : ((frm l).getD b []).length = 32 := by
  have hl : b < (frm l).length := by rw [frm_len]; exact h
  rw [List.getD_eq_getElem?_getD, List.getElem?_eq_getElem hl]
  exact frm_mem l _ (List.getElem_mem hl)
end Go.Proofs.Ytdnchnhflfcdkaa.M
namespace Go.Proofs.Ytdnchnhflfcdkaa
open Go.RowKit
open M
theorem fsl_frm (l : List Int) : fsl (jnb (frm l)) (cnt l.length) = frm l := by
  refine Eq.symm (tb_ext [] (frm l) _ _ (frm_len l) fun b hb => ?_)
  exact (blk_jnb _ _ (by rw [frm_len]; exact hb) (frm_at l b hb)).symm
theorem jfrm_len (l : List Int) : (jnb (frm l)).length = 32 * cnt l.length := by rw [jnb_len, frm_len]
/-- Samples there and back. -/
theorem sback_any (l : List Int) (cap g : Nat) (w : World) (h : Row w g 34 (iCells (jnb (frm l)))) (hl : l.length ≤ 4096) (hb : ∀ x ∈ l, -1048576 ≤ x ∧ x ≤ 1048576) :
    Calls Try.prog 12 #[.slice (some ⟨g, 0, none⟩) (cnt l.length) cap] w fun e w' => (∃ g, w.heap.size ≤ g ∧ e = .returned (.slice (some ⟨g, 0, none⟩) (32 * cnt l.length) (32 * cnt l.length)) ∧ Row w' g 3 (iCells (padd l))) ∧ Below w.heap.size w w' := by
  have := samples_any (jnb (frm l)) (cnt l.length) cap g w (FrAt.row h) (jfrm_len l) (by unfold cnt; omega)
  rw [fsl_frm, smp_frm l hb] at this
  exact this
theorem frm_nil : jnb (frm []) = f0 := by decide +kernel
theorem padd_900 : padd [900] = (f0 ++ f0).set 0 900 := by decide +kernel
set_option maxRecDepth 100000 in
set_option maxHeartbeats 2000000 in
theorem pawake_any (w : World) : Calls Try.prog 9 #[] w fun e w' => e = .returned (.bool true) ∧ Below w.heap.size w w' := by
  have HN := Lib.hid fun w => frames_in [] (.slice none 0 0) w ⟨none, 0, rfl, fun h => absurd h (by decide)⟩ (by decide) (fun x hx => by cases hx)
  have HK := Lib.hid fun v w h => frames_in [900] v w h (by decide) (fun x hx => by rw [List.mem_singleton] at hx; subst hx; exact ⟨by decide, by decide⟩)
  have HS := Lib.hid fun cap g w h => sback_any [900] cap g w h (by decide) (fun x hx => by rw [List.mem_singleton] at hx; subst hx; exact ⟨by decide, by decide⟩)
  rw [show cnt ([] : List Int).length = 1 from rfl, frm_nil] at HN
  rw [show cnt ([900] : List Int).length = 2 from rfl] at HK HS
  rw [padd_900] at HS
  have HSZ := Lib.hid fun _ : Unit => frame_size f0 f0_length
  have hq := frame_eq f0 f0 f0_length f0_length
  rw [beq_self_eq_true] at hq
  go_enter Try.func9, Try.ntmps9
  go_wp2_with fail
  refine (HN.out w).mono ?_
  rintro e w1 ⟨⟨g, hg, rfl, hr⟩, hb⟩
  have HB := Lib.hid hb
  have HR := Lib.hid hr
  clear HN hg hr hb
  have hint : ∀ w : World, IntsAt (w.alloc (.cells #[.int .i64 900] 3)) (.slice (some ⟨w.heap.size, 0, none⟩) 1 1) [900] := fun w => ints_row (f := [900]) (row_new w _ rfl #[.int .i64 900] 3) 1
  have HI := Lib.hid (hint w1)
  clear hint
  go_wp2_with fail
  refine (HK.out _ _ HI.out).mono ?_
  rintro e w2 ⟨⟨g2, hg2, rfl, hr2⟩, hb2⟩
  have HBA := Lib.hid (HB.out.alloc HB.out.size (.cells #[.int .i64 900] 3))
  have HR2 := Lib.hid (Row.box (Row.alloc HR.out (.cells #[.int .i64 900] 3)) hb2)
  have HB2 := Lib.hid (HBA.out.trans (hb2.mono HBA.out.size))
  have HQ := Lib.hid hr2
  clear HK HI hg2 hr2 hb2 HBA HR HB
  have hz := fun w => frame_zero w
  go_wp2_with (first
    | (refine g_load_row (by rfl) 34 (.tmp 23) rfl g rfl 34 (iCells f0) (0, 0) _ HR2.out Try.underlying34 rfl (HSZ.out ()) ?_))
  refine (HS.out 2 g2 w2 HQ.out).mono ?_
  rintro e w3 ⟨⟨g3, hg3, rfl, hr3⟩, hb3⟩
  have c0 : w3.cell? ⟨g3, 0, none⟩ = some (.int .i64 900) := (i_at hr3 0 (by decide)).trans rfl
  have HB3 := Lib.hid (HB2.out.trans (hb3.mono HB2.out.size))
  clear HS HSZ hq hz HR2 HB2 HQ hg3 hr3 hb3
  go_wp2_with fail
  go_ret
  exact ⟨rfl, HB3.out⟩
end Go.Proofs.Ytdnchnhflfcdkaa
