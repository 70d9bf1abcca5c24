/-
  Layer 19: pack's Peek; what pack's functions answer, met. No conditions.
-/
import Derived.Test.YtoohahjmiljpgaaQWki
import Derived.Test.YtoohahjmiljpgaaQS24
import Derived.Test.YtoohahjmiljpgaaQS17
import Derived.Test.YtoohahjmiljpgaaQS28
import Derived.Test.YtoohahjmiljpgaaQS29
namespace Go.Proofs.Ytoohahjmiljpgaa
open Go.RowKit
open M
theorem p19_len (s : ByteArray) : (p19 s).length = 41 := by
  unfold p19
  split
  · rw [List.length_cons, sh19_len]
  · rfl
theorem p19_head (s : ByteArray) : (p19 s).getD 0 0 = if e19 s = 0 then (fr19 s : Int) else 0 := by
  unfold p19
  split <;> rfl
set_option maxRecDepth 100000 in
set_option maxHeartbeats 1000000 in
theorem pekOk (HR : RedOk) : PekOk := by
  intro s w hs
  have HRD := Lib.hid fun w => HR s w hs
  have HH := Lib.hid (p19_head s)
  have HL := Lib.hid (p19_len s)
  rw [← p19_head]
  generalize p19 s = P at *
  have HE : Hid (decide (e19 s = 0) = (e19 s == 0)) := Lib.hid (by by_cases h : e19 s = 0 <;> simp [h])
  rw [HE.out]
  generalize e19 s = E at *
  have hz := pkt_zero
  have HSP := Lib.hid (pkt_size P HL.out)
  have HSX := Lib.hid (pkt_same zp41 P zp41_length HL.out)
  clear HH HE hs
  go_enter Try.func13, Try.ntmps13
  go_wp2_with fail
  refine (HRD.out _).mono ?_
  rintro e w1 ⟨rfl, hb⟩
  have HB := Lib.hid hb
  clear hb HRD
  obtain ⟨g, hg⟩ : ∃ g, w1.heap.size = g := ⟨_, rfl⟩
  have HR : Hid (Row (w1.alloc (.cells (iCells zp41) 35)) g 35 (iCells zp41)) := Lib.hid (row_new _ _ hg _ _)
  have HBR := Lib.hid (below_setRow (HB.out.alloc HB.out.size (.cells (iCells zp41) 35)) (g := g) (by rw [← hg]; exact HB.out.size) (iCells P))
  have HRP := Lib.hid (Row.setRow HR.out (iCells P))
  go_upto_region 2 with (refine wpList_store_row rfl 35 (.tmp 4) (.tmp 9) rfl g (iCells P) rfl rfl 35 (iCells zp41) HR.out HSP.out HSX.out (iCells_one _) ?_)
  have c0 := i_at HRP.out 0 (by rw [HL.out]; decide)
  clear HR hg
  generalize (w1.alloc (.cells (iCells zp41) 35)).setRow g (iCells P) = w2 at *
  go_wp2_with fail
  go_ret2
  exact ⟨rfl, HBR.out⟩
theorem rigOk19 : RigOk := rigOk pulOk18 bizOk
theorem layOk19 : LayOk := layOk bvOk rigOk19
theorem redOk19 : RedOk := redOk pulOk18 bizOk bvOk
theorem pekOk19 : PekOk := pekOk redOk19
theorem cnOk : CnOk := fun n k w hn hk => rcount_any n k w (by omega) hk
end Go.Proofs.Ytoohahjmiljpgaa
