/-
  Promise 9.1, LiftParts: a part lies between nothing and all, but for one; a part by the whole factor is the number. No conditions but an int and a number below 2^16.
-/
import Derived.Test.YtdimbgkjonimmaaEi
namespace Go.Proofs.Ytdimbgkjonimmaa
open Go.RowKit
open M
set_option maxRecDepth 100000 in
theorem parts_law (x m : Int) (w : World) (hm : 0 ≤ m ∧ m ≤ 65535) :
    Calls Try.prog 8 #[.int .i64 x, .int .u16 m] w fun e w' => e = .returned (.bool true) ∧ Below w.heap.size w w' := by
  have hm1 := hm.1
  have hm2 := hm.2
  clear hm
  have HB := Lib.hid (hld_bd x)
  obtain ⟨y, hy⟩ : ∃ y, hld x = y := ⟨_, rfl⟩
  rw [hy] at HB
  have Hy := Lib.hid hy
  clear hy
  obtain ⟨f, hf⟩ : ∃ f, m % 32769 = f := ⟨_, rfl⟩
  have hf1 : 0 ≤ f := by omega
  have hf2 : f ≤ 32768 := by omega
  have HF := Lib.hid hf
  clear hf
  have HBT := Lib.hid (prt_between y f hf1 hf2)
  have H0 := Lib.hid (prt_zero y)
  have H1 := Lib.hid (prt_one y)
  obtain ⟨p, hp⟩ : ∃ p, prt y f = p := ⟨_, rfl⟩
  rw [hp] at HBT
  have HP := Lib.hid hp
  clear hp
  go_enter Try.func8, Try.ntmps8
  go_wp2_with fail
  refine (awake_any _).mono ?_
  rintro e w1 ⟨rfl, hb⟩
  have HB1 := Lib.hid hb
  clear hb
  go_wp2_with fail
  refine (hld_any x _).mono ?_
  rintro e w' ⟨rfl, rfl⟩
  rw [Hy.out]
  go_wp2_with fail
  rw [HF.out]
  clear hm1 hm2
  have hq := HBT.out
  have hyb := HB.out
  refine (part_in y f _ (by omega) (by omega) hf1 hf2).mono ?_
  rintro e w' ⟨rfl, rfl⟩
  rw [HP.out]
  go_wp2_with fail
  refine (part_in y 32768 _ (by omega) (by omega) (by omega) (by omega)).mono ?_
  rintro e w' ⟨rfl, rfl⟩
  rw [H1.out]
  go_wp2_with fail
  refine (part_in y 0 _ (by omega) (by omega) (by omega) (by omega)).mono ?_
  rintro e w' ⟨rfl, rfl⟩
  rw [H0.out]
  go_wp2
  go_ret
  exact ⟨rfl, HB1.out⟩
end Go.Proofs.Ytdimbgkjonimmaa
