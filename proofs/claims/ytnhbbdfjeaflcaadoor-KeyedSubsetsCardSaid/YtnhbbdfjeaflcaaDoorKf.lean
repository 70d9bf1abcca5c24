/-
  The walk of the law KeyedSubsets: it returns true, and nothing that was there is changed. Condition: the signs lie as the program's text lays them.
-/
import Derived.Test.YtnhbbdfjeaflcaaDoorKe
namespace Go.Proofs.YtnhbbdfjeaflcaaDoor
open Go.RowKit
open M
attribute [local go_sem] eq31

theorem sub_some (x : BitVec 64) (b : Nat) : eqB4 (subB x b 0 || none4 x b) (subB x b 1) (subB x b 2) (subB x b 3) false false false false = false := by
  unfold eqB4 none4
  cases subB x b 0 <;> cases subB x b 1 <;> cases subB x b 2 <;> cases subB x b 3 <;> rfl

set_option maxHeartbeats 1000000 in
theorem subsets_law (k : List UInt8) (f bn bt : Int) (w : World) (hk : k.length = 16) (h : Signs w) :
    Calls Tryd.prog 6 #[.agg (byteCells k), .int .i64 f, .int .i64 bn, .int .i64 bt] w fun e w' => e = .returned (.bool true) ∧ Below w.heap.size w w' := by
  have hb0 : Below w.heap.size w (w.alloc (.cells (byteCells k) 23)) := (Below.refl _ _).alloc (Nat.le_refl _) _
  have HG := Lib.hid (h.below hb0 h.lt)
  have HR0 : Hid (Row (w.alloc (.cells (byteCells k) 23)) w.heap.size 23 (byteCells k)) := heap_alloc_new _ _
  have HB0 := Lib.hid hb0
  have HI := Lib.hid (key_info k hk)
  clear h hb0
  by_cases hout : bn < 0 ∨ 7 < bn ∨ bt < 0 ∨ 7 < bt
  · have H4 : Hid (bn < 0 ∨ ¬ bn < 0 ∧ 7 < bn ∨ ¬ bn < 0 ∧ ¬ 7 < bn ∧ bt < 0 ∨ ¬ bn < 0 ∧ ¬ 7 < bn ∧ ¬ bt < 0 ∧ 7 < bt) := by unfold Hid; omega
    have HO := Lib.hid hout
    clear hout
    go_enter Tryd.func6, Tryd.ntmps6
    go_wp2_with fail
    refine (awake_any _ HG.out).mono ?_
    rintro e w1 ⟨rfl, hb⟩
    have HR1 := Lib.hid (HR0.out.below hb HR0.out.lt)
    have HB1 := Lib.hid (HB0.out.trans (hb.mono HB0.out.size))
    clear hb HR0 HB0 HG
    go_wp2_with (refine wpList_load_row rfl 23 (.tmp 4) rfl w.heap.size rfl 23 (byteCells k) (0, 0) _ HR1.out Tryd.underlying23 rfl HI.out ?_)
    refine (subset_none k f bn bt _ HO.out).mono ?_
    rintro e w2 ⟨rfl, hb⟩
    have HB2 := Lib.hid (HB1.out.trans (hb.mono HB1.out.size))
    have hw2 := HB2.out.size
    clear hb
    unfold allF
    rcases H4.out with h1 | ⟨h1, h2⟩ | ⟨h1, h2, h3⟩ | ⟨h1, h2, h3, h4⟩
    · go_wp2
      go_ret
      exact ⟨rfl, HB2.out.alloc hw2 _⟩
    · go_wp2
      go_ret
      exact ⟨rfl, HB2.out.alloc hw2 _⟩
    · go_wp2
      go_ret
      exact ⟨rfl, HB2.out.alloc hw2 _⟩
    · go_wp2
      go_ret
      exact ⟨rfl, HB2.out.alloc hw2 _⟩
  · obtain ⟨b, rfl⟩ : ∃ b : Nat, bn = b := ⟨bn.toNat, by omega⟩
    obtain ⟨t, rfl⟩ : ∃ t : Nat, bt = t := ⟨bt.toNat, by omega⟩
    have hb8 : b < 8 := by omega
    have ht8 : t < 8 := by omega
    have q1 : decide ((b : Int) < 0) = false := by rw [decide_eq_false_iff_not]; omega
    have q2 : decide (7 < (b : Int)) = false := by rw [decide_eq_false_iff_not]; omega
    have q3 : decide ((t : Int) < 0) = false := by rw [decide_eq_false_iff_not]; omega
    have q4 : decide (7 < (t : Int)) = false := by rw [decide_eq_false_iff_not]; omega
    have HQ := Lib.hid (And.intro q1 (And.intro q2 (And.intro q3 q4)))
    clear q1 q2 q3 q4
    clear hout
    go_enter Tryd.func6, Tryd.ntmps6
    go_wp2_with fail
    refine (awake_any _ HG.out).mono ?_
    rintro e w1 ⟨rfl, hb⟩
    have HR1 := Lib.hid (HR0.out.below hb HR0.out.lt)
    have HB1 := Lib.hid (HB0.out.trans (hb.mono HB0.out.size))
    have HG1 := Lib.hid (HG.out.below hb HG.out.lt)
    clear hb HR0 HB0 HG
    go_wp2_with (refine wpList_load_row rfl 23 (.tmp 4) rfl w.heap.size rfl 23 (byteCells k) (0, 0) _ HR1.out Tryd.underlying23 rfl HI.out ?_)
    refine (subset_in k f b t _ hk hb8 ht8 HG1.out).mono ?_
    rintro e w2 ⟨rfl, hb⟩
    have HB2 := Lib.hid (HB1.out.trans (hb.mono HB1.out.size))
    have hw2 := HB2.out.size
    clear hb
    have hs := sub_some (num k 115 ((fr f * 8 + b : Nat) : Int)) t
    unfold subOf
    generalize (subB (num k 115 ((fr f * 8 + b : Nat) : Int)) t 0 || none4 (num k 115 ((fr f * 8 + b : Nat) : Int)) t) = s0 at *
    generalize subB (num k 115 ((fr f * 8 + b : Nat) : Int)) t 1 = s1 at *
    generalize subB (num k 115 ((fr f * 8 + b : Nat) : Int)) t 2 = s2 at *
    generalize subB (num k 115 ((fr f * 8 + b : Nat) : Int)) t 3 = s3 at *
    go_wp2
    go_ret
    refine ⟨?_, HB2.out.alloc hw2 _⟩
    show Ending.returned (.bool (!decide ((b : Int) < 0) && !decide (7 < (b : Int)) && !decide ((t : Int) < 0) && !decide (7 < (t : Int)))) = _
    rw [HQ.out.1, HQ.out.2.1, HQ.out.2.2.1, HQ.out.2.2.2]
    rfl
end Go.Proofs.YtnhbbdfjeaflcaaDoor
