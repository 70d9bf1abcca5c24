/-
  The walk of the law KeyedOrders: it returns true, and nothing that was there is changed. Condition: the signs lie as the program's text lays them.
-/
import Derived.Test.YtejgolnfpnhoaaaDoorKc
namespace Go.Proofs.YtejgolnfpnhoaaaDoor
open Go.RowKit
open M

theorem kord_once (k : List UInt8) (sg : UInt8) (n : Nat) (hn : 1 ≤ n) : (kord k sg n).length = n ∧ (kord k sg n).Nodup ∧ ∀ i, i < n → (kord k sg n).getD i 0 < n :=
  ⟨ord_length _ _, ord_nodup _ (jn_le _ _) _ hn, fun _ hi => ord_at _ (jn_le _ _) _ _ hi⟩

set_option maxHeartbeats 1000000 in
theorem orders_walk (k : List UInt8) (sg : UInt8) (n : Nat) (w : World) (hk : k.length = 16) (hn1 : 1 ≤ n) (hn2 : n ≤ 256) (h : Signs w) :
    Calls Tryd.prog 3 #[.agg (byteCells k), .int .u8 (ub sg), .int .i64 n] w fun e w' => e = .returned (.bool true) ∧ Below w.heap.size w w' := by
  have hb0 : Below w.heap.size w (w.alloc (.cells (byteCells k) 23)) := (Below.refl _ _).alloc (Nat.le_refl _) _
  have HG := Lib.hid (h.below hb0 h.lt)
  have HR0 : Hid (Row (w.alloc (.cells (byteCells k) 23)) w.heap.size 23 (byteCells k)) := heap_alloc_new _ _
  have HB0 := Lib.hid hb0
  have HI := Lib.hid (key_info k hk)
  clear h hb0
  go_enter Tryd.func3, Tryd.ntmps3
  go_wp2_with fail
  refine (awake_any _ HG.out).mono ?_
  rintro e w1 ⟨rfl, hb⟩
  have HR1 := Lib.hid (HR0.out.below hb HR0.out.lt)
  have HB1 := Lib.hid (HB0.out.trans (hb.mono HB0.out.size))
  have HG1 := Lib.hid (HG.out.below hb HG.out.lt)
  clear hb HR0 HB0 HG
  go_wp2_with (refine wpList_load_row rfl 23 (.tmp 3) rfl w.heap.size rfl 23 (byteCells k) (0, 0) _ HR1.out Tryd.underlying23 rfl HI.out ?_)
  refine (order_any k sg n _ hk hn1 hn2 HG1.out).mono ?_
  rintro e w2 ⟨rfl, hr, hb⟩
  have HB2 := Lib.hid (HB1.out.trans (hb.mono HB1.out.size))
  have HO := Lib.hid hr
  clear hr hb
  go_wp2_with fail
  refine (once_any (kord k sg n) n (w1.heap.size + 1) n _ (kord_once k sg n hn1).1 hn1 hn2 (kord_once k sg n hn1).2.1 (kord_once k sg n hn1).2.2 HO.out.lt
    (fun i hi => (cell_of_row _ _ _ _ _ _ HO.out).trans (natCells_get _ _ (by rw [(kord_once k sg n hn1).1]; exact hi)))).mono ?_
  rintro e w3 ⟨rfl, hb⟩
  have HB3 := Lib.hid (HB2.out.trans (hb.mono HB2.out.size))
  clear hb
  go_wp2
  go_ret
  exact ⟨rfl, HB3.out⟩

set_option maxHeartbeats 1000000 in
theorem orders_none (k : List UInt8) (sg : UInt8) (n : Int) (w : World) (hk : k.length = 16) (hn : n < 1 ∨ 256 < n) (h : Signs w) :
    Calls Tryd.prog 3 #[.agg (byteCells k), .int .u8 (ub sg), .int .i64 n] w fun e w' => e = .returned (.bool true) ∧ Below w.heap.size w w' := by
  have hb0 : Below w.heap.size w (w.alloc (.cells (byteCells k) 23)) := (Below.refl _ _).alloc (Nat.le_refl _) _
  have HG := Lib.hid (h.below hb0 h.lt)
  have HR0 : Hid (Row (w.alloc (.cells (byteCells k) 23)) w.heap.size 23 (byteCells k)) := heap_alloc_new _ _
  have HB0 := Lib.hid hb0
  have HI := Lib.hid (key_info k hk)
  have HN := Lib.hid hn
  clear h hb0 hn
  go_enter Tryd.func3, Tryd.ntmps3
  go_wp2_with fail
  refine (awake_any _ HG.out).mono ?_
  rintro e w1 ⟨rfl, hb⟩
  have HR1 := Lib.hid (HR0.out.below hb HR0.out.lt)
  have HB1 := Lib.hid (HB0.out.trans (hb.mono HB0.out.size))
  have HG1 := Lib.hid (HG.out.below hb HG.out.lt)
  clear hb HR0 HB0 HG
  go_wp2_with (refine wpList_load_row rfl 23 (.tmp 3) rfl w.heap.size rfl 23 (byteCells k) (0, 0) _ HR1.out Tryd.underlying23 rfl HI.out ?_)
  refine (order_none k sg n _ HN.out).mono ?_
  rintro e w2 ⟨rfl, hb⟩
  have HB2 := Lib.hid (HB1.out.trans (hb.mono HB1.out.size))
  clear hb
  rcases HN.out with h1 | h1
  · go_wp2
    go_ret
    exact ⟨rfl, HB2.out⟩
  · have h2 : ¬ n < 1 := by omega
    go_wp2
    go_ret
    exact ⟨rfl, HB2.out⟩

theorem orders_law (k : List UInt8) (sg : UInt8) (n : Int) (w : World) (hk : k.length = 16) (h : Signs w) :
    Calls Tryd.prog 3 #[.agg (byteCells k), .int .u8 (ub sg), .int .i64 n] w fun e w' => e = .returned (.bool true) ∧ Below w.heap.size w w' := by
  by_cases h1 : 1 ≤ n ∧ n ≤ 256
  · obtain ⟨m, rfl⟩ : ∃ m : Nat, n = m := ⟨n.toNat, by omega⟩
    exact orders_walk k sg m w hk (by omega) (by omega) h
  · exact orders_none k sg n w hk (by omega) h
end Go.Proofs.YtejgolnfpnhoaaaDoor
