/-
  The law LoadTakes holds: what was laid is taken, as long as twice the wrong places, and those with none, are 20 at most. Conditions: none but those of the row.
-/
import Derived.Test.YtmfnjjkbfabonaaDoorQ14
import Derived.Test.YtmfnjjkbfabonaaDoorTie
import Derived.Test.YtmfnjjkbfabonaaDoorCards
import Derived.SevenTiedAt

/- Plain facts of LoadTakes: the votes of a place, by its bit and its hole. No program is named here. No conditions but those that each fact names. -/
namespace Go.Proofs.YtmfnjjkbfabonaaDoor
open Go.RowKit
open M

theorem sayv_hole (w h : List Bool) (t : Int) (i : Nat) (hh : h.getD i false = true) : sayv w h t i = 0 := by unfold sayv; rw [if_pos hh]
theorem sayv_one (w h : List Bool) (t : Int) (i : Nat) (hh : h.getD i false = false) (hw : w.getD i false = true) : sayv w h t i = -(1 + t * i) := by
  unfold sayv
  rw [if_neg (by rw [hh]; simp), if_pos hw]
theorem sayv_none (w h : List Bool) (t : Int) (i : Nat) (hh : h.getD i false = false) (hw : w.getD i false = false) : sayv w h t i = 1 + t * i := by
  unfold sayv
  rw [if_neg (by rw [hh]; simp), if_neg (by rw [hw]; simp)]
theorem vote_bd (b : UInt8) (j : Nat) (hj : j < 127) : 0 ≤ ub b * (j : Int) ∧ ub b * (j : Int) ≤ 32385 := by
  have h1 := ub_bd b
  have h2 := Int.mul_nonneg h1.1 (show (0 : Int) ≤ j by omega)
  have h3 := Int.mul_le_mul (show ub b ≤ 255 by omega) (show (j : Int) ≤ 127 by omega) (by omega) (by omega)
  exact ⟨h2, by omega⟩
end Go.Proofs.YtmfnjjkbfabonaaDoor

/- The walk of the law LoadTakes. Conditions: a key has 16 bytes; bytes; the lists lie as they were opened; the signs lie as the program's text lays them. -/
namespace Go.Proofs.YtmfnjjkbfabonaaDoor
open Go.RowKit
open M
attribute [local go_sem] un_beq un_bne

set_option maxRecDepth 100000 in
set_option maxHeartbeats 2000000 in
theorem takes_big (k : List UInt8) (z : Int) (l1 l2 : Value) (b8 : UInt8) (xs ys : List Int) (w : World) (hl : 40 < xs.length ∨ 40 < ys.length) (hm1 : xs.length ≤ maxLen) (hm2 : ys.length ≤ maxLen) (h1 : BytesAt w l1 xs) (h2 : BytesAt w l2 ys) (h : Signs w) :
    Calls Tryd.prog 3 #[.agg (byteCells k), .int .i64 z, l1, l2, .int .u8 (ub b8)] w fun e w' => e = .returned (.bool true) ∧ Below w.heap.size w w' := by
  have hb0 : Below w.heap.size w (w.alloc (.cells (byteCells k) 23)) := (Below.refl _ _).alloc (Nat.le_refl _) _
  have HB_0 := Lib.hid hb0
  have HG_0 := Lib.hid (h.below hb0 h.lt)
  unfold maxLen at hm1 hm2
  obtain ⟨a1, c1, rfl, hcells⟩ := h1
  clear hcells
  obtain ⟨a2, c2, rfl, hcells⟩ := h2
  clear hcells h hb0
  have HA := Lib.hid fun W (hs : Signs W) => awake_any W hs
  by_cases hx : 40 < xs.length
  · have hl' : (xs.length : Int) > 40 := by omega
    clear hl
    go_enter Tryd.func3, Tryd.ntmps3
    go_wp2_with fail
    refine (HA.out _ HG_0.out).mono ?_
    rintro e w1 ⟨rfl, hb⟩
    have HG_1 := Lib.hid (HG_0.out.below hb HG_0.out.lt)
    have HB_1 := Lib.hid (HB_0.out.trans (hb.mono HB_0.out.size))
    clear hb HG_0 HB_0
    go_wp2_with fail
    refine (HA.out _ HG_1.out).mono ?_
    rintro e w2 ⟨rfl, hb⟩
    have HB_2 := Lib.hid (HB_1.out.trans (hb.mono HB_1.out.size))
    clear hb HG_1 HB_1
    go_wp2
    go_ret
    exact ⟨rfl, HB_2.out⟩
  · have hl' : ¬ ((xs.length : Int) > 40) := by omega
    have hl2 : (ys.length : Int) > 40 := by omega
    clear hl
    go_enter Tryd.func3, Tryd.ntmps3
    go_wp2_with fail
    refine (HA.out _ HG_0.out).mono ?_
    rintro e w1 ⟨rfl, hb⟩
    have HG_1 := Lib.hid (HG_0.out.below hb HG_0.out.lt)
    have HB_1 := Lib.hid (HB_0.out.trans (hb.mono HB_0.out.size))
    clear hb HG_0 HB_0
    go_wp2_with fail
    refine (HA.out _ HG_1.out).mono ?_
    rintro e w2 ⟨rfl, hb⟩
    have HB_2 := Lib.hid (HB_1.out.trans (hb.mono HB_1.out.size))
    clear hb HG_1 HB_1
    go_wp2
    go_ret
    exact ⟨rfl, HB_2.out⟩
set_option maxRecDepth 100000 in
set_option maxHeartbeats 2000000 in
theorem takes_walk (k : List UInt8) (z : Int) (l1 l2 : Value) (b8 : UInt8) (xs ys : List Int) (w : World) (hk : k.length = 16) (hl1 : xs.length ≤ 40) (hl2 : ys.length ≤ 40) (hp1 : ∀ p ∈ xs, 0 ≤ p ∧ p ≤ 255) (hp2 : ∀ p ∈ ys, 0 ≤ p ∧ p ≤ 255) (h1 : BytesAt w l1 xs) (h2 : BytesAt w l2 ys) (h : Signs w) :
    Calls Tryd.prog 3 #[.agg (byteCells k), .int .i64 z, l1, l2, .int .u8 (ub b8)] w fun e w' => e = .returned (.bool true) ∧ Below w.heap.size w w' := by
  have hb0 : Below w.heap.size w (w.alloc (.cells (byteCells k) 23)) := (Below.refl _ _).alloc (Nat.le_refl _) _
  have HB_0 := Lib.hid hb0
  have HG_0 := Lib.hid (h.below hb0 h.lt)
  have HI1_0 := Lib.hid (h1.below hb0)
  have HI2_0 := Lib.hid (h2.below hb0)
  have HP1 := Lib.hid hp1
  have HP2 := Lib.hid hp2
  obtain ⟨ab1, lc1, rfl, hcells⟩ := h1
  clear hcells hp1
  obtain ⟨ab2, lc2, rfl, hcells⟩ := h2
  clear hcells hp2
  have hl' : ¬ ((xs.length : Int) > 40) := by omega
  have hl'' : ¬ (40 < (xs.length : Int)) := by omega
  have hk' : ¬ ((ys.length : Int) > 40) := by omega
  have hk'' : ¬ (40 < (ys.length : Int)) := by omega
  have HK_0 : Hid (Row (w.alloc (.cells (byteCells k) 23)) w.heap.size 23 (byteCells k)) := heap_alloc_new _ _
  have HI := Lib.hid (key_info k hk)
  have HA := Lib.hid fun W (hs : Signs W) => awake_any W hs
  have hz := arr_zero
  have hzv := votes_zero
  have hand := and48 z
  have hlt := mod48_lt z
  generalize (z % 281474976710656).toNat = p at *
  have HWR := Lib.hid fun W => word_ref k p W hk hlt
  have HWQ := Lib.hid fun q W (hq : q < 281474976710656) => word_ref k q W hk hq
  have HT := Lib.hid fun l W (hl : l.length = 127) (hs : Signs W) => take_votes k l W hk hl hs
  have HTK := Lib.hid (tk_takes k p hlt)
  have hla := cwd_length (num7 k p)
  generalize cwd (num7 k p) = a at *
  have hls : (flips a (plc6 xs)).length = 127 := by rw [flips_length, hla]
  have HSP := Lib.hid (fun W V h => spoil_any a xs V W hla (by omega) HP1.out h)
  obtain ⟨s, hs⟩ : ∃ s, flips a (plc6 xs) = s := ⟨_, rfl⟩
  rw [hs] at hls HSP
  clear hs
  have hlm : (mk6 w0 (plc6 ys)).length = 127 := by rw [mk6_length, w0_length]
  have HHO := Lib.hid (fun W V h => holes_any ys V W (by omega) HP2.out h)
  obtain ⟨m, hm⟩ : ∃ m, mk6 w0 (plc6 ys) = m := ⟨_, rfl⟩
  rw [hm] at hlm HHO
  clear hm
  have HLa := Lib.hid hla
  have HLs := Lib.hid hls
  have HLm := Lib.hid hlm
  have HSa := Lib.hid fun _ : Unit => arr_size a HLa.out
  have HSs := Lib.hid fun _ : Unit => arr_size s HLs.out
  have HSm := Lib.hid fun _ : Unit => arr_size m HLm.out
  have HZa : Hid (Unit → (boolCells w0).size = (boolCells a).size) := by intro _; rw [boolCells_size, boolCells_size, w0_length, HLa.out]
  have HZs : Hid (Unit → (boolCells w0).size = (boolCells s).size) := by intro _; rw [boolCells_size, boolCells_size, w0_length, HLs.out]
  have HZm : Hid (Unit → (boolCells w0).size = (boolCells m).size) := by intro _; rw [boolCells_size, boolCells_size, w0_length, HLm.out]
  have HFR := Lib.hid fun W => far_any s m a W HLs.out HLm.out HLa.out
  have HFC := Lib.hid fun c W (hc : c.length = 127) => far_any s m c W HLs.out HLm.out hc
  have htb := ub_bd b8
  have HTS := Lib.hid fun x y (hq : Tk k (say s m (ub b8) 127) x y) => HTK.out s m (ub b8) htb.1 HLm.out x y hq
  generalize farN s m a 127 = D at *
  clear h hb0 hla hls hlm HTK
  go_enter Tryd.func3, Tryd.ntmps3
  go_wp2_with (first
      | (refine wpList_load_row rfl 23 (.tmp 5) rfl w.heap.size rfl 23 (byteCells k) (0, 0) _ HK_0.out Tryd.underlying23 rfl HI.out ?_))
  refine (HA.out _ HG_0.out).mono ?_
  rintro e w1 ⟨rfl, hb⟩
  have R5_1 := Lib.hid (HK_0.out.box hb)
  have HI1_1 := Lib.hid (HI1_0.out.below hb)
  have HI2_1 := Lib.hid (HI2_0.out.below hb)
  have HG_1 := Lib.hid (HG_0.out.below hb HG_0.out.lt)
  have HB_1 := Lib.hid (HB_0.out.trans (hb.mono HB_0.out.size))
  clear hb HK_0 HI1_0 HI2_0 HG_0 HB_0
  go_wp2_with (first
      | (refine wpList_load_row rfl 23 (.tmp 5) rfl w.heap.size rfl 23 (byteCells k) (0, 0) _ R5_1.out Tryd.underlying23 rfl HI.out ?_))
  refine (HWR.out _).mono ?_
  rintro e w2 ⟨rfl, hb⟩
  have R5_2 := Lib.hid (R5_1.out.box hb)
  have HI1_2 := Lib.hid (HI1_1.out.below hb)
  have HI2_2 := Lib.hid (HI2_1.out.below hb)
  have HG_2 := Lib.hid (HG_1.out.below hb HG_1.out.lt)
  have HB_2 := Lib.hid (HB_1.out.trans (hb.mono HB_1.out.size))
  clear hb R5_1 HI1_1 HI2_1 HG_1 HB_1
  have H0 : Hid (Row (w2.alloc (.cells (boolCells w0) 26)) w2.heap.size 26 (boolCells w0)) := heap_alloc_new _ _
  go_upto_region 5 with (first
      | (refine wpList_store_row rfl 26 (.tmp 11) (.tmp 35) rfl w2.heap.size (boolCells a) rfl rfl 26 (boolCells w0) H0.out (HSa.out ()) (HZa.out ()) (boolCells_one a) ?_)
      | (refine wpList_load_row rfl 23 (.tmp 5) rfl w.heap.size rfl 23 (byteCells k) (0, 0) _ R5_2.out Tryd.underlying23 rfl HI.out ?_))
  have hgs := HB_2.out.size
  have hbs : Below w2.heap.size w2 ((w2.alloc (.cells (boolCells w0) 26)).setRow w2.heap.size (boolCells a)) := below_setRow ((Below.refl _ _).alloc (Nat.le_refl _) _) (Nat.le_refl _) _
  have hne5_11 : w.heap.size < w2.heap.size := R5_2.out.lt
  have R5_3 := Lib.hid (R5_2.out.box hbs)
  have HI1_3 := Lib.hid (HI1_2.out.below hbs)
  have HI2_3 := Lib.hid (HI2_2.out.below hbs)
  have HG_3 := Lib.hid (HG_2.out.below hbs HG_2.out.lt)
  have R11_3 : Hid (Row ((w2.alloc (.cells (boolCells w0) 26)).setRow w2.heap.size (boolCells a)) w2.heap.size 26 (boolCells a)) := Row.setRow H0.out _
  have HB_3 : Hid (Below w.heap.size w ((w2.alloc (.cells (boolCells w0) 26)).setRow w2.heap.size (boolCells a))) := Lib.hid (HB_2.out.trans (hbs.mono hgs))
  have hgb11 : w.heap.size ≤ w2.heap.size := hgs
  clear H0 R5_2 HI1_2 HI2_2 HG_2 HB_2 hbs hgs
  generalize ((w2.alloc (.cells (boolCells w0) 26)).setRow w2.heap.size (boolCells a)) = w3 at *
  generalize w2.heap.size = g11 at *
  go_wp2_with (first
      | (refine wpList_load_row rfl 23 (.tmp 5) rfl w.heap.size rfl 23 (byteCells k) (0, 0) _ R5_3.out Tryd.underlying23 rfl HI.out ?_)
      | (refine wpList_load_row rfl 26 (.tmp 11) rfl g11 rfl 26 (boolCells a) (0, 0) _ R11_3.out Tryd.underlying26 rfl (HSa.out ()) ?_))
  refine (HSP.out _ _ HI1_3.out).mono ?_
  rintro e w4 ⟨rfl, hb⟩
  have R5_4 := Lib.hid (R5_3.out.box hb)
  have R11_4 := Lib.hid (R11_3.out.box hb)
  have HI1_4 := Lib.hid (HI1_3.out.below hb)
  have HI2_4 := Lib.hid (HI2_3.out.below hb)
  have HG_4 := Lib.hid (HG_3.out.below hb HG_3.out.lt)
  have HB_4 := Lib.hid (HB_3.out.trans (hb.mono HB_3.out.size))
  clear hb R5_3 R11_3 HI1_3 HI2_3 HG_3 HB_3
  have H0 : Hid (Row (w4.alloc (.cells (boolCells w0) 26)) w4.heap.size 26 (boolCells w0)) := heap_alloc_new _ _
  go_upto_region 6 with (first
      | (refine wpList_store_row rfl 26 (.tmp 12) (.tmp 38) rfl w4.heap.size (boolCells s) rfl rfl 26 (boolCells w0) H0.out (HSs.out ()) (HZs.out ()) (boolCells_one s) ?_)
      | (refine wpList_load_row rfl 23 (.tmp 5) rfl w.heap.size rfl 23 (byteCells k) (0, 0) _ R5_4.out Tryd.underlying23 rfl HI.out ?_)
      | (refine wpList_load_row rfl 26 (.tmp 11) rfl g11 rfl 26 (boolCells a) (0, 0) _ R11_4.out Tryd.underlying26 rfl (HSa.out ()) ?_))
  have hgs := HB_4.out.size
  have hbs : Below w4.heap.size w4 ((w4.alloc (.cells (boolCells w0) 26)).setRow w4.heap.size (boolCells s)) := below_setRow ((Below.refl _ _).alloc (Nat.le_refl _) _) (Nat.le_refl _) _
  have hne5_12 : w.heap.size < w4.heap.size := R5_4.out.lt
  have R5_5 := Lib.hid (R5_4.out.box hbs)
  have hne11_12 : g11 < w4.heap.size := R11_4.out.lt
  have R11_5 := Lib.hid (R11_4.out.box hbs)
  have HI1_5 := Lib.hid (HI1_4.out.below hbs)
  have HI2_5 := Lib.hid (HI2_4.out.below hbs)
  have HG_5 := Lib.hid (HG_4.out.below hbs HG_4.out.lt)
  have R12_5 : Hid (Row ((w4.alloc (.cells (boolCells w0) 26)).setRow w4.heap.size (boolCells s)) w4.heap.size 26 (boolCells s)) := Row.setRow H0.out _
  have HB_5 : Hid (Below w.heap.size w ((w4.alloc (.cells (boolCells w0) 26)).setRow w4.heap.size (boolCells s))) := Lib.hid (HB_4.out.trans (hbs.mono hgs))
  have hgb12 : w.heap.size ≤ w4.heap.size := hgs
  clear H0 R5_4 R11_4 HI1_4 HI2_4 HG_4 HB_4 hbs hgs
  generalize ((w4.alloc (.cells (boolCells w0) 26)).setRow w4.heap.size (boolCells s)) = w5 at *
  generalize w4.heap.size = g12 at *
  go_wp2_with (first
      | (refine wpList_load_row rfl 23 (.tmp 5) rfl w.heap.size rfl 23 (byteCells k) (0, 0) _ R5_5.out Tryd.underlying23 rfl HI.out ?_)
      | (refine wpList_load_row rfl 26 (.tmp 11) rfl g11 rfl 26 (boolCells a) (0, 0) _ R11_5.out Tryd.underlying26 rfl (HSa.out ()) ?_)
      | (refine wpList_load_row rfl 26 (.tmp 12) rfl g12 rfl 26 (boolCells s) (0, 0) _ R12_5.out Tryd.underlying26 rfl (HSs.out ()) ?_))
  refine (HHO.out _ _ HI2_5.out).mono ?_
  rintro e w6 ⟨rfl, hb⟩
  have R5_6 := Lib.hid (R5_5.out.box hb)
  have R11_6 := Lib.hid (R11_5.out.box hb)
  have R12_6 := Lib.hid (R12_5.out.box hb)
  have HI1_6 := Lib.hid (HI1_5.out.below hb)
  have HI2_6 := Lib.hid (HI2_5.out.below hb)
  have HG_6 := Lib.hid (HG_5.out.below hb HG_5.out.lt)
  have HB_6 := Lib.hid (HB_5.out.trans (hb.mono HB_5.out.size))
  clear hb R5_5 R11_5 R12_5 HI1_5 HI2_5 HG_5 HB_5
  have H0 : Hid (Row (w6.alloc (.cells (boolCells w0) 26)) w6.heap.size 26 (boolCells w0)) := heap_alloc_new _ _
  go_upto_region 7 with (first
      | (refine wpList_store_row rfl 26 (.tmp 13) (.tmp 40) rfl w6.heap.size (boolCells m) rfl rfl 26 (boolCells w0) H0.out (HSm.out ()) (HZm.out ()) (boolCells_one m) ?_)
      | (refine wpList_load_row rfl 23 (.tmp 5) rfl w.heap.size rfl 23 (byteCells k) (0, 0) _ R5_6.out Tryd.underlying23 rfl HI.out ?_)
      | (refine wpList_load_row rfl 26 (.tmp 11) rfl g11 rfl 26 (boolCells a) (0, 0) _ R11_6.out Tryd.underlying26 rfl (HSa.out ()) ?_)
      | (refine wpList_load_row rfl 26 (.tmp 12) rfl g12 rfl 26 (boolCells s) (0, 0) _ R12_6.out Tryd.underlying26 rfl (HSs.out ()) ?_))
  have hgs := HB_6.out.size
  have hbs : Below w6.heap.size w6 ((w6.alloc (.cells (boolCells w0) 26)).setRow w6.heap.size (boolCells m)) := below_setRow ((Below.refl _ _).alloc (Nat.le_refl _) _) (Nat.le_refl _) _
  have hne5_13 : w.heap.size < w6.heap.size := R5_6.out.lt
  have R5_7 := Lib.hid (R5_6.out.box hbs)
  have hne11_13 : g11 < w6.heap.size := R11_6.out.lt
  have R11_7 := Lib.hid (R11_6.out.box hbs)
  have hne12_13 : g12 < w6.heap.size := R12_6.out.lt
  have R12_7 := Lib.hid (R12_6.out.box hbs)
  have HI1_7 := Lib.hid (HI1_6.out.below hbs)
  have HI2_7 := Lib.hid (HI2_6.out.below hbs)
  have HG_7 := Lib.hid (HG_6.out.below hbs HG_6.out.lt)
  have R13_7 : Hid (Row ((w6.alloc (.cells (boolCells w0) 26)).setRow w6.heap.size (boolCells m)) w6.heap.size 26 (boolCells m)) := Row.setRow H0.out _
  have HB_7 : Hid (Below w.heap.size w ((w6.alloc (.cells (boolCells w0) 26)).setRow w6.heap.size (boolCells m))) := Lib.hid (HB_6.out.trans (hbs.mono hgs))
  have hgb13 : w.heap.size ≤ w6.heap.size := hgs
  clear H0 R5_6 R11_6 R12_6 HI1_6 HI2_6 HG_6 HB_6 hbs hgs
  generalize ((w6.alloc (.cells (boolCells w0) 26)).setRow w6.heap.size (boolCells m)) = w7 at *
  generalize w6.heap.size = g13 at *
  clear HI1_7 HI2_7
  have H14 : Hid (Row (w7.alloc (.cells (intCells v0) 30)) w7.heap.size 30 (intCells v0)) := heap_alloc_new _ _
  have hb9 : Below w7.heap.size w7 (w7.alloc (.cells (intCells v0) 30)) := (Below.refl _ _).alloc (Nat.le_refl _) _
  have HB9 := Lib.hid (HB_7.out.trans (hb9.mono HB_7.out.size))
  have HG9 := Lib.hid (HG_7.out.below hb9 HG_7.out.lt)
  have C5 := Lib.hid (R5_7.out.box hb9)
  have C11 := Lib.hid (R11_7.out.box hb9)
  have C12 := Lib.hid (R12_7.out.box hb9)
  have C13 := Lib.hid (R13_7.out.box hb9)
  have hge : w.heap.size < w7.heap.size := R5_7.out.lt
  have hne11 : g11 < w7.heap.size := R11_7.out.lt
  have hne12 : g12 < w7.heap.size := R12_7.out.lt
  have hne13 : g13 < w7.heap.size := R13_7.out.lt
  have hgs : 0 < w7.heap.size := HG_7.out.lt
  clear HB_7 HG_7 R5_7 R11_7 R12_7 R13_7 hb9
  go_wp2_with fail
  generalize w7.alloc (.cells (intCells v0) 30) = wl at *
  generalize w7.heap.size = g14 at *
  go_loopw [15] (fun i wr => ∃ j : Nat, j ≤ 127 ∧ i = .int .i64 j ∧ Row wr g14 30 (intCells (sayj s m (ub b8) j)) ∧ Row wr w.heap.size 23 (byteCells k) ∧ Row wr g11 26 (boolCells a) ∧ Row wr g12 26 (boolCells s) ∧ Row wr g13 26 (boolCells m) ∧ Signs wr ∧ Below w.heap.size w wr) (fun i _ => 127 - (intOf i).toNat)
  case atStart => exact ⟨0, by omega, rfl, by rw [sayj_zero]; exact H14.out, C5.out, C11.out, C12.out, C13.out, HG9.out, HB9.out⟩
  case round =>
    clear H14 C5 C11 C12 C13 HB9 HG9
    obtain ⟨j, hj, rfl, h14, h5, h11, h12, h13, hsg, hbl⟩ := hrel
    have H14 := Lib.hid h14
    have R5 := Lib.hid h5
    have R11 := Lib.hid h11
    have R12 := Lib.hid h12
    have R13 := Lib.hid h13
    have HG := Lib.hid hsg
    have HB := Lib.hid hbl
    by_cases hlt7 : j < 127
    · have c12 := word_at h12 j (by rw [HLs.out]; exact hlt7)
      have c13 := word_at h13 j (by rw [HLm.out]; exact hlt7)
      have f14 := h14.free j
      obtain ⟨u14, c14⟩ : ∃ u, wr.cell? ⟨g14, j, none⟩ = some u := ⟨_, (cell_of_row _ _ _ _ _ _ h14).trans (intCells_get _ j (by rw [sayj_length]; exact hlt7))⟩
      have HST := Lib.hid (sayj_set s m (ub b8) j)
      have HV1 := Lib.hid (sayv_hole s m (ub b8) j)
      have HV2 := Lib.hid (sayv_one s m (ub b8) j)
      have HV3 := Lib.hid (sayv_none s m (ub b8) j)
      have hvb := vote_bd b8 j hlt7
      generalize s.getD j false = sb at *
      generalize m.getD j false = mb at *
      obtain ⟨q, hq⟩ : ∃ q, ub b8 * (j : Int) = q := ⟨_, rfl⟩
      rw [hq] at hvb HV2 HV3
      obtain ⟨hv0, hv1⟩ := hvb
      obtain ⟨ht0, ht1⟩ := htb
      clear h14 h5 h11 h12 h13 hsg hbl
      cases sb
      · cases mb
        · skip
          have hv := HV3.out rfl rfl
          have HV := Lib.hid fun _ : Unit => HST.out ((1 + q)) hv
          clear HV1 HV2 HV3 HST hv
          go_wp2
          go_roundw
          case rel =>
            refine ⟨j + 1, by omega, by go_num, ?_, (R5.out).far (p := ⟨g14, j, none⟩) (by show w.heap.size ≠ g14; omega) _, (R11.out).far (p := ⟨g14, j, none⟩) (by show g11 ≠ g14; omega) _, (R12.out).far (p := ⟨g14, j, none⟩) (by show g12 ≠ g14; omega) _, (R13.out).far (p := ⟨g14, j, none⟩) (by show g13 ≠ g14; omega) _, HG.out.below ((Below.refl g14 wr).setCell (p := ⟨g14, j, none⟩) (Nat.le_refl _) _) hgs, (HB.out).setCell (p := ⟨g14, j, none⟩) (by show w.heap.size ≤ g14; omega) _⟩
            have := (H14.out).set j (.int .i64 (1 + q))
            rw [intCells_set, HV.out ()] at this
            exact this
          case measure => simp [intOf] <;> omega
        · skip
          have hv := HV1.out rfl
          have HV := Lib.hid fun _ : Unit => HST.out (0) hv
          clear HV1 HV2 HV3 HST hv
          go_wp2
          go_roundw
          case rel =>
            refine ⟨j + 1, by omega, by go_num, ?_, ((R5.out).far (p := ⟨g14, j, none⟩) (by show w.heap.size ≠ g14; omega) _).far (p := ⟨g14, j, none⟩) (by show w.heap.size ≠ g14; omega) _, ((R11.out).far (p := ⟨g14, j, none⟩) (by show g11 ≠ g14; omega) _).far (p := ⟨g14, j, none⟩) (by show g11 ≠ g14; omega) _, ((R12.out).far (p := ⟨g14, j, none⟩) (by show g12 ≠ g14; omega) _).far (p := ⟨g14, j, none⟩) (by show g12 ≠ g14; omega) _, ((R13.out).far (p := ⟨g14, j, none⟩) (by show g13 ≠ g14; omega) _).far (p := ⟨g14, j, none⟩) (by show g13 ≠ g14; omega) _, HG.out.below (((Below.refl g14 wr).setCell (p := ⟨g14, j, none⟩) (Nat.le_refl _) _).setCell (p := ⟨g14, j, none⟩) (Nat.le_refl _) _) hgs, ((HB.out).setCell (p := ⟨g14, j, none⟩) (by show w.heap.size ≤ g14; omega) _).setCell (p := ⟨g14, j, none⟩) (by show w.heap.size ≤ g14; omega) _⟩
            have := ((H14.out).set j (.int .i64 (1 + q))).set j (.int .i64 0)
            rw [intCells_set, intCells_set, List.set_set, HV.out ()] at this
            exact this
          case measure => simp [intOf] <;> omega
      · cases mb
        · skip
          have hv := HV2.out rfl rfl
          have HV := Lib.hid fun _ : Unit => HST.out ((-(1 + q))) hv
          clear HV1 HV2 HV3 HST hv
          go_wp2
          go_roundw
          case rel =>
            refine ⟨j + 1, by omega, by go_num, ?_, ((R5.out).far (p := ⟨g14, j, none⟩) (by show w.heap.size ≠ g14; omega) _).far (p := ⟨g14, j, none⟩) (by show w.heap.size ≠ g14; omega) _, ((R11.out).far (p := ⟨g14, j, none⟩) (by show g11 ≠ g14; omega) _).far (p := ⟨g14, j, none⟩) (by show g11 ≠ g14; omega) _, ((R12.out).far (p := ⟨g14, j, none⟩) (by show g12 ≠ g14; omega) _).far (p := ⟨g14, j, none⟩) (by show g12 ≠ g14; omega) _, ((R13.out).far (p := ⟨g14, j, none⟩) (by show g13 ≠ g14; omega) _).far (p := ⟨g14, j, none⟩) (by show g13 ≠ g14; omega) _, HG.out.below (((Below.refl g14 wr).setCell (p := ⟨g14, j, none⟩) (Nat.le_refl _) _).setCell (p := ⟨g14, j, none⟩) (Nat.le_refl _) _) hgs, ((HB.out).setCell (p := ⟨g14, j, none⟩) (by show w.heap.size ≤ g14; omega) _).setCell (p := ⟨g14, j, none⟩) (by show w.heap.size ≤ g14; omega) _⟩
            have := ((H14.out).set j (.int .i64 (1 + q))).set j (.int .i64 (-(1 + q)))
            rw [intCells_set, intCells_set, List.set_set, HV.out ()] at this
            exact this
          case measure => simp [intOf] <;> omega
        · skip
          have hv := HV1.out rfl
          have HV := Lib.hid fun _ : Unit => HST.out (0) hv
          clear HV1 HV2 HV3 HST hv
          go_wp2
          go_roundw
          case rel =>
            refine ⟨j + 1, by omega, by go_num, ?_, (((R5.out).far (p := ⟨g14, j, none⟩) (by show w.heap.size ≠ g14; omega) _).far (p := ⟨g14, j, none⟩) (by show w.heap.size ≠ g14; omega) _).far (p := ⟨g14, j, none⟩) (by show w.heap.size ≠ g14; omega) _, (((R11.out).far (p := ⟨g14, j, none⟩) (by show g11 ≠ g14; omega) _).far (p := ⟨g14, j, none⟩) (by show g11 ≠ g14; omega) _).far (p := ⟨g14, j, none⟩) (by show g11 ≠ g14; omega) _, (((R12.out).far (p := ⟨g14, j, none⟩) (by show g12 ≠ g14; omega) _).far (p := ⟨g14, j, none⟩) (by show g12 ≠ g14; omega) _).far (p := ⟨g14, j, none⟩) (by show g12 ≠ g14; omega) _, (((R13.out).far (p := ⟨g14, j, none⟩) (by show g13 ≠ g14; omega) _).far (p := ⟨g14, j, none⟩) (by show g13 ≠ g14; omega) _).far (p := ⟨g14, j, none⟩) (by show g13 ≠ g14; omega) _, HG.out.below ((((Below.refl g14 wr).setCell (p := ⟨g14, j, none⟩) (Nat.le_refl _) _).setCell (p := ⟨g14, j, none⟩) (Nat.le_refl _) _).setCell (p := ⟨g14, j, none⟩) (Nat.le_refl _) _) hgs, (((HB.out).setCell (p := ⟨g14, j, none⟩) (by show w.heap.size ≤ g14; omega) _).setCell (p := ⟨g14, j, none⟩) (by show w.heap.size ≤ g14; omega) _).setCell (p := ⟨g14, j, none⟩) (by show w.heap.size ≤ g14; omega) _⟩
            have := (((H14.out).set j (.int .i64 (1 + q))).set j (.int .i64 (-(1 + q)))).set j (.int .i64 0)
            rw [intCells_set, intCells_set, intCells_set, List.set_set, List.set_set, HV.out ()] at this
            exact this
          case measure => simp [intOf] <;> omega
    · obtain rfl : j = 127 := by omega
      rw [sayj_done] at H14
      have HLS : Hid ((say s m (ub b8) 127).length = 127) := say_length _ _ _ _
      clear h14 h5 h11 h12 h13 hsg hbl hlt7 hj
      generalize say s m (ub b8) 127 = l at *
      have HVS := Lib.hid fun _ : Unit => votes_size l HLS.out
      generalize hwr : wr = w20 at *
      clear hwr
      go_wp2_with (first
          | (refine wpList_load_row rfl 23 (.tmp 5) rfl w.heap.size rfl 23 (byteCells k) (0, 0) _ R5.out Tryd.underlying23 rfl HI.out ?_)
          | (refine wpList_load_row rfl 30 (.tmp 14) rfl g14 rfl 30 (intCells l) (0, 0) _ H14.out Tryd.underlying30 rfl (HVS.out ()) ?_))
      refine (HT.out l _ HLS.out HG.out).mono ?_
      rintro e w21 ⟨x, y, rfl, htk, hb⟩
      have R5_21 := Lib.hid (R5.out.box hb)
      have R14_21 := Lib.hid (H14.out.box hb)
      have R11_21 := Lib.hid (R11.out.box hb)
      have R12_21 := Lib.hid (R12.out.box hb)
      have R13_21 := Lib.hid (R13.out.box hb)
      have HG_21 := Lib.hid (HG.out.below hb HG.out.lt)
      have HB_21 := Lib.hid (HB.out.trans (hb.mono HB.out.size))
      clear hb R5 H14 R11 R12 R13 HG HB
      have hab := HTS.out x y htk
      clear htk HTS HT
      go_wp2_with (first
          | (refine wpList_load_row rfl 26 (.tmp 11) rfl g11 rfl 26 (boolCells a) (0, 0) _ R11_21.out Tryd.underlying26 rfl (HSa.out ()) ?_)
          | (refine wpList_load_row rfl 26 (.tmp 12) rfl g12 rfl 26 (boolCells s) (0, 0) _ R12_21.out Tryd.underlying26 rfl (HSs.out ()) ?_)
          | (refine wpList_load_row rfl 26 (.tmp 13) rfl g13 rfl 26 (boolCells m) (0, 0) _ R13_21.out Tryd.underlying26 rfl (HSm.out ()) ?_))
      refine (HFR.out _).mono ?_
      rintro e w22 ⟨rfl, hb⟩
      have R5_22 := Lib.hid (R5_21.out.box hb)
      have R14_22 := Lib.hid (R14_21.out.box hb)
      have R11_22 := Lib.hid (R11_21.out.box hb)
      have R12_22 := Lib.hid (R12_21.out.box hb)
      have R13_22 := Lib.hid (R13_21.out.box hb)
      have HG_22 := Lib.hid (HG_21.out.below hb HG_21.out.lt)
      have HB_22 := Lib.hid (HB_21.out.trans (hb.mono HB_21.out.size))
      clear hb R5_21 R14_21 R11_21 R12_21 R13_21 HG_21 HB_21
      by_cases hd : D ≤ 20
      · obtain ⟨rfl, rfl⟩ := hab.1 hd
        have hd' : (D : Int) ≤ 20 := by omega
        clear hab hd
        go_wp2
        go_ret
        exact ⟨by first | rfl | simp, HB_22.out⟩
      · have hd' : ¬ ((D : Int) ≤ 20) := by omega
        rcases hab.2 hd with ⟨rfl, rfl⟩ | ⟨rfl, rfl⟩ | ⟨rfl, q, rfl, hqp, hq, hf⟩
        · skip
          clear hab hd

          go_wp2_with fail
          refine wp_region_quiet_below (by kernel_rfl) (by kernel_rfl) ?_
          repeat (first
            | go_big_quiet_step (fail))
          refine wpQuiet_nil ?_
          intro _ hw'
          obtain ⟨⟨dq, osq⟩, hw''⟩ := hw'
          subst hw''
          have hb := below_regrown w22 dq osq
          have R5_23 := Lib.hid (R5_22.out.box hb)
          have R14_23 := Lib.hid (R14_22.out.box hb)
          have R11_23 := Lib.hid (R11_22.out.box hb)
          have R12_23 := Lib.hid (R12_22.out.box hb)
          have R13_23 := Lib.hid (R13_22.out.box hb)
          have HG_23 := Lib.hid (HG_22.out.below hb HG_22.out.lt)
          have HB_23 := Lib.hid (HB_22.out.trans (hb.mono HB_22.out.size))
          clear hb R5_22 R14_22 R11_22 R12_22 R13_22 HG_22 HB_22
          generalize Sort.grow (redrawn w22 dq) osq = w23 at *
          go_wp2
          go_ret
          exact ⟨rfl, HB_23.out⟩
        · skip
          clear hab hd

          go_wp2_with fail
          refine wp_region_quiet_below (by kernel_rfl) (by kernel_rfl) ?_
          repeat (first
            | go_big_quiet_step (fail))
          refine wpQuiet_nil ?_
          intro _ hw'
          obtain ⟨⟨dq, osq⟩, hw''⟩ := hw'
          subst hw''
          have hb := below_regrown w22 dq osq
          have R5_23 := Lib.hid (R5_22.out.box hb)
          have R14_23 := Lib.hid (R14_22.out.box hb)
          have R11_23 := Lib.hid (R11_22.out.box hb)
          have R12_23 := Lib.hid (R12_22.out.box hb)
          have R13_23 := Lib.hid (R13_22.out.box hb)
          have HG_23 := Lib.hid (HG_22.out.below hb HG_22.out.lt)
          have HB_23 := Lib.hid (HB_22.out.trans (hb.mono HB_22.out.size))
          clear hb R5_22 R14_22 R11_22 R12_22 R13_22 HG_22 HB_22
          generalize Sort.grow (redrawn w22 dq) osq = w23 at *
          go_wp2
          go_ret
          exact ⟨rfl, HB_23.out⟩
        · have hq2 : ((q : Int) != (p : Int)) = true := by rw [bne_iff_ne]; omega
          have hwq := fun W => HWQ.out q W hq
          have hlq := cwd_length (num7 k q)
          generalize cwd (num7 k q) = c at *
          have hfc := fun W => HFC.out c W hlq
          have hf2 : ((farN s m c 127 : Nat) : Int) ≤ 20 := by omega
          generalize farN s m c 127 = f at *
          have HX1 := Lib.hid hwq
          have HX2 := Lib.hid hfc
          clear hab hd hwq hfc hf HWQ HFC hqp
          have HC5 : Hid (∀ W : World, (∃ p : Regrown, W = Sort.grow (redrawn w22 p.d) p.os) → W.heap[w.heap.size]? = some (.cells (byteCells k) 23 (0, 0))) := by
            rintro W ⟨p, rfl⟩
            exact R5_22.out.below (below_regrown w22 p.d p.os) R5_22.out.lt
          have HC12 : Hid (∀ W : World, (∃ p : Regrown, W = Sort.grow (redrawn w22 p.d) p.os) → W.heap[g12]? = some (.cells (boolCells s) 26 (0, 0))) := by
            rintro W ⟨p, rfl⟩
            exact R12_22.out.below (below_regrown w22 p.d p.os) R12_22.out.lt
          have HC13 : Hid (∀ W : World, (∃ p : Regrown, W = Sort.grow (redrawn w22 p.d) p.os) → W.heap[g13]? = some (.cells (boolCells m) 26 (0, 0))) := by
            rintro W ⟨p, rfl⟩
            exact R13_22.out.below (below_regrown w22 p.d p.os) R13_22.out.lt
          have KC0 : Hid (∀ d os, Calls Tryd.prog 9 #[.agg (byteCells k), .int .i64 q] (Sort.grow (redrawn w22 d) os) fun e w'' => e = .returned (.agg (boolCells c)) ∧ ∃ p : Regrown, w'' = Sort.grow (redrawn w22 p.d) p.os) :=
            fun d os => Calls.regrown_of (HX1.out _)
          have KC1 : Hid (∀ d os, Calls Tryd.prog 13 #[.agg (boolCells s), .agg (boolCells m), .agg (boolCells c)] (Sort.grow (redrawn w22 d) os) fun e w'' => e = .returned (.int .i64 (f : Nat)) ∧ ∃ p : Regrown, w'' = Sort.grow (redrawn w22 p.d) p.os) :=
            fun d os => Calls.regrown_of (HX2.out _)
          go_wp2_with fail
          refine wp_region_quiet_below (by kernel_rfl) (by kernel_rfl) ?_
          repeat (first
            | (go_big_quiet_want; refine quiet_load_row 23 (.tmp 5) rfl w.heap.size rfl 23 (byteCells k) (0, 0) _ HC5.out Tryd.underlying23 rfl HI.out ?_; go_big_quiet_on; simp only [Act.put, List.setIfInBounds_toArray, List.set_cons_zero, List.set_cons_succ])
            | (go_big_quiet_want; refine quiet_load_row 26 (.tmp 12) rfl g12 rfl 26 (boolCells s) (0, 0) _ HC12.out Tryd.underlying26 rfl (HSs.out ()) ?_; go_big_quiet_on; simp only [Act.put, List.setIfInBounds_toArray, List.set_cons_zero, List.set_cons_succ])
            | (go_big_quiet_want; refine quiet_load_row 26 (.tmp 13) rfl g13 rfl 26 (boolCells m) (0, 0) _ HC13.out Tryd.underlying26 rfl (HSm.out ()) ?_; go_big_quiet_on; simp only [Act.put, List.setIfInBounds_toArray, List.set_cons_zero, List.set_cons_succ])
            | go_big_quiet_step (fail))
          go_big_quiet_step (first | (go_at_call 9; exact KC0.out _ _))
          repeat (first
            | (go_big_quiet_want; refine quiet_load_row 23 (.tmp 5) rfl w.heap.size rfl 23 (byteCells k) (0, 0) _ HC5.out Tryd.underlying23 rfl HI.out ?_; go_big_quiet_on; simp only [Act.put, List.setIfInBounds_toArray, List.set_cons_zero, List.set_cons_succ])
            | (go_big_quiet_want; refine quiet_load_row 26 (.tmp 12) rfl g12 rfl 26 (boolCells s) (0, 0) _ HC12.out Tryd.underlying26 rfl (HSs.out ()) ?_; go_big_quiet_on; simp only [Act.put, List.setIfInBounds_toArray, List.set_cons_zero, List.set_cons_succ])
            | (go_big_quiet_want; refine quiet_load_row 26 (.tmp 13) rfl g13 rfl 26 (boolCells m) (0, 0) _ HC13.out Tryd.underlying26 rfl (HSm.out ()) ?_; go_big_quiet_on; simp only [Act.put, List.setIfInBounds_toArray, List.set_cons_zero, List.set_cons_succ])
            | go_big_quiet_step (fail))
          go_big_quiet_step (first | (go_at_call 13; exact KC1.out _ _))
          repeat (first
            | (go_big_quiet_want; refine quiet_load_row 23 (.tmp 5) rfl w.heap.size rfl 23 (byteCells k) (0, 0) _ HC5.out Tryd.underlying23 rfl HI.out ?_; go_big_quiet_on; simp only [Act.put, List.setIfInBounds_toArray, List.set_cons_zero, List.set_cons_succ])
            | (go_big_quiet_want; refine quiet_load_row 26 (.tmp 12) rfl g12 rfl 26 (boolCells s) (0, 0) _ HC12.out Tryd.underlying26 rfl (HSs.out ()) ?_; go_big_quiet_on; simp only [Act.put, List.setIfInBounds_toArray, List.set_cons_zero, List.set_cons_succ])
            | (go_big_quiet_want; refine quiet_load_row 26 (.tmp 13) rfl g13 rfl 26 (boolCells m) (0, 0) _ HC13.out Tryd.underlying26 rfl (HSm.out ()) ?_; go_big_quiet_on; simp only [Act.put, List.setIfInBounds_toArray, List.set_cons_zero, List.set_cons_succ])
            | go_big_quiet_step (fail))
          refine wpQuiet_nil ?_
          intro _ hw'
          obtain ⟨⟨dq, osq⟩, hw''⟩ := hw'
          subst hw''
          have hb := below_regrown w22 dq osq
          have R5_23 := Lib.hid (R5_22.out.box hb)
          have R14_23 := Lib.hid (R14_22.out.box hb)
          have R11_23 := Lib.hid (R11_22.out.box hb)
          have R12_23 := Lib.hid (R12_22.out.box hb)
          have R13_23 := Lib.hid (R13_22.out.box hb)
          have HG_23 := Lib.hid (HG_22.out.below hb HG_22.out.lt)
          have HB_23 := Lib.hid (HB_22.out.trans (hb.mono HB_22.out.size))
          clear hb R5_22 R14_22 R11_22 R12_22 R13_22 HG_22 HB_22
          clear HC5 HC12 HC13 KC0 KC1
          generalize Sort.grow (redrawn w22 dq) osq = w23 at *
          go_wp2
          go_ret
          exact ⟨by first | rfl | simp [hf2], HB_23.out⟩
theorem takes_any (k : List UInt8) (z : Int) (l1 l2 : Value) (b8 : UInt8) (xs ys : List Int) (w : World) (hk : k.length = 16) (hm1 : xs.length ≤ maxLen) (hm2 : ys.length ≤ maxLen) (hp1 : ∀ p ∈ xs, 0 ≤ p ∧ p ≤ 255) (hp2 : ∀ p ∈ ys, 0 ≤ p ∧ p ≤ 255) (h1 : BytesAt w l1 xs) (h2 : BytesAt w l2 ys) (h : Signs w) :
    Calls Tryd.prog 3 #[.agg (byteCells k), .int .i64 z, l1, l2, .int .u8 (ub b8)] w fun e w' => e = .returned (.bool true) ∧ Below w.heap.size w w' := by
  by_cases hb : 40 < xs.length ∨ 40 < ys.length
  · exact takes_big k z l1 l2 b8 xs ys w hb hm1 hm2 h1 h2 h
  · exact takes_walk k z l1 l2 b8 xs ys w hk (by omega) (by omega) hp1 hp2 h1 h2 h
end Go.Proofs.YtmfnjjkbfabonaaDoor

/- The law LoadTakes holds: what was laid is taken, as long as twice the wrong places, and those with none, are 20 at most. Conditions: none but those of the row. -/
namespace Go.Proofs.YtmfnjjkbfabonaaDoor.loadTakes
open Go.ChangeShapes Go.WideShapes Go.ChangeAt Go.RowKit
open Go.ChangeMaps (open_string shut_string)
open M

set_option maxRecDepth 100000 in
theorem lifted (os : Os) (started : os.Started) (H : Type) (enc : TypeId × Value → H) :
    ReturnsInHanded {} Tryd.checked os 3 .any (fun w args => (Rows.loadTakesSpec.pre enc Tryd.prog Tryd.f3 [] false w args ∧ laidMetH Tryd.prog laidL w) ∧ sizedMet enc Tryd.prog Tryd.f3 (OpenSpec.ofChange Rows.loadTakesSpec) false w args)
      (Rows.loadTakesSpec.post enc Tryd.prog Tryd.f3 false true false false) := by
  refine returnsInHanded_of_change_and (C := Tryd.checked) (X := fun w _ => laidMetH Tryd.prog laidL w) (fun _ _ _ hh h => h.of_heap hh) own started (by kernel_rfl) Tryd.func3
    (ChangeSpec.witness_shaped (enc := enc) (C := Tryd.checked) (os := os) (X := fun w _ => laidMetH Tryd.prog laidL w) false (World.doorLaid Tryd.prog 400 os) #[.agg (Array.replicate 16 (.int .u8 0)), .int .i64 0, .slice none 0 0, .slice none 0 0, .int .u8 0] 8 rfl (World.shaped_of_RefB (by kernel_rfl) (by kernel_rfl)) (by kernel_rfl) (by kernel_rfl) (by kernel_rfl) (door_met os _)) ?_
  intro W base args ds gs before hval0 hW _ _ hL _
  have hval : ∀ (j : Nat) t v, Tryd.f3.params[j]? = some t → args[j]? = some v → Value.okWide Tryd.prog W .any base t v := hval0
  have hW' := hW
  obtain ⟨p, q, hA0, hV, rfl, hfz, hnd⟩ := hW
  have hA : DataW.TrodAll enc Tryd.prog W 0 (fun _ => true) true Tryd.f3.params.toList args.toList ds p := hA0
  rw [Tryd.params3] at hA hval
  obtain ⟨v0, vs0, d0, ds0, p0, q0, hargs, rfl, rfl, h0, r0⟩ := trodAll_cons hA
  obtain ⟨v1, vs1, d1, ds1, p1, q1, rfl, rfl, rfl, h1, r1⟩ := trodAll_cons r0
  obtain ⟨v2, vs2, d2, ds2, p2, q2, rfl, rfl, rfl, h2, r2⟩ := trodAll_cons r1
  obtain ⟨v3, vs3, d3, ds3, p3, q3, rfl, rfl, rfl, h3, r3⟩ := trodAll_cons r2
  obtain ⟨v4, vs4, d4, ds4, p4, q4, rfl, rfl, rfl, h4, r4⟩ := trodAll_cons r3
  obtain ⟨rfl, rfl, rfl⟩ := trodAll_nil r4
  obtain rfl : args = #[v0, v1, v2, v3, v4] := by cases args; simp_all
  obtain ⟨rfl, rfl⟩ := trodVars_none hV
  obtain ⟨a0, k0, rfl, rfl, rfl, w0⟩ := open_key (hval 0 23 v0 rfl rfl) h0
  obtain ⟨n1, rfl, rfl, rfl, w1⟩ := open_int Tryd.underlying3 (hval 1 3 v1 rfl rfl) h1
  obtain ⟨x2, n2, m2, k2⟩ := open_bytel (hval 2 24 v2 rfl rfl) h2
  obtain ⟨x3, n3, m3, k3⟩ := open_bytel (hval 3 24 v3 rfl rfl) h3
  obtain ⟨n4, rfl, rfl, rfl, w4⟩ := open_int Tryd.underlying5 (hval 4 5 v4 rfl rfl) h4
  obtain ⟨a4, rfl⟩ := byte_of_wf w4
  have hS := signs_of hL
  clear hA0 hval0
  refine (takes_any a0 n1 v2 v3 a4 x2 x3 W k0 m2 m3 k2 k3 n2 n3 hS).mono fun e W' ⟨he, bel⟩ => ?_
  subst he
  exact ⟨_, rfl, _, _, _, [], _, [], hW', trodAll_mk1 (shut_bool Tryd.underlying4 _), (trodAll_cons_mk (w0 _ _ _ _) (trodAll_cons_mk (shut_int Tryd.underlying3 w1) (trodAll_cons_mk (trod_below (by kernel_rfl) (by decide) h2 (fun p hp => hW'.lt p (by simp [hp])) bel) (trodAll_cons_mk (trod_below (by kernel_rfl) (by decide) h3 (fun p hp => hW'.lt p (by simp [hp])) bel) (trodAll_cons_mk (shut_int Tryd.underlying5 w4) trodAll_mk0))))), rfl, bel.frame _, fun h => by cases h⟩

theorem row_holds : Rows.LoadTakesSaid :=
  OpenClaim.holds_of_wide 3 Tryd.f3 rfl rfl rfl rfl rfl rfl rfl ⟨rfl, rfl, rfl, rfl, rfl⟩ rfl rfl rfl rfl rfl (by kernel_rfl) Tryd.func3 (by kernel_rfl)
    (of_decide_eq_true (by kernel_rfl)) (by unfold Func.isWrapper; first | (rw [if_pos (by decide +kernel)]; kernel_rfl) | (rw [if_neg (by decide +kernel)]; exact ⟨rfl, rfl⟩))
    (fun os started H enc _ => lifted os started H enc)

theorem proved : Rows.LoadTakesCardSaid :=
  Claim7.holds_tied_plain_at .later [] [.data] true Rows.loadTakesCard.stood.harness false
    row_holds (fun _ h => by cases h) (by kernel_rfl) (fun _ h => by cases h) loadTakes_row_tie rfl ⟨rfl, rfl⟩ (by kernel_rfl) rfl
    (fun f fn hf hfn => by
      obtain rfl : f = 3 := Option.some.inj ((show Tryd.prog.funcNamed Rows.loadTakesRow.func = some 3 by kernel_rfl).symm.trans hf) |>.symm
      obtain rfl : fn = Tryd.f3 := (Option.some.inj (Tryd.func3.symm.trans hfn)).symm
      exact ⟨by kernel_rfl, fun j t ht => by
        rw [Tryd.params3] at ht
        have hm : t ∈ [23, 3, 24, 24, 5] := by simpa using Array.mem_of_getElem? ht
        have hall : ([23, 3, 24, 24, 5].all fun u => !Tryd.prog.wantsStandIn u) = true := by kernel_rfl
        exact (show Tryd.prog.wantsStandIn t = false by simpa using List.all_eq_true.1 hall t hm)⟩)
    (by kernel_rfl)
#print axioms proved
end Go.Proofs.YtmfnjjkbfabonaaDoor.loadTakes
