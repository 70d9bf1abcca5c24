/-
  The contracts of layer 2's Order, Band, Place. Condition: the signs lie as the program's text lays them.
-/
import Derived.Test.YtppkiponpjnkkaaDoorKa
import Derived.RegionTactic
import Derived.Deep.RegionWith
namespace Go.Proofs.YtppkiponpjnkkaaDoor
open Go.RowKit
open M
attribute [local go_sem] un_add un_sub un_xor un_or un_nonneg un_beq un_bne

/-- A list of numbers, as it lies. -/
def natCells (l : List Nat) : Array Value := (l.map fun x : Nat => Value.int .i64 (x : Int)).toArray
theorem natCells_size (l : List Nat) : (natCells l).size = l.length := by simp [natCells]
theorem natCells_get (l : List Nat) (i : Nat) (h : i < l.length) : (natCells l)[i]? = some (.int .i64 (l.getD i 0 : Nat)) := by
  simp [natCells, h]
theorem natCells_set (l : List Nat) (i x : Nat) : (natCells l).setIfInBounds i (.int .i64 (x : Int)) = natCells (l.set i x) := by
  simp [natCells, List.map_set]
/-- The list that is made, as far as its loop has come. -/
def upN (n j : Nat) : List Nat := (List.range n).map fun i => if i < j then i else 0
theorem upN_length (n j : Nat) : (upN n j).length = n := by simp [upN]
theorem upN_set (n j : Nat) : (upN n j).set j j = upN n (j + 1) := by
  apply List.ext_getElem (by simp [upN])
  intro i h1 h2
  simp only [upN, List.getElem_set, List.getElem_map, List.getElem_range]
  by_cases e : j = i
  · subst e; simp
  · have : (i < j + 1) = (i < j) := by simp; omega
    simp only [if_neg e, this]
theorem upN_done (n : Nat) : upN n n = List.range n := by
  apply List.ext_getElem (by simp [upN])
  intro i h1 h2
  simp [upN] at h1 ⊢
  intro h; omega
theorem upN_zero (n : Nat) : madeCells #[.int .i64 0] n = natCells (upN n 0) := by
  apply Array.ext_getElem?
  intro i
  rcases Nat.lt_or_ge i n with hi | hi
  · rw [natCells_get _ i (by rw [upN_length]; exact hi)]
    have hm : i < (madeCells #[Value.int .i64 0] n).size := by rw [size_madeCells]; exact hi
    rw [Array.getElem?_eq_getElem hm]
    simp [madeCells, Nat.mod_one, upN, hi]
  · rw [Array.getElem?_eq_none (by rw [size_madeCells]; exact hi), Array.getElem?_eq_none (by rw [natCells_size, upN_length]; exact hi)]
theorem int_info : (Tryd.prog.info? 3).map (fun i => (i.zero, i.size, i.bytes)) = some (some (.int .i64 0), 1, 8) := by kernel_rfl

theorem jn_walk (k : List UInt8) (sg : UInt8) (i : Nat) (hi : i ≤ 300) : wrap64 ((un (num k sg (i : Int))).tmod ((i : Int) + 1)) = (jn k sg i : Int) := by
  have h0 := un_bd (num k sg i)
  have e : (un (num k sg (i : Int))).tmod ((i : Int) + 1) = (jn k sg i : Int) := by
    rw [Int.tmod_eq_emod_of_nonneg h0.1]
    unfold un jn
    rw [show ((i : Int) + 1) = ((i + 1 : Nat) : Int) by omega, ← Int.natCast_emod]
  have := jn_le k sg i
  rw [e]
  exact IntWalk.wrap64_in _ (by omega)
theorem below_drew1 {B : Nat} {a w : World} (h : Below B a w) : Below B a w.drew := ⟨h.os, h.tape, h.output, h.size, h.block⟩
theorem Row.box {w w1 : World} {g : Nat} {t : TypeId} {cs : Array Value} (h : Row w g t cs) (hb : Below w.heap.size w w1) : Row w1 g t cs := h.below hb h.lt

theorem order_none (k : List UInt8) (sg : UInt8) (n : Int) (w : World) (hn : n < 1 ∨ 256 < n) :
    Calls Tryd.prog 14 #[.agg (byteCells k), .int .u8 (ub sg), .int .i64 n] w fun e w' => e = .returned (.slice none 0 0) ∧ Below w.heap.size w w' := by
  by_cases h1 : n < 1
  · go_enter Tryd.func14, Tryd.ntmps14
    go_wp2
    go_ret
    exact ⟨rfl, (Below.refl _ _).alloc (Nat.le_refl _) _⟩
  · have h2 : 256 < n := by omega
    go_enter Tryd.func14, Tryd.ntmps14
    go_wp2
    go_ret
    exact ⟨rfl, (Below.refl _ _).alloc (Nat.le_refl _) _⟩

set_option maxHeartbeats 1000000 in
theorem order_any (k : List UInt8) (sg : UInt8) (n : Nat) (w : World) (hk : k.length = 16) (hn1 : 1 ≤ n) (hn2 : n ≤ 256) (h : Signs w) :
    Calls Tryd.prog 14 #[.agg (byteCells k), .int .u8 (ub sg), .int .i64 n] w fun e w' => e = .returned (.slice (some ⟨w.heap.size + 1, 0, none⟩) n n) ∧
      Row w' (w.heap.size + 1) 3 (natCells (kord k sg n)) ∧ Below w.heap.size w w' := by
  have hmk := run_make_row' (P := Tryd.prog) 34 3 (.int .i64 0) 8 Tryd.underlying34 int_info rfl .i64 .i64 n (by omega) (by omega)
  have HZ := Lib.hid (upN_zero n)
  have HG := Lib.hid h
  have HI := Lib.hid (key_info k hk)
  clear h
  go_enter Tryd.func14, Tryd.ntmps14
  go_wp2
  go_loopw [21] (fun i wr => ∃ j : Nat, j ≤ n ∧ i = .int .i64 j ∧ Row wr (w.heap.size + 1) 3 (natCells (upN n j)) ∧ Row wr w.heap.size 23 (byteCells k) ∧ Below w.heap.size w wr) (fun i _ => n - (intOf i).toNat)
  case atStart => exact ⟨0, Nat.zero_le _, rfl, by rw [← HZ.out]; exact heap_alloc2_new _ _ _, heap_alloc2_old _ _ _, ((Below.refl _ _).alloc (Nat.le_refl _) _).alloc (by simp) _⟩
  case round =>
    clear hmk
    obtain ⟨j, hj, rfl, hr, hz, hb⟩ := hrel
    have HR := Lib.hid hr
    have HZ := Lib.hid hz
    have HB := Lib.hid hb
    by_cases hlt : j < n
    · have f0 := hr.free j
      obtain ⟨u0, c0⟩ : ∃ u, wr.cell? ⟨w.heap.size + 1, j, none⟩ = some u := ⟨_, (cell_of_row _ _ _ _ _ _ hr).trans (natCells_get _ j (by rw [upN_length]; exact hlt))⟩
      clear hr hz hb
      go_wp2
      go_roundw
      case rel =>
        refine ⟨j + 1, by omega, by go_num, ?_, HZ.out.far (p := ⟨w.heap.size + 1, j, none⟩) (by simp) _, HB.out.setCell (p := ⟨w.heap.size + 1, j, none⟩) (by simp) _⟩
        rw [← upN_set, ← natCells_set]
        exact HR.out.set j _
      case measure => simp [intOf]; omega
    · obtain rfl : n = j := by omega
      have HU := Lib.hid (upN_done n)
      clear hr hz hb
      go_wp2
      go_loopw [9] (fun i wr2 => ∃ d i' : Nat, d + i' = n - 1 ∧ i = .int .i64 i' ∧ Row wr2 (w.heap.size + 1) 3 (natCells (ordD (jn k sg) n d)) ∧ Row wr2 w.heap.size 23 (byteCells k) ∧ Below w.heap.size w wr2) (fun i _ => (intOf i).toNat)
      case atStart => exact ⟨0, n - 1, by omega, by congr 1; omega, by have := HR.out; rw [HU.out] at this; exact this, HZ.out, HB.out⟩
      case round =>
        clear HR HZ HB HU
        obtain ⟨d, i, hd, rfl, hr, hz, hb⟩ := hrel
        by_cases hi : 1 ≤ i
        · have HR := Lib.hid hr
          have HZ := Lib.hid hz
          have HB := Lib.hid hb
          have HGG := Lib.hid (HG.out.below hb HG.out.lt)
          clear hr hz hb
          go_wp2_with (refine wpList_load_row rfl 23 (.tmp 3) rfl w.heap.size rfl 23 (byteCells k) (0, 0) _ HZ.out Tryd.underlying23 rfl HI.out ?_)
          refine (num_any k sg i _ hk HGG.out).mono ?_
          rintro e w1 ⟨rfl, hb⟩
          have HR1 := Lib.hid (HR.out.box hb)
          have HZ1 := Lib.hid (HZ.out.box hb)
          have HB1 := Lib.hid (HB.out.trans (hb.mono HB.out.size))
          clear hb
          have hjn := jn_walk k sg i (by omega)
          have hJ := jn_le k sg i
          have hs : ordD (jn k sg) n (d + 1) = swp (ordD (jn k sg) n d) i (jn k sg i) := by
            show swp _ (n - 1 - d) (jn k sg (n - 1 - d)) = _
            rw [show n - 1 - d = i by omega]
          obtain ⟨J, hJJ⟩ : ∃ J, jn k sg i = J := ⟨_, rfl⟩
          obtain ⟨l, hl⟩ : ∃ l, ordD (jn k sg) n d = l := ⟨_, rfl⟩
          have hll : l.length = n := by rw [← hl]; exact ordD_length _ _ _
          rw [hJJ] at hjn hJ hs
          rw [hl] at hs
          have hr1 := HR1.out
          rw [hl] at hr1
          have ci : w1.cell? ⟨w.heap.size + 1, i, none⟩ = some (.int .i64 (l.getD i 0 : Nat)) := (cell_of_row _ _ _ _ _ _ hr1).trans (natCells_get l i (by omega))
          have cj : w1.cell? ⟨w.heap.size + 1, J, none⟩ = some (.int .i64 (l.getD J 0 : Nat)) := (cell_of_row _ _ _ _ _ _ hr1).trans (natCells_get l J (by omega))
          have fi := hr1.free i
          have fj := hr1.free J
          have HSW := Lib.hid hs
          have HL := Lib.hid hr1
          have HLL := Lib.hid hll
          obtain ⟨x, hx⟩ : ∃ x, l.getD i 0 = x := ⟨_, rfl⟩
          obtain ⟨y, hy⟩ : ∃ y, l.getD J 0 = y := ⟨_, rfl⟩
          have HXY := Lib.hid (And.intro hx hy)
          rw [hx] at ci
          rw [hy] at cj
          clear hr1 hs hx hy hJJ hl HR1 hll
          have HJN := Lib.hid hjn
          clear hjn
          obtain ⟨u2, c2⟩ : ∃ u, (w1.setCell ⟨w.heap.size + 1, i, none⟩ (.int .i64 (y : Int))).cell? ⟨w.heap.size + 1, J, none⟩ = some u := by
            refine ⟨.int .i64 ((l.set i y).getD J 0 : Nat), ?_⟩
            rw [cell_of_row _ _ _ _ _ _ (HL.out.set i (.int .i64 (y : Int))), natCells_set]
            exact natCells_get _ J (by rw [List.length_set, HLL.out]; omega)
          have f2 : (w1.setCell ⟨w.heap.size + 1, i, none⟩ (.int .i64 (y : Int))).frozen? ⟨w.heap.size + 1, J, none⟩ = false := (HL.out.set i (.int .i64 (y : Int))).free J
          go_wp2_with fail
          rw [HJN.out]
          go_region
          go_wp2
          go_roundw
          case rel =>
            refine ⟨d + 1, i - 1, by omega, by congr 1; omega, ?_, (HZ1.out.far (p := ⟨w.heap.size + 1, i, none⟩) (by simp) _).far (p := ⟨w.heap.size + 1, J, none⟩) (by simp) _,
              below_drew1 ((HB1.out.setCell (p := ⟨w.heap.size + 1, i, none⟩) (by simp) _).setCell (p := ⟨w.heap.size + 1, J, none⟩) (by simp) _)⟩
            rw [HSW.out]
            unfold swp
            rw [← natCells_set, ← natCells_set, HXY.out.1, HXY.out.2]
            exact (HL.out.set i _).set J _
          case measure => simp [intOf]; omega
        · obtain rfl : i = 0 := by omega
          have HR := Lib.hid hr
          have HB := Lib.hid hb
          clear hr hz hb
          go_wp2
          go_ret
          obtain rfl : d = n - 1 := by omega
          exact ⟨rfl, HR.out, HB.out⟩
end Go.Proofs.YtppkiponpjnkkaaDoor
