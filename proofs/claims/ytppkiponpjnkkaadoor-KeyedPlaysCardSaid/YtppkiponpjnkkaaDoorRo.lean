/-
  The contracts of the reference's Order, Band and Place of layer 2. Condition: an order of 1 to 256 things.
-/
import Derived.Test.YtppkiponpjnkkaaDoorRl
namespace Go.Proofs.YtppkiponpjnkkaaDoor
open Go.RowKit
open M
attribute [local go_sem] un_add un_sub un_xor un_or un_nonneg un_beq un_bne

/-- Numbers lie from a block's head on. -/
def Lies (W : World) (g : Nat) (l : List Nat) : Prop := ∃ cs, Row W g 3 cs ∧ ∀ i, i < l.length → cs[i]? = some (.int .i64 (l.getD i 0 : Nat))
theorem Lies.lt {W : World} {g : Nat} {l : List Nat} (h : Lies W g l) : g < W.heap.size := h.elim fun _ h => h.1.lt
theorem Lies.cell {W : World} {g i : Nat} {l : List Nat} (h : Lies W g l) (hi : i < l.length) : W.cell? ⟨g, i, none⟩ = some (.int .i64 (l.getD i 0 : Nat)) := by
  obtain ⟨cs, hr, hc⟩ := h
  exact (cell_of_row _ _ _ _ _ _ hr).trans (hc i hi)
theorem Lies.free {W : World} {g : Nat} {l : List Nat} (h : Lies W g l) (i : Nat) : W.frozen? ⟨g, i, none⟩ = false := h.elim fun _ h => h.1.free i
theorem Lies.set {W : World} {g : Nat} {l : List Nat} (h : Lies W g l) (i x : Nat) : Lies (W.setCell ⟨g, i, none⟩ (.int .i64 (x : Int))) g (l.set i x) := by
  obtain ⟨cs, hr, hc⟩ := h
  refine ⟨_, hr.set i _, fun j hj => ?_⟩
  rw [List.length_set] at hj
  have h1 := hc j hj
  have hjs : j < cs.size := by
    rcases Nat.lt_or_ge j cs.size with h2 | h2
    · exact h2
    · rw [Array.getElem?_eq_none h2] at h1; cases h1
  by_cases e : i = j
  · subst e
    rw [Array.getElem?_setIfInBounds_self_of_lt hjs]
    simp [hj]
  · rw [Array.getElem?_setIfInBounds_ne e, h1]
    simp [List.getElem?_set_ne e]
theorem Lies.box {W W' : World} {g : Nat} {l : List Nat} (h : Lies W g l) (hb : Below W.heap.size W W') : Lies W' g l := by
  have hl := h.lt
  obtain ⟨cs, hr, hc⟩ := h
  exact ⟨cs, hr.below hb hl, hc⟩
theorem lies_own {w : World} {base n : Nat} {v : Value} {l : List Nat} (h : w.ownsRow base 3 1 v n (l.map fun x : Nat => Value.int .i64 (x : Int))) (hn : 0 < n) (hl : l.length = n) :
    ∃ g cap, v = .slice (some ⟨g, 0, none⟩) n cap ∧ base ≤ g ∧ Lies w g l := by
  rcases h.2 with ⟨_, h0⟩ | ⟨g, cap, cur, hv, hb, hg, _, _, hsz, htk⟩
  · omega
  · refine ⟨g, cap, hv, hb, cur, hg, fun i hi => ?_⟩
    have : cur[i]? = (cur.toList.take n)[i]? := by rw [List.getElem?_take, if_pos (by omega), Array.getElem?_toList]
    rw [Nat.mul_one] at htk
    rw [this, htk]
    simp [hi]
/-- The first numbers, as they were appended. -/
def rangeV (j : Nat) : List Value := (List.range j).map fun x : Nat => Value.int .i64 (x : Int)
theorem rangeV_succ (j : Nat) : rangeV (j + 1) = rangeV j ++ [.int .i64 (j : Int)] := by simp [rangeV, List.range_succ]
/-- What an order leaves. -/
def GivesOrder (k : List UInt8) (sg : UInt8) (n : Nat) (w : World) (e : Ending) (w' : World) : Prop :=
  ∃ g cap, e = .returned (.slice (some ⟨g, 0, none⟩) n cap) ∧ w.heap.size ≤ g ∧ Lies w' g (kord k sg n) ∧ Below w.heap.size w w'

theorem jn_tmod (k : List UInt8) (sg : UInt8) (i : Nat) : (un (num k sg (i : Int))).tmod ((i : Int) + 1) = (jn k sg i : Int) := by
  rw [Int.tmod_eq_emod_of_nonneg (un_bd _).1]
  unfold un jn
  rw [show ((i : Int) + 1) = ((i + 1 : Nat) : Int) by omega, ← Int.natCast_emod]

set_option maxHeartbeats 1000000 in
theorem refOrder_any (k : List UInt8) (sg : UInt8) (n : Nat) (w : World) (hk : k.length = 16) (hn1 : 1 ≤ n) (hn2 : n ≤ 256) :
    Calls Tryd.prog 15 #[.agg (byteCells k), .int .u8 (ub sg), .int .i64 n] w (GivesOrder k sg n w) := by
  obtain ⟨i0, hi0, hz0, hz1, hz2⟩ := info_parts int_info
  have HT := Lib.hid (And.intro hi0 (And.intro hz0 (And.intro hz1 hz2)))
  clear hi0 hz0 hz1 hz2
  have HI := Lib.hid (key_info k hk)
  go_enter Tryd.func15, Tryd.ntmps15
  go_wp2
  go_loopw [7, 8] (fun v i wr => ∃ j : Nat, j ≤ n ∧ i = .int .i64 j ∧ wr.ownsRow (w.heap.size + 1) 3 1 v j (rangeV j) ∧ Row wr w.heap.size 23 (byteCells k) ∧ Below w.heap.size w wr) (fun _ i _ => n - (intOf i).toNat)
  case atStart => exact ⟨0, Nat.zero_le _, rfl, World.ownsRow_nil _ _ _ _, heap_alloc_new _ _, (Below.refl _ _).alloc (Nat.le_refl _) _⟩
  case round =>
    obtain ⟨j, hj, rfl, hown, hz, hb⟩ := hrel
    have HO := Lib.hid hown
    have HB := Lib.hid hb
    have HZ := Lib.hid hz
    clear hown hb hz
    by_cases hlt : j < n
    · have hsz : w.heap.size + 1 ≤ wr.heap.size := HZ.out.lt
      go_wp2_with (at_builtin; refine wpList_append_own _ rfl _ _ 34 rfl (w.heap.size + 1) 3 i0 (.int .i64 0) 1 8 Tryd.underlying34 HT.out.1 HT.out.2.1 HT.out.2.2.1 HT.out.2.2.2 rfl (by decide) _ _ _ rfl (HO.out.alloc _) ⟨wr.heap.size, 0, none⟩ 1 1 [.int .i64 (j : Int)] rfl rfl (one_new _ _ rfl _ _) one_cell ?c3 ?c4 ?c5 ?_)
      case c3 => unfold maxLen; omega
      case c4 => omega
      case c5 => simp; omega
      intro v' w3 hown' hgrow _
      have R : Hid (w3.ownsRow (w.heap.size + 1) 3 1 v' (j + 1) (rangeV (j + 1)) ∧ Row w3 w.heap.size 23 (byteCells k) ∧ Below w.heap.size w w3) :=
        ⟨by rw [rangeV_succ]; exact hown', (HZ.out.alloc _).grown hgrow (by simp; omega) (own_ne HO.out _ (by omega)), (HB.out.alloc HB.out.size _).grown hgrow (by simp; omega) (fun k hk => Nat.le_trans (by omega) (own_ge HO.out k hk))⟩
      clear hown' hgrow HO HB HZ hsz
      go_wp2
      go_roundw
      case rel => exact ⟨j + 1, by omega, by go_num, R.out⟩
      case measure => simp [intOf]; omega
    · obtain rfl : n = j := by omega
      obtain ⟨g, cap, hv, hgl, hlies⟩ := lies_own (l := List.range n) HO.out (by omega) (by simp)
      obtain rfl := hv
      have HL := Lib.hid hlies
      have HGL : Hid (w.heap.size < g) := hgl
      clear HO hgl hlies
      go_wp2
      go_loopw [9] (fun i wr2 => ∃ d i' : Nat, d + i' = n - 1 ∧ i = .int .i64 i' ∧ Lies wr2 g (ordD (jn k sg) n d) ∧ Row wr2 w.heap.size 23 (byteCells k) ∧ Below w.heap.size w wr2) (fun i _ => (intOf i).toNat)
      case atStart => exact ⟨0, n - 1, by omega, by congr 1; omega, HL.out, HZ.out, HB.out⟩
      case round =>
        clear HL HZ HB
        obtain ⟨d, i, hd, rfl, hl, hz, hb⟩ := hrel
        by_cases hi : 1 ≤ i
        · have HL := Lib.hid hl
          have HZ := Lib.hid hz
          have HB := Lib.hid hb
          clear hl hz hb
          go_wp2_with (refine wpList_load_row rfl 23 (.tmp 3) rfl w.heap.size rfl 23 (byteCells k) (0, 0) _ HZ.out Tryd.underlying23 rfl HI.out ?_)
          refine (refNum_any k sg i _ hk).mono ?_
          rintro e w1 ⟨rfl, hb⟩
          have HL1 := Lib.hid (HL.out.box hb)
          have HZ1 := Lib.hid (HZ.out.box hb)
          have HB1 := Lib.hid (HB.out.trans (hb.mono HB.out.size))
          clear hb HL HZ HB
          have hjn := jn_tmod k sg i
          have hJ := jn_le k sg i
          have hs : ordD (jn k sg) n (d + 1) = swp (ordD (jn k sg) n d) i (jn k sg i) := by
            show swp _ (n - 1 - d) (jn k sg (n - 1 - d)) = _
            rw [show n - 1 - d = i by omega]
          obtain ⟨J, hJJ⟩ : ∃ J, jn k sg i = J := ⟨_, rfl⟩
          obtain ⟨l, hl⟩ : ∃ l, ordD (jn k sg) n d = l := ⟨_, rfl⟩
          have hll : l.length = n := by rw [← hl]; exact ordD_length _ _ _
          rw [hJJ] at hjn hJ hs
          rw [hl] at hs HL1
          have ci := HL1.out.cell (i := i) (by omega)
          have cj := HL1.out.cell (i := J) (by omega)
          have fi := HL1.out.free i
          have HSW := Lib.hid hs
          obtain ⟨x, hx⟩ : ∃ x, l.getD i 0 = x := ⟨_, rfl⟩
          obtain ⟨y, hy⟩ : ∃ y, l.getD J 0 = y := ⟨_, rfl⟩
          rw [hx] at ci
          rw [hy] at cj
          have HL2 : Hid (Lies ((w1.setCell ⟨g, i, none⟩ (.int .i64 (y : Int))).setCell ⟨g, J, none⟩ (.int .i64 (x : Int))) g (ordD (jn k sg) n (d + 1))) := by
            unfold Hid
            rw [hs]
            unfold swp
            rw [hx, hy]
            exact (HL1.out.set i y).set J x
          have c2 := (HL1.out.set i y).cell (i := J) (by rw [List.length_set]; omega)
          have f2 := (HL1.out.set i y).free J
          obtain ⟨u2, hu2⟩ : ∃ u2 : Nat, (l.set i y).getD J 0 = u2 := ⟨_, rfl⟩
          rw [hu2] at c2
          clear hs hx hy hJJ hl HL1 hll hu2
          have HJN := Lib.hid (And.intro hjn (IntWalk.wrap64_in (J : Int) (by omega)))
          have hJn : (J : Int) < (n : Int) := by omega
          have hin : (i : Int) < (n : Int) := by omega
          clear hjn
          generalize num k sg (i : Int) = X at *
          have e1 := HJN.out.1
          have e2 := HJN.out.2
          go_wp2
          go_roundw
          case rel =>
            exact ⟨d + 1, i - 1, by omega, by congr 1; omega, HL2.out, (HZ1.out.far (p := ⟨g, i, none⟩) (Nat.ne_of_lt HGL.out) _).far (p := ⟨g, J, none⟩) (Nat.ne_of_lt HGL.out) _,
              (HB1.out.setCell (p := ⟨g, i, none⟩) (Nat.le_of_lt HGL.out) _).setCell (p := ⟨g, J, none⟩) (Nat.le_of_lt HGL.out) _⟩
          case measure => simp [intOf]; omega
        · obtain rfl : i = 0 := by omega
          have HL := Lib.hid hl
          have HB := Lib.hid hb
          clear hl hz hb
          go_wp2
          go_ret
          obtain rfl : d = n - 1 := by omega
          exact ⟨g, cap, rfl, Nat.le_of_lt HGL.out, HL.out, HB.out⟩
end Go.Proofs.YtppkiponpjnkkaaDoor
