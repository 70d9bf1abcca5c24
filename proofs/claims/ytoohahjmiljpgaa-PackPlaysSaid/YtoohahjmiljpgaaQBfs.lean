/-
  The contracts of the reference of layer 3: Bits, Bytes (Bf: the others). Conditions: numbers of 56 bits at most; lists of modest length.
-/
import Derived.Test.YtoohahjmiljpgaaQS8
import Derived.Test.YtoohahjmiljpgaaQS19
namespace Go.Proofs.Ytoohahjmiljpgaa
open Go.RowKit
open M

def natB (bs : List Bool) : List Nat := bs.map Bool.toNat
theorem natB_length (bs : List Bool) : (natB bs).length = bs.length := by simp [natB]
theorem natB_getD (bs : List Bool) (i : Nat) : (natB bs).getD i 0 = (bs.getD i false).toNat := by
  simp only [natB, List.getD_eq_getElem?_getD, List.getElem?_map]
  cases bs[i]? <;> rfl
theorem natB_app (a b : List Bool) : natB (a ++ b) = natB a ++ natB b := by simp [natB]
/-- A slice of bits, each a number, as it lies. -/
def BitsAt (W : World) (v : Value) (bs : List Bool) : Prop :=
  ∃ a cap, v = .slice a bs.length cap ∧ (0 < bs.length → ∃ b off, a = some ⟨b, off, none⟩ ∧ b < W.heap.size ∧
    ∀ i, i < bs.length → W.cell? ⟨b, off + i, none⟩ = some (.int .i64 ((bs.getD i false).toNat : Nat)))

/-- The list that Bits makes, as far as its loop has come. -/
def bitsUp (x n k : Nat) : List Nat := (List.range n).map fun i => if n - k ≤ i then (x.testBit (n - 1 - i)).toNat else 0
theorem bitsUp_length (x n k : Nat) : (bitsUp x n k).length = n := by simp [bitsUp]
theorem bitsUp_zero (x n : Nat) : madeCells #[.int .i64 0] n = natCells (bitsUp x n 0) := by
  apply Array.ext_getElem?
  intro i
  rcases Nat.lt_or_ge i n with hi | hi
  · rw [natCells_get _ i (by rw [bitsUp_length]; exact hi)]
    have hm : i < (madeCells #[Value.int .i64 0] n).size := by rw [size_madeCells]; exact hi
    rw [Array.getElem?_eq_getElem hm]
    simp [madeCells, Nat.mod_one, bitsUp, hi]
    rw [if_neg (by omega)]
    rfl
  · rw [Array.getElem?_eq_none (by rw [size_madeCells]; exact hi), Array.getElem?_eq_none (by rw [natCells_size, bitsUp_length]; exact hi)]
theorem bitsUp_set (x n k : Nat) (h : k < n) : (bitsUp x n k).set (n - 1 - k) (x / 2 ^ k % 2) = bitsUp x n (k + 1) := by
  apply List.ext_getElem (by simp [bitsUp])
  intro i h1 h2
  have hi : i < n := by simpa [bitsUp_length] using h2
  rw [List.getElem_set]
  simp only [bitsUp, List.getElem_map, List.getElem_range]
  by_cases e : n - 1 - k = i
  · rw [if_pos e, if_pos (by omega), show n - 1 - i = k by omega, Nat.testBit_eq_decide_div_mod_eq]
    rcases Nat.mod_two_eq_zero_or_one (x / 2 ^ k) with h | h <;> simp [h]
  · rw [if_neg e]
    by_cases h3 : n - k ≤ i
    · rw [if_pos h3, if_pos (by omega)]
    · rw [if_neg h3, if_neg (by omega)]
theorem bitsUp_done (x n : Nat) : bitsUp x n n = natB (bitsOf x n) := by
  unfold bitsUp natB bitsOf
  rw [List.map_map]
  apply List.map_congr_left
  intro i _
  simp

set_option maxHeartbeats 1000000 in
theorem refBits_any (x n : Nat) (w : World) (hn : n ≤ 56) (hx : x < 9223372036854775808) :
    Calls Try.prog 38 #[.int .i64 x, .int .i64 n] w fun e w' => e = .returned (.slice (some ⟨w.heap.size, 0, none⟩) n n) ∧ Row w' w.heap.size 3 (natCells (natB (bitsOf x n))) ∧ Below w.heap.size w w' := by
  have hmk := run_make_row' (P := Try.prog) 54 3 (.int .i64 0) 8 Try.underlying54 int_info rfl .i64 .i64 n (by omega) (by omega)
  have HZ := Lib.hid (bitsUp_zero x n)
  go_enter Try.func38, Try.ntmps38
  go_wp2
  go_loopw [0, 6] (fun y i wr => ∃ k : Nat, k ≤ n ∧ i = .int .i64 ((n : Int) - 1 - k) ∧ y = .int .i64 ((x / 2 ^ k : Nat) : Int) ∧ Row wr w.heap.size 3 (natCells (bitsUp x n k)) ∧ Below w.heap.size w wr) (fun _ i _ => (intOf i + 1).toNat)
  case atStart => exact ⟨0, Nat.zero_le _, by congr 1; omega, by simp, by rw [← HZ.out]; exact heap_alloc_new _ _, (Below.refl _ _).alloc (Nat.le_refl _) _⟩
  case round =>
    clear hmk
    obtain ⟨k, hk, rfl, rfl, hr, hb⟩ := hrel
    have HR := Lib.hid hr
    have HB := Lib.hid hb
    by_cases hlt : k < n
    · obtain ⟨i, hi⟩ : ∃ i : Nat, n - 1 - k = i := ⟨_, rfl⟩
      have hi2 : (n : Int) - 1 - k = (i : Int) := by omega
      rw [hi2]
      have f0 := hr.free i
      obtain ⟨u0, c0⟩ : ∃ u, wr.cell? ⟨w.heap.size, i, none⟩ = some u := ⟨_, (cell_of_row _ _ _ _ _ _ hr).trans (natCells_get _ i (by rw [bitsUp_length]; omega))⟩
      have HS := Lib.hid (bitsUp_set x n k hlt)
      rw [hi] at HS
      have HD : Hid (x / 2 ^ (k + 1) = x / 2 ^ k / 2) := by unfold Hid; rw [Nat.pow_succ, Nat.div_div_eq_div_mul]
      have hy : x / 2 ^ k ≤ x := Nat.div_le_self _ _
      obtain ⟨y, hyy⟩ : ∃ y, x / 2 ^ k = y := ⟨_, rfl⟩
      rw [hyy] at HS HD hy ⊢
      clear hr hb hyy
      go_wp2
      go_roundw
      case rel =>
        refine ⟨k + 1, by omega, by congr 1; omega, by rw [HD.out]; congr 1, ?_, HB.out.setCell (p := ⟨w.heap.size, i, none⟩) (by simp) _⟩
        rw [← HS.out, ← natCells_set]
        exact HR.out.set i _
      case measure => simp [intOf]
    · obtain rfl : k = n := by omega
      rw [show (k : Int) - 1 - k = -1 by omega]
      clear hr hb
      go_wp2
      go_ret
      exact ⟨rfl, by rw [← bitsUp_done]; exact HR.out, HB.out⟩

def padB (bs : List Bool) (i k : Nat) : List Bool := (List.range k).map fun t => bs.getD (i + t) false
theorem padB_succ (bs : List Bool) (i k : Nat) : padB bs i (k + 1) = padB bs i k ++ [bs.getD (i + k) false] := by
  unfold padB; rw [List.range_succ, List.map_append]; rfl
theorem padB_length (bs : List Bool) (i k : Nat) : (padB bs i k).length = k := by simp [padB]
theorem padB_byte (bs : List Bool) (q : Nat) : numOf (padB bs (8 * q) 8) = byteAt bs q := by
  unfold padB byteAt bt numOf
  simp only [List.range_succ, List.range_zero, List.nil_append, List.map_append, List.map_cons, List.map_nil, List.foldl_append, List.foldl_cons, List.foldl_nil]
  omega

/-- Bytes of a row that the call has built, as a text. -/
theorem own_conv {w : World} {B n : Nat} {o : Value} {l : List UInt8} (hn : l.length = n) (h : w.ownsRow B 5 1 o n (byteCells l).toList) :
    (convert 44 9 o).run Try.prog w = .ok (.string (ofB l)) w := by
  rcases h.2 with ⟨rfl, h0⟩ | ⟨g1, cap, cur, rfl, hb, hr, hc, hm, hs, ht⟩
  · have he : l = [] := List.eq_nil_of_length_eq_zero (by omega)
    rw [he]
    exact run_convert_bytes_nil (P := Try.prog) w 44 5 Try.underlying44 Try.underlying5 0 0 9 Try.underlying9
  · refine run_conv w g1 0 cap n l hn (fun i hi => ?_)
    rw [Nat.zero_add, cell_of_row _ _ _ _ _ _ hr]
    have : (cur.toList.take (n * 1))[i]? = (byteCells l).toList[i]? := by rw [ht]
    rw [List.getElem?_take, if_pos (by omega), Array.getElem?_toList, Array.getElem?_toList, byteCells_get _ _ hi] at this
    exact this

set_option maxHeartbeats 1000000 in
set_option maxRecDepth 100000 in
theorem bytes_any (v : Value) (bs : List Bool) (w : World) (hl : bs.length ≤ 1000000) (h : BitsAt w v bs) :
    Calls Try.prog 41 #[v] w fun e w' => e = .returned (.string (ofB (pack bs))) ∧ Below w.heap.size w w' := by
  obtain ⟨i0, hi0, hz0, hz1, hz2⟩ := info_parts byte_info
  have HI := Lib.hid (And.intro hi0 (And.intro hz0 (And.intro hz1 hz2)))
  clear hi0 hz0 hz1 hz2
  obtain ⟨a, cap, rfl, hc⟩ := h
  have HC := Lib.hid hc
  clear hc
  go_enter Try.func41, Try.ntmps41
  go_wp2
  go_loopw [3, 4] (fun o i wr => ∃ q : Nat, q ≤ (bs.length + 7) / 8 ∧ i = .int .i64 ((8 * q : Nat) : Int) ∧ wr.ownsRow w.heap.size 5 1 o q (byteCells (packN bs q)).toList ∧ Below w.heap.size w wr) (fun _ i _ => bs.length + 8 - (intOf i).toNat)
  case atStart => exact ⟨0, Nat.zero_le _, rfl, World.ownsRow_nil _ _ _ _, Below.refl _ _⟩
  case round =>
    obtain ⟨q, hq, rfl, hown, hb⟩ := hrel
    have HO := Lib.hid hown
    have HB := Lib.hid hb
    have hwr := hb.size
    clear hown hb
    by_cases hlt : 8 * q < bs.length
    · obtain ⟨b, off, rfl, hbw, hcc⟩ := HC.out (by omega)
      have HCC : Hid (∀ i, i < bs.length → wr.cell? ⟨b, off + i, none⟩ = some (.int .i64 ((bs.getD i false).toNat : Nat))) := fun i hi => (HB.out.cell (p := ⟨b, off + i, none⟩) hbw).trans (hcc i hi)
      have HPB := Lib.hid (padB_byte bs q)
      clear hcc HC
      go_wp2
      go_loop [5, 6] (fun x k => ∃ j : Nat, j ≤ 8 ∧ k = .int .i64 j ∧ x = .int .i64 (numOf (padB bs (8 * q) j) : Nat)) (fun _ k => 8 - (intOf k).toNat)
      case atStart => exact ⟨0, Nat.zero_le _, rfl, rfl⟩
      case round =>
        obtain ⟨j, hj, rfl, rfl⟩ := hrel
        have hx : numOf (padB bs (8 * q) j) < 256 := Nat.lt_of_lt_of_le (numOf_lt _) (Nat.pow_le_pow_right (n := 2) (j := 8) (by decide) (by rw [padB_length]; omega))
        by_cases hj8 : j < 8
        · have HN : Hid (numOf (padB bs (8 * q) (j + 1)) = 2 * numOf (padB bs (8 * q) j) + (bs.getD (8 * q + j) false).toNat) := by unfold Hid; rw [padB_succ, numOf_app]
          have hb1 : (bs.getD (8 * q + j) false).toNat ≤ 1 := by cases bs.getD (8 * q + j) false <;> decide
          obtain ⟨y, hy⟩ : ∃ y, numOf (padB bs (8 * q) j) = y := ⟨_, rfl⟩
          rw [hy] at HN hx ⊢
          by_cases hin : 8 * q + j < bs.length
          · have c0 := HCC.out (8 * q + j) hin
            obtain ⟨z, hz⟩ : ∃ z, (bs.getD (8 * q + j) false).toNat = z := ⟨_, rfl⟩
            rw [hz] at HN hb1 c0
            clear hy hz
            go_wp2
            go_round
            case rel => exact ⟨j + 1, by omega, by go_num, by rw [HN.out]; congr 1⟩
            case measure => simp [intOf]; omega
          · have hz : (bs.getD (8 * q + j) false).toNat = 0 := by rw [List.getD_eq_getElem?_getD, List.getElem?_eq_none (by omega)]; rfl
            rw [hz] at HN
            clear hy hz hb1
            go_wp2
            go_round
            case rel => exact ⟨j + 1, by omega, by go_num, by rw [HN.out]; congr 1⟩
            case measure => simp [intOf]; omega
        · obtain rfl : j = 8 := by omega
          rw [HPB.out] at hx ⊢
          have HW : Hid (IntKind.u8.wrap ((byteAt bs q : Nat) : Int) = ((UInt8.ofNat (byteAt bs q)).toNat : Int)) := by
            unfold Hid
            rw [IntKind.wrap_u8, UInt8.toNat_ofNat_of_lt' hx]
            omega
          have HS : Hid ((byteCells (packN bs (q + 1))).toList = (byteCells (packN bs q)).toList ++ [.int .u8 ((UInt8.ofNat (byteAt bs q)).toNat : Int)]) := by
            unfold Hid byteCells packN
            rw [List.range_succ, List.map_append, List.map_append]
            rfl
          have HW2 : Hid (((byteAt bs q : Nat) : Int) = ((UInt8.ofNat (byteAt bs q)).toNat : Int)) := by
            unfold Hid; rw [UInt8.toNat_ofNat_of_lt' hx]
          go_wp2_with (at_builtin; refine wpList_append_own _ rfl _ _ 44 rfl w.heap.size 5 i0 (.int .u8 0) 1 1 Try.underlying44 HI.out.1 HI.out.2.1 HI.out.2.2.1 HI.out.2.2.2 rfl (by decide) _ _ _ rfl (HO.out.alloc _) ⟨wr.heap.size, 0, none⟩ 1 1 [.int .u8 ((byteAt bs q : Nat) : Int)] rfl rfl (one_new _ _ rfl _ _) one_cell ?c3 ?c4 ?c5 ?_)
          case c3 => unfold maxLen; omega
          case c4 => omega
          case c5 => omega
          intro v' w2 hown' hgrow _
          have R : Hid (w2.ownsRow w.heap.size 5 1 v' (q + 1) (byteCells (packN bs (q + 1))).toList ∧ Below w.heap.size w w2) :=
            ⟨by rw [HS.out, ← HW2.out]; exact hown', (HB.out.alloc HB.out.size _).grown hgrow (by simp; omega) (fun k hk => own_ge HO.out k hk)⟩
          clear hown' hgrow HO HB
          go_wp2
          go_roundw
          case rel => exact ⟨q + 1, by omega, by congr 1, R.out⟩
          case measure => simp [intOf]; omega
    · obtain rfl : q = (bs.length + 7) / 8 := by omega
      have hend : ¬ ((8 * ((bs.length + 7) / 8) : Nat) : Int) < (bs.length : Int) := by omega
      have hv : ∀ o : Value, wr.ownsRow w.heap.size 5 1 o ((bs.length + 7) / 8) (byteCells (packN bs ((bs.length + 7) / 8))).toList → (convert 44 9 o).run Try.prog wr = .ok (.string (ofB (pack bs))) wr := fun o ho => own_conv (pack_length bs) ho
      have hv2 := hv _ HO.out
      clear hv
      go_wp2
      go_ret
      exact ⟨rfl, HB.out⟩

theorem natCells_app (a b : List Nat) : (natCells (a ++ b)).toList = (natCells a).toList ++ (natCells b).toList := by simp [natCells]
theorem natCells_one (l : List Nat) : ∀ u ∈ (natCells l).toList, u.oneCell' = true := by
  intro u hu
  simp [natCells] at hu
  obtain ⟨x, _, rfl⟩ := hu
  rfl
theorem own_bitsAt {w : World} {B n : Nat} {v : Value} {bs : List Bool} (hn : bs.length = n) (h : w.ownsRow B 3 1 v n (natCells (natB bs)).toList) : BitsAt w v bs := by
  subst hn
  rcases h.2 with ⟨rfl, h0⟩ | ⟨g, cap, cur, rfl, hb, hr, hc, hm, hs, ht⟩
  · refine ⟨none, 0, by rw [h0], fun h => by omega⟩
  · refine ⟨_, cap, rfl, fun _ => ⟨g, 0, rfl, Row.lt hr, fun i hi => ?_⟩⟩
    rw [Nat.zero_add, cell_of_row _ _ _ _ _ _ hr]
    have : (cur.toList.take (bs.length * 1))[i]? = (natCells (natB bs)).toList[i]? := by rw [ht]
    rw [List.getElem?_take, if_pos (by omega), Array.getElem?_toList, Array.getElem?_toList, natCells_get _ _ (by rw [natB_length]; exact hi), natB_getD] at this
    exact this

end Go.Proofs.Ytoohahjmiljpgaa
