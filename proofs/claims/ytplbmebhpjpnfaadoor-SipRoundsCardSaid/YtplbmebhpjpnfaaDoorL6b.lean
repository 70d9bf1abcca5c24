/-
  The walk of the law SipWords.
-/
import Derived.Test.YtplbmebhpjpnfaaDoorL6
import Derived.Deep.QuietTactic
import Derived.BigQuiet
namespace Go.Proofs.YtplbmebhpjpnfaaDoor
open Go.RowKit
open M
attribute [local go_sem] un_add un_sub un_xor un_or un_nonneg un_beq un_bne

/-- Are the first j words alike, and as many in all? -/
def sameB (l m : List UInt8) (j : Nat) : Bool := decide (l.length / 8 = m.length / 8) && (List.range j).all fun i => wordAt l i == wordAt m i
theorem sameB_succ (l m : List UInt8) (j : Nat) : sameB l m (j + 1) = (sameB l m j && (wordAt l j == wordAt m j)) := by
  simp [sameB, List.range_succ, Bool.and_assoc]
theorem sameB_full (l m : List UInt8) (hl : l.length ≤ 255) (hm : m.length ≤ 255) (h : sameB l m (l.length / 8 + 1) = true) : l = m := by
  simp only [sameB, Bool.and_eq_true, decide_eq_true_eq, List.all_eq_true, List.mem_range, beq_iff_eq] at h
  apply words_inj hl hm
  unfold words
  rw [← h.1]
  apply List.map_congr_left
  intro i hi
  exact h.2 i (by simpa using hi)
theorem sameB_self (l : List UInt8) (j : Nat) : sameB l l j = true := by simp [sameB]

theorem Below.drewN {B : Nat} {a w : World} (h : Below B a w) (n : Nat) : Below B a (w.drewN n) := ⟨h.os, h.tape, h.output, h.size, h.block⟩
theorem toList_bl (s : ByteArray) : s.toList = bl s := ByteArray.toList_eq s
theorem bl_inj {s t : ByteArray} (h : bl s = bl t) : s = t := by rw [← ofB_bl s, h, ofB_bl]

/-- The last cells of a text's words. -/
def wordsV (s : ByteArray) : Array Value := wordCells (bl s) (s.size / 8 + 1)
theorem wordsV_get (s : ByteArray) (i : Nat) (hi : i < s.size / 8 + 1) : (wordsV s)[i]? = some (.int .u64 (un (wordAt (bl s) i))) := by
  unfold wordsV
  rw [wordCells_get _ _ i (by rw [bl_length]; exact hi), if_pos hi]

set_option maxHeartbeats 1000000 in
theorem sipwords_walk (s t : ByteArray) (w : World) (hs : s.size ≤ 255) (ht : t.size ≤ 255) (h : Signs w) :
    Calls Tryd.prog 6 #[.string s, .string t] w fun e w' => e = .returned (.bool true) ∧ Below w.heap.size w w' := by
  have HG := Lib.hid h
  have d1 : decide ((255 : Int) < (s.size : Int)) = false := by simp; omega
  have d2 : decide ((255 : Int) < (t.size : Int)) = false := by simp; omega
  have hq : ((s.size : Int) / 8 + 1 == (t.size : Int) / 8 + 1) = sameB (bl s) (bl t) 0 := by
    simp only [sameB, List.range_zero, List.all_nil, Bool.and_true, bl_length]
    rw [Bool.eq_iff_iff]; simp; omega
  clear h
  go_enter Tryd.func6, Tryd.ntmps6
  go_wp2_with (first
    | (go_at_call 9; refine (awake_any _ HG.out).mono ?_; rintro e w1 ⟨rfl, hb⟩; have HB1 := Lib.hid hb; clear hb)
    | fail)
  refine (words_any s _ (by omega)).mono ?_
  rintro e w2 ⟨rfl, hr, hb⟩
  have HR1 := Lib.hid hr
  have HB2 := Lib.hid hb
  clear hr hb
  go_wp2_with fail
  refine (words_any t _ (by omega)).mono ?_
  rintro e w3 ⟨rfl, hr, hb⟩
  have HR2 := Lib.hid hr
  have HR1' := Lib.hid (HR1.out.below hb HR1.out.lt)
  have HB3 := Lib.hid hb
  clear hr hb
  go_wp2_with fail
  clear hq
  go_loopw [7, 8] (fun v i wr => ∃ j : Nat, j ≤ s.size / 8 + 1 ∧ i = .int .i64 j ∧ v = .bool (sameB (bl s) (bl t) j) ∧ Below w3.heap.size w3 wr) (fun _ i _ => s.size / 8 + 1 - (intOf i).toNat)
  case atStart => exact ⟨0, Nat.zero_le _, rfl, rfl, Below.refl _ _⟩
  case round =>
    obtain ⟨j, hj, rfl, rfl, hb⟩ := hrel
    have HB := Lib.hid hb
    have hr1 := HR1'.out.below hb HR1'.out.lt
    have hr2 := HR2.out.below hb HR2.out.lt
    have HS := Lib.hid (sameB_succ (bl s) (bl t) j)
    have HE := Lib.hid (HB1.out.trans ((HB2.out.mono HB1.out.size).trans ((HB3.out.mono (Nat.le_trans HB1.out.size HB2.out.size)).trans (hb.mono (Nat.le_trans HB1.out.size (Nat.le_trans HB2.out.size HB3.out.size))))))
    rcases hsb : sameB (bl s) (bl t) j
    · have hne : (s.toList == t.toList) = false := by
        rcases hx : (s.toList == t.toList)
        · rfl
        · rw [toList_bl, toList_bl, beq_iff_eq] at hx
          rw [bl_inj hx, sameB_self] at hsb
          cases hsb
      clear hb hr1 hr2 hsb
      go_wp2
      all_goals
        go_ret
        exact ⟨rfl, HE.out⟩
    · have hlen : s.size / 8 = t.size / 8 := by
        have := hsb
        simp only [sameB, Bool.and_eq_true, decide_eq_true_eq, bl_length] at this
        exact this.1
      have HL := Lib.hid hlen
      by_cases hlt : j < s.size / 8 + 1
      · have c1 : wr.cell? ⟨w1.heap.size, j, none⟩ = some (.int .u64 (un (wordAt (bl s) j))) := (cell_of_row _ _ _ _ _ _ hr1).trans (wordsV_get s j hlt)
        have c2 : wr.cell? ⟨w2.heap.size, j, none⟩ = some (.int .u64 (un (wordAt (bl t) j))) := (cell_of_row _ _ _ _ _ _ hr2).trans (wordsV_get t j (by omega))
        have hlt2 : j < t.size / 8 + 1 := by omega
        rw [hsb, Bool.true_and] at HS
        clear hb hr1 hr2 hsb hlen
        go_wp2
        go_quiet (fail)
        go_wp2
        go_roundw
        case rel => exact ⟨j + 1, by omega, by go_num, by rw [HS.out], Below.drewN HB.out _⟩
        case measure => simp [intOf]; omega
      · obtain rfl : j = s.size / 8 + 1 := by omega
        have he : bl s = bl t := sameB_full _ _ (by rw [bl_length]; exact hs) (by rw [bl_length]; exact ht) (by rw [bl_length]; exact hsb)
        obtain rfl := bl_inj he
        clear hb hr1 hr2 hsb hlen he
        go_wp2
        go_ret
        exact ⟨rfl, HE.out⟩

set_option maxHeartbeats 1000000 in
theorem sipwords_long (s t : ByteArray) (w : World) (hs : s.size ≤ maxLen) (ht : t.size ≤ maxLen) (hl : 255 < s.size ∨ 255 < t.size) (h : Signs w) :
    Calls Tryd.prog 6 #[.string s, .string t] w fun e w' => e = .returned (.bool true) ∧ Below w.heap.size w w' := by
  have HG := Lib.hid h
  unfold maxLen at hs ht
  clear h
  rcases hl with hl | hl
  · have d1 : decide ((255 : Int) < (s.size : Int)) = true := by simp; omega
    go_enter Tryd.func6, Tryd.ntmps6
    go_wp2_with fail
    refine (awake_any _ HG.out).mono ?_
    rintro e w1 ⟨rfl, hb⟩
    have HB1 := Lib.hid hb
    clear hb
    go_wp2_with fail
    refine (awake_any _ (HG.out.below HB1.out HG.out.lt)).mono ?_
    rintro e w2 ⟨rfl, hb⟩
    have HB2 := Lib.hid (HB1.out.trans (hb.mono HB1.out.size))
    clear hb
    go_wp2
    go_ret
    exact ⟨rfl, HB2.out⟩
  · have d2 : decide ((255 : Int) < (t.size : Int)) = true := by simp; omega
    rcases d1 : decide ((255 : Int) < (s.size : Int))
    all_goals
      go_enter Tryd.func6, Tryd.ntmps6
      go_wp2_with fail
      refine (awake_any _ HG.out).mono ?_
      rintro e w1 ⟨rfl, hb⟩
      have HB1 := Lib.hid hb
      clear hb
      go_wp2_with fail
      refine (awake_any _ (HG.out.below HB1.out HG.out.lt)).mono ?_
      rintro e w2 ⟨rfl, hb⟩
      have HB2 := Lib.hid (HB1.out.trans (hb.mono HB1.out.size))
      clear hb
      go_wp2
      go_ret
      exact ⟨rfl, HB2.out⟩

theorem words_law (s t : ByteArray) (w : World) (hs : s.size ≤ maxLen) (ht : t.size ≤ maxLen) (h : Signs w) :
    Calls Tryd.prog 6 #[.string s, .string t] w fun e w' => e = .returned (.bool true) ∧ Below w.heap.size w w' := by
  by_cases h1 : s.size ≤ 255
  · by_cases h2 : t.size ≤ 255
    · exact sipwords_walk s t w h1 h2 h
    · exact sipwords_long s t w hs ht (.inr (by omega)) h
  · exact sipwords_long s t w hs ht (.inl (by omega)) h
end Go.Proofs.YtplbmebhpjpnfaaDoor
