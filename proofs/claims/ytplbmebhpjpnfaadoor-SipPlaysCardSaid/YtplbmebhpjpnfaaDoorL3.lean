/-
  The contracts of the reference's Words and Sum, and the walk of the law SipPlays.
-/
import Derived.Test.YtplbmebhpjpnfaaDoorL4
import Derived.Test.YtplbmebhpjpnfaaDoorL6b
import Derived.Test.YtplbmebhpjpnfaaDoorL5
namespace Go.Proofs.YtplbmebhpjpnfaaDoor
open Go.RowKit
open M
attribute [local go_sem] un_add un_sub un_xor un_or un_nonneg un_beq un_bne

def wordsL (s : List UInt8) (j : Nat) : List Value := (List.range j).map fun i => Value.int .u64 (un (wordAt s i))
theorem wordsL_succ (s : List UInt8) (j : Nat) : wordsL s (j + 1) = wordsL s j ++ [.int .u64 (un (wordAt s j))] := by
  simp [wordsL, List.range_succ]
theorem wordsL_length (s : List UInt8) (j : Nat) : (wordsL s j).length = j := by simp [wordsL]

theorem tail_word (s : ByteArray) (i : Nat) (h : 8 * i + 8 ≤ s.size) : tail8 s (8 * i) 0 = wordAt (bl s) i := by
  have hs := bl_length s
  unfold tail8 wordAt
  rw [if_pos (by omega), Nat.add_zero]
  rfl
theorem tail_last (s : ByteArray) : IntKind.u64.wrap (un (tail8 s (8 * (s.size / 8)) 0) + IntKind.u64.wrap (((s.size % 256 : Nat) : Int) * 72057594037927936)) = un (wordAt (bl s) (s.size / 8)) := by
  have hs := bl_length s
  have e : tail8 s (8 * (s.size / 8)) 0 = word ((bl s).drop (8 * (s.size / 8))) := by
    unfold tail8
    have : ((s.data.toList.drop (8 * (s.size / 8) + 0)).take (8 - 0)) = (bl s).drop (8 * (s.size / 8)) := by
      rw [List.take_of_length_le]
      · rfl
      · show ((bl s).drop _).length ≤ 8
        rw [List.length_drop]; omega
    rw [this]
  unfold wordAt
  rw [if_neg (by omega), e, hs, last_add _ _ (by rw [List.length_drop]; omega)]

theorem tail_last' (s : ByteArray) : IntKind.u64.wrap (un (tail8 s (8 * (s.size / 8)) 0) + (s.size : Int) % 256 * 72057594037927936) = un (wordAt (bl s) (s.size / 8)) := by
  rw [← tail_last s]
  have := un_bd (tail8 s (8 * (s.size / 8)) 0)
  simp only [IntKind.wrap_u64]
  omega
theorem own_cells {w : World} {base n : Nat} {e : TypeId} {v : Value} {xs : List Value} (h : w.ownsRow base e 1 v n xs) (hn : 0 < n) :
    ∃ g cap, v = .slice (some ⟨g, 0, none⟩) n cap ∧ base ≤ g ∧ g < w.heap.size ∧ ∀ i, i < n → w.cell? ⟨g, i, none⟩ = xs[i]? := by
  rcases h.2 with ⟨_, h0⟩ | ⟨g, cap, cur, hv, hb, hg, _, _, hsz, htk⟩
  · omega
  · refine ⟨g, cap, hv, hb, Row.lt hg, fun i hi => ?_⟩
    rw [cell_of_row _ _ _ _ _ _ hg, ← htk, List.getElem?_take, if_pos (by omega), Array.getElem?_toList]

/-- What the reference's Words leaves. -/
def GivesWords (s : ByteArray) (w : World) (e : Ending) (w' : World) : Prop :=
  ∃ g cap, e = .returned (.slice (some ⟨g, 0, none⟩) (s.size / 8 + 1) cap) ∧ w.heap.size ≤ g ∧ g < w'.heap.size ∧ (∀ i, i < s.size / 8 + 1 → w'.cell? ⟨g, i, none⟩ = some (.int .u64 (un (wordAt (bl s) i)))) ∧ Below w.heap.size w w'

set_option maxHeartbeats 1000000 in
theorem refWords_any (s : ByteArray) (w : World) (hs : s.size ≤ 1000000) :
    Calls Tryd.prog 11 #[.string s] w (GivesWords s w) := by
  obtain ⟨i0, hi0, hz0, hz1, hz2⟩ := info_parts word_info
  have HI := Lib.hid (And.intro hi0 (And.intro hz0 (And.intro hz1 hz2)))
  have hm : s.size ≤ maxLen := by unfold maxLen; omega
  clear hi0 hz0 hz1 hz2
  go_enter Tryd.func11, Tryd.ntmps11
  go_wp2
  go_loopw [3, 5] (fun v i wr => ∃ j : Nat, j ≤ s.size / 8 ∧ i = .int .i64 j ∧ wr.ownsRow w.heap.size 27 1 v j (wordsL (bl s) j) ∧ Below w.heap.size w wr) (fun _ i _ => s.size / 8 - (intOf i).toNat)
  case atStart => exact ⟨0, Nat.zero_le _, rfl, World.ownsRow_nil _ _ _ _, Below.refl _ _⟩
  case round =>
    obtain ⟨j, hj, rfl, hown, hb⟩ := hrel
    have HO := Lib.hid hown
    have HB := Lib.hid hb
    clear hown hb
    by_cases hlt : j < s.size / 8
    · have HT := Lib.hid (tail_word s j (by omega))
      go_wp2_with fail
      rw [show ((8 : Int) * (j : Int)) = ((8 * j : Nat) : Int) by omega]
      refine (word_any s (8 * j) _ hm (by unfold maxLen; omega)).mono ?_
      rintro e w' ⟨rfl, rfl⟩
      rw [HT.out]
      go_wp2_with (at_builtin; refine wpList_append_own _ rfl _ _ 25 rfl w.heap.size 27 i0 (.int .u64 0) 1 8 Tryd.underlying25 HI.out.1 HI.out.2.1 HI.out.2.2.1 HI.out.2.2.2 rfl (by decide) _ _ _ rfl (HO.out.alloc _) ⟨wr.heap.size, 0, none⟩ 1 1 [.int .u64 (un (wordAt (bl s) j))] rfl rfl (one_new _ _ rfl _ _) one_cell ?c3 ?c4 ?c5 ?_)
      case c3 => unfold maxLen; omega
      case c4 => omega
      case c5 => have := HB.out.size; simp; omega
      intro v' w2 hown' hgrow _
      have R : Hid (w2.ownsRow w.heap.size 27 1 v' (j + 1) (wordsL (bl s) (j + 1)) ∧ Below w.heap.size w w2) :=
        ⟨by rw [wordsL_succ]; exact hown', (HB.out.alloc HB.out.size _).grown hgrow (by have := HB.out.size; simp; omega) (fun k hk => own_ge HO.out k hk)⟩
      clear hown' hgrow HO HB
      go_wp2
      go_roundw
      case rel => exact ⟨j + 1, by omega, by go_num, R.out⟩
      case measure => simp [intOf]; omega
    · obtain rfl : j = s.size / 8 := by omega
      have ht := tail_last' s
      go_wp2_with fail
      rw [show ((8 : Int) * ((s.size : Int) / 8)) = ((8 * (s.size / 8) : Nat) : Int) by omega]
      refine (word_any s (8 * (s.size / 8)) _ hm (by unfold maxLen; omega)).mono ?_
      rintro e w' ⟨rfl, rfl⟩
      go_wp2_with (at_builtin; refine wpList_append_own _ rfl _ _ 25 rfl w.heap.size 27 i0 (.int .u64 0) 1 8 Tryd.underlying25 HI.out.1 HI.out.2.1 HI.out.2.2.1 HI.out.2.2.2 rfl (by decide) _ _ _ rfl (HO.out.alloc _) ⟨wr.heap.size, 0, none⟩ 1 1 [.int .u64 (un (wordAt (bl s) (s.size / 8)))] rfl rfl (one_new _ _ rfl _ _) one_cell ?c3 ?c4 ?c5 ?_)
      case c3 => unfold maxLen; omega
      case c4 => omega
      case c5 => have := HB.out.size; simp; omega
      intro v' w2 hown' hgrow _
      have R : Hid (w2.ownsRow w.heap.size 27 1 v' (s.size / 8 + 1) (wordsL (bl s) (s.size / 8 + 1)) ∧ Below w.heap.size w w2) :=
        ⟨by rw [wordsL_succ]; exact hown', (HB.out.alloc HB.out.size _).grown hgrow (by have := HB.out.size; simp; omega) (fun k hk => own_ge HO.out k hk)⟩
      clear hown' hgrow HO HB ht
      go_wp2
      go_ret
      obtain ⟨g, cap, hv, hb, hlt2, hc⟩ := own_cells R.out.1 (by omega)
      refine ⟨g, cap, ?_, hb, hlt2, fun i hi => ?_, R.out.2⟩
      · show Ending.returned v' = _
        rw [hv]
      · rw [hc i hi]; simp [wordsL, hi]
end Go.Proofs.YtplbmebhpjpnfaaDoor
