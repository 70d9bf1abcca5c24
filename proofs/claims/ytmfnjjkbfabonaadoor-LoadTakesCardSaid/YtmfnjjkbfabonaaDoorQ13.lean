/-
  Contracts and plain facts that the laws share, part 13; each piece is headed by what it holds and its conditions.
-/
import Derived.Test.YtmfnjjkbfabonaaDoorQ12
import Derived.Test.YtmfnjjkbfabonaaDoorQ02
import Derived.Test.YtmfnjjkbfabonaaDoorQ05
import Derived.RegionTactic

/- The contract of layer 7's Take. Conditions: votes are 127 numbers of int; a key has 16 bytes; the signs lie as the program's text lays them. -/
namespace Go.Proofs.YtmfnjjkbfabonaaDoor
open Go.RowKit
open M
attribute [local go_sem] un_beq un_bne

/-- What Take answers of a key and votes. -/
def Tk (k : List UInt8) (l : List Int) (a b : Int) : Prop := ∃ y n, Am (dw l) (dh l) y n ∧ ((n = 0 ∧ a = rdv k y ∧ b = rde k y) ∨ (n = 5 ∧ a = 0 ∧ b = 5))
set_option maxRecDepth 100000 in
set_option maxHeartbeats 1000000 in
theorem take_votes (k : List UInt8) (l : List Int) (w : World) (hk : k.length = 16) (hl : l.length = 127) (h : Signs w) :
    Calls Tryd.prog 12 #[.agg (byteCells k), .agg (intCells l)] w fun e w' => ∃ a b, e = .returned (.tuple #[.int .i64 a, .int .i64 b]) ∧ Tk k l a b ∧ Below w.heap.size w w' := by
  have hb0 : Below w.heap.size w ((w.alloc (.cells (byteCells k) 23)).alloc (.cells (intCells l) 30)) := ((Below.refl _ _).alloc (Nat.le_refl _) _).alloc (by simp) _
  have HB := Lib.hid hb0
  have HG := Lib.hid (h.below hb0 h.lt)
  have HK : Hid (Row ((w.alloc (.cells (byteCells k) 23)).alloc (.cells (intCells l) 30)) w.heap.size 23 (byteCells k)) := heap_alloc2_old _ _ _
  have HV : Hid (Row ((w.alloc (.cells (byteCells k) 23)).alloc (.cells (intCells l) 30)) (w.heap.size + 1) 30 (intCells l)) := heap_alloc2_new _ _ _
  have HI := Lib.hid (key_info k hk)
  have HVS := Lib.hid fun _ : Unit => votes_size l hl
  have HD := Lib.hid fun W => decide_any l W hl
  have HRD := Lib.hid fun y W (hs : Signs W) => read_any k y W hk hs
  have HTK := Lib.hid fun a b (hq : ∃ y n, Am (dw l) (dh l) y n ∧ ((n = 0 ∧ a = rdv k y ∧ b = rde k y) ∨ (n = 5 ∧ a = 0 ∧ b = 5))) => (show Tk k l a b from hq)
  have HLA : Hid ((dw l).length = 127) := by unfold Hid; rw [dw_length, hl]
  have HLB : Hid ((dh l).length = 127) := by unfold Hid; rw [dh_length, hl]
  generalize dw l = u at *
  generalize dh l = v at *
  have HAM := Lib.hid fun W => amend_any u v W HLA.out HLB.out
  clear h hb0 hl
  go_enter Tryd.func12, Tryd.ntmps12
  go_wp2_with (refine wpList_load_row rfl 30 (.tmp 3) rfl (w.heap.size + 1) rfl 30 (intCells l) (0, 0) _ HV.out Tryd.underlying30 rfl (HVS.out ()) ?_)
  refine (HD.out _).mono ?_
  rintro e w1 ⟨rfl, hb⟩
  have HB1 := Lib.hid (HB.out.trans (hb.mono HB.out.size))
  have HG1 := Lib.hid (HG.out.below hb HG.out.lt)
  have HK1 := Lib.hid (HK.out.box hb)
  clear hb HB HG HK HV HD
  go_wp2_with fail
  refine (HAM.out _).mono ?_
  rintro e w2 ⟨y, n, rfl, ham, hb⟩
  have HB2 := Lib.hid (HB1.out.trans (hb.mono HB1.out.size))
  have HG2 := Lib.hid (HG1.out.below hb HG1.out.lt)
  have HK2 := Lib.hid (HK1.out.box hb)
  have HA := Lib.hid ham
  clear ham hb HB1 HG1 HK1 HAM
  have hn : n = 0 ∨ n = 5 := by
    rcases HA.out with h | h
    · exact Or.inl h.1
    · exact Or.inr h.1
  rcases hn with rfl | rfl
  · go_wp2_with (refine wpList_load_row rfl 23 (.tmp 2) rfl w.heap.size rfl 23 (byteCells k) (0, 0) _ HK2.out Tryd.underlying23 rfl HI.out ?_)
    refine (HRD.out y _ HG2.out).mono ?_
    rintro e w3 ⟨rfl, hb⟩
    have HB3 := Lib.hid (HB2.out.trans (hb.mono HB2.out.size))
    clear hb HB2 HG2 HK2 HRD
    have HTT := Lib.hid (HTK.out (rdv k y) (rde k y) ⟨y, 0, HA.out, Or.inl ⟨rfl, rfl, rfl⟩⟩)
    clear HA HTK
    generalize rdv k y = a at *
    generalize rde k y = b at *
    go_wp2
    go_ret2
    exact ⟨_, _, rfl, HTT.out, HB3.out⟩
  · go_wp2
    go_ret2
    exact ⟨_, _, rfl, HTK.out 0 5 ⟨y, 5, HA.out, Or.inr ⟨rfl, rfl, rfl⟩⟩, HB2.out⟩
end Go.Proofs.YtmfnjjkbfabonaaDoor

/- The contracts of the reference's Round, Words and Sum of layer 1. Conditions: texts of 1000000 bytes at most. -/
namespace Go.Proofs.YtmfnjjkbfabonaaDoor
open Go.RowKit
open M
attribute [local go_sem] un_add un_sub un_xor un_or un_nonneg un_beq un_bne

section
attribute [local go_sem] cells4
theorem refRound_any (v : V4) (w : World) :
    Calls Tryd.prog 39 #[.agg (cells4 v)] w fun e w' => e = .returned (.agg (cells4 v.round)) ∧ Below w.heap.size w w' := by
  go_enter Tryd.func39, Tryd.ntmps39
  go_wp2_with fail
  go_quiet (fail)
  go_wp2_with (go_at_call 60; refine (left_int _ _ _ (by omega) (by omega)).mono ?_; rintro e w' ⟨rfl, rfl⟩)
  refine bodyPost_ret (v := .agg (cells4 v.round)) (by simp [results, Tryd.results39, go_sem]; exact ⟨rfl, rfl, rfl, rfl⟩) rfl ⟨rfl, ?_⟩
  exact below_set4 (Below.quiet (((Below.refl _ _).alloc (Nat.le_refl _) _).alloc (by simp) _) _) (by omega) _ _ _ _
end
def wordsL (s : List UInt8) (j : Nat) : List Value := (List.range j).map fun i => Value.int .u64 (un (wordAt s i))
theorem wordsL_succ (s : List UInt8) (j : Nat) : wordsL s (j + 1) = wordsL s j ++ [.int .u64 (un (wordAt s j))] := by
  simp [wordsL, List.range_succ]
theorem wordsL_length (s : List UInt8) (j : Nat) : (wordsL s j).length = j := by simp [wordsL]
theorem tail_word (s : ByteArray) (i : Nat) (h : 8 * i + 8 ≤ s.size) : tail8 s (8 * i) 0 = wordAt (bl s) i := by
  have hs := bl_length s
  unfold tail8 wordAt
  rw [if_pos (by omega), Nat.add_zero]
  rfl
theorem tail_last (s : ByteArray) : IntKind.u64.wrap (un (tail8 s (8 * (s.size / 8)) 0) + IntKind.u64.wrap (((s.size % 256 : Nat) : Int) * 72057594037927936)) = un (wordAt (bl s) (s.size / 8)) := by
  have hs := bl_length s
  have e : tail8 s (8 * (s.size / 8)) 0 = word ((bl s).drop (8 * (s.size / 8))) := by
    unfold tail8
    have : ((s.data.toList.drop (8 * (s.size / 8) + 0)).take (8 - 0)) = (bl s).drop (8 * (s.size / 8)) := by
      rw [List.take_of_length_le]
      · rfl
      · show ((bl s).drop _).length ≤ 8
        rw [List.length_drop]; omega
    rw [this]
  unfold wordAt
  rw [if_neg (by omega), e, hs, last_add _ _ (by rw [List.length_drop]; omega)]
theorem tail_last' (s : ByteArray) : IntKind.u64.wrap (un (tail8 s (8 * (s.size / 8)) 0) + (s.size : Int) % 256 * 72057594037927936) = un (wordAt (bl s) (s.size / 8)) := by
  rw [← tail_last s]
  have := un_bd (tail8 s (8 * (s.size / 8)) 0)
  simp only [IntKind.wrap_u64]
  omega
/-- What the reference's Words leaves. -/
def GivesWords (s : ByteArray) (w : World) (e : Ending) (w' : World) : Prop :=
  ∃ g cap, e = .returned (.slice (some ⟨g, 0, none⟩) (s.size / 8 + 1) cap) ∧ w.heap.size ≤ g ∧ g < w'.heap.size ∧ (∀ i, i < s.size / 8 + 1 → w'.cell? ⟨g, i, none⟩ = some (.int .u64 (un (wordAt (bl s) i)))) ∧ Below w.heap.size w w'
set_option maxHeartbeats 1000000 in
theorem refWords_any (s : ByteArray) (w : World) (hs : s.size ≤ 1000000) :
    Calls Tryd.prog 38 #[.string s] w (GivesWords s w) := by
  obtain ⟨i0, hi0, hz0, hz1, hz2⟩ := info_parts word_info
  have HI := Lib.hid (And.intro hi0 (And.intro hz0 (And.intro hz1 hz2)))
  have hm : s.size ≤ maxLen := by unfold maxLen; omega
  clear hi0 hz0 hz1 hz2
  go_enter Tryd.func38, Tryd.ntmps38
  go_wp2
  go_loopw [3, 5] (fun v i wr => ∃ j : Nat, j ≤ s.size / 8 ∧ i = .int .i64 j ∧ wr.ownsRow w.heap.size 36 1 v j (wordsL (bl s) j) ∧ Below w.heap.size w wr) (fun _ i _ => s.size / 8 - (intOf i).toNat)
  case atStart => exact ⟨0, Nat.zero_le _, rfl, World.ownsRow_nil _ _ _ _, Below.refl _ _⟩
  case round =>
    obtain ⟨j, hj, rfl, hown, hb⟩ := hrel
    have HO := Lib.hid hown
    have HB := Lib.hid hb
    clear hown hb
    by_cases hlt : j < s.size / 8
    · have HT := Lib.hid (tail_word s j (by omega))
      go_wp2_with fail
      rw [show ((8 : Int) * (j : Int)) = ((8 * j : Nat) : Int) by omega]
      refine (word_any s (8 * j) _ hm (by unfold maxLen; omega)).mono ?_
      rintro e w' ⟨rfl, rfl⟩
      rw [HT.out]
      go_wp2_with (at_builtin; refine wpList_append_own _ rfl _ _ 71 rfl w.heap.size 36 i0 (.int .u64 0) 1 8 Tryd.underlying71 HI.out.1 HI.out.2.1 HI.out.2.2.1 HI.out.2.2.2 rfl (by decide) _ _ _ rfl (HO.out.alloc _) ⟨wr.heap.size, 0, none⟩ 1 1 [.int .u64 (un (wordAt (bl s) j))] rfl rfl (one_new _ _ rfl _ _) one_cell ?c3 ?c4 ?c5 ?_)
      case c3 => unfold maxLen; omega
      case c4 => omega
      case c5 => have := HB.out.size; simp; omega
      intro v' w2 hown' hgrow _
      have R : Hid (w2.ownsRow w.heap.size 36 1 v' (j + 1) (wordsL (bl s) (j + 1)) ∧ Below w.heap.size w w2) :=
        ⟨by rw [wordsL_succ]; exact hown', (HB.out.alloc HB.out.size _).grown hgrow (by have := HB.out.size; simp; omega) (fun k hk => own_ge HO.out k hk)⟩
      clear hown' hgrow HO HB
      go_wp2
      go_roundw
      case rel => exact ⟨j + 1, by omega, by go_num, R.out⟩
      case measure => simp [intOf]; omega
    · obtain rfl : j = s.size / 8 := by omega
      have ht := tail_last' s
      go_wp2_with fail
      rw [show ((8 : Int) * ((s.size : Int) / 8)) = ((8 * (s.size / 8) : Nat) : Int) by omega]
      refine (word_any s (8 * (s.size / 8)) _ hm (by unfold maxLen; omega)).mono ?_
      rintro e w' ⟨rfl, rfl⟩
      go_wp2_with (at_builtin; refine wpList_append_own _ rfl _ _ 71 rfl w.heap.size 36 i0 (.int .u64 0) 1 8 Tryd.underlying71 HI.out.1 HI.out.2.1 HI.out.2.2.1 HI.out.2.2.2 rfl (by decide) _ _ _ rfl (HO.out.alloc _) ⟨wr.heap.size, 0, none⟩ 1 1 [.int .u64 (un (wordAt (bl s) (s.size / 8)))] rfl rfl (one_new _ _ rfl _ _) one_cell ?c3 ?c4 ?c5 ?_)
      case c3 => unfold maxLen; omega
      case c4 => omega
      case c5 => have := HB.out.size; simp; omega
      intro v' w2 hown' hgrow _
      have R : Hid (w2.ownsRow w.heap.size 36 1 v' (s.size / 8 + 1) (wordsL (bl s) (s.size / 8 + 1)) ∧ Below w.heap.size w w2) :=
        ⟨by rw [wordsL_succ]; exact hown', (HB.out.alloc HB.out.size _).grown hgrow (by have := HB.out.size; simp; omega) (fun k hk => own_ge HO.out k hk)⟩
      clear hown' hgrow HO HB ht
      go_wp2
      go_ret
      obtain ⟨g, cap, hv, hb, hlt2, hc⟩ := own_cells R.out.1 (by omega)
      refine ⟨g, cap, ?_, hb, hlt2, fun i hi => ?_, R.out.2⟩
      · show Ending.returned v' = _
        rw [hv]
      · rw [hc i hi]; simp [wordsL, hi]
theorem xor_c0 (x : BitVec 64) : bits .xor .u64 (un x) 8317987319222330741 = un (x ^^^ 8317987319222330741#64) := by
  rw [← un_xor, un_lit 8317987319222330741 (by decide)]; rfl
theorem xor_c1 (x : BitVec 64) : bits .xor .u64 (un x) 7237128888997146477 = un (x ^^^ 7237128888997146477#64) := by
  rw [← un_xor, un_lit 7237128888997146477 (by decide)]; rfl
theorem xor_c2 (x : BitVec 64) : bits .xor .u64 (un x) 7816392313619706465 = un (x ^^^ 7816392313619706465#64) := by
  rw [← un_xor, un_lit 7816392313619706465 (by decide)]; rfl
theorem xor_c3 (x : BitVec 64) : bits .xor .u64 (un x) 8387220255154660723 = un (x ^^^ 8387220255154660723#64) := by
  rw [← un_xor, un_lit 8387220255154660723 (by decide)]; rfl
attribute [local go_sem] un_xor_255 xor_c0 xor_c1 xor_c2 xor_c3 cells4
theorem key_w0 (k : List UInt8) : tail8 (ofB k) 0 0 = word (k.take 8) := rfl
theorem key_w8 (k : List UInt8) (hk : k.length = 16) : tail8 (ofB k) 8 0 = word (k.drop 8) := by
  unfold tail8
  have : ((ofB k).data.toList.drop (8 + 0)).take (8 - 0) = k.drop 8 := by
    show (k.drop 8).take 8 = k.drop 8
    exact List.take_of_length_le (by rw [List.length_drop]; omega)
  rw [this]
set_option maxHeartbeats 1000000 in
theorem refSum_any (k : List UInt8) (s : ByteArray) (w : World) (hk : k.length = 16) (hs : s.size ≤ 1000000) :
    Calls Tryd.prog 24 #[.agg (byteCells k), .string s] w fun e w' => e = .returned (.int .u64 (un (sum k (bl s)))) ∧ Below w.heap.size w w' := by
  have kc := conv_row (w.alloc (.cells (byteCells k) 23)) w.heap.size k hk (heap_alloc_new _ _)
  have hz : (ofB k).size ≤ maxLen := by rw [ofB_size]; unfold maxLen; omega
  obtain ⟨v0, hv0⟩ : ∃ v, V4.start (word (k.take 8)) (word (k.drop 8)) = v := ⟨_, rfl⟩
  have H8 := Lib.hid (key_w8 k hk)
  have HV := Lib.hid hv0
  clear hv0
  go_enter Tryd.func24, Tryd.ntmps24
  go_wp2_with fail
  refine (word_any (ofB k) 0 _ hz (by unfold maxLen; omega)).mono ?_
  rintro e w' ⟨rfl, rfl⟩
  rw [key_w0]
  go_wp2_with fail
  refine (word_any (ofB k) 8 _ hz (by unfold maxLen; omega)).mono ?_
  rintro e w' ⟨rfl, rfl⟩
  rw [H8.out]
  go_wp2_with fail
  refine (refWords_any s _ hs).mono ?_
  rintro e w2 ⟨g, cap, rfl, hgl, hgt, hc, hb⟩
  have HW : Hid (Row w2 (w.heap.size + 1) 70 (cells4 v0) ∧ Below w.heap.size w w2 ∧ w.heap.size + 1 < g ∧ g < w2.heap.size) := by
    rw [← HV.out]
    exact ⟨Row.below (heap_alloc2_new _ _ _) hb (by simp), (((Below.refl _ _).alloc (Nat.le_refl _) _).alloc (by simp) _).trans (hb.mono (by simp; omega)), by simp at hgl; omega, hgt⟩
  have HC := Lib.hid hc
  clear hgl hgt hc hb kc hz H8
  go_wp2_with fail
  go_loopw [10] (fun i wr => ∃ j : Nat, j ≤ s.size / 8 + 1 ∧ i = .int .i64 j ∧ Row wr (w.heap.size + 1) 70 (cells4 (upto k (bl s) j)) ∧ w2.grownBy wr (some (w.heap.size + 1))) (fun i _ => s.size / 8 + 1 - (intOf i).toNat)
  case atStart => exact ⟨0, Nat.zero_le _, rfl, by rw [upto_zero, HV.out]; exact HW.out.1, World.grownBy.refl _ _⟩
  case round =>
    obtain ⟨j, hj, rfl, hr, hg⟩ := hrel
    by_cases hlt : j < s.size / 8 + 1
    · have hu := upto_succ k (bl s) j (by rw [bl_length]; exact hlt)
      obtain ⟨v, hv⟩ : ∃ v, upto k (bl s) j = v := ⟨_, rfl⟩
      rw [hv] at hr hu
      have HU := Lib.hid hu
      have HR := Lib.hid hr
      have HGB := Lib.hid hg
      have c3 := hr.c3
      have f3 := hr.free 3
      have cw : wr.cell? ⟨g, j, none⟩ = some (.int .u64 (un (wordAt (bl s) j))) := (gb_cell hg (p := ⟨g, j, none⟩) HW.out.2.2.2 (by have := HW.out.2.2.1; show g ≠ _; omega)).trans (HC.out j hlt)
      clear hu hv hr hg
      go_wp2_with fail
      go_region
      have h8 : Row (wr.setCell ⟨w.heap.size + 1, 3, none⟩ (.int .u64 (un (v.d ^^^ wordAt (bl s) j)))).drew (w.heap.size + 1) 70 (cells4 ⟨v.a, v.b, v.c, v.d ^^^ wordAt (bl s) j⟩) ∧
          w2.grownBy (wr.setCell ⟨w.heap.size + 1, 3, none⟩ (.int .u64 (un (v.d ^^^ wordAt (bl s) j)))).drew (some (w.heap.size + 1)) :=
        ⟨HR.out.set 3 _, gb_only HGB.out (((Only.refl _ wr).setCell 3 none _).drew)⟩
      generalize (wr.setCell ⟨w.heap.size + 1, 3, none⟩ (.int .u64 (un (v.d ^^^ wordAt (bl s) j)))).drew = W8 at *
      obtain ⟨hr8, hg8⟩ := h8
      obtain ⟨v1, hv1⟩ : ∃ v1, V4.mk v.a v.b v.c (v.d ^^^ wordAt (bl s) j) = v1 := ⟨_, rfl⟩
      have hu1 : v.take (wordAt (bl s) j) = ⟨v1.round.round.a ^^^ wordAt (bl s) j, v1.round.round.b, v1.round.round.c, v1.round.round.d⟩ := by rw [← hv1]; rfl
      rw [hv1] at hr8
      have HU1 := Lib.hid hu1
      have HR8 := Lib.hid hr8
      have HG8 := Lib.hid hg8
      have a0 := hr8.c0
      have a1 := hr8.c1
      have a2 := hr8.c2
      have a3 := hr8.c3
      clear hv1 hu1 hr8 hg8 c3 f3 cw HR HGB
      go_wp2_with fail
      refine (refRound_any v1 W8).mono ?_
      rintro e W9 ⟨rfl, hb9⟩
      have HB9 := Lib.hid hb9
      clear hb9
      go_wp2_with fail
      refine (refRound_any v1.round W9).mono ?_
      rintro e W10 ⟨rfl, hb10⟩
      have hr10 := (HR8.out.below HB9.out HR8.out.lt).below hb10 (Nat.lt_of_lt_of_le HR8.out.lt HB9.out.size)
      have HG10 := Lib.hid (gb_below (gb_below HG8.out HB9.out) hb10)
      have HR10 := Lib.hid hr10
      have d0 := hr10.c0
      have d1 := hr10.c1
      have d2 := hr10.c2
      have d3 := hr10.c3
      have df : ∀ i, W10.frozen? ⟨w.heap.size + 1, i, none⟩ = false := fun i => hr10.free i
      clear hb10 hr10 a0 a1 a2 a3
      go_wp2_with fail
      have h11 := And.intro (HR10.out.set4 v1.round.round) (gb_only HG10.out (only_set4 W10 (w.heap.size + 1) (.int .u64 (un v1.round.round.a)) (.int .u64 (un v1.round.round.b)) (.int .u64 (un v1.round.round.c)) (.int .u64 (un v1.round.round.d))))
      clear d0 d1 d2 d3 df HR10 HG10 HR8 HG8 HB9
      generalize (((W10.setCell ⟨w.heap.size + 1, 0, none⟩ (.int .u64 (un v1.round.round.a))).setCell ⟨w.heap.size + 1, 1, none⟩ (.int .u64 (un v1.round.round.b))).setCell ⟨w.heap.size + 1, 2, none⟩ (.int .u64 (un v1.round.round.c))).setCell ⟨w.heap.size + 1, 3, none⟩ (.int .u64 (un v1.round.round.d)) = W11 at *
      obtain ⟨hr11, hg11⟩ := h11
      have HR11 := Lib.hid hr11
      have HG11 := Lib.hid hg11
      have b0 := hr11.c0
      have bf := hr11.free 0
      have cw : W11.cell? ⟨g, j, none⟩ = some (.int .u64 (un (wordAt (bl s) j))) := (gb_cell hg11 (p := ⟨g, j, none⟩) HW.out.2.2.2 (by have := HW.out.2.2.1; show g ≠ _; omega)).trans (HC.out j hlt)
      clear hr11 hg11
      go_region
      go_wp2
      go_roundw
      case rel => exact ⟨j + 1, by omega, by go_num, by rw [HU.out, HU1.out]; exact HR11.out.set 0 _, gb_only HG11.out (((Only.refl _ W11).setCell 0 none _).drew)⟩
      case measure => simp [intOf]; omega
    · obtain rfl : j = s.size / 8 + 1 := by omega
      have hd := upto_done k (bl s) (s.size / 8 + 1) (by rw [bl_length])
      obtain ⟨v, hv⟩ : ∃ v, upto k (bl s) (s.size / 8 + 1) = v := ⟨_, rfl⟩
      rw [hv] at hr hd
      obtain ⟨v1, hv1⟩ : ∃ v1, V4.mk v.a v.b (v.c ^^^ 255#64) v.d = v1 := ⟨_, rfl⟩
      have hdd : v.done = v1.round.round.round.round.a ^^^ v1.round.round.round.round.b ^^^ v1.round.round.round.round.c ^^^ v1.round.round.round.round.d := by rw [← hv1]; rfl
      rw [hdd] at hd
      have HD := Lib.hid hd
      have HR := Lib.hid hr
      have HGB := Lib.hid hg
      have c0 := hr.c0
      have c1 := hr.c1
      have c2 := hr.c2
      have c3 := hr.c3
      have f2 := hr.free 2
      clear hd hv hr hg hdd
      go_wp2_with fail
      have h8 : Row (wr.setCell ⟨w.heap.size + 1, 2, none⟩ (.int .u64 (un (v.c ^^^ 255#64)))) (w.heap.size + 1) 70 (cells4 v1) ∧ w2.grownBy (wr.setCell ⟨w.heap.size + 1, 2, none⟩ (.int .u64 (un (v.c ^^^ 255#64)))) (some (w.heap.size + 1)) :=
        ⟨by rw [← hv1]; exact HR.out.set 2 _, gb_only HGB.out ((Only.refl _ wr).setCell 2 none _)⟩
      obtain ⟨hr8, hg8⟩ := h8
      have HV1 := Lib.hid hv1
      have HR8 := Lib.hid hr8
      have HG8 := Lib.hid hg8
      generalize wr.setCell ⟨w.heap.size + 1, 2, none⟩ (.int .u64 (un (v.c ^^^ 255#64))) = W8 at *
      clear hr8 hg8 hv1 c0 c1 c2 c3 f2
      refine (refRound_any ⟨v.a, v.b, v.c ^^^ 255#64, v.d⟩ W8).mono ?_
      rintro e W9 ⟨rfl, hb9⟩
      rw [HV1.out]
      go_wp2_with fail
      refine (refRound_any v1.round W9).mono ?_
      rintro e W10 ⟨rfl, hb10⟩
      have HB10 := Lib.hid (hb9.trans (hb10.mono hb9.size))
      clear hb9 hb10
      go_wp2_with fail
      refine (refRound_any v1.round.round W10).mono ?_
      rintro e W11 ⟨rfl, hb11⟩
      go_wp2_with fail
      refine (refRound_any v1.round.round.round W11).mono ?_
      rintro e W12 ⟨rfl, hb12⟩
      have hb := HB10.out.trans ((hb11.trans (hb12.mono hb11.size)).mono HB10.out.size)
      have hr12 := HR8.out.below hb HR8.out.lt
      have HG12 := Lib.hid (gb_below HG8.out hb)
      have d0 := hr12.c0
      have d1 := hr12.c1
      have d2 := hr12.c2
      have d3 := hr12.c3
      have df : ∀ i, W12.frozen? ⟨w.heap.size + 1, i, none⟩ = false := fun i => hr12.free i
      clear hb11 hb12 hb hr12
      go_wp2
      go_ret
      refine ⟨ret_eq (by rw [← HD.out]), ?_⟩
      have hg12 := gb_only HG12.out (only_set4 W12 (w.heap.size + 1) (.int .u64 (un v1.round.round.round.round.a)) (.int .u64 (un v1.round.round.round.round.b)) (.int .u64 (un v1.round.round.round.round.c)) (.int .u64 (un v1.round.round.round.round.d)))
      exact HW.out.2.1.grown hg12 HW.out.2.1.size (fun i hi => by injection hi with hi; omega)
end Go.Proofs.YtmfnjjkbfabonaaDoor

/- The contract of layer 5's reference Times. Conditions: elements, no more than 100. -/
namespace Go.Proofs.YtmfnjjkbfabonaaDoor
open Go.RowKit
open M

set_option maxRecDepth 100000 in
set_option maxHeartbeats 1000000 in
theorem times_ref (p : List Nat) (a b cap : Nat) (w : World) (hp : Els p) (ha : a < 128) (hlen : p.length ≤ 1000) (h : ∀ i, i < p.length → w.cell? ⟨b, i, none⟩ = some (.int .i64 (p.getD i 0 : Nat))) (hbw : b < w.heap.size) :
    Calls Tryd.prog 48 #[.slice (some ⟨b, 0, none⟩) p.length cap, .int .i64 a] w fun e w' =>
      e = .returned (.slice (some ⟨w.heap.size, 0, none⟩) (p.length + 1) (p.length + 1)) ∧ Row w' w.heap.size 3 (natCells (tm p a)) ∧ Below w.heap.size w w' := by
  obtain ⟨n, hn⟩ : ∃ n, p.length = n := ⟨_, rfl⟩
  have hmk : ∀ w, (Instr.makeSlice 57 (.int .i64 ((n : Int) + 1)) (.int .i64 ((n : Int) + 1))).run Tryd.prog w = .ok (.slice (some ⟨w.heap.size, 0, none⟩) (n + 1) (n + 1)) (w.alloc (.cells (madeCells #[.int .i64 0] (n + 1)) 3)) := fun w => by
    have := run_make_row' (P := Tryd.prog) 57 3 (.int .i64 0) 8 Tryd.underlying57 int_info rfl .i64 .i64 (n + 1) (by omega) (by omega) w
    rw [show ((n + 1 : Nat) : Int) = (n : Int) + 1 by omega] at this
    exact this
  have HZ := Lib.hid ((made_nats (n + 1)).trans (by rw [← hn, ← qj_zero p a]))
  have HN := Lib.hid hn
  have HC := Lib.hid h
  have HP := Lib.hid hp
  rw [hn] at hlen ⊢
  clear hn h hp
  go_enter Tryd.func48, Tryd.ntmps48
  go_wp2
  clear hmk
  have HR0 : Hid (Row (w.alloc (.cells (madeCells #[.int .i64 0] (n + 1)) 3)) w.heap.size 3 (natCells (qj p a 0))) := by unfold Hid; rw [← HZ.out]; exact heap_alloc_new _ _
  have HB0 : Hid (Below w.heap.size w (w.alloc (.cells (madeCells #[.int .i64 0] (n + 1)) 3))) := (Below.refl _ _).alloc (Nat.le_refl _) _
  generalize w.alloc (.cells (madeCells #[.int .i64 0] (n + 1)) 3) = w1 at *
  go_loopw [6] (fun i wr => ∃ k : Nat, k ≤ n ∧ i = .int .i64 k ∧ Row wr w.heap.size 3 (natCells (qj p a k)) ∧ Below w.heap.size w wr) (fun i _ => n - (intOf i).toNat)
  case atStart => exact ⟨0, by omega, rfl, HR0.out, HB0.out⟩
  case round =>
    clear HR0 HB0 HZ
    obtain ⟨k, hk, rfl, h1, h2⟩ := hrel
    have HR := Lib.hid h1
    have HB := Lib.hid h2
    clear h1 h2
    by_cases hlt : k < n
    · have c0 : wr.cell? ⟨b, k, none⟩ = some (.int .i64 (p.getD k 0 : Nat)) := (HB.out.cell (p := ⟨b, k, none⟩) hbw).trans (HC.out k (by have := HN.out; omega))
      have c1 := nat_at HR.out k (by rw [qj_length, HN.out]; omega)
      rw [qj_at p a k (by have := HN.out; omega)] at c1
      have c2 := nat_at HR.out (k + 1) (by rw [qj_length, HN.out]; omega)
      rw [qj_next p a k (by have := HN.out; omega)] at c2
      have HS := Lib.hid (qj_set2 p a k)
      have HT := Lib.hid (tm_getD p a k (by have := HN.out; omega))
      have hx := HP.out.getD k
      have hy : (0 :: p).getD k 0 < 128 := by
        cases k with
        | zero => simp
        | succ k => rw [List.getD_cons_succ]; exact HP.out.getD k
      have hm := mul_lt _ a hx ha
      obtain ⟨x, hxe⟩ : ∃ x, p.getD k 0 = x := ⟨_, rfl⟩
      obtain ⟨y, hye⟩ : ∃ y, (0 :: p).getD k 0 = y := ⟨_, rfl⟩
      rw [hxe] at hx c0 hm HS HT
      rw [hye] at hy c1 HT
      obtain ⟨m, hme⟩ : ∃ m, mul x a = m := ⟨_, rfl⟩
      rw [hme] at hm HT
      have HME := Lib.hid hme
      have HYE := Lib.hid hye
      have hxor := i64_xor_nat y m (by omega) (by omega)
      have hx2 : bits .xor .i64 0 (x : Int) = (x : Int) := by
        have := i64_xor_nat 0 x (by omega) (by omega)
        rw [Nat.zero_xor] at this
        exact this
      have f0 := HR.out.free (k + 1)
      clear hxe hye hme
      go_wp2
      go_region
      have HR2 : Hid (Row ((wr.setCell ⟨w.heap.size, k + 1, none⟩ (.int .i64 (x : Int))).drew) w.heap.size 3 (natCells ((qj p a k).set (k + 1) x))) := by
        unfold Hid; rw [← natCells_set]; exact Row.drewN (HR.out.set (k + 1) _) 1
      have HB2 : Hid (Below w.heap.size w ((wr.setCell ⟨w.heap.size, k + 1, none⟩ (.int .i64 (x : Int))).drew)) := below_drew1 (HB.out.setCell (p := ⟨w.heap.size, k + 1, none⟩) (Nat.le_refl _) _)
      have c3 : ((wr.setCell ⟨w.heap.size, k + 1, none⟩ (.int .i64 (x : Int))).drew).cell? ⟨b, k, none⟩ = some (.int .i64 (x : Nat)) := (HB2.out.cell (p := ⟨b, k, none⟩) hbw).trans ((HB.out.cell (p := ⟨b, k, none⟩) hbw).symm.trans c0)
      clear c0 c1 c2 f0 hx2
      generalize (wr.setCell ⟨w.heap.size, k + 1, none⟩ (.int .i64 (x : Int))).drew = w4 at *
      have c4 := nat_at HR2.out k (by rw [List.length_set, qj_length, HN.out]; omega)
      rw [nset _ _ _ _ (by omega), qj_at p a k (by have := HN.out; omega), HYE.out] at c4
      have f4 := HR2.out.free k
      go_wp2
      go_region_with (go_at_call 49; refine (mul_rnat x a m _ hx ha HME.out).mono ?_; rintro e w' ⟨rfl, rfl⟩)
      all_goals
        go_wp2
        go_roundw
        case rel =>
          refine ⟨k + 1, by omega, by go_num, ?_, below_drew1 (HB2.out.setCell (p := ⟨w.heap.size, k, none⟩) (Nat.le_refl _) _)⟩
          rw [← HS.out, HT.out, ← natCells_set]
          exact Row.drewN (HR2.out.set k _) 1
        case measure => simp [intOf] <;> omega
    · obtain rfl : k = n := by omega
      have HD := Lib.hid (qj_done p a)
      rw [HN.out] at HD
      go_wp2
      go_ret
      exact ⟨rfl, by rw [← HD.out]; exact HR.out, HB.out⟩
end Go.Proofs.YtmfnjjkbfabonaaDoor

/- The contract of layer 5's reference Generator. No conditions. -/
namespace Go.Proofs.YtmfnjjkbfabonaaDoor
open Go.RowKit
open M

theorem gin_met (met : List Bool) (p : List Nat) (a j : Nat) (h : met.length = 128) : (gin met p a j).1.length = 128 := by
  induction j with
  | zero => exact h
  | succ j ih => simp only [gin]; split <;> simp [ih]
theorem gin_lt (met : List Bool) (p : List Nat) (a j : Nat) (h : a < 128) : (gin met p a j).2.2 < 128 := by
  induction j with
  | zero => exact h
  | succ j ih => simp only [gin]; split <;> exact mul_lt _ _ ih ih
theorem gin_few (met : List Bool) (p : List Nat) (a j : Nat) : (gin met p a j).2.1.length ≤ p.length + j := by
  induction j with
  | zero => exact Nat.le_refl _
  | succ j ih => simp only [gin]; split <;> simp only [tm_length] <;> omega
theorem gin_els (met : List Bool) (p : List Nat) (a j : Nat) (h : Els p) (ha : a < 128) : Els (gin met p a j).2.1 := by
  induction j with
  | zero => exact h
  | succ j ih => simp only [gin]; split; exact ih; exact tm_els _ _ (gin_lt met p a j ha) ih
theorem pw2_lt (i : Nat) : pw 2 i < 128 := pw_lt 2 i (by omega)
theorem gout_met (i : Nat) : (gout i).1.length = 128 := by
  induction i with
  | zero => exact m0_length
  | succ i ih => exact gin_met _ _ _ _ ih
theorem gout_few (i : Nat) : (gout i).2.length ≤ 1 + 7 * i := by
  induction i with
  | zero => exact Nat.le_refl _
  | succ i ih =>
    have : (gin (gout i).1 (gout i).2 (pw 2 (i + 1)) 7).2.1.length ≤ _ := gin_few _ _ _ 7
    show (gin (gout i).1 (gout i).2 (pw 2 (i + 1)) 7).2.1.length ≤ _
    omega
theorem gout_els (i : Nat) : Els (gout i).2 := by
  induction i with
  | zero => exact fun c hc => by simp [gout] at hc; omega
  | succ i ih => exact gin_els _ _ _ 7 ih (pw2_lt _)
theorem pow_2 (k : Nat) (w : World) (hk : k < 20) :
    Calls Tryd.prog 47 #[.int .i64 2, .int .i64 ((k : Int) + 1)] w fun e w' => e = .returned (.int .i64 (pw 2 (k + 1) : Nat)) ∧ w = w' := by
  have := pow_ref 2 (k + 1) w ⟨by omega, by omega⟩ (by omega)
  rw [show el 2 = 2 by decide] at this
  rwa [show ((k + 1 : Nat) : Int) = (k : Int) + 1 by omega] at this

set_option maxRecDepth 100000 in
set_option maxHeartbeats 1000000 in
theorem gen_ref (w : World) :
    Calls Tryd.prog 29 #[] w fun e w' => ∃ g, w.heap.size ≤ g ∧ e = .returned (.slice (some ⟨g, 0, none⟩) 64 64) ∧ Row w' g 3 (natCells genT) ∧ Below w.heap.size w w' := by
  have hz := met_zero w
  go_enter Tryd.func29, Tryd.ntmps29
  go_wp2
  clear hz
  have HM0 : Hid (Row ((w.alloc (.cells (boolCells m0) 80)).alloc (.cells #[.int .i64 1] 3)) w.heap.size 80 (boolCells m0)) := heap_alloc2_old _ _ _
  have HP0 : Hid (Row ((w.alloc (.cells (boolCells m0) 80)).alloc (.cells #[.int .i64 1] 3)) (w.heap.size + 1) 3 (natCells [1])) := heap_alloc2_new _ _ _
  have HB0 : Hid (Below w.heap.size w ((w.alloc (.cells (boolCells m0) 80)).alloc (.cells #[.int .i64 1] 3))) := ((Below.refl _ _).alloc (Nat.le_refl _) _).alloc (by simp) _
  generalize (w.alloc (.cells (boolCells m0) 80)).alloc (.cells #[.int .i64 1] 3) = w1 at *
  go_loopw [2, 3] (fun v i wr => ∃ (k b : Nat), k ≤ 20 ∧ i = .int .i64 ((k : Int) + 1) ∧ v = .slice (some ⟨b, 0, none⟩) (gout k).2.length (gout k).2.length ∧ w.heap.size < b ∧ Row wr b 3 (natCells (gout k).2) ∧ Row wr w.heap.size 80 (boolCells (gout k).1) ∧ Below w.heap.size w wr) (fun _ i _ => 21 - (intOf i).toNat)
  case atStart => exact ⟨0, w.heap.size + 1, by omega, rfl, rfl, by omega, HP0.out, HM0.out, HB0.out⟩
  case round =>
    clear HM0 HP0 HB0
    obtain ⟨k, b, hk, rfl, rfl, hbw, hp, hm, hb⟩ := hrel
    have HP := Lib.hid hp
    have HM := Lib.hid hm
    have HB := Lib.hid hb
    clear hp hm hb
    by_cases hlt : k < 20
    · have HMK := Lib.hid (gout_met k)
      have HFK := Lib.hid (gout_few k)
      have HEK := Lib.hid (gout_els k)
      have HNX : Hid (Unit → gout (k + 1) = ((gin (gout k).1 (gout k).2 (pw 2 (k + 1)) 7).1, (gin (gout k).1 (gout k).2 (pw 2 (k + 1)) 7).2.1)) := fun _ => rfl
      obtain ⟨M, hM⟩ : ∃ M, (gout k).1 = M := ⟨_, rfl⟩
      obtain ⟨L, hL⟩ : ∃ L, (gout k).2 = L := ⟨_, rfl⟩
      rw [hM] at HM HMK HNX
      rw [hL] at HP HFK HEK HNX ⊢
      have hx := pw2_lt (k + 1)
      have hPW := fun W => pow_2 k W hlt
      generalize pw 2 (k + 1) = x at *
      have HPW := Lib.hid hPW
      clear hM hL hPW
      go_wp2_with fail
      refine (HPW.out _).mono ?_
      rintro e w2 ⟨rfl, rfl⟩
      go_wp2
      go_loopw [2, 4, 5] (fun v a i wr => ∃ (j b : Nat), j ≤ 7 ∧ i = .int .i64 j ∧ a = .int .i64 ((gin M L x j).2.2 : Nat) ∧ v = .slice (some ⟨b, 0, none⟩) (gin M L x j).2.1.length (gin M L x j).2.1.length ∧ w.heap.size < b ∧ Row wr b 3 (natCells (gin M L x j).2.1) ∧ Row wr w.heap.size 80 (boolCells (gin M L x j).1) ∧ Below w.heap.size w wr) (fun _ _ i _ => 7 - (intOf i).toNat)
      case atStart => exact ⟨0, b, by omega, rfl, rfl, rfl, hbw, HP.out, HM.out, HB.out⟩
      case round =>
        clear HP HM HB hbw
        obtain ⟨j, b, hj, rfl, rfl, rfl, hbw, hp, hm, hb⟩ := hrel
        have HP := Lib.hid hp
        have HM := Lib.hid hm
        have HB := Lib.hid hb
        clear hp hm hb
        have HML := Lib.hid (gin_met M L x j HMK.out)
        have ha := gin_lt M L x j hx
        have HE := Lib.hid (gin_els M L x j HEK.out hx)
        have hfew := gin_few M L x j
        have hLf := HFK.out
        have HS : Hid (Unit → gin M L x (j + 1) = if (gin M L x j).1.getD (gin M L x j).2.2 false then ((gin M L x j).1, (gin M L x j).2.1, mul (gin M L x j).2.2 (gin M L x j).2.2) else ((gin M L x j).1.set (gin M L x j).2.2 true, tm (gin M L x j).2.1 (gin M L x j).2.2, mul (gin M L x j).2.2 (gin M L x j).2.2)) := fun _ => rfl
        by_cases hlt7 : j < 7
        · obtain ⟨met, hmet⟩ : ∃ y, (gin M L x j).1 = y := ⟨_, rfl⟩
          obtain ⟨l, hl⟩ : ∃ y, (gin M L x j).2.1 = y := ⟨_, rfl⟩
          obtain ⟨a, hae⟩ : ∃ y, (gin M L x j).2.2 = y := ⟨_, rfl⟩
          rw [hmet] at HS HM HML
          rw [hl] at HS HP HE hfew ⊢
          rw [hae] at HS ha ⊢
          clear hmet hl hae
          have c0 := word_at HM.out a (by rw [HML.out]; exact ha)
          have hsq := mul_lt a a ha ha
          obtain ⟨q, hq⟩ : ∃ q, mul a a = q := ⟨_, rfl⟩
          have hMU := fun W => mul_rnat a a q W ha ha hq
          rw [hq] at HS hsq
          have HMU := Lib.hid hMU
          clear hMU hq
          obtain ⟨y, hy⟩ : ∃ y, met.getD a false = y := ⟨_, rfl⟩
          rw [hy] at c0 HS
          have h128 : (a : Int) < 128 := by omega
          clear hy
          cases y
          · have f0 := HM.out.free a
            go_wp2_with fail
            have HM2 : Hid (Row (wr.setCell ⟨w.heap.size, a, none⟩ (.bool true)) w.heap.size 80 (boolCells (met.set a true))) := by
              unfold Hid; rw [← boolCells_set]; exact HM.out.set a _
            have HP2 : Hid (Row (wr.setCell ⟨w.heap.size, a, none⟩ (.bool true)) b 3 (natCells l)) := HP.out.far (p := ⟨w.heap.size, a, none⟩) (by show b ≠ w.heap.size; omega) _
            have HB2 : Hid (Below w.heap.size w (wr.setCell ⟨w.heap.size, a, none⟩ (.bool true))) := HB.out.setCell (p := ⟨w.heap.size, a, none⟩) (Nat.le_refl _) _
            clear HM HP HB c0 f0
            generalize wr.setCell ⟨w.heap.size, a, none⟩ (.bool true) = w3 at *
            have hT := times_ref l a b l.length w3 HE.out ha (by omega) (fun i hi => nat_at HP2.out i hi) HP2.out.lt
            refine hT.mono ?_
            rintro e w4 ⟨rfl, hr, hb⟩
            have HR4 := Lib.hid hr
            have HM4 := Lib.hid (HM2.out.box hb)
            have HB4 := Lib.hid (HB2.out.trans (hb.mono HB2.out.size))
            have hb4 : w.heap.size < w3.heap.size := HM2.out.lt
            clear hr hb hT HM2 HP2 HB2
            go_wp2_with fail
            refine (HMU.out _).mono ?_
            rintro e w5 ⟨rfl, rfl⟩
            go_wp2
            go_roundw
            case rel =>
              refine ⟨j + 1, w3.heap.size, by omega, by go_num, ?_, ?_, hb4, ?_⟩
              · rw [HS.out ()]; rfl
              · rw [HS.out (), if_neg (by simp), tm_length]
              · rw [HS.out ()]; exact ⟨HR4.out, HM4.out, HB4.out⟩
            case measure => simp [intOf] <;> omega
          · go_wp2_with fail
            refine (HMU.out _).mono ?_
            rintro e w5 ⟨rfl, rfl⟩
            go_wp2
            go_roundw
            case rel =>
              refine ⟨j + 1, b, by omega, by go_num, ?_, ?_, hbw, ?_⟩
              · rw [HS.out ()]; rfl
              · rw [HS.out ()]; rfl
              · rw [HS.out ()]; exact ⟨HP.out, HM.out, HB.out⟩
            case measure => simp [intOf] <;> omega
        · obtain rfl : j = 7 := by omega
          go_wp2
          go_roundw
          case rel =>
            refine ⟨k + 1, b, by omega, by go_num, ?_, hbw, ?_⟩
            · rw [HNX.out ()]
            · rw [HNX.out ()]; exact ⟨HP.out, HM.out, HB.out⟩
          case measure => simp [intOf] <;> omega
    · obtain rfl : k = 20 := by omega
      have hg := gout_gen
      have hgl := gen_length
      rw [hg] at HP ⊢
      rw [hgl]
      clear hg hgl
      go_wp2
      go_ret
      exact ⟨b, by omega, rfl, HP.out, HB.out⟩
end Go.Proofs.YtmfnjjkbfabonaaDoor
