/-
  The contracts of the reference's Round, Words and Sum of layer 1. Conditions: texts of 1000000 bytes at most.
-/
import Derived.Test.YtppkiponpjnkkaaDoorGw
import Derived.RegionTactic
namespace Go.Proofs.YtppkiponpjnkkaaDoor
open Go.RowKit
open M
attribute [local go_sem] un_add un_sub un_xor un_or un_nonneg un_beq un_bne

section
attribute [local go_sem] cells4
theorem refRound_any (v : V4) (w : World) :
    Calls Tryd.prog 32 #[.agg (cells4 v)] w fun e w' => e = .returned (.agg (cells4 v.round)) ∧ Below w.heap.size w w' := by
  go_enter Tryd.func32, Tryd.ntmps32
  go_wp2_with fail
  go_quiet (fail)
  go_wp2_with (go_at_call 35; refine (left_int _ _ _ (by omega) (by omega)).mono ?_; rintro e w' ⟨rfl, rfl⟩)
  refine bodyPost_ret (v := .agg (cells4 v.round)) (by simp [results, Tryd.results32, go_sem]; exact ⟨rfl, rfl, rfl, rfl⟩) rfl ⟨rfl, ?_⟩
  exact below_set4 (Below.quiet (((Below.refl _ _).alloc (Nat.le_refl _) _).alloc (by simp) _) _) (by omega) _ _ _ _
end
def wordsL (s : List UInt8) (j : Nat) : List Value := (List.range j).map fun i => Value.int .u64 (un (wordAt s i))
theorem wordsL_succ (s : List UInt8) (j : Nat) : wordsL s (j + 1) = wordsL s j ++ [.int .u64 (un (wordAt s j))] := by
  simp [wordsL, List.range_succ]
theorem wordsL_length (s : List UInt8) (j : Nat) : (wordsL s j).length = j := by simp [wordsL]
theorem tail_word (s : ByteArray) (i : Nat) (h : 8 * i + 8 ≤ s.size) : tail8 s (8 * i) 0 = wordAt (bl s) i := by
  have hs := bl_length s
  unfold tail8 wordAt
  rw [if_pos (by omega), Nat.add_zero]
  rfl
theorem tail_last (s : ByteArray) : IntKind.u64.wrap (un (tail8 s (8 * (s.size / 8)) 0) + IntKind.u64.wrap (((s.size % 256 : Nat) : Int) * 72057594037927936)) = un (wordAt (bl s) (s.size / 8)) := by
  have hs := bl_length s
  have e : tail8 s (8 * (s.size / 8)) 0 = word ((bl s).drop (8 * (s.size / 8))) := by
    unfold tail8
    have : ((s.data.toList.drop (8 * (s.size / 8) + 0)).take (8 - 0)) = (bl s).drop (8 * (s.size / 8)) := by
      rw [List.take_of_length_le]
      · rfl
      · show ((bl s).drop _).length ≤ 8
        rw [List.length_drop]; omega
    rw [this]
  unfold wordAt
  rw [if_neg (by omega), e, hs, last_add _ _ (by rw [List.length_drop]; omega)]
theorem tail_last' (s : ByteArray) : IntKind.u64.wrap (un (tail8 s (8 * (s.size / 8)) 0) + (s.size : Int) % 256 * 72057594037927936) = un (wordAt (bl s) (s.size / 8)) := by
  rw [← tail_last s]
  have := un_bd (tail8 s (8 * (s.size / 8)) 0)
  simp only [IntKind.wrap_u64]
  omega
/-- What the reference's Words leaves. -/
def GivesWords (s : ByteArray) (w : World) (e : Ending) (w' : World) : Prop :=
  ∃ g cap, e = .returned (.slice (some ⟨g, 0, none⟩) (s.size / 8 + 1) cap) ∧ w.heap.size ≤ g ∧ g < w'.heap.size ∧ (∀ i, i < s.size / 8 + 1 → w'.cell? ⟨g, i, none⟩ = some (.int .u64 (un (wordAt (bl s) i)))) ∧ Below w.heap.size w w'
set_option maxHeartbeats 1000000 in
theorem refWords_any (s : ByteArray) (w : World) (hs : s.size ≤ 1000000) :
    Calls Tryd.prog 31 #[.string s] w (GivesWords s w) := by
  obtain ⟨i0, hi0, hz0, hz1, hz2⟩ := info_parts word_info
  have HI := Lib.hid (And.intro hi0 (And.intro hz0 (And.intro hz1 hz2)))
  have hm : s.size ≤ maxLen := by unfold maxLen; omega
  clear hi0 hz0 hz1 hz2
  go_enter Tryd.func31, Tryd.ntmps31
  go_wp2
  go_loopw [3, 5] (fun v i wr => ∃ j : Nat, j ≤ s.size / 8 ∧ i = .int .i64 j ∧ wr.ownsRow w.heap.size 32 1 v j (wordsL (bl s) j) ∧ Below w.heap.size w wr) (fun _ i _ => s.size / 8 - (intOf i).toNat)
  case atStart => exact ⟨0, Nat.zero_le _, rfl, World.ownsRow_nil _ _ _ _, Below.refl _ _⟩
  case round =>
    obtain ⟨j, hj, rfl, hown, hb⟩ := hrel
    have HO := Lib.hid hown
    have HB := Lib.hid hb
    clear hown hb
    by_cases hlt : j < s.size / 8
    · have HT := Lib.hid (tail_word s j (by omega))
      go_wp2_with fail
      rw [show ((8 : Int) * (j : Int)) = ((8 * j : Nat) : Int) by omega]
      refine (word_any s (8 * j) _ hm (by unfold maxLen; omega)).mono ?_
      rintro e w' ⟨rfl, rfl⟩
      rw [HT.out]
      go_wp2_with (at_builtin; refine wpList_append_own _ rfl _ _ 49 rfl w.heap.size 32 i0 (.int .u64 0) 1 8 Tryd.underlying49 HI.out.1 HI.out.2.1 HI.out.2.2.1 HI.out.2.2.2 rfl (by decide) _ _ _ rfl (HO.out.alloc _) ⟨wr.heap.size, 0, none⟩ 1 1 [.int .u64 (un (wordAt (bl s) j))] rfl rfl (one_new _ _ rfl _ _) one_cell ?c3 ?c4 ?c5 ?_)
      case c3 => unfold maxLen; omega
      case c4 => omega
      case c5 => have := HB.out.size; simp; omega
      intro v' w2 hown' hgrow _
      have R : Hid (w2.ownsRow w.heap.size 32 1 v' (j + 1) (wordsL (bl s) (j + 1)) ∧ Below w.heap.size w w2) :=
        ⟨by rw [wordsL_succ]; exact hown', (HB.out.alloc HB.out.size _).grown hgrow (by have := HB.out.size; simp; omega) (fun k hk => own_ge HO.out k hk)⟩
      clear hown' hgrow HO HB
      go_wp2
      go_roundw
      case rel => exact ⟨j + 1, by omega, by go_num, R.out⟩
      case measure => simp [intOf]; omega
    · obtain rfl : j = s.size / 8 := by omega
      have ht := tail_last' s
      go_wp2_with fail
      rw [show ((8 : Int) * ((s.size : Int) / 8)) = ((8 * (s.size / 8) : Nat) : Int) by omega]
      refine (word_any s (8 * (s.size / 8)) _ hm (by unfold maxLen; omega)).mono ?_
      rintro e w' ⟨rfl, rfl⟩
      go_wp2_with (at_builtin; refine wpList_append_own _ rfl _ _ 49 rfl w.heap.size 32 i0 (.int .u64 0) 1 8 Tryd.underlying49 HI.out.1 HI.out.2.1 HI.out.2.2.1 HI.out.2.2.2 rfl (by decide) _ _ _ rfl (HO.out.alloc _) ⟨wr.heap.size, 0, none⟩ 1 1 [.int .u64 (un (wordAt (bl s) (s.size / 8)))] rfl rfl (one_new _ _ rfl _ _) one_cell ?c3 ?c4 ?c5 ?_)
      case c3 => unfold maxLen; omega
      case c4 => omega
      case c5 => have := HB.out.size; simp; omega
      intro v' w2 hown' hgrow _
      have R : Hid (w2.ownsRow w.heap.size 32 1 v' (s.size / 8 + 1) (wordsL (bl s) (s.size / 8 + 1)) ∧ Below w.heap.size w w2) :=
        ⟨by rw [wordsL_succ]; exact hown', (HB.out.alloc HB.out.size _).grown hgrow (by have := HB.out.size; simp; omega) (fun k hk => own_ge HO.out k hk)⟩
      clear hown' hgrow HO HB ht
      go_wp2
      go_ret
      obtain ⟨g, cap, hv, hb, hlt2, hc⟩ := own_cells R.out.1 (by omega)
      refine ⟨g, cap, ?_, hb, hlt2, fun i hi => ?_, R.out.2⟩
      · show Ending.returned v' = _
        rw [hv]
      · rw [hc i hi]; simp [wordsL, hi]
theorem xor_c0 (x : BitVec 64) : bits .xor .u64 (un x) 8317987319222330741 = un (x ^^^ 8317987319222330741#64) := by
  rw [← un_xor, un_lit 8317987319222330741 (by decide)]; rfl
theorem xor_c1 (x : BitVec 64) : bits .xor .u64 (un x) 7237128888997146477 = un (x ^^^ 7237128888997146477#64) := by
  rw [← un_xor, un_lit 7237128888997146477 (by decide)]; rfl
theorem xor_c2 (x : BitVec 64) : bits .xor .u64 (un x) 7816392313619706465 = un (x ^^^ 7816392313619706465#64) := by
  rw [← un_xor, un_lit 7816392313619706465 (by decide)]; rfl
theorem xor_c3 (x : BitVec 64) : bits .xor .u64 (un x) 8387220255154660723 = un (x ^^^ 8387220255154660723#64) := by
  rw [← un_xor, un_lit 8387220255154660723 (by decide)]; rfl
attribute [local go_sem] un_xor_255 xor_c0 xor_c1 xor_c2 xor_c3 cells4
theorem key_w0 (k : List UInt8) : tail8 (ofB k) 0 0 = word (k.take 8) := rfl
theorem key_w8 (k : List UInt8) (hk : k.length = 16) : tail8 (ofB k) 8 0 = word (k.drop 8) := by
  unfold tail8
  have : ((ofB k).data.toList.drop (8 + 0)).take (8 - 0) = k.drop 8 := by
    show (k.drop 8).take 8 = k.drop 8
    exact List.take_of_length_le (by rw [List.length_drop]; omega)
  rw [this]
set_option maxHeartbeats 1000000 in
theorem refSum_any (k : List UInt8) (s : ByteArray) (w : World) (hk : k.length = 16) (hs : s.size ≤ 1000000) :
    Calls Tryd.prog 22 #[.agg (byteCells k), .string s] w fun e w' => e = .returned (.int .u64 (un (sum k (bl s)))) ∧ Below w.heap.size w w' := by
  have kc := conv_row (w.alloc (.cells (byteCells k) 23)) w.heap.size k hk (heap_alloc_new _ _)
  have hz : (ofB k).size ≤ maxLen := by rw [ofB_size]; unfold maxLen; omega
  obtain ⟨v0, hv0⟩ : ∃ v, V4.start (word (k.take 8)) (word (k.drop 8)) = v := ⟨_, rfl⟩
  have H8 := Lib.hid (key_w8 k hk)
  have HV := Lib.hid hv0
  clear hv0
  go_enter Tryd.func22, Tryd.ntmps22
  go_wp2_with fail
  refine (word_any (ofB k) 0 _ hz (by unfold maxLen; omega)).mono ?_
  rintro e w' ⟨rfl, rfl⟩
  rw [key_w0]
  go_wp2_with fail
  refine (word_any (ofB k) 8 _ hz (by unfold maxLen; omega)).mono ?_
  rintro e w' ⟨rfl, rfl⟩
  rw [H8.out]
  go_wp2_with fail
  refine (refWords_any s _ hs).mono ?_
  rintro e w2 ⟨g, cap, rfl, hgl, hgt, hc, hb⟩
  have HW : Hid (Row w2 (w.heap.size + 1) 43 (cells4 v0) ∧ Below w.heap.size w w2 ∧ w.heap.size + 1 < g ∧ g < w2.heap.size) := by
    rw [← HV.out]
    exact ⟨Row.below (heap_alloc2_new _ _ _) hb (by simp), (((Below.refl _ _).alloc (Nat.le_refl _) _).alloc (by simp) _).trans (hb.mono (by simp; omega)), by simp at hgl; omega, hgt⟩
  have HC := Lib.hid hc
  clear hgl hgt hc hb kc hz H8
  go_wp2_with fail
  go_loopw [10] (fun i wr => ∃ j : Nat, j ≤ s.size / 8 + 1 ∧ i = .int .i64 j ∧ Row wr (w.heap.size + 1) 43 (cells4 (upto k (bl s) j)) ∧ w2.grownBy wr (some (w.heap.size + 1))) (fun i _ => s.size / 8 + 1 - (intOf i).toNat)
  case atStart => exact ⟨0, Nat.zero_le _, rfl, by rw [upto_zero, HV.out]; exact HW.out.1, World.grownBy.refl _ _⟩
  case round =>
    obtain ⟨j, hj, rfl, hr, hg⟩ := hrel
    by_cases hlt : j < s.size / 8 + 1
    · have hu := upto_succ k (bl s) j (by rw [bl_length]; exact hlt)
      obtain ⟨v, hv⟩ : ∃ v, upto k (bl s) j = v := ⟨_, rfl⟩
      rw [hv] at hr hu
      have HU := Lib.hid hu
      have HR := Lib.hid hr
      have HGB := Lib.hid hg
      have c3 := hr.c3
      have f3 := hr.free 3
      have cw : wr.cell? ⟨g, j, none⟩ = some (.int .u64 (un (wordAt (bl s) j))) := (gb_cell hg (p := ⟨g, j, none⟩) HW.out.2.2.2 (by have := HW.out.2.2.1; show g ≠ _; omega)).trans (HC.out j hlt)
      clear hu hv hr hg
      go_wp2_with fail
      go_region
      have h8 : Row (wr.setCell ⟨w.heap.size + 1, 3, none⟩ (.int .u64 (un (v.d ^^^ wordAt (bl s) j)))).drew (w.heap.size + 1) 43 (cells4 ⟨v.a, v.b, v.c, v.d ^^^ wordAt (bl s) j⟩) ∧
          w2.grownBy (wr.setCell ⟨w.heap.size + 1, 3, none⟩ (.int .u64 (un (v.d ^^^ wordAt (bl s) j)))).drew (some (w.heap.size + 1)) :=
        ⟨HR.out.set 3 _, gb_only HGB.out (((Only.refl _ wr).setCell 3 none _).drew)⟩
      generalize (wr.setCell ⟨w.heap.size + 1, 3, none⟩ (.int .u64 (un (v.d ^^^ wordAt (bl s) j)))).drew = W8 at *
      obtain ⟨hr8, hg8⟩ := h8
      obtain ⟨v1, hv1⟩ : ∃ v1, V4.mk v.a v.b v.c (v.d ^^^ wordAt (bl s) j) = v1 := ⟨_, rfl⟩
      have hu1 : v.take (wordAt (bl s) j) = ⟨v1.round.round.a ^^^ wordAt (bl s) j, v1.round.round.b, v1.round.round.c, v1.round.round.d⟩ := by rw [← hv1]; rfl
      rw [hv1] at hr8
      have HU1 := Lib.hid hu1
      have HR8 := Lib.hid hr8
      have HG8 := Lib.hid hg8
      have a0 := hr8.c0
      have a1 := hr8.c1
      have a2 := hr8.c2
      have a3 := hr8.c3
      clear hv1 hu1 hr8 hg8 c3 f3 cw HR HGB
      go_wp2_with fail
      refine (refRound_any v1 W8).mono ?_
      rintro e W9 ⟨rfl, hb9⟩
      have HB9 := Lib.hid hb9
      clear hb9
      go_wp2_with fail
      refine (refRound_any v1.round W9).mono ?_
      rintro e W10 ⟨rfl, hb10⟩
      have hr10 := (HR8.out.below HB9.out HR8.out.lt).below hb10 (Nat.lt_of_lt_of_le HR8.out.lt HB9.out.size)
      have HG10 := Lib.hid (gb_below (gb_below HG8.out HB9.out) hb10)
      have HR10 := Lib.hid hr10
      have d0 := hr10.c0
      have d1 := hr10.c1
      have d2 := hr10.c2
      have d3 := hr10.c3
      have df : ∀ i, W10.frozen? ⟨w.heap.size + 1, i, none⟩ = false := fun i => hr10.free i
      clear hb10 hr10 a0 a1 a2 a3
      go_wp2_with fail
      have h11 := And.intro (HR10.out.set4 v1.round.round) (gb_only HG10.out (only_set4 W10 (w.heap.size + 1) (.int .u64 (un v1.round.round.a)) (.int .u64 (un v1.round.round.b)) (.int .u64 (un v1.round.round.c)) (.int .u64 (un v1.round.round.d))))
      clear d0 d1 d2 d3 df HR10 HG10 HR8 HG8 HB9
      generalize (((W10.setCell ⟨w.heap.size + 1, 0, none⟩ (.int .u64 (un v1.round.round.a))).setCell ⟨w.heap.size + 1, 1, none⟩ (.int .u64 (un v1.round.round.b))).setCell ⟨w.heap.size + 1, 2, none⟩ (.int .u64 (un v1.round.round.c))).setCell ⟨w.heap.size + 1, 3, none⟩ (.int .u64 (un v1.round.round.d)) = W11 at *
      obtain ⟨hr11, hg11⟩ := h11
      have HR11 := Lib.hid hr11
      have HG11 := Lib.hid hg11
      have b0 := hr11.c0
      have bf := hr11.free 0
      have cw : W11.cell? ⟨g, j, none⟩ = some (.int .u64 (un (wordAt (bl s) j))) := (gb_cell hg11 (p := ⟨g, j, none⟩) HW.out.2.2.2 (by have := HW.out.2.2.1; show g ≠ _; omega)).trans (HC.out j hlt)
      clear hr11 hg11
      go_region
      go_wp2
      go_roundw
      case rel => exact ⟨j + 1, by omega, by go_num, by rw [HU.out, HU1.out]; exact HR11.out.set 0 _, gb_only HG11.out (((Only.refl _ W11).setCell 0 none _).drew)⟩
      case measure => simp [intOf]; omega
    · obtain rfl : j = s.size / 8 + 1 := by omega
      have hd := upto_done k (bl s) (s.size / 8 + 1) (by rw [bl_length])
      obtain ⟨v, hv⟩ : ∃ v, upto k (bl s) (s.size / 8 + 1) = v := ⟨_, rfl⟩
      rw [hv] at hr hd
      obtain ⟨v1, hv1⟩ : ∃ v1, V4.mk v.a v.b (v.c ^^^ 255#64) v.d = v1 := ⟨_, rfl⟩
      have hdd : v.done = v1.round.round.round.round.a ^^^ v1.round.round.round.round.b ^^^ v1.round.round.round.round.c ^^^ v1.round.round.round.round.d := by rw [← hv1]; rfl
      rw [hdd] at hd
      have HD := Lib.hid hd
      have HR := Lib.hid hr
      have HGB := Lib.hid hg
      have c0 := hr.c0
      have c1 := hr.c1
      have c2 := hr.c2
      have c3 := hr.c3
      have f2 := hr.free 2
      clear hd hv hr hg hdd
      go_wp2_with fail
      have h8 : Row (wr.setCell ⟨w.heap.size + 1, 2, none⟩ (.int .u64 (un (v.c ^^^ 255#64)))) (w.heap.size + 1) 43 (cells4 v1) ∧ w2.grownBy (wr.setCell ⟨w.heap.size + 1, 2, none⟩ (.int .u64 (un (v.c ^^^ 255#64)))) (some (w.heap.size + 1)) :=
        ⟨by rw [← hv1]; exact HR.out.set 2 _, gb_only HGB.out ((Only.refl _ wr).setCell 2 none _)⟩
      obtain ⟨hr8, hg8⟩ := h8
      have HV1 := Lib.hid hv1
      have HR8 := Lib.hid hr8
      have HG8 := Lib.hid hg8
      generalize wr.setCell ⟨w.heap.size + 1, 2, none⟩ (.int .u64 (un (v.c ^^^ 255#64))) = W8 at *
      clear hr8 hg8 hv1 c0 c1 c2 c3 f2
      refine (refRound_any ⟨v.a, v.b, v.c ^^^ 255#64, v.d⟩ W8).mono ?_
      rintro e W9 ⟨rfl, hb9⟩
      rw [HV1.out]
      go_wp2_with fail
      refine (refRound_any v1.round W9).mono ?_
      rintro e W10 ⟨rfl, hb10⟩
      have HB10 := Lib.hid (hb9.trans (hb10.mono hb9.size))
      clear hb9 hb10
      go_wp2_with fail
      refine (refRound_any v1.round.round W10).mono ?_
      rintro e W11 ⟨rfl, hb11⟩
      go_wp2_with fail
      refine (refRound_any v1.round.round.round W11).mono ?_
      rintro e W12 ⟨rfl, hb12⟩
      have hb := HB10.out.trans ((hb11.trans (hb12.mono hb11.size)).mono HB10.out.size)
      have hr12 := HR8.out.below hb HR8.out.lt
      have HG12 := Lib.hid (gb_below HG8.out hb)
      have d0 := hr12.c0
      have d1 := hr12.c1
      have d2 := hr12.c2
      have d3 := hr12.c3
      have df : ∀ i, W12.frozen? ⟨w.heap.size + 1, i, none⟩ = false := fun i => hr12.free i
      clear hb11 hb12 hb hr12
      go_wp2
      go_ret
      refine ⟨ret_eq (by rw [← HD.out]), ?_⟩
      have hg12 := gb_only HG12.out (only_set4 W12 (w.heap.size + 1) (.int .u64 (un v1.round.round.round.round.a)) (.int .u64 (un v1.round.round.round.round.b)) (.int .u64 (un v1.round.round.round.round.c)) (.int .u64 (un v1.round.round.round.round.d)))
      exact HW.out.2.1.grown hg12 HW.out.2.1.size (fun i hi => by injection hi with hi; omega)
end Go.Proofs.YtppkiponpjnkkaaDoor
