/-
  The walk of the law SipEnds.
-/
import Derived.Test.YtplbmebhpjpnfaaDoorL6b
import Derived.Deep.RegionWith
import Derived.Lib.ConvBytes
namespace Go.Proofs.YtplbmebhpjpnfaaDoor
open Go.RowKit
open M

/-- A byte as the model's number. -/
def ub (x : UInt8) : Int := (x.toNat : Int)
theorem ub_xor (x y : UInt8) : bits .xor .u8 (ub x) (ub y) = ub (x ^^^ y) := by
  unfold ub
  rw [u8_xor_nat _ _ x.toNat_lt y.toNat_lt, UInt8.toNat_xor]
theorem ub_bd (x : UInt8) : 0 ≤ ub x ∧ ub x < 256 := by
  have := x.toNat_lt
  unfold ub; omega

/-- A new row of a text's bytes. -/
theorem to_bytes (w : World) (s : ByteArray) : ∃ cap w', (convert 9 37 (.string s)).run Tryd.prog w = .ok (.slice (some ⟨w.heap.size, 0, none⟩) s.size cap) w' ∧ Below w.heap.size w w' ∧ w.heap.size < w'.heap.size ∧
    (∀ j (hj : j < s.size), w'.cell? ⟨w.heap.size, j, none⟩ = some (.int .u8 (ub s[j]))) ∧ ∀ j, j < s.size → w'.frozen? ⟨w.heap.size, j, none⟩ = false := by
  have hn := Lib.bytesWorld_at_new w 5 s
  refine ⟨_, _, Lib.run_convert_string_bytes w 9 37 5 s Tryd.underlying9 Tryd.underlying37 Tryd.underlying5, ?_, ?_, ?_, ?_⟩
  · exact ⟨rfl, rfl, rfl, by rw [Lib.bytesWorld_size]; omega, fun k hk => Lib.bytesWorld_at_old w _ s k hk⟩
  · rw [Lib.bytesWorld_size]; omega
  · intro j hj
    rw [Lib.bytesWorld_cell w _ s j hj]
    have : s.data.toList.getD j 0 = s[j] := by
      rw [List.getD, List.getElem?_eq_getElem (by simpa using hj)]; rfl
    rw [this]; rfl
  · intro j hj
    have hsz : s.size ≤ (Lib.bytesCells w 5 s).size := by
      have : s.data.size = s.size := rfl
      simp [Lib.bytesCells, this]
    simp [World.frozen?, hn]; omega

/-- The text with its k-th byte changed. -/
def flip (s : ByteArray) (k : Nat) (b : UInt8) : List UInt8 := (bl s).set k ((bl s).getD k 0 ^^^ b)
theorem flip_length (s : ByteArray) (k : Nat) (b : UInt8) : (flip s k b).length = s.size := by simp [flip, bl_length]
theorem bl_get (s : ByteArray) (j : Nat) (h : j < s.size) : (bl s)[j]'(by rw [bl_length]; exact h) = s[j] := rfl

theorem flip_same (s : ByteArray) (k : Nat) (h : k < s.size) : ofB (flip s k 0) = s := by
  have hl : k < (bl s).length := by rw [bl_length]; exact h
  have e : flip s k 0 = bl s := by
    unfold flip
    rw [UInt8.xor_zero, List.getD, List.getElem?_eq_getElem hl]
    simp
  rw [e, ofB_bl]
theorem flip_other (s : ByteArray) (k : Nat) (b : UInt8) (h : k < s.size) (hb : b ≠ 0) : flip s k b ≠ bl s := by
  intro e
  have hl : k < (bl s).length := by rw [bl_length]; exact h
  have h1 : (flip s k b)[k]? = (bl s)[k]? := by rw [e]
  unfold flip at h1
  rw [List.getElem?_set_self hl, List.getD, List.getElem?_eq_getElem hl] at h1
  have h2 : (bl s)[k] ^^^ b = (bl s)[k] := Option.some.inj h1
  have h3 : (bl s)[k] ^^^ ((bl s)[k] ^^^ b) = (bl s)[k] ^^^ (bl s)[k] := by rw [h2]
  rw [← UInt8.xor_assoc, UInt8.xor_self, UInt8.zero_xor] at h3
  exact hb h3
/-- Behind a byte more the last word is another one. -/
theorem last_other (s u : List UInt8) (hs : s.length ≤ 250) (hu : u.length = s.length + 1) : (wordAt u (u.length / 8) == wordAt s (s.length / 8)) = false := by
  rw [beq_eq_false_iff_ne]
  intro h
  unfold wordAt at h
  rw [if_neg (by omega), if_neg (by omega)] at h
  have := (lastWord_inj (by rw [List.length_drop]; omega) (by rw [List.length_drop]; omega) (by omega) (by omega) h).2
  omega
theorem bl_append (s t : ByteArray) : bl (s ++ t) = bl s ++ bl t := by simp [bl]

attribute [local go_sem] un_add un_sub un_xor un_or un_nonneg un_beq un_bne ub_xor

/-- The bytes of a text, one of them changed, as they lie. -/
theorem flip_cells {w2 : World} {g : Nat} {s : ByteArray} (k : Nat) (b : UInt8) (hk : k < s.size) (hc : ∀ j (hj : j < s.size), w2.cell? ⟨g, j, none⟩ = some (.int .u8 (ub s[j]))) :
    ∀ i (hi : i < (flip s k b).length), (w2.setCell ⟨g, k, none⟩ (.int .u8 (ub (s[k] ^^^ b)))).cell? ⟨g, 0 + i, none⟩ = some (.int .u8 ((flip s k b)[i].toNat : Int)) := by
  intro i hi
  rw [flip_length] at hi
  have hbl : k < (bl s).length := by rw [bl_length]; exact hk
  rw [Nat.zero_add]
  by_cases e : k = i
  · subst e
    have h1 : (flip s k b)[k]'(by rw [flip_length]; exact hk) = s[k] ^^^ b := by
      simp only [flip, List.getElem_set_self, List.getD, List.getElem?_eq_getElem hbl]
      rfl
    rw [h1, World.cell?_setCell_same _ _ _ (hc k hk)]
    rfl
  · rw [World.cell?_setCell_other _ _ _ _ (by intro h; injection h with h1 h2; exact e h2), hc i hi]
    have h1 : (flip s k b)[i]'(by rw [flip_length]; exact hi) = s[i] := by
      simp only [flip, List.getElem_set_ne e]
      rfl
    rw [h1]; rfl

theorem end_cell {w : World} {g : Nat} (s : ByteArray) (h : Row w g 27 (wordsV s)) : w.cell? ⟨g, s.size / 8, none⟩ = some (.int .u64 (un (wordAt (bl s) (s.size / 8)))) :=
  (cell_of_row _ _ _ _ _ _ h).trans (wordsV_get s _ (by omega))

set_option maxRecDepth 100000 in
set_option maxHeartbeats 2000000 in
theorem sipends_walk (s : ByteArray) (p b : UInt8) (w : World) (h0 : 0 < s.size) (hs : s.size ≤ 250) (h : Signs w) :
    Calls Tryd.prog 8 #[.string s, .int .u8 (ub p), .int .u8 (ub b)] w fun e w' => e = .returned (.bool true) ∧ Below w.heap.size w w' := by
  have HG := Lib.hid h
  have d1 : decide ((250 : Int) < (s.size : Int)) = false := by simp; omega
  have d2 : ((s.size : Int) == 0) = false := by rw [beq_eq_false_iff_ne]; omega
  obtain ⟨k, hk, hkl⟩ : ∃ k : Nat, ub p % (s.size : Int) = (k : Int) ∧ k < s.size := ⟨p.toNat % s.size, by unfold ub; omega, Nat.mod_lt _ h0⟩
  have bp1 := (ub_bd p).1
  have bp2 := (ub_bd p).2
  clear h
  go_enter Tryd.func8, Tryd.ntmps8
  go_wp2_with fail
  refine (awake_any _ HG.out).mono ?_
  rintro e w1 ⟨rfl, hb⟩
  have HB1 := Lib.hid hb
  clear hb
  obtain ⟨cap, w2, hcv, hb2, hlt2, hc2, hf2⟩ := to_bytes w1 s
  have HB2 := Lib.hid hb2
  have HC2 := Lib.hid hc2
  have HF2 := Lib.hid hf2
  have c0 := hc2 k hkl
  have f0 := hf2 k hkl
  clear hb2 hc2 hf2
  go_wp2_with fail
  have HC := Lib.hid (flip_cells k b hkl HC2.out)
  have hts : (ofB (flip s k b)).size = s.size := by rw [ofB_size, flip_length]
  have hsame : ∀ j, sameB (bl s) (bl (ofB (flip s k b))) j = true → j = s.size / 8 + 1 → b = 0 := by
    intro j hj e
    subst e
    rcases Decidable.em (b = 0) with h | h
    · exact h
    · exact absurd (sameB_full _ _ (by rw [bl_length]; omega) (show (flip s k b).length ≤ 255 by rw [flip_length]; omega) (by rw [bl_length]; exact hj)).symm (flip_other s k b hkl h)
  have hsame0 : b = 0 → ∀ j, sameB (bl s) (bl (ofB (flip s k b))) j = true := by
    intro h j
    rw [h, flip_same s k hkl, sameB_self]
  generalize hw3 : w2.setCell ⟨w1.heap.size, k, none⟩ (.int .u8 (ub (s[k] ^^^ b))) = w3
  obtain ⟨t, htt⟩ : ∃ t, ofB (flip s k b) = t := ⟨_, rfl⟩
  have HW3 : Hid (Below w1.heap.size w1 w3 ∧ w1.heap.size < w3.heap.size ∧ ∀ W, Below w3.heap.size w3 W → (convert 37 9 (.slice (some ⟨w1.heap.size, 0, none⟩) s.size cap)).run Tryd.prog W = .ok (.string t) W) := by
    rw [hw3] at HC
    have hl : w1.heap.size < w3.heap.size := by rw [← hw3]; simpa using hlt2
    refine ⟨by rw [← hw3]; exact HB2.out.setCell (p := ⟨w1.heap.size, k, none⟩) (Nat.le_refl _) _, hl, fun W hW => ?_⟩
    rw [← htt]
    refine run_conv W w1.heap.size 0 cap s.size (flip s k b) (flip_length s k b) (fun i hi => ?_)
    exact (hW.cell (p := ⟨w1.heap.size, 0 + i, none⟩) hl).trans (HC.out i hi)
  rw [htt] at hts hsame hsame0
  have HTS := Lib.hid hts
  have HSM := Lib.hid hsame
  have HS0 := Lib.hid hsame0
  clear HC HC2 HF2 HB2 hw3 hcv c0 f0 hlt2 w2 htt hts hsame hsame0
  have hcvA := HW3.out.2.2 w3.drew ((Below.refl _ _).drew)
  have hk0 : ∀ W : World, (convert 37 9 (.slice (some ⟨W.heap.size, 0, none⟩) 1 1)).run Tryd.prog (W.alloc (.cells #[.int .u8 0] 5)) = .ok (.string (ofB [0])) (W.alloc (.cells #[.int .u8 0] 5)) := by
    intro W
    refine run_conv _ W.heap.size 0 1 1 [0] rfl (fun i hi => ?_)
    obtain rfl : i = 0 := by simp at hi; omega
    exact cell_of_row _ _ _ _ _ _ (heap_alloc_new _ _)
  obtain ⟨u, hu⟩ : ∃ u, s ++ ofB [0] = u := ⟨_, rfl⟩
  have huz : u.size = s.size + 1 := by rw [← hu, ByteArray.size_append, ofB_size]; rfl
  have hne : (wordAt (bl u) (u.size / 8) == wordAt (bl s) (s.size / 8)) = false := by
    have := last_other (bl s) (bl u) (by rw [bl_length]; exact hs) (by rw [bl_length, bl_length]; exact huz)
    rwa [bl_length, bl_length] at this
  have HUZ := Lib.hid huz
  have HNE := Lib.hid hne
  have hz0 : (ofB [0]).size = 1 := rfl
  clear huz hne
  go_region_with (first
    | (go_at_call_of 10 (Value.string s); refine (words_any s _ (by omega)).mono ?_; rintro e w4 ⟨rfl, hr, hb⟩; have HR4 : Hid (Row w4 w3.heap.size 27 (wordsV s)) := hr; have HB4 : Hid (Below w3.heap.size w3 w4) := (Below.drew (Below.refl w3.heap.size w3)).trans hb; have hcvB := HW3.out.2.2 w4 HB4.out; clear hr hb)
    | (go_at_call_of 10 (Value.string t); refine (words_any t _ (by rw [HTS.out]; omega)).mono ?_; rintro e w5 ⟨rfl, hr, hb⟩; rw [HTS.out]; have HR5 : Hid (Row w5 w4.heap.size 27 (wordsV t)) := hr; have HB5 := Lib.hid hb; clear hr hb))
  all_goals
    clear hcvA hcvB
    go_wp2_with fail
    go_loopw [10, 11] (fun v i wr => ∃ j : Nat, j ≤ s.size / 8 + 1 ∧ i = .int .i64 j ∧ v = .bool (sameB (bl s) (bl t) j) ∧ Below w5.heap.size w5 wr) (fun _ i _ => s.size / 8 + 1 - (intOf i).toNat)
    case atStart => exact ⟨0, Nat.zero_le _, rfl, by simp [sameB, bl_length, HTS.out], Below.refl _ _⟩
    case round =>
    obtain ⟨j, hj, rfl, rfl, hb⟩ := hrel
    have HB := Lib.hid hb
    have HEND := Lib.hid (HB1.out.trans ((HW3.out.1.mono HB1.out.size).trans ((HB4.out.mono (Nat.le_trans HB1.out.size (Nat.le_of_lt HW3.out.2.1))).trans (HB5.out.mono (Nat.le_trans HB1.out.size (Nat.le_trans (Nat.le_of_lt HW3.out.2.1) HB4.out.size))))))
    have hr4 := (HR4.out.below HB5.out HR4.out.lt).below hb (Nat.lt_of_lt_of_le HR4.out.lt HB5.out.size)
    have hr5 := HR5.out.below hb HR5.out.lt
    have HR4' := Lib.hid hr4
    have HS := Lib.hid (sameB_succ (bl s) (bl t) j)
    rcases hsb : sameB (bl s) (bl t) j
    · have hbz : (ub b == 0) = false := by
        rcases Decidable.em (b = 0) with h | h
        · rw [HS0.out h] at hsb; cases hsb
        · rw [beq_eq_false_iff_ne]
          intro e
          exact h (UInt8.toNat_inj.1 (by unfold ub at e; simpa using e))
      clear hb hr4 hr5 hsb
      by_cases hlt : j < s.size / 8 + 1
      all_goals
        go_wp2_with fail
        refine (words_any u _ (by rw [HUZ.out]; omega)).mono ?_
        rintro e w6 ⟨rfl, hr, hb⟩
        have g1 := end_cell s ((HR4'.out.alloc (.cells #[.int .u8 0] 5)).below hb (by have := HR4'.out.lt; simp; omega))
        have g2 : w6.cell? ⟨wr.heap.size + 1, u.size / 8, none⟩ = some (.int .u64 (un (wordAt (bl u) (u.size / 8)))) := end_cell u (show Row w6 (wr.heap.size + 1) 27 (wordsV u) by unfold wordsV; simpa using hr)
        have hne := HNE.out
        have hn2 : u.size / 8 ≤ 40 := by rw [HUZ.out]; omega
        have hn1 : s.size / 8 ≤ 40 := by omega
        have HB6 := Lib.hid ((HB.out.alloc HB.out.size _).trans (hb.mono (Nat.le_trans HB.out.size (by simp))))
        clear hr hb hlt
        generalize u.size / 8 = n2 at *
        generalize s.size / 8 = n1 at *
        have i1 : IntKind.i64.wrap ((n1 : Int) + 1 - 1) = n1 := by rw [IntKind.wrap_i64]; omega
        have i2 : IntKind.i64.wrap ((n2 : Int) + 1 - 1) = n2 := by rw [IntKind.wrap_i64]; omega
        have i3 : IntKind.i64.wrap (n1 : Int) = n1 := by rw [IntKind.wrap_i64]; omega
        have i4 : IntKind.i64.wrap (n2 : Int) = n2 := by rw [IntKind.wrap_i64]; omega
        go_wp2
        go_quiet (fail)
        go_wp2
        go_ret
        exact ⟨rfl, Below.drewN (HEND.out.trans (HB6.out.mono HEND.out.size)) _⟩
    · by_cases hlt : j < s.size / 8 + 1
      · have c1 : wr.cell? ⟨w3.heap.size, j, none⟩ = some (.int .u64 (un (wordAt (bl s) j))) := (cell_of_row _ _ _ _ _ _ hr4).trans (wordsV_get s j hlt)
        have c2 : wr.cell? ⟨w4.heap.size, j, none⟩ = some (.int .u64 (un (wordAt (bl t) j))) := (cell_of_row _ _ _ _ _ _ hr5).trans (wordsV_get t j (by rw [HTS.out]; exact hlt))
        rw [hsb, Bool.true_and] at HS
        clear hb hr4 hr5 hsb hk0
        go_wp2
        go_quiet (fail)
        go_wp2
        go_roundw
        case rel => exact ⟨j + 1, by omega, by go_num, by rw [HS.out], Below.drewN HB.out _⟩
        case measure => simp [intOf]; omega
      · have hb0 := HSM.out j hsb (by omega)
        subst hb0
        have hbz : (ub 0 == 0) = true := rfl
        clear hb hr4 hr5 hsb
        go_wp2_with fail
        refine (words_any u _ (by rw [HUZ.out]; omega)).mono ?_
        rintro e w6 ⟨rfl, hr, hb⟩
        have g1 := end_cell s ((HR4'.out.alloc (.cells #[.int .u8 0] 5)).below hb (by have := HR4'.out.lt; simp; omega))
        have g2 : w6.cell? ⟨wr.heap.size + 1, u.size / 8, none⟩ = some (.int .u64 (un (wordAt (bl u) (u.size / 8)))) := end_cell u (show Row w6 (wr.heap.size + 1) 27 (wordsV u) by unfold wordsV; simpa using hr)
        have hne := HNE.out
        have hn2 : u.size / 8 ≤ 40 := by rw [HUZ.out]; omega
        have hn1 : s.size / 8 ≤ 40 := by omega
        have HB6 := Lib.hid ((HB.out.alloc HB.out.size _).trans (hb.mono (Nat.le_trans HB.out.size (by simp))))
        clear hr hb hlt
        generalize u.size / 8 = n2 at *
        generalize s.size / 8 = n1 at *
        have i1 : IntKind.i64.wrap ((n1 : Int) + 1 - 1) = n1 := by rw [IntKind.wrap_i64]; omega
        have i2 : IntKind.i64.wrap ((n2 : Int) + 1 - 1) = n2 := by rw [IntKind.wrap_i64]; omega
        have i3 : IntKind.i64.wrap (n1 : Int) = n1 := by rw [IntKind.wrap_i64]; omega
        have i4 : IntKind.i64.wrap (n2 : Int) = n2 := by rw [IntKind.wrap_i64]; omega
        go_wp2
        go_quiet (fail)
        go_wp2
        go_ret
        exact ⟨rfl, Below.drewN (HEND.out.trans (HB6.out.mono HEND.out.size)) _⟩

set_option maxRecDepth 100000 in
set_option maxHeartbeats 1000000 in
theorem sipends_none (s : ByteArray) (p b : UInt8) (w : World) (hs : s.size ≤ maxLen) (hl : s.size = 0 ∨ 250 < s.size) (h : Signs w) :
    Calls Tryd.prog 8 #[.string s, .int .u8 (ub p), .int .u8 (ub b)] w fun e w' => e = .returned (.bool true) ∧ Below w.heap.size w w' := by
  have HG := Lib.hid h
  unfold maxLen at hs
  have hd : (decide ((250 : Int) < (s.size : Int)) = false ∧ ((s.size : Int) == 0) = true) ∨ decide ((250 : Int) < (s.size : Int)) = true := by
    rcases hl with h | h
    · exact .inl ⟨by simp; omega, by rw [beq_iff_eq]; omega⟩
    · exact .inr (by simp; omega)
  clear h hl
  rcases hd with ⟨d1, d2⟩ | d1
  all_goals
    go_enter Tryd.func8, Tryd.ntmps8
    go_wp2_with fail
    refine (awake_any _ HG.out).mono ?_
    rintro e w1 ⟨rfl, hb⟩
    have HB1 := Lib.hid hb
    clear hb
    go_wp2_with fail
    refine (awake_any _ (HG.out.below HB1.out HG.out.lt)).mono ?_
    rintro e w2 ⟨rfl, hb⟩
    have HB2 := Lib.hid (HB1.out.trans (hb.mono HB1.out.size))
    clear hb
    go_wp2
    go_ret
    exact ⟨rfl, HB2.out⟩

theorem ends_law (s : ByteArray) (p b : UInt8) (w : World) (hs : s.size ≤ maxLen) (h : Signs w) :
    Calls Tryd.prog 8 #[.string s, .int .u8 (ub p), .int .u8 (ub b)] w fun e w' => e = .returned (.bool true) ∧ Below w.heap.size w w' := by
  by_cases h1 : 0 < s.size ∧ s.size ≤ 250
  · exact sipends_walk s p b w h1.1 h1.2 h
  · exact sipends_none s p b w hs (by omega) h

theorem byte_of_wf {n : Int} (h : (Lit.int .u8 n).wf = true) : ∃ x, n = ub x := by
  have := Go.bounds_u8 h
  refine ⟨UInt8.ofNat n.toNat, ?_⟩
  unfold ub
  rw [UInt8.toNat_ofNat_of_lt' (by show n.toNat < 256; omega)]
  omega
end Go.Proofs.YtplbmebhpjpnfaaDoor
