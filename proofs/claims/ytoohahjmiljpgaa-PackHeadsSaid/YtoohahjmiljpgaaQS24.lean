/-
  Contracts and plain facts that the laws share; each piece is headed by what it holds and its conditions.
-/
import Derived.Test.YtoohahjmiljpgaaQS8
import Derived.Test.YtoohahjmiljpgaaQWkc
import Derived.Test.YtoohahjmiljpgaaQS10
import Derived.Test.YtoohahjmiljpgaaQS22
import Derived.Test.YtoohahjmiljpgaaQS5
import Derived.Test.YtoohahjmiljpgaaQS3
import Derived.Shelf.Strings.Repeat
import Derived.Deep.Cut

/- strings.Repeat of a zero byte, and pack's padded. Conditions: sizes of up to 1000 bytes. -/
namespace Go.Proofs.Ytoohahjmiljpgaa
open Go.RowKit
open M
def laysRep_ren : Go.Shelf.Ren := ⟨fun | 99 => 74 | 105 => 53 | 165 => 75 | 166 => 76 | 169 => 78 | 170 => 77 | 206 => 90 | 212 => 73 | 240 => 91 | 241 => 92 | 263 => 88 | 264 => 89 | 276 => 95 | 277 => 96 | n => n, fun | 0 => 0 | 3 => 3 | 4 => 4 | 5 => 5 | 9 => 9 | 20 => 20 | 37 => 44 | 46 => 112 | 51 => 24 | 53 => 135 | 70 => 116 | 72 => 118 | 75 => 120 | 76 => 121 | 80 => 65 | 109 => 113 | 127 => 142 | 146 => 138 | 148 => 140 | 164 => 147 | n => n, fun | n => n⟩
theorem laysRep : Go.Proofs.Lays.n105 Try.prog laysRep_ren := {
  mixed := by kernel_rfl
  f99 := Try.func74.trans (congrArg some (by kernel_rfl))
  f105 := Try.func53.trans (congrArg some (by kernel_rfl))
  f165 := Try.func75.trans (congrArg some (by kernel_rfl))
  f166 := Try.func76.trans (congrArg some (by kernel_rfl))
  f169 := Try.func78.trans (congrArg some (by kernel_rfl))
  f170 := Try.func77.trans (congrArg some (by kernel_rfl))
  f206 := Try.func90.trans (congrArg some (by kernel_rfl))
  f212 := Try.func73.trans (congrArg some (by kernel_rfl))
  f240 := Try.func91.trans (congrArg some (by kernel_rfl))
  f241 := Try.func92.trans (congrArg some (by kernel_rfl))
  f263 := Try.func88.trans (congrArg some (by kernel_rfl))
  f264 := Try.func89.trans (congrArg some (by kernel_rfl))
  f276 := Try.func95.trans (congrArg some (by kernel_rfl))
  f277 := Try.func96.trans (congrArg some (by kernel_rfl))
  t0 := Try.underlying0
  a0 := Try.isAgg0
  z0 := Try.sizeOf0
  v0 := Try.zeroValue0
  t3 := Try.underlying3
  a3 := Try.isAgg3
  z3 := Try.sizeOf3
  v3 := Try.zeroValue3
  t4 := Try.underlying4
  a4 := Try.isAgg4
  z4 := Try.sizeOf4
  v4 := Try.zeroValue4
  t5 := Try.underlying5
  a5 := Try.isAgg5
  z5 := Try.sizeOf5
  v5 := Try.zeroValue5
  t9 := Try.underlying9
  a9 := Try.isAgg9
  z9 := Try.sizeOf9
  v9 := Try.zeroValue9
  t20 := Try.underlying20
  a20 := Try.isAgg20
  z20 := Try.sizeOf20
  v20 := Try.zeroValue20
  t37 := Try.underlying44
  a37 := Try.isAgg44
  z37 := Try.sizeOf44
  v37 := Try.zeroValue44
  t46 := Try.underlying112
  a46 := Try.isAgg112
  z46 := Try.sizeOf112
  v46 := Try.zeroValue112
  t51 := Try.underlying24
  a51 := Try.isAgg24
  z51 := Try.sizeOf24
  v51 := Try.zeroValue24
  t53 := Try.underlying135
  a53 := Try.isAgg135
  z53 := Try.sizeOf135
  v53 := Try.zeroValue135
  t70 := Try.underlying116
  a70 := Try.isAgg116
  z70 := Try.sizeOf116
  v70 := Try.zeroValue116
  t72 := Try.underlying118
  a72 := Try.isAgg118
  z72 := Try.sizeOf118
  v72 := Try.zeroValue118
  t75 := Try.underlying120
  a75 := Try.isAgg120
  z75 := Try.sizeOf120
  v75 := Try.zeroValue120
  t76 := Try.underlying121
  a76 := Try.isAgg121
  z76 := Try.sizeOf121
  v76 := Try.zeroValue121
  t109 := Try.underlying113
  a109 := Try.isAgg113
  z109 := Try.sizeOf113
  v109 := Try.zeroValue113
  t127 := Try.underlying142
  a127 := Try.isAgg142
  z127 := Try.sizeOf142
  v127 := Try.zeroValue142
  t146 := Try.underlying138
  a146 := Try.isAgg138
  z146 := Try.sizeOf138
  v146 := Try.zeroValue138
  t148 := Try.underlying140
  a148 := Try.isAgg140
  z148 := Try.sizeOf140
  v148 := Try.zeroValue140
  t164 := Try.underlying147
  a164 := Try.isAgg147
  z164 := Try.sizeOf147
  v164 := Try.zeroValue147 }
theorem repExtra : Builder.Extra Try.prog laysRep_ren := {
  sizeBuilder := by kernel_rfl
  liesBuilder := by kernel_rfl
  t5 := Try.underlying5
  a5 := Try.isAgg5
  z5 := Try.sizeOf5
  v5 := Try.zeroValue5
  infoByte := by kernel_rfl
  cellsByte := by kernel_rfl
  sizeByte := by kernel_rfl
  neB5 := by decide }
theorem repL_zero : ∀ n, Lib.repeatL [(0 : UInt8)] n = List.replicate n 0
  | 0 => rfl
  | n + 1 => by
    have := repL_zero n
    rw [List.replicate_succ, ← this]
    rfl
theorem repeat_zero (n : Nat) (w : World) (hn : n ≤ 1000) :
    Calls Try.prog 53 #[.string { data := #[0] }, .int .i64 n] w fun e w' => e = .returned (.string (ofB (List.replicate n 0))) ∧ Below w.heap.size w w' := by
  refine (Any.strings_Repeat laysRep repExtra { data := #[0] } n w (by omega) (by show 1 * n ≤ _; omega)).mono fun e w' h => ⟨?_, h.2⟩
  rw [h.1]
  show Ending.returned (Value.string ⟨(Lib.repeatL [(0 : UInt8)] n).toArray⟩) = _
  rw [repL_zero]
  rfl
theorem padded_any (s : ByteArray) (z : Nat) (w : World) (hz : s.size + 2 ≤ z) (hz2 : z ≤ 1000) :
    Calls Try.prog 25 #[.string s, .int .i64 z] w fun e w' => e = .returned (.string (s ++ ofB (List.replicate (z - 2 - s.size) 0))) ∧ Below w.heap.size w w' := by
  have H := Lib.hid fun w => repeat_zero (z - 2 - s.size) w (by omega)
  have e1 : wrap64 ((z : Int) - 2) = ((z - 2 : Nat) : Int) := by rw [wrap64]; omega
  have e2 : wrap64 (((z - 2 : Nat) : Int) - (s.size : Int)) = ((z - 2 - s.size : Nat) : Int) := by rw [wrap64]; omega
  obtain ⟨n, hn⟩ : ∃ n, z - 2 - s.size = n := ⟨_, rfl⟩
  have hZ : (z : Int) - 2 - (s.size : Int) = (n : Int) := by omega
  rw [hn] at H e2 ⊢
  have hts : (ofB (List.replicate n 0)).size = n := by show (List.replicate n (0 : UInt8)).toArray.size = n; simp
  have hn1 : n ≤ 1000 := by omega
  clear hn
  generalize ofB (List.replicate n 0) = t at *
  go_enter Try.func25, Try.ntmps25
  go_wp2_with fail
  refine (H.out _).mono ?_
  rintro e w' ⟨rfl, hb⟩
  have HB := Lib.hid hb
  clear hb e1 e2
  go_wp2
  go_ret
  exact ⟨rfl, HB.out⟩
end Go.Proofs.Ytoohahjmiljpgaa

/- Layer 19: pack's Lay. Conditions: what pvq's Bits and pack's Right answer. -/
namespace Go.Proofs.Ytoohahjmiljpgaa
open Go.RowKit
open M
theorem bt_pad (bs : List Bool) (m j : Nat) : bt (bs ++ List.replicate m false) j = bt bs j := by
  unfold bt
  rw [List.getD_eq_getElem?_getD, List.getElem?_append, List.getD_eq_getElem?_getD]
  by_cases h : j < bs.length
  · rw [if_pos h]
  · rw [if_neg h, List.getElem?_replicate, List.getElem?_eq_none (by omega : bs.length ≤ j)]
    split <;> rfl
theorem byteAt_pad (bs : List Bool) (m i : Nat) : byteAt (bs ++ List.replicate m false) i = byteAt bs i := by
  unfold byteAt
  simp only [bt_pad]
/-- Bits padded with zero bits are bytes padded with zero bytes. -/
theorem pack_pad (bs : List Bool) (m N : Nat) (h : bs.length + m = 8 * N) : pack bs ++ List.replicate (N - (pack bs).length) 0 = pack (bs ++ List.replicate m false) := by
  have hl : (pack bs).length = (bs.length + 7) / 8 := pack_length bs
  have hn : (bs ++ List.replicate m false).length = 8 * N := by rw [List.length_append, List.length_replicate, h]
  have hr : pack (bs ++ List.replicate m false) = packN bs N := by
    unfold pack
    rw [hn, show (8 * N + 7) / 8 = N by omega]
    unfold packN
    exact List.map_congr_left fun i _ => by rw [byteAt_pad]
  rw [hr]
  apply List.ext_getElem?
  intro i
  by_cases h1 : i < (bs.length + 7) / 8
  · rw [List.getElem?_append_left (by omega), packN_get bs N i (by omega)]
    exact packN_get bs _ i h1
  · rw [List.getElem?_append_right (by omega), List.getElem?_replicate]
    by_cases h2 : i < N
    · rw [packN_get bs N i h2, if_pos (by omega), byteAt_out bs i (by omega)]
      rfl
    · rw [if_neg (by omega), List.getElem?_eq_none (by rw [packN_length]; omega)]
theorem shp_sz : (Try.prog.info? 32).map (·.size) = some 40 := by kernel_rfl
theorem pck_sz (l : List Int) (h : l.length = 41) : (Try.prog.info? 35).map (·.size) = some (iCells l).size := by
  rw [iCells_size, h]; kernel_rfl
theorem shp_cons (a : Int) (l : List Int) (h : l.length = 40) : pto (a :: l) 1 40 = l := by
  refine Eq.symm (tm_ext _ 40 _ h fun i hi => ?_)
  rw [Nat.add_comm 1 i]
  rfl
/-- What is laid of a right shape, byte by byte. -/
theorem lay_text (fr z : Nat) (l : List Int) (h : rg19 l (z : Int) = true) : (ofB (pack (yb19 fr l 8))).size + 2 ≤ z ∧
    (ofB (pack (yb19 fr l 8)) ++ ofB (List.replicate (z - 2 - (ofB (pack (yb19 fr l 8))).size) 0)) ++ ld15 (sm15 65535 (bl (ofB (pack (yb19 fr l 8)) ++ ofB (List.replicate (z - 2 - (ofB (pack (yb19 fr l 8))).size) 0)))) = ly19 fr l z := by
  obtain ⟨⟨h1, h2⟩, h3, h4⟩ := rg_parts l z h
  have hp := pb_pkb fr z l h
  have hlen := pkb_len fr (sdN l) (ixN l) z (by unfold sdN; rw [List.length_map]; exact pto_len _ _ _) (by simp [ixN]) h1
  rw [← hp] at hlen
  unfold pb19 at hlen
  rw [List.length_append, List.length_replicate] at hlen
  have hsz : (ofB (pack (yb19 fr l 8))).size = ((yb19 fr l 8).length + 7) / 8 := by rw [ofB_size, pack_length]
  have hpad := pack_pad (yb19 fr l 8) (8 * z - 16 - (yb19 fr l 8).length) (z - 2) (by omega)
  refine ⟨by rw [hsz]; omega, ?_⟩
  have e : ofB (pack (yb19 fr l 8)) ++ ofB (List.replicate (z - 2 - (ofB (pack (yb19 fr l 8))).size) 0) = ofB (pack (pb19 fr l z)) := by
    apply bl_inj
    rw [bl_append, bl_ofB, bl_ofB, bl_ofB, ofB_size, hpad]
    rfl
  rw [e]
  rfl
set_option maxRecDepth 100000 in
set_option maxHeartbeats 2000000 in
theorem layOk (HV : BvOk) (HG : RigOk) : LayOk := by
  intro fr l z w hl
  have HIZ := Lib.hid fun w => isize_any z w
  have HIF := Lib.hid fun w => iframe_any fr w
  have HRG := Lib.hid fun w => HG l z w hl
  have HR : Hid (Row (w.alloc (.cells (iCells (fr :: l)) 35)) w.heap.size 35 (iCells (fr :: l))) := Lib.hid (heap_alloc_new _ _)
  have HB : Hid (Below w.heap.size w (w.alloc (.cells (iCells (fr :: l)) 35))) := Lib.hid ((Below.refl _ _).alloc (Nat.le_refl _) _)
  have HL := Lib.hid hl
  by_cases hsz : 12 ≤ z ∧ z ≤ 24
  · rw [decide_eq_true hsz] at HIZ
    by_cases hfr : 0 ≤ fr ∧ fr ≤ 65535
    · rw [decide_eq_true hfr] at HIF
      cases hrg : rg19 l z with
      | true =>
        obtain ⟨f, rfl⟩ : ∃ f : Nat, fr = (f : Int) := ⟨fr.toNat, by omega⟩
        obtain ⟨n, rfl⟩ : ∃ n : Nat, z = (n : Int) := ⟨z.toNat, by omega⟩
        obtain ⟨hE, hT⟩ := laE_in f n l (by omega) (by omega) hrg
        obtain ⟨_, hst, hpl⟩ := rg_parts l n hrg
        have HS := Lib.hid ((rt_iff (sds l)).1 hst)
        have HP12 : Hid (∀ b, b < 8 → pl13 (sys l b) ≤ 12) := Lib.hid fun b hb => by rw [hpl b hb]; exact gk_le l _ b hb
        have HTX := Lib.hid (lay_text f n l hrg)
        have HF := Lib.hid (show f ≤ 65535 by omega)
        have HN := Lib.hid (show n ≤ 24 by omega)
        rw [hrg] at HRG
        rw [hE, hT]
        generalize ly19 f l n = T at *
        clear hsz hfr hrg hE hT hst hpl hl
        go_enter Try.func10, Try.ntmps10
        go_wp2_with fail
        refine (HIZ.out _).mono ?_
        rintro e w1 ⟨rfl, rfl⟩
        go_upto_region 3 with fail
        obtain ⟨n0, hn0⟩ : ∃ n0, w.heap.size = n0 := ⟨_, rfl⟩
        have HN0 := Lib.hid fun _ : Unit => hn0
        rw [hn0] at HR HB ⊢
        generalize w.alloc (.cells (iCells ((f : Int) :: l)) 35) = w1 at *
        clear hn0
        have c0 : w1.cell? ⟨n0, 0, none⟩ = some (.int .i64 (f : Int)) := i_at HR.out 0 (by simp)
        go_wp2_with fail
        refine (HIF.out _).mono ?_
        rintro e w2 ⟨rfl, rfl⟩
        go_wp2_with (refine wpList_load_pto rfl 32 (.tmp 14) rfl n0 1 40 rfl 35 ((f : Int) :: l) _ HR.out (by have := HL.out; simp; omega) Try.underlying32 rfl shp_sz ?_)
        rw [shp_cons _ l HL.out]
        refine (HRG.out _).mono ?_
        rintro e w3 ⟨rfl, hb⟩
        have HR := Lib.hid (HR.out.box hb)
        have HB := Lib.hid (HB.out.trans (hb.mono (by have := HB.out.size; rw [HN0.out ()] at this; exact this)))
        clear hb c0 HRG HIF HIZ
        have HPZ := Lib.hid (pck_sz ((f : Int) :: l) (by have := HL.out; simp; omega))
        obtain ⟨g, hg⟩ : ∃ g, w3.heap.size = g := ⟨_, rfl⟩
        have HW : Hid (Wr (w3.alloc (.cells #[.slice none 0 0, .int .i64 0] 60)) (g + 1) g (.slice none 0 0) []) := Lib.hid (wr_new w3 (g + 1) g hg (by omega))
        have HGN : Hid (n0 ≤ g) := Lib.hid (by have := HB.out.size; rw [HN0.out ()] at this; omega)
        have HB4 := Lib.hid (HB.out.alloc (show n0 ≤ w3.heap.size by have := HGN.out; omega) (.cells #[.slice none 0 0, .int .i64 0] 60))
        have HR4 := Lib.hid (Row.alloc HR.out (.cells #[.slice none 0 0, .int .i64 0] 60))
        have HG1 : Hid (g + 1 ≤ (w3.alloc (.cells #[.slice none 0 0, .int .i64 0] 60)).heap.size) := Lib.hid (by simp; omega)
        clear HR HB
        go_upto_region 8 with fail
        clear hg
        generalize w3.alloc (.cells #[.slice none 0 0, .int .i64 0] 60) = w4 at *
        go_wp2_with (refine wpList_load_row rfl 35 (.tmp 2) rfl n0 rfl 35 (iCells ((f : Int) :: l)) (0, 0) _ HR4.out Try.underlying35 rfl HPZ.out ?_)
        refine (psplit_any HV f l (g + 1) g (.slice none 0 0) _ HF.out HL.out HS.out HP12.out HG1.out HW.out).mono ?_
        rintro e w5 ⟨rfl, v5, hw, hm⟩
        have HW := Lib.hid hw
        have HB := Lib.hid (HB4.out.trans (hm.below (B := n0) HGN.out (fun k hk => by simp [Value.ownBlock] at hk) (by have := HG1.out; have := HGN.out; omega)))
        clear hw hm HB4 HR4 HG1
        obtain ⟨s, hs⟩ : ∃ s, ofB (pack (yb19 f l 8)) = s := ⟨_, rfl⟩
        rw [hs] at HTX
        have HBY : Hid (Calls Try.prog 26 #[.pointer (some ⟨g, 0, none⟩)] w5 fun e w' => e = .returned (.string s) ∧ w' = w5) := Lib.hid (by rw [← hs]; exact bytes_wr _ _ _ _ _ HW.out)
        clear hs HW
        have HPD := Lib.hid fun w => padded_any s n w HTX.out.1 (by have := HN.out; omega)
        have hsz2 : (s ++ ofB (List.replicate (n - 2 - s.size) 0)).size ≤ 10000 := by
          rw [← bl_length, bl_append, List.length_append, bl_length, bl_ofB, List.length_replicate]
          have := HN.out
          have := HTX.out.1
          omega
        have hT := HTX.out.2
        obtain ⟨t, ht⟩ : ∃ t, s ++ ofB (List.replicate (n - 2 - s.size) 0) = t := ⟨_, rfl⟩
        rw [ht] at hT hsz2 HPD
        have HSL := Lib.hid fun w => seal_any t w hsz2
        rw [hT] at HSL
        clear ht hT hsz2 HTX
        go_wp2_with fail
        refine HBY.out.mono ?_
        rintro e w6 ⟨rfl, rfl⟩
        go_wp2_with fail
        refine (HPD.out _).mono ?_
        rintro e w7 ⟨rfl, hb⟩
        have HB := Lib.hid (HB.out.trans (hb.mono (by have := HB.out.size; rw [HN0.out ()] at this; exact this)))
        clear hb
        go_wp2_with fail
        refine (HSL.out _).mono ?_
        rintro e w8 ⟨rfl, hb⟩
        have HB := Lib.hid (HB.out.trans (hb.mono (by have := HB.out.size; rw [HN0.out ()] at this; exact this)))
        clear hb
        go_wp2_with fail
        go_ret2
        exact ⟨rfl, by rw [HN0.out ()]; exact HB.out⟩
      | false =>
        have hE : laE fr l z = 3 := by unfold laE; rw [if_pos hsz, if_pos hfr, if_neg (by rw [hrg]; decide)]
        have hT : laT fr l z = ⟨#[]⟩ := by unfold laT; rw [if_neg (by rw [hE]; decide)]; rfl
        rw [hE, hT]
        rw [hrg] at HRG
        clear hsz hfr hrg hE hT hl
        have c0 : (w.alloc (.cells (iCells (fr :: l)) 35)).cell? ⟨w.heap.size, 0, none⟩ = some (.int .i64 fr) := i_at HR.out 0 (by simp)
        go_enter Try.func10, Try.ntmps10
        go_wp2_with fail
        refine (HIZ.out _).mono ?_
        rintro e w1 ⟨rfl, rfl⟩
        go_upto_region 3 with fail
        obtain ⟨n0, hn0⟩ : ∃ n0, w.heap.size = n0 := ⟨_, rfl⟩
        have HN0 := Lib.hid fun _ : Unit => hn0
        rw [hn0] at HR HB c0 ⊢
        generalize w.alloc (.cells (iCells (fr :: l)) 35) = w1 at *
        clear hn0
        go_wp2_with fail
        refine (HIF.out _).mono ?_
        rintro e w2 ⟨rfl, rfl⟩
        go_wp2_with (refine wpList_load_pto rfl 32 (.tmp 14) rfl n0 1 40 rfl 35 (fr :: l) _ HR.out (by have := HL.out; simp; omega) Try.underlying32 rfl shp_sz ?_)
        rw [shp_cons _ l HL.out]
        refine (HRG.out _).mono ?_
        rintro e w3 ⟨rfl, hb⟩
        have HB := Lib.hid (HB.out.trans (hb.mono (by have := HB.out.size; rw [HN0.out ()] at this; exact this)))
        clear hb c0 HRG HIF HIZ
        go_wp2_with fail
        go_ret2
        exact ⟨rfl, by rw [HN0.out ()]; exact HB.out⟩
    · have hE : laE fr l z = 7 := by unfold laE; rw [if_pos hsz, if_neg hfr]
      have hT : laT fr l z = ⟨#[]⟩ := by unfold laT; rw [if_neg (by rw [hE]; decide)]; rfl
      rw [hE, hT]
      rw [decide_eq_false hfr] at HIF
      have c0 : (w.alloc (.cells (iCells (fr :: l)) 35)).cell? ⟨w.heap.size, 0, none⟩ = some (.int .i64 fr) := i_at HR.out 0 (by simp)
      clear hsz hfr hE hT hl HRG
      go_enter Try.func10, Try.ntmps10
      go_wp2_with fail
      refine (HIZ.out _).mono ?_
      rintro e w1 ⟨rfl, rfl⟩
      go_wp2_with fail
      refine (HIF.out _).mono ?_
      rintro e w2 ⟨rfl, rfl⟩
      go_wp2_with fail
      go_ret2
      exact ⟨rfl, HB.out⟩
  · have hE : laE fr l z = 1 := by unfold laE; rw [if_neg hsz]
    have hT : laT fr l z = ⟨#[]⟩ := by unfold laT; rw [if_neg (by rw [hE]; decide)]; rfl
    rw [hE, hT]
    rw [decide_eq_false hsz] at HIZ
    clear hsz hE hT hl HRG HIF
    go_enter Try.func10, Try.ntmps10
    go_wp2_with fail
    refine (HIZ.out _).mono ?_
    rintro e w1 ⟨rfl, rfl⟩
    go_wp2_with fail
    go_ret2
    exact ⟨rfl, HB.out⟩
end Go.Proofs.Ytoohahjmiljpgaa

/- container/heap's down, up, Init, over any value with methods: what they do to the list that it stands for. Conditions: its methods Len, Less and Swap do to the list what they say. -/
namespace Go.Proofs.Ytoohahjmiljpgaa
open Go.RowKit
open M
/-- What is asked of a value's methods: Less and Swap, of a list that lies in a world. -/
structure HM {α : Type} (lt : α → α → Bool) (d : α) (T : TypeId) (rv : Value) (gn gl gs : Nat) (St : List α → World → Prop) : Prop where
  en : ∀ args w, (callFunc gn args).run Try.prog w = .ok (.enter gn args) w
  el : ∀ args w, (callFunc gl args).run Try.prog w = .ok (.enter gl args) w
  es : ∀ args w, (callFunc gs args).run Try.prog w = .ok (.enter gs args) w
  len : ∀ l w, St l w → ∃ v, (method (Try.prog.types.size + Made.depth) T rv "Len").run Try.prog w = .ok (gn, v) w ∧ Calls Try.prog gn #[v] w fun e w' => e = .returned (.int .i64 (l.length : Int)) ∧ St l w'
  less : ∀ l w i j, St l w → i < l.length → j < l.length → ∃ v, (method (Try.prog.types.size + Made.depth) T rv "Less").run Try.prog w = .ok (gl, v) w ∧ Calls Try.prog gl #[v, .int .i64 (i : Int), .int .i64 (j : Int)] w fun e w' => e = .returned (.bool (lt (l.getD i d) (l.getD j d))) ∧ St l w'
  swap : ∀ l w i j, St l w → i < l.length → j < l.length → ∃ v, (method (Try.prog.types.size + Made.depth) T rv "Swap").run Try.prog w = .ok (gs, v) w ∧ Calls Try.prog gs #[v, .int .i64 (i : Int), .int .i64 (j : Int)] w fun e w' => e = .returned (.tuple #[]) ∧ St (swq d l i j) w'
/-- What down leaves: the list sifted down; false, if that is as it was. -/
def DnP {α : Type} (lt : α → α → Bool) (d : α) (n : Nat) (l : List α) (i : Nat) (St : List α → World → Prop) (e : Ending) (w' : World) : Prop :=
  ∃ b, e = .returned (.bool b) ∧ St (hdn lt d n n l i) w' ∧ (b = false → hdn lt d n n l i = l)
set_option maxRecDepth 100000 in
set_option maxHeartbeats 1000000 in
theorem down_any {α : Type} (lt : α → α → Bool) (d : α) (T : TypeId) (rv : Value) (gn gl gs : Nat) (St : List α → World → Prop) (H : HM lt d T rv gn gl gs St) (l : List α) (i n : Nat) (w : World) (hs : St l w) (hn : n ≤ l.length) (hl : l.length ≤ 1000000) (hi : i ≤ 1000000) :
    Calls Try.prog 94 #[.iface T rv, .int .i64 (i : Int), .int .i64 (n : Int)] w fun e w' => DnP lt d n l i St e w' := by
  have HS := Lib.hid hs
  have HH := Lib.hid H
  have eL := H.el
  have eS := H.es
  have hlI : (l.length : Int) ≤ 1000000 := by omega
  have hnI : (n : Int) ≤ 1000000 := by omega
  have hiI : (i : Int) ≤ 1000000 := by omega
  have HLN := Lib.hid hn
  clear hs H hn hl hi
  go_enter Try.func94, Try.ntmps94
  go_wp2
  go_loopw [7] (fun jj wr => ∃ (j f : Nat) (m : List α), jj = .int .i64 j ∧ hdn lt d n f m j = hdn lt d n n l i ∧ St m wr ∧ m.length = l.length ∧ n ≤ j + f ∧ i ≤ j ∧ j ≤ 1000000 ∧ (j = i → m = l)) (fun jj _ => n - (intOf jj).toNat)
  case atStart => exact ⟨i, n, l, rfl, rfl, HS.out, rfl, by omega, Nat.le_refl _, by omega, fun _ => rfl⟩
  case round =>
    clear HS
    obtain ⟨j, f, m, rfl, hd, hst, hml, hnf, hij, hjb, hji⟩ := hrel
    have hjI : (j : Int) ≤ 1000000 := by omega
    have HD := Lib.hid hd
    have HST := Lib.hid hst
    have HML := Lib.hid hml
    have HNF := Lib.hid hnf
    have HIJ := Lib.hid hij
    have HJI := Lib.hid hji
    clear hd hst hml hnf hij hji hjb
    rcases Nat.lt_or_ge (2 * j + 1) n with hlt | hge
    · obtain ⟨f, rfl⟩ : ∃ f', f = f' + 1 := ⟨f - 1, by have := HNF.out; omega⟩
      obtain ⟨j1, hj1⟩ : ∃ j1, j1 = 2 * j + 1 := ⟨_, rfl⟩
      obtain ⟨j2, hj2⟩ : ∃ j2, j2 = 2 * j + 2 := ⟨_, rfl⟩
      have e1 : 2 * (j : Int) + 1 = (j1 : Int) := by omega
      have e2 : (j1 : Int) + 1 = (j2 : Int) := by omega
      have hltI : (j1 : Int) < (n : Int) := by omega
      have HJ1 := Lib.hid hj1
      have HJ2 := Lib.hid hj2
      have HLCH : Hid (lch lt d m j n = if j2 < n ∧ lt (m.getD j2 d) (m.getD j1 d) = true then j2 else j1) := Lib.hid (by rw [hj1, hj2]; rfl)
      have HB : Hid (2 * j + 1 < n) := Lib.hid hlt
      by_cases h2 : j2 < n
      · have h2I : (j2 : Int) < (n : Int) := by omega
        obtain ⟨v1, m1, c1⟩ := HH.out.less m wr j2 j1 HST.out (by have := HML.out; have := HLN.out; omega) (by have := HML.out; have := HLN.out; omega)
        simp [go_sem, Made.depth] at m1
        have C1 := Lib.hid c1
        clear c1 hj1 hj2 hlt
        cases hc : lt (m.getD j2 d) (m.getD j1 d)
        · rw [hc] at C1
          have HLC := Lib.hid (show lch lt d m j n = j1 by rw [HLCH.out, hc]; exact if_neg (by simp))
          clear hc h2
          go_wp2_with fail
          refine C1.out.mono ?_
          rintro e w7 ⟨rfl, hst⟩
          have HST2 := Lib.hid hst
          have HC : Hid (2 * j + 1 < n ∧ j < j1 ∧ j1 < n) := Lib.hid (by have := HB.out; have := HJ1.out; omega)
          clear hst C1 m1 HLCH HST HJ1 HJ2 HB
          obtain ⟨v2, m2, c2⟩ := HH.out.less m w7 j1 j HST2.out (by have := HML.out; have := HLN.out; have := HC.out; omega) (by have := HML.out; have := HLN.out; have := HC.out; omega)
          simp [go_sem, Made.depth] at m2
          have C2 := Lib.hid c2
          clear c2
          cases hb : lt (m.getD j1 d) (m.getD j d)
          · rw [hb] at C2
            have HDN : Hid (hdn lt d n (f + 1) m j = m) := Lib.hid (by unfold hdn; rw [if_neg (by have := HC.out; omega), HLC.out, hb]; rfl)
            clear hb
            go_wp2_with fail
            refine C2.out.mono ?_
            rintro e w8 ⟨rfl, hst⟩
            have HST3 := Lib.hid hst
            clear hst C2
            go_wp2_with fail
            go_ret
            exact ⟨decide (i < j), by (first | rfl | (congr 2; simp)), by rw [← HD.out, HDN.out]; exact HST3.out, fun h => by
              have h1 := of_decide_eq_false h
              rw [← HD.out, HDN.out]
              exact HJI.out (by have := HIJ.out; omega)⟩
          · rw [hb] at C2
            have HDN : Hid (hdn lt d n (f + 1) m j = hdn lt d n f (swq d m j j1) j1) := Lib.hid (by
              conv => lhs; unfold hdn
              rw [if_neg (by have := HC.out; omega), HLC.out, hb]; rfl)
            clear hb
            go_wp2_with fail
            refine C2.out.mono ?_
            rintro e w8 ⟨rfl, hst⟩
            obtain ⟨v3, m3, c3⟩ := HH.out.swap m w8 j j1 hst (by have := HML.out; have := HLN.out; have := HC.out; omega) (by have := HML.out; have := HLN.out; have := HC.out; omega)
            simp [go_sem, Made.depth] at m3
            have C3 := Lib.hid c3
            clear c3 hst C2 m2
            go_wp2_with fail
            refine C3.out.mono ?_
            rintro e w9 ⟨rfl, hst⟩
            have HST3 := Lib.hid hst
            clear hst C3 m3
            go_wp2_with fail
            go_roundw
            case rel => exact ⟨j1, f, swq d m j j1, rfl, by rw [← HDN.out, HD.out], HST3.out, by rw [swq_len, HML.out], by have := HNF.out; have := HC.out; omega, by have := HIJ.out; have := HC.out; omega, by have := HC.out; have := HLN.out; omega, fun h => by have := HIJ.out; have := HC.out; omega⟩
            case measure =>
              have := HC.out
              simp only [intOf, Int.toNat_natCast]
              omega
        · rw [hc] at C1
          have HLC := Lib.hid (show lch lt d m j n = j2 by rw [HLCH.out, hc]; exact if_pos ⟨h2, rfl⟩)
          clear hc
          go_wp2_with fail
          refine C1.out.mono ?_
          rintro e w7 ⟨rfl, hst⟩
          have HST2 := Lib.hid hst
          have HC : Hid (2 * j + 1 < n ∧ j < j2 ∧ j2 < n) := Lib.hid (by have := HB.out; have := HJ2.out; omega)
          clear hst C1 m1 HLCH HST HJ1 HJ2 HB h2
          obtain ⟨v2, m2, c2⟩ := HH.out.less m w7 j2 j HST2.out (by have := HML.out; have := HLN.out; have := HC.out; omega) (by have := HML.out; have := HLN.out; have := HC.out; omega)
          simp [go_sem, Made.depth] at m2
          have C2 := Lib.hid c2
          clear c2
          cases hb : lt (m.getD j2 d) (m.getD j d)
          · rw [hb] at C2
            have HDN : Hid (hdn lt d n (f + 1) m j = m) := Lib.hid (by unfold hdn; rw [if_neg (by have := HC.out; omega), HLC.out, hb]; rfl)
            clear hb
            go_wp2_with fail
            refine C2.out.mono ?_
            rintro e w8 ⟨rfl, hst⟩
            have HST3 := Lib.hid hst
            clear hst C2
            go_wp2_with fail
            go_ret
            exact ⟨decide (i < j), by (first | rfl | (congr 2; simp)), by rw [← HD.out, HDN.out]; exact HST3.out, fun h => by
              have h1 := of_decide_eq_false h
              rw [← HD.out, HDN.out]
              exact HJI.out (by have := HIJ.out; omega)⟩
          · rw [hb] at C2
            have HDN : Hid (hdn lt d n (f + 1) m j = hdn lt d n f (swq d m j j2) j2) := Lib.hid (by
              conv => lhs; unfold hdn
              rw [if_neg (by have := HC.out; omega), HLC.out, hb]; rfl)
            clear hb
            go_wp2_with fail
            refine C2.out.mono ?_
            rintro e w8 ⟨rfl, hst⟩
            obtain ⟨v3, m3, c3⟩ := HH.out.swap m w8 j j2 hst (by have := HML.out; have := HLN.out; have := HC.out; omega) (by have := HML.out; have := HLN.out; have := HC.out; omega)
            simp [go_sem, Made.depth] at m3
            have C3 := Lib.hid c3
            clear c3 hst C2 m2
            go_wp2_with fail
            refine C3.out.mono ?_
            rintro e w9 ⟨rfl, hst⟩
            have HST3 := Lib.hid hst
            clear hst C3 m3
            go_wp2_with fail
            go_roundw
            case rel => exact ⟨j2, f, swq d m j j2, rfl, by rw [← HDN.out, HD.out], HST3.out, by rw [swq_len, HML.out], by have := HNF.out; have := HC.out; omega, by have := HIJ.out; have := HC.out; omega, by have := HC.out; have := HLN.out; omega, fun h => by have := HIJ.out; have := HC.out; omega⟩
            case measure =>
              have := HC.out
              simp only [intOf, Int.toNat_natCast]
              omega
      · have HLC := Lib.hid (show lch lt d m j n = j1 by rw [HLCH.out]; exact if_neg (fun h => h2 h.1))
        have h2I : ¬ (j2 : Int) < (n : Int) := by omega
        have HC : Hid (2 * j + 1 < n ∧ j < j1 ∧ j1 < n) := Lib.hid (by omega)
        have HST2 := HST
        clear hj1 hj2 hlt HLCH HST HJ1 HJ2 HB h2
        obtain ⟨v2, m2, c2⟩ := HH.out.less m wr j1 j HST2.out (by have := HML.out; have := HLN.out; have := HC.out; omega) (by have := HML.out; have := HLN.out; have := HC.out; omega)
        simp [go_sem, Made.depth] at m2
        have C2 := Lib.hid c2
        clear c2
        cases hb : lt (m.getD j1 d) (m.getD j d)
        · rw [hb] at C2
          have HDN : Hid (hdn lt d n (f + 1) m j = m) := Lib.hid (by unfold hdn; rw [if_neg (by have := HC.out; omega), HLC.out, hb]; rfl)
          clear hb
          go_wp2_with fail
          refine C2.out.mono ?_
          rintro e w8 ⟨rfl, hst⟩
          have HST3 := Lib.hid hst
          clear hst C2
          go_wp2_with fail
          go_ret
          exact ⟨decide (i < j), by (first | rfl | (congr 2; simp)), by rw [← HD.out, HDN.out]; exact HST3.out, fun h => by
            have h1 := of_decide_eq_false h
            rw [← HD.out, HDN.out]
            exact HJI.out (by have := HIJ.out; omega)⟩
        · rw [hb] at C2
          have HDN : Hid (hdn lt d n (f + 1) m j = hdn lt d n f (swq d m j j1) j1) := Lib.hid (by
            conv => lhs; unfold hdn
            rw [if_neg (by have := HC.out; omega), HLC.out, hb]; rfl)
          clear hb
          go_wp2_with fail
          refine C2.out.mono ?_
          rintro e w8 ⟨rfl, hst⟩
          obtain ⟨v3, m3, c3⟩ := HH.out.swap m w8 j j1 hst (by have := HML.out; have := HLN.out; have := HC.out; omega) (by have := HML.out; have := HLN.out; have := HC.out; omega)
          simp [go_sem, Made.depth] at m3
          have C3 := Lib.hid c3
          clear c3 hst C2 m2
          go_wp2_with fail
          refine C3.out.mono ?_
          rintro e w9 ⟨rfl, hst⟩
          have HST3 := Lib.hid hst
          clear hst C3 m3
          go_wp2_with fail
          go_roundw
          case rel => exact ⟨j1, f, swq d m j j1, rfl, by rw [← HDN.out, HD.out], HST3.out, by rw [swq_len, HML.out], by have := HNF.out; have := HC.out; omega, by have := HIJ.out; have := HC.out; omega, by have := HC.out; have := HLN.out; omega, fun h => by have := HIJ.out; have := HC.out; omega⟩
          case measure =>
            have := HC.out
            simp only [intOf, Int.toNat_natCast]
            omega
    · have hgeI : ¬ 2 * (j : Int) + 1 < (n : Int) := by omega
      have HDN : Hid (hdn lt d n f m j = m) := Lib.hid (by
        cases f with
        | zero => rfl
        | succ f => unfold hdn; rw [if_pos hge])
      clear hge
      go_wp2_with fail
      go_ret
      exact ⟨decide (i < j), by (first | rfl | (congr 2; simp)), by rw [← HD.out, HDN.out]; exact HST.out, fun h => by
        have h1 := of_decide_eq_false h
        rw [← HD.out, HDN.out]
        exact HJI.out (by have := HIJ.out; omega)⟩
end Go.Proofs.Ytoohahjmiljpgaa

/- container/heap's up, over any value with methods. Conditions: its methods do to the list that it stands for what they say. -/
namespace Go.Proofs.Ytoohahjmiljpgaa
open Go.RowKit
open M
def UpP {α : Type} (lt : α → α → Bool) (d : α) (l : List α) (j : Nat) (St : List α → World → Prop) (e : Ending) (w' : World) : Prop := e = .returned (.tuple #[]) ∧ St (hup lt d (l.length + 1) l j) w'
set_option maxRecDepth 100000 in
set_option maxHeartbeats 1000000 in
theorem up_any {α : Type} (lt : α → α → Bool) (d : α) (T : TypeId) (rv : Value) (gn gl gs : Nat) (St : List α → World → Prop) (H : HM lt d T rv gn gl gs St) (l : List α) (i : Nat) (w : World) (hs : St l w) (hi : i < l.length) (hl : l.length ≤ 1000000) :
    Calls Try.prog 83 #[.iface T rv, .int .i64 (i : Int)] w fun e w' => UpP lt d l i St e w' := by
  have HS := Lib.hid hs
  have HH := Lib.hid H
  have eL := H.el
  have eS := H.es
  have HLN := Lib.hid hi
  have HLB := Lib.hid hl
  clear hs H hi hl
  go_enter Try.func83, Try.ntmps83
  go_wp2
  go_loopw [1] (fun jj wr => ∃ (j f : Nat) (m : List α), jj = .int .i64 j ∧ hup lt d (f + 1) m j = hup lt d (l.length + 1) l i ∧ St m wr ∧ m.length = l.length ∧ j ≤ f ∧ j < l.length) (fun jj _ => (intOf jj).toNat)
  case atStart => exact ⟨i, l.length, l, rfl, rfl, HS.out, rfl, by have := HLN.out; omega, HLN.out⟩
  case round =>
    clear HS HLN
    obtain ⟨j, f, m, rfl, hd, hst, hml, hjf, hjl⟩ := hrel
    have hjI : (j : Int) ≤ 1000000 := by have := HLB.out; omega
    have HD := Lib.hid hd
    have HST := Lib.hid hst
    have HML := Lib.hid hml
    have HJF := Lib.hid hjf
    have HJL := Lib.hid hjl
    clear hd hst hml hjf hjl
    by_cases h0 : j = 0
    · subst h0
      have HDN : Hid (hup lt d (f + 1) m 0 = m) := Lib.hid (by unfold hup; exact if_pos rfl)
      go_wp2_with fail
      go_end0
      exact ⟨rfl, by rw [← HD.out, HDN.out]; exact HST.out⟩
    · obtain ⟨p, hp⟩ : ∃ p, p = pa j := ⟨_, rfl⟩
      have hpj : p < j := by unfold pa at hp; omega
      have ep : ((j : Int) - 1) / 2 = (p : Int) := by unfold pa at hp; omega
      have hj1 : (1 : Int) ≤ (j : Int) := by omega
      have hne : ((p : Int) == (j : Int)) = false := by rw [beq_eq_false_iff_ne]; omega
      have HP := Lib.hid hp
      have HPJ := Lib.hid hpj
      obtain ⟨v1, m1, c1⟩ := HH.out.less m wr j p HST.out (by have := HML.out; have := HJL.out; omega) (by have := HML.out; have := HJL.out; omega)
      simp [go_sem, Made.depth] at m1
      have C1 := Lib.hid c1
      clear c1 hp hpj h0
      cases hb : lt (m.getD j d) (m.getD p d)
      · rw [hb] at C1
        have HDN : Hid (hup lt d (f + 1) m j = m) := Lib.hid (by unfold hup; rw [if_neg (by have := HP.out; have := HPJ.out; omega), ← HP.out, hb]; rfl)
        clear hb
        go_wp2_with fail
        refine C1.out.mono ?_
        rintro e w7 ⟨rfl, hst⟩
        have HST2 := Lib.hid hst
        clear hst C1 HST
        go_wp2_with fail
        go_end0
        exact ⟨rfl, by rw [← HD.out, HDN.out]; exact HST2.out⟩
      · rw [hb] at C1
        obtain ⟨f, rfl⟩ : ∃ f', f = f' + 1 := ⟨f - 1, by have := HJF.out; have := HPJ.out; omega⟩
        have HDN : Hid (hup lt d (f + 1 + 1) m j = hup lt d (f + 1) (swq d m p j) p) := Lib.hid (by
          conv => lhs; unfold hup
          rw [if_neg (by have := HP.out; have := HPJ.out; omega), ← HP.out, hb]; rfl)
        clear hb
        go_wp2_with fail
        refine C1.out.mono ?_
        rintro e w7 ⟨rfl, hst⟩
        obtain ⟨v3, m3, c3⟩ := HH.out.swap m w7 p j hst (by have := HML.out; have := HJL.out; have := HPJ.out; omega) (by have := HML.out; have := HJL.out; omega)
        simp [go_sem, Made.depth] at m3
        have C3 := Lib.hid c3
        clear hst C1 HST c3 m1
        go_wp2_with fail
        refine C3.out.mono ?_
        rintro e w9 ⟨rfl, hst⟩
        have HST3 := Lib.hid hst
        clear hst C3 m3
        go_wp2_with fail
        go_roundw
        case rel => exact ⟨p, f, swq d m p j, rfl, by rw [← HDN.out, HD.out], HST3.out, by rw [swq_len, HML.out], by have := HJF.out; have := HPJ.out; omega, by have := HJL.out; have := HPJ.out; omega⟩
        case measure =>
          have := HPJ.out
          simp only [intOf, Int.toNat_natCast]
          omega
end Go.Proofs.Ytoohahjmiljpgaa
