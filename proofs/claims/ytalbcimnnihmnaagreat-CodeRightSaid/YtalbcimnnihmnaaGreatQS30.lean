/-
  Contracts and plain facts that the laws share; each piece is headed by what it holds and its conditions.
-/
import Derived.Test.YtalbcimnnihmnaaGreatQS23
import Derived.Test.YtalbcimnnihmnaaGreatQWkc
import Derived.Test.YtalbcimnnihmnaaGreatQS14
import Derived.Test.YtalbcimnnihmnaaGreatQS28
import Derived.Test.YtalbcimnnihmnaaGreatQS8
import Derived.Test.YtalbcimnnihmnaaGreatQS6
import Derived.Test.YtalbcimnnihmnaaGreatQS20
import Derived.Test.YtalbcimnnihmnaaGreatQS5
import Derived.Shelf.Strings.Repeat
import Derived.Deep.RegionHeld3
import Derived.Deep.RegionWith
import Derived.Deep.QuietTactic
import Derived.BigQuiet
import Derived.Lib.QuietBelow
import Derived.Deep.Cut
import Derived.Laws.AppendOwn
import Derived.Laws.OwnMore

/- strings.Repeat of a zero byte, and pack's padded. Conditions: sizes of up to 1000 bytes. -/
namespace Go.Proofs.YtalbcimnnihmnaaGreat
open Go.RowKit
open M
def laysRep_ren : Go.Shelf.Ren := ⟨fun | 99 => 77 | 105 => 56 | 165 => 78 | 166 => 79 | 169 => 81 | 170 => 80 | 206 => 95 | 212 => 76 | 240 => 96 | 241 => 97 | 263 => 93 | 264 => 94 | 276 => 98 | 277 => 99 | n => n, fun | 0 => 0 | 3 => 3 | 4 => 4 | 5 => 5 | 9 => 9 | 20 => 20 | 37 => 57 | 46 => 128 | 51 => 146 | 53 => 148 | 70 => 133 | 72 => 135 | 75 => 137 | 76 => 138 | 80 => 64 | 109 => 130 | 127 => 156 | 146 => 152 | 148 => 154 | 164 => 158 | n => n, fun | n => n⟩
theorem laysRep : Go.Proofs.Lays.n105 Tryz.prog laysRep_ren := {
  mixed := by kernel_rfl
  f99 := Tryz.func77.trans (congrArg some (by kernel_rfl))
  f105 := Tryz.func56.trans (congrArg some (by kernel_rfl))
  f165 := Tryz.func78.trans (congrArg some (by kernel_rfl))
  f166 := Tryz.func79.trans (congrArg some (by kernel_rfl))
  f169 := Tryz.func81.trans (congrArg some (by kernel_rfl))
  f170 := Tryz.func80.trans (congrArg some (by kernel_rfl))
  f206 := Tryz.func95.trans (congrArg some (by kernel_rfl))
  f212 := Tryz.func76.trans (congrArg some (by kernel_rfl))
  f240 := Tryz.func96.trans (congrArg some (by kernel_rfl))
  f241 := Tryz.func97.trans (congrArg some (by kernel_rfl))
  f263 := Tryz.func93.trans (congrArg some (by kernel_rfl))
  f264 := Tryz.func94.trans (congrArg some (by kernel_rfl))
  f276 := Tryz.func98.trans (congrArg some (by kernel_rfl))
  f277 := Tryz.func99.trans (congrArg some (by kernel_rfl))
  t0 := Tryz.underlying0
  a0 := Tryz.isAgg0
  z0 := Tryz.sizeOf0
  v0 := Tryz.zeroValue0
  t3 := Tryz.underlying3
  a3 := Tryz.isAgg3
  z3 := Tryz.sizeOf3
  v3 := Tryz.zeroValue3
  t4 := Tryz.underlying4
  a4 := Tryz.isAgg4
  z4 := Tryz.sizeOf4
  v4 := Tryz.zeroValue4
  t5 := Tryz.underlying5
  a5 := Tryz.isAgg5
  z5 := Tryz.sizeOf5
  v5 := Tryz.zeroValue5
  t9 := Tryz.underlying9
  a9 := Tryz.isAgg9
  z9 := Tryz.sizeOf9
  v9 := Tryz.zeroValue9
  t20 := Tryz.underlying20
  a20 := Tryz.isAgg20
  z20 := Tryz.sizeOf20
  v20 := Tryz.zeroValue20
  t37 := Tryz.underlying57
  a37 := Tryz.isAgg57
  z37 := Tryz.sizeOf57
  v37 := Tryz.zeroValue57
  t46 := Tryz.underlying128
  a46 := Tryz.isAgg128
  z46 := Tryz.sizeOf128
  v46 := Tryz.zeroValue128
  t51 := Tryz.underlying146
  a51 := Tryz.isAgg146
  z51 := Tryz.sizeOf146
  v51 := Tryz.zeroValue146
  t53 := Tryz.underlying148
  a53 := Tryz.isAgg148
  z53 := Tryz.sizeOf148
  v53 := Tryz.zeroValue148
  t70 := Tryz.underlying133
  a70 := Tryz.isAgg133
  z70 := Tryz.sizeOf133
  v70 := Tryz.zeroValue133
  t72 := Tryz.underlying135
  a72 := Tryz.isAgg135
  z72 := Tryz.sizeOf135
  v72 := Tryz.zeroValue135
  t75 := Tryz.underlying137
  a75 := Tryz.isAgg137
  z75 := Tryz.sizeOf137
  v75 := Tryz.zeroValue137
  t76 := Tryz.underlying138
  a76 := Tryz.isAgg138
  z76 := Tryz.sizeOf138
  v76 := Tryz.zeroValue138
  t109 := Tryz.underlying130
  a109 := Tryz.isAgg130
  z109 := Tryz.sizeOf130
  v109 := Tryz.zeroValue130
  t127 := Tryz.underlying156
  a127 := Tryz.isAgg156
  z127 := Tryz.sizeOf156
  v127 := Tryz.zeroValue156
  t146 := Tryz.underlying152
  a146 := Tryz.isAgg152
  z146 := Tryz.sizeOf152
  v146 := Tryz.zeroValue152
  t148 := Tryz.underlying154
  a148 := Tryz.isAgg154
  z148 := Tryz.sizeOf154
  v148 := Tryz.zeroValue154
  t164 := Tryz.underlying158
  a164 := Tryz.isAgg158
  z164 := Tryz.sizeOf158
  v164 := Tryz.zeroValue158 }
theorem repExtra : Builder.Extra Tryz.prog laysRep_ren := {
  sizeBuilder := by kernel_rfl
  liesBuilder := by kernel_rfl
  t5 := Tryz.underlying5
  a5 := Tryz.isAgg5
  z5 := Tryz.sizeOf5
  v5 := Tryz.zeroValue5
  infoByte := by kernel_rfl
  cellsByte := by kernel_rfl
  sizeByte := by kernel_rfl
  neB5 := by decide }
theorem repL_zero : ∀ n, Lib.repeatL [(0 : UInt8)] n = List.replicate n 0
  | 0 => rfl
  | n + 1 => by
    have := repL_zero n
    rw [List.replicate_succ, ← this]
    rfl
theorem repeat_zero (n : Nat) (w : World) (hn : n ≤ 1000) :
    Calls Tryz.prog 56 #[.string { data := #[0] }, .int .i64 n] w fun e w' => e = .returned (.string (ofB (List.replicate n 0))) ∧ Below w.heap.size w w' := by
  refine (Any.strings_Repeat laysRep repExtra { data := #[0] } n w (by omega) (by show 1 * n ≤ _; omega)).mono fun e w' h => ⟨?_, h.2⟩
  rw [h.1]
  show Ending.returned (Value.string ⟨(Lib.repeatL [(0 : UInt8)] n).toArray⟩) = _
  rw [repL_zero]
  rfl
theorem padded_any (s : ByteArray) (z : Nat) (w : World) (hz : s.size + 2 ≤ z) (hz2 : z ≤ 1000) :
    Calls Tryz.prog 24 #[.string s, .int .i64 z] w fun e w' => e = .returned (.string (s ++ ofB (List.replicate (z - 2 - s.size) 0))) ∧ Below w.heap.size w w' := by
  have H := Lib.hid fun w => repeat_zero (z - 2 - s.size) w (by omega)
  have e1 : wrap64 ((z : Int) - 2) = ((z - 2 : Nat) : Int) := by rw [wrap64]; omega
  have e2 : wrap64 (((z - 2 : Nat) : Int) - (s.size : Int)) = ((z - 2 - s.size : Nat) : Int) := by rw [wrap64]; omega
  obtain ⟨n, hn⟩ : ∃ n, z - 2 - s.size = n := ⟨_, rfl⟩
  have hZ : (z : Int) - 2 - (s.size : Int) = (n : Int) := by omega
  rw [hn] at H e2 ⊢
  have hts : (ofB (List.replicate n 0)).size = n := by show (List.replicate n (0 : UInt8)).toArray.size = n; simp
  have hn1 : n ≤ 1000 := by omega
  clear hn
  generalize ofB (List.replicate n 0) = t at *
  go_enter Tryz.func24, Tryz.ntmps24
  go_wp2_with fail
  refine (H.out _).mono ?_
  rintro e w' ⟨rfl, hb⟩
  have HB := Lib.hid hb
  clear hb e1 e2
  go_wp2
  go_ret
  exact ⟨rfl, HB.out⟩
end Go.Proofs.YtalbcimnnihmnaaGreat

/- Layer 19: pack's Lay. Conditions: what pvq's Bits and pack's Right answer. -/
namespace Go.Proofs.YtalbcimnnihmnaaGreat
open Go.RowKit
open M
theorem bt_pad (bs : List Bool) (m j : Nat) : bt (bs ++ List.replicate m false) j = bt bs j := by
  unfold bt
  rw [List.getD_eq_getElem?_getD, List.getElem?_append, List.getD_eq_getElem?_getD]
  by_cases h : j < bs.length
  · rw [if_pos h]
  · rw [if_neg h, List.getElem?_replicate, List.getElem?_eq_none (by omega : bs.length ≤ j)]
    split <;> rfl
theorem byteAt_pad (bs : List Bool) (m i : Nat) : byteAt (bs ++ List.replicate m false) i = byteAt bs i := by
  unfold byteAt
  simp only [bt_pad]
/-- Bits padded with zero bits are bytes padded with zero bytes. -/
theorem pack_pad (bs : List Bool) (m N : Nat) (h : bs.length + m = 8 * N) : pack bs ++ List.replicate (N - (pack bs).length) 0 = pack (bs ++ List.replicate m false) := by
  have hl : (pack bs).length = (bs.length + 7) / 8 := pack_length bs
  have hn : (bs ++ List.replicate m false).length = 8 * N := by rw [List.length_append, List.length_replicate, h]
  have hr : pack (bs ++ List.replicate m false) = packN bs N := by
    unfold pack
    rw [hn, show (8 * N + 7) / 8 = N by omega]
    unfold packN
    exact List.map_congr_left fun i _ => by rw [byteAt_pad]
  rw [hr]
  apply List.ext_getElem?
  intro i
  by_cases h1 : i < (bs.length + 7) / 8
  · rw [List.getElem?_append_left (by omega), packN_get bs N i (by omega)]
    exact packN_get bs _ i h1
  · rw [List.getElem?_append_right (by omega), List.getElem?_replicate]
    by_cases h2 : i < N
    · rw [packN_get bs N i h2, if_pos (by omega), byteAt_out bs i (by omega)]
      rfl
    · rw [if_neg (by omega), List.getElem?_eq_none (by rw [packN_length]; omega)]
theorem shp_sz : (Tryz.prog.info? 30).map (·.size) = some 40 := by kernel_rfl
theorem pck_sz (l : List Int) (h : l.length = 41) : (Tryz.prog.info? 38).map (·.size) = some (iCells l).size := by
  rw [iCells_size, h]; kernel_rfl
theorem shp_cons (a : Int) (l : List Int) (h : l.length = 40) : pto (a :: l) 1 40 = l := by
  refine Eq.symm (tm_ext _ 40 _ h fun i hi => ?_)
  rw [Nat.add_comm 1 i]
  rfl
/-- What is laid of a right shape, byte by byte. -/
theorem lay_text (fr z : Nat) (l : List Int) (h : rg19 l (z : Int) = true) : (ofB (pack (yb19 fr l 8))).size + 2 ≤ z ∧
    (ofB (pack (yb19 fr l 8)) ++ ofB (List.replicate (z - 2 - (ofB (pack (yb19 fr l 8))).size) 0)) ++ ld15 (sm15 65535 (bl (ofB (pack (yb19 fr l 8)) ++ ofB (List.replicate (z - 2 - (ofB (pack (yb19 fr l 8))).size) 0)))) = ly19 fr l z := by
  obtain ⟨⟨h1, h2⟩, h3, h4⟩ := rg_parts l z h
  have hp := pb_pkb fr z l h
  have hlen := pkb_len fr (sdN l) (ixN l) z (by unfold sdN; rw [List.length_map]; exact pto_len _ _ _) (by simp [ixN]) h1
  rw [← hp] at hlen
  unfold pb19 at hlen
  rw [List.length_append, List.length_replicate] at hlen
  have hsz : (ofB (pack (yb19 fr l 8))).size = ((yb19 fr l 8).length + 7) / 8 := by rw [ofB_size, pack_length]
  have hpad := pack_pad (yb19 fr l 8) (8 * z - 16 - (yb19 fr l 8).length) (z - 2) (by omega)
  refine ⟨by rw [hsz]; omega, ?_⟩
  have e : ofB (pack (yb19 fr l 8)) ++ ofB (List.replicate (z - 2 - (ofB (pack (yb19 fr l 8))).size) 0) = ofB (pack (pb19 fr l z)) := by
    apply bl_inj
    rw [bl_append, bl_ofB, bl_ofB, bl_ofB, ofB_size, hpad]
    rfl
  rw [e]
  rfl
set_option maxRecDepth 100000 in
set_option maxHeartbeats 2000000 in
theorem layOk (HV : BvOk) (HG : RigOk) : LayOk := by
  intro fr l z w hl
  have HIZ := Lib.hid fun w => isize_any z w
  have HIF := Lib.hid fun w => iframe_any fr w
  have HRG := Lib.hid fun w => HG l z w hl
  have HR : Hid (Row (w.alloc (.cells (iCells (fr :: l)) 38)) w.heap.size 38 (iCells (fr :: l))) := Lib.hid (heap_alloc_new _ _)
  have HB : Hid (Below w.heap.size w (w.alloc (.cells (iCells (fr :: l)) 38))) := Lib.hid ((Below.refl _ _).alloc (Nat.le_refl _) _)
  have HL := Lib.hid hl
  by_cases hsz : 12 ≤ z ∧ z ≤ 24
  · rw [decide_eq_true hsz] at HIZ
    by_cases hfr : 0 ≤ fr ∧ fr ≤ 65535
    · rw [decide_eq_true hfr] at HIF
      cases hrg : rg19 l z with
      | true =>
        obtain ⟨f, rfl⟩ : ∃ f : Nat, fr = (f : Int) := ⟨fr.toNat, by omega⟩
        obtain ⟨n, rfl⟩ : ∃ n : Nat, z = (n : Int) := ⟨z.toNat, by omega⟩
        obtain ⟨hE, hT⟩ := laE_in f n l (by omega) (by omega) hrg
        obtain ⟨_, hst, hpl⟩ := rg_parts l n hrg
        have HS := Lib.hid ((rt_iff (sds l)).1 hst)
        have HP12 : Hid (∀ b, b < 8 → pl13 (sys l b) ≤ 12) := Lib.hid fun b hb => by rw [hpl b hb]; exact gk_le l _ b hb
        have HTX := Lib.hid (lay_text f n l hrg)
        have HF := Lib.hid (show f ≤ 65535 by omega)
        have HN := Lib.hid (show n ≤ 24 by omega)
        rw [hrg] at HRG
        rw [hE, hT]
        generalize ly19 f l n = T at *
        clear hsz hfr hrg hE hT hst hpl hl
        go_enter Tryz.func7, Tryz.ntmps7
        go_wp2_with fail
        refine (HIZ.out _).mono ?_
        rintro e w1 ⟨rfl, rfl⟩
        go_upto_region 3 with fail
        obtain ⟨n0, hn0⟩ : ∃ n0, w.heap.size = n0 := ⟨_, rfl⟩
        have HN0 := Lib.hid fun _ : Unit => hn0
        rw [hn0] at HR HB ⊢
        generalize w.alloc (.cells (iCells ((f : Int) :: l)) 38) = w1 at *
        clear hn0
        have c0 : w1.cell? ⟨n0, 0, none⟩ = some (.int .i64 (f : Int)) := i_at HR.out 0 (by simp)
        go_wp2_with fail
        refine (HIF.out _).mono ?_
        rintro e w2 ⟨rfl, rfl⟩
        go_wp2_with (refine wpList_load_pto rfl 30 (.tmp 14) rfl n0 1 40 rfl 38 ((f : Int) :: l) _ HR.out (by have := HL.out; simp; omega) Tryz.underlying30 rfl shp_sz ?_)
        rw [shp_cons _ l HL.out]
        refine (HRG.out _).mono ?_
        rintro e w3 ⟨rfl, hb⟩
        have HR := Lib.hid (HR.out.box hb)
        have HB := Lib.hid (HB.out.trans (hb.mono (by have := HB.out.size; rw [HN0.out ()] at this; exact this)))
        clear hb c0 HRG HIF HIZ
        have HPZ := Lib.hid (pck_sz ((f : Int) :: l) (by have := HL.out; simp; omega))
        obtain ⟨g, hg⟩ : ∃ g, w3.heap.size = g := ⟨_, rfl⟩
        have HW : Hid (Wr (w3.alloc (.cells #[.slice none 0 0, .int .i64 0] 59)) (g + 1) g (.slice none 0 0) []) := Lib.hid (wr_new w3 (g + 1) g hg (by omega))
        have HGN : Hid (n0 ≤ g) := Lib.hid (by have := HB.out.size; rw [HN0.out ()] at this; omega)
        have HB4 := Lib.hid (HB.out.alloc (show n0 ≤ w3.heap.size by have := HGN.out; omega) (.cells #[.slice none 0 0, .int .i64 0] 59))
        have HR4 := Lib.hid (Row.alloc HR.out (.cells #[.slice none 0 0, .int .i64 0] 59))
        have HG1 : Hid (g + 1 ≤ (w3.alloc (.cells #[.slice none 0 0, .int .i64 0] 59)).heap.size) := Lib.hid (by simp; omega)
        clear HR HB
        go_upto_region 8 with fail
        clear hg
        generalize w3.alloc (.cells #[.slice none 0 0, .int .i64 0] 59) = w4 at *
        go_wp2_with (refine wpList_load_row rfl 38 (.tmp 2) rfl n0 rfl 38 (iCells ((f : Int) :: l)) (0, 0) _ HR4.out Tryz.underlying38 rfl HPZ.out ?_)
        refine (psplit_any HV f l (g + 1) g (.slice none 0 0) _ HF.out HL.out HS.out HP12.out HG1.out HW.out).mono ?_
        rintro e w5 ⟨rfl, v5, hw, hm⟩
        have HW := Lib.hid hw
        have HB := Lib.hid (HB4.out.trans (hm.below (B := n0) HGN.out (fun k hk => by simp [Value.ownBlock] at hk) (by have := HG1.out; have := HGN.out; omega)))
        clear hw hm HB4 HR4 HG1
        obtain ⟨s, hs⟩ : ∃ s, ofB (pack (yb19 f l 8)) = s := ⟨_, rfl⟩
        rw [hs] at HTX
        have HBY : Hid (Calls Tryz.prog 25 #[.pointer (some ⟨g, 0, none⟩)] w5 fun e w' => e = .returned (.string s) ∧ w' = w5) := Lib.hid (by rw [← hs]; exact bytes_wr _ _ _ _ _ HW.out)
        clear hs HW
        have HPD := Lib.hid fun w => padded_any s n w HTX.out.1 (by have := HN.out; omega)
        have hsz2 : (s ++ ofB (List.replicate (n - 2 - s.size) 0)).size ≤ 10000 := by
          rw [← bl_length, bl_append, List.length_append, bl_length, bl_ofB, List.length_replicate]
          have := HN.out
          have := HTX.out.1
          omega
        have hT := HTX.out.2
        obtain ⟨t, ht⟩ : ∃ t, s ++ ofB (List.replicate (n - 2 - s.size) 0) = t := ⟨_, rfl⟩
        rw [ht] at hT hsz2 HPD
        have HSL := Lib.hid fun w => seal_any t w hsz2
        rw [hT] at HSL
        clear ht hT hsz2 HTX
        go_wp2_with fail
        refine HBY.out.mono ?_
        rintro e w6 ⟨rfl, rfl⟩
        go_wp2_with fail
        refine (HPD.out _).mono ?_
        rintro e w7 ⟨rfl, hb⟩
        have HB := Lib.hid (HB.out.trans (hb.mono (by have := HB.out.size; rw [HN0.out ()] at this; exact this)))
        clear hb
        go_wp2_with fail
        refine (HSL.out _).mono ?_
        rintro e w8 ⟨rfl, hb⟩
        have HB := Lib.hid (HB.out.trans (hb.mono (by have := HB.out.size; rw [HN0.out ()] at this; exact this)))
        clear hb
        go_wp2_with fail
        go_ret2
        exact ⟨rfl, by rw [HN0.out ()]; exact HB.out⟩
      | false =>
        have hE : laE fr l z = 3 := by unfold laE; rw [if_pos hsz, if_pos hfr, if_neg (by rw [hrg]; decide)]
        have hT : laT fr l z = ⟨#[]⟩ := by unfold laT; rw [if_neg (by rw [hE]; decide)]; rfl
        rw [hE, hT]
        rw [hrg] at HRG
        clear hsz hfr hrg hE hT hl
        have c0 : (w.alloc (.cells (iCells (fr :: l)) 38)).cell? ⟨w.heap.size, 0, none⟩ = some (.int .i64 fr) := i_at HR.out 0 (by simp)
        go_enter Tryz.func7, Tryz.ntmps7
        go_wp2_with fail
        refine (HIZ.out _).mono ?_
        rintro e w1 ⟨rfl, rfl⟩
        go_upto_region 3 with fail
        obtain ⟨n0, hn0⟩ : ∃ n0, w.heap.size = n0 := ⟨_, rfl⟩
        have HN0 := Lib.hid fun _ : Unit => hn0
        rw [hn0] at HR HB c0 ⊢
        generalize w.alloc (.cells (iCells (fr :: l)) 38) = w1 at *
        clear hn0
        go_wp2_with fail
        refine (HIF.out _).mono ?_
        rintro e w2 ⟨rfl, rfl⟩
        go_wp2_with (refine wpList_load_pto rfl 30 (.tmp 14) rfl n0 1 40 rfl 38 (fr :: l) _ HR.out (by have := HL.out; simp; omega) Tryz.underlying30 rfl shp_sz ?_)
        rw [shp_cons _ l HL.out]
        refine (HRG.out _).mono ?_
        rintro e w3 ⟨rfl, hb⟩
        have HB := Lib.hid (HB.out.trans (hb.mono (by have := HB.out.size; rw [HN0.out ()] at this; exact this)))
        clear hb c0 HRG HIF HIZ
        go_wp2_with fail
        go_ret2
        exact ⟨rfl, by rw [HN0.out ()]; exact HB.out⟩
    · have hE : laE fr l z = 7 := by unfold laE; rw [if_pos hsz, if_neg hfr]
      have hT : laT fr l z = ⟨#[]⟩ := by unfold laT; rw [if_neg (by rw [hE]; decide)]; rfl
      rw [hE, hT]
      rw [decide_eq_false hfr] at HIF
      have c0 : (w.alloc (.cells (iCells (fr :: l)) 38)).cell? ⟨w.heap.size, 0, none⟩ = some (.int .i64 fr) := i_at HR.out 0 (by simp)
      clear hsz hfr hE hT hl HRG
      go_enter Tryz.func7, Tryz.ntmps7
      go_wp2_with fail
      refine (HIZ.out _).mono ?_
      rintro e w1 ⟨rfl, rfl⟩
      go_wp2_with fail
      refine (HIF.out _).mono ?_
      rintro e w2 ⟨rfl, rfl⟩
      go_wp2_with fail
      go_ret2
      exact ⟨rfl, HB.out⟩
  · have hE : laE fr l z = 1 := by unfold laE; rw [if_neg hsz]
    have hT : laT fr l z = ⟨#[]⟩ := by unfold laT; rw [if_neg (by rw [hE]; decide)]; rfl
    rw [hE, hT]
    rw [decide_eq_false hsz] at HIZ
    clear hsz hE hT hl HRG HIF
    go_enter Tryz.func7, Tryz.ntmps7
    go_wp2_with fail
    refine (HIZ.out _).mono ?_
    rintro e w1 ⟨rfl, rfl⟩
    go_wp2_with fail
    go_ret2
    exact ⟨rfl, HB.out⟩
end Go.Proofs.YtalbcimnnihmnaaGreat

/- give's queue: how its bands lie; without, isAhead, Len, Less, Swap. Conditions: steps and pulses up to 1000000. -/
namespace Go.Proofs.YtalbcimnnihmnaaGreat
open Go.RowKit
open M
/-- A band of a queue, as it lies. -/
def tV (p : Nat × Int × Nat) : List Value := [.int .i64 (p.1 : Int), .int .i64 p.2.1, .int .i64 (p.2.2 : Int)]
def tA (p : Nat × Int × Nat) : Value := .agg #[.int .i64 (p.1 : Int), .int .i64 p.2.1, .int .i64 (p.2.2 : Int)]
def wV : List (Nat × Int × Nat) → List Value
  | [] => []
  | p :: l => tV p ++ wV l
theorem wV_len (l : List (Nat × Int × Nat)) : (wV l).length = l.length * 3 := by
  induction l with
  | nil => rfl
  | cons p l ih => rw [wV, List.length_append, ih, List.length_cons]; show 3 + _ = _; omega
theorem wV_app (l m : List (Nat × Int × Nat)) : wV (l ++ m) = wV l ++ wV m := by
  induction l with
  | nil => rfl
  | cons p l ih => rw [List.cons_append, wV, wV, ih, List.append_assoc]
theorem wV_one (l : List (Nat × Int × Nat)) : ∀ u ∈ wV l, u.oneCell' = true := by
  induction l with
  | nil => intro u hu; simp [wV] at hu
  | cons p l ih =>
    intro u hu
    rw [wV, List.mem_append] at hu
    rcases hu with hu | hu
    · simp only [tV, List.mem_cons, List.not_mem_nil, or_false] at hu
      rcases hu with rfl | rfl | rfl <;> rfl
    · exact ih u hu
theorem wV_get (d : Nat × Int × Nat) : ∀ (l : List (Nat × Int × Nat)) (i : Nat), i < l.length → (wV l)[i * 3]? = some (.int .i64 ((l.getD i d).1 : Int)) ∧ (wV l)[i * 3 + 1]? = some (.int .i64 (l.getD i d).2.1) ∧ (wV l)[i * 3 + 2]? = some (.int .i64 ((l.getD i d).2.2 : Int))
  | [], i, h => by simp at h
  | p :: l, 0, _ => ⟨rfl, rfl, rfl⟩
  | p :: l, i + 1, h => by
    have ih := wV_get d l i (by simpa using h)
    rw [wV]
    have e : ∀ k, (tV p ++ wV l)[(i + 1) * 3 + k]? = (wV l)[i * 3 + k]? := fun k => by
      rw [List.getElem?_append_right (by show 3 ≤ _; omega)]
      congr 1
      show (i + 1) * 3 + k - 3 = _
      omega
    refine ⟨(e 0).trans ih.1, (e 1).trans ih.2.1, (e 2).trans ih.2.2⟩
theorem wV_set (p : Nat × Int × Nat) : ∀ (l : List (Nat × Int × Nat)) (i : Nat), (((wV l).set (i * 3) (.int .i64 (p.1 : Int))).set (i * 3 + 1) (.int .i64 p.2.1)).set (i * 3 + 2) (.int .i64 (p.2.2 : Int)) = wV (l.set i p)
  | [], i => by simp [wV]
  | q :: l, 0 => rfl
  | q :: l, i + 1 => by
    have ih := wV_set p l i
    rw [List.set_cons_succ, wV, wV, ← ih]
    have e : ∀ (m : List Value) k v, (tV q ++ m).set ((i + 1) * 3 + k) v = tV q ++ m.set (i * 3 + k) v := fun m k v => by
      rw [List.set_append_right _ _ (by show 3 ≤ _; omega)]
      congr 2
      show (i + 1) * 3 + k - 3 = _
      omega
    have e0 := e (wV l) 0
    simp only [Nat.add_zero] at e0
    rw [e0, e, e]
theorem wV_take : ∀ (l : List (Nat × Int × Nat)) (m : Nat), wV (l.take m) = (wV l).take (m * 3)
  | [], m => by simp [wV]
  | p :: l, 0 => by simp [wV]
  | p :: l, m + 1 => by
    rw [List.take_succ_cons, wV, wV, wV_take l m, show (m + 1) * 3 = 3 + m * 3 by omega, show (3 : Nat) = (tV p).length from rfl, List.take_length_add_append]
set_option maxRecDepth 100000 in
theorem without_any (a : Nat) (s : Int) (k : Nat) (w : World) (h0 : -1000000 ≤ s) (h1 : s ≤ 1000000) (h2 : k ≤ 1000000) :
    Calls Tryz.prog 86 #[.agg #[.int .i64 (a : Int), .int .i64 s, .int .i64 (k : Int)]] w fun e w' => e = .returned (.int .i64 (s - (k : Int))) ∧ Below w.heap.size w w' := by
  have e1 : IntKind.i64.wrap (s - (k : Int)) = s - (k : Int) := wi_id _ (by omega) (by omega)
  have e2 : wrap64 (s - (k : Int)) = s - (k : Int) := by rw [wrap64]; omega
  have HB : Hid (Below w.heap.size w (w.alloc (.cells #[.int .i64 (a : Int), .int .i64 s, .int .i64 (k : Int)] 84))) := Lib.hid ((Below.refl _ _).alloc (Nat.le_refl _) _)
  clear h0 h1 h2
  go_enter Tryz.func86, Tryz.ntmps86
  go_wp2
  go_ret
  exact ⟨rfl, HB.out⟩
/-- The three cells of a band. -/
def T3 (w : World) (g : Nat) (i : Nat) (p : Nat × Int × Nat) : Prop := w.cell? ⟨g, i * 3, none⟩ = some (.int .i64 (p.1 : Int)) ∧ w.cell? ⟨g, i * 3 + 1, none⟩ = some (.int .i64 p.2.1) ∧ w.cell? ⟨g, i * 3 + 2, none⟩ = some (.int .i64 (p.2.2 : Int))
theorem own_t3 {w : World} {B g cap n : Nat} {e : TypeId} {l : List (Nat × Int × Nat)} (h : w.ownsRow B e 3 (.slice (some ⟨g, 0, none⟩) n cap) n (wV l)) (d : Nat × Int × Nat) (i : Nat) (hi : i < l.length) : T3 w g i (l.getD i d) := by
  have hl : n = l.length := by
    have := h.1
    rw [wV_len] at this
    omega
  have k := fun j hj => h.cellAt j hj
  obtain ⟨h0, h1, h2⟩ := wV_get d l i hi
  exact ⟨(k _ (by omega)).trans h0, (k _ (by omega)).trans h1, (k _ (by omega)).trans h2⟩
set_option maxRecDepth 100000 in
set_option maxHeartbeats 1000000 in
theorem ahead_any (a b : Nat) (s t : Int) (k m : Nat) (w : World) (h0 : -1000000 ≤ s) (h1 : s ≤ 1000000) (h2 : k ≤ 1000000) (h3 : -1000000 ≤ t) (h4 : t ≤ 1000000) (h5 : m ≤ 1000000) :
    Calls Tryz.prog 66 #[.agg #[.int .i64 (a : Int), .int .i64 s, .int .i64 (k : Int)], .agg #[.int .i64 (b : Int), .int .i64 t, .int .i64 (m : Int)]] w fun e w' => e = .returned (.bool (lt18 (a, s, k) (b, t, m))) ∧ Below w.heap.size w w' := by
  have HLE := lt18_eq (a, s, k) (b, t, m)
  have HLN := lt18_ne (a, s, k) (b, t, m)
  simp only at HLE HLN
  have F1 := fun w => without_any a s k w h0 h1 h2
  have F2 := fun w => without_any b t m w h3 h4 h5
  generalize s - (k : Int) = x at *
  generalize t - (m : Int) = y at *
  generalize lt18 (a, s, k) (b, t, m) = z at *
  have HLE := Lib.hid HLE
  have HLN := Lib.hid HLN
  have HB : Hid (Below w.heap.size w ((w.alloc (.cells #[.int .i64 (a : Int), .int .i64 s, .int .i64 (k : Int)] 84)).alloc (.cells #[.int .i64 (b : Int), .int .i64 t, .int .i64 (m : Int)] 84))) := Lib.hid (((Below.refl _ _).alloc (Nat.le_refl _) _).alloc (by simp) _)
  have HR1 : Hid (Row ((w.alloc (.cells #[.int .i64 (a : Int), .int .i64 s, .int .i64 (k : Int)] 84)).alloc (.cells #[.int .i64 (b : Int), .int .i64 t, .int .i64 (m : Int)] 84)) w.heap.size 84 #[.int .i64 (a : Int), .int .i64 s, .int .i64 (k : Int)]) := Lib.hid (Row.alloc (heap_alloc_new _ _) _)
  have HR2 : Hid (Row ((w.alloc (.cells #[.int .i64 (a : Int), .int .i64 s, .int .i64 (k : Int)] 84)).alloc (.cells #[.int .i64 (b : Int), .int .i64 t, .int .i64 (m : Int)] 84)) (w.heap.size + 1) 84 #[.int .i64 (b : Int), .int .i64 t, .int .i64 (m : Int)]) := Lib.hid (row_new _ _ (by simp) _ _)
  clear h0 h1 h2 h3 h4 h5
  go_enter Tryz.func66, Tryz.ntmps66
  go_upto_region 1 with fail
  generalize (w.alloc (.cells #[.int .i64 (a : Int), .int .i64 s, .int .i64 (k : Int)] 84)).alloc (.cells #[.int .i64 (b : Int), .int .i64 t, .int .i64 (m : Int)] 84) = w1 at *
  obtain ⟨B, hB⟩ : ∃ B, w.heap.size = B := ⟨_, rfl⟩
  rw [hB] at HR1 HR2 HB ⊢
  have q0 := cell_regrown (cell_of_row _ _ 0 _ _ _ HR1.out)
  have q1 := cell_regrown (cell_of_row _ _ 1 _ _ _ HR1.out)
  have q2 := cell_regrown (cell_of_row _ _ 2 _ _ _ HR1.out)
  have r0 := cell_regrown (cell_of_row _ _ 0 _ _ _ HR2.out)
  have r1 := cell_regrown (cell_of_row _ _ 1 _ _ _ HR2.out)
  have r2 := cell_regrown (cell_of_row _ _ 2 _ _ _ HR2.out)
  have K1 : Hid (∀ d os, Calls Tryz.prog 86 #[.agg #[.int .i64 (a : Int), .int .i64 s, .int .i64 (k : Int)]] (Sort.grow (redrawn w1 d) os) fun e w'' => e = .returned (.int .i64 x) ∧ ∃ p : Regrown, w'' = Sort.grow (redrawn w1 p.d) p.os) :=
    Lib.hid fun d os => Calls.regrown_of (F1 _)
  have K2 : Hid (∀ d os, Calls Tryz.prog 86 #[.agg #[.int .i64 (b : Int), .int .i64 t, .int .i64 (m : Int)]] (Sort.grow (redrawn w1 d) os) fun e w'' => e = .returned (.int .i64 y) ∧ ∃ p : Regrown, w'' = Sort.grow (redrawn w1 p.d) p.os) :=
    Lib.hid fun d os => Calls.regrown_of (F2 _)
  refine wp_region_quiet_below (by kernel_rfl) (by kernel_rfl) ?_
  quiet_step (fail)
  quiet_step ((go_at_call 86; exact K1.out _ _))
  repeat quiet_step (fail)
  quiet_step ((go_at_call 86; exact K2.out _ _))
  repeat quiet_step (fail)
  refine wpQuiet_nil ?_
  intro _ hw'
  obtain ⟨⟨dq, osq⟩, hw''⟩ := hw'
  subst hw''
  have HB := Lib.hid (HB.out.trans ((below_regrown w1 dq osq).mono (by have := HB.out.size; rw [hB] at this; exact this)))
  have HR1 := Lib.hid (HR1.out.box (below_regrown w1 dq osq))
  have HR2 := Lib.hid (HR2.out.box (below_regrown w1 dq osq))
  clear K1 K2 q0 q1 q2 r0 r1 r2
  generalize Sort.grow (redrawn w1 dq) osq = w6 at *
  by_cases hxy : x = y
  · have HZ := Lib.hid (HLE.out hxy)
    have hd : decide (x = y) = true := decide_eq_true hxy
    have hdn : (x == y) = true := beq_iff_eq.2 hxy
    clear hxy
    have q0 := cell_of_row _ _ 0 _ _ _ HR1.out
    have r0 := cell_of_row _ _ 0 _ _ _ HR2.out
    go_wp2_with fail
    go_ret
    exact ⟨by rw [HZ.out]; (first | rfl | simp), by rw [hB]; exact HB.out⟩
  · have HZ := Lib.hid (HLN.out hxy)
    have hd : decide (x = y) = false := decide_eq_false hxy
    have hdn : (x == y) = false := beq_eq_false_iff_ne.2 hxy
    have q0 := cell_regrown (cell_of_row _ _ 0 _ _ _ HR1.out)
    have q1 := cell_regrown (cell_of_row _ _ 1 _ _ _ HR1.out)
    have q2 := cell_regrown (cell_of_row _ _ 2 _ _ _ HR1.out)
    have r0 := cell_regrown (cell_of_row _ _ 0 _ _ _ HR2.out)
    have r1 := cell_regrown (cell_of_row _ _ 1 _ _ _ HR2.out)
    have r2 := cell_regrown (cell_of_row _ _ 2 _ _ _ HR2.out)
    have K1 : Hid (∀ d os, Calls Tryz.prog 86 #[.agg #[.int .i64 (a : Int), .int .i64 s, .int .i64 (k : Int)]] (Sort.grow (redrawn w6 d) os) fun e w'' => e = .returned (.int .i64 x) ∧ ∃ p : Regrown, w'' = Sort.grow (redrawn w6 p.d) p.os) :=
      Lib.hid fun d os => Calls.regrown_of (F1 _)
    have K2 : Hid (∀ d os, Calls Tryz.prog 86 #[.agg #[.int .i64 (b : Int), .int .i64 t, .int .i64 (m : Int)]] (Sort.grow (redrawn w6 d) os) fun e w'' => e = .returned (.int .i64 y) ∧ ∃ p : Regrown, w'' = Sort.grow (redrawn w6 p.d) p.os) :=
      Lib.hid fun d os => Calls.regrown_of (F2 _)
    clear hxy F1 F2
    go_upto_region 2 with fail
    refine wp_region_quiet_below (by kernel_rfl) (by kernel_rfl) ?_
    quiet_step (fail)
    quiet_step ((go_at_call 86; exact K1.out _ _))
    repeat quiet_step (fail)
    quiet_step ((go_at_call 86; exact K2.out _ _))
    repeat quiet_step (fail)
    refine wpQuiet_nil ?_
    intro _ hw'
    obtain ⟨⟨dr, osr⟩, hw''⟩ := hw'
    subst hw''
    have HB := Lib.hid (HB.out.trans ((below_regrown w6 dr osr).mono (by have := HB.out.size; rw [hB] at this; exact this)))
    clear K1 K2 q0 q1 q2 r0 r1 r2
    generalize Sort.grow (redrawn w6 dr) osr = w7 at *
    go_wp2_with fail
    go_ret
    exact ⟨by rw [HZ.out]; rfl, by rw [hB]; exact HB.out⟩
end Go.Proofs.YtalbcimnnihmnaaGreat

/- give's queue: Len, Less, Swap, as container/heap calls them. Conditions: steps and pulses up to 1000000. -/
namespace Go.Proofs.YtalbcimnnihmnaaGreat
open Go.RowKit
open M
/-- What a queue holds: its bands, and who is ahead. -/
def hV (v : Value) : Array Value := #[v, .func (.func 66) #[] #[]]
/-- Steps and pulses are held. -/
def hd18 (p : Nat × Int × Nat) : Prop := -1000000 ≤ p.2.1 ∧ p.2.1 ≤ 1000000 ∧ p.2.2 ≤ 1000
set_option maxRecDepth 100000 in
theorem tlen_any (h n : Nat) (a : Option Addr) (cap : Nat) (w : World) (hr : Row w h 112 (hV (.slice a n cap))) :
    Calls Tryz.prog 39 #[.pointer (some ⟨h, 0, none⟩)] w fun e w' => e = .returned (.int .i64 (n : Int)) ∧ w' = w := by
  have c0 : w.cell? ⟨h, 0, none⟩ = some (.slice a n cap) := cell_of_row _ _ 0 _ _ _ hr
  clear hr
  go_enter Tryz.func39, Tryz.ntmps39
  go_wp2
  go_ret
  exact ⟨rfl, rfl⟩
set_option maxRecDepth 100000 in
set_option maxHeartbeats 1000000 in
theorem tless_any (B h g cap n : Nat) (l : List (Nat × Int × Nat)) (d : Nat × Int × Nat) (i j : Nat) (w : World) (hl : ∀ p ∈ l, hd18 p) (hi : i < l.length) (hj : j < l.length)
    (hr : Row w h 112 (hV (.slice (some ⟨g, 0, none⟩) n cap)))
    (ho : w.ownsRow B 84 3 (.slice (some ⟨g, 0, none⟩) n cap) n (wV l)) :
    Calls Tryz.prog 117 #[.pointer (some ⟨h, 0, none⟩), .int .i64 (i : Int), .int .i64 (j : Int)] w fun e w' => e = .returned (.bool (lt18 (l.getD i d) (l.getD j d))) ∧ Below w.heap.size w w' := by
  have hln : n = l.length := by
    have := ho.1
    rw [wV_len] at this
    omega
  have hbi := hl _ (getD_mem13 l d i hi)
  have hbj := hl _ (getD_mem13 l d j hj)
  have c0 : w.cell? ⟨h, 0, none⟩ = some (.slice (some ⟨g, 0, none⟩) n cap) := cell_of_row _ _ 0 _ _ _ hr
  have c1 : w.cell? ⟨h, 1, none⟩ = some (.func (.func 66) #[] #[]) := cell_of_row _ _ 1 _ _ _ hr
  have k1 := own_t3 ho d i hi
  have k2 := own_t3 ho d j hj
  obtain ⟨⟨ai, si, ki⟩, hpi⟩ : ∃ p, l.getD i d = p := ⟨_, rfl⟩
  obtain ⟨⟨aj, sj, kj⟩, hpj⟩ : ∃ p, l.getD j d = p := ⟨_, rfl⟩
  rw [hpi] at hbi k1 ⊢
  rw [hpj] at hbj k2 ⊢
  have F := fun w => ahead_any ai aj si sj ki kj w hbi.1 hbi.2.1 (by have := hbi.2.2; simp only at this; omega) hbj.1 hbj.2.1 (by have := hbj.2.2; simp only at this; omega)
  generalize lt18 (ai, si, ki) (aj, sj, kj) = z at *
  have hiI : (i : Int) < (n : Int) := by omega
  have hjI : (j : Int) < (n : Int) := by omega
  have hin : i < n := by omega
  have hjn : j < n := by omega
  obtain ⟨a0, a1, a2⟩ := k1
  obtain ⟨b0, b1, b2⟩ := k2
  have p0 := cell_regrown c0
  have p1 := cell_regrown c1
  have q0 := cell_regrown a0
  have q1 := cell_regrown a1
  have q2 := cell_regrown a2
  have r0 := cell_regrown b0
  have r1 := cell_regrown b1
  have r2 := cell_regrown b2
  simp only at q0 q1 q2 r0 r1 r2
  have K1 : Hid (∀ d os, Calls Tryz.prog 66 #[.agg #[.int .i64 (ai : Int), .int .i64 si, .int .i64 (ki : Int)], .agg #[.int .i64 (aj : Int), .int .i64 sj, .int .i64 (kj : Int)]] (Sort.grow (redrawn w d) os) fun e w'' => e = .returned (.bool z) ∧ ∃ p : Regrown, w'' = Sort.grow (redrawn w p.d) p.os) :=
    Lib.hid fun d os => Calls.regrown_of (F _)
  clear hbi hbj hl hi hj hpi hpj hln ho hr F a0 a1 a2 b0 b1 b2 c0 c1
  go_enter Tryz.func117, Tryz.ntmps117
  go_wp2_with fail
  refine wp_region_quiet_below (by kernel_rfl) (by kernel_rfl) ?_
  repeat quiet_step (fail)
  quiet_step ((go_at_call 66; exact K1.out _ _))
  repeat quiet_step (fail)
  refine wpQuiet_nil ?_
  intro _ hw'
  obtain ⟨⟨dq, osq⟩, hw''⟩ := hw'
  subst hw''
  have HBX := Lib.hid (below_regrown w dq osq)
  clear K1 p0 p1 q0 q1 q2 r0 r1 r2
  generalize Sort.grow (redrawn w dq) osq = w6 at *
  go_wp2_with fail
  go_ret
  exact ⟨rfl, HBX.out⟩
theorem own_drew {w : World} {B n size : Nat} {e : TypeId} {v : Value} {xs : List Value} (h : w.ownsRow B e size v n xs) : w.drew.ownsRow B e size v n xs := h
set_option maxRecDepth 100000 in
set_option maxHeartbeats 1000000 in
/-- Two bands change places. -/
theorem tswap_any (B h g cap n : Nat) (l : List (Nat × Int × Nat)) (d : Nat × Int × Nat) (i j : Nat) (w : World) (hi : i < l.length) (hj : j < l.length) (hne : g ≠ h)
    (hr : Row w h 112 (hV (.slice (some ⟨g, 0, none⟩) n cap)))
    (ho : w.ownsRow B 84 3 (.slice (some ⟨g, 0, none⟩) n cap) n (wV l)) :
    Calls Tryz.prog 120 #[.pointer (some ⟨h, 0, none⟩), .int .i64 (i : Int), .int .i64 (j : Int)] w fun e w' => e = .returned (.tuple #[]) ∧ w'.ownsRow B 84 3 (.slice (some ⟨g, 0, none⟩) n cap) n (wV (swq d l i j)) ∧ Only g w w' := by
  have hln : n = l.length := by
    have := ho.1
    rw [wV_len] at this
    omega
  have fz := ho.frozenAt
  have HO := Lib.hid ho
  have c0 : w.drew.cell? ⟨h, 0, none⟩ = some (.slice (some ⟨g, 0, none⟩) n cap) := cell_of_row _ _ 0 _ _ _ hr
  have hgh : h ≠ g := fun e => hne e.symm
  obtain ⟨a0, a1, a2⟩ := own_t3 ho d i hi
  obtain ⟨b0, b1, b2⟩ := own_t3 ho d j hj
  obtain ⟨⟨ai, si, ki⟩, hpi⟩ : ∃ p, l.getD i d = p := ⟨_, rfl⟩
  obtain ⟨⟨aj, sj, kj⟩, hpj⟩ : ∃ p, l.getD j d = p := ⟨_, rfl⟩
  rw [hpi] at a0 a1 a2
  rw [hpj] at b0 b1 b2
  have HS : Hid (swq d l i j = (l.set i (aj, sj, kj)).set j (ai, si, ki)) := Lib.hid (by unfold swq; rw [hpi, hpj])
  have HSX := Lib.hid wV_set
  have hiI : (i : Int) < (n : Int) := by omega
  have hjI : (j : Int) < (n : Int) := by omega
  have hin : i < n := by omega
  have hjn : j < n := by omega
  have g0 := fz (i * 3)
  have g1 := fz (i * 3 + 1)
  have g2 := fz (i * 3 + 2)
  have k0 := fz (j * 3)
  have k1 := fz (j * 3 + 1)
  have k2 := fz (j * 3 + 2)
  have a0 : w.drew.cell? ⟨g, i * 3, none⟩ = some (.int .i64 (ai : Int)) := a0
  have a1 : w.drew.cell? ⟨g, i * 3 + 1, none⟩ = some (.int .i64 si) := a1
  have a2 : w.drew.cell? ⟨g, i * 3 + 2, none⟩ = some (.int .i64 (ki : Int)) := a2
  have b0 : w.drew.cell? ⟨g, j * 3, none⟩ = some (.int .i64 (aj : Int)) := b0
  have b1 : w.drew.cell? ⟨g, j * 3 + 1, none⟩ = some (.int .i64 sj) := b1
  have b2 : w.drew.cell? ⟨g, j * 3 + 2, none⟩ = some (.int .i64 (kj : Int)) := b2
  clear hpi hpj ho hln fz hi hj hr hne
  by_cases hij : i = j
  · subst hij
    have HS : Hid (swq d l i i = l.set i (ai, si, ki)) := Lib.hid (by rw [HS.out, List.set_set])
    have e1 : aj = ai := by have h1 := a0; rw [b0] at h1; simp only [Option.some.injEq, Value.int.injEq, true_and] at h1; omega
    have e2 : sj = si := by have h1 := a1; rw [b1] at h1; simpa using h1
    have e3 : kj = ki := by have h1 := a2; rw [b2] at h1; simp only [Option.some.injEq, Value.int.injEq, true_and] at h1; omega
    subst e1 e2 e3
    clear b0 b1 b2 k0 k1 k2 hjI hjn
    go_enter Tryz.func120, Tryz.ntmps120
    go_region
    go_end0
    refine ⟨rfl, ?_, (((((((Only.refl g w).setCell _ _ _).setCell _ _ _).setCell _ _ _).setCell _ _ _).setCell _ _ _).setCell _ _ _).drew⟩
    have h6 := ((((((HO.out.stored (i * 3) (.int .i64 (aj : Int))).1.stored (i * 3 + 1) (.int .i64 sj)).1.stored (i * 3 + 2) (.int .i64 (kj : Int))).1.stored (i * 3) (.int .i64 (aj : Int))).1.stored (i * 3 + 1) (.int .i64 sj)).1.stored (i * 3 + 2) (.int .i64 (kj : Int))).1
    rw [HSX.out (aj, sj, kj), HSX.out (aj, sj, kj), List.set_set] at h6
    rw [HS.out]
    exact own_drew h6
  · have hij3 : i * 3 ≠ j * 3 := by omega
    go_enter Tryz.func120, Tryz.ntmps120
    go_region
    go_end0
    refine ⟨rfl, ?_, (((((((Only.refl g w).setCell _ _ _).setCell _ _ _).setCell _ _ _).setCell _ _ _).setCell _ _ _).setCell _ _ _).drew⟩
    have h6 := ((((((HO.out.stored (i * 3) (.int .i64 (aj : Int))).1.stored (i * 3 + 1) (.int .i64 sj)).1.stored (i * 3 + 2) (.int .i64 (kj : Int))).1.stored (j * 3) (.int .i64 (ai : Int))).1.stored (j * 3 + 1) (.int .i64 si)).1.stored (j * 3 + 2) (.int .i64 (ki : Int))).1
    rw [HSX.out (aj, sj, kj), HSX.out (ai, si, ki)] at h6
    rw [HS.out]
    exact own_drew h6
end Go.Proofs.YtalbcimnnihmnaaGreat
