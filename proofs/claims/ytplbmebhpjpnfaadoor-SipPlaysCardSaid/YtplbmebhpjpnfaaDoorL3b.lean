/-
  The contract of the reference's Sum.
-/
import Derived.Test.YtplbmebhpjpnfaaDoorL3
import Derived.RegionTactic
namespace Go.Proofs.YtplbmebhpjpnfaaDoor
open Go.RowKit
open M

theorem xor_c0 (x : BitVec 64) : bits .xor .u64 (un x) 8317987319222330741 = un (x ^^^ 8317987319222330741#64) := by
  rw [← un_xor, un_lit 8317987319222330741 (by decide)]; rfl
theorem xor_c1 (x : BitVec 64) : bits .xor .u64 (un x) 7237128888997146477 = un (x ^^^ 7237128888997146477#64) := by
  rw [← un_xor, un_lit 7237128888997146477 (by decide)]; rfl
theorem xor_c2 (x : BitVec 64) : bits .xor .u64 (un x) 7816392313619706465 = un (x ^^^ 7816392313619706465#64) := by
  rw [← un_xor, un_lit 7816392313619706465 (by decide)]; rfl
theorem xor_c3 (x : BitVec 64) : bits .xor .u64 (un x) 8387220255154660723 = un (x ^^^ 8387220255154660723#64) := by
  rw [← un_xor, un_lit 8387220255154660723 (by decide)]; rfl

attribute [local go_sem] un_add un_sub un_xor un_or un_nonneg un_beq un_bne un_xor_255 xor_c0 xor_c1 xor_c2 xor_c3 cells4

theorem gb_trans {a b c : World} {row : Option Nat} (h : a.grownBy b row) (k : b.grownBy c row) : a.grownBy c row :=
  ⟨k.os.trans h.os, k.tape.trans h.tape, k.output.trans h.output, Nat.le_trans h.size k.size, fun i hi hn => (k.block i (Nat.lt_of_lt_of_le hi h.size) hn).trans (h.block i hi hn)⟩
theorem gb_below {a b c : World} {row : Option Nat} (h : a.grownBy b row) (k : Below b.heap.size b c) : a.grownBy c row :=
  ⟨k.os.trans h.os, k.tape.trans h.tape, k.output.trans h.output, Nat.le_trans h.size k.size, fun i hi hn => (k.block i (Nat.lt_of_lt_of_le hi h.size)).trans (h.block i hi hn)⟩
theorem gb_only {a b c : World} {g : Nat} (h : a.grownBy b (some g)) (k : Only g b c) : a.grownBy c (some g) :=
  ⟨k.os.trans h.os, k.tape.trans h.tape, k.output.trans h.output, by have := h.size; have := k.size; omega, fun i hi hn => (k.block i (fun e => hn (by rw [e]))).trans (h.block i hi hn)⟩
theorem gb_cell {a b : World} {g : Nat} (h : a.grownBy b (some g)) {p : Addr} (hp : p.block < a.heap.size) (hn : p.block ≠ g) : b.cell? p = a.cell? p :=
  World.cell?_of_block (h.block p.block hp (fun e => hn (by injection e)))

theorem Row.set4 {w : World} {g : Nat} {t : TypeId} {v : V4} (h : Row w g t (cells4 v)) (u : V4) :
    Row ((((w.setCell ⟨g, 0, none⟩ (.int .u64 (un u.a))).setCell ⟨g, 1, none⟩ (.int .u64 (un u.b))).setCell ⟨g, 2, none⟩ (.int .u64 (un u.c))).setCell ⟨g, 3, none⟩ (.int .u64 (un u.d))) g t (cells4 u) :=
  (((h.set 0 _).set 1 _).set 2 _).set 3 _
theorem only_set4 (w : World) (g : Nat) (a b c d : Value) : Only g w ((((w.setCell ⟨g, 0, none⟩ a).setCell ⟨g, 1, none⟩ b).setCell ⟨g, 2, none⟩ c).setCell ⟨g, 3, none⟩ d) :=
  ((((Only.refl g w).setCell 0 none a).setCell 1 none b).setCell 2 none c).setCell 3 none d
theorem key_w0 (k : List UInt8) : tail8 (ofB k) 0 0 = word (k.take 8) := rfl
theorem key_w8 (k : List UInt8) (hk : k.length = 16) : tail8 (ofB k) 8 0 = word (k.drop 8) := by
  unfold tail8
  have : ((ofB k).data.toList.drop (8 + 0)).take (8 - 0) = k.drop 8 := by
    show (k.drop 8).take 8 = k.drop 8
    exact List.take_of_length_le (by rw [List.length_drop]; omega)
  rw [this]

set_option maxHeartbeats 1000000 in
theorem refSum_any (k : List UInt8) (s : ByteArray) (w : World) (hk : k.length = 16) (hs : s.size ≤ 1000000) :
    Calls Tryd.prog 13 #[.agg (byteCells k), .string s] w fun e w' => e = .returned (.int .u64 (un (sum k (bl s)))) ∧ Below w.heap.size w w' := by
  have kc := conv_row (w.alloc (.cells (byteCells k) 23)) w.heap.size k hk (heap_alloc_new _ _)
  have hz : (ofB k).size ≤ maxLen := by rw [ofB_size]; unfold maxLen; omega
  obtain ⟨v0, hv0⟩ : ∃ v, V4.start (word (k.take 8)) (word (k.drop 8)) = v := ⟨_, rfl⟩
  have H8 := Lib.hid (key_w8 k hk)
  have HV := Lib.hid hv0
  clear hv0
  go_enter Tryd.func13, Tryd.ntmps13
  go_wp2_with fail
  refine (word_any (ofB k) 0 _ hz (by unfold maxLen; omega)).mono ?_
  rintro e w' ⟨rfl, rfl⟩
  rw [key_w0]
  go_wp2_with fail
  refine (word_any (ofB k) 8 _ hz (by unfold maxLen; omega)).mono ?_
  rintro e w' ⟨rfl, rfl⟩
  rw [H8.out]
  go_wp2_with fail
  refine (refWords_any s _ hs).mono ?_
  rintro e w2 ⟨g, cap, rfl, hgl, hgt, hc, hb⟩
  have HW : Hid (Row w2 (w.heap.size + 1) 30 (cells4 v0) ∧ Below w.heap.size w w2 ∧ w.heap.size + 1 < g ∧ g < w2.heap.size) := by
    rw [← HV.out]
    exact ⟨Row.below (heap_alloc2_new _ _ _) hb (by simp), (((Below.refl _ _).alloc (Nat.le_refl _) _).alloc (by simp) _).trans (hb.mono (by simp; omega)), by simp at hgl; omega, hgt⟩
  have HC := Lib.hid hc
  clear hgl hgt hc hb kc hz H8
  go_wp2_with fail
  go_loopw [10] (fun i wr => ∃ j : Nat, j ≤ s.size / 8 + 1 ∧ i = .int .i64 j ∧ Row wr (w.heap.size + 1) 30 (cells4 (upto k (bl s) j)) ∧ w2.grownBy wr (some (w.heap.size + 1))) (fun i _ => s.size / 8 + 1 - (intOf i).toNat)
  case atStart => exact ⟨0, Nat.zero_le _, rfl, by rw [upto_zero, HV.out]; exact HW.out.1, World.grownBy.refl _ _⟩
  case round =>
    obtain ⟨j, hj, rfl, hr, hg⟩ := hrel
    by_cases hlt : j < s.size / 8 + 1
    · have hu := upto_succ k (bl s) j (by rw [bl_length]; exact hlt)
      obtain ⟨v, hv⟩ : ∃ v, upto k (bl s) j = v := ⟨_, rfl⟩
      rw [hv] at hr hu
      have HU := Lib.hid hu
      have HR := Lib.hid hr
      have HGB := Lib.hid hg
      have c3 := hr.c3
      have f3 := hr.free 3
      have cw : wr.cell? ⟨g, j, none⟩ = some (.int .u64 (un (wordAt (bl s) j))) := (gb_cell hg (p := ⟨g, j, none⟩) HW.out.2.2.2 (by have := HW.out.2.2.1; show g ≠ _; omega)).trans (HC.out j hlt)
      clear hu hv hr hg
      go_wp2_with fail
      go_region
      have h8 : Row (wr.setCell ⟨w.heap.size + 1, 3, none⟩ (.int .u64 (un (v.d ^^^ wordAt (bl s) j)))).drew (w.heap.size + 1) 30 (cells4 ⟨v.a, v.b, v.c, v.d ^^^ wordAt (bl s) j⟩) ∧
          w2.grownBy (wr.setCell ⟨w.heap.size + 1, 3, none⟩ (.int .u64 (un (v.d ^^^ wordAt (bl s) j)))).drew (some (w.heap.size + 1)) :=
        ⟨HR.out.set 3 _, gb_only HGB.out (((Only.refl _ wr).setCell 3 none _).drew)⟩
      generalize (wr.setCell ⟨w.heap.size + 1, 3, none⟩ (.int .u64 (un (v.d ^^^ wordAt (bl s) j)))).drew = W8 at *
      obtain ⟨hr8, hg8⟩ := h8
      obtain ⟨v1, hv1⟩ : ∃ v1, V4.mk v.a v.b v.c (v.d ^^^ wordAt (bl s) j) = v1 := ⟨_, rfl⟩
      have hu1 : v.take (wordAt (bl s) j) = ⟨v1.round.round.a ^^^ wordAt (bl s) j, v1.round.round.b, v1.round.round.c, v1.round.round.d⟩ := by rw [← hv1]; rfl
      rw [hv1] at hr8
      have HU1 := Lib.hid hu1
      have HR8 := Lib.hid hr8
      have HG8 := Lib.hid hg8
      have a0 := hr8.c0
      have a1 := hr8.c1
      have a2 := hr8.c2
      have a3 := hr8.c3
      clear hv1 hu1 hr8 hg8 c3 f3 cw HR HGB
      go_wp2_with fail
      refine (refRound_any v1 W8).mono ?_
      rintro e W9 ⟨rfl, hb9⟩
      have HB9 := Lib.hid hb9
      clear hb9
      go_wp2_with fail
      refine (refRound_any v1.round W9).mono ?_
      rintro e W10 ⟨rfl, hb10⟩
      have hr10 := (HR8.out.below HB9.out HR8.out.lt).below hb10 (Nat.lt_of_lt_of_le HR8.out.lt HB9.out.size)
      have HG10 := Lib.hid (gb_below (gb_below HG8.out HB9.out) hb10)
      have HR10 := Lib.hid hr10
      have d0 := hr10.c0
      have d1 := hr10.c1
      have d2 := hr10.c2
      have d3 := hr10.c3
      have df : ∀ i, W10.frozen? ⟨w.heap.size + 1, i, none⟩ = false := fun i => hr10.free i
      clear hb10 hr10 a0 a1 a2 a3
      go_wp2_with fail
      have h11 := And.intro (HR10.out.set4 v1.round.round) (gb_only HG10.out (only_set4 W10 (w.heap.size + 1) (.int .u64 (un v1.round.round.a)) (.int .u64 (un v1.round.round.b)) (.int .u64 (un v1.round.round.c)) (.int .u64 (un v1.round.round.d))))
      clear d0 d1 d2 d3 df HR10 HG10 HR8 HG8 HB9
      generalize (((W10.setCell ⟨w.heap.size + 1, 0, none⟩ (.int .u64 (un v1.round.round.a))).setCell ⟨w.heap.size + 1, 1, none⟩ (.int .u64 (un v1.round.round.b))).setCell ⟨w.heap.size + 1, 2, none⟩ (.int .u64 (un v1.round.round.c))).setCell ⟨w.heap.size + 1, 3, none⟩ (.int .u64 (un v1.round.round.d)) = W11 at *
      obtain ⟨hr11, hg11⟩ := h11
      have HR11 := Lib.hid hr11
      have HG11 := Lib.hid hg11
      have b0 := hr11.c0
      have bf := hr11.free 0
      have cw : W11.cell? ⟨g, j, none⟩ = some (.int .u64 (un (wordAt (bl s) j))) := (gb_cell hg11 (p := ⟨g, j, none⟩) HW.out.2.2.2 (by have := HW.out.2.2.1; show g ≠ _; omega)).trans (HC.out j hlt)
      clear hr11 hg11
      go_region
      go_wp2
      go_roundw
      case rel => exact ⟨j + 1, by omega, by go_num, by rw [HU.out, HU1.out]; exact HR11.out.set 0 _, gb_only HG11.out (((Only.refl _ W11).setCell 0 none _).drew)⟩
      case measure => simp [intOf]; omega
    · obtain rfl : j = s.size / 8 + 1 := by omega
      have hd := upto_done k (bl s) (s.size / 8 + 1) (by rw [bl_length])
      obtain ⟨v, hv⟩ : ∃ v, upto k (bl s) (s.size / 8 + 1) = v := ⟨_, rfl⟩
      rw [hv] at hr hd
      obtain ⟨v1, hv1⟩ : ∃ v1, V4.mk v.a v.b (v.c ^^^ 255#64) v.d = v1 := ⟨_, rfl⟩
      have hdd : v.done = v1.round.round.round.round.a ^^^ v1.round.round.round.round.b ^^^ v1.round.round.round.round.c ^^^ v1.round.round.round.round.d := by rw [← hv1]; rfl
      rw [hdd] at hd
      have HD := Lib.hid hd
      have HR := Lib.hid hr
      have HGB := Lib.hid hg
      have c0 := hr.c0
      have c1 := hr.c1
      have c2 := hr.c2
      have c3 := hr.c3
      have f2 := hr.free 2
      clear hd hv hr hg hdd
      go_wp2_with fail
      have h8 : Row (wr.setCell ⟨w.heap.size + 1, 2, none⟩ (.int .u64 (un (v.c ^^^ 255#64)))) (w.heap.size + 1) 30 (cells4 v1) ∧ w2.grownBy (wr.setCell ⟨w.heap.size + 1, 2, none⟩ (.int .u64 (un (v.c ^^^ 255#64)))) (some (w.heap.size + 1)) :=
        ⟨by rw [← hv1]; exact HR.out.set 2 _, gb_only HGB.out ((Only.refl _ wr).setCell 2 none _)⟩
      obtain ⟨hr8, hg8⟩ := h8
      have HV1 := Lib.hid hv1
      have HR8 := Lib.hid hr8
      have HG8 := Lib.hid hg8
      generalize wr.setCell ⟨w.heap.size + 1, 2, none⟩ (.int .u64 (un (v.c ^^^ 255#64))) = W8 at *
      clear hr8 hg8 hv1 c0 c1 c2 c3 f2
      refine (refRound_any ⟨v.a, v.b, v.c ^^^ 255#64, v.d⟩ W8).mono ?_
      rintro e W9 ⟨rfl, hb9⟩
      rw [HV1.out]
      go_wp2_with fail
      refine (refRound_any v1.round W9).mono ?_
      rintro e W10 ⟨rfl, hb10⟩
      have HB10 := Lib.hid (hb9.trans (hb10.mono hb9.size))
      clear hb9 hb10
      go_wp2_with fail
      refine (refRound_any v1.round.round W10).mono ?_
      rintro e W11 ⟨rfl, hb11⟩
      go_wp2_with fail
      refine (refRound_any v1.round.round.round W11).mono ?_
      rintro e W12 ⟨rfl, hb12⟩
      have hb := HB10.out.trans ((hb11.trans (hb12.mono hb11.size)).mono HB10.out.size)
      have hr12 := HR8.out.below hb HR8.out.lt
      have HG12 := Lib.hid (gb_below HG8.out hb)
      have d0 := hr12.c0
      have d1 := hr12.c1
      have d2 := hr12.c2
      have d3 := hr12.c3
      have df : ∀ i, W12.frozen? ⟨w.heap.size + 1, i, none⟩ = false := fun i => hr12.free i
      clear hb11 hb12 hb hr12
      go_wp2
      go_ret
      refine ⟨ret_eq (by rw [← HD.out]), ?_⟩
      have hg12 := gb_only HG12.out (only_set4 W12 (w.heap.size + 1) (.int .u64 (un v1.round.round.round.round.a)) (.int .u64 (un v1.round.round.round.round.b)) (.int .u64 (un v1.round.round.round.round.c)) (.int .u64 (un v1.round.round.round.round.d)))
      exact HW.out.2.1.grown hg12 HW.out.2.1.size (fun i hi => by injection hi with hi; omega)
end Go.Proofs.YtplbmebhpjpnfaaDoor
