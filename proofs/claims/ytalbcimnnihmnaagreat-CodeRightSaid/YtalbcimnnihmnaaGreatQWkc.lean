/-
  Layer 19: pack's split: a packet's numbers put, one by one. Conditions: a right shape (steps from 0 to 15, no band with more than 12 pulses); what pvq's Bits answers.
-/
import Derived.Test.YtalbcimnnihmnaaGreatQWkb
import Derived.Test.YtalbcimnnihmnaaGreatQS24
import Derived.Test.YtalbcimnnihmnaaGreatQS6
import Derived.Test.YtalbcimnnihmnaaGreatQGvv
namespace Go.Proofs.YtalbcimnnihmnaaGreat
open Go.RowKit
open M
theorem Moved.more {a b c : World} {g : Nat} {u v : Value} (h : Moved a b g u v) (hb : Below b.heap.size b c) : Moved a c g u v :=
  ⟨hb.os.trans h.os, hb.tape.trans h.tape, hb.output.trans h.output, Nat.le_trans h.size hb.size, fun k hk h1 h2 => (hb.block k (Nat.lt_of_lt_of_le hk h.size)).trans (h.block k hk h1 h2), h.own⟩
theorem Wr.more {b c : World} {B g : Nat} {v : Value} {bs : List Bool} (h : Wr b B g v bs) (hb : Below b.heap.size b c) : Wr c B g v bs :=
  ⟨h.row.box hb, own13_stay h.own hb, h.lt⟩
theorem Moved.row {a b : World} {g q : Nat} {u v : Value} {t : TypeId} {cs : Array Value} (h : Moved a b g u v) (hr : Row a q t cs) (h1 : q ≠ g) (h2 : some q ≠ u.ownBlock) : Row b q t cs :=
  (h.block q hr.lt h1 h2).trans hr
theorem ix_in19 (y : List Int) (k : Nat) (h4 : y.length = 4) (hp : pl13 y = k) (hk : k ≤ 12) : ix13 y < 2 ^ btc k := by
  have h := ix_lt y
  rw [h4, hp] at h
  exact Nat.lt_of_lt_of_le h ((by decide +kernel : ∀ k, k ≤ 12 → cn13 4 k ≤ 2 ^ btc k) k hk)
theorem sds_cons (a : Int) (l : List Int) : pto (a :: l) 1 8 = sds l := by
  refine Eq.symm (tm_ext _ 8 _ (pto_len _ _ _) fun i hi => ?_)
  unfold sds
  rw [pto_getD _ _ _ _ hi, Nat.zero_add, Nat.add_comm 1 i]
  rfl
theorem bds_cons (a : Int) (l : List Int) : pto (a :: l) 9 32 = pto l 8 32 := by
  refine Eq.symm (tm_ext _ 32 _ (pto_len _ _ _) fun i hi => ?_)
  rw [pto_getD _ _ _ _ hi, show 9 + i = (8 + i) + 1 by omega]
  rfl
theorem sds_at (l : List Int) (b : Nat) (hb : b < 8) : (sds l).getD b 0 = l.getD b 0 := by
  unfold sds
  rw [pto_getD _ _ _ _ hb, Nat.zero_add]
set_option maxRecDepth 100000 in
set_option maxHeartbeats 2000000 in
theorem psplit_any (HV : BvOk) (fr : Nat) (l : List Int) (B g : Nat) (v : Value) (w : World) (hf : fr ≤ 65535) (hl : l.length = 40) (hs : ∀ b, b < 8 → 0 ≤ (sds l).getD b 0 ∧ (sds l).getD b 0 ≤ 15) (hp : ∀ b, b < 8 → pl13 (sys l b) ≤ 12)
    (hB : B ≤ w.heap.size) (h : Wr w B g v []) :
    Calls Tryz.prog 21 #[.agg (iCells ((fr : Int) :: l)), .func (.func 22) #[.pointer (some ⟨g, 0, none⟩)] #[]] w fun e w' => e = .returned (.tuple #[]) ∧ ∃ v', Wr w' B g v' (yb19 fr l 8) ∧ Moved w w' g v v' := by
  have hz := pls_zero
  have HR : Hid (Row (w.alloc (.cells (iCells ((fr : Int) :: l)) 38)) w.heap.size 38 (iCells ((fr : Int) :: l))) := Lib.hid (heap_alloc_new _ _)
  have hA : Below w.heap.size w (w.alloc (.cells (iCells ((fr : Int) :: l)) 38)) := (Below.refl _ _).alloc (Nat.le_refl _) _
  have HM0 : Hid (Moved w (w.alloc (.cells (iCells ((fr : Int) :: l)) 38)) g v v) := Lib.hid ((Moved.refl w g v).more hA)
  have HW : Hid (Wr (w.alloc (.cells (iCells ((fr : Int) :: l)) 38)) B g v []) := Lib.hid (h.more hA)
  have HBS : Hid (B ≤ (w.alloc (.cells (iCells ((fr : Int) :: l)) 38)).heap.size) := Lib.hid (Nat.le_trans hB hA.size)
  have HNE : Hid (w.heap.size ≠ g ∧ some w.heap.size ≠ v.ownBlock) := Lib.hid ⟨fun e => by have := h.lt; omega, fun e => by have := own_lt h.own _ e.symm; omega⟩
  have HL := Lib.hid hl
  have HS := Lib.hid hs
  have HP := Lib.hid hp
  have HF := Lib.hid hf
  clear hA h hB hl hs hp hf
  go_enter Tryz.func21, Tryz.ntmps21
  go_upto_region 1 with fail
  generalize w.alloc (.cells (iCells ((fr : Int) :: l)) 38) = w1 at *
  obtain ⟨n0, hn0⟩ : ∃ n0, w.heap.size = n0 := ⟨_, rfl⟩
  rw [hn0] at HR HNE ⊢
  clear hn0
  have c0 : w1.cell? ⟨n0, 0, none⟩ = some (.int .i64 (fr : Int)) := i_at HR.out 0 (by simp)
  go_wp2_with fail
  refine (put_ok fr 16 [] B g v _ (by decide) (by have := HF.out; omega) (by decide) HBS.out HW.out).mono ?_
  rintro e w2 ⟨rfl, v2, hw, hm⟩
  have HW := Lib.hid hw
  have HM := Lib.hid hm
  clear hw hm c0
  have HX : Hid (Wr w2 B g v2 (lb19 fr l 0)) := Lib.hid HW.out
  have HRX := Lib.hid (HM.out.row HR.out HNE.out.1 HNE.out.2)
  go_wp2_with (refine wpList_load_pto rfl 25 (.tmp 15) rfl n0 1 8 rfl 38 ((fr : Int) :: l) _ HRX.out (by have := HL.out; simp; omega) Tryz.underlying25 rfl side_sz ?_)
  rw [sds_cons]
  go_loopw [17] (fun ii wr => ∃ (b : Nat) (v' : Value), b ≤ 8 ∧ ii = .int .i64 (b : Int) ∧ Wr wr B g v' (lb19 fr l b) ∧ Moved w1 wr g v v') (fun ii _ => 8 - (intOf ii).toNat)
  case atStart => exact ⟨0, v2, by omega, rfl, HX.out, HM.out⟩
  case round =>
    clear HX HM HRX HW
    obtain ⟨b, v', hb8, rfl, hw, hm⟩ := hrel
    have HW := Lib.hid hw
    have HM := Lib.hid hm
    clear hw hm
    rcases Nat.lt_or_ge b 8 with hlt | hge
    · have hix := index_sds (sds l) (pto_len _ _ _) b hlt
      have hs := HS.out b hlt
      rw [sds_at l b hlt] at hix hs
      have HN : Hid (lb19 fr l (b + 1) = lb19 fr l b ++ bitsOf (l.getD b 0).toNat 4) := Lib.hid rfl
      have HLEN := Lib.hid (lb19_len fr l b)
      obtain ⟨q, hq⟩ : ∃ q : Nat, l.getD b 0 = (q : Int) := ⟨(l.getD b 0).toNat, by omega⟩
      rw [hq] at hix hs HN
      rw [Int.toNat_natCast] at HN
      have HQ := Lib.hid (show q < 2 ^ 4 by omega)
      have HK := Lib.hid hlt
      have hbI : (b : Int) < 8 := by omega
      clear hb8 hlt hs hq
      go_wp2_with fail
      refine (put_ok q 4 (lb19 fr l b) B g v' _ (by decide) HQ.out (by rw [HLEN.out]; have := HK.out; omega) (Nat.le_trans HBS.out HM.out.size) HW.out).mono ?_
      rintro e w3 ⟨rfl, v3, hw, hm⟩
      have HW := Lib.hid hw
      have HM := Lib.hid (HM.out.trans hm)
      clear hw hm
      go_wp2_with fail
      go_roundw
      case rel => exact ⟨b + 1, v3, HK.out, by go_num, by rw [HN.out]; exact HW.out, HM.out⟩
      case measure =>
        have := HK.out
        simp [intOf] <;> omega
    · obtain rfl : b = 8 := by omega
      clear hb8 hge
      have HX : Hid (Wr wr B g v' (yb19 fr l 0)) := Lib.hid HW.out
      have HRX := Lib.hid (HM.out.row HR.out HNE.out.1 HNE.out.2)
      go_wp2_with (refine wpList_load_pto rfl 28 (.tmp 25) rfl n0 9 32 rfl 38 ((fr : Int) :: l) _ HRX.out (by have := HL.out; simp; omega) Tryz.underlying28 rfl bds_sz ?_)
      rw [bds_cons]
      go_loopw [27] (fun ii wr => ∃ (b : Nat) (v' : Value), b ≤ 8 ∧ ii = .int .i64 (b : Int) ∧ Wr wr B g v' (yb19 fr l b) ∧ Moved w1 wr g v v') (fun ii _ => 8 - (intOf ii).toNat)
      case atStart => exact ⟨0, v', by omega, rfl, HX.out, HM.out⟩
      case round =>
        clear HX HM HRX HW
        rename World => wq
        obtain ⟨b, vb, hb8, rfl, hw, hm⟩ := hrel
        have HW := Lib.hid hw
        have HM := Lib.hid hm
        clear hw hm
        rcases Nat.lt_or_ge b 8 with hlt | hge
        · have hix := index_bds (pto l 8 32) (pto_len _ _ _) b hlt
          rw [bands_sys l b hlt] at hix
          have HN : Hid (yb19 fr l (b + 1) = yb19 fr l b ++ bitsOf (ix13 (sys l b)) (btc (pl13 (sys l b)))) := Lib.hid rfl
          have HLEN := Lib.hid (yb19_len fr l b)
          have HPL := HP.out b hlt
          have HY4 := Lib.hid (show (sys l b).length = 4 from pto_len _ _ _)
          have hpu : pu13 (sys l b) = pl13 (sys l b) := by
            rw [pu_in (sys l b) (show (sys l b).length ≤ 8 by rw [HY4.out]; decide)]
            omega
          have hI : ixI (sys l b) = (ix13 (sys l b) : Int) := if_neg (by omega)
          have hE : ixE (sys l b) = 0 := if_neg (by omega)
          obtain ⟨y, hy⟩ : ∃ y, sys l b = y := ⟨_, rfl⟩
          rw [hy] at hix HN HPL HY4 hpu hI hE
          have HLT := Lib.hid (ix_in19 y (pl13 y) HY4.out rfl HPL)
          have HIX := Lib.hid fun v w (hv : IntsAt w v y) => index_any y v w hv (by rw [HY4.out]; unfold maxLen; omega)
          have HPU := Lib.hid fun v w (hv : IntsAt w v y) => pulses_any y v w hv (by rw [HY4.out]; unfold maxLen; omega)
          have HBV := Lib.hid fun w => HV (pl13 y) w HPL
          rw [hI, hE] at HIX
          rw [hpu] at HPU
          have HBD := Lib.hid (btc_bd (pl13 y))
          obtain ⟨k, hk⟩ : ∃ k, pl13 y = k := ⟨_, rfl⟩
          rw [hk] at HPU HBV HLT HN HBD
          obtain ⟨n, hn⟩ : ∃ n, btc k = n := ⟨_, rfl⟩
          rw [hn] at HBV HLT HN HBD
          obtain ⟨i, hi⟩ : ∃ i, ix13 y = i := ⟨_, rfl⟩
          rw [hi] at HLT HIX HN
          have HK := Lib.hid hlt
          have hbI : (b : Int) < 8 := by omega
          obtain ⟨gy, hgy⟩ : ∃ gy, wq.heap.size = gy := ⟨_, rfl⟩
          have HPZ := Lib.hid (pls_size y HY4.out)
          have HSX : Hid ((iCells [0, 0, 0, 0]).size = (iCells y).size) := Lib.hid (by rw [iCells_size, iCells_size, HY4.out]; rfl)
          have HRY : Hid (Row (wq.alloc (.cells (iCells [0, 0, 0, 0]) 27)) gy 27 (iCells [0, 0, 0, 0])) := Lib.hid (row_new _ _ hgy _ _)
          clear hb8 hlt hpu hI hE hy hk hn hi HPL
          go_upto_region 10 with (refine wpList_store_row rfl 27 (.tmp 7) (.tmp 29) rfl gy (iCells y) rfl rfl 27 (iCells [0, 0, 0, 0]) HRY.out HPZ.out HSX.out (iCells_one _) ?_)
          have HBY : Below wq.heap.size wq ((wq.alloc (.cells (iCells [0, 0, 0, 0]) 27)).setRow gy (iCells y)) := below_setRow ((Below.refl _ _).alloc (Nat.le_refl _) _) (by omega) _
          have HPR := Lib.hid (Row.setRow HRY.out (iCells y))
          have HW := Lib.hid (HW.out.more HBY)
          have HM := Lib.hid (HM.out.more HBY)
          clear HBY HRY hgy hix
          generalize (wq.alloc (.cells (iCells [0, 0, 0, 0]) 27)).setRow gy (iCells y) = w3 at *
          simp only [Act.put]
          go_wp2_with fail
          refine (HIX.out _ _ (pls_ints HPR.out HY4.out)).mono ?_
          rintro e w4 ⟨rfl, hb⟩
          have HPR := Lib.hid (HPR.out.box hb)
          have HW := Lib.hid (HW.out.more hb)
          have HM := Lib.hid (HM.out.more hb)
          clear hb HIX
          go_wp2_with fail
          refine (HPU.out _ _ (pls_ints HPR.out HY4.out)).mono ?_
          rintro e w5 ⟨rfl, rfl⟩
          clear HPU
          go_wp2_with fail
          refine (HBV.out _).mono ?_
          rintro e w6 ⟨rfl, hb⟩
          have HW := Lib.hid (HW.out.more hb)
          have HM := Lib.hid (HM.out.more hb)
          clear hb HBV HPR
          go_wp2_with fail
          refine (put_ok i n (yb19 fr l b) B g vb _ (by have := HBD.out; omega) HLT.out (by have := HLEN.out; have := HK.out; omega) (Nat.le_trans HBS.out HM.out.size) HW.out).mono ?_
          rintro e w7 ⟨rfl, v7, hw, hm⟩
          have HW := Lib.hid hw
          have HM := Lib.hid (HM.out.trans hm)
          clear hw hm
          go_wp2_with fail
          go_roundw
          case rel => exact ⟨b + 1, v7, HK.out, by go_num, by rw [HN.out]; exact HW.out, HM.out⟩
          case measure =>
            have := HK.out
            simp [intOf] <;> omega
        · obtain rfl : b = 8 := by omega
          clear hb8 hge
          go_wp2_with fail
          go_end0
          exact ⟨rfl, vb, HW.out, HM0.out.trans HM.out⟩
end Go.Proofs.YtalbcimnnihmnaaGreat
