/-
  The reference's Waves. Conditions: a frame of 32 ints that is held.
-/
import Derived.Test.YtdnchnhflfcdkaaQEh
import Derived.Test.YtdnchnhflfcdkaaQEr
import Derived.Test.YtdnchnhflfcdkaaQDj
import Derived.Test.YtdnchnhflfcdkaaQDk
import Derived.Test.YtdnchnhflfcdkaaQDr
namespace Go.Proofs.Ytdnchnhflfcdkaa
open Go.RowKit
open M
theorem sixt_info : (Try.prog.info? 74).map (fun i => (i.zero, i.size)) = some (some (.agg (iCells (z16.map Prod.fst))), 16) := by kernel_rfl
theorem sixt_zero (w : World) : (zeroValue 74).run Try.prog w = .ok (.agg (iCells (z16.map Prod.fst))) w := (zero_of_info sixt_info).1 w
theorem map_fst_getD (l : List (Int × Int)) (n : Nat) : (l.map Prod.fst).getD n 0 = (l.getD n (0, 0)).1 := by
  simp only [List.getD_eq_getElem?_getD, List.getElem?_map]
  cases l[n]? <;> rfl
theorem map_snd_getD (l : List (Int × Int)) (n : Nat) : (l.map Prod.snd).getD n 0 = (l.getD n (0, 0)).2 := by
  simp only [List.getD_eq_getElem?_getD, List.getElem?_map]
  cases l[n]? <;> rfl
theorem turnR_all : ∀ h : Fin 9, isH h → ∀ i : Fin 8, i.1 < h.1 → ((i.1 : Int) * 512).tdiv (2 * (h.1 : Int)) = (i.1 : Int) * 512 / (2 * (h.1 : Int)) ∧ -((i.1 : Int) * 512 / (2 * (h.1 : Int))) = -(i.1 : Int) * 512 / (2 * (h.1 : Int)) ∧ 0 ≤ (i.1 : Int) * 512 / (2 * (h.1 : Int)) ∧ (i.1 : Int) * 512 / (2 * (h.1 : Int)) ≤ 512 := by
  unfold isH
  decide +kernel
theorem turnR_at (h i : Nat) (hh : isH h) (hi : i < h) : ((i : Int) * 512).tdiv (2 * (h : Int)) = (i : Int) * 512 / (2 * (h : Int)) ∧ -((i : Int) * 512 / (2 * (h : Int))) = -(i : Int) * 512 / (2 * (h : Int)) ∧ 0 ≤ (i : Int) * 512 / (2 * (h : Int)) ∧ (i : Int) * 512 / (2 * (h : Int)) ≤ 512 := by
  have := isH_le hh
  exact turnR_all ⟨h, by omega⟩ hh ⟨i, by omega⟩ hi
theorem wrR_Bd (f : List Int) (h : Hld f) (i n : Nat) : Bd 8589934592 ((wrd f i).getD n (0, 0)) := by
  obtain ⟨⟨a, b⟩, ⟨c, d⟩⟩ := wrd_bd f h i n
  exact ⟨a, b, c, d⟩
/-- The reference's sizes. -/
def szs (j : Nat) : Int := [16, 8, 4, 2, 1].getD j 1
theorem szs_at (j : Nat) (h : j < 4) : szs j = 2 * ((hfw j : Nat) : Int) ∧ szs (j + 1) = ((hfw j : Nat) : Int) := by
  match j, h with
  | 0, _ => exact ⟨rfl, rfl⟩
  | 1, _ => exact ⟨rfl, rfl⟩
  | 2, _ => exact ⟨rfl, rfl⟩
  | 3, _ => exact ⟨rfl, rfl⟩
/-- What stays: the frame, the answer's block, the points' first numbers and their second ones. -/
structure WR (w : World) (f : List Int) (l : List (Int × Int)) (w' : World) : Prop where
  fr : Row w' w.heap.size 33 (iCells f)
  an : Row w' (w.heap.size + 1) 33 (iCells f0)
  xs : Row w' (w.heap.size + 1 + 1) 74 (iCells (l.map Prod.fst))
  ys : Row w' (w.heap.size + 1 + 1 + 1) 74 (iCells (l.map Prod.snd))
  be : Below w.heap.size w w'
theorem WR.drewN {w w1 : World} {f : List Int} {l : List (Int × Int)} (h : WR w f l w1) (n : Nat) : WR w f l (w1.drewN n) := ⟨h.fr, h.an, h.xs, h.ys, Below.drewN h.be n⟩
theorem WR.x {w w1 : World} {f : List Int} {l : List (Int × Int)} (h : WR w f l w1) (n : Nat) (hn : n < l.length) : w1.cell? ⟨w.heap.size + 1 + 1, n, none⟩ = some (.int .i64 (l.getD n (0, 0)).1) := by
  rw [← map_fst_getD]
  exact i_at h.xs n (by rw [List.length_map]; exact hn)
theorem WR.y {w w1 : World} {f : List Int} {l : List (Int × Int)} (h : WR w f l w1) (n : Nat) (hn : n < l.length) : w1.cell? ⟨w.heap.size + 1 + 1 + 1, n, none⟩ = some (.int .i64 (l.getD n (0, 0)).2) := by
  rw [← map_snd_getD]
  exact i_at h.ys n (by rw [List.length_map]; exact hn)
theorem WR.put {w w1 : World} {f : List Int} {l : List (Int × Int)} (h : WR w f l w1) (n : Nat) (x y : Int) : WR w f (l.set n (x, y)) ((w1.setCell ⟨w.heap.size + 1 + 1, n, none⟩ (.int .i64 x)).setCell ⟨w.heap.size + 1 + 1 + 1, n, none⟩ (.int .i64 y)) := by
  have hx := h.xs.set n (.int .i64 x)
  have hy := h.ys.set n (.int .i64 y)
  rw [iCells_set, show (l.map Prod.fst).set n x = (l.set n (x, y)).map Prod.fst by rw [List.map_set]] at hx
  have hx2 := hx.far (p := ⟨w.heap.size + 1 + 1 + 1, n, none⟩) (by show w.heap.size + 1 + 1 ≠ w.heap.size + 1 + 1 + 1; omega) (.int .i64 y)
  have hy2 := (h.ys.far (p := ⟨w.heap.size + 1 + 1, n, none⟩) (by show w.heap.size + 1 + 1 + 1 ≠ w.heap.size + 1 + 1; omega) (.int .i64 x)).set n (.int .i64 y)
  rw [iCells_set, show (l.map Prod.snd).set n y = (l.set n (x, y)).map Prod.snd by rw [List.map_set]] at hy2
  exact ⟨(h.fr.far (p := ⟨w.heap.size + 1 + 1, n, none⟩) (by show w.heap.size ≠ w.heap.size + 1 + 1; omega) _).far (p := ⟨w.heap.size + 1 + 1 + 1, n, none⟩) (by show w.heap.size ≠ w.heap.size + 1 + 1 + 1; omega) _,
    (h.an.far (p := ⟨w.heap.size + 1 + 1, n, none⟩) (by show w.heap.size + 1 ≠ w.heap.size + 1 + 1; omega) _).far (p := ⟨w.heap.size + 1 + 1 + 1, n, none⟩) (by show w.heap.size + 1 ≠ w.heap.size + 1 + 1 + 1; omega) _,
    hx2, hy2, (h.be.setCell (p := ⟨w.heap.size + 1 + 1, n, none⟩) (by show w.heap.size ≤ w.heap.size + 1 + 1; omega) _).setCell (p := ⟨w.heap.size + 1 + 1 + 1, n, none⟩) (by show w.heap.size ≤ w.heap.size + 1 + 1 + 1; omega) _⟩
theorem WR.side {w w1 : World} {f : List Int} {l : List (Int × Int)} {g : Nat} (h : WR w f l w1) (hg : w.heap.size + 1 + 1 + 1 < g) (n : Nat) (v : Value) : WR w f l (w1.setCell ⟨g, n, none⟩ v) :=
  ⟨h.fr.far (p := ⟨g, n, none⟩) (by show w.heap.size ≠ g; omega) _, h.an.far (p := ⟨g, n, none⟩) (by show w.heap.size + 1 ≠ g; omega) _, h.xs.far (p := ⟨g, n, none⟩) (by show w.heap.size + 1 + 1 ≠ g; omega) _, h.ys.far (p := ⟨g, n, none⟩) (by show w.heap.size + 1 + 1 + 1 ≠ g; omega) _, h.be.setCell (p := ⟨g, n, none⟩) (by show w.heap.size ≤ g; omega) _⟩
set_option maxRecDepth 100000 in
set_option maxHeartbeats 4000000 in
theorem rwaves_in (f : List Int) (w : World) (hf : Hld f) :
    Calls Try.prog 28 #[.agg (iCells f)] w fun e w' => e = .returned (.agg (iCells (wav f))) ∧ Below w.heap.size w w' := by
  have HWR : Hid (WR w f z16 ((((w.alloc (.cells (iCells f) 33)).alloc (.cells (iCells f0) 33)).alloc (.cells (iCells (z16.map Prod.fst)) 74)).alloc (.cells (iCells (z16.map Prod.fst)) 74))) := by
    have r0 : Row (w.alloc (.cells (iCells f) 33)) w.heap.size 33 (iCells f) := row_new w _ rfl _ _
    have s0 : Row ((w.alloc (.cells (iCells f) 33)).alloc (.cells (iCells f0) 33)) (w.heap.size + 1) 33 (iCells f0) := row_new _ _ (by simp) _ _
    have u0 : Row (((w.alloc (.cells (iCells f) 33)).alloc (.cells (iCells f0) 33)).alloc (.cells (iCells (z16.map Prod.fst)) 74)) (w.heap.size + 1 + 1) 74 (iCells (z16.map Prod.fst)) := row_new _ _ (by simp) _ _
    have v0 : Row ((((w.alloc (.cells (iCells f) 33)).alloc (.cells (iCells f0) 33)).alloc (.cells (iCells (z16.map Prod.fst)) 74)).alloc (.cells (iCells (z16.map Prod.fst)) 74)) (w.heap.size + 1 + 1 + 1) 74 (iCells (z16.map Prod.fst)) := row_new _ _ (by simp) _ _
    exact ⟨((r0.alloc _).alloc _).alloc _, (s0.alloc _).alloc _, u0.alloc _, v0, (((((Below.refl _ _).alloc (Nat.le_refl _) _).alloc (by simp) _).alloc (by simp; omega) _).alloc (by simp; omega) _)⟩
  have hz := fun w => nums_zero w
  have hz6 := fun w => sixt_zero w
  have HF := Lib.hid hf
  have HZN := Lib.hid fun w => nums_zero w
  clear hf
  go_enter Try.func28, Try.ntmps28
  go_wp2_with fail
  clear hz hz6
  generalize (((w.alloc (.cells (iCells f) 33)).alloc (.cells (iCells f0) 33)).alloc (.cells (iCells (z16.map Prod.fst)) 74)).alloc (.cells (iCells (z16.map Prod.fst)) 74) = w1 at *
  go_loopw [5] (fun ii wr => ∃ n : Nat, n ≤ 16 ∧ ii = .int .i64 n ∧ WR w f (ptk f n) wr) (fun ii _ => 16 - (intOf ii).toNat)
  case atStart => exact ⟨0, by omega, rfl, by rw [ptk_zero]; exact HWR.out⟩
  case round =>
    clear HWR
    obtain ⟨n, hn, rfl, h1⟩ := hrel
    have HS := Lib.hid h1
    clear h1
    rcases Nat.lt_or_ge n 16 with hlt | hge
    · have e1 := i_at HS.out.fr (2 * n) (by rw [HF.out.1]; omega)
      have e2 := i_at HS.out.fr (31 - 2 * n) (by rw [HF.out.1]; omega)
      have hb1 := Hld.at HF.out (2 * n)
      have hb2 := Hld.at HF.out (31 - 2 * n)
      have HST := Lib.hid (ptk_step f n)
      have hi1 : (2 : Int) * (n : Int) = ((2 * n : Nat) : Int) := by omega
      have hi2 : (31 : Int) - ((2 * n : Nat) : Int) = ((31 - 2 * n : Nat) : Int) := by omega
      have hd1 : ((2 * n : Nat) : Int) < 32 := by omega
      have hd2 : ((31 - 2 * n : Nat) : Int) < 32 := by omega
      obtain ⟨a, ha⟩ : ∃ a, f.getD (2 * n) 0 = a := ⟨_, rfl⟩
      obtain ⟨b, hb⟩ : ∃ b, f.getD (31 - 2 * n) 0 = b := ⟨_, rfl⟩
      rw [ha] at e1 hb1 HST
      rw [hb] at e2 hb2 HST
      have hT := fun W => turn9_ref (a, b) (-(8 * (n : Int) + 2)) W ⟨by show -1099511627776 ≤ a; omega, by show a ≤ 1099511627776; omega, by show -1099511627776 ≤ b; omega, by show b ≤ 1099511627776; omega⟩ (by omega) (by omega)
      obtain ⟨q, hq⟩ : ∃ q, lft (a, b) (-(8 * (n : Int) + 2)) = q := ⟨_, rfl⟩
      simp only [hq] at hT
      rw [hq] at HST
      obtain ⟨x, y⟩ := q
      dsimp only at hT
      have HT := Lib.hid hT
      clear ha hb hn hT hq
      generalize 31 - 2 * n = d2 at hi2 hd2 e2
      generalize 2 * n = d1 at hi1 hi2 hd1 e1
      have hr1 : IntKind.i64.wrap (d1 : Int) = (d1 : Int) := by rw [IntKind.wrap_i64]; omega
      have hr2 : IntKind.i64.wrap (d2 : Int) = (d2 : Int) := by rw [IntKind.wrap_i64]; omega
      have hr3 : IntKind.i64.wrap (8 * (n : Int)) = 8 * (n : Int) := by rw [IntKind.wrap_i64]; omega
      have hr4 : IntKind.i64.wrap (8 * (n : Int) + 2) = 8 * (n : Int) + 2 := by rw [IntKind.wrap_i64]; omega
      have hr5 : IntKind.i64.wrap (-(8 * (n : Int) + 2)) = -(8 * (n : Int) + 2) := by rw [IntKind.wrap_i64]; omega
      have hnI : (n : Int) < 16 := by omega
      have HWN := Lib.hid (ptk_len f n)
      have c0 := HS.out.x n (by rw [HWN.out]; exact hlt)
      have c1 := HS.out.y n (by rw [HWN.out]; exact hlt)
      have fx := fun i => Row.free HS.out.xs i
      have fy := fun i => Row.free HS.out.ys i
      clear hb1 hb2
      go_wp2_with fail
      go_quiet ((go_at_call 27; exact Calls.quiet_of_same ((HT.out _).mono fun _ _ h => ⟨h.1, h.2.symm⟩)))
      go_wp2_with fail
      go_roundw
      case rel =>
        refine ⟨n + 1, hlt, by go_num, ?_⟩
        rw [← HST.out]
        first
          | exact (HS.out.drewN nq).put n x y
          | exact (HS.out.put n x y).drewN nq
      case measure => simp [intOf] <;> omega
    · obtain rfl : n = 16 := by omega
      have h1 := HS.out
      rw [ptk_full] at h1
      have HS4 := Lib.hid h1
      clear h1 HS hn hge
      have HBD := Lib.hid fun j n => wrR_Bd f HF.out j n
      rw [show ((16 : Nat) : Int) = 16 from rfl]
      go_wp2_with fail
      go_loopw [8] (fun ss wr => ∃ j : Nat, j ≤ 4 ∧ ss = .int .i64 (szs j) ∧ WR w f (wrd f j) wr) (fun ss _ => (intOf ss).toNat)
      case atStart => exact ⟨0, by omega, rfl, HS4.out⟩
      case round =>
        clear HS4
        obtain ⟨j, hj, rfl, h1⟩ := hrel
        have HS := Lib.hid h1
        clear h1
        rcases Nat.lt_or_ge j 4 with hlt | hge
        · have HNX := Lib.hid (wrd_next f j hlt)
          have HBX := Lib.hid (HBD.out j)
          have HLN := Lib.hid (wrd_len f j)
          have HIS := Lib.hid (hfw_is j)
          obtain ⟨hs1, hs2⟩ := szs_at j hlt
          obtain ⟨l, hl⟩ : ∃ l, wrd f j = l := ⟨_, rfl⟩
          rw [hl] at HNX HBX HLN HS
          obtain ⟨h, hh⟩ : ∃ h, hfw j = h := ⟨_, rfl⟩
          rw [hh] at HNX HIS hs1 hs2
          have HZ2 := Lib.hid hs2
          rw [hs1]
          clear hl hh HBD hs1 hs2
          obtain ⟨hb1, hb2, _⟩ := isH_le HIS.out
          go_wp2_with fail
          try generalize Value.bool (decide ((2 : Int) ≤ 2 * (h : Int))) = vb
          go_loopw [9] (fun ii wr => ∃ B : Nat, B ≤ 8 ∧ B % h = 0 ∧ ii = .int .i64 (2 * (B : Int)) ∧ WR w f (rdn (fun z w _ => bfz z w) bfw h l B) wr) (fun ii _ => 16 - (intOf ii).toNat)
          case atStart => exact ⟨0, by omega, Nat.zero_mod _, rfl, HS.out⟩
          case round =>
            clear HS
            obtain ⟨B, hB, hd, rfl, h1⟩ := hrel
            have HS := Lib.hid h1
            have HD := Lib.hid hd
            clear h1 hd
            rcases Nat.lt_or_ge B 8 with hBl | hge
            · have HRM := Lib.hid (isH_room HIS.out hBl HD.out)
              have hrm := HRM.out.1
              go_wp2_with fail
              generalize Value.bool (decide (2 * (B : Int) < 16)) = vc
              go_loopw [10] (fun ii wr => ∃ i : Nat, i ≤ h ∧ ii = .int .i64 i ∧ WR w f (rdn (fun z w _ => bfz z w) bfw h l (B + i)) wr) (fun ii _ => h - (intOf ii).toNat)
              case atStart => exact ⟨0, Nat.zero_le _, rfl, HS.out⟩
              case round =>
                clear HS
                obtain ⟨i, hi, rfl, h1⟩ := hrel
                have HS := Lib.hid h1
                clear h1
                rcases Nat.lt_or_ge i h with hil | hge
                · obtain ⟨q1, q2⟩ := rdn_fresh (fun z w _ => bfz z w) bfw h B i l HIS.out hBl HD.out hil
                  have hST := rdn_step (fun z w _ => bfz z w) bfw h B i l HIS.out hBl HD.out hil
                  obtain ⟨t1, t2, t3, t4⟩ := turnR_at h i HIS.out hil
                  have HL2 : Hid ((rdn (fun z w _ => bfz z w) bfw h l (B + i)).length = 16) := by unfold Hid; rw [rdn_len]; exact HLN.out
                  have hp : 2 * B + i < 16 := by omega
                  have hq : 2 * B + i + h < 16 := by omega
                  have hP : 2 * (B : Int) + (i : Int) = ((2 * B + i : Nat) : Int) := by omega
                  have hQ : ((2 * B + i : Nat) : Int) + (h : Int) = ((2 * B + i + h : Nat) : Int) := by omega
                  have BU := HBX.out (2 * B + i)
                  have BV := HBX.out (2 * B + i + h)
                  generalize 2 * B + i + h = q at *
                  generalize 2 * B + i = p at *
                  have c0 := HS.out.x p (by rw [HL2.out]; exact hp)
                  have c1 := HS.out.y p (by rw [HL2.out]; exact hp)
                  have c2 := HS.out.x q (by rw [HL2.out]; exact hq)
                  have c3 := HS.out.y q (by rw [HL2.out]; exact hq)
                  rw [q1] at c0 c1
                  rw [q2] at c2 c3
                  obtain ⟨U, hU⟩ : ∃ U, l.getD p (0, 0) = U := ⟨_, rfl⟩
                  obtain ⟨V, hV⟩ : ∃ V, l.getD q (0, 0) = V := ⟨_, rfl⟩
                  rw [hU] at BU hST c0 c1 q1
                  rw [hV] at BV hST c2 c3 q2
                  clear hU hV
                  obtain ⟨u1, u2⟩ := U
                  obtain ⟨v1, v2⟩ := V
                  rw [← t2] at hST
                  obtain ⟨s, hs⟩ : ∃ s, (i : Int) * 512 / (2 * (h : Int)) = s := ⟨_, rfl⟩
                  rw [hs] at t1 t3 t4 hST
                  clear t2
                  have bx : Bd 8589934592 (u1, v1) := ⟨BU.a1, BU.a2, BV.a1, BV.a2⟩
                  have bY : Bd 8589934592 (u2, v2) := ⟨BU.b1, BU.b2, BV.b1, BV.b2⟩
                  have hT1 := fun W => turn9_ref (u1, v1) 64 W (bx.more (by omega)) (by omega) (by omega)
                  have hT2 := fun W => turn9_ref (u2, v2) 64 W (bY.more (by omega)) (by omega) (by omega)
                  have d1 := lft_bd bx (by omega) 64
                  have d2 := lft_bd bY (by omega) 64
                  have hST2 : rdn (fun z w _ => bfz z w) bfw h l (B + i + 1) = ((rdn (fun z w _ => bfz z w) bfw h l (B + i)).set p ((lft (u1, v1) 64).2, (lft (u2, v2) 64).2)).set q (lft ((lft (u1, v1) 64).1, (lft (u2, v2) 64).1) (-s)) := hST
                  clear hST BU BV bx bY
                  obtain ⟨A, hA⟩ : ∃ A, lft (u1, v1) 64 = A := ⟨_, rfl⟩
                  obtain ⟨C, hC⟩ : ∃ C, lft (u2, v2) 64 = C := ⟨_, rfl⟩
                  rw [hA, hC] at hST2
                  simp only [hA] at hT1
                  simp only [hC] at hT2
                  rw [hA] at d1
                  rw [hC] at d2
                  clear hA hC
                  obtain ⟨a, b⟩ := A
                  obtain ⟨c, d⟩ := C
                  have hT3 := fun W => turn9_ref (a, c) (-s) W ⟨by have := d1.a1; dsimp only at this ⊢; omega, by have := d1.a2; dsimp only at this ⊢; omega, by have := d2.a1; dsimp only at this ⊢; omega, by have := d2.a2; dsimp only at this ⊢; omega⟩ (by omega) (by omega)
                  dsimp only at hST2 hT1 hT2
                  obtain ⟨E, hE⟩ : ∃ E, lft (a, c) (-s) = E := ⟨_, rfl⟩
                  rw [hE] at hST2
                  simp only [hE] at hT3
                  clear hE d1 d2
                  obtain ⟨e, g⟩ := E
                  dsimp only at hT3 c0 c1 c2 c3
                  have HT1 := Lib.hid hT1
                  have HT2 := Lib.hid hT2
                  have HT3 := Lib.hid hT3
                  have HST := Lib.hid hST2
                  have fx := fun i => Row.free HS.out.xs i
                  have fy := fun i => Row.free HS.out.ys i
                  have hpI : (p : Int) < 16 := by omega
                  have hqI : (q : Int) < 16 := by omega
                  have hrs : IntKind.i64.wrap (-s) = -s := by rw [IntKind.wrap_i64]; omega
                  clear hT1 hT2 hT3 hST2 hi
                  obtain ⟨L, hL⟩ : ∃ L, rdn (fun z w _ => bfz z w) bfw h l (B + i) = L := ⟨_, rfl⟩
                  rw [hL] at HS HL2 HST q1 q2
                  have HXP := Lib.hid q1
                  have HXQ := Lib.hid q2
                  clear hL q1 q2
                  go_wp2_with fail
                  go_quiet ((go_at_call 27; exact Calls.quiet_of_same ((HT1.out _).mono fun _ _ h => ⟨h.1, h.2.symm⟩)))
                  have HS2 := Lib.hid (HS.out.drewN nq)
                  clear HS c0 c1 c2 c3 fx fy
                  generalize wr.drewN nq = w5 at HS2 ⊢
                  have HS := HS2
                  clear HS2
                  have c0 := HS.out.x p (by rw [HL2.out]; exact hp)
                  have c1 := HS.out.y p (by rw [HL2.out]; exact hp)
                  have c2 := HS.out.x q (by rw [HL2.out]; exact hq)
                  have c3 := HS.out.y q (by rw [HL2.out]; exact hq)
                  rw [HXP.out] at c0 c1
                  rw [HXQ.out] at c2 c3
                  dsimp only at c0 c1 c2 c3
                  have fx := fun i => Row.free HS.out.xs i
                  have fy := fun i => Row.free HS.out.ys i
                  go_wp2_with fail
                  go_quiet ((go_at_call 27; exact Calls.quiet_of_same ((HT2.out _).mono fun _ _ h => ⟨h.1, h.2.symm⟩)))
                  go_wp2_with fail
                  refine (HT3.out _).mono ?_
                  rintro e' w' ⟨rfl, rfl⟩
                  clear HT1 HT2 HT3
                  go_wp2_with fail
                  go_roundw
                  case rel =>
                    refine ⟨i + 1, hil, by go_num, ?_⟩
                    rw [show B + (i + 1) = B + i + 1 from rfl, HST.out]
                    first
                      | exact ((HS.out.drewN _).put p b d).put q e g
                      | exact ((HS.out.put p b d).put q e g).drewN _
                      | exact ((HS.out.put p b d).drewN _).put q e g
                  case measure => simp [intOf] <;> omega
                · obtain rfl : i = h := by omega
                  have HRM2 := Lib.hid HRM.out.2
                  clear hi hge HRM
                  go_wp2_with fail
                  go_roundw
                  case rel => exact ⟨B + i, hrm, HRM2.out, by go_num, HS.out⟩
                  case measure => simp [intOf] <;> omega
            · obtain rfl : B = 8 := by omega
              have h1 := HS.out
              rw [HNX.out] at h1
              have HS1 := Lib.hid h1
              clear h1 HS
              go_wp2_with fail
              go_roundw
              case rel => exact ⟨j + 1, hlt, by rw [HZ2.out], HS1.out⟩
              case measure => simp [intOf] <;> omega
        · obtain rfl : j = 4 := by omega
          rw [show szs 4 = 1 from rfl]
          have HBX := Lib.hid (HBD.out 4)
          have HLN := Lib.hid (wrd_len f 4)
          have HWV : Hid (outp (wrd f 4) = wav f) := rfl
          obtain ⟨l, hl⟩ : ∃ l, wrd f 4 = l := ⟨_, rfl⟩
          rw [hl] at HS HBX HLN HWV
          clear hl HBD
          have hz := fun w => HZN.out w
          have hgt := Row.lt HS.out.ys
          have HO : Hid (WR w f l (wr.alloc (.cells (iCells f0) 33)) ∧ Row (wr.alloc (.cells (iCells f0) 33)) wr.heap.size 33 (iCells f0)) :=
            ⟨⟨HS.out.fr.alloc _, HS.out.an.alloc _, HS.out.xs.alloc _, HS.out.ys.alloc _, HS.out.be.alloc HS.out.be.size _⟩, heap_alloc_new _ _⟩
          clear HS
          go_wp2_with fail
          clear hz
          generalize wr.alloc (.cells (iCells f0) 33) = w2 at *
          generalize wr.heap.size = g at *
          go_loopw [20] (fun ii wr => ∃ k : Nat, k ≤ 16 ∧ ii = .int .i64 k ∧ WR w f l wr ∧ Row wr g 33 (iCells (ouf f0 l k))) (fun ii _ => 16 - (intOf ii).toNat)
          case atStart => exact ⟨0, by omega, rfl, HO.out.1, by rw [ouf_zero _ _ f0_length]; exact HO.out.2⟩
          case round =>
            clear HO
            obtain ⟨k, hk, rfl, h1, h2⟩ := hrel
            have HS := Lib.hid h1
            have HO := Lib.hid h2
            clear h1 h2
            rcases Nat.lt_or_ge k 16 with hkl | hge
            · go_wp2_with fail
              have hfl := flp_lt k
              have HSF := Lib.hid (ouf_step f0 l k hkl)
              have hb := HBX.out (flp k)
              have hF := fun W => rflip_any k W hkl
              have c0 := HS.out.x (flp k) (by rw [HLN.out]; exact hfl)
              have c1 := HS.out.y (flp k) (by rw [HLN.out]; exact hfl)
              generalize flp k = n at *
              obtain ⟨U, hU⟩ : ∃ U, l.getD n (0, 0) = U := ⟨_, rfl⟩
              rw [hU] at hb c0 c1 HSF
              clear hU
              obtain ⟨u1, u2⟩ := U
              have hT := fun W => turn9_ref (u1, u2) (-(8 * (k : Int) + 2)) W (hb.more (by omega)) (by omega) (by omega)
              have hq := lft_bd hb (by omega) (-(8 * (k : Int) + 2))
              obtain ⟨q, hqq⟩ : ∃ q, lft (u1, u2) (-(8 * (k : Int) + 2)) = q := ⟨_, rfl⟩
              simp only [hqq] at hT
              rw [hqq] at HSF hq
              clear hqq hb
              obtain ⟨x, y⟩ := q
              have hy1 := hq.b1
              have hy2 := hq.b2
              dsimp only at hT c0 c1 hy1 hy2 HSF
              have HT := Lib.hid hT
              have HFL := Lib.hid hF
              clear hT hF hq
              have hr3 : IntKind.i64.wrap (8 * (k : Int)) = 8 * (k : Int) := by rw [IntKind.wrap_i64]; omega
              have hr4 : IntKind.i64.wrap (8 * (k : Int) + 2) = 8 * (k : Int) + 2 := by rw [IntKind.wrap_i64]; omega
              have hr5 : IntKind.i64.wrap (-(8 * (k : Int) + 2)) = -(8 * (k : Int) + 2) := by rw [IntKind.wrap_i64]; omega
              have hnI : (n : Int) < 16 := by omega
              clear hk hfl
              have HY := Lib.hid (And.intro hy1 hy2)
              clear hy1 hy2
              go_quiet (first | (go_at_call 43; exact Calls.quiet_of_same ((HFL.out _).mono fun _ _ h => ⟨h.1, h.2.symm⟩)) | (go_at_call 27; exact Calls.quiet_of_same ((HT.out _).mono fun _ _ h => ⟨h.1, h.2.symm⟩)))
              clear c0 c1 hnI hr3 hr4 hr5
              have HS2 := Lib.hid (HS.out.drewN nq)
              have HO2 : Hid (Row (wr.drewN nq) g 33 (iCells (ouf f0 l k))) := HO.out
              clear HS HO HT HFL
              generalize wr.drewN nq = w5 at HS2 HO2 ⊢
              have hr6 : IntKind.i64.wrap (-y) = -y := by obtain ⟨hy1, hy2⟩ := HY.out; rw [IntKind.wrap_i64]; omega
              have o1 := i_at HO2.out (2 * k) (by rw [ouf_len]; omega)
              have o2 := i_at HO2.out (31 - 2 * k) (by rw [ouf_len]; omega)
              have fo := fun i => Row.free HO2.out i
              have hi1 : (2 : Int) * (k : Int) = ((2 * k : Nat) : Int) := by omega
              have hi2 : (31 : Int) - ((2 * k : Nat) : Int) = ((31 - 2 * k : Nat) : Int) := by omega
              have hd1 : ((2 * k : Nat) : Int) < 32 := by omega
              have hd2 : ((31 - 2 * k : Nat) : Int) < 32 := by omega
              have hdd : 2 * k ≠ 31 - 2 * k := by omega
              obtain ⟨d1, hD1⟩ : ∃ d, 2 * k = d := ⟨_, rfl⟩
              obtain ⟨d2, hD2⟩ : ∃ d, 31 - 2 * k = d := ⟨_, rfl⟩
              rw [hD2] at hi2 hd2 o2 hdd HSF
              rw [hD1] at hi1 hi2 hd1 o1 hdd HSF
              have hr1 : IntKind.i64.wrap (d1 : Int) = (d1 : Int) := by rw [IntKind.wrap_i64]; omega
              have hr2 : IntKind.i64.wrap (d2 : Int) = (d2 : Int) := by rw [IntKind.wrap_i64]; omega
              clear hD1 hD2
              go_wp2_with fail
              refine ⟨⟨k + 1, hkl, by go_num, (HS2.out.side hgt d1 _).side hgt d2 _, ?_⟩, by simp only [intOf]; omega⟩
              have h := (HO2.out.set d1 (.int .i64 x)).set d2 (.int .i64 (-y))
              rw [iCells_set, iCells_set, HSF.out] at h
              exact h
            · obtain rfl : k = 16 := by omega
              have h1 := HO.out
              rw [ouf_full, HWV.out] at h1
              have HO1 := Lib.hid h1
              have HSW := Lib.hid (nums_size (wav f) (wav_len f))
              have HSS := Lib.hid (frame_same f0 (wav f) f0_length (wav_len f))
              clear h1 HO hk hge HWV HBX HLN
              obtain ⟨v, hv⟩ : ∃ v, wav f = v := ⟨_, rfl⟩
              rw [hv] at HO1 HSW HSS
              have HVV := Lib.hid hv
              clear hv
              go_wp2_with (first
                | (refine wpList_load_row rfl 33 (.tmp 19) rfl g rfl 33 (iCells v) (0, 0) _ HO1.out Try.underlying33 rfl HSW.out ?_)
                | (refine wpList_store_row rfl 33 (.tmp 2) (.tmp 147) rfl (w.heap.size + 1) (iCells v) rfl rfl 33 (iCells f0) HS.out.an HSW.out HSS.out (iCells_one v) ?_))
              refine bodyPost_ret (v := .agg (iCells v)) (results_cell_row Try.results28 _ _ (w.heap.size + 1) 33 (iCells v) (0, 0) _ rfl (Row.setRow HS.out.an _) Try.underlying33 rfl HSW.out) rfl ⟨by rw [HVV.out], below_setRow HS.out.be (by omega) _⟩
end Go.Proofs.Ytdnchnhflfcdkaa
