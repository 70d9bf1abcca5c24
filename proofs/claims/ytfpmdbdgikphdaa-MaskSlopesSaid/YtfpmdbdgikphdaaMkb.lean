/-
  MaskSlopes, walked. Conditions: eight ints; what mask's All answers.
-/
import Derived.Test.YtfpmdbdgikphdaaMka
import Derived.Deep.QuietTactic
namespace Go.Proofs.Ytfpmdbdgikphdaa
open Go.RowKit
open M
theorem bdI_in (l : List Int) (b : Nat) (h : rt17 l = true) (hb : b < 8) : bdI l (b : Int) = (bud (fun j => (l.getD j 0).toNat) b : Nat) := by
  unfold bdI
  rw [if_pos ⟨h, by omega, by omega⟩, Int.toNat_natCast]
theorem bud_small (l : List Int) (b : Nat) (h : rt17 l = true) : bud (fun j => (l.getD j 0).toNat) b ≤ 131072 :=
  bud_lt _ b fun j hj => by have := (rt_iff l).1 h j hj; omega
set_option maxRecDepth 100000 in
set_option maxHeartbeats 1000000 in
theorem slopes17_law (HA : AllOk) (x : List Int) (w : World) (hx : x.length = 8) :
    Calls Try.prog 6 #[.agg (iCells x)] w fun e w' => e = .returned (.bool true) ∧ Below w.heap.size w w' := by
  have HAW := Lib.hid fun w => awake17_any HA w
  have HH := Lib.hid fun w => held17_any x w hx
  have HAL := Lib.hid fun w => HA (hd17 x 8) w (hd17_len _ _)
  have HRT := hd17_right x
  obtain ⟨h, hh⟩ : ∃ h, hd17 x 8 = h := ⟨_, rfl⟩
  rw [hh] at HH HAL HRT
  have HIN := Lib.hid fun b => bdI_in h b HRT
  have HSM := Lib.hid fun b => bud_small h b HRT
  have HSL := Lib.hid fun b => bud_slopes (fun j => (h.getD j 0).toNat) b
  obtain ⟨B, hB⟩ : ∃ B, bud (fun j => (h.getD j 0).toNat) = B := ⟨_, rfl⟩
  rw [hB] at HIN HSM HSL
  have HLN := Lib.hid (alL_len h)
  have HGT := Lib.hid fun b hb => (alL_get h b hb).trans (HIN.out b hb)
  clear HIN hB
  obtain ⟨a, ha⟩ : ∃ a, alL h = a := ⟨_, rfl⟩
  rw [ha] at HAL HLN HGT
  have HX := Lib.hid (i8_size x hx)
  have hz := sds_zero
  have HSS := Lib.hid (sds_size a HLN.out)
  have HSX := Lib.hid (sds_same zs8 a zs8_length HLN.out)
  have HR : Hid (Row (w.alloc (.cells (iCells x) 22)) w.heap.size 22 (iCells x)) := Lib.hid (heap_alloc_new _ _)
  have HB : Hid (Below w.heap.size w (w.alloc (.cells (iCells x) 22))) := Lib.hid ((Below.refl _ _).alloc (Nat.le_refl _) _)
  clear hx HRT hh ha HA
  go_enter Try.func6, Try.ntmps6
  go_wp2_with fail
  generalize w.alloc (.cells (iCells x) 22) = w1 at *
  refine (HAW.out _).mono ?_
  rintro e w2 ⟨rfl, hb⟩
  have HR := Lib.hid (HR.out.box hb)
  have HB := Lib.hid (HB.out.trans (hb.mono HB.out.size))
  clear hb
  go_wp2_with (refine wpList_load_row rfl 22 (.tmp 1) rfl w.heap.size rfl 22 (iCells x) (0, 0) _ HR.out Try.underlying22 rfl HX.out ?_)
  refine (HH.out _).mono ?_
  rintro e w3 ⟨rfl, hb⟩
  have HB := Lib.hid (HB.out.trans (hb.mono HB.out.size))
  clear hb HR
  go_wp2_with fail
  refine (HAL.out _).mono ?_
  rintro e w4 ⟨rfl, hb⟩
  have HB := Lib.hid (HB.out.trans (hb.mono HB.out.size))
  clear hb
  have HR : Hid (Row (w4.alloc (.cells (iCells zs8) 24)) w4.heap.size 24 (iCells zs8)) := Lib.hid (heap_alloc_new _ _)
  go_wp2_with (refine wpList_store_row rfl 24 (.tmp 3) (.tmp 9) rfl w4.heap.size (iCells a) rfl rfl 24 (iCells zs8) HR.out HSS.out HSX.out (iCells_one _) ?_)
  have HB := Lib.hid (below_setRow (HB.out.alloc HB.out.size (.cells (iCells zs8) 24)) HB.out.size (iCells a))
  have HR := Lib.hid (Row.setRow HR.out (iCells a))
  generalize (w4.alloc (.cells (iCells zs8) 24)).setRow w4.heap.size (iCells a) = w5 at *
  obtain ⟨g, hg⟩ : ∃ g, w4.heap.size = g := ⟨_, rfl⟩
  rw [hg] at HR ⊢
  clear hg hz
  go_loopw [4] (fun ii wr => ∃ (b : Nat), b ≤ 7 ∧ ii = .int .i64 (b : Int) ∧ Row wr g 24 (iCells a) ∧ Below w.heap.size w wr) (fun ii _ => 7 - (intOf ii).toNat)
  case atStart => exact ⟨0, by omega, rfl, HR.out, HB.out⟩
  case round =>
    clear HR HB
    obtain ⟨b, hb7, rfl, hr, hb⟩ := hrel
    have HR := Lib.hid hr
    have HB := Lib.hid hb
    rcases Nat.lt_or_ge b 7 with hlt | hge
    · have hbI : (b : Int) < 7 := by omega
      have HK := Lib.hid hlt
      have c0 := i_at hr b (by rw [HLN.out]; omega)
      have c1 := i_at hr (b + 1) (by rw [HLN.out]; omega)
      rw [HGT.out b (by omega)] at c0
      rw [HGT.out (b + 1) (by omega)] at c1
      obtain ⟨s1, s2⟩ := HSL.out b
      have m0 := HSM.out b
      have m1 := HSM.out (b + 1)
      obtain ⟨p, hp⟩ : ∃ p, B b = p := ⟨_, rfl⟩
      obtain ⟨q, hq⟩ : ∃ q, B (b + 1) = q := ⟨_, rfl⟩
      rw [hp] at c0 s1 s2 m0
      rw [hq] at c1 s1 s2 m1
      obtain ⟨u, hu⟩ : ∃ u, p / 2 = u := ⟨_, rfl⟩
      obtain ⟨v, hv⟩ : ∃ v, q / 4 = v := ⟨_, rfl⟩
      have e0 : (p : Int).tdiv 2 = (u : Int) := by rw [Int.tdiv_eq_ediv_of_nonneg (by omega)]; omega
      have e1 : (q : Int).tdiv 4 = (v : Int) := by rw [Int.tdiv_eq_ediv_of_nonneg (by omega)]; omega
      have ewu : IntKind.i64.wrap (u : Int) = (u : Int) := by rw [IntKind.wrap_i64]; omega
      have ewv : IntKind.i64.wrap (v : Int) = (v : Int) := by rw [IntKind.wrap_i64]; omega
      have huI : (u : Int) ≤ 131072 := by omega
      have hvI : (v : Int) ≤ 131072 := by omega
      have hpI : (p : Int) ≤ 131072 := by omega
      have hqI : (q : Int) ≤ 131072 := by omega
      obtain ⟨c, hc⟩ : ∃ c, b + 1 = c := ⟨_, rfl⟩
      rw [hc] at c1
      have ewb : IntKind.i64.wrap (c : Int) = (c : Int) := by rw [IntKind.wrap_i64]; omega
      have ewc : (b : Int) + 1 = (c : Int) := by omega
      have hcI : (c : Int) < 8 := by omega
      have HC := Lib.hid hc
      have hb8 : (b : Int) < 8 := by omega
      have q0 : ¬ q < u := by omega
      have q1 : ¬ p < v := by omega
      have q2 : decide (q < u) = false := decide_eq_false q0
      have q3 : decide (p < v) = false := decide_eq_false q1
      clear hb7 hlt hr hb s1 s2 m0 m1 hp hq hu hv hc
      go_wp2_with fail
      go_quiet (fail)
      go_wp2_with fail
      go_roundw
      case rel => exact ⟨b + 1, HK.out, by have := HC.out; go_num, Row.drewN HR.out _, Below.drewN HB.out _⟩
      case measure =>
        have := HK.out
        simp [intOf] <;> omega
    · obtain rfl : b = 7 := by omega
      clear hb7 hge hr hb
      go_wp2_with fail
      go_ret
      exact ⟨rfl, HB.out⟩
end Go.Proofs.Ytfpmdbdgikphdaa
