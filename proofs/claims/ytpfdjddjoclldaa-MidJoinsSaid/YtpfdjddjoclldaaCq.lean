/-
  MidJoins walked: Join undoes Split; what doesn't fit is refused. Conditions: lists of numbers, as they lie.
-/
import Derived.Test.YtpfdjddjoclldaaCj
import Derived.Deep.QuietTactic
namespace Go.Proofs.Ytpfdjddjoclldaa
open Go.RowKit
open M
/-- A whole row read as a slice. -/
theorem ints_row12 {w : World} {g : Nat} {t : TypeId} {f : List Int} (h : Row w g t (iCells f)) (c : Nat) : IntsAt w (.slice (some ⟨g, 0, none⟩) f.length c) f :=
  ⟨_, c, rfl, fun _ => ⟨g, 0, rfl, Row.lt h, fun i hi => by rw [Nat.zero_add]; exact i_at h i hi⟩⟩
theorem any_in12 (m : Int) (l : List Int) (h : l.any (byd m) = false) : ∀ x ∈ l, -m ≤ x ∧ x ≤ m := fun x hx => by
  have := List.any_eq_false.1 h x hx
  simp only [byd, decide_eq_true_eq] at this
  omega
/-- What Join answers of middles and of any other list. -/
def J12 (m r : List Int) (u v : Value) (w : World) : Prop :=
  Calls Try.prog 14 #[u, v] w fun e w' => (∃ (y : Option Addr) (c : Nat) (g : Int), e = .returned (.tuple #[.slice y c c, .int .i64 g]) ∧
    ((m.length ≠ r.length ∧ g = 1 ∧ c = 0) ∨ (m.length = r.length ∧ r.any (byd 16777216) = true ∧ g = 7 ∧ c = 0) ∨ (m.length = r.length ∧ r.any (byd 16777216) = false ∧ g = 0 ∧ c = 2 * m.length))) ∧ Below w.heap.size w w'
theorem join_other (m r : List Int) (u v : Value) (w : World) (hu : IntsAt w u m) (hv : IntsAt w v r) (hm : m.length ≤ 4096) (hr : ∀ x ∈ m, -1048576 ≤ x ∧ x ≤ 1048576) : J12 m r u v w := by
  unfold J12
  by_cases h : m.length = r.length
  · cases hf : r.any (byd 16777216)
    · refine (join_in m r m.length u v w hu hv rfl h.symm hm (fun x hx => by have := hr x hx; omega) (any_in12 16777216 r hf)).mono ?_
      rintro e w' ⟨⟨g, _, rfl, _⟩, hb⟩
      exact ⟨⟨some ⟨g, 0, none⟩, 2 * m.length, 0, rfl, Or.inr (Or.inr ⟨h, rfl, rfl, rfl⟩)⟩, hb⟩
    · refine (join_far m r u v w hu hv hm h (by rw [hf, Bool.or_true])).mono ?_
      rintro e w' ⟨rfl, hb⟩
      exact ⟨⟨none, 0, 7, rfl, Or.inr (Or.inl ⟨h, rfl, rfl, rfl⟩)⟩, hb⟩
  · refine (join_uneven m r u v w hu hv h).mono ?_
    rintro e w' ⟨rfl, rfl⟩
    exact ⟨⟨none, 0, 1, rfl, Or.inl ⟨h, rfl, rfl⟩⟩, Below.refl _ _⟩
set_option maxRecDepth 100000 in
set_option maxHeartbeats 2000000 in
theorem joins_in (l r : List Int) (n : Nat) (u v : Value) (w : World) (hu : IntsAt w u l) (hv : IntsAt w v r) (hl : l.length ≤ 400) (hr : r.length ≤ 400) (h : l.length = 2 * n) (hf : l.any (byd 1048576) = false) :
    Calls Try.prog 5 #[u, v] w fun e w' => e = .returned (.bool true) ∧ Below w.heap.size w w' := by
  have hrg := any_in12 1048576 l hf
  have HS := Lib.hid (split_in l n u w hu (by omega) h hrg)
  have hml : (mids l).length = n := by rw [mids_len, h, Nat.mul_div_cancel_left n (by decide)]
  have hsl : (sids l).length = n := by rw [sids_len, h, Nat.mul_div_cancel_left n (by decide)]
  have hmb := mids_bd l 1048576 (by decide) hrg
  have hsb := sids_bd l 1048576 (by decide) hrg
  have HJ := Lib.hid fun u v w hu hv => join_in (mids l) (sids l) n u v w hu hv hml hsl (by omega) (fun x hx => by have := hmb x hx; omega) (fun x hx => by have := hsb x hx; omega)
  rw [joi_split l (by omega)] at HJ
  have HJO := Lib.hid fun u v w hu hv => join_other (mids l) r u v w hu hv (by omega) hmb
  have HGB := Lib.hid fun p => M.getD_bd l 1048576 (by decide) hrg p
  have HML := Lib.hid hml
  have HSL := Lib.hid hsl
  clear hml hsl hmb hsb hrg hf
  unfold J12 at HJO
  rw [HML.out] at HJO
  have HVR := Lib.hid hv
  have HVL := Lib.hid hu
  have HNO := Lib.hid (any_no 16777216 r)
  have HYES := Lib.hid (any_yes 16777216 r)
  generalize mids l = M12 at *
  generalize sids l = S12 at *
  obtain ⟨a, cap, rfl, hcell⟩ := hu
  have HCELL := Lib.hid hcell
  obtain ⟨b, cap2, rfl, hcell2⟩ := hv
  have HCELL2 := Lib.hid hcell2
  rw [h] at hl HCELL HVL HS ⊢
  obtain ⟨L, hL⟩ : ∃ L, 2 * n = L := ⟨_, rfl⟩
  obtain ⟨K, hK⟩ : ∃ K, r.length = K := ⟨_, rfl⟩
  have HLL := Lib.hid fun _ : Unit => h.trans hL
  have HRL := Lib.hid fun _ : Unit => hK
  have HLN := Lib.hid fun _ : Unit => hL
  rw [hL] at hl HS HCELL HVL HJ HJO ⊢
  rw [hK] at hr HCELL2 HVR HJO HNO HYES ⊢
  clear hcell hcell2 h
  have b1 : (L : Int) ≤ 400 := by omega
  have b2 : (K : Int) ≤ 400 := by omega
  have b3 : ¬ ((400 : Int) < (L : Int)) := by omega
  have b4 : ¬ ((400 : Int) < (K : Int)) := by omega
  have e1 : (L : Int).tmod 2 = 0 := by rw [Int.tmod_eq_emod_of_nonneg (by omega)]; omega
  have e2 : (L : Int) % 2 = 0 := by omega
  clear hL hK
  go_enter Try.func5, Try.ntmps5
  go_wp2_with fail
  refine (awake12_any w).mono ?_
  rintro e w' ⟨rfl, rfl⟩
  go_wp2_with fail
  refine HS.out.mono ?_
  rintro e w1 ⟨⟨gm, gs, -, -, -, rfl, rm, rs⟩, hb⟩
  have HB := Lib.hid hb
  have hm1 := ints_row12 rm n
  rw [HML.out] at hm1
  have HM1 := Lib.hid hm1
  have hs1 := ints_row12 rs n
  rw [HSL.out] at hs1
  have HS1 := Lib.hid hs1
  have HV1 := Lib.hid (HVR.out.below hb)
  clear hb HS rm rs hm1 hs1 HVR
  go_wp2_with fail
  go_loop [8] (fun i => ∃ k : Nat, k ≤ L ∧ i = .int .i64 k) (fun i => L - (intOf i).toNat)
  case atStart => exact ⟨0, by omega, rfl⟩
  case round =>
    obtain ⟨k, hk, rfl⟩ := hrel
    rcases Nat.lt_or_ge k L with hlt | hge
    · obtain ⟨b, off, rfl, hbs, hcs⟩ := HCELL.out (by omega)
      have c0 := (HB.out.cell (p := ⟨b, off + k, none⟩) hbs).trans (hcs k hlt)
      have g0 := HGB.out k
      obtain ⟨x, hx⟩ : ∃ x, l.getD k 0 = x := ⟨_, rfl⟩
      rw [hx] at c0 g0
      have hkI : (k : Int) < (L : Int) := by omega
      have h1 : ¬ (x < -1048576) := by omega
      have h2 : ¬ (1048576 < x) := by omega
      clear hx hk hbs hcs
      go_wp2_with fail
      go_round
      case rel => exact ⟨k + 1, hlt, by go_num⟩
      case measure => simp [intOf] <;> omega
    · obtain rfl : k = L := by omega
      clear hk hge
      go_wp2_with fail
      refine (HJ.out _ _ w1 HM1.out HS1.out).mono ?_
      rintro e w2 ⟨⟨gx, -, rfl, rx⟩, hb2⟩
      have HM2 := Lib.hid (HM1.out.below hb2)
      have HV2 := Lib.hid (HV1.out.below hb2)
      have HB2 := Lib.hid (HB.out.trans (hb2.mono HB.out.size))
      have HX2 := Lib.hid rx
      have HLT := Lib.hid (Row.lt rx)
      clear hb2 rx HM1 HS1 HV1 HB HJ HGB HVL
      go_wp2_with fail
      go_loopw [11] (fun ii wr => ∃ i : Nat, i ≤ k ∧ ii = .int .i64 i ∧ Below w2.heap.size w2 wr) (fun ii _ => k - (intOf ii).toNat)
      case atStart => exact ⟨0, by omega, rfl, Below.refl _ _⟩
      case round =>
        obtain ⟨i, hi, rfl, hb⟩ := hrel
        have HB := Lib.hid hb
        rcases Nat.lt_or_ge i k with hlt | hge
        · have c1 := (hb.cell (p := ⟨gx, i, none⟩) HLT.out).trans (i_at HX2.out i (by rw [HLL.out ()]; exact hlt))
          have HBW := HB2.out.trans (hb.mono HB2.out.size)
          obtain ⟨b, off, rfl, hbs, hcs⟩ := HCELL.out (by omega)
          have c0 := (HBW.cell (p := ⟨b, off + i, none⟩) hbs).trans (hcs i hlt)
          obtain ⟨z, hz⟩ : ∃ z, l.getD i 0 = z := ⟨_, rfl⟩
          rw [hz] at c0 c1
          have hiI : (i : Int) < (k : Int) := by omega
          have HK := Lib.hid hlt
          clear hz hcs hbs hb HBW hi hlt
          go_wp2_with fail
          go_big_quiet (fail)
          go_wp2_with fail
          go_roundw
          case rel => exact ⟨i + 1, HK.out, by go_num, Below.drewN HB.out nq⟩
          case measure =>
            have := HK.out
            simp only [intOf]
            omega
        · have hge2 : ¬ ((i : Int) < (k : Int)) := by omega
          have HM3 := Lib.hid (HM2.out.below hb)
          have HV3 := Lib.hid (HV2.out.below hb)
          have HB3 := Lib.hid (HB2.out.trans (hb.mono HB2.out.size))
          clear hb hge hi HM2 HV2 HB2 HX2 HLT HB
          go_wp2_with fail
          refine (HJO.out _ _ wr HM3.out HV3.out).mono ?_
          rintro e w4 ⟨⟨y, c, g, rfl, hcase⟩, hb4⟩
          have HB4 := Lib.hid (HB3.out.trans (hb4.mono HB3.out.size))
          clear hb4 HM3 HV3 HJO
          rcases hcase with ⟨h1, rfl, rfl⟩ | ⟨rfl, h1, rfl, rfl⟩ | ⟨rfl, h1, rfl, rfl⟩
          · have q1 : ((K : Int) == (n : Int)) = false := by rw [beq_eq_false_iff_ne]; omega
            have q2 : ¬ ((K : Int) = (n : Int)) := by omega
            go_wp2_with fail
            go_ret
            exact ⟨rfl, HB4.out⟩
          · clear HCELL HLL HLN HB3
            go_wp2_with fail
            go_loop [14] (fun ii => ∃ o : Nat, o ≤ n ∧ ii = .int .i64 o ∧ ∀ j, j < o → byd 16777216 (r.getD j 0) = false) (fun ii => n - (intOf ii).toNat)
            case atStart => exact ⟨0, by omega, rfl, fun j hj => by omega⟩
            case round =>
              obtain ⟨o, ho, rfl, hall⟩ := hrel
              have HA := Lib.hid hall
              clear hall
              rcases Nat.lt_or_ge o n with hlt | hge
              · obtain ⟨b, off, rfl, hbs, hcs⟩ := HCELL2.out (by omega)
                have c0 := (HB4.out.cell (p := ⟨b, off + o, none⟩) hbs).trans (hcs o hlt)
                have HST : Hid (byd 16777216 (r.getD o 0) = false → ∀ j, j < o + 1 → byd 16777216 (r.getD j 0) = false) := fun h j hj => by
                  rcases Nat.lt_or_ge j o with hl | hg
                  · exact HA.out j hl
                  · obtain rfl : j = o := by omega
                    exact h
                obtain ⟨x, hx⟩ : ∃ x, r.getD o 0 = x := ⟨_, rfl⟩
                rw [hx] at c0 HST
                have hkI : (o : Int) < (n : Int) := by omega
                clear hx ho hbs hcs
                by_cases h2 : x < -16777216
                · go_wp2_with fail
                  go_ret
                  exact ⟨rfl, HB4.out⟩
                · by_cases h3 : 16777216 < x
                  · go_wp2_with fail
                    go_ret
                    exact ⟨rfl, HB4.out⟩
                  · have HN : Hid (byd 16777216 x = false) := Lib.hid (decide_eq_false (by omega))
                    go_wp2_with fail
                    go_round
                    case rel => exact ⟨o + 1, hlt, by go_num, HST.out HN.out⟩
                    case measure => simp [intOf] <;> omega
              · obtain rfl : o = n := by omega
                have := HNO.out HA.out
                rw [h1] at this
                cases this
          · have HRG := Lib.hid fun p => M.getD_bd r 16777216 (by decide) (any_in12 16777216 r h1) p
            clear HCELL HLL HLN HB3 h1
            go_wp2_with fail
            go_loop [14] (fun ii => ∃ o : Nat, o ≤ n ∧ ii = .int .i64 o) (fun ii => n - (intOf ii).toNat)
            case atStart => exact ⟨0, by omega, rfl⟩
            case round =>
              obtain ⟨o, ho, rfl⟩ := hrel
              rcases Nat.lt_or_ge o n with hlt | hge
              · obtain ⟨b, off, rfl, hbs, hcs⟩ := HCELL2.out (by omega)
                have c0 := (HB4.out.cell (p := ⟨b, off + o, none⟩) hbs).trans (hcs o hlt)
                have g0 := HRG.out o
                obtain ⟨x, hx⟩ : ∃ x, r.getD o 0 = x := ⟨_, rfl⟩
                rw [hx] at c0 g0
                have hkI : (o : Int) < (n : Int) := by omega
                have h2 : ¬ (x < -16777216) := by omega
                have h3 : ¬ (16777216 < x) := by omega
                clear hx ho hbs hcs
                go_wp2_with fail
                go_round
                case rel => exact ⟨o + 1, hlt, by go_num⟩
                case measure => simp [intOf] <;> omega
              · obtain rfl : o = n := by omega
                clear hge ho
                go_wp2_with fail
                go_ret
                exact ⟨rfl, HB4.out⟩
set_option maxRecDepth 100000 in
theorem joins_law (l r : List Int) (u v : Value) (w : World) (hu : IntsAt w u l) (hv : IntsAt w v r) (hl : l.length ≤ maxLen) (hr : r.length ≤ maxLen) :
    Calls Try.prog 5 #[u, v] w fun e w' => e = .returned (.bool true) ∧ Below w.heap.size w w' := by
  by_cases h : 400 < l.length ∨ 400 < r.length
  · exact joins_many l r u v w hu hv hl hr h
  · rcases Nat.mod_two_eq_zero_or_one l.length with h0 | h0
    · cases hf : l.any (byd 1048576)
      · exact joins_in l r (l.length / 2) u v w hu hv (by omega) (by omega) (by omega) hf
      · exact joins_far l r u v w hu hv (by omega) (by omega) h0 hf
    · exact joins_odd l r u v w hu hv (by omega) (by omega) h0
end Go.Proofs.Ytpfdjddjoclldaa
