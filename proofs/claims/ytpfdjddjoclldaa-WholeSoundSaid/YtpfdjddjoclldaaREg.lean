/-
  lift's Back: two numbers turned back by any angle. Conditions: ints; numbers beyond 2^40 stay.
-/
import Derived.Test.YtpfdjddjoclldaaREf
namespace Go.Proofs.Ytpfdjddjoclldaa
open Go.RowKit
open M
set_option maxRecDepth 100000 in
theorem back_out (a b k : Int) (w : World) (ha1 : -9223372036854775808 ≤ a) (ha2 : a ≤ 9223372036854775807) (hb1 : -9223372036854775808 ≤ b) (hb2 : b ≤ 9223372036854775807)
    (h : ¬ (-1099511627776 ≤ a ∧ a ≤ 1099511627776) ∨ ¬ (-1099511627776 ≤ b ∧ b ≤ 1099511627776)) :
    Calls Try.prog 47 #[.int .i64 a, .int .i64 b, .int .i64 k] w fun e w' => e = .returned (.tuple #[.int .i64 a, .int .i64 b]) ∧ w = w' := by
  by_cases e1 : (-1099511627776 ≤ a ∧ a ≤ 1099511627776)
  · have e2 := h.resolve_left (fun n => n e1)
    have H1 := Lib.hid (decide_eq_true e1)
    have H2 := Lib.hid (decide_eq_false e2)
    clear h e1 e2
    go_enter Try.func47, Try.ntmps47
    go_wp2_with fail
    refine (held_any a _ ha1 ha2).mono ?_
    rintro e w' ⟨rfl, rfl⟩
    rw [H1.out]
    go_wp2_with fail
    refine (held_any b _ hb1 hb2).mono ?_
    rintro e w' ⟨rfl, rfl⟩
    rw [H2.out]
    go_wp2
    go_ret2
    exact ⟨rfl, rfl⟩
  · have H1 := Lib.hid (decide_eq_false e1)
    clear h e1
    go_enter Try.func47, Try.ntmps47
    go_wp2_with fail
    refine (held_any a _ ha1 ha2).mono ?_
    rintro e w' ⟨rfl, rfl⟩
    rw [H1.out]
    go_wp2
    go_ret2
    exact ⟨rfl, rfl⟩
set_option maxRecDepth 100000 in
theorem back_in (v : Int × Int) (k : Int) (w : World) (hv : Bd 1099511627776 v) (hk1 : -9223372036854775808 ≤ k) (hk2 : k ≤ 9223372036854775807) :
    Calls Try.prog 47 #[.int .i64 v.1, .int .i64 v.2, .int .i64 k] w fun e w' => e = .returned (.tuple #[.int .i64 (lfb v k).1, .int .i64 (lfb v k).2]) ∧ Below w.heap.size w w' := by
  have HL := Lib.hid (bS_lfb k v)
  have HBD := Lib.hid (bS_bd k v hv)
  have HV := Lib.hid hv
  obtain ⟨a1, a2, b1, b2⟩ := hv
  have H1 := Lib.hid (decide_eq_true (⟨a1, a2⟩ : -1099511627776 ≤ v.1 ∧ v.1 ≤ 1099511627776))
  have H2 := Lib.hid (decide_eq_true (⟨b1, b2⟩ : -1099511627776 ≤ v.2 ∧ v.2 ≤ 1099511627776))
  obtain ⟨a, ha⟩ : ∃ a, v.1 = a := ⟨_, rfl⟩
  obtain ⟨b, hb⟩ : ∃ b, v.2 = b := ⟨_, rfl⟩
  rw [ha] at H1 a1 a2 ⊢
  rw [hb] at H2 b1 b2 ⊢
  have HA := Lib.hid ha
  have HB := Lib.hid hb
  clear ha hb
  go_enter Try.func47, Try.ntmps47
  go_wp2_with fail
  refine (held_any a _ (by omega) (by omega)).mono ?_
  rintro e w' ⟨rfl, rfl⟩
  rw [H1.out]
  go_wp2_with fail
  refine (held_any b _ (by omega) (by omega)).mono ?_
  rintro e w' ⟨rfl, rfl⟩
  rw [H2.out]
  go_wp2_with fail
  refine (begin_any a b k _ hk1 hk2).mono ?_
  rintro e w1 ⟨rfl, hb1⟩
  have HB1 := Lib.hid hb1
  clear hb1 a1 a2 b1 b2 H1 H2
  obtain ⟨F, hF⟩ : ∃ F, bgF k = F := ⟨_, rfl⟩
  obtain ⟨s, hs⟩ : ∃ s, bgS k = s := ⟨_, rfl⟩
  obtain ⟨n, hn⟩ : ∃ n, bgN k = n := ⟨_, rfl⟩
  obtain ⟨p, q⟩ := F
  rw [hF, hs, hn]
  have HF := Lib.hid hF
  have HS := Lib.hid hs
  have HN := Lib.hid hn
  clear hF hs hn
  unfold tc
  go_wp2_with fail
  have HR2 : Hid (TAt (w1.alloc (.cells (tc a b p q s n) 71)) w1.heap.size k v) := by
    unfold Hid TAt
    rw [HF.out, HS.out, HN.out, HA.out, HB.out]
    exact heap_alloc_new _ _
  have HB2 : Hid (Below w.heap.size w (w1.alloc (.cells (tc a b p q s n) 71))) := HB1.out.alloc HB1.out.size _
  have hg : w.heap.size ≤ w1.heap.size := HB1.out.size
  have HG := Lib.hid hg
  clear hg HB1 HF HS HN HA HB
  change Calls _ _ _ (w1.alloc (.cells (tc a b p q s n) 71)) _
  generalize w1.heap.size = g at *
  generalize w1.alloc (.cells (tc a b p q s n) 71) = w2 at *
  refine (steps_any g _).mono ?_
  rintro e w3 ⟨rfl, hb3⟩
  have HB3 := Lib.hid ((HB2.out.trans (hb3.mono HB2.out.size)).alloc (Nat.le_trans HB2.out.size hb3.size) (.cells (stp g) 74))
  have hr3 : TAt w3 g k v := Row.box HR2.out hb3
  have HNE : Hid (g ≠ w3.heap.size) := Nat.ne_of_lt (Row.lt hr3)
  have HR3 : Hid (TAt (w3.alloc (.cells (stp g) 74)) g k v) := Row.alloc hr3 _
  have HST : Hid (Row (w3.alloc (.cells (stp g) 74)) w3.heap.size 74 (stp g)) := heap_alloc_new _ _
  clear hb3 hr3 HR2 HB2
  unfold stp
  go_wp2
  change Code.wp _ _ _ _ (w3.alloc (.cells (stp g) 74))
  generalize w3.heap.size = h at *
  generalize w3.alloc (.cells (stp g) 74) = w5 at *
  go_loopw [26] (fun i wr => ∃ j : Nat, j ≤ 4 ∧ i = .int .i64 j ∧ TAt wr g k (bS k v j) ∧ Row wr h 74 (stp g) ∧ Below w.heap.size w wr) (fun i _ => 4 - (intOf i).toNat)
  case atStart => exact ⟨0, by omega, rfl, HR3.out, HST.out, HB3.out⟩
  case round =>
    clear HR3 HB3 HST
    obtain ⟨j, hj, rfl, h1, h2, h3⟩ := hrel
    have HR := Lib.hid h1
    have HST := Lib.hid h2
    have HBW := Lib.hid h3
    clear h1 h2 h3
    have hjj : j = 0 ∨ j = 1 ∨ j = 2 ∨ j = 3 ∨ j = 4 := by omega
    clear hj
    rcases hjj with rfl | rfl | rfl | rfl | rfl
    · have hx : wr.cell? ⟨h, 3, none⟩ = some (.func (.func 54) #[.pointer (some ⟨g, 0, none⟩)] #[]) := cell_of_row wr h 3 _ _ (0, 0) HST.out
      go_wp2_with fail
      clear hx
      refine (swing_row k (-1) _ g _ HR.out (Or.inr rfl) (HBD.out 0)).mono ?_
      rintro e w4 ⟨rfl, ht, ho⟩
      have HR4 := Lib.hid ht
      have HS4 : Hid (Row w4 h 74 (stp g)) := (ho.block h HNE.out.symm).trans HST.out
      have HB4 := Lib.hid (HBW.out.trans (ho.below HG.out))
      clear ht ho HR HBW HST
      go_wp2
      go_roundw
      case rel => exact ⟨1, by omega, rfl, HR4.out, HS4.out, HB4.out⟩
      case measure => simp [intOf]
    · have hx : wr.cell? ⟨h, 2, none⟩ = some (.func (.func 52) #[.pointer (some ⟨g, 0, none⟩)] #[]) := cell_of_row wr h 2 _ _ (0, 0) HST.out
      go_wp2_with fail
      clear hx
      refine (lean_row k (-1) _ g _ HR.out (Or.inr rfl) (HBD.out 1)).mono ?_
      rintro e w4 ⟨rfl, ht, ho⟩
      have HR4 := Lib.hid ht
      have HS4 : Hid (Row w4 h 74 (stp g)) := (ho.block h HNE.out.symm).trans HST.out
      have HB4 := Lib.hid (HBW.out.trans (ho.below HG.out))
      clear ht ho HR HBW HST
      go_wp2
      go_roundw
      case rel => exact ⟨2, by omega, rfl, HR4.out, HS4.out, HB4.out⟩
      case measure => simp [intOf]
    · have hx : wr.cell? ⟨h, 1, none⟩ = some (.func (.func 53) #[.pointer (some ⟨g, 0, none⟩)] #[]) := cell_of_row wr h 1 _ _ (0, 0) HST.out
      go_wp2_with fail
      clear hx
      refine (rise_row k (-1) _ g _ HR.out (Or.inr rfl) (HBD.out 2)).mono ?_
      rintro e w4 ⟨rfl, ht, ho⟩
      have HR4 := Lib.hid ht
      have HS4 : Hid (Row w4 h 74 (stp g)) := (ho.block h HNE.out.symm).trans HST.out
      have HB4 := Lib.hid (HBW.out.trans (ho.below HG.out))
      clear ht ho HR HBW HST
      go_wp2
      go_roundw
      case rel => exact ⟨3, by omega, rfl, HR4.out, HS4.out, HB4.out⟩
      case measure => simp [intOf]
    · have hx : wr.cell? ⟨h, 0, none⟩ = some (.func (.func 52) #[.pointer (some ⟨g, 0, none⟩)] #[]) := cell_of_row wr h 0 _ _ (0, 0) HST.out
      go_wp2_with fail
      clear hx
      refine (lean_row k (-1) _ g _ HR.out (Or.inr rfl) (HBD.out 3)).mono ?_
      rintro e w4 ⟨rfl, ht, ho⟩
      have HR4 := Lib.hid ht
      have HS4 : Hid (Row w4 h 74 (stp g)) := (ho.block h HNE.out.symm).trans HST.out
      have HB4 := Lib.hid (HBW.out.trans (ho.below HG.out))
      clear ht ho HR HBW HST
      go_wp2
      go_roundw
      case rel => exact ⟨4, by omega, rfl, HR4.out, HS4.out, HB4.out⟩
      case measure => simp [intOf]
    · have h4 := HR.out
      rw [HL.out] at h4
      obtain ⟨P, hP⟩ : ∃ P, lfb v k = P := ⟨_, rfl⟩
      rw [hP] at h4
      have HP := Lib.hid hP
      obtain ⟨x, y⟩ := P
      obtain ⟨c0, c1, c2, c3, c4, c5⟩ := tc_cell h4
      clear c2 c3 c4 c5 h4 hP HL HBD HV HR
      go_wp2
      go_quiet (fail)
      have HBD := Lib.hid (Below.drewN HBW.out nq)
      clear HBW c0 c1
      generalize wr.drewN nq = wd at *
      go_wp2
      go_ret2
      exact ⟨by rw [HP.out]; rfl, HBD.out⟩
end Go.Proofs.Ytpfdjddjoclldaa
