/-
  Contracts and plain facts that the laws share; each piece is headed by what it holds and its conditions.
-/
import Derived.Test.YtoohahjmiljpgaaQS15
import Derived.Test.YtoohahjmiljpgaaQS16
import Derived.Test.YtoohahjmiljpgaaQS17
import Derived.Test.YtoohahjmiljpgaaQRfe
import Derived.Test.YtoohahjmiljpgaaQS27
import Derived.Test.YtoohahjmiljpgaaQGkg
import Derived.Test.YtoohahjmiljpgaaQS13
import Derived.Test.YtoohahjmiljpgaaQS14
import Derived.Test.YtoohahjmiljpgaaQS11
import Derived.Deep.WholeRow

/- What the program's Bits of layer 13 answers, as layer 18's texts ask it. No conditions. -/
namespace Go.Proofs.Ytoohahjmiljpgaa
open Go.RowKit
open M
theorem btc_len : ∀ k, k ≤ 12 → Go.Lib.bitLen (cn13 4 k - 1) = btc k := by decide +kernel
theorem bvOk : BvOk := fun k w hk => by
  have h := bits_any (k : Int) w
  rw [biI_in k hk, btc_len k hk] at h
  exact h
end Go.Proofs.Ytoohahjmiljpgaa

/- Layer 18's Pulses, met: what the program's answers. No conditions. -/
namespace Go.Proofs.Ytoohahjmiljpgaa
theorem pulOk18 : PulOk := pulOk bvOk
end Go.Proofs.Ytoohahjmiljpgaa

/- The reference's Size and Count. Conditions: up to 8 numbers, up to 12 pulses. -/
namespace Go.Proofs.Ytoohahjmiljpgaa
open Go.RowKit
open M
theorem ax_more (n a x z : Nat) (hx : 0 < x) (hz : z = a - x) (hn : n < 8) (ha : a ≤ 12) (hxa : x ≤ a) : (ax13 (cn13 n) a x : Int) + (cn13 n z : Int) + (cn13 n z : Int) = (ax13 (cn13 n) a (x + 1) : Int) ∧ (ax13 (cn13 n) a (x + 1) : Int) ≤ 152587890625 := by
  have h := ax_step (cn13 n) a x hx
  rw [← hz] at h
  have hb := ax_bd n a (x + 1) hn ha (by omega)
  exact ⟨by rw [← h, Int.natCast_add, Int.natCast_add], Int.ofNat_le.2 hb⟩
theorem ax_begin (n a z : Nat) (hz : z = a - 0) (hn : n < 8) (ha : a ≤ 12) : (ax13 (cn13 n) a 0 : Int) + (cn13 n z : Int) = (ax13 (cn13 n) a (0 + 1) : Int) ∧ (ax13 (cn13 n) a (0 + 1) : Int) ≤ 152587890625 := by
  have h := ax_first (cn13 n) a
  rw [← hz] at h
  have hb := ax_bd n a 1 hn ha (by omega)
  exact ⟨by rw [show (0 + 1) = 1 from rfl, ← h, Int.natCast_add], Int.ofNat_le.2 hb⟩
theorem getD_set_self (l : List Int) (i : Nat) (x : Int) (h : i < l.length) : (l.set i x).getD i 0 = x := by
  rw [List.getD_eq_getElem?_getD, List.getElem?_set_self h]; rfl
set_option maxRecDepth 100000 in
set_option maxHeartbeats 2000000 in
theorem rcount_any (n k : Nat) (w : World) (hn : n ≤ 8) (hk : k ≤ 12) :
    Calls Try.prog 68 #[.int .i64 (n : Int), .int .i64 (k : Int)] w fun e w' => e = .returned (.int .i64 (cn13 n k : Int)) ∧ Below w.heap.size w w' := by
  have hnI : (n : Int) ≤ 8 := by omega
  have hkI : (k : Int) ≤ 12 := by omega
  obtain ⟨k1, hk1⟩ : ∃ k1, k1 = k + 1 := ⟨_, rfl⟩
  have hmk := fun w => make_int13 k1 (by omega) w
  have ek : (k : Int) + 1 = (k1 : Int) := by omega
  have hW0 := wy_zero k
  rw [← hk1] at hW0
  have HR0 : Row (w.alloc (.cells (iCells (List.replicate k1 0)) 3)) w.heap.size 3 (iCells (List.replicate k1 0)) := row_new _ _ rfl _ _
  have hc0 := i_at HR0 0 (by rw [List.length_replicate]; omega)
  have hf0 := HR0.free 0
  have HB0 := Lib.hid ((Below.refl w.heap.size w).alloc (Nat.le_refl _) (.cells (iCells (wy13 0 k)) 3))
  have HR1 := Lib.hid (show Row (w.alloc (.cells (iCells (wy13 0 k)) 3)) w.heap.size 3 (iCells (wy13 0 k)) from row_new _ _ rfl _ _)
  have HSE : Hid (∀ _ : Unit, (iCells (List.replicate k1 0)).setIfInBounds 0 (.int .i64 1) = iCells (wy13 0 k)) := Lib.hid fun _ => by rw [iCells_set, hW0]
  have HFIN := Lib.hid (wy_at n k k (Nat.le_refl _))
  have HK1 := Lib.hid hk1
  have HNZ : Hid (∀ i, nx13 i k 0 0 = List.replicate k1 0) := Lib.hid fun i => by rw [nx_zero, hk1]
  have hk1I : (k1 : Int) ≤ 13 := by omega
  have hkk : (k : Int) < (k1 : Int) := by omega
  have h01 : (0 : Int) < (k1 : Int) := by omega
  clear hW0 hk1
  go_enter Try.func68, Try.ntmps68
  go_wp2_with fail
  rw [HSE.out ()]
  clear hc0 hf0 HR0 HSE
  obtain ⟨B, hB⟩ : ∃ B, w.heap.size = B := ⟨_, rfl⟩
  rw [hB] at HB0 HR1 ⊢
  generalize w.alloc (.cells (iCells (wy13 0 k)) 3) = w1 at *
  go_loopw [5, 6] (fun vv ii wr => ∃ i g : Nat, i ≤ n ∧ ii = .int .i64 i ∧ vv = .slice (some ⟨g, 0, none⟩) k1 k1 ∧ B ≤ g ∧ Row wr g 3 (iCells (wy13 i k)) ∧ Below B w wr) (fun _ ii _ => n - (intOf ii).toNat)
  case atStart => exact ⟨0, B, by omega, rfl, rfl, Nat.le_refl _, HR1.out, HB0.out⟩
  case round =>
    clear HB0 HR1
    obtain ⟨i, g, hi, rfl, rfl, hg, hR, hB1⟩ := hrel
    rcases Nat.lt_or_ge i n with hlt | hge
    · have hin : (i : Int) < (n : Int) := by omega
      have HGS := Lib.hid hR.lt
      have HR1 := Lib.hid (Row.alloc hR (.cells (iCells (List.replicate k1 0)) 3))
      have HN1 := Lib.hid (row_new wr _ rfl (iCells (List.replicate k1 0)) 3)
      rw [← HNZ.out i] at HN1
      have hBs : B ≤ wr.heap.size := by rw [← hB]; exact hB1.size
      have HB1 := Lib.hid (hB1.alloc hBs (.cells (iCells (List.replicate k1 0)) 3))
      have HBG := Lib.hid hBs
      have HII := Lib.hid hlt
      clear hR hB1 hi hBs
      go_wp2_with fail
      have HGG : Hid (g ≠ wr.heap.size) := Lib.hid (by have := HGS.out; omega)
      rw [← HNZ.out i]
      rw [← HNZ.out i] at HR1 HB1
      obtain ⟨f, hf⟩ : ∃ f, wr.heap.size = f := ⟨_, rfl⟩
      rw [hf] at HN1 HBG HGG ⊢
      clear HGS hf
      generalize wr.alloc (.cells (iCells (nx13 i k 0 0)) 3) = w2 at *
      clear hmk
      go_wp2_with fail
      go_loopw [8] (fun aa wa => ∃ a : Nat, a ≤ k + 1 ∧ aa = .int .i64 a ∧ Row wa g 3 (iCells (wy13 i k)) ∧ Row wa f 3 (iCells (nx13 i k a 0)) ∧ Below B w wa) (fun aa _ => k + 1 - (intOf aa).toNat)
      case atStart => exact ⟨0, by omega, rfl, HR1.out, HN1.out, HB1.out⟩
      case round =>
        clear HR1 HN1 HB1
        obtain ⟨a, ha, rfl, hR, hN, hB1⟩ := hrel
        rcases Nat.lt_or_ge a (k + 1) with hak | hak
        · have hakI : (a : Int) ≤ (k : Int) := by omega
          have hak1 : (a : Int) < (k1 : Int) := by omega
          have HR1 := Lib.hid hR
          have HN1 := Lib.hid hN
          have HB1 := Lib.hid hB1
          have HAK := Lib.hid hak
          clear hR hN hB1 ha
          go_wp2_with fail
          go_loopw [9] (fun xx wx => ∃ x : Nat, x ≤ a + 1 ∧ xx = .int .i64 x ∧ Row wx g 3 (iCells (wy13 i k)) ∧ Row wx f 3 (iCells (nx13 i k a x)) ∧ Below B w wx) (fun xx _ => a + 1 - (intOf xx).toNat)
          case atStart => exact ⟨0, by omega, rfl, HR1.out, HN1.out, HB1.out⟩
          case round =>
            clear HR1 HN1 HB1
            obtain ⟨x, hx, rfl, hR, hN, hB1⟩ := hrel
            rcases Nat.lt_or_ge x (a + 1) with hxa | hxa
            · have hxI : (x : Int) ≤ (a : Int) := by omega
              obtain ⟨z, hz⟩ : ∃ z, z = a - x := ⟨_, rfl⟩
              have c1 := i_at hR z (by rw [wy_len]; omega)
              rw [wy_at i k z (by omega)] at c1
              have c2 := i_at hN a (by rw [nx_len]; omega)
              rw [nx_at i k a x (by omega)] at c2
              have f2 := hN.free a
              have ez : (a : Int) - (x : Int) = (z : Int) := by omega
              have ez1 := wr_sub a x z (by omega) (by omega)
              have hzk : (z : Int) < (k1 : Int) := by omega
              have HXA := Lib.hid hxa
              have hin8 : i < 8 := by omega
              have ha12 : a ≤ 12 := by omega
              by_cases hx0 : x = 0
              · subst hx0
                obtain rfl : z = a := by omega
                obtain ⟨s1, s2⟩ := ax_begin i z z rfl hin8 ha12
                have HS := Row.set hN z (.int .i64 (ax13 (cn13 i) z (0 + 1) : Int))
                rw [iCells_set, nx_set] at HS
                have HN2 := Lib.hid (show Row (wr.setCell ⟨f, z, none⟩ (.int .i64 (ax13 (cn13 i) z (0 + 1) : Int))).drew f 3 (iCells (nx13 i k z (0 + 1))) from HS)
                have HR2 := Lib.hid (show Row (wr.setCell ⟨f, z, none⟩ (.int .i64 (ax13 (cn13 i) z (0 + 1) : Int))).drew g 3 (iCells (wy13 i k)) from hR.far (p := ⟨f, z, none⟩) HGG.out _)
                have HB2 := Lib.hid (below_drew1 (hB1.setCell (p := ⟨f, z, none⟩) HBG.out (.int .i64 (ax13 (cn13 i) z (0 + 1) : Int))))
                have q1 : (0 : Int) ≤ (ax13 (cn13 i) z 0 : Int) := Int.natCast_nonneg _
                have q2 : (0 : Int) ≤ (cn13 i z : Int) := Int.natCast_nonneg _
                generalize (ax13 (cn13 i) z 0 : Int) = y0 at *
                generalize (ax13 (cn13 i) z (0 + 1) : Int) = y1 at *
                generalize (cn13 i z : Int) = y2 at *
                have ew := wr_is _ _ s1 (by omega) (by omega)
                clear hR hN hB1 hx hz HS s1
                go_wp2_with fail
                go_region
                all_goals
                  clear c1 c2 f2 ew ez ez1
                  generalize (wr.setCell ⟨f, z, none⟩ (.int .i64 y1)).drew = w5 at *
                  go_wp2_with fail
                  go_roundw
                  case rel => exact ⟨0 + 1, HXA.out, by go_num, HR2.out, HN2.out, HB2.out⟩
                  case measure =>
                    simp [intOf]
              · obtain ⟨s1, s2⟩ := ax_more i a x z (by omega) hz hin8 ha12 (by omega)
                have hx0I : (0 : Int) < (x : Int) := by omega
                have q1 : (0 : Int) ≤ (ax13 (cn13 i) a x : Int) := Int.natCast_nonneg _
                have q2 : (0 : Int) ≤ (cn13 i z : Int) := Int.natCast_nonneg _
                obtain ⟨y0, hy0⟩ : ∃ y0, (ax13 (cn13 i) a x : Int) = y0 := ⟨_, rfl⟩
                obtain ⟨y2, hy2⟩ : ∃ y2, (cn13 i z : Int) = y2 := ⟨_, rfl⟩
                obtain ⟨y3, hy3⟩ : ∃ y3, (ax13 (cn13 i) a (x + 1) : Int) = y3 := ⟨_, rfl⟩
                rw [hy0] at s1 c2 q1
                rw [hy2] at s1 c1 q2
                rw [hy3] at s1 s2
                obtain ⟨y1, hy1⟩ : ∃ y1, y0 + y2 = y1 := ⟨_, rfl⟩
                rw [hy1] at s1
                have ew := wr_is _ _ hy1 (by omega) (by omega)
                have ew2 := wr_is _ _ s1 (by omega) (by omega)
                have hN1 : Row (wr.setCell ⟨f, a, none⟩ (.int .i64 y1)).drew f 3 (iCells ((nx13 i k a x).set a y1)) := by
                  rw [← iCells_set]; exact Row.set hN a (.int .i64 y1)
                have hR1 : Row (wr.setCell ⟨f, a, none⟩ (.int .i64 y1)).drew g 3 (iCells (wy13 i k)) := hR.far (p := ⟨f, a, none⟩) HGG.out _
                have hB2 := below_drew1 (hB1.setCell (p := ⟨f, a, none⟩) HBG.out (.int .i64 y1))
                have HZK : Hid (z ≤ k) := Lib.hid (by omega)
                clear hy1 s1 hz
                go_wp2_with fail
                go_region
                all_goals
                  clear c1 c2 f2 ew
                  generalize (wr.setCell ⟨f, a, none⟩ (.int .i64 y1)).drew = w5 at *
                  have c1 := i_at hR1 z (by rw [wy_len]; exact Nat.lt_succ_of_le HZK.out)
                  rw [wy_at i k z HZK.out, hy2] at c1
                  have c2 := i_at hN1 a (by rw [List.length_set, nx_len]; omega)
                  rw [getD_set_self _ _ _ (by rw [nx_len]; omega)] at c2
                  have f2 := hN1.free a
                  have HS := Row.set hN1 a (.int .i64 y3)
                  rw [iCells_set, List.set_set, ← hy3, nx_set, hy3] at HS
                  have HN2 := Lib.hid (show Row (w5.setCell ⟨f, a, none⟩ (.int .i64 y3)).drew f 3 (iCells (nx13 i k a (x + 1))) from HS)
                  have HR2 := Lib.hid (show Row (w5.setCell ⟨f, a, none⟩ (.int .i64 y3)).drew g 3 (iCells (wy13 i k)) from hR1.far (p := ⟨f, a, none⟩) HGG.out _)
                  have HB2 := Lib.hid (below_drew1 (hB2.setCell (p := ⟨f, a, none⟩) HBG.out (.int .i64 y3)))
                  clear hN1 hR1 hB2 hR hN hB1 hx HS hy0 hy2 hy3
                  go_wp2_with fail
                  go_region
                  all_goals
                    clear c1 c2 f2 ew2 ez ez1
                    generalize (w5.setCell ⟨f, a, none⟩ (.int .i64 y3)).drew = w6 at *
                    go_wp2_with fail
                    go_roundw
                    case rel => exact ⟨x + 1, HXA.out, by go_num, HR2.out, HN2.out, HB2.out⟩
                    case measure => exact ms13 (a + 1) x HXA.out
            · obtain rfl : x = a + 1 := by omega
              have HR2 := Lib.hid hR
              have HN2 := Lib.hid hN
              have HB2 := Lib.hid hB1
              rw [nx_next] at HN2
              clear hR hN hB1 hx hxa
              go_wp2_with fail
              go_roundw
              case rel => exact ⟨a + 1, HAK.out, by go_num, HR2.out, HN2.out, HB2.out⟩
              case measure => exact ms13 (k + 1) a HAK.out
        · obtain rfl : a = k + 1 := by omega
          have HN2 := Lib.hid hN
          have HB2 := Lib.hid hB1
          rw [nx_full] at HN2
          clear hR hN hB1 ha hak
          go_wp2_with fail
          go_roundw
          case rel => exact ⟨i + 1, f, HII.out, by go_num, rfl, HBG.out, HN2.out, HB2.out⟩
          case measure => exact ms13 n i HII.out
    · obtain rfl : i = n := by omega
      have c0 := i_at hR k (by rw [wy_len]; omega)
      rw [HFIN.out] at c0
      have HB2 := Lib.hid hB1
      obtain ⟨cf, hcf⟩ : ∃ cf, (cn13 i k : Int) = cf := ⟨_, rfl⟩
      rw [hcf] at c0
      have HCF := Lib.hid hcf
      clear hR hB1 hi hge hcf HFIN hmk
      go_wp2
      go_ret
      exact ⟨by rw [HCF.out]; rfl, by rw [hB]; exact HB2.out⟩
end Go.Proofs.Ytoohahjmiljpgaa

/- Conditions of the texts on layers 16 to 23, met: what the reference's Count answers. No conditions. -/
namespace Go.Proofs.Ytoohahjmiljpgaa
open Go.RowKit
open M
theorem ctOk : CtOk := fun k w hk => rcount_any 4 k w (by decide) hk
end Go.Proofs.Ytoohahjmiljpgaa
