/-
  Contracts and plain facts that the laws share; each piece is headed by what it holds and its conditions.
-/
import Derived.Test.YtoohahjmiljpgaaQS5
import Derived.Test.YtoohahjmiljpgaaQS9
import Derived.Test.YtoohahjmiljpgaaQS11
import Derived.Test.YtoohahjmiljpgaaQS1
import Derived.StillTailTactics
import Derived.Deep.Cut
import Derived.Deep.QuietTactic
import Derived.BigQuiet

/- The reference's Size. Conditions: a number whose opposite there is. -/
namespace Go.Proofs.Ytoohahjmiljpgaa
open Go.RowKit
open M
theorem rsize_any (x : Int) (w : World) (h1 : -9223372036854775807 ≤ x) (h2 : x ≤ 9223372036854775807) :
    Calls Try.prog 66 #[.int .i64 x] w fun e w' => e = .returned (.int .i64 (x.natAbs : Int)) ∧ w' = w := by
  have hw : wrap64 (-x) = -x := by rw [wrap64]; omega
  by_cases h : x < 0
  · go_enter Try.func66, Try.ntmps66
    go_wp2
    go_ret
    exact ⟨ret_eq (by omega), rfl⟩
  · go_enter Try.func66, Try.ntmps66
    go_wp2
    go_ret
    exact ⟨ret_eq (by omega), rfl⟩
end Go.Proofs.Ytoohahjmiljpgaa

/- The reference's Pulses of layer 19. Conditions: any four numbers. -/
namespace Go.Proofs.Ytoohahjmiljpgaa
open Go.RowKit
open M
/-- Pulses, as far as k. -/
def sj19 (y : List Int) : Nat → Nat
  | 0 => 0
  | k + 1 => sj19 y k + (y.getD k 0).natAbs
theorem sj_full (y : List Int) (h : y.length = 4) : sj19 y 4 = pl13 y := by
  match y, h with
  | [a, b, c, d], _ =>
    show 0 + a.natAbs + b.natAbs + c.natAbs + d.natAbs = a.natAbs + (b.natAbs + (c.natAbs + (d.natAbs + 0)))
    omega
theorem sj_le (y : List Int) (hy : y.length = 4) (i : Nat) (hi : i < 4) : sj19 y i + (y.getD i 0).natAbs ≤ pl13 y := by
  rw [← sj_full y hy]
  have : i = 0 ∨ i = 1 ∨ i = 2 ∨ i = 3 := by omega
  rcases this with rfl | rfl | rfl | rfl <;> simp only [sj19] <;> omega
set_option maxRecDepth 100000 in
theorem rpulses_any (y : List Int) (w : World) (hy : y.length = 4) :
    Calls Try.prog 37 #[.agg (iCells y)] w fun e w' => e = .returned (.int .i64 (pu19 y : Nat)) ∧ Below w.heap.size w w' := by
  have HL := Lib.hid hy
  have HR : Hid (Row (w.alloc (.cells (iCells y) 28)) w.heap.size 28 (iCells y)) := Lib.hid (heap_alloc_new _ _)
  have HB : Hid (Below w.heap.size w (w.alloc (.cells (iCells y) 28))) := Lib.hid ((Below.refl _ _).alloc (Nat.le_refl _) _)
  clear hy
  go_enter Try.func37, Try.ntmps37
  go_wp2_with fail
  generalize w.alloc (.cells (iCells y) 28) = w1 at *
  obtain ⟨g, hg⟩ : ∃ g, w.heap.size = g := ⟨_, rfl⟩
  rw [hg] at HR
  rw [hg]
  clear hg
  go_loop [3, 4] (fun nn ii => ∃ (k n : Nat), k ≤ 4 ∧ ii = .int .i64 (k : Int) ∧ nn = .int .i64 (n : Int) ∧ n = sj19 y k ∧ n ≤ 12 * k ∧ ∀ j, j < k → -12 ≤ y.getD j 0 ∧ y.getD j 0 ≤ 12) (fun _ ii => 4 - (intOf ii).toNat)
  case atStart => exact ⟨0, 0, by omega, rfl, rfl, rfl, by omega, fun j hj => by omega⟩
  case round =>
    obtain ⟨k, n, hk, rfl, rfl, hn, hnb, hall⟩ := hrel
    have HN := Lib.hid fun _ : Unit => hn
    have hnI : (n : Int) ≤ 48 := by omega
    rcases Nat.lt_or_ge k 4 with hlt | hge
    · have c0 := i_at HR.out k (by rw [HL.out]; exact hlt)
      have hkI : (k : Int) < 4 := by omega
      obtain ⟨x, hx⟩ : ∃ x, y.getD k 0 = x := ⟨_, rfl⟩
      rw [hx] at c0
      have HX := Lib.hid fun _ : Unit => hx
      have HA := Lib.hid hall
      have HK := Lib.hid hlt
      have HNB := Lib.hid hnb
      clear hk hlt hx hall hn hnb
      by_cases h1 : x < -12
      · have HF := Lib.hid (pu_not y k HK.out (by rw [HX.out ()]; omega))
        go_wp2_with fail
        go_ret
        exact ⟨by rw [HF.out]; rfl, HB.out⟩
      · by_cases h2 : x > 12
        · have HF := Lib.hid (pu_not y k HK.out (by rw [HX.out ()]; omega))
          go_wp2_with fail
          go_ret
          exact ⟨by rw [HF.out]; rfl, HB.out⟩
        · have HXX := Lib.hid (show -12 ≤ x ∧ x ≤ 12 by omega)
          go_wp2_with fail
          refine (rsize_any x _ (by have := HXX.out; omega) (by have := HXX.out; omega)).mono ?_
          rintro e w2 ⟨rfl, rfl⟩
          obtain ⟨m, hm⟩ : ∃ m, x.natAbs = m := ⟨_, rfl⟩
          have HM := Lib.hid fun _ : Unit => hm
          have hmb : (m : Int) ≤ 12 := by have := HXX.out; omega
          rw [hm]
          have e1 : IntKind.i64.wrap ((n : Int) + (m : Int)) = ((n + m : Nat) : Int) := by rw [IntKind.wrap_i64]; omega
          clear hm
          go_wp2_with fail
          go_round
          case rel => exact ⟨k + 1, n + m, HK.out, by go_num, rfl, by rw [HN.out (), ← HM.out (), ← HX.out ()]; rfl, by have := HNB.out; omega, fun j hj => by
            rcases Nat.lt_or_ge j k with h | h
            · exact HA.out j h
            · obtain rfl : j = k := by omega
              rw [HX.out ()]; exact HXX.out⟩
          case measure =>
            have := HK.out
            simp [intOf] <;> omega
    · obtain rfl : k = 4 := by omega
      have HF := Lib.hid (show ((pu19 y : Nat) : Int) = min (n : Int) 13 by
        unfold pu19
        rw [if_pos ((fw_iff y).2 hall), ← sj_full y HL.out, ← hn]
        omega)
      clear hk hge hall hn hnb
      go_wp2_with fail
      · go_ret
        exact ⟨by rw [HF.out]; show Ending.returned (.int .i64 13) = _; rw [show min (n : Int) 13 = 13 by omega], HB.out⟩
      · go_ret
        exact ⟨by rw [HF.out]; show Ending.returned (.int .i64 (n : Int)) = _; rw [show min (n : Int) 13 = (n : Int) by omega], HB.out⟩
end Go.Proofs.Ytoohahjmiljpgaa

/- The reference's rank of layer 19. Conditions: numbers to 2^40. -/
namespace Go.Proofs.Ytoohahjmiljpgaa
open Go.RowKit
open M
theorem rrank_any (x : Int) (w : World) (h : -1099511627776 ≤ x ∧ x ≤ 1099511627776) :
    Calls Try.prog 67 #[.int .i64 x] w fun e w' => e = .returned (.int .i64 (rk x : Nat)) ∧ w' = w := by
  by_cases h0 : x > 0
  · have e0 : ((rk x : Nat) : Int) = 2 * x - 1 := by unfold rk; rw [if_pos h0]; omega
    rw [e0]
    have e1 : IntKind.i64.wrap (2 * x) = 2 * x := by rw [IntKind.wrap_i64]; omega
    have e2 : IntKind.i64.wrap (2 * x - 1) = 2 * x - 1 := by rw [IntKind.wrap_i64]; omega
    go_enter Try.func67, Try.ntmps67
    go_wp2
    go_ret
    exact ⟨rfl, rfl⟩
  · have e0 : ((rk x : Nat) : Int) = -2 * x := by unfold rk; rw [if_neg h0]; omega
    rw [e0]
    have e1 : IntKind.i64.wrap (-2 * x) = -2 * x := by rw [IntKind.wrap_i64]; omega
    go_enter Try.func67, Try.ntmps67
    go_wp2
    go_ret
    exact ⟨rfl, rfl⟩
end Go.Proofs.Ytoohahjmiljpgaa

/- The reference's Index of layer 19. Conditions: four numbers, with up to 12 pulses; what the reference's Count answers. -/
namespace Go.Proofs.Ytoohahjmiljpgaa
open Go.RowKit
open M
/-- Counts of what comes ahead, number by number from -k on. -/
def sn19 (f : Nat → Nat) (k R : Nat) : Nat → Nat
  | 0 => 0
  | j + 1 => sn19 f k R j + (if rk (-(k : Int) + (j : Int)) < R then f (k - (-(k : Int) + (j : Int)).natAbs) else 0)
theorem sn_zero (f : Nat → Nat) (k j : Nat) : sn19 f k 0 j = 0 := by
  induction j with
  | zero => rfl
  | succ j ih =>
    show sn19 f k 0 j + _ = 0
    rw [ih, if_neg (by omega)]
theorem sn_next (f : Nat → Nat) (k R p : Nat) (hp : (p : Int) = unr R + (k : Int)) (j : Nat) : sn19 f k (R + 1) j = sn19 f k R j + (if p < j then f (k - sz R) else 0) := by
  induction j with
  | zero => rfl
  | succ j ih =>
    show sn19 f k (R + 1) j + _ = sn19 f k R j + _ + _
    rw [ih]
    obtain ⟨x, hx⟩ : ∃ x : Int, -(k : Int) + (j : Int) = x := ⟨_, rfl⟩
    rw [hx]
    by_cases e : p = j
    · have hxr : x = unr R := by omega
      have h1 : rk x = R := by rw [hxr, rk_unr]
      have h2 : x.natAbs = sz R := by rw [← sz_rk, h1]
      rw [h1, h2, if_neg (show ¬ p < j by omega), if_pos (show R < R + 1 by omega), if_neg (show ¬ R < R by omega), if_pos (show p < j + 1 by omega)]
    · have h1 : rk x ≠ R := fun h => e (by have := unr_rk x; rw [h] at this; omega)
      by_cases h2 : rk x < R
      · rw [if_pos h2, if_pos (show rk x < R + 1 by omega)]
        by_cases h3 : p < j
        · rw [if_pos h3, if_pos (by omega)]; omega
        · rw [if_neg h3, if_neg (by omega)]; omega
      · rw [if_neg h2, if_neg (show ¬ rk x < R + 1 by omega)]
        by_cases h3 : p < j
        · rw [if_pos h3, if_pos (by omega)]; omega
        · rw [if_neg h3, if_neg (by omega)]
theorem unr_bd2 (R k : Nat) (h : R ≤ 2 * k) : -(k : Int) ≤ unr R ∧ unr R ≤ (k : Int) := by
  unfold unr sz
  split <;> omega
theorem sn_full (f : Nat → Nat) (k R : Nat) (h : R ≤ 2 * k + 1) : sn19 f k R (2 * k + 1) = ah f k R := by
  induction R with
  | zero => exact sn_zero f k _
  | succ R ih =>
    have hb := unr_bd2 R k (by omega)
    obtain ⟨p, hp⟩ : ∃ p : Nat, (p : Int) = unr R + (k : Int) := ⟨(unr R + (k : Int)).toNat, by omega⟩
    rw [sn_next f k R p hp, ih (by omega), if_pos (by omega)]
    rfl
theorem sn_bd (f : Nat → Nat) (M k R : Nat) (hf : ∀ a, a ≤ k → f a ≤ M) (j : Nat) : sn19 f k R j ≤ j * M := by
  induction j with
  | zero => exact Nat.zero_le _
  | succ j ih =>
    show sn19 f k R j + _ ≤ _
    rw [Nat.succ_mul]
    split
    · have := hf (k - (-(k : Int) + (j : Int)).natAbs) (Nat.sub_le _ _)
      omega
    · omega
/-- A vector's number, as far as i. -/
def ip19 (y : List Int) : Nat → Nat
  | 0 => 0
  | i + 1 => ip19 y i + ah (cn13 (3 - i)) (pl13 y - sj19 y i) (rk (y.getD i 0))
theorem ip_full (y : List Int) (h : y.length = 4) : ip19 y 4 = ix13 y := by
  match y, h with
  | [a, b, c, d], _ =>
    show 0 + ah (cn13 3) (pl13 [a, b, c, d] - 0) (rk a) + ah (cn13 2) (pl13 [a, b, c, d] - (0 + a.natAbs)) (rk b) + ah (cn13 1) (pl13 [a, b, c, d] - (0 + a.natAbs + b.natAbs)) (rk c) + ah (cn13 0) (pl13 [a, b, c, d] - (0 + a.natAbs + b.natAbs + c.natAbs)) (rk d)
      = ah (cn13 3) (a.natAbs + pl13 [b, c, d]) (rk a) + (ah (cn13 2) (b.natAbs + pl13 [c, d]) (rk b) + (ah (cn13 1) (c.natAbs + pl13 [d]) (rk c) + (ah (cn13 0) (d.natAbs + pl13 []) (rk d) + 0)))
    have e0 : pl13 [a, b, c, d] = a.natAbs + (b.natAbs + (c.natAbs + (d.natAbs + 0))) := rfl
    have e1 : pl13 [b, c, d] = b.natAbs + (c.natAbs + (d.natAbs + 0)) := rfl
    have e2 : pl13 [c, d] = c.natAbs + (d.natAbs + 0) := rfl
    have e3 : pl13 [d] = d.natAbs + 0 := rfl
    have e4 : pl13 [] = 0 := rfl
    rw [e0, e1, e2, e3, e4]
    generalize a.natAbs = a at *
    generalize b.natAbs = b at *
    generalize c.natAbs = c at *
    generalize d.natAbs = d at *
    rw [show a + (b + (c + (d + 0))) - 0 = a + (b + (c + (d + 0))) by omega, show a + (b + (c + (d + 0))) - (0 + a) = b + (c + (d + 0)) by omega, show a + (b + (c + (d + 0))) - (0 + a + b) = c + (d + 0) by omega, show a + (b + (c + (d + 0))) - (0 + a + b + c) = d + 0 by omega]
    omega
/-- What is asked of the reference's Count. -/
def CnOk : Prop := ∀ (n k : Nat) (w : World), n ≤ 4 → k ≤ 12 → Calls Try.prog 68 #[.int .i64 (n : Int), .int .i64 (k : Int)] w fun e w' => e = .returned (.int .i64 (cn13 n k : Int)) ∧ Below w.heap.size w w'
set_option maxRecDepth 100000 in
set_option maxHeartbeats 2000000 in
theorem rindex_any (HC : CnOk) (y : List Int) (w : World) (hy : y.length = 4) (hp : pl13 y ≤ 12) :
    Calls Try.prog 39 #[.agg (iCells y)] w fun e w' => e = .returned (.int .i64 (ix13 y : Nat)) ∧ Below w.heap.size w w' := by
  have HL := Lib.hid hy
  have HP := Lib.hid hp
  have HSJ := Lib.hid fun i hi => sj_le y hy i hi
  have HIX := Lib.hid (ip_full y hy)
  have HCC := Lib.hid HC
  have HPU := Lib.hid (pu_few y (fun j hj => by have := sj_le y hy j hj; omega) hp)
  have HR : Hid (Row (w.alloc (.cells (iCells y) 28)) w.heap.size 28 (iCells y)) := Lib.hid (heap_alloc_new _ _)
  have HB : Hid (Below w.heap.size w (w.alloc (.cells (iCells y) 28))) := Lib.hid ((Below.refl _ _).alloc (Nat.le_refl _) _)
  have HRP := Lib.hid fun w => rpulses_any y w hy
  have HSZ : Hid ((Try.prog.info? 28).map (·.size) = some (iCells y).size) := Lib.hid (by rw [iCells_size, hy]; kernel_rfl)
  clear hy hp HC
  go_enter Try.func39, Try.ntmps39
  go_wp2_with (refine wpList_load_row rfl 28 (.tmp 1) rfl w.heap.size rfl 28 (iCells y) (0, 0) _ HR.out Try.underlying28 rfl HSZ.out ?_)
  refine (HRP.out _).mono ?_
  rintro e w2 ⟨rfl, hb⟩
  rw [HPU.out]
  have HR := Lib.hid (HR.out.box hb)
  have HB := Lib.hid (HB.out.trans (hb.mono HB.out.size))
  obtain ⟨P, hP⟩ : ∃ P, pl13 y = P := ⟨_, rfl⟩
  have HPP := Lib.hid fun _ : Unit => hP
  have hPI : (P : Int) ≤ 12 := by have := HP.out; omega
  rw [hP]
  clear hb HRP hP
  go_wp2_with fail
  obtain ⟨g, hg⟩ : ∃ g, w.heap.size = g := ⟨_, rfl⟩
  have HG := Lib.hid fun _ : Unit => hg
  rw [hg] at HR
  rw [hg]
  clear hg
  go_loopw [3, 4, 5] (fun kk nn ii wr => ∃ (i k n : Nat), i ≤ 4 ∧ ii = .int .i64 (i : Int) ∧ kk = .int .i64 (k : Int) ∧ nn = .int .i64 (n : Int) ∧ k + sj19 y i = P ∧ n = ip19 y i ∧ n ≤ i * 3814697265625 ∧ Row wr g 28 (iCells y) ∧ Below w.heap.size w wr) (fun _ _ ii _ => 4 - (intOf ii).toNat)
  case atStart => exact ⟨0, P, 0, by omega, rfl, rfl, rfl, rfl, rfl, by omega, HR.out, HB.out⟩
  case round =>
    clear HR HB
    obtain ⟨i, k, n, hi, rfl, rfl, rfl, hk, hn, hnb, hr, hb⟩ := hrel
    have HR := Lib.hid hr
    have HB := Lib.hid hb
    have HK := Lib.hid hk
    have HN := Lib.hid fun _ : Unit => hn
    rcases Nat.lt_or_ge i 4 with hlt | hge
    · have hkI : (k : Int) ≤ 12 := by omega
      have hiI : (i : Int) < 4 := by omega
      have hj := HSJ.out i hlt
      obtain ⟨x, hx⟩ : ∃ x, y.getD i 0 = x := ⟨_, rfl⟩
      have c0 := i_at hr i (by rw [HL.out]; exact hlt)
      rw [hx] at hj c0
      have HX := Lib.hid fun _ : Unit => hx
      have HXB := Lib.hid (show x.natAbs ≤ k by have := HPP.out (); omega)
      have HI := Lib.hid hlt
      have HNB := Lib.hid hnb
      have hnI : (n : Int) ≤ 15258789062500 := by omega
      have e0 : IntKind.i64.wrap (-(k : Int)) = -(k : Int) := by rw [IntKind.wrap_i64]; omega
      obtain ⟨m0, hm0⟩ : ∃ m0 : Int, -(k : Int) = m0 := ⟨_, rfl⟩
      rw [hm0] at e0
      have HM0 := Lib.hid fun _ : Unit => hm0
      clear hi hr hb hk hn hnb hlt hj hx hm0
      go_wp2_with fail
      clear e0
      obtain ⟨f3, hf3⟩ : ∃ f : Nat → Nat, cn13 (3 - i) = f := ⟨_, rfl⟩
      have HF3 := Lib.hid fun _ : Unit => hf3
      have HFB := Lib.hid (show ∀ a, a ≤ k → f3 a ≤ 152587890625 from fun a ha => by rw [← hf3]; exact cn_bd8 _ _ (by omega) (by omega))
      obtain ⟨c3, hc3⟩ : ∃ c3 : Nat, 3 - i = c3 := ⟨_, rfl⟩
      have HCN := Lib.hid (show ∀ a w, a ≤ k → Calls Try.prog 68 #[.int .i64 (c3 : Int), .int .i64 (a : Int)] w fun e w' => e = .returned (.int .i64 (f3 a : Int)) ∧ Below w.heap.size w w' from fun a w ha => by
        have h := HCC.out c3 a w (by omega) (by omega)
        rw [← hc3] at h ⊢
        rw [hf3] at h
        exact h)
      have e3 : IntKind.i64.wrap (3 - (i : Int)) = (c3 : Int) := by have := HI.out; rw [IntKind.wrap_i64]; omega
      obtain ⟨R, hRk⟩ : ∃ R, rk x = R := ⟨_, rfl⟩
      have HRK := Lib.hid fun _ : Unit => hRk
      have HRX := Lib.hid (show ∀ w, Calls Try.prog 67 #[.int .i64 x] w fun e w' => e = .returned (.int .i64 (R : Nat)) ∧ w' = w from fun w => by
        have h := rrank_any x w (by have := HXB.out; omega)
        rw [hRk] at h
        exact h)
      clear hf3 hc3 hRk c0
      go_loopw [4, 6] (fun nn xx wr => ∃ (j m : Nat), j ≤ 2 * k + 1 ∧ xx = .int .i64 (-(k : Int) + (j : Int)) ∧ nn = .int .i64 (m : Int) ∧ m = n + sn19 f3 k R j ∧ Row wr g 28 (iCells y) ∧ Below w.heap.size w wr) (fun _ xx _ => (k + 1 - intOf xx).toNat)
      case atStart => exact ⟨0, n, by omega, by rw [HM0.out ()]; show _ = Value.int .i64 (m0 + 0); rw [Int.add_zero], rfl, rfl, HR.out, HB.out⟩
      case round =>
        clear HR HB
        obtain ⟨j, m, hj, rfl, rfl, hm, hr, hb⟩ := hrel
        have HR := Lib.hid hr
        have HB := Lib.hid hb
        have HM := Lib.hid fun _ : Unit => hm
        obtain ⟨z, hz⟩ : ∃ z : Int, -(k : Int) + (j : Int) = z := ⟨_, rfl⟩
        have HZ := Lib.hid fun _ : Unit => hz
        rw [hz]
        rcases Nat.lt_or_ge j (2 * k + 1) with hlt | hge
        · have hzk : z ≤ (k : Int) := by omega
          have hzl : -(k : Int) ≤ z := by omega
          have HJ := Lib.hid hlt
          have hmI : (m : Int) ≤ 19073486328125 := by
            have h1 := sn_bd f3 152587890625 k R HFB.out j
            have h2 : j * 152587890625 ≤ 25 * 152587890625 := Nat.mul_le_mul_right _ (by omega)
            omega
          have c0 := i_at hr i (by rw [HL.out]; exact HI.out)
          rw [HX.out ()] at c0
          have HRZ := Lib.hid fun w => rrank_any z w (by omega)
          obtain ⟨r, hr1⟩ : ∃ r, rk z = r := ⟨_, rfl⟩
          have HRR := Lib.hid fun _ : Unit => hr1
          rw [hr1] at HRZ
          have e5 : IntKind.i64.wrap (z + 1) = -(k : Int) + ((j + 1 : Nat) : Int) := by rw [IntKind.wrap_i64]; omega
          obtain ⟨z1, hz1⟩ : ∃ z1 : Int, -(k : Int) + ((j + 1 : Nat) : Int) = z1 := ⟨_, rfl⟩
          have HZ1 := Lib.hid fun _ : Unit => hz1
          rw [hz1] at e5
          clear hj hlt hm hr hb hz hr1 hz1
          by_cases hrk : r < R
          · have HV := Lib.hid (show sn19 f3 k R (j + 1) = sn19 f3 k R j + f3 (k - z.natAbs) by
              show sn19 f3 k R j + _ = _
              rw [HZ.out (), HRR.out (), if_pos hrk])
            have hrd : decide (r < R) = true := decide_eq_true hrk
            obtain ⟨q, hq⟩ : ∃ q, z.natAbs = q := ⟨_, rfl⟩
            have hqk : q ≤ k := by omega
            have HCV := Lib.hid fun w => HCN.out (k - q) w (Nat.sub_le _ _)
            have hvb := HFB.out (k - q) (Nat.sub_le _ _)
            have HSZ2 := Lib.hid fun w => rsize_any z w (by omega) (by omega)
            rw [hq] at HV HSZ2
            obtain ⟨v, hv⟩ : ∃ v, f3 (k - q) = v := ⟨_, rfl⟩
            rw [hv] at HV HCV hvb
            have e6 : IntKind.i64.wrap ((k : Int) - (q : Int)) = ((k - q : Nat) : Int) := by rw [IntKind.wrap_i64]; omega
            have e7 : IntKind.i64.wrap ((m : Int) + (v : Int)) = ((m + v : Nat) : Int) := by rw [IntKind.wrap_i64]; omega
            clear hrk hq hvb hqk hv
            go_wp2_with fail
            refine wp_region_quiet_lit (by kernel_rfl) (by kernel_rfl) ?_
            repeat go_big_quiet_step (fail)
            go_big_quiet_step ((go_at_call 67; exact Calls.quiet_of_same (HRZ.out _)))
            repeat go_big_quiet_step (fail)
            go_big_quiet_step ((go_at_call 67; exact Calls.quiet_of_same (HRX.out _)))
            repeat go_big_quiet_step (fail)
            refine wpQuiet_nil ?_
            intro _ hw'
            obtain ⟨nq, rfl⟩ := hw'
            have HR := Lib.hid (Row.drewN HR.out nq)
            have HB := Lib.hid (Below.drewN HB.out nq)
            generalize wr.drewN nq = w3 at *
            go_wp2_with fail
            refine (HSZ2.out _).mono ?_
            rintro e w4 ⟨rfl, rfl⟩
            go_wp2_with fail
            refine (HCV.out _).mono ?_
            rintro e w5 ⟨rfl, hb⟩
            have HR := Lib.hid (HR.out.below hb (by have h1 := HG.out (); have h2 := HR.out.lt; omega))
            have HB := Lib.hid (HB.out.trans (hb.mono HB.out.size))
            clear hb
            go_wp2_with fail
            go_roundw
            case rel => exact ⟨j + 1, m + v, HJ.out, by rw [HZ1.out ()], rfl, by rw [HV.out, HM.out (), Nat.add_assoc], HR.out, HB.out⟩
            case measure =>
              have := HZ1.out ()
              have := HZ.out ()
              have := HJ.out
              simp [intOf] <;> omega
          · have HV := Lib.hid (show sn19 f3 k R (j + 1) = sn19 f3 k R j by
              show sn19 f3 k R j + _ = _
              rw [HZ.out (), HRR.out (), if_neg hrk, Nat.add_zero])
            have hrd : decide (r < R) = false := decide_eq_false hrk
            clear hrk
            go_wp2_with fail
            refine wp_region_quiet_lit (by kernel_rfl) (by kernel_rfl) ?_
            repeat go_big_quiet_step (fail)
            go_big_quiet_step ((go_at_call 67; exact Calls.quiet_of_same (HRZ.out _)))
            repeat go_big_quiet_step (fail)
            go_big_quiet_step ((go_at_call 67; exact Calls.quiet_of_same (HRX.out _)))
            repeat go_big_quiet_step (fail)
            refine wpQuiet_nil ?_
            intro _ hw'
            obtain ⟨nq, rfl⟩ := hw'
            have HR := Lib.hid (Row.drewN HR.out nq)
            have HB := Lib.hid (Below.drewN HB.out nq)
            generalize wr.drewN nq = w3 at *
            go_wp2_with fail
            go_roundw
            case rel => exact ⟨j + 1, m, HJ.out, by rw [HZ1.out ()], rfl, by rw [HV.out, HM.out ()], HR.out, HB.out⟩
            case measure =>
              have := HZ1.out ()
              have := HZ.out ()
              have := HJ.out
              simp [intOf] <;> omega
        · obtain rfl : j = 2 * k + 1 := by omega
          have hzk : ¬ z ≤ (k : Int) := by omega
          obtain ⟨q, hq⟩ : ∃ q, x.natAbs = q := ⟨_, rfl⟩
          have HQ := Lib.hid fun _ : Unit => hq
          have hxb := HXB.out
          have HSZ2 := Lib.hid fun w => rsize_any x w (by omega) (by omega)
          rw [hq] at HSZ2 hxb
          have c0 := i_at hr i (by rw [HL.out]; exact HI.out)
          rw [HX.out ()] at c0
          have HMM := Lib.hid (show m = ip19 y (i + 1) by
            show m = ip19 y i + ah (cn13 (3 - i)) (pl13 y - sj19 y i) (rk (y.getD i 0))
            rw [hm, HN.out (), HX.out (), HRK.out (), HF3.out (), HPP.out (), show P - sj19 y i = k by have := HK.out; omega, sn_full f3 k R (by rw [← HRK.out ()]; have h1 := rk_le x; have h2 := HXB.out; omega)])
          have HMB := Lib.hid (show m ≤ (i + 1) * 3814697265625 by
            have h1 := sn_bd f3 152587890625 k R HFB.out (2 * k + 1)
            have h2 : (2 * k + 1) * 152587890625 ≤ 25 * 152587890625 := Nat.mul_le_mul_right _ (by omega)
            have h3 := HNB.out
            omega)
          have e6 : IntKind.i64.wrap ((k : Int) - (q : Int)) = ((k - q : Nat) : Int) := by rw [IntKind.wrap_i64]; omega
          have HQK := Lib.hid hxb
          clear hj hge hm hr hb hz hq hxb
          go_wp2_with fail
          refine (HSZ2.out _).mono ?_
          rintro e w4 ⟨rfl, rfl⟩
          go_wp2_with fail
          go_roundw
          case rel => exact ⟨i + 1, k - q, m, HI.out, by go_num, rfl, rfl, by
            show k - q + (sj19 y i + (y.getD i 0).natAbs) = P
            rw [HX.out (), HQ.out ()]
            have h1 := HK.out
            have h2 := HQK.out
            omega, HMM.out, HMB.out, HR.out, HB.out⟩
          case measure =>
            have := HI.out
            simp [intOf] <;> omega
    · obtain rfl : i = 4 := by omega
      have HF := Lib.hid (show ix13 y = n by rw [hn, HIX.out])
      clear hi hge hr hb hk hn hnb
      go_wp2_with fail
      go_ret
      exact ⟨by rw [HF.out]; rfl, HB.out⟩
end Go.Proofs.Ytoohahjmiljpgaa
