/-
  Contracts and plain facts that the laws share; each piece is headed by what it holds and its conditions.
-/
import Derived.Test.YtoohahjmiljpgaaQS7
import Derived.Test.YtoohahjmiljpgaaQS5
import Derived.Test.YtoohahjmiljpgaaQS11
import Derived.Test.YtoohahjmiljpgaaQS1
import Derived.StillTailTactics
import Derived.Deep.Cut

/- Layer 13: what pvq's Bits answers, as layer 18's texts ask it. No conditions. -/
namespace Go.Proofs.Ytoohahjmiljpgaa
open Go.RowKit
open M
/-- What the program's Bits of layer 13 answers. -/
def BvOk : Prop := ∀ (k : Nat) (w : World), k ≤ 12 → Calls Try.prog 47 #[.int .i64 (k : Int)] w fun e w' => e = .returned (.int .i64 (btc k : Nat)) ∧ Below w.heap.size w w'
end Go.Proofs.Ytoohahjmiljpgaa

/- Layer 18: what give's Bits is to answer, as a condition. No conditions. -/
namespace Go.Proofs.Ytoohahjmiljpgaa
open Go.RowKit
open M
/-- How many bits a packet has. -/
def bz18 (n : Int) : Int := if 12 ≤ n ∧ n ≤ 24 then 8 * n - 64 else 0
def BizOk : Prop := ∀ (n : Int) (w : World), Calls Try.prog 32 #[.int .i64 n] w fun e w' => e = .returned (.int .i64 (bz18 n)) ∧ Below w.heap.size w w'
end Go.Proofs.Ytoohahjmiljpgaa

/- Layer 18: what give's Pulses is to answer, as a condition. No conditions but those that each fact names. -/
namespace Go.Proofs.Ytoohahjmiljpgaa
open Go.RowKit
open M
/-- Whether steps and bits may be. -/
def ok18 (l : List Int) (n : Int) : Prop := rt17 l = true ∧ 0 ≤ n ∧ n ≤ 1048576
instance (l : List Int) (n : Int) : Decidable (ok18 l n) := by unfold ok18; infer_instance
/-- How many pulses each band has, of any ints. -/
def puI (l : List Int) (n : Int) : List Int := if ok18 l n then kl18 (giv (fun b => l.getD b 0) n.toNat) else e8z
def puE (l : List Int) (n : Int) : Int := if ok18 l n then 0 else 1
def PulOk : Prop := ∀ (l : List Int) (n : Int) (w : World), l.length = 8 → Calls Try.prog 31 #[.agg (iCells l), .int .i64 n] w fun e w' => e = .returned (.tuple #[.agg (iCells (puI l n)), .int .i64 (puE l n)]) ∧ Below w.heap.size w w'
theorem puI_len (l : List Int) (n : Int) : (puI l n).length = 8 := by
  unfold puI
  split
  · exact kl18_len _
  · simp [e8z]
end Go.Proofs.Ytoohahjmiljpgaa

/- The reference's Right of layer 17 (Far: Rfb; Great: Rfg; Budget: Rfc). Conditions: those that each fact names. -/
namespace Go.Proofs.Ytoohahjmiljpgaa
open Go.RowKit
open M
set_option maxRecDepth 100000 in
theorem rright_any (l : List Int) (w : World) (hl : l.length = 8) :
    Calls Try.prog 36 #[.agg (iCells l)] w fun e w' => e = .returned (.bool (rt17 l)) ∧ Below w.heap.size w w' := by
  have HL := Lib.hid hl
  have HR : Hid (Row (w.alloc (.cells (iCells l) 23)) w.heap.size 23 (iCells l)) := Lib.hid (heap_alloc_new _ _)
  have HB : Hid (Below w.heap.size w (w.alloc (.cells (iCells l) 23))) := Lib.hid ((Below.refl _ _).alloc (Nat.le_refl _) _)
  have HY := Lib.hid fun h => (rt_iff l).2 h
  have HN := Lib.hid fun h => b_no (rt_iff l) h
  clear hl
  go_enter Try.func36, Try.ntmps36
  go_wp2_with fail
  generalize w.alloc (.cells (iCells l) 23) = w1 at *
  obtain ⟨g, hg⟩ : ∃ g, w.heap.size = g := ⟨_, rfl⟩
  rw [hg] at HR
  rw [hg]
  clear hg
  go_loop [3] (fun ii => ∃ (k : Nat), k ≤ 8 ∧ ii = .int .i64 k ∧ ∀ j, j < k → 0 ≤ l.getD j 0 ∧ l.getD j 0 ≤ 15) (fun ii => 8 - (intOf ii).toNat)
  case atStart => exact ⟨0, by omega, rfl, fun j hj => by omega⟩
  case round =>
    obtain ⟨k, hk, rfl, hall⟩ := hrel
    rcases Nat.lt_or_ge k 8 with hlt | hge
    · have c0 := i_at HR.out k (by rw [HL.out]; exact hlt)
      have hkI : (k : Int) < 8 := by omega
      obtain ⟨x, hx⟩ : ∃ x, l.getD k 0 = x := ⟨_, rfl⟩
      rw [hx] at c0
      have HX := Lib.hid fun _ : Unit => hx
      have HA := Lib.hid hall
      have HK := Lib.hid hlt
      clear hk hlt hx hall
      by_cases h1 : x < 0
      · have HF := Lib.hid (HN.out fun h => by have := h k HK.out; rw [HX.out ()] at this; omega)
        go_wp2_with fail
        go_ret
        exact ⟨by rw [HF.out]; rfl, HB.out⟩
      · by_cases h2 : x > 15
        · have HF := Lib.hid (HN.out fun h => by have := h k HK.out; rw [HX.out ()] at this; omega)
          go_wp2_with fail
          go_ret
          exact ⟨by rw [HF.out]; rfl, HB.out⟩
        · have HXX := Lib.hid (show 0 ≤ x ∧ x ≤ 15 by omega)
          go_wp2_with fail
          go_round
          case rel => exact ⟨k + 1, HK.out, by go_num, fun j hj => by
            rcases Nat.lt_or_ge j k with h | h
            · exact HA.out j h
            · obtain rfl : j = k := by omega
              rw [HX.out ()]; exact HXX.out⟩
          case measure =>
            have := HK.out
            simp [intOf] <;> omega
    · obtain rfl : k = 8 := by omega
      have HF := Lib.hid (HY.out hall)
      clear hk hge hall
      go_wp2_with fail
      go_ret
      exact ⟨by rw [HF.out]; rfl, HB.out⟩
end Go.Proofs.Ytoohahjmiljpgaa
