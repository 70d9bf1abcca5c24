/-
  dct's wheel: a point turned back. Conditions: a wheel of 16 points, points' numbers below 16, numbers up to 2^40.
-/
import Derived.Test.YtpfdjddjoclldaaRDc
namespace Go.Proofs.Ytpfdjddjoclldaa
open Go.RowKit
open M
set_option maxRecDepth 100000 in
set_option maxHeartbeats 2000000 in
theorem back_any (l : List (Int × Int)) (n : Nat) (k : Int) (g : Nat) (w : World) (h : WAt w g l) (hl : l.length = 16) (hn : n < 16) (hb : Bd 1099511627776 (l.getD n (0, 0))) (hk1 : -9223372036854775808 ≤ k) (hk2 : k ≤ 9223372036854775807) :
    Calls Try.prog 45 #[.pointer (some ⟨g, 0, none⟩), .int .i64 n, .int .i64 k] w fun e w' => e = .returned (.tuple #[]) ∧ WAt w' g (l.set n (lfb (l.getD n (0, 0)) k)) ∧ Below g w w' := by
  have c0 := h.c0 n (by omega)
  have c1 := h.c1 n (by omega)
  obtain ⟨P, hP⟩ : ∃ P, l.getD n (0, 0) = P := ⟨_, rfl⟩
  rw [hP] at hb c0 c1 ⊢
  have HP := Lib.hid hP
  have HL := Lib.hid hl
  have HR := Lib.hid h
  have HG := Lib.hid (Row.lt h)
  clear hP hl h
  obtain ⟨x, y⟩ := P
  dsimp only at c0 c1
  have hT := fun w => back_in (x, y) k w hb hk1 hk2
  obtain ⟨Q, hQ⟩ : ∃ Q, lfb (x, y) k = Q := ⟨_, rfl⟩
  simp only [hQ] at hT
  rw [hQ]
  clear hQ hb hk1 hk2
  obtain ⟨p, q⟩ := Q
  dsimp only at hT
  have HT := Lib.hid hT
  clear hT
  have hnI : (n : Int) < 16 := by omega
  go_enter Try.func45, Try.ntmps45
  go_wp2
  go_region_with (go_at_call_of 47 (Value.int .i64 k); refine (HT.out _).mono ?_; rintro e w1 ⟨rfl, hb1⟩; have HR1 := Lib.hid (HR.out.drew.call hb1); have d0 := HR1.out.c0 n (by rw [HL.out]; exact hn); have d1 := HR1.out.c1 n (by rw [HL.out]; exact hn); have f := fun i => Row.free HR1.out i; have HB1 := Lib.hid hb1; clear hb1 c0 c1)
  all_goals
    clear d0 d1 f
    go_wp2
    go_end0
    exact ⟨rfl, HR1.out.both n p q (by rw [HL.out]; exact hn), below_two HG.out HB1.out _ _ _ _⟩
end Go.Proofs.Ytpfdjddjoclldaa
