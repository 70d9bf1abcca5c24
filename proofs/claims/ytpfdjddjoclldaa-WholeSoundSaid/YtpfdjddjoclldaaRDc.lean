/-
  dct's wheel: a point turned. Conditions: a wheel of 16 points, points' numbers below 16, numbers up to 2^40.
-/
import Derived.Test.YtpfdjddjoclldaaREg
import Derived.Test.YtpfdjddjoclldaaRB1
import Derived.Test.YtpfdjddjoclldaaRM2
import Derived.Deep.RegionWith
namespace Go.Proofs.Ytpfdjddjoclldaa
open Go.RowKit
open M
/-- A wheel, where it lies. -/
def WAt (w : World) (g : Nat) (l : List (Int × Int)) : Prop := Row w g 63 (iCells (flat l))
theorem WAt.cell {w : World} {g : Nat} {l : List (Int × Int)} (h : WAt w g l) (i : Nat) (hi : i < 2 * l.length) : w.cell? ⟨g, i, none⟩ = some (.int .i64 ((flat l).getD i 0)) :=
  i_at h i (by rw [flat_len]; exact hi)
theorem WAt.c0 {w : World} {g : Nat} {l : List (Int × Int)} (h : WAt w g l) (n : Nat) (hn : n < l.length) : w.cell? ⟨g, n * 2, none⟩ = some (.int .i64 (l.getD n (0, 0)).1) := by
  rw [← flat_fst]
  exact h.cell (n * 2) (by omega)
theorem WAt.c1 {w : World} {g : Nat} {l : List (Int × Int)} (h : WAt w g l) (n : Nat) (hn : n < l.length) : w.cell? ⟨g, n * 2 + 1, none⟩ = some (.int .i64 (l.getD n (0, 0)).2) := by
  rw [← flat_snd]
  exact h.cell (n * 2 + 1) (by omega)
theorem WAt.set {w : World} {g : Nat} {l m : List (Int × Int)} (h : WAt w g l) (i : Nat) (x : Int) (hm : (flat l).set i x = flat m) : WAt (w.setCell ⟨g, i, none⟩ (.int .i64 x)) g m := by
  have := Row.set h i (.int .i64 x)
  rw [iCells_set, hm] at this
  exact this
theorem WAt.both {w : World} {g : Nat} {l : List (Int × Int)} (h : WAt w g l) (n : Nat) (x y : Int) (hn : n < l.length) : WAt ((w.setCell ⟨g, n * 2, none⟩ (.int .i64 x)).setCell ⟨g, n * 2 + 1, none⟩ (.int .i64 y)) g (l.set n (x, y)) := by
  have h1 := h.set (n * 2) x (flat_set1 l n x)
  refine h1.set (n * 2 + 1) y ?_
  rw [flat_set2, getD_set_self _ _ _ _ hn, List.set_set]
theorem WAt.drew {w : World} {g : Nat} {l : List (Int × Int)} (h : WAt w g l) : WAt w.drew g l := h
theorem WAt.call {w w' : World} {g : Nat} {l : List (Int × Int)} (h : WAt w g l) (hb : Below w.heap.size w w') : WAt w' g l := Row.box h hb
theorem below_set {m : Nat} {w w' : World} (h : Below m w w') (g i : Nat) (hg : m ≤ g) (v : Value) : Below m w (w'.setCell ⟨g, i, none⟩ v) := h.setCell (by show m ≤ g; exact hg) v
theorem below_two {w w1 : World} {g : Nat} (hg : g < w.heap.size) (hb : Below w.drew.heap.size w.drew w1) (i j : Nat) (u v : Value) : Below g w ((w1.setCell ⟨g, i, none⟩ u).setCell ⟨g, j, none⟩ v) :=
  below_set (below_set ((below_drew1 (Below.refl g w)).trans (hb.mono (Nat.le_of_lt hg))) g i (Nat.le_refl g) u) g j (Nat.le_refl g) v
set_option maxRecDepth 100000 in
set_option maxHeartbeats 2000000 in
theorem forth_any (l : List (Int × Int)) (n : Nat) (k : Int) (g : Nat) (w : World) (h : WAt w g l) (hl : l.length = 16) (hn : n < 16) (hb : Bd 1099511627776 (l.getD n (0, 0))) (hk1 : -9223372036854775808 ≤ k) (hk2 : k ≤ 9223372036854775807) :
    Calls Try.prog 40 #[.pointer (some ⟨g, 0, none⟩), .int .i64 n, .int .i64 k] w fun e w' => e = .returned (.tuple #[]) ∧ WAt w' g (l.set n (lft (l.getD n (0, 0)) k)) ∧ Below g w w' := by
  have c0 := h.c0 n (by omega)
  have c1 := h.c1 n (by omega)
  obtain ⟨P, hP⟩ : ∃ P, l.getD n (0, 0) = P := ⟨_, rfl⟩
  rw [hP] at hb c0 c1 ⊢
  have HP := Lib.hid hP
  have HL := Lib.hid hl
  have HR := Lib.hid h
  have HG := Lib.hid (Row.lt h)
  clear hP hl h
  obtain ⟨x, y⟩ := P
  dsimp only at c0 c1
  have hT := fun w => turn_in (x, y) k w hb hk1 hk2
  obtain ⟨Q, hQ⟩ : ∃ Q, lft (x, y) k = Q := ⟨_, rfl⟩
  simp only [hQ] at hT
  rw [hQ]
  clear hQ hb hk1 hk2
  obtain ⟨p, q⟩ := Q
  dsimp only at hT
  have HT := Lib.hid hT
  clear hT
  have hnI : (n : Int) < 16 := by omega
  go_enter Try.func40, Try.ntmps40
  go_wp2
  go_region_with (go_at_call_of 38 (Value.int .i64 k); refine (HT.out _).mono ?_; rintro e w1 ⟨rfl, hb1⟩; have HR1 := Lib.hid (HR.out.drew.call hb1); have d0 := HR1.out.c0 n (by rw [HL.out]; exact hn); have d1 := HR1.out.c1 n (by rw [HL.out]; exact hn); have f := fun i => Row.free HR1.out i; have HB1 := Lib.hid hb1; clear hb1 c0 c1)
  all_goals
    clear d0 d1 f
    go_wp2
    go_end0
    exact ⟨rfl, HR1.out.both n p q (by rw [HL.out]; exact hn), below_two HG.out HB1.out _ _ _ _⟩
end Go.Proofs.Ytpfdjddjoclldaa
