/-
  A seam's pairs, turned one by one: what stands in both blocks behind k of them. Conditions: up to 16 pairs.
-/
import Derived.Test.YtpfdjddjoclldaaRLa
namespace Go.Proofs.Ytpfdjddjoclldaa.M
def sak (H : Int × Int → Int → Int × Int) (a b : List Int) (k : Nat) : List Int := (List.range 32).map fun j => if 31 - j < k then (H (a.getD j 0, b.getD (31 - j) 0) (62 - 4 * ((31 - j : Nat) : Int))).1 else a.getD j 0
def sbk (H : Int × Int → Int → Int × Int) (a b : List Int) (k : Nat) : List Int := (List.range 32).map fun j => if j < k then (H (a.getD (31 - j) 0, b.getD j 0) (62 - 4 * (j : Int))).2 else b.getD j 0
theorem sak_len (H : Int × Int → Int → Int × Int) (a b : List Int) (k : Nat) : (sak H a b k).length = 32 := tb_len _ _
theorem sbk_len (H : Int × Int → Int → Int × Int) (a b : List Int) (k : Nat) : (sbk H a b k).length = 32 := tb_len _ _
theorem sak_zero (H : Int × Int → Int → Int × Int) (a b : List Int) (h : a.length = 32) : sak H a b 0 = a :=
  Eq.symm (tb_ext 0 a 32 _ h fun i _ => by rw [if_neg (by omega)])
theorem sbk_zero (H : Int × Int → Int → Int × Int) (a b : List Int) (h : b.length = 32) : sbk H a b 0 = b :=
  Eq.symm (tb_ext 0 b 32 _ h fun i _ => by rw [if_neg (by omega)])
theorem sak_full (H : Int × Int → Int → Int × Int) (a b : List Int) : sak H a b 16 = seaA H a b := tb_congr 32 _ _ fun i hi => by
  by_cases h : i < 16
  · rw [if_neg (by omega), if_pos h]
  · rw [if_pos (by omega), if_neg h]
theorem sbk_full (H : Int × Int → Int → Int × Int) (a b : List Int) : sbk H a b 16 = seaB H a b := rfl
theorem sak_at (H : Int × Int → Int → Int × Int) (a b : List Int) (k : Nat) (h : k < 16) : (sak H a b k).getD (31 - k) 0 = a.getD (31 - k) 0 := by
  unfold sak; rw [tb_getD _ _ _ _ (by omega), if_neg (by omega)]
theorem sbk_at (H : Int × Int → Int → Int × Int) (a b : List Int) (k : Nat) (h : k < 16) : (sbk H a b k).getD k 0 = b.getD k 0 := by
  unfold sbk; rw [tb_getD _ _ _ _ (by omega), if_neg (by omega)]
theorem sak_step (H : Int × Int → Int → Int × Int) (a b : List Int) (k : Nat) (h : k < 16) : (sak H a b k).set (31 - k) (H (a.getD (31 - k) 0, b.getD k 0) (62 - 4 * (k : Int))).1 = sak H a b (k + 1) := by
  unfold sak
  refine rng_set _ _ _ _ _ ?_ ?_
  · rw [if_pos (by omega), show 31 - (31 - k) = k by omega]
  · intro i hi hne
    by_cases e : 31 - i < k
    · rw [if_pos e, if_pos (by omega)]
    · rw [if_neg e, if_neg (by omega)]
theorem sbk_step (H : Int × Int → Int → Int × Int) (a b : List Int) (k : Nat) : (sbk H a b k).set k (H (a.getD (31 - k) 0, b.getD k 0) (62 - 4 * (k : Int))).2 = sbk H a b (k + 1) := by
  unfold sbk
  refine rng_set _ _ _ _ _ ?_ ?_
  · rw [if_pos (by omega)]
  · intro i hi hne
    by_cases e : i < k
    · rw [if_pos e, if_pos (by omega)]
    · rw [if_neg e, if_neg (by omega)]
end Go.Proofs.Ytpfdjddjoclldaa.M
namespace Go.Proofs.Ytpfdjddjoclldaa
open Go.RowKit
open M
/-- Both numbers of a pair put, each into its block; other blocks are as they were. -/
theorem pair_put {w w2 : World} {B g0 g1 g2 g3 : Nat} {t0 t1 t2 t3 : TypeId} {a b a1 b1 : List Int} {c2 c3 : Array Value} (h0 : Row w2 g0 t0 (iCells a)) (h1 : Row w2 g1 t1 (iCells b)) (h2 : Row w2 g2 t2 c2) (h3 : Row w2 g3 t3 c3) (hb : Below B w w2)
    (hne : g0 ≠ g1) (hn2 : g2 ≠ g0 ∧ g2 ≠ g1) (hn3 : g3 ≠ g0 ∧ g3 ≠ g1) (hB : B ≤ g0 ∧ B ≤ g1) (d k : Nat) (p q : Int) (ha : a.set d p = a1) (hbb : b.set k q = b1) :
    Row ((w2.setCell ⟨g0, d, none⟩ (.int .i64 p)).setCell ⟨g1, k, none⟩ (.int .i64 q)) g0 t0 (iCells a1) ∧ Row ((w2.setCell ⟨g0, d, none⟩ (.int .i64 p)).setCell ⟨g1, k, none⟩ (.int .i64 q)) g1 t1 (iCells b1) ∧
    Row ((w2.setCell ⟨g0, d, none⟩ (.int .i64 p)).setCell ⟨g1, k, none⟩ (.int .i64 q)) g2 t2 c2 ∧ Row ((w2.setCell ⟨g0, d, none⟩ (.int .i64 p)).setCell ⟨g1, k, none⟩ (.int .i64 q)) g3 t3 c3 ∧
    Below B w ((w2.setCell ⟨g0, d, none⟩ (.int .i64 p)).setCell ⟨g1, k, none⟩ (.int .i64 q)) := by
  subst ha hbb
  rw [← iCells_set, ← iCells_set]
  exact ⟨(h0.set d _).far (p := ⟨g1, k, none⟩) hne _, (h1.far (p := ⟨g0, d, none⟩) (Ne.symm hne) _).set k _, (h2.far (p := ⟨g0, d, none⟩) hn2.1 _).far (p := ⟨g1, k, none⟩) hn2.2 _,
    (h3.far (p := ⟨g0, d, none⟩) hn3.1 _).far (p := ⟨g1, k, none⟩) hn3.2 _, (hb.setCell (p := ⟨g0, d, none⟩) hB.1 _).setCell (p := ⟨g1, k, none⟩) hB.2 _⟩
end Go.Proofs.Ytpfdjddjoclldaa
