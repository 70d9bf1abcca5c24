/-
  pvq's Vector. No conditions.
-/
import Derived.Test.YtalbcimnnihmnaaQYdp
import Derived.Test.YtalbcimnnihmnaaQS12
import Derived.Laws.MakeOwn
namespace Go.Proofs.Ytalbcimnnihmnaa
open Go.RowKit
open M
theorem int_bytes13 : (Try.prog.info? 3).map (fun i => (i.zero, i.size, i.bytes)) = some (some (.int .i64 0), 1, 8) := int_info
theorem iCells_zeros13 (m : Nat) : madeCells #[.int .i64 0] m = iCells (List.replicate m 0) := by
  apply Array.ext (by rw [size_madeCells, iCells_size, List.length_replicate])
  intro i h1 h2
  simp [madeCells, iCells, Nat.mod_one]
theorem make_int13 (n : Nat) (hn : n ≤ 1099511627776) (w : World) : (Instr.makeSlice 38 (.int .i64 (n : Int)) (.int .i64 (n : Int))).run Try.prog w = .ok (.slice (some ⟨w.heap.size, 0, none⟩) n n) (w.alloc (.cells (iCells (List.replicate n 0)) 3)) := by
  obtain ⟨i, hi, hzz⟩ := Option.map_eq_some_iff.1 int_bytes13
  simp only [Prod.mk.injEq] at hzz
  obtain ⟨hz, hs, hb⟩ := hzz
  have hr := run_make (P := Try.prog) w 38 3 i _ Try.underlying38 hi hz .i64 .i64 n n (by omega) (by omega) (by rw [hb]; omega) (by omega)
  rw [hs] at hr
  simp only [Int.toNat_natCast, Value.cells, Nat.mul_one, iCells_zeros13] at hr
  exact hr
/-- A vector as far as p numbers. -/
def yv (V : List Int) (n p : Nat) : List Int := (List.range n).map fun j => if j < p then V.getD j 0 else 0
theorem yv_len (V : List Int) (n p : Nat) : (yv V n p).length = n := by simp [yv]
theorem yv_zero (V : List Int) (n : Nat) : yv V n 0 = List.replicate n 0 := by
  apply List.ext_getElem
  · simp [yv]
  · intro i h1 h2
    simp [yv]
theorem yv_full (V : List Int) (n : Nat) (h : V.length = n) : yv V n n = V := by
  apply List.ext_getElem
  · simp [yv, h]
  · intro i h1 h2
    simp only [yv, List.getElem_map, List.getElem_range]
    rw [if_pos (by omega), List.getD_eq_getElem?_getD, List.getElem?_eq_getElem h2]
    rfl
theorem yv_set (V : List Int) (n p : Nat) : (yv V n p).set p (V.getD p 0) = yv V n (p + 1) := by
  apply List.ext_getElem
  · simp [yv]
  · intro i h1 h2
    simp only [yv, List.getElem_set, List.getElem_map, List.getElem_range]
    by_cases e : p = i
    · subst e
      rw [if_pos rfl, if_pos (by omega)]
    · rw [if_neg e]
      by_cases e2 : i < p
      · rw [if_pos e2, if_pos (by omega)]
      · rw [if_neg e2, if_neg (by omega)]
/-- The first number of what is left. -/
def ra (m K I : Nat) : Nat := pk (cn13 m) K I (2 * K)
theorem vc_next (m K I : Nat) (h : I < cn13 (m + 1) K) : vc13 (m + 1) K I = unr (ra m K I) :: vc13 m (K - sz (ra m K I)) (I - ah (cn13 m) K (ra m K I)) ∧ ah (cn13 m) K (ra m K I) ≤ I ∧ I < ah (cn13 m) K (ra m K I) + cn13 m (K - sz (ra m K I)) ∧ ra m K I ≤ 2 * K := by
  obtain ⟨h1, h2, h3⟩ := pk_at (cn13 m) K I (2 * K) h
  exact ⟨rfl, h1, h2, h3⟩
theorem getD_drop (V : List Int) (p : Nat) (x : Int) (r : List Int) (h : V.drop p = x :: r) : V.getD p 0 = x ∧ V.drop (p + 1) = r := by
  have h1 : (V.drop p)[0]? = some x := by rw [h]; rfl
  rw [List.getElem?_drop, Nat.add_zero] at h1
  constructor
  · rw [List.getD_eq_getElem?_getD, h1]; rfl
  · rw [← List.drop_drop, h]; rfl
/-- What Vector answers: the list, and the error. -/
def vcL (n k i : Int) : List Int := if th13 n k ∧ 0 ≤ i ∧ i < cnI n k then vc13 n.toNat k.toNat i.toNat else []
def vcE (n k i : Int) : Int := if th13 n k then (if 0 ≤ i ∧ i < cnI n k then 0 else 7) else 1
theorem vc_out (n k i : Int) (h : th13 n k = false) : vcL n k i = [] ∧ vcE n k i = 1 := by
  constructor
  · exact if_neg (by rw [h]; simp)
  · exact if_neg (by rw [h]; simp)
theorem vc_far (n k : Nat) (i : Int) (hn : n ≤ 8) (hk : k ≤ 12) (h : i < 0 ∨ (cn13 n k : Int) ≤ i) : vcL n k i = [] ∧ vcE n k i = 7 := by
  have ht : th13 n k = true := decide_eq_true (by omega)
  have hc := cnI_in n k hn hk
  constructor
  · exact if_neg (by rw [hc]; omega)
  · unfold vcE
    rw [if_pos ht]
    exact if_neg (by rw [hc]; omega)
theorem vc_in (n k i : Nat) (hn : n ≤ 8) (hk : k ≤ 12) (h : i < cn13 n k) : vcL n k i = vc13 n k i ∧ vcE n k i = 0 := by
  have ht : th13 n k = true := decide_eq_true (by omega)
  have hc := cnI_in n k hn hk
  have hi : (i : Int) < (cn13 n k : Int) := Int.ofNat_lt.2 h
  constructor
  · unfold vcL
    rw [if_pos ⟨ht, by omega, by rw [hc]; exact hi⟩, Int.toNat_natCast, Int.toNat_natCast, Int.toNat_natCast]
  · unfold vcE
    rw [if_pos ht]
    exact if_pos ⟨by omega, by rw [hc]; exact hi⟩
end Go.Proofs.Ytalbcimnnihmnaa
