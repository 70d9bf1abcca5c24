/-
  Lists of numbers filled one by one, middles and sides of a list, and both joined again. No program is named here but in how a list of numbers is made. No conditions but those that each fact names.
-/
import Derived.Test.YtpfdjddjoclldaaRCf
import Derived.Test.YtpfdjddjoclldaaRM2
namespace Go.Proofs.Ytpfdjddjoclldaa.M
/-- A list of n numbers, filled as far as k. -/
def upk (n : Nat) (f : Nat → Int) (k : Nat) : List Int := (List.range n).map fun i => if i < k then f i else 0
theorem upk_len (n : Nat) (f : Nat → Int) (k : Nat) : (upk n f k).length = n := tb_len _ _
theorem upk_zero (n : Nat) (f : Nat → Int) : upk n f 0 = List.replicate n 0 := by
  unfold upk
  refine Eq.trans (tb_congr n _ (fun _ => (0 : Int)) fun j _ => if_neg (by omega)) ?_
  rw [List.map_const', List.length_range]
theorem upk_full (n k : Nat) (f : Nat → Int) (h : n ≤ k) : upk n f k = (List.range n).map f := tb_congr n _ _ fun j hj => if_pos (by omega)
theorem upk_step (n k : Nat) (f : Nat → Int) : (upk n f k).set k (f k) = upk n f (k + 1) := by
  unfold upk
  refine rng_set _ _ _ _ _ ?_ ?_
  · rw [if_pos (by omega)]
  · intro i hi hne
    by_cases e : i < k
    · rw [if_pos e, if_pos (by omega)]
    · rw [if_neg e, if_neg (by omega)]
/-- The middle and the side of a list's pair. -/
def pr12 (l : List Int) (i : Nat) : Int × Int := mdl (l.getD (2 * i) 0) (l.getD (2 * i + 1) 0)
def mids (l : List Int) : List Int := (List.range (l.length / 2)).map fun i => (pr12 l i).1
def sids (l : List Int) : List Int := (List.range (l.length / 2)).map fun i => (pr12 l i).2
theorem mids_len (l : List Int) : (mids l).length = l.length / 2 := tb_len _ _
theorem sids_len (l : List Int) : (sids l).length = l.length / 2 := tb_len _ _
/-- Left and right ones. -/
def jn12 (m s : List Int) (p : Nat) : Int := if p % 2 = 0 then (mdb (m.getD (p / 2) 0) (s.getD (p / 2) 0)).1 else (mdb (m.getD (p / 2) 0) (s.getD (p / 2) 0)).2
def joi (m s : List Int) : List Int := (List.range (2 * m.length)).map (jn12 m s)
theorem joi_len (m s : List Int) : (joi m s).length = 2 * m.length := tb_len _ _
theorem jn12_even (m s : List Int) (k : Nat) : jn12 m s (2 * k) = (mdb (m.getD k 0) (s.getD k 0)).1 := by
  unfold jn12
  rw [if_pos (by omega), show 2 * k / 2 = k by omega]
theorem jn12_odd (m s : List Int) (k : Nat) : jn12 m s (2 * k + 1) = (mdb (m.getD k 0) (s.getD k 0)).2 := by
  unfold jn12
  rw [if_neg (by omega), show (2 * k + 1) / 2 = k by omega]
/-- MidJoins. -/
theorem joi_split (l : List Int) (h : l.length % 2 = 0) : joi (mids l) (sids l) = l := by
  refine Eq.symm (tb_ext 0 l _ _ (by rw [mids_len]; omega) fun p hp => ?_)
  rw [mids_len] at hp
  have e1 : (mids l).getD (p / 2) 0 = (pr12 l (p / 2)).1 := by unfold mids; rw [tb_getD _ _ _ _ (by omega)]
  have e2 : (sids l).getD (p / 2) 0 = (pr12 l (p / 2)).2 := by unfold sids; rw [tb_getD _ _ _ _ (by omega)]
  unfold jn12
  rw [e1, e2]
  unfold pr12
  rw [mdb_mdl]
  by_cases e : p % 2 = 0
  · rw [if_pos e, show 2 * (p / 2) = p by omega]
  · rw [if_neg e, show 2 * (p / 2) + 1 = p by omega]
theorem pr12_bd (l : List Int) (n : Int) (hn : 0 ≤ n) (h : ∀ x ∈ l, -n ≤ x ∧ x ≤ n) (i : Nat) : -n ≤ (pr12 l i).1 ∧ (pr12 l i).1 ≤ n ∧ -(2 * n) ≤ (pr12 l i).2 ∧ (pr12 l i).2 ≤ 2 * n := by
  have h1 := M.getD_bd l n hn h (2 * i)
  have h2 := M.getD_bd l n hn h (2 * i + 1)
  exact mdl_bd _ _ _ h1.1 h1.2 h2.1 h2.2
theorem mids_bd (l : List Int) (n : Int) (hn : 0 ≤ n) (h : ∀ x ∈ l, -n ≤ x ∧ x ≤ n) : ∀ x ∈ mids l, -n ≤ x ∧ x ≤ n := fun x hx => by
  obtain ⟨i, _, rfl⟩ := List.mem_map.1 hx
  have := pr12_bd l n hn h i
  omega
theorem sids_bd (l : List Int) (n : Int) (hn : 0 ≤ n) (h : ∀ x ∈ l, -n ≤ x ∧ x ≤ n) : ∀ x ∈ sids l, -(2 * n) ≤ x ∧ x ≤ 2 * n := fun x hx => by
  obtain ⟨i, _, rfl⟩ := List.mem_map.1 hx
  have := pr12_bd l n hn h i
  omega
end Go.Proofs.Ytpfdjddjoclldaa.M
namespace Go.Proofs.Ytpfdjddjoclldaa
open Go.RowKit
open M
theorem int_bytes12 : (Try.prog.info? 3).map (fun i => (i.zero, i.size, i.bytes)) = some (some (.int .i64 0), 1, 8) := by kernel_rfl
theorem iCells_zeros12 (m : Nat) : madeCells #[.int .i64 0] m = iCells (List.replicate m 0) := by
  apply Array.ext (by rw [size_madeCells, iCells_size, List.length_replicate])
  intro i h1 h2
  simp [madeCells, iCells, Nat.mod_one]
theorem make_int12 (n : Nat) (hn : n ≤ 1099511627776) (w : World) : (Instr.makeSlice 27 (.int .i64 (n : Int)) (.int .i64 (n : Int))).run Try.prog w = .ok (.slice (some ⟨w.heap.size, 0, none⟩) n n) (w.alloc (.cells (iCells (List.replicate n 0)) 3)) := by
  obtain ⟨i, hi, hzz⟩ := Option.map_eq_some_iff.1 int_bytes12
  simp only [Prod.mk.injEq] at hzz
  obtain ⟨hz, hs, hb⟩ := hzz
  have hr := run_make (P := Try.prog) w 27 3 i _ Try.underlying27 hi hz .i64 .i64 n n (by omega) (by omega) (by rw [hb]; omega) (by omega)
  rw [hs] at hr
  simp only [Int.toNat_natCast, Value.cells, Nat.mul_one, iCells_zeros12] at hr
  exact hr
end Go.Proofs.Ytpfdjddjoclldaa
