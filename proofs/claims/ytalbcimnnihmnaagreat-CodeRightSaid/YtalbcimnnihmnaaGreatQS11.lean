/-
  Contracts and plain facts that the laws share; each piece is headed by what it holds and its conditions.
-/
import Derived.Test.YtalbcimnnihmnaaGreatQS5
import Derived.Test.YtalbcimnnihmnaaGreatQS1
import Derived.Deep.WholeRow

/- Layer 18: what give's Bits is to answer, as a condition. No conditions. -/
namespace Go.Proofs.YtalbcimnnihmnaaGreat
open Go.RowKit
open M
/-- How many bits a packet has. -/
def bz18 (n : Int) : Int := if 12 ≤ n ∧ n ≤ 24 then 8 * n - 64 else 0
def BizOk : Prop := ∀ (n : Int) (w : World), Calls Tryz.prog 11 #[.int .i64 n] w fun e w' => e = .returned (.int .i64 (bz18 n)) ∧ Below w.heap.size w w'
end Go.Proofs.YtalbcimnnihmnaaGreat

/- Numbers that a walk wraps; counts of vectors as ints. No conditions but those that each fact names. -/
namespace Go.Proofs.YtalbcimnnihmnaaGreat
open Go.RowKit
open M
theorem cn_first (n : Nat) : (cn13 n 0 : Int) = 1 := by rw [cn_none]; rfl
theorem wr_is (x y : Int) (h : x = y) (h1 : -9223372036854775808 ≤ x) (h2 : x ≤ 9223372036854775807) : wrap64 x = y := by
  subst h; rw [wrap64]; omega
theorem wr_sub (a b c : Nat) (h : a = b + c) (ha : a ≤ 1000000) : wrap64 ((a : Int) - (b : Int)) = (c : Int) := wr_is _ _ (by omega) (by omega) (by omega)
theorem wr_succ (p : Nat) (h : p ≤ 1000000) : wrap64 ((p : Int) + 1) = ((p + 1 : Nat) : Int) := wr_is _ _ (by omega) (by omega) (by omega)
theorem sub_nat (a b c : Nat) (h : a = b + c) : (a : Int) - (b : Int) = (c : Int) := by omega
theorem ms13 (L p : Nat) (h : p < L) : L - (intOf (.int .i64 ((p + 1 : Nat) : Int))).toNat < L - (intOf (.int .i64 (p : Int))).toNat := by
  simp only [intOf, Int.toNat_natCast]
  omega
theorem wr_three (x y z u : Int) (h : u = x + y + z) (h1 : 0 ≤ x) (h2 : 0 ≤ y) (h3 : 0 ≤ z) (k1 : x ≤ 152587890625) (k2 : y ≤ 152587890625) (k3 : z ≤ 152587890625) : wrap64 (x + y) = x + y ∧ wrap64 (x + y + z) = u :=
  ⟨wr_is _ _ rfl (by omega) (by omega), wr_is _ _ h.symm (by omega) (by omega)⟩
theorem cn_big (n k : Nat) (hn : n ≤ 8) (hk : k ≤ 12) : (cn13 n k : Int) ≤ 152587890625 := Int.ofNat_le.2 (cn_bd8 n k hn hk)
theorem cn_more (m j n k : Nat) (hn : n = m + 1) (hk : k = j + 1) : (cn13 n k : Int) = (cn13 m k : Int) + (cn13 m j : Int) + (cn13 n j : Int) := by
  subst hn hk
  rw [cn_step, Int.natCast_add, Int.natCast_add]
theorem unr_pos (r : Nat) (h : 0 < unr r) : unr (r + 1) = -unr r := by
  unfold unr sz at *
  split at h <;> split <;> omega
theorem unr_neg (r : Nat) (h : ¬ 0 < unr r) : unr (r + 1) = 1 - unr r := by
  unfold unr sz at *
  split at h <;> split <;> omega
theorem unr_bd (r : Nat) (h : r ≤ 1000) : -1000 ≤ unr r ∧ unr r ≤ 1000 := by
  unfold unr sz
  split <;> omega
theorem cn_pos (n k : Nat) : 1 ≤ cn13 (n + 1) k := by
  show 1 ≤ ah (cn13 n) k (2 * k) + cn13 n (k - sz (2 * k))
  have h : k - sz (2 * k) = 0 := by unfold sz; omega
  rw [h, cn_none]
  omega
end Go.Proofs.YtalbcimnnihmnaaGreat

/- Pulses of a list, plain: parts of it, how many at most. No conditions but those that each fact names. -/
namespace Go.Proofs.YtalbcimnnihmnaaGreat
open Go.RowKit
open M
theorem pl_app (l m : List Int) : pl13 (l ++ m) = pl13 l + pl13 m := by
  induction l with
  | nil => simp [pl13]
  | cons x r ih => rw [List.cons_append]; show x.natAbs + _ = x.natAbs + _ + _; rw [ih]; omega
theorem pl_take (l : List Int) (k : Nat) (h : k < l.length) : pl13 (l.take (k + 1)) = pl13 (l.take k) + (l.getD k 0).natAbs := by
  rw [List.take_add_one, List.getD_eq_getElem?_getD, List.getElem?_eq_getElem h, pl_app]
  rfl
theorem pl_one (l : List Int) (k : Nat) (h : k < l.length) : (l.getD k 0).natAbs ≤ pl13 l := by
  have h1 := pl_take l k h
  have h2 := pl_app (l.take (k + 1)) (l.drop (k + 1))
  rw [List.take_append_drop] at h2
  omega
/-- How many pulses, as Pulses tells. -/
def pu13 (l : List Int) : Nat := if l.length ≤ 8 then min (pl13 l) 13 else 13
theorem pu_far (l : List Int) (k : Nat) (h : k < l.length) (h2 : l.getD k 0 < -12 ∨ l.getD k 0 > 12) : pu13 l = 13 := by
  have := pl_one l k h
  unfold pu13
  split <;> omega
theorem pu_long (l : List Int) (h : 8 < l.length) : pu13 l = 13 := if_neg (by omega)
theorem pu_in (l : List Int) (h : l.length ≤ 8) : pu13 l = min (pl13 l) 13 := if_pos h
end Go.Proofs.YtalbcimnnihmnaaGreat

/- pvq's table of counts, plain; whether counts are there. No conditions but those that each fact names. -/
namespace Go.Proofs.YtalbcimnnihmnaaGreat
open Go.RowKit
open M
/-- The table, as far as p places. -/
def tf13 (p : Nat) : List Int := (List.range 117).map fun i => if i < p then (cn13 (i / 13) (i % 13) : Int) else 0
theorem tf_len (p : Nat) : (tf13 p).length = 117 := by simp [tf13]
theorem tf_at (p i : Nat) (h : i < p) (h2 : i < 117) : (tf13 p).getD i 0 = (cn13 (i / 13) (i % 13) : Int) := by
  simp only [tf13, List.getD_eq_getElem?_getD, List.getElem?_map, List.getElem?_range h2, Option.map_some, Option.getD_some]
  rw [if_pos h]
theorem tf_cell (p n k : Nat) (hn : n < 9) (hk : k < 13) (h : n * 13 + k < p) : (tf13 p).getD (n * 13 + k) 0 = (cn13 n k : Int) := by
  rw [tf_at p _ h (by omega), show (n * 13 + k) / 13 = n by omega, show (n * 13 + k) % 13 = k by omega]
theorem tf_step (p : Nat) (c : Int) (hc : c = (cn13 (p / 13) (p % 13) : Int)) : (tf13 p).set p c = tf13 (p + 1) := by
  subst hc
  apply List.ext_getElem
  · simp [tf13]
  · intro i h1 h2
    simp only [tf13, List.getElem_set, List.getElem_map, List.getElem_range]
    by_cases e : p = i
    · subst e
      rw [if_pos rfl, if_pos (by omega)]
    · rw [if_neg e]
      by_cases e2 : i < p
      · rw [if_pos e2, if_pos (by omega)]
      · rw [if_neg e2, if_neg (by omega)]
theorem tf_put (n k : Nat) (hk : k < 13) : (tf13 (n * 13 + k)).set (n * 13 + k) (cn13 n k : Int) = tf13 (n * 13 + (k + 1)) := by
  rw [tf_step _ _ (by rw [show (n * 13 + k) / 13 = n by omega, show (n * 13 + k) % 13 = k by omega])]
  rfl
def tz13 : List Int := List.replicate 117 0
theorem tf_zero : tf13 0 = tz13 := by decide +kernel
theorem tf_first : tz13.set 0 1 = tf13 (1 * 13) := by decide +kernel
theorem counts_info : (Tryz.prog.info? 122).map (fun i => (i.zero, i.size)) = some (some (.agg (iCells tz13)), 117) := by kernel_rfl
theorem counts_zero (w : World) : (zeroValue 122).run Tryz.prog w = .ok (.agg (iCells tz13)) w := (zero_of_info counts_info).1 w
theorem counts_size (l : List Int) (h : l.length = 117) : (Tryz.prog.info? 122).map (·.size) = some (iCells l).size := by
  rw [iCells_size, h]; kernel_rfl
def th13 (n k : Int) : Bool := decide (0 ≤ n ∧ n ≤ 8 ∧ 0 ≤ k ∧ k ≤ 12)
theorem there_any (n k : Int) (w : World) :
    Calls Tryz.prog 83 #[.int .i64 n, .int .i64 k] w fun e w' => e = .returned (.bool (th13 n k)) ∧ w' = w := by
  have HT : Hid (th13 n k = decide (0 ≤ n ∧ n ≤ 8 ∧ 0 ≤ k ∧ k ≤ 12)) := rfl
  by_cases h1 : 0 ≤ n <;> by_cases h2 : n ≤ 8 <;> by_cases h3 : 0 ≤ k <;> by_cases h4 : k ≤ 12
  all_goals try (exfalso; omega)
  all_goals first
    | (have hd : decide (0 ≤ n ∧ n ≤ 8 ∧ 0 ≤ k ∧ k ≤ 12) = true := decide_eq_true (by omega); rw [hd] at HT)
    | (have hd : decide (0 ≤ n ∧ n ≤ 8 ∧ 0 ≤ k ∧ k ≤ 12) = false := decide_eq_false (by omega); rw [hd] at HT)
  all_goals
    go_enter Tryz.func83, Tryz.ntmps83
    go_wp2
    go_ret
    exact ⟨by rw [HT.out]; rfl, rfl⟩
end Go.Proofs.YtalbcimnnihmnaaGreat
