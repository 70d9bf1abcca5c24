/-
  A text made a slice of bytes of its own ('[]byte(s)'), its bytes changed, the slice made a text again. No conditions but those that each fact names.
-/
import Derived.Test.YtoohahjmiljpgaaQS8
import Derived.Laws.IdiomStrings
namespace Go.Proofs.Ytoohahjmiljpgaa
open Go.RowKit
open M
/-- Bytes as they lie in a block (which may have more behind them). -/
structure Bt (w : World) (g : Nat) (l : List UInt8) : Prop where
  lt : g < w.heap.size
  at' : ∀ i, i < l.length → w.cell? ⟨g, i, none⟩ = some (.int .u8 (ub (l.getD i 0)))
  free : ∀ i, i < l.length → w.frozen? ⟨g, i, none⟩ = false
theorem Bt.below {B : Nat} {w w' : World} {g : Nat} {l : List UInt8} (h : Bt w g l) (hb : Below B w w') (hg : g < B) (hs : w.heap.size ≤ w'.heap.size) : Bt w' g l :=
  ⟨Nat.lt_of_lt_of_le h.lt hs, fun i hi => (hb.cell (p := ⟨g, i, none⟩) hg).trans (h.at' i hi), fun i hi => (hb.frozen (p := ⟨g, i, none⟩) hg).trans (h.free i hi)⟩
theorem Bt.keep {w w' : World} {g : Nat} {l : List UInt8} (h : Bt w g l) (hb : Below w.heap.size w w') : Bt w' g l := h.below hb h.lt hb.size
theorem Bt.drew {w : World} {g : Nat} {l : List UInt8} (h : Bt w g l) : Bt w.drew g l := ⟨h.lt, h.at', h.free⟩
theorem setCell_size (w : World) (a : Addr) (v : Value) : (w.setCell a v).heap.size = w.heap.size := by simp [World.setCell]
theorem Bt.set {w : World} {g : Nat} {l : List UInt8} (h : Bt w g l) (i : Nat) (b : UInt8) (hi : i < l.length) : Bt (w.setCell ⟨g, i, none⟩ (.int .u8 (ub b))) g (l.set i b) := by
  refine ⟨by rw [setCell_size]; exact h.lt, fun j hj => ?_, fun j hj => ?_⟩
  · rw [List.length_set] at hj
    rw [List.getD_eq_getElem?_getD, List.getElem?_set]
    by_cases e : i = j
    · subst e
      rw [if_pos rfl, if_pos hi]
      exact World.cell?_setCell_same _ _ _ (h.at' i hi)
    · rw [if_neg e, World.cell?_setCell_other _ _ _ _ (by intro hh; injection hh with _ h2 _; exact e h2), h.at' j hj, List.getD_eq_getElem?_getD]
  · rw [World.frozen?_setCell]
    exact h.free j (by rwa [List.length_set] at hj)
theorem Bt.far {w : World} {g : Nat} {l : List UInt8} (h : Bt w g l) (a : Addr) (v : Value) (hne : a.block ≠ g) : Bt (w.setCell a v) g l :=
  ⟨by rw [setCell_size]; exact h.lt, fun j hj => by rw [World.cell?_setCell_other _ _ _ _ (by intro hh; exact hne (by rw [hh]))]; exact h.at' j hj, fun j hj => by rw [World.frozen?_setCell]; exact h.free j hj⟩
/-- How many bytes a new slice has room for, and the world behind it. -/
def capB (w : World) (s : ByteArray) : Nat := grownCap w s.size 0 5
def newB (w : World) (s : ByteArray) : World :=
  w.drew.alloc (.cells (bytesRow s (capB w s)) 5 ((bytesRow s (capB w s)).size, (bytesRow s (capB w s)).size + 1))
theorem conv_new (w : World) (s : ByteArray) : (convert 9 44 (.string s)).run Try.prog w = .ok (.slice (some ⟨w.heap.size, 0, none⟩) s.size (capB w s)) (newB w s) :=
  run_bytes_of_string w 9 44 5 s Try.underlying9 Try.underlying44 Try.underlying5
theorem newB_size (w : World) (s : ByteArray) : (newB w s).heap.size = w.heap.size + 1 := by
  show (w.heap.push _).size = _
  simp
theorem newB_below (w : World) (s : ByteArray) : Below w.heap.size w (newB w s) :=
  (below_drew1 (Below.refl _ _)).alloc (Nat.le_refl _) _
theorem newB_at (w : World) (s : ByteArray) : Bt (newB w s) w.heap.size (bl s) := by
  have hn : (newB w s).heap[w.heap.size]? = some (.cells (bytesRow s (capB w s)) 5 ((bytesRow s (capB w s)).size, (bytesRow s (capB w s)).size + 1)) := by
    show (w.heap.push _)[w.heap.size]? = _
    simp
  have hl : (bl s).length = s.size := bl_length s
  refine ⟨by rw [newB_size]; omega, fun i hi => ?_, fun i hi => ?_⟩
  · rw [cell_of_row _ _ _ _ _ _ hn]
    unfold bytesRow
    rw [Array.getElem?_append_left (by rw [Array.size_map]; exact hi), Array.getElem?_map, List.getD_eq_getElem?_getD]
    have : s.data[i]? = (bl s)[i]? := by unfold bl; rw [Array.getElem?_toList]
    rw [this, List.getElem?_eq_getElem hi]
    rfl
  · have hsz : i < (bytesRow s (capB w s)).size := by
      unfold bytesRow
      rw [Array.size_append, Array.size_map]
      have : i < s.data.size := hi
      omega
    unfold World.frozen?
    rw [hn]
    simp
    omega
theorem conv_back (w : World) (g n cap : Nat) (l : List UInt8) (hn : l.length = n) (h : Bt w g l) :
    (convert 44 9 (.slice (some ⟨g, 0, none⟩) n cap)).run Try.prog w = .ok (.string (ofB l)) w :=
  run_conv w g 0 cap n l hn fun i hi => by
    rw [Nat.zero_add, h.at' i hi, List.getD_eq_getElem?_getD, List.getElem?_eq_getElem hi]
    rfl
theorem u8_xor_ub (a b : UInt8) : bits .xor .u8 (ub a) (ub b) = ub (a ^^^ b) := by
  unfold ub
  rw [UInt8.toNat_xor]
  exact u8_xor_nat _ _ a.toNat_lt b.toNat_lt
end Go.Proofs.Ytoohahjmiljpgaa
