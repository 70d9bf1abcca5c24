/-
  Contracts and plain facts that the laws share, part 2; each piece is headed by what it holds and its conditions.
-/
import Derived.Test.YtmfnjjkbfabonaaDoorQ01
import Derived.Test.YtmfnjjkbfabonaaDoorChecked
import Derived.Handy
import Derived.WalkLawsBesides
import Derived.WalkSpells
import Derived.Outline
import Derived.IntWalk
import Derived.Lib.Hide
import Derived.Deep.QuietTactic
import Derived.BigQuiet
import Derived.RegionTactic
import Derived.Deep.OwnRows
import Derived.Deep.AppendLies
import Derived.Lib.QuietBelow
import Derived.Test.YtmfnjjkbfabonaaDoorRows
import Derived.ProofKit
import Derived.OpenShut
import Derived.WideKeyArgs
import Derived.ChangeSlices

/- What the walks of layer 3 share: facts on blocks, on rows that were appended to, on bytes, on texts made of bytes; no function of the program is named here. No conditions. -/
namespace Go.Proofs.YtmfnjjkbfabonaaDoor
open Go.RowKit
open M

theorem ret_eq {k : IntKind} {a b : Int} (h : a = b) : Ending.returned (.int k a) = .returned (.int k b) := by rw [h]
/-- Only block g has turned, and no block is new. -/
structure Only (g : Nat) (w w' : World) : Prop where
  os : w'.os = w.os
  tape : w'.tape = w.tape
  output : w'.output = w.output
  size : w'.heap.size = w.heap.size
  block : ∀ k, k ≠ g → w'.heap[k]? = w.heap[k]?
theorem Only.refl (g : Nat) (w : World) : Only g w w := ⟨rfl, rfl, rfl, rfl, fun _ _ => rfl⟩
theorem Only.trans {g : Nat} {a b c : World} (h : Only g a b) (k : Only g b c) : Only g a c :=
  ⟨k.os.trans h.os, k.tape.trans h.tape, k.output.trans h.output, k.size.trans h.size, fun i hi => (k.block i hi).trans (h.block i hi)⟩
theorem Only.setCell {g : Nat} {a w : World} (h : Only g a w) (i : Nat) (m : Option Nat) (u : Value) : Only g a (w.setCell ⟨g, i, m⟩ u) :=
  h.trans ⟨rfl, rfl, rfl, by simp [World.setCell], fun k hk => Below.heap_setCell _ _ _ _ hk⟩
theorem Only.drew {g : Nat} {a w : World} (h : Only g a w) : Only g a w.drew := ⟨h.os, h.tape, h.output, h.size, h.block⟩
theorem Only.drewN {g : Nat} {a w : World} (h : Only g a w) (n : Nat) : Only g a (w.drewN n) := ⟨h.os, h.tape, h.output, h.size, h.block⟩
theorem Only.below {g : Nat} {w w' : World} (h : Only g w w') {B : Nat} (hB : B ≤ g) : Below B w w' := ⟨h.os, h.tape, h.output, by have := h.size; omega, fun k hk => h.block k (by omega)⟩
/-- Block g is just these cells. -/
def Row (w : World) (g : Nat) (t : TypeId) (cs : Array Value) : Prop := w.heap[g]? = some (.cells cs t (0, 0))
theorem Row.set {w : World} {g : Nat} {t : TypeId} {cs : Array Value} (h : Row w g t cs) (i : Nat) (u : Value) : Row (w.setCell ⟨g, i, none⟩ u) g t (cs.setIfInBounds i u) :=
  heap_setCell_same w g i cs t u h
theorem Row.drewN {w : World} {g : Nat} {t : TypeId} {cs : Array Value} (h : Row w g t cs) (n : Nat) : Row (w.drewN n) g t cs := h
theorem Row.free {w : World} {g : Nat} {t : TypeId} {cs : Array Value} (h : Row w g t cs) (j : Nat) : w.frozen? ⟨g, j, none⟩ = false := frozen_of_row _ _ _ _ _ h
def byteCells (k : List UInt8) : Array Value := (k.map fun b => Value.int .u8 (b.toNat : Int)).toArray
theorem byteCells_get (k : List UInt8) (i : Nat) (h : i < k.length) : (byteCells k)[i]? = some (.int .u8 (k[i].toNat : Int)) := by
  simp [byteCells, h]
theorem strOfNums_ofB (l : List UInt8) : strOfNums (l.map fun b => (b.toNat : Int)) = ofB l := by
  have h : (l.map fun b => (b.toNat : Int)).map (fun n : Int => UInt8.ofNat n.toNat) = l := by
    rw [List.map_map]
    have : ((fun n : Int => UInt8.ofNat n.toNat) ∘ fun b : UInt8 => (b.toNat : Int)) = id := by
      funext b; simp
    rw [this, List.map_id]
  unfold strOfNums ofB
  rw [h]
theorem run_conv (w : World) (g off cap n : Nat) (l : List UInt8) (hn : l.length = n) (h : ∀ i (hi : i < l.length), w.cell? ⟨g, off + i, none⟩ = some (.int .u8 (l[i].toNat : Int))) :
    (convert 24 9 (.slice (some ⟨g, off, none⟩) n cap)).run Tryd.prog w = .ok (.string (ofB l)) w := by
  have := run_convert_bytes_arg (P := Tryd.prog) w 24 5 Tryd.underlying24 Tryd.underlying5 g off n cap (l.map fun b => (b.toNat : Int)) (by simpa using hn)
    (fun i hi => by
      have hi' : i < l.length := by omega
      rw [h i hi']
      simp [hi']) 9 Tryd.underlying9
  rw [this]
  rw [strOfNums_ofB]
theorem byte_info : (Tryd.prog.info? 5).map (fun i => (i.zero, i.size, i.bytes)) = some (some (.int .u8 0), 1, 1) := by kernel_rfl
theorem own_ne {w : World} {base n size : Nat} {e : TypeId} {v : Value} {xs : List Value} (h : w.ownsRow base e size v n xs) (g : Nat) (hg : g < base) : some g ≠ v.ownBlock := by
  rcases h.2 with ⟨rfl, _⟩ | ⟨g', cap, cur, rfl, hb, _⟩
  · simp [Value.ownBlock]
  · simp [Value.ownBlock]; omega
theorem own_ge {w : World} {base n size : Nat} {e : TypeId} {v : Value} {xs : List Value} (h : w.ownsRow base e size v n xs) (g : Nat) (hg : v.ownBlock = some g) : base ≤ g := by
  rcases h.2 with ⟨rfl, _⟩ | ⟨g', cap, cur, rfl, hb, _⟩
  · simp [Value.ownBlock] at hg
  · simp [Value.ownBlock] at hg; omega
theorem Row.grown {w w' : World} {g : Nat} {t : TypeId} {cs : Array Value} {row : Option Nat} (h : Row w g t cs) (hg : w.grownBy w' row) (hlt : g < w.heap.size) (hne : some g ≠ row) : Row w' g t cs :=
  (hg.block g hlt hne).trans h
theorem Row.lt {w : World} {g : Nat} {t : TypeId} {cs : Array Value} (h : Row w g t cs) : g < w.heap.size := by
  rcases Nat.lt_or_ge g w.heap.size with h1 | h1
  · exact h1
  · unfold Row at h; rw [Array.getElem?_eq_none h1] at h; cases h
theorem Row.alloc {w : World} {g : Nat} {t : TypeId} {cs : Array Value} (h : Row w g t cs) (o : Obj) : Row (w.alloc o) g t cs := (Below.heap_alloc w o g h.lt).trans h
theorem Row.below {B : Nat} {w w' : World} {g : Nat} {t : TypeId} {cs : Array Value} (h : Row w g t cs) (hb : Below B w w') (hg : g < B) : Row w' g t cs := (hb.block g hg).trans h
theorem Row.far {w : World} {g : Nat} {t : TypeId} {cs : Array Value} (h : Row w g t cs) {p : Addr} (hp : g ≠ p.block) (u : Value) : Row (w.setCell p u) g t cs := (Below.heap_setCell w p u g hp).trans h
theorem Row.setRow {w : World} {g : Nat} {t : TypeId} {cs : Array Value} (h : Row w g t cs) (ds : Array Value) : Row (w.setRow g ds) g t ds := setRow_heap w g cs ds t _ h
theorem below_setRow {B g : Nat} {w0 w : World} (hb : Below B w0 w) (hg : B ≤ g) (cs : Array Value) : Below B w0 (w.setRow g cs) :=
  hb.trans ⟨rfl, rfl, rfl, by simp, fun k hk => setRow_other w g k cs (by omega)⟩
theorem one_new (w : World) (g : Nat) (hg : w.heap.size = g) (x : Value) (t : TypeId) : ∀ (j : Nat) (u : Value), [x][j]? = some u → (w.alloc (.cells #[x] t)).cell? ((⟨g, 0, none⟩ : Addr).add j) = some u := by
  subst hg; exact cell_one_new _ _ _
theorem one_cell {k : IntKind} {n : Int} : ∀ u ∈ [Value.int k n], u.oneCell' = true := by
  intro u hu; simp at hu; subst hu; rfl
theorem byteCells_one (k : List UInt8) : (byteCells k).all (·.oneCell') = true := by
  simp [byteCells, Value.oneCell']
theorem byteCells_size (k : List UInt8) : (byteCells k).size = k.length := by simp [byteCells]
theorem Below.drewN {B : Nat} {a w : World} (h : Below B a w) (n : Nat) : Below B a (w.drewN n) := ⟨h.os, h.tape, h.output, h.size, h.block⟩
theorem toList_bl (s : ByteArray) : s.toList = bl s := ByteArray.toList_eq s
theorem bl_inj {s t : ByteArray} (h : bl s = bl t) : s = t := by rw [← ofB_bl s, h, ofB_bl]
theorem row_new (w : World) (g : Nat) (hg : w.heap.size = g) (cs : Array Value) (t : TypeId) : Row (w.alloc (.cells cs t)) g t cs := by
  subst hg; exact heap_alloc_new _ _
theorem below_rules {W w1 : World} (hb : Below W.heap.size W w1) : (∀ b o, b < W.heap.size → w1.cell? ⟨b, o, none⟩ = W.cell? ⟨b, o, none⟩) ∧ (∀ b o, b < W.heap.size → w1.frozen? ⟨b, o, none⟩ = W.frozen? ⟨b, o, none⟩) :=
  ⟨fun b o h => hb.cell (p := ⟨b, o, none⟩) h, fun b o h => hb.frozen (p := ⟨b, o, none⟩) h⟩
theorem own_cells {w : World} {base n : Nat} {e : TypeId} {v : Value} {xs : List Value} (h : w.ownsRow base e 1 v n xs) (hn : 0 < n) :
    ∃ g cap, v = .slice (some ⟨g, 0, none⟩) n cap ∧ base ≤ g ∧ g < w.heap.size ∧ ∀ i, i < n → w.cell? ⟨g, i, none⟩ = xs[i]? := by
  rcases h.2 with ⟨_, h0⟩ | ⟨g, cap, cur, hv, hb, hg, _, _, hsz, htk⟩
  · omega
  · refine ⟨g, cap, hv, hb, Row.lt hg, fun i hi => ?_⟩
    rw [cell_of_row _ _ _ _ _ _ hg, ← htk, List.getElem?_take, if_pos (by omega), Array.getElem?_toList]
theorem gb_trans {a b c : World} {row : Option Nat} (h : a.grownBy b row) (k : b.grownBy c row) : a.grownBy c row :=
  ⟨k.os.trans h.os, k.tape.trans h.tape, k.output.trans h.output, Nat.le_trans h.size k.size, fun i hi hn => (k.block i (Nat.lt_of_lt_of_le hi h.size) hn).trans (h.block i hi hn)⟩
theorem gb_below {a b c : World} {row : Option Nat} (h : a.grownBy b row) (k : Below b.heap.size b c) : a.grownBy c row :=
  ⟨k.os.trans h.os, k.tape.trans h.tape, k.output.trans h.output, Nat.le_trans h.size k.size, fun i hi hn => (k.block i (Nat.lt_of_lt_of_le hi h.size)).trans (h.block i hi hn)⟩
theorem gb_only {a b c : World} {g : Nat} (h : a.grownBy b (some g)) (k : Only g b c) : a.grownBy c (some g) :=
  ⟨k.os.trans h.os, k.tape.trans h.tape, k.output.trans h.output, by have := h.size; have := k.size; omega, fun i hi hn => (k.block i (fun e => hn (by rw [e]))).trans (h.block i hi hn)⟩
theorem gb_cell {a b : World} {g : Nat} (h : a.grownBy b (some g)) {p : Addr} (hp : p.block < a.heap.size) (hn : p.block ≠ g) : b.cell? p = a.cell? p :=
  World.cell?_of_block (h.block p.block hp (fun e => hn (by injection e)))
/-- A byte as the model's number. -/
def ub (x : UInt8) : Int := (x.toNat : Int)
theorem ub_bd (x : UInt8) : 0 ≤ ub x ∧ ub x < 256 := by
  have := x.toNat_lt
  unfold ub; omega
theorem bl_append (s t : ByteArray) : bl (s ++ t) = bl s ++ bl t := by simp [bl]
theorem byte_of_wf {n : Int} (h : (Lit.int .u8 n).wf = true) : ∃ x, n = ub x := by
  have := Go.bounds_u8 h
  refine ⟨UInt8.ofNat n.toNat, ?_⟩
  unfold ub
  rw [UInt8.toNat_ofNat_of_lt' (by show n.toNat < 256; omega)]
  omega
theorem word_of_wf {n : Int} (h : (Lit.int .u64 n).wf = true) : ∃ x, n = un x := by
  have := Go.bounds_u64 h
  exact ⟨_, un_of n this.1 (by omega)⟩
/-- A list of numbers, as it lies. -/
def natCells (l : List Nat) : Array Value := (l.map fun x : Nat => Value.int .i64 (x : Int)).toArray
theorem natCells_size (l : List Nat) : (natCells l).size = l.length := by simp [natCells]
theorem natCells_get (l : List Nat) (i : Nat) (h : i < l.length) : (natCells l)[i]? = some (.int .i64 (l.getD i 0 : Nat)) := by
  simp [natCells, h]
theorem natCells_set (l : List Nat) (i x : Nat) : (natCells l).setIfInBounds i (.int .i64 (x : Int)) = natCells (l.set i x) := by
  simp [natCells, List.map_set]
theorem int_info : (Tryd.prog.info? 3).map (fun i => (i.zero, i.size, i.bytes)) = some (some (.int .i64 0), 1, 8) := by kernel_rfl
theorem below_drew1 {B : Nat} {a w : World} (h : Below B a w) : Below B a w.drew := ⟨h.os, h.tape, h.output, h.size, h.block⟩
theorem Row.box {w w1 : World} {g : Nat} {t : TypeId} {cs : Array Value} (h : Row w g t cs) (hb : Below w.heap.size w w1) : Row w1 g t cs := h.below hb h.lt
end Go.Proofs.YtmfnjjkbfabonaaDoor

/- Plain facts of layer 7: a payload's bytes, its check, its number. No program is named here. No conditions but those that each fact names. -/
namespace Go.Proofs.YtmfnjjkbfabonaaDoor
open Go.RowKit
open M

/-- A payload's byte. -/
def pb (p i : Nat) : UInt8 := UInt8.ofNat (p / 2 ^ (8 * i) % 256)
theorem pb_nat (p i : Nat) : (pb p i).toNat = p / 2 ^ (8 * i) % 256 := by
  unfold pb
  rw [UInt8.toNat_ofNat']
  exact Nat.mod_eq_of_lt (Nat.mod_lt _ (by decide))
/-- A payload's bytes, the lowest first. -/
def payB (p : Nat) : List UInt8 := [pb p 0, pb p 1, pb p 2, pb p 3, pb p 4, pb p 5]
theorem payB_length (p : Nat) : (payB p).length = 6 := rfl
def payU (p j : Nat) : List UInt8 := (payB p).take j ++ List.replicate (6 - j) 0
theorem payU_length (p j : Nat) (h : j ≤ 6) : (payU p j).length = 6 := by
  unfold payU
  rw [List.length_append, List.length_take, List.length_replicate, payB_length]; omega
theorem cases6 {q : Nat → Prop} (h0 : q 0) (h1 : q 1) (h2 : q 2) (h3 : q 3) (h4 : q 4) (h5 : q 5) (i : Nat) (hi : i < 6) : q i := by
  match i, hi with
  | 0, _ => exact h0
  | 1, _ => exact h1
  | 2, _ => exact h2
  | 3, _ => exact h3
  | 4, _ => exact h4
  | 5, _ => exact h5
  | n + 6, h => omega
theorem payU_set (p i : Nat) (hi : i < 6) : (byteCells (payU p i)).setIfInBounds i (.int .u8 ((pb p i).toNat : Int)) = byteCells (payU p (i + 1)) := by
  refine cases6 (q := fun i => (byteCells (payU p i)).setIfInBounds i (.int .u8 ((pb p i).toNat : Int)) = byteCells (payU p (i + 1))) ?_ ?_ ?_ ?_ ?_ ?_ i hi <;> rfl
theorem payU_done (p : Nat) : payU p 6 = payB p := rfl
theorem payU_zero (p : Nat) : madeCells #[.int .u8 0] 6 = byteCells (payU p 0) := by
  have h : ∀ i, i < 6 → (madeCells #[.int .u8 0] 6)[i]? = (byteCells (payU p 0))[i]? := by
    intro i hi
    have hm : i < (madeCells #[Value.int .u8 0] 6).size := by rw [size_madeCells]; exact hi
    have e : (byteCells (payU p 0))[i]? = some (.int .u8 0) := by
      refine cases6 (q := fun i => (byteCells (payU p 0))[i]? = some (.int .u8 0)) ?_ ?_ ?_ ?_ ?_ ?_ i hi <;> rfl
    rw [e, Array.getElem?_eq_getElem hm]
    simp [madeCells, Nat.mod_one]
  apply Array.ext_getElem?
  intro i
  rcases Nat.lt_or_ge i 6 with hi | hi
  · exact h i hi
  · rw [Array.getElem?_eq_none (by rw [size_madeCells]; exact hi), Array.getElem?_eq_none (by rw [byteCells_size, payU_length p 0 (by omega)]; exact hi)]
/-- The text as far as the reference's loop has come. -/
def payP (p j : Nat) : List UInt8 := (payB p).take j
theorem payP_succ (p j : Nat) (h : j < 6) : ofB (payP p j) ++ ofB [pb p j] = ofB (payP p (j + 1)) := by
  have e : ∀ a b : List UInt8, ofB a ++ ofB b = ofB (a ++ b) := fun a b => bl_inj (by rw [bl_append]; rfl)
  rw [e]
  refine cases6 (q := fun j => ofB (payP p j ++ [pb p j]) = ofB (payP p (j + 1))) ?_ ?_ ?_ ?_ ?_ ?_ j h <;> rfl
theorem payP_done (p : Nat) : payP p 6 = payB p := rfl
theorem payP_zero (p : Nat) : ofB (payP p 0) = ByteArray.empty := rfl
theorem payP_length (p j : Nat) : (payP p j).length ≤ 6 := by unfold payP; rw [List.length_take, payB_length]; omega
theorem pb_shr (p i : Nat) : IntKind.u8.wrap ((p : Int) / 2 ^ (8 * i)) = ub (pb p i) := by
  rw [div_pow, IntKind.wrap_u8']
  unfold ub
  rw [pb_nat]; omega
/-- What is left of a payload behind so many bytes. -/
def pq (p j : Nat) : Nat := p / 2 ^ (8 * j)
theorem pq_zero (p : Nat) : pq p 0 = p := by unfold pq; simp
theorem pq_rest (p j : Nat) : pq p j % 256 = (pb p j).toNat := by rw [pb_nat]; rfl
theorem pq_quo (p j : Nat) : pq p j / 256 = pq p (j + 1) := by
  unfold pq
  rw [show 8 * (j + 1) = 8 * j + 8 by omega, Nat.pow_add, ← Nat.div_div_eq_div_mul]
theorem pq_le (p j : Nat) : pq p j ≤ p := Nat.div_le_self _ _

/-- A payload's check, and its number. -/
def chk (k : List UInt8) (p : Nat) : Nat := (sum k (payB p)).toNat % 65536
theorem chk_lt (k : List UInt8) (p : Nat) : chk k p < 65536 := Nat.mod_lt _ (by decide)
def num7 (k : List UInt8) (p : Nat) : BitVec 64 := BitVec.ofNat 64 (p + 281474976710656 * chk k p)
theorem num7_nat (k : List UInt8) (p : Nat) (h : p < 281474976710656) : (num7 k p).toNat = p + 281474976710656 * chk k p := by
  have := chk_lt k p
  unfold num7
  rw [BitVec.toNat_ofNat]; omega
theorem un_num7 (k : List UInt8) (p : Nat) (h : p < 281474976710656) : un (num7 k p) = (p : Int) + 281474976710656 * (chk k p : Int) := by
  unfold un; rw [num7_nat k p h]; omega
theorem num7_split (k : List UInt8) (p : Nat) (h : p < 281474976710656) : (num7 k p).toNat % 281474976710656 = p ∧ (num7 k p).toNat / 281474976710656 = chk k p := by
  rw [num7_nat k p h]; omega
theorem num7_inj (k k' : List UInt8) (p q : Nat) (hp : p < 281474976710656) (hq : q < 281474976710656) (h : num7 k p = num7 k' q) : p = q ∧ chk k p = chk k' q := by
  have h1 := num7_split k p hp
  have h2 := num7_split k' q hq
  rw [h] at h1
  omega
/-- A number is its payload's just where its upper part is the check. -/
theorem num7_one (k : List UInt8) (x : BitVec 64) : num7 k (x.toNat % 281474976710656) = x ↔ x.toNat / 281474976710656 = chk k (x.toNat % 281474976710656) := by
  have h1 := num7_nat k (x.toNat % 281474976710656) (Nat.mod_lt _ (by decide))
  constructor
  · intro h
    rw [h] at h1
    omega
  · intro h
    apply BitVec.eq_of_toNat_eq
    rw [h1, ← h]; omega
theorem and_mask (x : BitVec 64) : bits .and .u64 (un x) 65535 = ((x.toNat % 65536 : Nat) : Int) := by
  unfold un
  rw [show (65535 : Int) = ((65535 : Nat) : Int) from rfl, u64_and_nat _ _ x.isLt (by decide)]
  exact congrArg _ (Nat.and_two_pow_sub_one_eq_mod x.toNat 16)
theorem or_num7 (k : List UInt8) (p : Nat) (h : p < 281474976710656) : bits .or .u64 (p : Int) ((281474976710656 * chk k p : Nat) : Int) = un (num7 k p) := by
  have h1 := chk_lt k p
  rw [u64_or_nat _ _ (by omega) (by omega), un_num7 k p h, Nat.or_comm]
  have := Nat.two_pow_add_eq_or_of_lt (i := 48) (b := p) (by omega) (chk k p)
  rw [show (2 : Nat) ^ 48 = 281474976710656 from rfl] at this
  rw [← this]; omega
/-- What Read answers. -/
def rdv (k : List UInt8) (x : BitVec 64) : Int := if num7 k (x.toNat % 281474976710656) = x then ((x.toNat % 281474976710656 : Nat) : Int) else 0
def rde (k : List UInt8) (x : BitVec 64) : Int := if num7 k (x.toNat % 281474976710656) = x then 0 else 6
theorem rd_yes (k : List UInt8) (x : BitVec 64) (h : x.toNat / 281474976710656 = chk k (x.toNat % 281474976710656)) : rdv k x = ((x.toNat % 281474976710656 : Nat) : Int) ∧ rde k x = 0 := by
  have := (num7_one k x).2 h
  unfold rdv rde
  rw [if_pos this, if_pos this]
  exact ⟨rfl, rfl⟩
theorem rd_no (k : List UInt8) (x : BitVec 64) (h : ¬ x.toNat / 281474976710656 = chk k (x.toNat % 281474976710656)) : rdv k x = 0 ∧ rde k x = 6 := by
  have h2 : ¬ num7 k (x.toNat % 281474976710656) = x := fun e => h ((num7_one k x).1 e)
  unfold rdv rde
  rw [if_neg h2, if_neg h2]
  exact ⟨rfl, rfl⟩
theorem rd_num7 (k : List UInt8) (p : Nat) (h : p < 281474976710656) : rdv k (num7 k p) = p ∧ rde k (num7 k p) = 0 := by
  have h1 := (num7_split k p h).1
  unfold rdv rde
  rw [h1, if_pos rfl, if_pos rfl]
  exact ⟨rfl, rfl⟩
theorem rd_cases (k : List UInt8) (x : BitVec 64) : (rde k x = 0 ∧ ∃ p : Nat, p < 281474976710656 ∧ rdv k x = p ∧ num7 k p = x) ∨ (rde k x = 6 ∧ rdv k x = 0 ∧ num7 k (x.toNat % 281474976710656) ≠ x) := by
  by_cases h : num7 k (x.toNat % 281474976710656) = x
  · left
    unfold rde rdv
    rw [if_pos h, if_pos h]
    exact ⟨rfl, _, Nat.mod_lt _ (by decide), rfl, h⟩
  · right
    unfold rde rdv
    rw [if_neg h, if_neg h]
    exact ⟨rfl, rfl, h⟩
end Go.Proofs.YtmfnjjkbfabonaaDoor

/- The contracts of layer 1's functions that only compute: a turn, the reference's turn, a count, a join, a word. Conditions: texts are no longer than maxLen. -/
namespace Go.Proofs.YtmfnjjkbfabonaaDoor
open Go.RowKit
open M

attribute [local go_sem] un_add un_sub un_xor un_or un_nonneg un_beq un_bne top_def

theorem and63 (n : Int) : bits BinOp.and IntKind.u64 (IntKind.u64.wrap n) 63 = (((n % 64).toNat : Nat) : Int) := by
  rw [IntKind.wrap_u64, u64_and _ _ (by omega) (by omega) (by omega) (by omega), show (63 : Int).toNat = 63 from rfl, nat_mask6]
  omega

theorem rotl (x : BitVec 64) (n : Int) (w : World) :
    Calls Tryd.prog 75 #[.int .u64 (un x), .int .i64 n] w fun e w' => e = .returned (.int .u64 (un (rot x n))) ∧ w = w' := by
  have ha := and63 n
  obtain ⟨k, hk, hk'⟩ : ∃ k : Nat, k < 64 ∧ (n % 64).toNat = k := ⟨_, by omega, rfl⟩
  rw [hk'] at ha
  have H : Hid (rot x n = x.rotateLeft k) := by unfold rot; rw [hk']; rfl
  have HS := Lib.hid (rot_shifts x k hk)
  clear hk'
  go_enter Tryd.func75, Tryd.ntmps75
  go_wp2
  go_ret
  exact ⟨ret_eq (by rw [H.out, ← HS.out]), rfl⟩

theorem turn_any (x : BitVec 64) (n : Int) (w : World) :
    Calls Tryd.prog 65 #[.int .u64 (un x), .int .i64 n] w fun e w' => e = .returned (.int .u64 (un (rot x n))) ∧ w = w' := by
  go_enter Tryd.func65, Tryd.ntmps65
  go_wp2_with (go_at_call 75; refine (rotl _ _ _).mono ?_; rintro e w' ⟨rfl, rfl⟩)
  go_ret
  exact ⟨rfl, rfl⟩

theorem scount_any (s : ByteArray) (w : World) (hs : s.size ≤ maxLen) :
    Calls Tryd.prog 44 #[.string s] w fun e w' => e = .returned (.int .i64 ((s.size / 8 + 1 : Nat) : Int)) ∧ w = w' := by
  unfold maxLen at hs
  go_enter Tryd.func44, Tryd.ntmps44
  go_wp2
  go_ret
  exact ⟨ret_eq (by omega), rfl⟩

theorem left_any (x : BitVec 64) (n : Nat) (w : World) (hn : n ≤ 64) :
    Calls Tryd.prog 60 #[.int .u64 (un x), .int .i64 n] w fun e w' => e = .returned (.int .u64 (un (rot x n))) ∧ w = w' := by
  have HR := Lib.hid (lefts_rot n x)
  go_enter Tryd.func60, Tryd.ntmps60
  go_wp2
  go_loop [0, 5] (fun v i => ∃ k : Nat, k ≤ n ∧ i = .int .i64 k ∧ v = .int .u64 (un (lefts k x))) (fun _ i => n - (intOf i).toNat)
  case atStart => exact ⟨0, Nat.zero_le _, rfl, rfl⟩
  case round =>
    obtain ⟨k, hk, rfl, rfl⟩ := hrel
    by_cases hlt : k < n
    · obtain ⟨y, hy⟩ : ∃ y, lefts k x = y := ⟨_, rfl⟩
      have HY : Hid (lefts (k + 1) x = dbl y) := by show dbl (lefts k x) = _; rw [hy]
      rw [hy]
      clear hy
      rcases ht : top y
      · have H1 := Lib.hid (dbl_not y ht)
        go_wp2
        go_round
        case rel => exact ⟨k + 1, by omega, by go_num, by rw [HY.out, H1.out]⟩
        case measure => simp [intOf]; omega
      · have H1 := Lib.hid (dbl_top y ht)
        go_wp2
        go_round
        case rel => exact ⟨k + 1, by omega, by go_num, by rw [HY.out, H1.out]⟩
        case measure => simp [intOf]; omega
    · go_wp2
      go_ret
      obtain rfl : k = n := by omega
      exact ⟨ret_eq (by rw [HR.out]), rfl⟩

theorem join_any (s : ByteArray) (w : World) (hs : s.size ≤ 8) :
    Calls Tryd.prog 64 #[.string s] w fun e w' => e = .returned (.int .u64 (un (word (bl s)))) ∧ w = w' := by
  go_enter Tryd.func64, Tryd.ntmps64
  go_wp2
  go_loop [3, 7] (fun v i => ∃ k : Nat, k ≤ s.size ∧ i = .int .i64 k ∧ v = .int .u64 (un (word ((bl s).take k)))) (fun _ i => s.size - (intOf i).toNat)
  case atStart => exact ⟨0, Nat.zero_le _, rfl, by rw [List.take_zero, un_word_nil]⟩
  case round =>
    obtain ⟨k, hk, rfl, rfl⟩ := hrel
    by_cases hlt : k < s.size
    · have HJ := Lib.hid (join_step' s k hlt (by omega))
      go_wp2
      go_round
      case rel => exact ⟨k + 1, by omega, by go_num, by rw [HJ.out]⟩
      case measure => simp [intOf]; omega
    · go_wp2
      go_ret
      exact ⟨ret_eq (by rw [List.take_of_length_le (by rw [bl_length]; omega)]), rfl⟩

theorem word_any (s : ByteArray) (p : Nat) (w : World) (hs : s.size ≤ maxLen) (hp : p ≤ maxLen - 16) :
    Calls Tryd.prog 37 #[.string s, .int .i64 p] w fun e w' => e = .returned (.int .u64 (un (tail8 s p 0))) ∧ w = w' := by
  unfold maxLen at hs hp
  go_enter Tryd.func37, Tryd.ntmps37
  go_wp2
  go_loop [5, 6] (fun v i => ∃ k : Nat, k ≤ 8 ∧ i = .int .i64 ((k : Int) - 1) ∧ v = .int .u64 (un (tail8 s p k))) (fun _ i => (intOf i + 1).toNat)
  case atStart => exact ⟨8, Nat.le_refl _, rfl, by rw [tail8_end]⟩
  case round =>
    obtain ⟨k, hk, rfl, rfl⟩ := hrel
    rcases k with _ | j
    · rw [show (((0 : Nat) : Int) - 1) = -1 from rfl]
      go_wp2
      go_ret
      exact ⟨rfl, rfl⟩
    · rw [show (((j + 1 : Nat) : Int) - 1) = (j : Int) by omega]
      by_cases hin : p + j < s.size
      · have HJ := Lib.hid (tail8_in s p j (by omega) hin)
        go_wp2
        go_round
        case rel => exact ⟨j, by omega, by go_num, by rw [HJ.out]⟩
        case measure => simp [intOf]
      · have HJ := Lib.hid (tail8_out s p j hin)
        go_wp2
        go_round
        case rel => exact ⟨j, by omega, by go_num, by rw [HJ.out]⟩
        case measure => simp [intOf]

theorem wordAt_any (s : ByteArray) (i : Nat) (w : World) (hs : s.size ≤ maxLen) (hi : i < s.size / 8 + 1) :
    Calls Tryd.prog 45 #[.string s, .int .i64 i] w fun e w' => e = .returned (.int .u64 (un (wordAt (bl s) i))) ∧ w = w' := by
  unfold maxLen at hs
  by_cases h8 : 8 * i + 8 ≤ s.size
  · have HW := Lib.hid (wordAt_in s i h8)
    go_enter Tryd.func45, Tryd.ntmps45
    go_wp2_with (go_at_call 64; refine (join_any _ _ (by simp; omega)).mono ?_; rintro e w' ⟨rfl, rfl⟩)
    go_ret
    exact ⟨ret_eq (by rw [← HW.out]), rfl⟩
  · have HW := Lib.hid (wordAt_last s i h8 (by omega))
    go_enter Tryd.func45, Tryd.ntmps45
    go_wp2_with (go_at_call 64; refine (join_any _ _ (by simp; omega)).mono ?_; rintro e w' ⟨rfl, rfl⟩)
    go_ret
    exact ⟨ret_eq (by rw [← HW.out]), rfl⟩
end Go.Proofs.YtmfnjjkbfabonaaDoor

/- The contracts of layer 1's rounds: the program's round over a pointer, repeat, Round, and the reference's. Conditions: the four words lie in one block. -/
namespace Go.Proofs.YtmfnjjkbfabonaaDoor
open Go.RowKit
open M

attribute [local go_sem] un_add un_sub un_xor un_or un_nonneg un_beq un_bne

def cells4 (v : V4) : Array Value := #[.int .u64 (un v.a), .int .u64 (un v.b), .int .u64 (un v.c), .int .u64 (un v.d)]

theorem Row.c0 {w : World} {g : Nat} {t : TypeId} {v : V4} (h : Row w g t (cells4 v)) : w.cell? ⟨g, 0, none⟩ = some (.int .u64 (un v.a)) := cell_of_row _ _ _ _ _ _ h
theorem Row.c1 {w : World} {g : Nat} {t : TypeId} {v : V4} (h : Row w g t (cells4 v)) : w.cell? ⟨g, 1, none⟩ = some (.int .u64 (un v.b)) := cell_of_row _ _ _ _ _ _ h
theorem Row.c2 {w : World} {g : Nat} {t : TypeId} {v : V4} (h : Row w g t (cells4 v)) : w.cell? ⟨g, 2, none⟩ = some (.int .u64 (un v.c)) := cell_of_row _ _ _ _ _ _ h
theorem Row.c3 {w : World} {g : Nat} {t : TypeId} {v : V4} (h : Row w g t (cells4 v)) : w.cell? ⟨g, 3, none⟩ = some (.int .u64 (un v.d)) := cell_of_row _ _ _ _ _ _ h
theorem round_any (g : Nat) (t : TypeId) (v : V4) (w : World) (h : Row w g t (cells4 v)) :
    Calls Tryd.prog 43 #[.pointer (some ⟨g, 0, none⟩)] w fun e w' => e = .returned (.tuple #[]) ∧ Only g w w' ∧ Row w' g t (cells4 v.round) := by
  have c0 : w.cell? ⟨g, 0, none⟩ = some (.int .u64 (un v.a)) := cell_of_row _ _ _ _ _ _ h
  have c1 : w.cell? ⟨g, 1, none⟩ = some (.int .u64 (un v.b)) := cell_of_row _ _ _ _ _ _ h
  have c2 : w.cell? ⟨g, 2, none⟩ = some (.int .u64 (un v.c)) := cell_of_row _ _ _ _ _ _ h
  have c3 : w.cell? ⟨g, 3, none⟩ = some (.int .u64 (un v.d)) := cell_of_row _ _ _ _ _ _ h
  have f0 : ∀ j, w.frozen? ⟨g, j, none⟩ = false := fun j => frozen_of_row _ _ _ _ _ h
  have H := Lib.hid h
  clear h
  go_enter Tryd.func43, Tryd.ntmps43
  go_wp2
  go_quiet (fail)
  go_wp2_with (go_at_call 65; refine (turn_any _ _ _).mono ?_; rintro e w' ⟨rfl, rfl⟩)
  go_end0
  exact ⟨rfl, (((((Only.refl g w).drewN nq).setCell 0 none _).setCell 1 none _).setCell 2 none _).setCell 3 none _,
    ((((H.out.drewN nq).set 0 _).set 1 _).set 2 _).set 3 _⟩

theorem repeat_any (n : Nat) (g : Nat) (t : TypeId) (v : V4) (w : World) (hn : n ≤ 100) (h : Row w g t (cells4 v)) :
    Calls Tryd.prog 46 #[.int .i64 n, .func (.func 43) #[.pointer (some ⟨g, 0, none⟩)] #[]] w fun e w' => e = .returned (.tuple #[]) ∧ Only g w w' ∧ Row w' g t (cells4 (rounds n v)) := by
  have H := Lib.hid h
  clear h
  go_enter Tryd.func46, Tryd.ntmps46
  go_wp2
  go_loopw [5] (fun i wr => ∃ k : Nat, k ≤ n ∧ i = .int .i64 k ∧ Only g w wr ∧ Row wr g t (cells4 (rounds k v))) (fun i _ => n - (intOf i).toNat)
  case atStart => exact ⟨0, Nat.zero_le _, rfl, Only.refl g w, H.out⟩
  case round =>
    obtain ⟨k, hk, rfl, ho, hr⟩ := hrel
    have HO := Lib.hid ho
    have HR := Lib.hid hr
    clear ho hr
    by_cases hlt : k < n
    · go_wp2_with (go_at_call 43; refine (round_any _ _ _ _ HR.out).mono ?_; rintro e w' ⟨rfl, ho, hr⟩)
      go_roundw
      case rel => exact ⟨k + 1, by omega, by go_num, HO.out.trans ho, hr⟩
      case measure => simp [intOf]; omega
    · obtain rfl : k = n := by omega
      go_wp2
      go_end0
      exact ⟨rfl, HO.out, HR.out⟩
end Go.Proofs.YtmfnjjkbfabonaaDoor

/- The contracts of begin and of Sum. -/
namespace Go.Proofs.YtmfnjjkbfabonaaDoor
open Go.RowKit
open M

attribute [local go_sem] un_add un_sub un_xor un_or un_nonneg un_beq un_bne un_xor_255

/-- The signs lie where the program's text lays them. -/
def Signs (w : World) : Prop := w.cell? ⟨0, 0, none⟩ = some (.int .u64 (un 8317987319222330741#64)) ∧ w.cell? ⟨0, 1, none⟩ = some (.int .u64 (un 7237128888997146477#64)) ∧
  w.cell? ⟨0, 2, none⟩ = some (.int .u64 (un 7816392313619706465#64)) ∧ w.cell? ⟨0, 3, none⟩ = some (.int .u64 (un 8387220255154660723#64))
theorem Signs.lt {w : World} (h : Signs w) : 0 < w.heap.size := block_lt_of_cell h.1
theorem Signs.below {B : Nat} {w w' : World} (h : Signs w) (hb : Below B w w') (hB : 0 < B) : Signs w' := by
  obtain ⟨h0, h1, h2, h3⟩ := h
  exact ⟨(hb.cell (p := ⟨_, 0, none⟩) hB).trans h0, (hb.cell (p := ⟨_, 1, none⟩) hB).trans h1, (hb.cell (p := ⟨_, 2, none⟩) hB).trans h2, (hb.cell (p := ⟨_, 3, none⟩) hB).trans h3⟩

theorem begin_any (k : List UInt8) (w : World) (hk : k.length = 16) (h : Signs w) :
    Calls Tryd.prog 42 #[.agg (byteCells k)] w fun e w' => e = .returned (.agg (cells4 (V4.start (word (k.take 8)) (word (k.drop 8))))) ∧ Below w.heap.size w w' := by
  have hlt := h.lt
  obtain ⟨s0, s1, s2, s3⟩ := h
  have hb : ∀ (o : Obj) i, i < 16 → ((w.alloc (.cells (byteCells k) 23)).alloc o).cell? ⟨w.heap.size, i, none⟩ = (byteCells k)[i]? := by
    intro o i hi
    exact cell_of_row _ _ _ _ _ _ (heap_alloc2_old _ _ _)
  have k1 := fun o => run_conv ((w.alloc (.cells (byteCells k) 23)).alloc o) w.heap.size 0 16 8 (k.take 8) (by simp; omega) (fun i hi => by
    rw [Nat.zero_add, hb o i (by simp at hi; omega), byteCells_get k i (by simp at hi; omega)]
    simp)
  have k2 := fun o => run_conv ((w.alloc (.cells (byteCells k) 23)).alloc o) w.heap.size 8 8 8 (k.drop 8) (by simp; omega) (fun i hi => by
    rw [hb o (8 + i) (by simp at hi; omega), byteCells_get k (8 + i) (by simp at hi; omega)]
    simp)
  clear hb
  go_enter Tryd.func42, Tryd.ntmps42
  go_wp2_with (go_at_call 64; refine (join_any _ _ (by rw [ofB_size]; simp; omega)).mono ?_; rintro e w' ⟨rfl, rfl⟩)
  refine bodyPost_ret (v := .agg (cells4 (V4.start (word (k.take 8)) (word (k.drop 8))))) (by simp [results, Tryd.results42, go_sem]; rfl) rfl ⟨rfl, ?_⟩
  exact ((Below.refl _ _).alloc (Nat.le_refl _) _).alloc (by simp) _

theorem key_size : (Tryd.prog.info? 23).map (·.size) = some 16 := by kernel_rfl
theorem key_info (k : List UInt8) (hk : k.length = 16) : (Tryd.prog.info? 23).map (·.size) = some (byteCells k).size := by
  rw [key_size]; simp [byteCells, hk]

attribute [local go_sem] cells4
set_option maxHeartbeats 400000 in
theorem sum_any (k : List UInt8) (s : ByteArray) (w : World) (hk : k.length = 16) (hs : s.size ≤ maxLen) (h : Signs w) :
    Calls Tryd.prog 27 #[.agg (byteCells k), .string s] w fun e w' => e = .returned (.int .u64 (un (sum k (bl s)))) ∧ Below w.heap.size w w' := by
  have hn : s.size / 8 + 1 ≤ 2000000000000000000 := by unfold maxLen at hs; omega
  have HG := Lib.hid (h.below ((Below.refl w.heap.size w).alloc (Nat.le_refl _) (.cells (byteCells k) 23)) h.lt)
  have HI := Lib.hid (key_info k hk)
  obtain ⟨v0, hv0⟩ : ∃ v, V4.start (word (k.take 8)) (word (k.drop 8)) = v := ⟨_, rfl⟩
  have HV := Lib.hid hv0
  clear h hv0
  go_enter Tryd.func27, Tryd.ntmps27
  go_wp2_with (first
    | (refine wpList_load_row rfl 23 (.tmp 2) rfl w.heap.size rfl 23 (byteCells k) (0, 0) _ (heap_alloc_new _ _) Tryd.underlying23 rfl HI.out ?_)
    | (go_at_call 42; refine (begin_any k _ hk HG.out).mono ?_; rintro e w1 ⟨rfl, hb⟩; rw [HV.out]; have HB := Lib.hid hb; clear hb)
    | (go_at_call 44; refine (scount_any s _ hs).mono ?_; rintro e w' ⟨rfl, rfl⟩))
  have HL : Hid (Below w1.heap.size w1 (w1.alloc (.cells (cells4 v0) 76)) ∧ Row (w1.alloc (.cells (cells4 v0) 76)) w1.heap.size 76 (cells4 v0)) :=
    ⟨(Below.refl _ _).alloc (Nat.le_refl _) _, heap_alloc_new _ _⟩
  go_loopw [14] (fun i wr => ∃ j : Nat, j ≤ s.size / 8 + 1 ∧ i = .int .i64 j ∧ Below w1.heap.size w1 wr ∧ Row wr w1.heap.size 76 (cells4 (upto k (bl s) j))) (fun i _ => s.size / 8 + 1 - (intOf i).toNat)
  case atStart => exact ⟨0, Nat.zero_le _, rfl, HL.out.1, by rw [upto_zero, HV.out]; exact HL.out.2⟩
  case round =>
    clear HL HG HI
    obtain ⟨j, hj, rfl, ho, hr⟩ := hrel
    by_cases hlt : j < s.size / 8 + 1
    · have hu := upto_succ k (bl s) j (by rw [bl_length]; exact hlt)
      obtain ⟨v, hv⟩ : ∃ v, upto k (bl s) j = v := ⟨_, rfl⟩
      rw [hv] at hr hu
      have HU := Lib.hid hu
      have HO := Lib.hid ho
      have HR := Lib.hid hr
      have c3 := hr.c3
      have f3 := hr.free 3
      clear hu hv ho hr
      go_wp2_with (first
        | (go_at_call 45; refine (wordAt_any s j _ hs hlt).mono ?_; rintro e w' ⟨rfl, rfl⟩)
        | (go_at_call 46; refine (repeat_any 2 w1.heap.size 76 ⟨v.a, v.b, v.c, v.d ^^^ wordAt (bl s) j⟩ _ (by omega) (HR.out.set 3 _)).mono ?_
           rintro e w2 ⟨rfl, ho2, hr2⟩
           have HO2 := Lib.hid ho2
           have HR2 := Lib.hid hr2
           have d0 := hr2.c0
           have e0 := hr2.free 0
           clear ho2 hr2))
      go_roundw
      case rel => exact ⟨j + 1, by omega, by go_num, (HO.out.trans ((((Below.refl _ wr).setCell (p := ⟨w1.heap.size, 3, none⟩) (Nat.le_refl _) _).trans (HO2.out.below (Nat.le_refl _))))).setCell (p := ⟨w1.heap.size, 0, none⟩) (Nat.le_refl _) _, by rw [HU.out]; exact HR2.out.set 0 _⟩
      case measure => simp [intOf]; omega
    · obtain rfl : j = s.size / 8 + 1 := by omega
      have hd := upto_done k (bl s) (s.size / 8 + 1) (by rw [bl_length])
      obtain ⟨v, hv⟩ : ∃ v, upto k (bl s) (s.size / 8 + 1) = v := ⟨_, rfl⟩
      rw [hv] at hr hd
      have HD := Lib.hid hd
      have HO := Lib.hid ho
      have HR := Lib.hid hr
      have c2 := hr.c2
      have f2 := hr.free 2
      clear hd hv ho hr
      go_wp2_with (
        (go_at_call 46; refine (repeat_any 4 w1.heap.size 76 ⟨v.a, v.b, v.c ^^^ 255#64, v.d⟩ _ (by omega) (HR.out.set 2 _)).mono ?_
         rintro e w2 ⟨rfl, ho2, hr2⟩
         have HO2 := Lib.hid ho2
         have d0 := hr2.c0
         have d1 := hr2.c1
         have d2 := hr2.c2
         have d3 := hr2.c3
         clear ho2 hr2))
      go_ret
      refine ⟨ret_eq (by rw [← HD.out]; rfl), ?_⟩
      exact (((Below.refl _ w).alloc (Nat.le_refl _) _).trans (HB.out.mono (by simp))).trans ((HO.out.mono (by have := HB.out.size; simp at this; omega)).trans
        (((Below.refl _ wr).setCell (p := ⟨w1.heap.size, 2, none⟩) (by have := HB.out.size; simp at this; show w.heap.size ≤ w1.heap.size; omega) _).trans (HO2.out.below (by have := HB.out.size; simp at this; omega))))
end Go.Proofs.YtmfnjjkbfabonaaDoor

/- What the layers' walks share: facts on blocks, on rows that were appended to, on bytes, on texts made of bytes; no function of the program is named here. No conditions. -/
namespace Go.Proofs.YtmfnjjkbfabonaaDoor
open Go.RowKit
open M

/-- A block of bytes of its own, told. -/
theorem row_told (w1 : World) (k : List UInt8) (old : Array Value) : Row ((w1.alloc (.cells old 23)).setRow w1.heap.size (byteCells k)) w1.heap.size 23 (byteCells k) ∧
    Below w1.heap.size w1 ((w1.alloc (.cells old 23)).setRow w1.heap.size (byteCells k)) :=
  ⟨Row.setRow (heap_alloc_new _ _) _, below_setRow ((Below.refl _ _).alloc (Nat.le_refl _) _) (Nat.le_refl _) _⟩
theorem conv_row (w : World) (g : Nat) (k : List UInt8) (hk : k.length = 16) (h : Row w g 23 (byteCells k)) :
    (convert 24 9 (.slice (some ⟨g, 0, none⟩) 16 16)).run Tryd.prog w = .ok (.string (ofB k)) w :=
  run_conv w g 0 16 16 k hk fun i hi => by rw [Nat.zero_add, cell_of_row _ _ _ _ _ _ h, byteCells_get k i hi]
theorem word_info : (Tryd.prog.info? 36).map (fun i => (i.zero, i.size, i.bytes)) = some (some (.int .u64 0), 1, 8) := by kernel_rfl
theorem left_int (x : BitVec 64) (n : Int) (w : World) (h0 : 0 ≤ n) (h1 : n ≤ 64) :
    Calls Tryd.prog 60 #[.int .u64 (un x), .int .i64 n] w fun e w' => e = .returned (.int .u64 (un (rot x n))) ∧ w = w' := by
  obtain ⟨k, rfl⟩ : ∃ k : Nat, n = k := ⟨n.toNat, by omega⟩
  exact left_any x k w (by omega)
theorem Below.quiet {B : Nat} {a w : World} (h : Below B a w) (n : Nat) : Below B a (w.drewN n) := ⟨h.os, h.tape, h.output, h.size, h.block⟩
theorem below_set4 {B g : Nat} {a w : World} (h : Below B a w) (hg : B ≤ g) (u0 u1 u2 u3 : Value) : Below B a ((((w.setCell ⟨g, 0, none⟩ u0).setCell ⟨g, 1, none⟩ u1).setCell ⟨g, 2, none⟩ u2).setCell ⟨g, 3, none⟩ u3) :=
  (((h.setCell (p := ⟨g, 0, none⟩) hg u0).setCell (p := ⟨g, 1, none⟩) hg u1).setCell (p := ⟨g, 2, none⟩) hg u2).setCell (p := ⟨g, 3, none⟩) hg u3
theorem Row.set4 {w : World} {g : Nat} {t : TypeId} {v : V4} (h : Row w g t (cells4 v)) (u : V4) :
    Row ((((w.setCell ⟨g, 0, none⟩ (.int .u64 (un u.a))).setCell ⟨g, 1, none⟩ (.int .u64 (un u.b))).setCell ⟨g, 2, none⟩ (.int .u64 (un u.c))).setCell ⟨g, 3, none⟩ (.int .u64 (un u.d))) g t (cells4 u) :=
  (((h.set 0 _).set 1 _).set 2 _).set 3 _
theorem only_set4 (w : World) (g : Nat) (a b c d : Value) : Only g w ((((w.setCell ⟨g, 0, none⟩ a).setCell ⟨g, 1, none⟩ b).setCell ⟨g, 2, none⟩ c).setCell ⟨g, 3, none⟩ d) :=
  ((((Only.refl g w).setCell 0 none a).setCell 1 none b).setCell 2 none c).setCell 3 none d
theorem ub_xor (x y : UInt8) : bits .xor .u8 (ub x) (ub y) = ub (x ^^^ y) := by
  unfold ub
  rw [u8_xor_nat _ _ x.toNat_lt y.toNat_lt, UInt8.toNat_xor]
end Go.Proofs.YtmfnjjkbfabonaaDoor

/- What the rows with slices share: an argument that is a slice of numbers, or of bytes, taken apart; that it reads the same where nothing that was there has turned. No conditions. -/
namespace Go.Proofs.YtmfnjjkbfabonaaDoor
open Go.ChangeShapes Go.WideShapes Go.ChangeAt Go.RowKit
open M

theorem laidOut : laidOutB Tryd.prog = true := by kernel_rfl
theorem cellsInt : Tryd.prog.cellsOf 3 = 1 := by kernel_rfl

/-- A slice of numbers, as it lies. -/
def IntsAt (W : World) (v : Value) (xs : List Int) : Prop :=
  ∃ a cap, v = .slice a xs.length cap ∧ (0 < xs.length → ∃ b off, a = some ⟨b, off, none⟩ ∧ b < W.heap.size ∧
    ∀ i, i < xs.length → W.cell? ⟨b, off + i, none⟩ = some (.int .i64 (xs.getD i 0)))
def i64ok (x : Int) : Prop := -9223372036854775808 ≤ x ∧ x ≤ 9223372036854775807

/-- A slice of bytes, as it lies. -/
def BytesAt (W : World) (v : Value) (xs : List Int) : Prop :=
  ∃ a cap, v = .slice a xs.length cap ∧ (0 < xs.length → ∃ b off, a = some ⟨b, off, none⟩ ∧ b < W.heap.size ∧
    ∀ i, i < xs.length → W.cell? ⟨b, off + i, none⟩ = some (.int .u8 (xs.getD i 0)))
theorem IntsAt.below {W W' : World} {v : Value} {xs : List Int} (h : IntsAt W v xs) (hb : Below W.heap.size W W') : IntsAt W' v xs := by
  obtain ⟨a, cap, rfl, hc⟩ := h
  refine ⟨a, cap, rfl, fun h0 => ?_⟩
  obtain ⟨b, off, rfl, hlt, hc⟩ := hc h0
  exact ⟨b, off, rfl, Nat.lt_of_lt_of_le hlt hb.size, fun i hi => (hb.cell (p := ⟨b, off + i, none⟩) hlt).trans (hc i hi)⟩

section
variable {H : Type} {enc : TypeId × Value → H} {W W' : World}
theorem trod_below {t : TypeId} (hr : Tryd.prog.readableRec t = true) (hrow : t < Tryd.prog.types.size) {v : Value} {d : DataW H} {ps : List MemPlace}
    (h : DataW.Trod enc Tryd.prog W 0 (fun _ => true) true t v d ps) (hlt : ∀ p ∈ ps, p.block < W.heap.size) (hb : Below W.heap.size W W') :
    DataW.Trod enc Tryd.prog W' 0 (fun b => decide (b < W.heap.size)) true t v d ps := by
  refine WideElems.Trod_stays laidOut hr hrow h (fun p hp => ?_) (fun p hp => by simpa using hlt p hp)
  have := hlt p hp
  cases p with
  | cell b off => exact hb.cell (p := ⟨b, off, none⟩) this
  | map b => exact hb.block b this

set_option maxRecDepth 100000 in
theorem open_intl {v : Value} {d : DataW H} {ps : List MemPlace} {r : Reach} {b0 : Nat} (hv : Value.okWide Tryd.prog W r b0 57 v)
    (h : DataW.Trod enc Tryd.prog W 0 (fun _ => true) true 57 v d ps) :
    ∃ xs, IntsAt W v xs ∧ xs.length ≤ maxLen ∧ ∀ p ∈ xs, i64ok p := by
  obtain ⟨a, len, cap, rfl⟩ := okWide_slice Tryd.underlying57 hv
  obtain ⟨fuel, hf⟩ := h
  rcases open_ints Tryd.underlying57 Tryd.underlying3 cellsInt hf with ⟨hc, _⟩ | ⟨a', len', cap', zs, hc, _, hl, hm, hz, _, hall, hwf⟩
  · have hc' : [Value.slice a len cap] = [.slice none 0 0] := hc
    simp only [List.cons.injEq, and_true] at hc'
    rw [hc']
    exact ⟨[], ⟨none, 0, rfl, fun h => by simp at h⟩, by simp, by simp⟩
  · have hc' : [Value.slice a len cap] = [.slice (some a') len' cap'] := hc
    simp only [List.cons.injEq, and_true] at hc'
    rw [hc']
    have hzl : zs.length = cap' := by simpa using hz
    refine ⟨zs.take len', ⟨some a', cap', by rw [List.length_take, Nat.min_eq_left (by omega)], fun h => ?_⟩, by rw [List.length_take]; omega, fun p hp => Go.bounds_i64 (hwf p (List.mem_of_mem_take hp))⟩
    rw [List.length_take] at h
    obtain ⟨b, off, spot⟩ := a'
    have hspot : spot = none := by simpa [Addr.add] using World.cell?_spot (hall 0 (by omega))
    subst hspot
    refine ⟨b, off, rfl, World.block_lt_of_cell? W _ (hall 0 (by omega)), fun i hi => ?_⟩
    rw [List.length_take] at hi
    have h1 := hall i (by omega)
    have e : (zs.take len').getD i 0 = zs.getD i 0 := by
      simp only [List.getD_eq_getElem?_getD, List.getElem?_take]
      rw [if_pos (by omega)]
    rw [e, ← add_plain]
    exact h1
theorem cellsByte : Tryd.prog.cellsOf 5 = 1 := by kernel_rfl
set_option maxRecDepth 100000 in
theorem open_bytel {v : Value} {d : DataW H} {ps : List MemPlace} {r : Reach} {b0 : Nat} (hv : Value.okWide Tryd.prog W r b0 24 v)
    (h : DataW.Trod enc Tryd.prog W 0 (fun _ => true) true 24 v d ps) :
    ∃ xs, BytesAt W v xs ∧ xs.length ≤ maxLen ∧ ∀ p ∈ xs, 0 ≤ p ∧ p ≤ 255 := by
  obtain ⟨a, len, cap, rfl⟩ := okWide_slice Tryd.underlying24 hv
  obtain ⟨fuel, hf⟩ := h
  rcases open_ints Tryd.underlying24 Tryd.underlying5 cellsByte hf with ⟨hc, _⟩ | ⟨a', len', cap', zs, hc, _, hl, hm, hz, _, hall, hwf⟩
  · have hc' : [Value.slice a len cap] = [.slice none 0 0] := hc
    simp only [List.cons.injEq, and_true] at hc'
    rw [hc']
    exact ⟨[], ⟨none, 0, rfl, fun h => by simp at h⟩, by simp, by simp⟩
  · have hc' : [Value.slice a len cap] = [.slice (some a') len' cap'] := hc
    simp only [List.cons.injEq, and_true] at hc'
    rw [hc']
    have hzl : zs.length = cap' := by simpa using hz
    refine ⟨zs.take len', ⟨some a', cap', by rw [List.length_take, Nat.min_eq_left (by omega)], fun h => ?_⟩, by rw [List.length_take]; omega, fun p hp => by have := Go.bounds_u8 (hwf p (List.mem_of_mem_take hp)); omega⟩
    rw [List.length_take] at h
    obtain ⟨b, off, spot⟩ := a'
    have hspot : spot = none := by simpa [Addr.add] using World.cell?_spot (hall 0 (by omega))
    subst hspot
    refine ⟨b, off, rfl, World.block_lt_of_cell? W _ (hall 0 (by omega)), fun i hi => ?_⟩
    rw [List.length_take] at hi
    have h1 := hall i (by omega)
    have e : (zs.take len').getD i 0 = zs.getD i 0 := by
      simp only [List.getD_eq_getElem?_getD, List.getElem?_take]
      rw [if_pos (by omega)]
    rw [e, ← add_plain]
    exact h1
end
end Go.Proofs.YtmfnjjkbfabonaaDoor

/- Plain facts on the field of 128 elements: its tables, products, powers, polynomials. No program is named here. No conditions. -/
namespace Go.Proofs.YtmfnjjkbfabonaaDoor.M

def dblE (a : Nat) : Nat := if 128 ≤ 2 * a then (2 * a) ^^^ 137 else 2 * a
def expT : List Nat := [1, 2, 4, 8, 16, 32, 64, 9, 18, 36, 72, 25, 50, 100, 65, 11, 22, 44, 88, 57, 114, 109, 83, 47, 94, 53, 106, 93, 51, 102, 69, 3, 6, 12, 24, 48, 96, 73, 27, 54, 108, 81, 43, 86, 37, 74, 29, 58, 116, 97, 75, 31, 62, 124, 113, 107, 95, 55, 110, 85, 35, 70, 5, 10, 20, 40, 80, 41, 82, 45, 90, 61, 122, 125, 115, 111, 87, 39, 78, 21, 42, 84, 33, 66, 13, 26, 52, 104, 89, 59, 118, 101, 67, 15, 30, 60, 120, 121, 123, 127, 119, 103, 71, 7, 14, 28, 56, 112, 105, 91, 63, 126, 117, 99, 79, 23, 46, 92, 49, 98, 77, 19, 38, 76, 17, 34, 68]
def logT : List Nat := [0, 0, 1, 31, 2, 62, 32, 103, 3, 7, 63, 15, 33, 84, 104, 93, 4, 124, 8, 121, 64, 79, 16, 115, 34, 11, 85, 38, 105, 46, 94, 51, 5, 82, 125, 60, 9, 44, 122, 77, 65, 67, 80, 42, 17, 69, 116, 23, 35, 118, 12, 28, 86, 25, 39, 57, 106, 19, 47, 89, 95, 71, 52, 110, 6, 14, 83, 92, 126, 30, 61, 102, 10, 37, 45, 50, 123, 120, 78, 114, 66, 41, 68, 22, 81, 59, 43, 76, 18, 88, 70, 109, 117, 27, 24, 56, 36, 49, 119, 113, 13, 91, 29, 101, 87, 108, 26, 55, 40, 21, 58, 75, 107, 54, 20, 74, 48, 112, 90, 100, 96, 97, 72, 98, 53, 73, 111, 99]
/-- The power n of 2, n below 127. -/
def E (n : Nat) : Nat := expT.getD n 0
/-- Which power of 2, of what is not 0. -/
def Lg (a : Nat) : Nat := logT.getD a 0
def pm : Nat → Nat → Nat → Nat → Nat
  | 0, _, _, o => o
  | k + 1, a, b, o => pm k (dblE a) (b / 2) (if b % 2 = 1 then o ^^^ a else o)
/-- The product. -/
def mul (a b : Nat) : Nat := pm 7 a b 0

theorem of_all {n : Nat} {p : Nat → Bool} (h : (List.range n).all p = true) (i : Nat) (hi : i < n) : p i = true :=
  List.all_eq_true.1 h i (List.mem_range.2 hi)

theorem E_bd (n : Nat) (h : n < 127) : 1 ≤ E n ∧ E n < 128 := by
  have := of_all (n := 127) (p := fun n => decide (1 ≤ E n) && decide (E n < 128)) (by decide +kernel) n h
  simpa using this
theorem Lg_E (n : Nat) (h : n < 127) : Lg (E n) = n := by
  have := of_all (n := 127) (p := fun n => Lg (E n) == n) (by decide +kernel) n h
  simpa using this
theorem Lg_le (a : Nat) (h : a < 128) : Lg a < 127 := by
  have := of_all (n := 128) (p := fun a => decide (Lg a < 127)) (by decide +kernel) a h
  simpa using this
theorem E_Lg (a : Nat) (h : a < 128) (h0 : a ≠ 0) : E (Lg a) = a := by
  have := of_all (n := 128) (p := fun a => a == 0 || E (Lg a) == a) (by decide +kernel) a h
  simp [h0] at this
  exact this
theorem E_next (n : Nat) (h : n < 127) : dblE (E (n % 127)) = E ((n + 1) % 127) := by
  have := of_all (n := 127) (p := fun n => dblE (E (n % 127)) == E ((n + 1) % 127)) (by decide +kernel) n h
  simpa using this
theorem mul_tab (a b : Nat) (ha : a < 128) (hb : b < 128) : mul a b = if a = 0 ∨ b = 0 then 0 else E ((Lg a + Lg b) % 127) := by
  have := of_all (of_all (n := 128) (p := fun a => (List.range 128).all fun b => mul a b == if a = 0 ∨ b = 0 then 0 else E ((Lg a + Lg b) % 127)) (by decide +kernel) a ha) b hb
  simpa using this
/-- Powers from 0 on. -/
def pw (a : Nat) : Nat → Nat
  | 0 => 1
  | k + 1 => mul (pw a k) a
theorem sq_all (a b : Nat) (ha : a < 128) (hb : b < 128) : pw (a ^^^ b) 2 = pw a 2 ^^^ pw b 2 ∧ (pw a 2 == pw b 2) = (a == b) := by
  have := of_all (of_all (n := 128) (p := fun a => (List.range 128).all fun b => (pw (a ^^^ b) 2 == pw a 2 ^^^ pw b 2) && ((pw a 2 == pw b 2) == (a == b))) (by decide +kernel) a ha) b hb
  simpa only [Bool.and_eq_true, beq_iff_eq] using this
theorem root_all (a : Nat) (ha : a < 128) : mul (pw a 64) (pw a 64) = a := by
  have := of_all (n := 128) (p := fun a => mul (pw a 64) (pw a 64) == a) (by decide +kernel) a ha
  simpa using this

end Go.Proofs.YtmfnjjkbfabonaaDoor.M
