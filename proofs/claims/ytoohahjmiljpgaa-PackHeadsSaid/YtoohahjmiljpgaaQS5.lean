/-
  Contracts and plain facts that the laws share; each piece is headed by what it holds and its conditions.
-/
import Derived.Test.YtoohahjmiljpgaaQMath
import Derived.Test.YtoohahjmiljpgaaQS1
import Derived.Test.YtoohahjmiljpgaaChecked
import Derived.Handy
import Derived.WalkLawsBesides
import Derived.WalkSpells
import Derived.Outline
import Derived.IntWalk
import Derived.Lib.Hide
import Derived.Deep.QuietTactic
import Derived.BigQuiet
import Derived.RegionTactic
import Derived.Deep.OwnRows
import Derived.Deep.AppendLies
import Derived.Lib.QuietBelow
import Derived.ProofKit
import Derived.OpenShut
import Derived.ChangeSlices
import Derived.Deep.Slices
import Derived.Deep.MidRow
import Derived.Stop.Joined

/- What the walks of all layers share: facts on blocks, on rows that were appended to, on bytes, on texts made of bytes; no function of the program is named here. No conditions. -/
namespace Go.Proofs.Ytoohahjmiljpgaa
open Go.RowKit
open M

theorem ret_eq {k : IntKind} {a b : Int} (h : a = b) : Ending.returned (.int k a) = .returned (.int k b) := by rw [h]
/-- Only block g has turned, and no block is new. -/
structure Only (g : Nat) (w w' : World) : Prop where
  os : w'.os = w.os
  tape : w'.tape = w.tape
  output : w'.output = w.output
  size : w'.heap.size = w.heap.size
  block : ∀ k, k ≠ g → w'.heap[k]? = w.heap[k]?
theorem Only.refl (g : Nat) (w : World) : Only g w w := ⟨rfl, rfl, rfl, rfl, fun _ _ => rfl⟩
theorem Only.trans {g : Nat} {a b c : World} (h : Only g a b) (k : Only g b c) : Only g a c :=
  ⟨k.os.trans h.os, k.tape.trans h.tape, k.output.trans h.output, k.size.trans h.size, fun i hi => (k.block i hi).trans (h.block i hi)⟩
theorem Only.setCell {g : Nat} {a w : World} (h : Only g a w) (i : Nat) (m : Option Nat) (u : Value) : Only g a (w.setCell ⟨g, i, m⟩ u) :=
  h.trans ⟨rfl, rfl, rfl, by simp [World.setCell], fun k hk => Below.heap_setCell _ _ _ _ hk⟩
theorem Only.drew {g : Nat} {a w : World} (h : Only g a w) : Only g a w.drew := ⟨h.os, h.tape, h.output, h.size, h.block⟩
theorem Only.drewN {g : Nat} {a w : World} (h : Only g a w) (n : Nat) : Only g a (w.drewN n) := ⟨h.os, h.tape, h.output, h.size, h.block⟩
theorem Only.below {g : Nat} {w w' : World} (h : Only g w w') {B : Nat} (hB : B ≤ g) : Below B w w' := ⟨h.os, h.tape, h.output, by have := h.size; omega, fun k hk => h.block k (by omega)⟩
/-- Block g is just these cells. -/
def Row (w : World) (g : Nat) (t : TypeId) (cs : Array Value) : Prop := w.heap[g]? = some (.cells cs t (0, 0))
theorem Row.set {w : World} {g : Nat} {t : TypeId} {cs : Array Value} (h : Row w g t cs) (i : Nat) (u : Value) : Row (w.setCell ⟨g, i, none⟩ u) g t (cs.setIfInBounds i u) :=
  heap_setCell_same w g i cs t u h
theorem Row.drewN {w : World} {g : Nat} {t : TypeId} {cs : Array Value} (h : Row w g t cs) (n : Nat) : Row (w.drewN n) g t cs := h
theorem Row.free {w : World} {g : Nat} {t : TypeId} {cs : Array Value} (h : Row w g t cs) (j : Nat) : w.frozen? ⟨g, j, none⟩ = false := frozen_of_row _ _ _ _ _ h
def byteCells (k : List UInt8) : Array Value := (k.map fun b => Value.int .u8 (b.toNat : Int)).toArray
theorem byteCells_get (k : List UInt8) (i : Nat) (h : i < k.length) : (byteCells k)[i]? = some (.int .u8 (k[i].toNat : Int)) := by
  simp [byteCells, h]
theorem strOfNums_ofB (l : List UInt8) : strOfNums (l.map fun b => (b.toNat : Int)) = ofB l := by
  have h : (l.map fun b => (b.toNat : Int)).map (fun n : Int => UInt8.ofNat n.toNat) = l := by
    rw [List.map_map]
    have : ((fun n : Int => UInt8.ofNat n.toNat) ∘ fun b : UInt8 => (b.toNat : Int)) = id := by
      funext b; simp
    rw [this, List.map_id]
  unfold strOfNums ofB
  rw [h]
theorem own_ne {w : World} {base n size : Nat} {e : TypeId} {v : Value} {xs : List Value} (h : w.ownsRow base e size v n xs) (g : Nat) (hg : g < base) : some g ≠ v.ownBlock := by
  rcases h.2 with ⟨rfl, _⟩ | ⟨g', cap, cur, rfl, hb, _⟩
  · simp [Value.ownBlock]
  · simp [Value.ownBlock]; omega
theorem own_ge {w : World} {base n size : Nat} {e : TypeId} {v : Value} {xs : List Value} (h : w.ownsRow base e size v n xs) (g : Nat) (hg : v.ownBlock = some g) : base ≤ g := by
  rcases h.2 with ⟨rfl, _⟩ | ⟨g', cap, cur, rfl, hb, _⟩
  · simp [Value.ownBlock] at hg
  · simp [Value.ownBlock] at hg; omega
theorem Row.grown {w w' : World} {g : Nat} {t : TypeId} {cs : Array Value} {row : Option Nat} (h : Row w g t cs) (hg : w.grownBy w' row) (hlt : g < w.heap.size) (hne : some g ≠ row) : Row w' g t cs :=
  (hg.block g hlt hne).trans h
theorem Row.lt {w : World} {g : Nat} {t : TypeId} {cs : Array Value} (h : Row w g t cs) : g < w.heap.size := by
  rcases Nat.lt_or_ge g w.heap.size with h1 | h1
  · exact h1
  · unfold Row at h; rw [Array.getElem?_eq_none h1] at h; cases h
theorem Row.alloc {w : World} {g : Nat} {t : TypeId} {cs : Array Value} (h : Row w g t cs) (o : Obj) : Row (w.alloc o) g t cs := (Below.heap_alloc w o g h.lt).trans h
theorem Row.below {B : Nat} {w w' : World} {g : Nat} {t : TypeId} {cs : Array Value} (h : Row w g t cs) (hb : Below B w w') (hg : g < B) : Row w' g t cs := (hb.block g hg).trans h
theorem Row.far {w : World} {g : Nat} {t : TypeId} {cs : Array Value} (h : Row w g t cs) {p : Addr} (hp : g ≠ p.block) (u : Value) : Row (w.setCell p u) g t cs := (Below.heap_setCell w p u g hp).trans h
theorem Row.setRow {w : World} {g : Nat} {t : TypeId} {cs : Array Value} (h : Row w g t cs) (ds : Array Value) : Row (w.setRow g ds) g t ds := setRow_heap w g cs ds t _ h
theorem below_setRow {B g : Nat} {w0 w : World} (hb : Below B w0 w) (hg : B ≤ g) (cs : Array Value) : Below B w0 (w.setRow g cs) :=
  hb.trans ⟨rfl, rfl, rfl, by simp, fun k hk => setRow_other w g k cs (by omega)⟩
theorem one_new (w : World) (g : Nat) (hg : w.heap.size = g) (x : Value) (t : TypeId) : ∀ (j : Nat) (u : Value), [x][j]? = some u → (w.alloc (.cells #[x] t)).cell? ((⟨g, 0, none⟩ : Addr).add j) = some u := by
  subst hg; exact cell_one_new _ _ _
theorem one_cell {k : IntKind} {n : Int} : ∀ u ∈ [Value.int k n], u.oneCell' = true := by
  intro u hu; simp at hu; subst hu; rfl
theorem byteCells_one (k : List UInt8) : (byteCells k).all (·.oneCell') = true := by
  simp [byteCells, Value.oneCell']
theorem byteCells_size (k : List UInt8) : (byteCells k).size = k.length := by simp [byteCells]
theorem Below.drewN {B : Nat} {a w : World} (h : Below B a w) (n : Nat) : Below B a (w.drewN n) := ⟨h.os, h.tape, h.output, h.size, h.block⟩
theorem toList_bl (s : ByteArray) : s.toList = bl s := ByteArray.toList_eq s
theorem bl_inj {s t : ByteArray} (h : bl s = bl t) : s = t := by rw [← ofB_bl s, h, ofB_bl]
theorem row_new (w : World) (g : Nat) (hg : w.heap.size = g) (cs : Array Value) (t : TypeId) : Row (w.alloc (.cells cs t)) g t cs := by
  subst hg; exact heap_alloc_new _ _
theorem below_rules {W w1 : World} (hb : Below W.heap.size W w1) : (∀ b o, b < W.heap.size → w1.cell? ⟨b, o, none⟩ = W.cell? ⟨b, o, none⟩) ∧ (∀ b o, b < W.heap.size → w1.frozen? ⟨b, o, none⟩ = W.frozen? ⟨b, o, none⟩) :=
  ⟨fun b o h => hb.cell (p := ⟨b, o, none⟩) h, fun b o h => hb.frozen (p := ⟨b, o, none⟩) h⟩
theorem own_cells {w : World} {base n : Nat} {e : TypeId} {v : Value} {xs : List Value} (h : w.ownsRow base e 1 v n xs) (hn : 0 < n) :
    ∃ g cap, v = .slice (some ⟨g, 0, none⟩) n cap ∧ base ≤ g ∧ g < w.heap.size ∧ ∀ i, i < n → w.cell? ⟨g, i, none⟩ = xs[i]? := by
  rcases h.2 with ⟨_, h0⟩ | ⟨g, cap, cur, hv, hb, hg, _, _, hsz, htk⟩
  · omega
  · refine ⟨g, cap, hv, hb, Row.lt hg, fun i hi => ?_⟩
    rw [cell_of_row _ _ _ _ _ _ hg, ← htk, List.getElem?_take, if_pos (by omega), Array.getElem?_toList]
theorem gb_trans {a b c : World} {row : Option Nat} (h : a.grownBy b row) (k : b.grownBy c row) : a.grownBy c row :=
  ⟨k.os.trans h.os, k.tape.trans h.tape, k.output.trans h.output, Nat.le_trans h.size k.size, fun i hi hn => (k.block i (Nat.lt_of_lt_of_le hi h.size) hn).trans (h.block i hi hn)⟩
theorem gb_below {a b c : World} {row : Option Nat} (h : a.grownBy b row) (k : Below b.heap.size b c) : a.grownBy c row :=
  ⟨k.os.trans h.os, k.tape.trans h.tape, k.output.trans h.output, Nat.le_trans h.size k.size, fun i hi hn => (k.block i (Nat.lt_of_lt_of_le hi h.size)).trans (h.block i hi hn)⟩
theorem gb_only {a b c : World} {g : Nat} (h : a.grownBy b (some g)) (k : Only g b c) : a.grownBy c (some g) :=
  ⟨k.os.trans h.os, k.tape.trans h.tape, k.output.trans h.output, by have := h.size; have := k.size; omega, fun i hi hn => (k.block i (fun e => hn (by rw [e]))).trans (h.block i hi hn)⟩
theorem gb_cell {a b : World} {g : Nat} (h : a.grownBy b (some g)) {p : Addr} (hp : p.block < a.heap.size) (hn : p.block ≠ g) : b.cell? p = a.cell? p :=
  World.cell?_of_block (h.block p.block hp (fun e => hn (by injection e)))
/-- A byte as the model's number. -/
def ub (x : UInt8) : Int := (x.toNat : Int)
theorem ub_bd (x : UInt8) : 0 ≤ ub x ∧ ub x < 256 := by
  have := x.toNat_lt
  unfold ub; omega
theorem bl_append (s t : ByteArray) : bl (s ++ t) = bl s ++ bl t := by simp [bl]
theorem byte_of_wf {n : Int} (h : (Lit.int .u8 n).wf = true) : ∃ x, n = ub x := by
  have := Go.bounds_u8 h
  refine ⟨UInt8.ofNat n.toNat, ?_⟩
  unfold ub
  rw [UInt8.toNat_ofNat_of_lt' (by show n.toNat < 256; omega)]
  omega
theorem word_of_wf {n : Int} (h : (Lit.int .u64 n).wf = true) : ∃ x, n = un x := by
  have := Go.bounds_u64 h
  exact ⟨_, un_of n this.1 (by omega)⟩
/-- A list of numbers, as it lies. -/
def natCells (l : List Nat) : Array Value := (l.map fun x : Nat => Value.int .i64 (x : Int)).toArray
theorem natCells_size (l : List Nat) : (natCells l).size = l.length := by simp [natCells]
theorem natCells_get (l : List Nat) (i : Nat) (h : i < l.length) : (natCells l)[i]? = some (.int .i64 (l.getD i 0 : Nat)) := by
  simp [natCells, h]
theorem natCells_set (l : List Nat) (i x : Nat) : (natCells l).setIfInBounds i (.int .i64 (x : Int)) = natCells (l.set i x) := by
  simp [natCells, List.map_set]
theorem int_info : (Try.prog.info? 3).map (fun i => (i.zero, i.size, i.bytes)) = some (some (.int .i64 0), 1, 8) := by kernel_rfl
theorem below_drew1 {B : Nat} {a w : World} (h : Below B a w) : Below B a w.drew := ⟨h.os, h.tape, h.output, h.size, h.block⟩
theorem Row.box {w w1 : World} {g : Nat} {t : TypeId} {cs : Array Value} (h : Row w g t cs) (hb : Below w.heap.size w w1) : Row w1 g t cs := h.below hb h.lt
end Go.Proofs.Ytoohahjmiljpgaa

/- Arguments that hold structs, arrays, strings, numbers and truths: which cells they have, each of its kind; slices of such, as they lie. No program is named here. No conditions. -/
namespace Go.Proofs.Ytoohahjmiljpgaa
open Go.ChangeShapes Go.WideShapes Go.ChangeAt Go.RowKit
open M
/-- Kinds of cells. -/
inductive Kd where
  | int (k : IntKind)
  | str
  | bool
/-- A cell of a kind. -/
def Kd.is : Kd → Value → Prop
  | .int k, c => ∃ z : Int, c = .int k z ∧ (Lit.int k z).wf = true
  | .str, c => ∃ s : ByteArray, c = .string s ∧ s.size ≤ maxLen
  | .bool, c => ∃ b : Bool, c = .bool b
section
variable {H : Type} {enc : TypeId × Value → H} {P : Program} {w : World} {base : Nat} {spare : Nat → Bool} {held : Bool}
/-- Whatever is read as a type has cells of these kinds. -/
def Rd (enc : TypeId × Value → H) (P : Program) (w : World) (base : Nat) (spare : Nat → Bool) (held : Bool) (t : TypeId) (ks : List Kd) : Prop :=
  ∀ (fuel : Nat) (cs : List Value) (x : DataW H × List MemPlace), DataW.trod enc P w base spare held fuel t cs = some x → cs.length = ks.length ∧ ∀ i (h : i < ks.length), ∃ c, cs[i]? = some c ∧ (ks[i]).is c
theorem rd_int {t : TypeId} {k : IntKind} (ht : P.underlying t = some (.int k)) : Rd enc P w base spare held t [.int k] := by
  intro fuel cs x h
  obtain ⟨z, rfl, _, hw⟩ := DataW.trod_int ht h
  refine ⟨rfl, fun i hi => ?_⟩
  obtain rfl : i = 0 := by simpa using hi
  exact ⟨_, rfl, z, rfl, hw⟩
theorem rd_str {t : TypeId} (ht : P.underlying t = some .string) : Rd enc P w base spare held t [.str] := by
  intro fuel cs x h
  have key : ∃ s : ByteArray, cs = [.string s] ∧ s.size ≤ maxLen := by
    cases fuel with
    | zero => simp [DataW.trod] at h
    | succ m =>
      unfold DataW.trod at h
      rw [ht] at h
      split at h <;> simp_all
  obtain ⟨s, rfl, hs⟩ := key
  refine ⟨rfl, fun i hi => ?_⟩
  obtain rfl : i = 0 := by simpa using hi
  exact ⟨_, rfl, s, rfl, hs⟩
theorem rd_bool {t : TypeId} (ht : P.underlying t = some .bool) : Rd enc P w base spare held t [.bool] := by
  intro fuel cs x h
  have key : ∃ b : Bool, cs = [.bool b] := by
    cases fuel with
    | zero => simp [DataW.trod] at h
    | succ m =>
      unfold DataW.trod at h
      rw [ht] at h
      split at h <;> simp_all
  obtain ⟨b, rfl⟩ := key
  refine ⟨rfl, fun i hi => ?_⟩
  obtain rfl : i = 0 := by simpa using hi
  exact ⟨_, rfl, b, rfl⟩
theorem flat_len {α : Type} (n : Nat) (l : List α) : (List.replicate n l).flatten.length = n * l.length := by simp
theorem flat_at {α : Type} (n : Nat) (l : List α) (i : Nat) (h : i < n * l.length) (h2 : i < (List.replicate n l).flatten.length) (h3 : i % l.length < l.length) : (List.replicate n l).flatten[i] = l[i % l.length] := by
  induction n generalizing i with
  | zero => simp at h
  | succ n ih =>
    have e : (List.replicate (n + 1) l).flatten = l ++ (List.replicate n l).flatten := by simp [List.replicate_succ]
    rw [List.getElem_of_eq e, List.getElem_append]
    split
    · rename_i hl
      have : i % l.length = i := Nat.mod_eq_of_lt hl
      simp only [this]
    · rename_i hl
      have h4 : (i - l.length) % l.length = i % l.length := by
        conv => rhs; rw [show i = (i - l.length) + l.length by omega]
        rw [Nat.add_mod_right]
      have h5 : i - l.length < n * l.length := by rw [Nat.succ_mul] at h; omega
      have := ih (i - l.length) h5 (by rw [flat_len]; exact h5) (by rw [h4]; exact h3)
      rw [this]
      simp only [h4]
theorem rd_array {t e : TypeId} {n : Nat} {ks : List Kd} (ht : P.underlying t = some (.array n e)) (he : Rd enc P w base spare held e ks) (hce : P.cellsOf e = ks.length) (hct : P.cellsOf t = n * ks.length) (h0 : 0 < ks.length) :
    Rd enc P w base spare held t (List.replicate n ks).flatten := by
  intro fuel cs x h
  obtain ⟨xs, m, _, _, hcl, hxl, hat⟩ := DataW.trod_array ht h
  rw [hct] at hcl
  refine ⟨by rw [hcl, flat_len], fun i hi => ?_⟩
  rw [flat_len] at hi
  have hq : i / ks.length < n := by rw [Nat.div_lt_iff_lt_mul h0]; exact hi
  have h1 := hat (i / ks.length) hq
  rw [List.getElem?_eq_getElem (by omega), hce] at h1
  obtain ⟨_, hk⟩ := he m _ _ h1
  have hr : i % ks.length < ks.length := Nat.mod_lt _ h0
  obtain ⟨c, hc, hi2⟩ := hk (i % ks.length) hr
  refine ⟨c, ?_, by rw [flat_at n ks i hi _ hr]; exact hi2⟩
  rw [List.getElem?_take, if_pos hr, List.getElem?_drop] at hc
  rw [← hc]
  congr 1
  have := Nat.div_add_mod i ks.length
  rw [Nat.mul_comm] at this
  omega
theorem rd_struct2 {t : TypeId} {f0 f1 : Field} {k0 k1 : List Kd} (ht : P.underlying t = some (.struct #[f0, f1])) (h0 : Rd enc P w base spare held f0.type k0) (h1 : Rd enc P w base spare held f1.type k1)
    (hc0 : P.cellsOf f0.type = k0.length) (hc1 : P.cellsOf f1.type = k1.length) (ho0 : f0.offset = 0) (ho1 : f1.offset = k0.length) (hct : P.cellsOf t = k0.length + k1.length) :
    Rd enc P w base spare held t (k0 ++ k1) := by
  intro fuel cs x h
  obtain ⟨y0, y1, n, _, hcl, e0, e1⟩ := trod_struct2 ht h
  rw [ho0, hc0] at e0
  rw [ho1, hc1] at e1
  obtain ⟨_, g0⟩ := h0 _ _ _ e0
  obtain ⟨_, g1⟩ := h1 _ _ _ e1
  refine ⟨by rw [hcl, hct, List.length_append], fun i hi => ?_⟩
  rw [List.length_append] at hi
  rcases Nat.lt_or_ge i k0.length with hl | hg
  · obtain ⟨c, hc, hk⟩ := g0 i hl
    rw [List.getElem?_take, if_pos hl, List.getElem?_drop, Nat.zero_add] at hc
    exact ⟨c, hc, by rw [List.getElem_append_left hl]; exact hk⟩
  · obtain ⟨c, hc, hk⟩ := g1 (i - k0.length) (by omega)
    rw [List.getElem?_take, if_pos (by omega), List.getElem?_drop, show k0.length + (i - k0.length) = i by omega] at hc
    exact ⟨c, hc, by rw [List.getElem_append_right hg]; exact hk⟩
/-- So many things of so many cells each, one behind the other, where a slice begins; each cell is of its kind. -/
def CsAt (w : World) (v : Value) (n m : Nat) (cs : List Value) : Prop :=
  cs.length = n * m ∧ ∃ a cap, v = .slice a n cap ∧ (0 < n → ∃ b off, a = some ⟨b, off, none⟩ ∧ b < w.heap.size ∧ ∀ p, p < n * m → w.cell? ⟨b, off + p, none⟩ = cs[p]?)
theorem CsAt.below {w w' : World} {v : Value} {n m : Nat} {cs : List Value} (h : CsAt w v n m cs) (hb : Below w.heap.size w w') : CsAt w' v n m cs := by
  obtain ⟨hl, a, cap, rfl, hc⟩ := h
  refine ⟨hl, a, cap, rfl, fun h0 => ?_⟩
  obtain ⟨b, off, rfl, hbs, hcs⟩ := hc h0
  exact ⟨b, off, rfl, Nat.lt_of_lt_of_le hbs hb.size, fun p hp => (hb.cell (p := ⟨b, off + p, none⟩) hbs).trans (hcs p hp)⟩
theorem open_slices {t e : TypeId} {ks : List Kd} {v : Value} {d : DataW H} {ps : List MemPlace} {r : Reach} {b0 : Nat} (ht : P.underlying t = some (.slice e)) (hce : P.cellsOf e = ks.length) (h0 : 0 < ks.length)
    (hr : Rd enc P w 0 (fun _ => true) true e ks) (hv : Value.okWide P w r b0 t v) (h : DataW.Trod enc P w 0 (fun _ => true) true t v d ps) :
    ∃ n cs, CsAt w v n ks.length cs ∧ n ≤ maxLen ∧ ∀ p, p < n * ks.length → ∃ c, cs[p]? = some c ∧ ∀ (hp : p % ks.length < ks.length), (ks[p % ks.length]).is c := by
  obtain ⟨a, len, cap, rfl⟩ := okWide_slice ht hv
  obtain ⟨fuel, hf⟩ := h
  rcases Deep.open_slice ht hf with ⟨hc, _⟩ | ⟨a', len', cap', m, k, D, Pl, hc, _, hl, hm, hmm, _, hall⟩
  · have hc' : [Value.slice a len cap] = [.slice none 0 0] := hc
    simp only [List.cons.injEq, and_true] at hc'
    rw [hc']
    exact ⟨0, [], ⟨by simp, none, 0, rfl, fun h => absurd h (by decide)⟩, by decide, fun p hp => by simp at hp⟩
  · have hc' : [Value.slice a len cap] = [.slice (some a') len' cap'] := hc
    simp only [List.cons.injEq, and_true] at hc'
    rw [hc']
    clear hc hc' hf
    have hml : len' ≤ m := by rw [hmm]; split <;> omega
    have key : ∀ p, p < len' * ks.length → ∃ c : Value, w.cell? (a'.add p) = some c ∧ ∀ (hp : p % ks.length < ks.length), (ks[p % ks.length]).is c := by
      intro p hp
      have hq : p / ks.length < len' := by rw [Nat.div_lt_iff_lt_mul h0]; exact hp
      obtain ⟨cs', h1, h2⟩ := hall (p / ks.length) (by omega)
      rw [hce] at h1
      obtain ⟨_, hcl, hcell⟩ := World.cells?_some h1
      have hr2 : p % ks.length < ks.length := Nat.mod_lt _ h0
      obtain ⟨_, hk⟩ := hr k _ _ h2
      obtain ⟨c, e1, e2⟩ := hk (p % ks.length) hr2
      have h4 := hcell (p % ks.length) (by omega)
      rw [Deep.add_add, show p / ks.length * ks.length + p % ks.length = p by have := Nat.div_add_mod p ks.length; rw [Nat.mul_comm] at this; omega] at h4
      exact ⟨c, by rw [h4]; exact e1, fun _ => e2⟩
    obtain ⟨f, hfz⟩ := Deep.choose_lt (α := Value) key
    refine ⟨len', (List.range (len' * ks.length)).map f, ⟨by simp, some a', cap', rfl, fun hpos => ?_⟩, by omega, fun p hp => ⟨f p, by simp [hp], (hfz p hp).2⟩⟩
    obtain ⟨b, off, spot⟩ := a'
    have hpp : 0 < len' * ks.length := Nat.mul_pos hpos h0
    have hspot : spot = none := by simpa [Addr.add] using World.cell?_spot (hfz 0 hpp).1
    subst hspot
    refine ⟨b, off, rfl, World.block_lt_of_cell? w _ (hfz 0 hpp).1, fun p hp => ?_⟩
    rw [← add_plain, (hfz p hp).1]
    simp [hp]
/-- A struct or an array by value. -/
theorem open_flat {t : TypeId} {ks : List Kd} {v : Value} {d : DataW H} {ps : List MemPlace} (hr : Rd enc P w base spare held t ks) (h : DataW.Trod enc P w base spare held t v d ps) :
    v.cells.toList.length = ks.length ∧ ∀ i (hi : i < ks.length), ∃ c, v.cells.toList[i]? = some c ∧ (ks[i]).is c := by
  obtain ⟨fuel, hf⟩ := h
  exact hr fuel _ _ hf
/-- .. all of whose cells are numbers of a kind. -/
theorem open_ints_flat {t : TypeId} {n : Nat} {k : IntKind} {dsc : TypeDesc} {v : Value} {d : DataW H} {ps : List MemPlace} {r : Reach} {b0 : Nat} (hu : P.underlying t = some dsc) (hd : dsc.isRow = true)
    (hr : Rd enc P w base spare held t (List.replicate n (.int k))) (hv : Value.okWide P w r b0 t v) (h : DataW.Trod enc P w base spare held t v d ps) :
    ∃ zs : List Int, zs.length = n ∧ v = .agg (zs.map (Value.int k)).toArray ∧ ∀ z ∈ zs, (Lit.int k z).wf = true := by
  obtain ⟨cs, rfl⟩ : ∃ cs, v = .agg cs := by
    unfold Value.okWide at hv
    rw [hu] at hv
    cases dsc <;> first
      | (exfalso; revert hd; decide)
      | (exfalso; revert hd; simp [TypeDesc.isRow]; done)
      | (obtain ⟨cs, e, _⟩ := hv; exact ⟨cs, e⟩)
  obtain ⟨h1, h2⟩ := open_flat hr h
  obtain ⟨l⟩ := cs
  have hl : l.length = n := by simpa [Value.cells] using h1
  have key : ∀ i (hi : i < n), ∃ z, l[i]'(by omega) = .int k z ∧ (Lit.int k z).wf = true := by
    intro i hi
    obtain ⟨c, e1, e2⟩ := h2 i (by simpa using hi)
    have e3 : l[i]? = some c := by simpa [Value.cells] using e1
    rw [List.getElem?_eq_getElem (by omega)] at e3
    injection e3 with e3
    rw [List.getElem_replicate] at e2
    obtain ⟨z, e4, e5⟩ := e2
    exact ⟨z, by rw [e3, e4], e5⟩
  refine ⟨l.map intOf, by simpa using hl, ?_, ?_⟩
  · congr 2
    apply List.ext_getElem (by simp)
    intro i g1 g2
    obtain ⟨z, e1, _⟩ := key i (by omega)
    simp [e1, intOf]
  · intro z hz
    obtain ⟨i, hi, rfl⟩ := List.getElem_of_mem hz
    obtain ⟨z, e1, e3⟩ := key i (by simpa [hl] using hi)
    simpa [e1, intOf] using e3
end
end Go.Proofs.Ytoohahjmiljpgaa

/- An array of eight numbers below 2^32 handed in by value. No conditions. -/
namespace Go.Proofs.Ytoohahjmiljpgaa
open Go.ChangeShapes Go.WideShapes Go.ChangeAt Go.RowKit
open M
theorem cells_ov1 : Try.prog.cellsOf 24 = 1 := by kernel_rfl
theorem cells_ov8 : Try.prog.cellsOf 25 = 8 := by kernel_rfl
/-- Numbers below 2^32, as they lie. -/
def vCells (l : List Int) : Array Value := (l.map (Value.int .u32)).toArray
theorem vCells_size (l : List Int) : (vCells l).size = l.length := by simp [vCells]
theorem vCells_get (l : List Int) (i : Nat) (h : i < l.length) : (vCells l)[i]? = some (.int .u32 (l.getD i 0)) := by
  simp [vCells, List.getD_eq_getElem?_getD, h]
section
variable {H : Type} {enc : TypeId × Value → H} {W : World} {base b0 : Nat} {spare : Nat → Bool} {held : Bool} {r : Reach}
theorem rd_v8 : Rd enc Try.prog W base spare held 25 (List.replicate 8 (Kd.int .u32)) :=
  rd_array (ks := [Kd.int .u32]) Try.underlying25 (rd_int Try.underlying24) cells_ov1 cells_ov8 (by decide)
set_option maxRecDepth 100000 in
/-- An argument [8]uint32. -/
theorem open_v8 {v : Value} {d : DataW H} {p : List MemPlace} (hv : Value.okWide Try.prog W r b0 25 v) (h : DataW.Trod enc Try.prog W base spare held 25 v d p) :
    ∃ l : List Int, l.length = 8 ∧ v = .agg (vCells l) ∧ ∀ z ∈ l, 0 ≤ z ∧ z ≤ 4294967295 := by
  obtain ⟨l, hl, rfl, hwf⟩ := open_ints_flat Try.underlying25 rfl rd_v8 hv h
  exact ⟨l, hl, rfl, fun z hz => Go.bounds_u32 (hwf z hz)⟩
end
end Go.Proofs.Ytoohahjmiljpgaa

/- Lists of ints as they lie, cell by cell. No conditions. -/
namespace Go.Proofs.Ytoohahjmiljpgaa
open Go.RowKit
open M
/-- A list of ints, as it lies. -/
def iCells (l : List Int) : Array Value := (l.map fun x => Value.int .i64 x).toArray
theorem iCells_size (l : List Int) : (iCells l).size = l.length := by simp [iCells]
theorem iCells_get (l : List Int) (i : Nat) (h : i < l.length) : (iCells l)[i]? = some (.int .i64 (l.getD i 0)) := by
  simp [iCells, List.getD_eq_getElem?_getD, h]
theorem iCells_set (l : List Int) (i : Nat) (x : Int) : (iCells l).setIfInBounds i (.int .i64 x) = iCells (l.set i x) := by
  simp [iCells, List.map_set]
theorem iCells_one (l : List Int) : (iCells l).all (·.oneCell') = true := by
  simp [iCells, Value.oneCell']
theorem i_at {w : World} {g : Nat} {l : List Int} {t : TypeId} (h : Row w g t (iCells l)) (i : Nat) (hi : i < l.length) : w.cell? ⟨g, i, none⟩ = some (.int .i64 (l.getD i 0)) :=
  (cell_of_row w g i (iCells l) t (0, 0) h).trans (iCells_get l i hi)
end Go.Proofs.Ytoohahjmiljpgaa
