/-
  Plain facts of layer 2: keyed numbers, keyed orders (changes of places keep each thing once), a frame's rest, its band, chips, place and subsets: no program is named here. No conditions.
-/
import Derived.Test.YtppkiponpjnkkaaDoorMath
namespace Go.Proofs.YtppkiponpjnkkaaDoor
namespace M

/-- A count as a word. -/
def cw (n : Int) : BitVec 64 := BitVec.ofInt 64 n
theorem un_cw (n : Int) : IntKind.u64.wrap n = un (cw n) := by
  rw [IntKind.wrap_u64]; unfold un cw; rw [BitVec.toNat_ofInt]; omega
/-- The text of a sign and a count. -/
def numText (sg : UInt8) (n : Int) : List UInt8 := sg :: bytes8 (cw n)
/-- A keyed number. -/
def num (k : List UInt8) (sg : UInt8) (n : Int) : BitVec 64 := sum k (numText sg n)
theorem numText_length (sg : UInt8) (n : Int) : (numText sg n).length = 9 := rfl
/-- The text, as far as its loop has come. -/
def numU (sg : UInt8) (x : BitVec 64) (j : Nat) : List UInt8 := sg :: ((bytes8 x).take j ++ List.replicate (8 - j) 0)
theorem numU_length (sg : UInt8) (x : BitVec 64) (j : Nat) (h : j ≤ 8) : (numU sg x j).length = 9 := by
  simp [numU, bytes8]; omega
theorem numU_done (sg : UInt8) (n : Int) : numU sg (cw n) 8 = numText sg n := rfl

/-- Two things change places. -/
def swp (l : List Nat) (i j : Nat) : List Nat := (l.set i (l.getD j 0)).set j (l.getD i 0)
theorem swp_length (l : List Nat) (i j : Nat) : (swp l i j).length = l.length := by simp [swp]
theorem swp_perm (l : List Nat) (i j : Nat) (hi : i < l.length) (hj : j < l.length) : (swp l i j).Perm l := by
  unfold swp
  rw [List.getD, List.getD, List.getElem?_eq_getElem hi, List.getElem?_eq_getElem hj]
  exact List.set_set_perm hi hj
/-- An order behind d changes of places. -/
def ordD (f : Nat → Nat) (n : Nat) : Nat → List Nat
  | 0 => List.range n
  | d + 1 => swp (ordD f n d) (n - 1 - d) (f (n - 1 - d))
def ord (f : Nat → Nat) (n : Nat) : List Nat := ordD f n (n - 1)
theorem ordD_length (f : Nat → Nat) (n d : Nat) : (ordD f n d).length = n := by
  induction d with
  | zero => simp [ordD]
  | succ d ih => simp only [ordD, swp_length, ih]
theorem ordD_perm (f : Nat → Nat) (hf : ∀ i, f i ≤ i) (n d : Nat) (hd : d < n) : (ordD f n d).Perm (List.range n) := by
  induction d with
  | zero => exact List.Perm.refl _
  | succ d ih =>
    have h := hf (n - 1 - d)
    exact (swp_perm _ _ _ (by rw [ordD_length]; omega) (by rw [ordD_length]; omega)).trans (ih (by omega))
theorem ordD_lt (f : Nat → Nat) (hf : ∀ i, f i ≤ i) (n d : Nat) (hd : d < n) (x : Nat) (hx : x ∈ ordD f n d) : x < n := by
  have := (ordD_perm f hf n d hd).mem_iff.1 hx
  simpa using this
theorem ord_length (f : Nat → Nat) (n : Nat) : (ord f n).length = n := ordD_length f n _
theorem ord_perm (f : Nat → Nat) (hf : ∀ i, f i ≤ i) (n : Nat) (hn : 1 ≤ n) : (ord f n).Perm (List.range n) := ordD_perm f hf n _ (by omega)
theorem ord_nodup (f : Nat → Nat) (hf : ∀ i, f i ≤ i) (n : Nat) (hn : 1 ≤ n) : (ord f n).Nodup := (ord_perm f hf n hn).nodup_iff.2 List.nodup_range
theorem ord_lt (f : Nat → Nat) (hf : ∀ i, f i ≤ i) (n : Nat) (hn : 1 ≤ n) (x : Nat) (hx : x ∈ ord f n) : x < n := ordD_lt f hf n _ (by omega) x hx
theorem ord_at (f : Nat → Nat) (hf : ∀ i, f i ≤ i) (n i : Nat) (hi : i < n) : (ord f n).getD i 0 < n := by
  refine ord_lt f hf n (by omega) _ ?_
  rw [List.getD, List.getElem?_eq_getElem (by rw [ord_length]; exact hi)]
  exact List.getElem_mem _

/-- Where the keyed number of a sign and i sends what stands at i. -/
def jn (k : List UInt8) (sg : UInt8) (i : Nat) : Nat := (num k sg i).toNat % (i + 1)
theorem jn_le (k : List UInt8) (sg : UInt8) (i : Nat) : jn k sg i ≤ i := by
  have := Nat.mod_lt (num k sg i).toNat (show 0 < i + 1 by omega)
  unfold jn; omega
/-- A keyed order. -/
def kord (k : List UInt8) (sg : UInt8) (n : Nat) : List Nat := ord (jn k sg) n

/-- A frame's rest. -/
def fr (f : Int) : Nat := (f % 1016).toNat
theorem fr_lt (f : Int) : fr f < 1016 := by unfold fr; omega
theorem fr_int (f : Int) : ((fr f : Nat) : Int) = f % 1016 := by unfold fr; omega
def bandOf (k : List UInt8) (f : Int) : Nat := (kord k (UInt8.ofNat (128 + fr f / 8)) 8).getD (fr f % 8) 0
def placeOf (k : List UInt8) (f : Int) : Nat := (kord k 112 127).getD (fr f % 127) 0
theorem bandOf_lt (k : List UInt8) (f : Int) : bandOf k f < 8 := ord_at _ (jn_le _ _) _ _ (by omega)
theorem placeOf_lt (k : List UInt8) (f : Int) : placeOf k f < 127 := ord_at _ (jn_le _ _) _ _ (by omega)
/-- A word's bit. -/
def bitB (x : BitVec 64) (i : Nat) : Bool := x.toNat / 2 ^ i % 2 == 1
theorem bitB_and (x : BitVec 64) (i : Nat) : (bits .and .u64 (un x / 2 ^ i) 1 == 1) = bitB x i := by
  have e : un x / 2 ^ i = ((x.toNat / 2 ^ i : Nat) : Int) := by unfold un; simp
  have hx : x.toNat / 2 ^ i < 18446744073709551616 := Nat.lt_of_le_of_lt (Nat.div_le_self _ _) x.isLt
  have h1 : (1 : Int).toNat = 1 := rfl
  unfold bitB
  rw [e]
  generalize x.toNat / 2 ^ i = m at *
  rw [u64_and _ _ (by omega) (by omega) (by omega) (by omega), h1, show ((m : Nat) : Int).toNat = m by omega, Nat.and_one_is_mod]
  rw [Bool.eq_iff_iff, beq_iff_eq, beq_iff_eq]; omega
/-- Four chips. -/
def chip (x : BitVec 64) (i : Nat) : Int := if bitB x i then -1 else 1
/-- Is a thing in a subset, by bits alone? -/
def subB (x : BitVec 64) (b i : Nat) : Bool := bitB x (4 * b + i)
def none4 (x : BitVec 64) (b : Nat) : Bool := !(subB x b 0 || subB x b 1 || subB x b 2 || subB x b 3)
end M
end Go.Proofs.YtppkiponpjnkkaaDoor
