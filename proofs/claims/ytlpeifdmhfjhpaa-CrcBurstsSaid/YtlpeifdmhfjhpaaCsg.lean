/-
  Layer 15: the law CrcUnlike. No conditions beyond the law's own.
-/
import Derived.Test.YtlpeifdmhfjhpaaCsd
import Derived.Test.YtlpeifdmhfjhpaaCsf
import Derived.Test.YtlpeifdmhfjhpaaBi
namespace Go.Proofs.Ytlpeifdmhfjhpaa
open Go.RowKit
open M
/-- A text whose first i bytes are made one with another one's. -/
def xz15 (l u : List UInt8) (i : Nat) : List UInt8 := (List.range l.length).map fun k => if k < i then l.getD k 0 ^^^ u.getD k 0 else l.getD k 0
theorem xz_len (l u : List UInt8) (i : Nat) : (xz15 l u i).length = l.length := by simp [xz15]
theorem xz_at (l u : List UInt8) (i k : Nat) (h : k < l.length) : (xz15 l u i).getD k 0 = if k < i then l.getD k 0 ^^^ u.getD k 0 else l.getD k 0 := by
  simp only [xz15, List.getD_eq_getElem?_getD, List.getElem?_map, List.getElem?_range h, Option.map_some, Option.getD_some]
theorem getD_ext8 (L M : List UInt8) (h : L.length = M.length) (k : ∀ j, j < L.length → L.getD j 0 = M.getD j 0) : L = M := by
  apply List.ext_getElem h
  intro j h1 h2
  have := k j h1
  rw [List.getD_eq_getElem?_getD, List.getD_eq_getElem?_getD, List.getElem?_eq_getElem h1, List.getElem?_eq_getElem h2] at this
  simpa using this
theorem xz_zero (l u : List UInt8) : xz15 l u 0 = l := getD_ext8 _ _ (xz_len l u 0) fun j hj => by
  rw [xz_at _ _ _ _ (by rwa [xz_len] at hj), if_neg (by omega)]
theorem xz_step (l u : List UInt8) (i : Nat) (h : i < l.length) : (xz15 l u i).set i (l.getD i 0 ^^^ u.getD i 0) = xz15 l u (i + 1) := getD_ext8 _ _ (by simp [xz_len]) fun j hj => by
  have hj2 : j < l.length := by simpa [xz_len] using hj
  rw [gD_set _ _ _ _ _ (by rw [xz_len]; exact h), xz_at _ _ _ _ hj2, xz_at _ _ _ _ hj2]
  by_cases e : i = j
  · subst e
    rw [if_pos rfl, if_pos (by omega)]
  · rw [if_neg e]
    by_cases h2 : j < i
    · rw [if_pos h2, if_pos (by omega)]
    · rw [if_neg h2, if_neg (by omega)]
theorem tbt_xz (l u : List UInt8) (h : l.length = u.length) : tbt (xz15 l u l.length) = List.zipWith (· != ·) (tbt l) (tbt u) := getD_ext _ _ (by rw [tbt_len, xz_len, List.length_zipWith, tbt_len, tbt_len, h, Nat.min_self]) fun j hj => by
  rw [tbt_len, xz_len] at hj
  rw [zip_at _ _ (by rw [tbt_len, tbt_len, h]) _ (by rw [tbt_len]; exact hj), tbt_at _ _ (by rw [xz_len]; exact hj), tbt_at _ _ hj, tbt_at _ _ (by omega), bt_test, bt_test, bt_test, xz_at _ _ _ _ (by omega), if_pos (by omega), UInt8.toNat_xor, Nat.testBit_xor]
/-- A text's sum, made one with that of the text changed, is the change's own. -/
theorem sm_change (r : Int) (l u : List UInt8) (h : l.length = u.length) : sm15 r l ^^^ sm15 r (xz15 l u l.length) = (crun 0 (tbt u)).toNat := by
  have e : ∀ m : List UInt8, sm15 r m = (crun (BitVec.ofNat 16 (r % 65536).toNat) (tbt m)).toNat := fun _ => rfl
  rw [e, e, tbt_xz l u h]
  generalize BitVec.ofNat 16 (r % 65536).toNat = R
  have hx := crun_xor (tbt l) (tbt u) R 0 (by rw [tbt_len, tbt_len, h])
  rw [show R ^^^ 0 = R from BitVec.xor_zero] at hx
  rw [hx, ← BitVec.toNat_xor, ← BitVec.xor_assoc, BitVec.xor_self, BitVec.zero_xor]
theorem sm15_lt65 (r : Int) (l : List UInt8) : sm15 r l < 65536 := (crun _ _).isLt
end Go.Proofs.Ytlpeifdmhfjhpaa
