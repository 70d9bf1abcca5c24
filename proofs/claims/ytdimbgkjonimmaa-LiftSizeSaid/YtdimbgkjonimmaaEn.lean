/-
  Promise 9.2, LiftSize: the squares' sum stays, but for a small part. No conditions but three ints.
-/
import Derived.Test.YtdimbgkjonimmaaEi
namespace Go.Proofs.Ytdimbgkjonimmaa
open Go.RowKit
open M
theorem tdiv16 (n : Int) (h1 : -1073741824 ≤ n) (h2 : n ≤ 1073741824) : -67108864 ≤ n.tdiv 16 ∧ n.tdiv 16 ≤ 67108864 := by
  rcases (show n < 0 ∨ 0 ≤ n by omega) with e | e
  · obtain ⟨m, rfl⟩ : ∃ m : Int, n = -m := ⟨-n, by omega⟩
    rw [Int.neg_tdiv, Int.tdiv_eq_ediv_of_nonneg (by omega)]
    omega
  · rw [Int.tdiv_eq_ediv_of_nonneg e]
    omega
theorem sq_at (x b : Int) (h1 : -b ≤ x) (h2 : x ≤ b) : 0 ≤ x * x ∧ x * x ≤ b * b := ⟨sqnn x, (mulb x x b b h1 h2 h1 h2).2⟩
set_option maxRecDepth 100000 in
theorem size_law (a b k : Int) (w : World) (hk : -9223372036854775808 ≤ k ∧ k ≤ 9223372036854775807) :
    Calls Try.prog 6 #[.int .i64 a, .int .i64 b, .int .i64 k] w fun e w' => e = .returned (.bool true) ∧ Below w.heap.size w w' := by
  have hk1 := hk.1
  have hk2 := hk.2
  clear hk
  have hxb := tdiv16 (hld a) (hld_bd a).1 (hld_bd a).2
  obtain ⟨x, hx⟩ : ∃ x, (hld a).tdiv 16 = x := ⟨_, rfl⟩
  rw [hx] at hxb
  have Hx := Lib.hid hx
  have hyb := tdiv16 (hld b) (hld_bd b).1 (hld_bd b).2
  obtain ⟨y, hy⟩ : ∃ x, (hld b).tdiv 16 = x := ⟨_, rfl⟩
  rw [hy] at hyb
  have Hy := Lib.hid hy
  have HPV : Hid (Bd 67108864 (x, y)) := ⟨hxb.1, hxb.2, hyb.1, hyb.2⟩
  have HBA := Lib.hid (lft_bd HPV.out (by omega) k)
  have HSZ := Lib.hid (fun m h1 h2 h3 h4 h5 => lft_size (x, y) k m h1 h2 h3 h4 h5)
  obtain ⟨c, hc⟩ : ∃ P, lft (x, y) k = P := ⟨_, rfl⟩
  rw [hc] at HBA HSZ
  have HNc := Lib.hid hc
  clear hc
  obtain ⟨c1, c2⟩ := c
  have HC1 := Lib.hid (sq_at x 67108864 hxb.1 hxb.2)
  have HC2 := Lib.hid (sq_at y 67108864 hyb.1 hyb.2)
  have HC3 := Lib.hid (sq_at c1 536870919 HBA.out.a1 HBA.out.a2)
  have HC4 := Lib.hid (sq_at c2 536870919 HBA.out.b1 HBA.out.b2)
  go_enter Try.func6, Try.ntmps6
  go_wp2_with fail
  refine (awake_any _).mono ?_
  rintro e w1 ⟨rfl, hb⟩
  have HB1 := Lib.hid hb
  clear hb
  go_wp2_with fail
  refine (hld_any a _).mono ?_
  rintro e w' ⟨rfl, rfl⟩
  go_wp2_with fail
  refine (hld_any b _).mono ?_
  rintro e w' ⟨rfl, rfl⟩
  go_wp2_with fail
  refine (turn_in (x, y) k _ (HPV.out.more (by omega)) hk1 hk2).mono ?_
  rintro e w2 ⟨rfl, hb⟩
  have HB2 := Lib.hid (HB1.out.trans (hb.mono HB1.out.size))
  clear hb HB1
  rw [HNc.out]
  have q1 := HC1.out
  have q2 := HC2.out
  have q3 := HC3.out
  have q4 := HC4.out
  obtain ⟨m, hm⟩ : ∃ m, mx4 x y = m := ⟨_, rfl⟩
  have hmx := fun w => (max4 x y w).trans (by rw [hm])
  have HMB := Lib.hid (mx4_is x y)
  rw [hm] at HMB
  have hfin := HSZ.out m (by have := HMB.out; omega) (by have := HMB.out; omega) (by have := HMB.out; omega) (by have := HMB.out; omega) HMB.out.2.2.2.2
  have hmb : 0 ≤ m ∧ m ≤ 67108864 := by have := HMB.out; omega
  clear hm HSZ
  obtain ⟨P, hP⟩ : ∃ P, x * x + y * y = P := ⟨_, rfl⟩
  obtain ⟨R, hR⟩ : ∃ P, c1 * c1 + c2 * c2 = P := ⟨_, rfl⟩
  rw [hP, hR] at hfin
  have hPb : 0 ≤ P ∧ P ≤ 9007199254740992 := by omega
  have hRb : 0 ≤ R ∧ R ≤ 576460773339127122 := by omega
  go_wp2
  go_ret
  exact ⟨rfl, HB2.out⟩
end Go.Proofs.Ytdimbgkjonimmaa
