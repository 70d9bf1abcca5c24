/-
  Promises 9.1 and 9.2, LiftTwice: a turn behind a turn is nearly the turn by both angles. No conditions but four ints.
-/
import Derived.Test.YtdimbgkjonimmaaEi
namespace Go.Proofs.Ytdimbgkjonimmaa
open Go.RowKit
open M
set_option maxRecDepth 100000 in
theorem twice_law (a b j k : Int) (w : World)  :
    Calls Try.prog 9 #[.int .i64 a, .int .i64 b, .int .i64 j, .int .i64 k] w fun e w' => e = .returned (.bool true) ∧ Below w.heap.size w w' := by
  have hsb := tmod_bd j 100000 (by omega)
  obtain ⟨s, hs⟩ : ∃ z, j.tmod 100000 = z := ⟨_, rfl⟩
  rw [hs] at hsb
  have Hs := Lib.hid hs
  clear hs
  have htb := tmod_bd k 100000 (by omega)
  obtain ⟨t, ht⟩ : ∃ z, k.tmod 100000 = z := ⟨_, rfl⟩
  rw [ht] at htb
  have Ht := Lib.hid ht
  clear ht
  have HPV := Lib.hid (hld_pair a b)
  obtain ⟨x, hx⟩ : ∃ x, hld a = x := ⟨_, rfl⟩
  obtain ⟨y, hy⟩ : ∃ x, hld b = x := ⟨_, rfl⟩
  rw [hx, hy] at HPV
  have Hx := Lib.hid hx
  have Hy := Lib.hid hy
  clear hx hy
  have hxb := HPV.out.a1
  have hxc := HPV.out.a2
  have hyb := HPV.out.b1
  have hyc := HPV.out.b2
  dsimp only at hxb hxc hyb hyc
  have HBA := Lib.hid (lft_bd HPV.out (by omega) s)
  have HBC := Lib.hid (lft_bd HPV.out (by omega) (s + t))
  have HTW := Lib.hid (fun m h1 h2 h3 h4 => lft_twice (x, y) s t m h1 h2 h3 h4)
  obtain ⟨c, hc⟩ : ∃ P, lft (x, y) s = P := ⟨_, rfl⟩
  rw [hc] at HBA HTW
  have HNc := Lib.hid hc
  clear hc
  have HBE := Lib.hid (lft_bd HBA.out (by omega) t)
  obtain ⟨e, he⟩ : ∃ P, lft c t = P := ⟨_, rfl⟩
  rw [he] at HBE HTW
  have HNe := Lib.hid he
  clear he
  obtain ⟨e1, e2⟩ := e
  obtain ⟨g, hg⟩ : ∃ P, lft (x, y) (s + t) = P := ⟨_, rfl⟩
  rw [hg] at HBC HTW
  have HNg := Lib.hid hg
  clear hg
  obtain ⟨g1, g2⟩ := g
  obtain ⟨c1, c2⟩ := c
  obtain ⟨m, hm⟩ : ∃ m, mx4 x y = m := ⟨_, rfl⟩
  have hmx := fun w => (max4 x y w).trans (by rw [hm])
  have HMX := Lib.hid hmx
  clear hmx
  have HMB := Lib.hid (mx4_is x y)
  rw [hm] at HMB
  have HFIN := Lib.hid (HTW.out m HMB.out.1.1 HMB.out.1.2 HMB.out.2.1.1 HMB.out.2.1.2)
  have hmb : 0 ≤ m ∧ m ≤ 1073741824 := by have := HMB.out; omega
  clear hm HTW
  go_enter Try.func9, Try.ntmps9
  go_wp2_with fail
  refine (awake_any _).mono ?_
  rintro e w1 ⟨rfl, hb⟩
  have HB1 := Lib.hid hb
  clear hb
  go_wp2_with fail
  refine (hld_any a _).mono ?_
  rintro e w' ⟨rfl, rfl⟩
  rw [Hx.out]
  go_wp2_with fail
  refine (hld_any b _).mono ?_
  rintro e w' ⟨rfl, rfl⟩
  rw [Hy.out]
  have hs := Hs.out
  have ht := Ht.out
  go_wp2_with fail
  refine (turn_in (x, y) s _ (HPV.out.more (by omega)) (by omega) (by omega)).mono ?_
  rintro e w2 ⟨rfl, hb⟩
  have HB2 := Lib.hid (HB1.out.trans (hb.mono HB1.out.size))
  clear hb HB1
  rw [HNc.out]
  go_wp2_with fail
  refine (turn_in (c1, c2) t _ (HBA.out.more (by omega)) (by omega) (by omega)).mono ?_
  rintro e w3 ⟨rfl, hb⟩
  have HB3 := Lib.hid (HB2.out.trans (hb.mono HB2.out.size))
  clear hb HB2
  rw [HNe.out]
  go_wp2_with fail
  refine (turn_in (x, y) (s + t) _ (HPV.out.more (by omega)) (by omega) (by omega)).mono ?_
  rintro e w4 ⟨rfl, hb⟩
  have HB4 := Lib.hid (HB3.out.trans (hb.mono HB3.out.size))
  clear hb HB3
  rw [HNg.out]
  have hmx := HMX.out
  have hfin := HFIN.out
  have r1 := HBE.out.a1
  have r2 := HBE.out.a2
  have r3 := HBE.out.b1
  have r4 := HBE.out.b2
  have r5 := HBC.out.a1
  have r6 := HBC.out.a2
  have r7 := HBC.out.b1
  have r8 := HBC.out.b2
  dsimp only at r1 r2 r3 r4 r5 r6 r7 r8
  go_wp2
  go_ret
  exact ⟨congrArg (fun b => Ending.returned (Value.bool b)) (decide_eq_true (by omega)), HB4.out⟩
end Go.Proofs.Ytdimbgkjonimmaa
