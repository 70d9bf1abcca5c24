/-
  Promises 9.1 and 9.2, LiftUnlike: unlike pairs are turned to unlike ones. No conditions but five ints.
-/
import Derived.Test.YtdimbgkjonimmaaEi
namespace Go.Proofs.Ytdimbgkjonimmaa
open Go.RowKit
open M
set_option maxHeartbeats 2000000 in
set_option maxRecDepth 100000 in
theorem unlike_law (a b c d k : Int) (w : World) (hk : -9223372036854775808 ≤ k ∧ k ≤ 9223372036854775807) :
    Calls Try.prog 4 #[.int .i64 a, .int .i64 b, .int .i64 c, .int .i64 d, .int .i64 k] w fun e w' => e = .returned (.bool true) ∧ Below w.heap.size w w' := by
  have hk1 := hk.1
  have hk2 := hk.2
  clear hk
  have HPV := Lib.hid (hld_pair a b)
  have HPU := Lib.hid (hld_pair c d)
  have HI := Lib.hid (fun h => lft_inj (hld a, hld b) (hld c, hld d) k h)
  obtain ⟨a1, ha1⟩ : ∃ x, hld a = x := ⟨_, rfl⟩
  obtain ⟨b1, hb1⟩ : ∃ x, hld b = x := ⟨_, rfl⟩
  obtain ⟨c1, hc1⟩ : ∃ x, hld c = x := ⟨_, rfl⟩
  obtain ⟨d1, hd1⟩ : ∃ x, hld d = x := ⟨_, rfl⟩
  rw [ha1, hb1] at HPV
  rw [hc1, hd1] at HPU
  rw [ha1, hb1, hc1, hd1] at HI
  have Ha := Lib.hid ha1
  clear ha1
  have Hb := Lib.hid hb1
  clear hb1
  have Hc := Lib.hid hc1
  clear hc1
  have Hd := Lib.hid hd1
  clear hd1
  by_cases hab : a1 = c1 ∧ b1 = d1
  · obtain ⟨rfl, rfl⟩ := hab
    obtain ⟨p, hp⟩ : ∃ P, lft (a1, b1) k = P := ⟨_, rfl⟩
    have HNp := Lib.hid hp
    clear hp
    obtain ⟨p1, p2⟩ := p
    have HNq : Hid (lft (a1, b1) k = (p1, p2)) := HNp
    go_enter Try.func4, Try.ntmps4
    go_wp2_with fail
    refine (awake_any _).mono ?_
    rintro e w1 ⟨rfl, hb⟩
    have HB1 := Lib.hid hb
    clear hb
    go_wp2_with fail
    refine (hld_any a _).mono ?_
    rintro e w' ⟨rfl, rfl⟩
    rw [Ha.out]
    go_wp2_with fail
    refine (hld_any b _).mono ?_
    rintro e w' ⟨rfl, rfl⟩
    rw [Hb.out]
    go_wp2_with fail
    refine (turn_in (a1, b1) k _ (HPV.out.more (by omega)) hk1 hk2).mono ?_
    rintro e w2 ⟨rfl, hb⟩
    have HB2 := Lib.hid (HB1.out.trans (hb.mono HB1.out.size))
    clear hb HB1
    rw [HNp.out]
    go_wp2_with fail
    refine (hld_any c _).mono ?_
    rintro e w' ⟨rfl, rfl⟩
    rw [Hc.out]
    go_wp2_with fail
    refine (hld_any d _).mono ?_
    rintro e w' ⟨rfl, rfl⟩
    rw [Hd.out]
    go_wp2_with fail
    refine (turn_in (a1, b1) k _ (HPV.out.more (by omega)) hk1 hk2).mono ?_
    rintro e w3 ⟨rfl, hb⟩
    have HB3 := Lib.hid (HB2.out.trans (hb.mono HB2.out.size))
    clear hb HB2
    rw [HNq.out]
    go_wp2_with fail
    refine (hld_any a _).mono ?_
    rintro e w' ⟨rfl, rfl⟩
    rw [Ha.out]
    go_wp2_with fail
    refine (hld_any c _).mono ?_
    rintro e w' ⟨rfl, rfl⟩
    rw [Hc.out]
    go_wp2_with fail
    refine (hld_any b _).mono ?_
    rintro e w' ⟨rfl, rfl⟩
    rw [Hb.out]
    go_wp2_with fail
    refine (hld_any d _).mono ?_
    rintro e w' ⟨rfl, rfl⟩
    rw [Hd.out]
    go_wp2
    go_ret
    exact ⟨rfl, HB3.out⟩
  · have HX : Hid (∀ P Q : Int × Int, lft (a1, b1) k = P → lft (c1, d1) k = Q → ¬ (P.1 = Q.1 ∧ P.2 = Q.2)) := by
      rintro P Q h1 h2 ⟨e1, e2⟩
      have := HI.out (h1.trans ((Prod.ext e1 e2).trans h2.symm))
      exact hab (Prod.mk.inj this)
    obtain ⟨p, hp⟩ : ∃ P, lft (a1, b1) k = P := ⟨_, rfl⟩
    have HNp := Lib.hid hp
    clear hp
    obtain ⟨p1, p2⟩ := p
    obtain ⟨q, hq⟩ : ∃ P, lft (c1, d1) k = P := ⟨_, rfl⟩
    have HNq := Lib.hid hq
    clear hq
    obtain ⟨q1, q2⟩ := q
    have hne := HX.out _ _ HNp.out HNq.out
    dsimp only at hne
    clear HX HI
    by_cases he : p1 = q1
    · have hf : ¬ p2 = q2 := fun h => hne ⟨he, h⟩
      clear hne
      subst he
      by_cases hg : a1 = c1
      · have hh : ¬ b1 = d1 := fun h => hab ⟨hg, h⟩
        clear hab
        subst hg
        go_enter Try.func4, Try.ntmps4
        go_wp2_with fail
        refine (awake_any _).mono ?_
        rintro e w1 ⟨rfl, hb⟩
        have HB1 := Lib.hid hb
        clear hb
        go_wp2_with fail
        refine (hld_any a _).mono ?_
        rintro e w' ⟨rfl, rfl⟩
        rw [Ha.out]
        go_wp2_with fail
        refine (hld_any b _).mono ?_
        rintro e w' ⟨rfl, rfl⟩
        rw [Hb.out]
        go_wp2_with fail
        refine (turn_in (a1, b1) k _ (HPV.out.more (by omega)) hk1 hk2).mono ?_
        rintro e w2 ⟨rfl, hb⟩
        have HB2 := Lib.hid (HB1.out.trans (hb.mono HB1.out.size))
        clear hb HB1
        rw [HNp.out]
        go_wp2_with fail
        refine (hld_any c _).mono ?_
        rintro e w' ⟨rfl, rfl⟩
        rw [Hc.out]
        go_wp2_with fail
        refine (hld_any d _).mono ?_
        rintro e w' ⟨rfl, rfl⟩
        rw [Hd.out]
        go_wp2_with fail
        refine (turn_in (a1, d1) k _ (HPU.out.more (by omega)) hk1 hk2).mono ?_
        rintro e w3 ⟨rfl, hb⟩
        have HB3 := Lib.hid (HB2.out.trans (hb.mono HB2.out.size))
        clear hb HB2
        rw [HNq.out]
        go_wp2_with fail
        refine (hld_any a _).mono ?_
        rintro e w' ⟨rfl, rfl⟩
        rw [Ha.out]
        go_wp2_with fail
        refine (hld_any c _).mono ?_
        rintro e w' ⟨rfl, rfl⟩
        rw [Hc.out]
        go_wp2_with fail
        refine (hld_any b _).mono ?_
        rintro e w' ⟨rfl, rfl⟩
        rw [Hb.out]
        go_wp2_with fail
        refine (hld_any d _).mono ?_
        rintro e w' ⟨rfl, rfl⟩
        rw [Hd.out]
        go_wp2
        go_ret
        refine ⟨?_, HB3.out⟩
        exact congrArg (fun b => Ending.returned (Value.bool b)) (by rw [show (p2 == q2) = false from beq_eq_false_iff_ne.2 hf, show (b1 == d1) = false from beq_eq_false_iff_ne.2 hh]; rfl)
      · clear hab
        go_enter Try.func4, Try.ntmps4
        go_wp2_with fail
        refine (awake_any _).mono ?_
        rintro e w1 ⟨rfl, hb⟩
        have HB1 := Lib.hid hb
        clear hb
        go_wp2_with fail
        refine (hld_any a _).mono ?_
        rintro e w' ⟨rfl, rfl⟩
        rw [Ha.out]
        go_wp2_with fail
        refine (hld_any b _).mono ?_
        rintro e w' ⟨rfl, rfl⟩
        rw [Hb.out]
        go_wp2_with fail
        refine (turn_in (a1, b1) k _ (HPV.out.more (by omega)) hk1 hk2).mono ?_
        rintro e w2 ⟨rfl, hb⟩
        have HB2 := Lib.hid (HB1.out.trans (hb.mono HB1.out.size))
        clear hb HB1
        rw [HNp.out]
        go_wp2_with fail
        refine (hld_any c _).mono ?_
        rintro e w' ⟨rfl, rfl⟩
        rw [Hc.out]
        go_wp2_with fail
        refine (hld_any d _).mono ?_
        rintro e w' ⟨rfl, rfl⟩
        rw [Hd.out]
        go_wp2_with fail
        refine (turn_in (c1, d1) k _ (HPU.out.more (by omega)) hk1 hk2).mono ?_
        rintro e w3 ⟨rfl, hb⟩
        have HB3 := Lib.hid (HB2.out.trans (hb.mono HB2.out.size))
        clear hb HB2
        rw [HNq.out]
        go_wp2_with fail
        refine (hld_any a _).mono ?_
        rintro e w' ⟨rfl, rfl⟩
        rw [Ha.out]
        go_wp2_with fail
        refine (hld_any c _).mono ?_
        rintro e w' ⟨rfl, rfl⟩
        rw [Hc.out]
        go_wp2
        go_ret
        refine ⟨?_, HB3.out⟩
        exact congrArg (fun b => Ending.returned (Value.bool b)) (by rw [show (p2 == q2) = false from beq_eq_false_iff_ne.2 hf]; rfl)
    · clear hne
      by_cases hg : a1 = c1
      · have hh : ¬ b1 = d1 := fun h => hab ⟨hg, h⟩
        clear hab
        subst hg
        go_enter Try.func4, Try.ntmps4
        go_wp2_with fail
        refine (awake_any _).mono ?_
        rintro e w1 ⟨rfl, hb⟩
        have HB1 := Lib.hid hb
        clear hb
        go_wp2_with fail
        refine (hld_any a _).mono ?_
        rintro e w' ⟨rfl, rfl⟩
        rw [Ha.out]
        go_wp2_with fail
        refine (hld_any b _).mono ?_
        rintro e w' ⟨rfl, rfl⟩
        rw [Hb.out]
        go_wp2_with fail
        refine (turn_in (a1, b1) k _ (HPV.out.more (by omega)) hk1 hk2).mono ?_
        rintro e w2 ⟨rfl, hb⟩
        have HB2 := Lib.hid (HB1.out.trans (hb.mono HB1.out.size))
        clear hb HB1
        rw [HNp.out]
        go_wp2_with fail
        refine (hld_any c _).mono ?_
        rintro e w' ⟨rfl, rfl⟩
        rw [Hc.out]
        go_wp2_with fail
        refine (hld_any d _).mono ?_
        rintro e w' ⟨rfl, rfl⟩
        rw [Hd.out]
        go_wp2_with fail
        refine (turn_in (a1, d1) k _ (HPU.out.more (by omega)) hk1 hk2).mono ?_
        rintro e w3 ⟨rfl, hb⟩
        have HB3 := Lib.hid (HB2.out.trans (hb.mono HB2.out.size))
        clear hb HB2
        rw [HNq.out]
        go_wp2_with fail
        refine (hld_any a _).mono ?_
        rintro e w' ⟨rfl, rfl⟩
        rw [Ha.out]
        go_wp2_with fail
        refine (hld_any c _).mono ?_
        rintro e w' ⟨rfl, rfl⟩
        rw [Hc.out]
        go_wp2_with fail
        refine (hld_any b _).mono ?_
        rintro e w' ⟨rfl, rfl⟩
        rw [Hb.out]
        go_wp2_with fail
        refine (hld_any d _).mono ?_
        rintro e w' ⟨rfl, rfl⟩
        rw [Hd.out]
        go_wp2
        go_ret
        refine ⟨?_, HB3.out⟩
        exact congrArg (fun b => Ending.returned (Value.bool b)) (by rw [show (b1 == d1) = false from beq_eq_false_iff_ne.2 hh]; rfl)
      · clear hab
        go_enter Try.func4, Try.ntmps4
        go_wp2_with fail
        refine (awake_any _).mono ?_
        rintro e w1 ⟨rfl, hb⟩
        have HB1 := Lib.hid hb
        clear hb
        go_wp2_with fail
        refine (hld_any a _).mono ?_
        rintro e w' ⟨rfl, rfl⟩
        rw [Ha.out]
        go_wp2_with fail
        refine (hld_any b _).mono ?_
        rintro e w' ⟨rfl, rfl⟩
        rw [Hb.out]
        go_wp2_with fail
        refine (turn_in (a1, b1) k _ (HPV.out.more (by omega)) hk1 hk2).mono ?_
        rintro e w2 ⟨rfl, hb⟩
        have HB2 := Lib.hid (HB1.out.trans (hb.mono HB1.out.size))
        clear hb HB1
        rw [HNp.out]
        go_wp2_with fail
        refine (hld_any c _).mono ?_
        rintro e w' ⟨rfl, rfl⟩
        rw [Hc.out]
        go_wp2_with fail
        refine (hld_any d _).mono ?_
        rintro e w' ⟨rfl, rfl⟩
        rw [Hd.out]
        go_wp2_with fail
        refine (turn_in (c1, d1) k _ (HPU.out.more (by omega)) hk1 hk2).mono ?_
        rintro e w3 ⟨rfl, hb⟩
        have HB3 := Lib.hid (HB2.out.trans (hb.mono HB2.out.size))
        clear hb HB2
        rw [HNq.out]
        go_wp2_with fail
        refine (hld_any a _).mono ?_
        rintro e w' ⟨rfl, rfl⟩
        rw [Ha.out]
        go_wp2_with fail
        refine (hld_any c _).mono ?_
        rintro e w' ⟨rfl, rfl⟩
        rw [Hc.out]
        go_wp2
        go_ret
        refine ⟨?_, HB3.out⟩
        rfl
end Go.Proofs.Ytdimbgkjonimmaa
