/-
  MidPlays walked: the middle and the side of any two, and the way back, are the reference's; of lists, one by one. Conditions: a list of numbers, as it lies.
-/
import Derived.Test.YtpfdjddjoclldaaCo
import Derived.Test.YtpfdjddjoclldaaCh
import Derived.Test.YtpfdjddjoclldaaCi
import Derived.Deep.QuietTactic
namespace Go.Proofs.Ytpfdjddjoclldaa
open Go.RowKit
open M
theorem any_range12 (l : List Int) (h : l.any (byd 1048576) = false) : ∀ x ∈ l, -1048576 ≤ x ∧ x ≤ 1048576 := fun x hx => by
  have := List.any_eq_false.1 h x hx
  simp only [byd, decide_eq_true_eq] at this
  omega
set_option maxRecDepth 100000 in
set_option maxHeartbeats 2000000 in
theorem plays12_law (l : List Int) (v : Value) (p0 q0 : Int) (w : World) (hv : IntsAt w v l) (hl : l.length ≤ maxLen) :
    Calls Try.prog 6 #[v, .int .i64 p0, .int .i64 q0] w fun e w' => e = .returned (.bool true) ∧ Below w.heap.size w w' := by
  by_cases h4 : 400 < l.length
  · obtain ⟨a, cap, rfl, _⟩ := hv
    obtain ⟨L, hL⟩ : ∃ L, l.length = L := ⟨_, rfl⟩
    rw [hL] at hl h4 ⊢
    clear hL
    unfold maxLen at hl
    have b1 : (L : Int) ≤ 9223372036854775807 := by omega
    have b2 : (400 : Int) < (L : Int) := by omega
    clear hl h4
    go_enter Try.func6, Try.ntmps6
    go_wp2_with (refine (awake12_any _).mono ?_; rintro e w' ⟨rfl, rfl⟩)
    go_ret
    exact ⟨rfl, Below.refl _ _⟩
  · have HV := Lib.hid hv
    have hl4 : l.length ≤ 400 := by omega
    obtain ⟨a, cap, rfl, hcell⟩ := hv
    have HODD := Lib.hid fun w h h2 => split_odd l (.slice a l.length cap) w h (by omega) h2
    have HFAR := Lib.hid fun w h h2 h3 => split_far l (.slice a l.length cap) w h (by omega) h2 h3
    have HIN := Lib.hid fun n w h h2 h3 => split_in l n (.slice a l.length cap) w h (by omega) h2 h3
    have HCELL := Lib.hid hcell
    obtain ⟨L, hL⟩ : ∃ L, l.length = L := ⟨_, rfl⟩
    have HL := Lib.hid fun _ : Unit => hL
    rw [hL] at HV HODD HFAR HIN HCELL hl4 ⊢
    have b3 : ¬ ((400 : Int) < (L : Int)) := by omega
    have HX := Lib.hid fun w => held40_any p0 w
    have HY := Lib.hid fun w => held40_any q0 w
    have bx := h40_bd p0
    have bY := h40_bd q0
    obtain ⟨x, hx⟩ : ∃ x, h40 p0 = x := ⟨_, rfl⟩
    obtain ⟨y, hy⟩ : ∃ y, h40 q0 = y := ⟨_, rfl⟩
    rw [hx] at HX bx
    rw [hy] at HY bY
    have H1 := Lib.hid fun w => of_any x y w (by omega) (by omega) (by omega) (by omega)
    have H2 := Lib.hid fun w => rof_any x y w (by omega) (by omega) (by omega) (by omega)
    have H3 := Lib.hid fun w => back12_any x y w (by omega) (by omega) (by omega) (by omega)
    have H4 := Lib.hid fun w => rback_any x y w (by omega) (by omega) (by omega) (by omega)
    clear hl h4 hL hcell hx hy bx bY
    generalize mdl x y = p at *
    generalize mdb x y = q at *
    obtain ⟨p1, p2⟩ := p
    obtain ⟨q1, q2⟩ := q
    dsimp only at H1 H2 H3 H4
    go_enter Try.func6, Try.ntmps6
    go_wp2_with fail
    refine (awake12_any w).mono ?_
    rintro e w' ⟨rfl, rfl⟩
    go_wp2_with fail
    refine (HX.out w).mono ?_
    rintro e w' ⟨rfl, rfl⟩
    go_wp2_with fail
    refine (HY.out w).mono ?_
    rintro e w' ⟨rfl, rfl⟩
    go_wp2_with fail
    refine (H1.out w).mono ?_
    rintro e w' ⟨rfl, rfl⟩
    go_wp2_with fail
    refine (H2.out w).mono ?_
    rintro e w' ⟨rfl, rfl⟩
    go_wp2_with fail
    refine (H3.out w).mono ?_
    rintro e w' ⟨rfl, rfl⟩
    go_wp2_with fail
    refine (H4.out w).mono ?_
    rintro e w' ⟨rfl, rfl⟩
    clear HX HY H1 H2 H3 H4
    go_wp2_with fail
    rcases Nat.mod_two_eq_zero_or_one L with h0 | h0
    · cases hf : l.any (byd 1048576)
      · have hlen := HL.out ()
        obtain ⟨n, hn⟩ : ∃ n, L / 2 = n := ⟨_, rfl⟩
        have hLn : L = 2 * n := by omega
        have hrg := any_range12 l hf
        have HS := Lib.hid (HIN.out n w HV.out hLn hrg)
        have HGB := Lib.hid fun p => M.getD_bd l 1048576 (by decide) hrg p
        have HML : Hid ((mids l).length = n) := Lib.hid (by rw [mids_len, hlen, hn])
        have HSL : Hid ((sids l).length = n) := Lib.hid (by rw [sids_len, hlen, hn])
        have HMG : Hid (∀ k, k < n → (mids l).getD k 0 = (mdl (l.getD (2 * k) 0) (l.getD (2 * k + 1) 0)).1) := Lib.hid fun k hk => by unfold mids; rw [tb_getD _ _ _ _ (by omega)]; rfl
        have HSG : Hid (∀ k, k < n → (sids l).getD k 0 = (mdl (l.getD (2 * k) 0) (l.getD (2 * k + 1) 0)).2) := Lib.hid fun k hk => by unfold sids; rw [tb_getD _ _ _ _ (by omega)]; rfl
        generalize mids l = M12 at *
        generalize sids l = S12 at *
        clear HODD HFAR HIN hf hrg hlen hn h0
        have HLN := Lib.hid fun _ : Unit => hLn
        have hn2 : n ≤ 200 := by omega
        clear hLn
        refine HS.out.mono ?_
        rintro e w2 ⟨⟨gm, gs, _, _, _, rfl, rm, rs⟩, hb2⟩
        have HM2 := Lib.hid rm
        have HS2 := Lib.hid rs
        have HB2 := Lib.hid hb2
        have HLT := Lib.hid (And.intro (Row.lt rm) (Row.lt rs))
        clear rm rs hb2 HS
        go_wp2_with fail
        go_loopw [20] (fun ii wr => ∃ k : Nat, k ≤ n ∧ ii = .int .i64 k ∧ Below w2.heap.size w2 wr) (fun ii _ => n - (intOf ii).toNat)
        case atStart => exact ⟨0, by omega, rfl, Below.refl _ _⟩
        case round =>
          obtain ⟨k, hk, rfl, hb⟩ := hrel
          have HB := Lib.hid hb
          rcases Nat.lt_or_ge k n with hlt | hge
          · have hLn := HLN.out ()
            obtain ⟨b, off, rfl, hbs, hcs⟩ := HCELL.out (by omega)
            have HBW := Lib.hid (HB2.out.trans (hb.mono HB2.out.size))
            have c0 := (HBW.out.cell (p := ⟨b, off + 2 * k, none⟩) hbs).trans (hcs (2 * k) (by omega))
            have c1 := (HBW.out.cell (p := ⟨b, off + (2 * k + 1), none⟩) hbs).trans (hcs (2 * k + 1) (by omega))
            have d0 := (hb.cell (p := ⟨gm, k, none⟩) HLT.out.1).trans (i_at HM2.out k (by rw [HML.out]; exact hlt))
            have d1 := (hb.cell (p := ⟨gs, k, none⟩) HLT.out.2).trans (i_at HS2.out k (by rw [HSL.out]; exact hlt))
            have g0 := HGB.out (2 * k)
            have g1 := HGB.out (2 * k + 1)
            rw [HMG.out k hlt] at d0
            rw [HSG.out k hlt] at d1
            obtain ⟨x, hx⟩ : ∃ x, l.getD (2 * k) 0 = x := ⟨_, rfl⟩
            obtain ⟨y, hy⟩ : ∃ y, l.getD (2 * k + 1) 0 = y := ⟨_, rfl⟩
            rw [hx] at c0 g0 d0 d1
            rw [hy] at c1 g1 d0 d1
            have HO := Lib.hid fun w => rof_any x y w (by omega) (by omega) (by omega) (by omega)
            obtain ⟨q, hq⟩ : ∃ q, mdl x y = q := ⟨_, rfl⟩
            rw [hq] at d0 d1 HO
            obtain ⟨r1, r2⟩ := q
            dsimp only at d0 d1 HO
            obtain ⟨j, hj⟩ : ∃ j, 2 * k = j := ⟨_, rfl⟩
            obtain ⟨j1, hj1⟩ : ∃ j1, j + 1 = j1 := ⟨_, rfl⟩
            rw [hj] at c0 c1
            rw [hj1] at c1
            have e5 : (2 : Int) * (k : Int) = (j : Int) := by omega
            have e6 : (j : Int) + 1 = (j1 : Int) := by omega
            have e7 : IntKind.i64.wrap (j : Int) = j := by rw [IntKind.wrap_i64]; omega
            have e8 : IntKind.i64.wrap (j1 : Int) = j1 := by rw [IntKind.wrap_i64]; omega
            have hkI : (k : Int) < (n : Int) := by omega
            have hjI : (j : Int) < (L : Int) := by omega
            have hj1I : (j1 : Int) < (L : Int) := by omega
            have HK := Lib.hid hlt
            clear g0 g1 hx hy hq hj hj1 hk hcs hbs hb hLn HGB
            go_wp2_with fail
            go_big_quiet ((go_at_call 15; exact Calls.quiet_of_same ((HO.out _).mono fun _ _ h => ⟨h.1, h.2.symm⟩)))
            go_wp2_with fail
            go_roundw
            case rel => exact ⟨k + 1, HK.out, by go_num, Below.drewN HB.out nq⟩
            case measure =>
              have := HK.out
              simp only [intOf]
              omega
          · obtain rfl : k = n := by omega
            have hge2 : ¬ ((k : Int) < (k : Int)) := by omega
            have HBE := Lib.hid (HB2.out.trans (hb.mono HB2.out.size))
            have hLn := HLN.out ()
            have e3 : (L : Int).tdiv 2 = (k : Int) := by rw [Int.tdiv_eq_ediv_of_nonneg (by omega)]; omega
            have e4 : (L : Int) / 2 = (k : Int) := by omega
            clear hb hge hk hLn
            go_wp2_with fail
            go_ret
            exact ⟨rfl, HBE.out⟩
      · have HS := Lib.hid (HFAR.out w HV.out h0 hf)
        clear HODD HFAR HIN hf
        refine HS.out.mono ?_
        rintro e w2 ⟨rfl, hb2⟩
        have HB2 := Lib.hid hb2
        clear hb2 HS
        go_wp2_with fail
        go_loop [20] (fun ii => ii = .int .i64 0) (fun _ => 0)
        case atStart => rfl
        case round =>
          subst hrel
          go_wp2_with fail
          go_ret
          exact ⟨rfl, HB2.out⟩
    · have HS := Lib.hid (HODD.out w HV.out h0)
      clear HODD HFAR HIN
      refine HS.out.mono ?_
      rintro e w2 ⟨rfl, rfl⟩
      clear HS
      go_wp2_with fail
      go_loop [20] (fun ii => ii = .int .i64 0) (fun _ => 0)
      case atStart => rfl
      case round =>
        subst hrel
        go_wp2_with fail
        go_ret
        exact ⟨rfl, Below.refl _ _⟩
end Go.Proofs.Ytpfdjddjoclldaa
