/-
  The contract of layer 6's places. Conditions: the finder lies in a block of its own, as its fields do.
-/
import Derived.Test.YtbokecpcefcimaaNe
namespace Go.Proofs.Ytbokecpcefcimaa
open Go.RowKit
open M

/-- The places, among the first j, at whose powers' inverses a polynomial is 0. -/
def plN (P : List Nat) : Nat → List Nat
  | 0 => []
  | j + 1 => if ev (E ((127 - j) % 127)) P = 0 then plN P j ++ [j] else plN P j
theorem plN_few (P : List Nat) (j : Nat) : (plN P j).length ≤ j := by
  induction j with
  | zero => exact Nat.le_refl _
  | succ j ih =>
    unfold plN
    split
    · rw [List.length_append, List.length_singleton]; omega
    · omega
theorem re_neg (i : Nat) (hi : i < 127) : re (-(i : Int)) = (127 - i) % 127 := by
  unfold re; omega

set_option maxRecDepth 100000 in
set_option maxHeartbeats 1000000 in
theorem places_any (P : List Nat) (q f gp L b : Nat) (vt vp vo : Value) (w : World) (hP : Els P) (hp2 : P.length ≤ 1000)
    (hq : Row w q 63 (fin6 f vt vp L vo b)) (hpn : NAt w vp P gp) (hf : Fd w f) :
    Calls Try.prog 32 #[.pointer (some ⟨q, 0, none⟩)] w fun e w' => ∃ v, e = .returned v ∧ w'.ownsRow w.heap.size 3 1 v (plN P 127).length (vs (plN P 127)) ∧ Below w.heap.size w w' := by
  obtain ⟨i0, hi0, hz0, hz1, hz2⟩ := info_parts int_info
  have HT := Lib.hid (And.intro hi0 (And.intro hz0 (And.intro hz1 hz2)))
  clear hi0 hz0 hz1 hz2
  have HP := Lib.hid hP
  have HQ := Lib.hid hq
  have HF := Lib.hid hf
  have HPN := Lib.hid hpn
  have HP2 := Lib.hid hp2
  obtain ⟨pcap, hpe⟩ := hpn.form
  subst hpe
  clear hP hq hf hpn hp2
  go_enter Try.func32, Try.ntmps32
  go_wp2
  go_loopw [3, 5] (fun v i wr => ∃ (k : Nat) (r : Value), k ≤ 127 ∧ i = .int .i64 (k : Nat) ∧ r = v ∧ wr.ownsRow w.heap.size 3 1 r (plN P k).length (vs (plN P k)) ∧ Below w.heap.size w wr) (fun _ i _ => 127 - (intOf i).toNat)
  case atStart => exact ⟨0, _, by omega, rfl, rfl, World.ownsRow_nil _ _ _ _, Below.refl _ _⟩
  case round =>
    obtain ⟨k, r, hk, rfl, rfl, hown, hb⟩ := hrel
    have HO := Lib.hid hown
    have HB := Lib.hid hb
    clear hown hb
    by_cases hlt : k < 127
    · have HQ1 : Hid (Row wr q 63 (fin6 f vt (.slice (some ⟨gp, 0, none⟩) P.length pcap) L vo b)) := HQ.out.box HB.out
      have HF1 : Hid (Fd wr f) := Row.box HF.out HB.out
      have HP1 := Lib.hid (HPN.out.box HB.out)
      have HS : Hid (plN P (k + 1) = if ev (E ((127 - k) % 127)) P = 0 then plN P k ++ [k] else plN P k) := rfl
      have HFEW := Lib.hid (plN_few P k)
      obtain ⟨l, hl⟩ : ∃ l, plN P k = l := ⟨_, rfl⟩
      rw [hl] at HS HO HFEW
      have hE := E_bd ((127 - k) % 127) (Nat.mod_lt _ (by omega))
      obtain ⟨x, hx⟩ : ∃ x, E ((127 - k) % 127) = x := ⟨_, rfl⟩
      rw [hx] at hE HS
      have hEx : ∀ W, Fd W f → Calls Try.prog 37 #[.pointer (some ⟨f, 0, none⟩), .int .i64 (-(k : Int))] W fun e w' => e = .returned (.int .i64 (x : Nat)) ∧ Qt W w' := by
        intro W hW
        have := exp_any (-(k : Int)) f W ⟨by omega, by omega⟩ hW
        rwa [re_neg k hlt, hx] at this
      obtain ⟨y, hy⟩ : ∃ y, ev x P = y := ⟨_, rfl⟩
      rw [hy] at HS
      have hEv : ∀ W, Fd W f → NAt W (.slice (some ⟨gp, 0, none⟩) P.length pcap) P gp → Calls Try.prog 36 #[.pointer (some ⟨f, 0, none⟩), .slice (some ⟨gp, 0, none⟩) P.length pcap, .int .i64 (x : Nat)] W fun e w' => e = .returned (.int .i64 (y : Nat)) ∧ Qt W w' := by
        intro W hW hN
        have := eval_any (castL P) _ (x : Int) f W ⟨by omega, by omega⟩ (by rw [castL_length]; exact HP2.out) (castL_in _ HP.out) hN.ints hW
        rwa [cast_el _ HP.out, el_nat x hE.2, hy] at this
      have HEX := Lib.hid hEx
      have HEV := Lib.hid hEv
      obtain ⟨c0, c1, c2, c3, c4, c5⟩ := fin_cells HQ1.out
      clear hEx hEv hx hy hl hE
      go_wp2
      go_quiet (first | (go_at_call 37; exact Calls.quiet_of (HEX.out _ (HF1.out.drewN _))) | (go_at_call 36; exact Calls.quiet_of (HEV.out _ (HF1.out.drewN _) (HP1.out.mono fun _ h => h.drewN _))))
      clear c0 c1 c2 c3 c4 c5
      have HO1 : Hid ((wr.drewN nq).ownsRow w.heap.size 3 1 r l.length (vs l)) := HO.out
      have HB1 : Hid (Below w.heap.size w (wr.drewN nq)) := Below.drewN HB.out nq
      clear HO HB HQ1 HF1 HP1
      generalize wr.drewN nq = w1 at *
      by_cases h0 : y = 0
      · subst h0
        have HSZ := Lib.hid HB1.out.size
        go_wp2_with (at_builtin; refine wpList_append_own _ rfl _ _ 40 rfl w.heap.size 3 i0 (.int .i64 0) 1 8 Try.underlying40 HT.out.1 HT.out.2.1 HT.out.2.2.1 HT.out.2.2.2 rfl (by decide) _ _ _ rfl (HO1.out.alloc _) ⟨w1.heap.size, 0, none⟩ 1 1 [.int .i64 (k : Nat)] rfl rfl (one_new _ _ rfl _ _) one_cell ?c3 ?c4 ?c5 ?_)
        case c3 => have := HFEW.out; unfold maxLen; omega
        case c4 => have := HFEW.out; omega
        case c5 => have := HSZ.out; simp; omega
        intro v' w5 hown' hgrow _
        have hown4 := own_ge (HO1.out)
        have HB5 : Hid (Below w.heap.size w w5) := (HB1.out.alloc HSZ.out _).grown hgrow (by have := HSZ.out; simp; omega) (fun k hk => by have := hown4 k hk; omega)
        have HO5 : Hid (w5.ownsRow w.heap.size 3 1 v' (l ++ [k]).length (vs (l ++ [k]))) := by
          unfold Hid; rw [vs_snoc, List.length_append]; exact hown'
        clear hown' hgrow hown4
        go_wp2
        go_roundw
        case rel => exact ⟨k + 1, _, by omega, by go_num, rfl, by rw [HS.out, if_pos trivial]; exact HO5.out, HB5.out⟩
        case measure => simp [intOf] <;> omega
      · have e0 : (((y : Nat) : Int) == 0) = false := by rw [beq_eq_false_iff_ne]; omega
        have e0' : (y == 0) = false := by rw [beq_eq_false_iff_ne]; omega
        have H0 := Lib.hid h0
        clear h0
        go_wp2
        go_roundw
        case rel => exact ⟨k + 1, _, by omega, by go_num, rfl, by rw [HS.out, if_neg H0.out]; exact HO1.out, HB1.out⟩
        case measure => simp [intOf] <;> omega
    · obtain rfl : k = 127 := by omega
      go_wp2
      go_ret
      exact ⟨_, rfl, HO.out, HB.out⟩
end Go.Proofs.Ytbokecpcefcimaa
