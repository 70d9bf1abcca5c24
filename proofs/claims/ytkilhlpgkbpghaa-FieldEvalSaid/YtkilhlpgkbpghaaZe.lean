/-
  The walk of the law FieldEval. Conditions: numbers are int's; the list lies as it was opened.
-/
import Derived.Test.YtkilhlpgkbpghaaFe
import Derived.Test.YtkilhlpgkbpghaaFz
import Derived.Test.YtkilhlpgkbpghaaRf
namespace Go.Proofs.Ytkilhlpgkbpghaa
open Go.RowKit
open M

set_option maxRecDepth 100000 in
set_option maxHeartbeats 4000000 in
theorem eval_big (l : Value) (ps : List Int) (x : Int) (w : World) (hl : 60 < ps.length) (hm : ps.length ≤ maxLen) (h : IntsAt w l ps) :
    Calls Try.prog 6 #[l, .int .i64 x] w fun e w' => e = .returned (.bool true) ∧ Below w.heap.size w w' := by
  unfold maxLen at hm
  obtain ⟨a, lcap, rfl, hcells⟩ := h
  clear hcells
  have hl' : (60 : Int) < (ps.length : Int) := by omega
  go_enter Try.func6, Try.ntmps6
  go_wp2_with fail
  refine (awake_any _).mono ?_
  rintro e w1 ⟨rfl, hb⟩
  have HB := Lib.hid hb
  clear hb
  go_wp2_with fail
  refine (awake_any _).mono ?_
  rintro e w2 ⟨rfl, hb⟩
  have HB2 := Lib.hid (HB.out.trans (hb.mono HB.out.size))
  clear hb
  go_wp2
  go_ret
  exact ⟨rfl, HB2.out⟩

set_option maxRecDepth 100000 in
set_option maxHeartbeats 4000000 in
theorem eval_walk (l : Value) (ps : List Int) (x : Int) (w : World) (hl : ps.length ≤ 60) (hp : ∀ p ∈ ps, inI p) (hx : inI x) (h : IntsAt w l ps) :
    Calls Try.prog 6 #[l, .int .i64 x] w fun e w' => e = .returned (.bool true) ∧ Below w.heap.size w w' := by
  have HI := Lib.hid h
  obtain ⟨a, lcap, hle, hcells⟩ := h
  subst hle
  have HC := Lib.hid hcells
  have HP := Lib.hid hp
  have HX := Lib.hid hx
  have hl' : (ps.length : Int) ≤ 60 := by omega
  clear hcells hp hx
  go_enter Try.func6, Try.ntmps6
  go_wp2_with fail
  refine (awake_any _).mono ?_
  rintro e w1 ⟨rfl, hb⟩
  have HB := Lib.hid hb
  clear hb
  go_wp2
  go_loopw [5, 6] (fun s i wr => ∃ k : Nat, k ≤ ps.length ∧ i = .int .i64 k ∧ s = .int .i64 (sm (el x) (ps.map el) k : Nat) ∧ Below w.heap.size w wr) (fun _ i _ => ps.length - (intOf i).toNat)
  case atStart => exact ⟨0, Nat.zero_le _, rfl, rfl, HB.out⟩
  case round =>
    clear HB
    obtain ⟨k, hk, rfl, rfl, hb⟩ := hrel
    have HB := Lib.hid hb
    clear hb
    by_cases hlt : k < ps.length
    · obtain ⟨b, off, rfl, hbw, hcc⟩ := HC.out (by omega)
      have hcj := hcc k hlt
      obtain ⟨n, hn⟩ : ∃ n, ps.getD k 0 = n := ⟨_, rfl⟩
      have hnok : inI n := by
        have e : ps.getD k 0 = ps[k] := by rw [List.getD_eq_getElem?_getD, List.getElem?_eq_getElem hlt]; rfl
        rw [← hn, e]; exact HP.out _ (List.getElem_mem _)
      rw [hn] at hcj
      have c0 : wr.cell? ⟨b, off + k, none⟩ = some (.int .i64 n) := (HB.out.cell (p := ⟨b, off + k, none⟩) hbw).trans hcj
      have HNOK := Lib.hid hnok
      have hsl := sm_lt (el x) (el_lt x) (ps.map el) (els_map ps) k
      have hpl := pw_lt (el x) k (el_lt x)
      have hml := mul_lt (el n) (pw (el x) k) (el_lt n) hpl
      have HS : Hid (sm (el x) (ps.map el) (k + 1) = sm (el x) (ps.map el) k ^^^ mul (el n) (pw (el x) k)) := by
        unfold Hid
        show sm (el x) (ps.map el) k ^^^ mul ((ps.map el).getD k 0) (pw (el x) k) = _
        rw [← hn]
        simp [List.getD_eq_getElem?_getD, List.getElem?_eq_getElem hlt]
      obtain ⟨s, hs⟩ : ∃ s, sm (el x) (ps.map el) k = s := ⟨_, rfl⟩
      obtain ⟨p, hpp⟩ : ∃ p, pw (el x) k = p := ⟨_, rfl⟩
      rw [hs] at hsl
      rw [hpp] at hpl hml
      obtain ⟨m, hm⟩ : ∃ m, mul (el n) p = m := ⟨_, rfl⟩
      rw [hm] at hml
      have hxor := i64_xor_nat s m (by omega) (by omega)
      have hM : ∀ W, Calls Try.prog 16 #[.int .i64 n, .int .i64 (p : Int)] W fun e w' => e = .returned (.int .i64 (m : Nat)) ∧ W = w' := by
        intro W
        have := mul_ref n (p : Int) W hnok ⟨by omega, by omega⟩
        rwa [el_nat p hpl, hm] at this
      have hPW : ∀ W, Calls Try.prog 19 #[.int .i64 x, .int .i64 (k : Int)] W fun e w' => e = .returned (.int .i64 (p : Nat)) ∧ W = w' := by
        intro W
        have := pow_ref x k W HX.out (by omega)
        rwa [hpp] at this
      have HM := Lib.hid hM
      have HPW := Lib.hid hPW
      have HE := Lib.hid (And.intro hs (And.intro hpp hm))
      have hki : (k : Int) < (ps.length : Int) := by omega
      rw [hs]
      clear hcc hcj hn hnok hs hpp hm hM hPW
      go_wp2
      go_quiet (first | (go_at_call 19; exact Calls.quiet_of_same ((HPW.out _).mono fun _ _ h => ⟨h.1, h.2.symm⟩)) | (go_at_call 16; exact Calls.quiet_of_same ((HM.out _).mono fun _ _ h => ⟨h.1, h.2.symm⟩)))
      go_wp2
      go_roundw
      case rel => exact ⟨k + 1, by omega, by go_num, by rw [HS.out, HE.out.1, HE.out.2.1, HE.out.2.2], Below.drewN HB.out _⟩
      case measure => simp [intOf] <;> omega
    · obtain rfl : k = ps.length := by omega
      have HS := Lib.hid (ev_sum (el x) (el_lt x) (ps.map el) (els_map ps))
      obtain ⟨s, hs⟩ : ∃ s, sm (el x) (ps.map el) ps.length = s := ⟨_, rfl⟩
      have HSS := Lib.hid hs
      rw [hs]
      clear hs
      go_wp2_with fail
      refine (new_any _).mono ?_
      rintro e w2 ⟨rfl, hb, hf⟩
      have HB0 := Lib.hid (HB.out.trans (hb.mono HB.out.size))
      generalize wr.heap.size = g at *
      have HF0 := Lib.hid hf
      clear hb hf HB
      go_wp2_with fail
      refine (eval_any ps _ x g _ HX.out (by omega) HP.out (HI.out.below HB0.out) HF0.out).mono ?_
      rintro e w3 ⟨rfl, hq⟩
      have HB1 := Lib.hid (hq.below HB0.out)
      clear hq HF0 HB0
      rw [show ev (el x) (ps.map el) = s by rw [HS.out, List.length_map, HSS.out]]
      go_wp2_with fail
      refine (nil_mul 3 5 _).mono ?_
      rintro e w4 ⟨rfl, rfl⟩
      go_wp2_with fail
      refine (exp_nil 1 _).mono ?_
      rintro e w4 ⟨rfl, rfl⟩
      go_wp2_with fail
      refine (log_nil 1 _).mono ?_
      rintro e w4 ⟨rfl, rfl⟩
      go_wp2_with fail
      refine (nil_pow 1 0 _).mono ?_
      rintro e w4 ⟨rfl, rfl⟩
      go_wp2_with fail
      refine (nil_eval _ x _).mono ?_
      rintro e w4 ⟨rfl, rfl⟩
      go_wp2
      go_ret
      exact ⟨rfl, HB1.out⟩

theorem eval_law (l : Value) (ps : List Int) (x : Int) (w : World) (hm : ps.length ≤ maxLen) (hp : ∀ p ∈ ps, inI p) (hx : inI x) (h : IntsAt w l ps) :
    Calls Try.prog 6 #[l, .int .i64 x] w fun e w' => e = .returned (.bool true) ∧ Below w.heap.size w w' := by
  by_cases hl : ps.length ≤ 60
  · exact eval_walk l ps x w hl hp hx h
  · exact eval_big l ps x w (by omega) hm h
end Go.Proofs.Ytkilhlpgkbpghaa
