/-
  The contract of layer 4's Eval. Conditions: numbers are int's; the Field lies in a block of its own; no more than 1000 numbers.
-/
import Derived.Test.YtbokecpcefcimaaFv
import Derived.Test.YtbokecpcefcimaaFi
namespace Go.Proofs.Ytbokecpcefcimaa
open Go.RowKit
open M

theorem els_map (ps : List Int) : Els (ps.map el) := by
  intro c hc
  obtain ⟨p, _, rfl⟩ := List.mem_map.1 hc
  exact el_lt p
theorem els_drop {l : List Nat} (h : Els l) (k : Nat) : Els (l.drop k) := fun c hc => h c (List.mem_of_mem_drop hc)
theorem drop_el (ps : List Int) (j : Nat) (h : j < ps.length) : (ps.map el).drop j = el (ps.getD j 0) :: (ps.map el).drop (j + 1) := by
  rw [List.drop_eq_getElem_cons (by simpa using h)]
  simp [List.getD_eq_getElem?_getD, List.getElem?_eq_getElem h]

set_option maxRecDepth 100000 in
set_option maxHeartbeats 1000000 in
theorem eval_any (ps : List Int) (l : Value) (x : Int) (g : Nat) (w : World) (hx : inI x) (hlen : ps.length ≤ 1000) (hp : ∀ p ∈ ps, inI p) (h : IntsAt w l ps) (hf : Fd w g) :
    Calls Try.prog 36 #[.pointer (some ⟨g, 0, none⟩), l, .int .i64 x] w fun e w' => e = .returned (.int .i64 (ev (el x) (ps.map el) : Nat)) ∧ Qt w w' := by
  obtain ⟨a, lcap, rfl, hcells⟩ := h
  have HC := Lib.hid hcells
  have HP := Lib.hid hp
  have HX := Lib.hid hx
  have HF := Lib.hid hf
  clear hcells hp hx hf
  go_enter Try.func36, Try.ntmps36
  go_wp2
  go_loopw [7, 8] (fun s i wr => ∃ k : Nat, k ≤ ps.length ∧ i = .int .i64 ((k : Int) - 1) ∧ s = .int .i64 (ev (el x) ((ps.map el).drop k) : Nat) ∧ Qt w wr) (fun _ i _ => (intOf i + 1).toNat)
  case atStart => exact ⟨ps.length, Nat.le_refl _, rfl, by rw [List.drop_of_length_le (by simp)]; rfl, Qt.refl _⟩
  case round =>
    obtain ⟨k, hk, rfl, rfl, hq⟩ := hrel
    have HQ := Lib.hid hq
    clear hq
    cases k with
    | zero =>
      rw [show (((0 : Nat) : Int) - 1) = -1 from rfl]
      go_wp2
      go_ret
      exact ⟨rfl, HQ.out⟩
    | succ j =>
      rw [show (((j + 1 : Nat) : Int) - 1) = (j : Int) by omega]
      obtain ⟨b, off, rfl, hbw, hcc⟩ := HC.out (by omega)
      have hcj := hcc j (by omega)
      have HD := Lib.hid (drop_el ps j (by omega))
      obtain ⟨n, hn⟩ : ∃ n, ps.getD j 0 = n := ⟨_, rfl⟩
      have hnok : inI n := by
        have e : ps.getD j 0 = ps[j] := by rw [List.getD_eq_getElem?_getD, List.getElem?_eq_getElem (show j < ps.length by omega)]; rfl
        rw [← hn, e]; exact HP.out _ (List.getElem_mem _)
      rw [hn] at hcj
      have c0 : wr.cell? ⟨b, off + j, none⟩ = some (.int .i64 n) := by
        obtain ⟨m, rfl⟩ := HQ.out; exact hcj
      have HNOK := Lib.hid hnok
      have HNE := Lib.hid hn
      have HFR := Lib.hid (HQ.out.row HF.out)
      have hel := ev_lt (el x) (el_lt x) _ (els_drop (els_map ps) (j + 1))
      obtain ⟨s, hs⟩ : ∃ s, ev (el x) ((ps.map el).drop (j + 1)) = s := ⟨_, rfl⟩
      rw [hs] at hel
      have HS := Lib.hid hs
      have hji : (j : Int) < (ps.length : Int) := by omega
      have hM : ∀ W, Fd W g → Calls Try.prog 41 #[.pointer (some ⟨g, 0, none⟩), .int .i64 (s : Int), .int .i64 x] W fun e w' => e = .returned (.int .i64 (mul s (el x) : Nat)) ∧ Qt W w' := by
        intro W hW
        have := mul_field (s : Int) x g W ⟨by omega, by omega⟩ HX.out hW
        rwa [el_nat s hel] at this
      have HM := Lib.hid hM
      have hmm := mul_lt s (el x) hel (el_lt x)
      obtain ⟨m, hme⟩ : ∃ m, mul s (el x) = m := ⟨_, rfl⟩
      rw [hme] at hmm
      have HME := Lib.hid hme
      have hnl := el_lt n
      have hxor := i64_xor_nat m (el n) (by omega) (by omega)
      have hM2 : ∀ W, Fd W g → Calls Try.prog 41 #[.pointer (some ⟨g, 0, none⟩), .int .i64 (s : Int), .int .i64 x] W fun e w' => e = .returned (.int .i64 (m : Nat)) ∧ Qt W w' := by
        intro W hW
        have := hM W hW
        rwa [hme] at this
      have HM2 := Lib.hid hM2
      rw [hs]
      clear hcc hcj hn hnok HC hs hM hme hM2
      go_wp2
      go_quiet (first | (go_at_call 41; exact Calls.quiet_of (HM2.out _ (HFR.out.drewN _))) | (go_at_call 49; exact Calls.quiet_of_same ((element_any n _ HNOK.out).mono fun _ _ h => ⟨h.1, h.2.symm⟩)))
      go_wp2
      go_roundw
      case rel =>
        refine ⟨j, by omega, by go_num, ?_, HQ.out.trans (Qt.of _ _)⟩
        rw [HD.out, HNE.out]
        show _ = Value.int .i64 ((mul (ev (el x) ((ps.map el).drop (j + 1))) (el x) ^^^ el n : Nat) : Int)
        rw [HS.out, HME.out]
      case measure => simp [intOf] <;> omega
end Go.Proofs.Ytbokecpcefcimaa
