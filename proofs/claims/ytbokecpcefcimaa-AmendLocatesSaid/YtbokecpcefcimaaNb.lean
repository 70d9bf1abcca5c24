/-
  The contract of layer 6's failure. Conditions: the finder lies in a block of its own, as its fields do.
-/
import Derived.Test.YtbokecpcefcimaaNa
namespace Go.Proofs.Ytbokecpcefcimaa
open Go.RowKit
open M

/-- By how much the next number is another one, as far as the sum has come. -/
def flN (T p : List Nat) (s : Nat) : Nat → Nat
  | 0 => s
  | k + 1 => flN T p s k ^^^ mul (p.getD (k + 1) 0) (T.getD (T.length - (k + 1)) 0)
theorem flN_lt (T p : List Nat) (s : Nat) (hT : Els T) (hp : Els p) (hs : s < 128) (k : Nat) : flN T p s k < 128 := by
  induction k with
  | zero => exact hs
  | succ k ih => exact xor_lt _ _ ih (mul_lt _ _ (hp.getD _) (hT.getD _))
/-- A finder, as it lies. -/
def fin6 (f : Nat) (vt vp : Value) (L : Nat) (vo : Value) (b : Nat) : Array Value := #[.pointer (some ⟨f, 0, none⟩), vt, vp, .int .i64 (L : Nat), vo, .int .i64 (b : Nat)]
theorem fin_cells {w : World} {q f L b : Nat} {vt vp vo : Value} (h : Row w q 63 (fin6 f vt vp L vo b)) :
    w.cell? ⟨q, 0, none⟩ = some (.pointer (some ⟨f, 0, none⟩)) ∧ w.cell? ⟨q, 1, none⟩ = some vt ∧ w.cell? ⟨q, 2, none⟩ = some vp ∧ w.cell? ⟨q, 3, none⟩ = some (.int .i64 (L : Nat)) ∧ w.cell? ⟨q, 4, none⟩ = some vo ∧ w.cell? ⟨q, 5, none⟩ = some (.int .i64 (b : Nat)) :=
  ⟨cell_of_row _ _ _ _ _ _ h, cell_of_row _ _ _ _ _ _ h, cell_of_row _ _ _ _ _ _ h, cell_of_row _ _ _ _ _ _ h, cell_of_row _ _ _ _ _ _ h, cell_of_row _ _ _ _ _ _ h⟩

set_option maxRecDepth 100000 in
set_option maxHeartbeats 1000000 in
theorem failure_any (T p : List Nat) (s q f gp L b : Nat) (vt vp vo : Value) (w : World) (hT : Els T) (hp : Els p) (hs : s < 128) (hp1 : 1 ≤ p.length) (hp2 : p.length ≤ 1000) (hT2 : T.length ≤ 1000)
    (hq : Row w q 63 (fin6 f vt vp L vo b)) (ht : IntsAt w vt (castL T)) (hpn : NAt w vp p gp) (hf : Fd w f) :
    Calls Try.prog 44 #[.pointer (some ⟨q, 0, none⟩), .int .i64 (s : Nat)] w fun e w' => e = .returned (.int .i64 (flN T p s (min (p.length - 1) T.length) : Nat)) ∧ Qt w w' := by
  have HT := Lib.hid hT
  have HP := Lib.hid hp
  have HQ := Lib.hid hq
  have HF := Lib.hid hf
  have HPC := Lib.hid hpn.cell
  have HPN := Lib.hid hpn
  have HLT := Lib.hid (fun k => flN_lt T p s hT hp hs k)
  obtain ⟨ta, tcap, hve, htc⟩ := ht
  rw [castL_length] at hve htc
  subst hve
  obtain ⟨pcap, pcur, hpe, _, _⟩ := hpn
  subst hpe
  have HTC := Lib.hid htc
  obtain ⟨K, hK⟩ : ∃ K, min (p.length - 1) T.length = K := ⟨_, rfl⟩
  rw [hK]
  obtain ⟨np, hnp⟩ : ∃ np, p.length = np := ⟨_, rfl⟩
  obtain ⟨nt, hnt⟩ : ∃ nt, T.length = nt := ⟨_, rfl⟩
  rw [hnp] at hp1 hp2 hK HQ hq HPC
  rw [hnt] at hT2 hK HQ hq HTC
  have HNP := Lib.hid hnp
  have HNT := Lib.hid hnt
  clear htc hT hp hs hf hnp hnt hq
  go_enter Try.func44, Try.ntmps44
  go_wp2
  go_loopw [1, 5] (fun x i wr => ∃ k : Nat, k ≤ K ∧ i = .int .i64 ((k : Int) + 1) ∧ x = .int .i64 (flN T p s k : Nat) ∧ Qt w wr) (fun _ i _ => K + 1 - (intOf i).toNat)
  case atStart => exact ⟨0, by omega, rfl, rfl, Qt.refl _⟩
  case round =>
    obtain ⟨k, hk, rfl, rfl, hqt⟩ := hrel
    have HQT := Lib.hid hqt
    clear hqt
    have HQ1 := Lib.hid (HQT.out.row HQ.out)
    obtain ⟨c0, c1, c2, c3, c4, c5⟩ := fin_cells HQ1.out
    by_cases hlt : k < K
    · have h1 : (k : Int) + 1 < (np : Int) := by omega
      have h2 : (k : Int) + 1 ≤ (nt : Int) := by omega
      obtain ⟨b0, off, rfl, hbw, hcc⟩ := HTC.out (by omega)
      obtain ⟨j, hj⟩ : ∃ j, nt = j + (k + 1) := ⟨nt - (k + 1), by omega⟩
      have hji : (nt : Int) - ((k : Int) + 1) = (j : Int) := by omega
      have hjn : (j : Int) < (nt : Int) := by omega
      have hkp : (k : Int) + 1 < (np : Int) := h1
      have d1 : wr.cell? ⟨gp, k + 1, none⟩ = some (.int .i64 (p.getD (k + 1) 0 : Nat)) := by
        obtain ⟨m, rfl⟩ := HQT.out; exact HPC.out (k + 1) (by omega)
      have d2 : wr.cell? ⟨b0, off + j, none⟩ = some (.int .i64 (T.getD j 0 : Nat)) := by
        obtain ⟨m, rfl⟩ := HQT.out
        have := hcc j (by omega)
        rwa [castL_getD] at this
      have HFW : Hid (Fd wr f) := HQT.out.row HF.out
      have hx := HP.out.getD (k + 1)
      have hy := HT.out.getD j
      have hz := HLT.out k
      have HST : Hid (flN T p s (k + 1) = flN T p s k ^^^ mul (p.getD (k + 1) 0) (T.getD j 0)) := by
        unfold Hid
        show _ ^^^ mul _ (T.getD (T.length - (k + 1)) 0) = _
        rw [HNT.out, show nt - (k + 1) = j by omega]
      obtain ⟨x, hxe⟩ : ∃ x, p.getD (k + 1) 0 = x := ⟨_, rfl⟩
      obtain ⟨y, hye⟩ : ∃ y, T.getD j 0 = y := ⟨_, rfl⟩
      obtain ⟨z, hze⟩ : ∃ z, flN T p s k = z := ⟨_, rfl⟩
      rw [hxe] at d1 hx HST
      rw [hye] at d2 hy HST
      rw [hze] at hz HST ⊢
      have hmm := mul_lt x y hx hy
      obtain ⟨m, hme⟩ : ∃ m, mul x y = m := ⟨_, rfl⟩
      rw [hme] at hmm HST
      have hM2 : ∀ W, Fd W f → Calls Try.prog 41 #[.pointer (some ⟨f, 0, none⟩), .int .i64 (x : Nat), .int .i64 (y : Nat)] W fun e w' => e = .returned (.int .i64 (m : Nat)) ∧ Qt W w' := fun W hW => mul_nat x y m f W hx hy hme hW
      have HM2 := Lib.hid hM2
      have hxor := i64_xor_nat z m (by omega) (by omega)
      clear hM2 hme hxe hye hze hcc hj HQ1
      go_wp2
      go_quiet (first | (go_at_call 41; exact Calls.quiet_of (HM2.out _ (HFW.out.drewN _))))
      go_wp2
      go_roundw
      case rel =>
        refine ⟨k + 1, by omega, by go_num, ?_, HQT.out.trans (Qt.of _ _)⟩
        rw [HST.out]
      case measure => simp [intOf] <;> omega
    · obtain rfl : k = K := by omega
      by_cases h1 : (k : Int) + 1 < (np : Int)
      · have h2 : ¬ ((k : Int) + 1 ≤ (nt : Int)) := by omega
        go_wp2
        go_ret
        exact ⟨rfl, HQT.out⟩
      · go_wp2
        go_ret
        exact ⟨rfl, HQT.out⟩
end Go.Proofs.Ytbokecpcefcimaa
