/-
  lap's sew by Unseam. Conditions: a slice of blocks, where it lies; numbers up to 2^40.
-/
import Derived.Test.YtpfdjddjoclldaaRLe
import Derived.Test.YtpfdjddjoclldaaRLd
import Derived.OrdersHeld
import Derived.Deep.RegionHeld
namespace Go.Proofs.Ytpfdjddjoclldaa
open Go.RowKit
open M
theorem sew_back_bd (n : Nat) (x : List Int) (hbd : ∀ p, -1099511627776 ≤ x.getD p 0 ∧ x.getD p 0 ≤ 1099511627776) (s : Nat) (hs : 1 ≤ s) (hn : s < n) (i : Nat) (hi : i < 16) :
    Bd 1099511627776 ((blk (sms lfb (fun t _ => decide (t < s)) n x) (s - 1)).getD (31 - i) 0, (blk (sms lfb (fun t _ => decide (t < s)) n x) s).getD i 0) := by
  rw [seam_a _ _ _ _ _ hs hn hi, seam_b _ _ _ _ _ hs hn hi]
  exact ⟨(hbd _).1, (hbd _).2, (hbd _).1, (hbd _).2⟩
set_option maxRecDepth 100000 in
set_option maxHeartbeats 2000000 in
theorem sew_back (x : List Int) (n cap g : Nat) (t : TypeId) (w : World) (h : Row w g t (iCells x)) (hl : x.length = 32 * n) (hn : n ≤ 1099511627776) (hbd : ∀ p, -1099511627776 ≤ x.getD p 0 ∧ x.getD p 0 ≤ 1099511627776) :
    Calls Try.prog 28 #[.slice (some ⟨g, 0, none⟩) n cap, .func (.func 32) #[] #[]] w fun e w' => e = .returned (.tuple #[]) ∧ Row w' g t (iCells (sms lfb allT n x)) ∧ Below g w w' := by
  have HR0 := Lib.hid h
  have HX := Lib.hid (sms_first lfb n x hl)
  have HZ := Lib.hid fun s => sms_last lfb n s x
  have HBD := Lib.hid (sew_back_bd n x hbd)
  have HP := Lib.hid (sea_put lfb n x)
  have hnI : (n : Int) ≤ 1099511627776 := by omega
  clear h hl hbd hn
  go_enter Try.func28, Try.ntmps28
  go_wp2
  go_loopw [4] (fun ii wr => ∃ s : Nat, 1 ≤ s ∧ s ≤ n + 1 ∧ ii = .int .i64 s ∧ Row wr g t (iCells (sms lfb (fun t _ => decide (t < s)) n x)) ∧ Below g w wr) (fun ii _ => n + 1 - (intOf ii).toNat)
  case atStart => exact ⟨1, by omega, by omega, rfl, by rw [HX.out]; exact HR0.out, Below.refl _ _⟩
  case round =>
    clear HR0 HX
    obtain ⟨s, hs, hsn, rfl, h1, h2⟩ := hrel
    have HR := Lib.hid h1
    have HB := Lib.hid h2
    clear h1 h2
    rcases Nat.lt_or_ge s n with hlt | hge
    · have HPS := Lib.hid (HP.out s hs hlt)
      have hA := fun w => unseam_any _ _ w (blk_len (sms lfb (fun t _ => decide (t < s)) n x) (s - 1)) (blk_len (sms lfb (fun t _ => decide (t < s)) n x) s) (HBD.out s hs hlt)
      have hyl : (sms lfb (fun t _ => decide (t < s)) n x).length = 32 * n := sms_len ..
      generalize sms lfb (fun t _ => decide (t < s)) n x = y at *
      have hla : (seaA lfb (blk y (s - 1)) (blk y s)).length = 32 := seaA_len ..
      have hlb : (seaB lfb (blk y (s - 1)) (blk y s)).length = 32 := seaB_len ..
      generalize seaA lfb (blk y (s - 1)) (blk y s) = A at *
      generalize seaB lfb (blk y (s - 1)) (blk y s) = B at *
      have HC := Lib.hid hA
      have HLA := Lib.hid hla
      have HLB := Lib.hid hlb
      have HYL := Lib.hid hyl
      have HLT := Lib.hid hlt
      have HS := Lib.hid hs
      clear hA hla hlb hyl
      have hsb : (s : Int) < 1099511627776 := by omega
      have hltI : (s : Int) < (n : Int) := by omega
      obtain ⟨s1, hs1⟩ : ∃ s1, s - 1 = s1 := ⟨_, rfl⟩
      have hsI : (s : Int) - 1 = (s1 : Int) := by omega
      have hs1I : (s1 : Int) < (n : Int) := by omega
      have hw1 : IntKind.i64.wrap (s1 : Int) = s1 := by rw [IntKind.wrap_i64]; omega
      have HE1 := Lib.hid fun _ : Unit => hs1
      rw [hs1] at HC HPS
      clear hs1 hs hsn hlt
      have HLE1 : Hid (32 * s1 + 32 ≤ y.length) := Lib.hid (by have := HYL.out; have := HE1.out (); have := HLT.out; omega)
      have HLE2 : Hid (32 * s + 32 ≤ y.length) := Lib.hid (by have := HYL.out; have := HLT.out; omega)
      have HGE := Lib.hid (Row.lt HR.out)
      go_wp2_with fail
      refine wp_region_held_drew (S := fun w' => Below g w w') (by kernel_rfl) ?_ (fun hHeld => ?_)
      · exact below_drew1 HB.out
      have HRD : Hid (Row wr.drew g t (iCells (y))) := Lib.hid (Row.drewN HR.out 1)
      clear HR
      generalize wr.drew = wd at *
      refine wpAnyH_take (i := 0) (oi := _) (v := ?_) rfl (by kernel_rfl) (by kernel_rfl) (by kernel_rfl) (fun _ _ _ h => h) (Or.inl ⟨by rfl, ?_⟩) hHeld ?_
      rotate_left
      · (intro w hSw; (try dsimp only at hSw); first | (go_simp; done) | (go_simp; with_reducible rfl))
      (try simp only [List.getElem_toArray, List.getElem_cons_zero, Act.put, List.setIfInBounds_toArray, List.set_cons_zero, List.set_cons_succ])
      refine wpAnyH_take (i := 1) (oi := _) (v := ?_) rfl (by kernel_rfl) (by kernel_rfl) (by kernel_rfl) (fun _ _ _ h => h) (Or.inl ⟨by rfl, ?_⟩) hHeld ?_
      rotate_left
      · (intro w hSw; (try dsimp only at hSw); first | (go_simp; done) | (go_simp; with_reducible rfl))
      (try simp only [List.getElem_toArray, List.getElem_cons_succ, List.getElem_cons_zero, Act.put, List.setIfInBounds_toArray, List.set_cons_zero, List.set_cons_succ])
      refine wpAnyH_take (i := 2) (oi := _) (v := ?_) rfl (by kernel_rfl) (by kernel_rfl) (by kernel_rfl) (fun _ _ _ h => h) (Or.inl ⟨by rfl, ?_⟩) hHeld ?_
      rotate_left
      · (intro w hSw; (try dsimp only at hSw); first | (go_simp; done) | (go_simp; with_reducible rfl))
      (try simp only [List.getElem_toArray, List.getElem_cons_succ, List.getElem_cons_zero, Act.put, List.setIfInBounds_toArray, List.set_cons_zero, List.set_cons_succ])
      refine wpAnyH_take (i := 3) (oi := _) (v := ?_) rfl (by kernel_rfl) (by kernel_rfl) (by kernel_rfl) (fun _ _ _ h => h) (Or.inl ⟨by rfl, ?_⟩) hHeld ?_
      rotate_left
      · (intro w hSw; (try dsimp only at hSw); first | (go_simp; done) | (go_simp; with_reducible rfl))
      (try simp only [List.getElem_toArray, List.getElem_cons_succ, List.getElem_cons_zero, Act.put, List.setIfInBounds_toArray, List.set_cons_zero, List.set_cons_succ])
      refine wpAnyH_take (i := 4) (oi := _) (v := ?_) rfl (by kernel_rfl) (by kernel_rfl) (by kernel_rfl) (fun _ _ _ h => h) (Or.inl ⟨by rfl, ?_⟩) hHeld ?_
      rotate_left
      · (intro w hSw; (try dsimp only at hSw); first | (go_simp; done) | (go_simp; with_reducible rfl))
      (try simp only [List.getElem_toArray, List.getElem_cons_succ, List.getElem_cons_zero, Act.put, List.setIfInBounds_toArray, List.set_cons_zero, List.set_cons_succ])
      refine wpAnyH_take (i := 5) (oi := _) (v := ?_) rfl (by kernel_rfl) (by kernel_rfl) (by kernel_rfl) (fun _ _ _ h => h) (Or.inl ⟨by rfl, ?_⟩) hHeld ?_
      rotate_left
      · (intro w hSw; (try dsimp only at hSw); first | (go_simp; done) | (go_simp; with_reducible rfl))
      (try simp only [List.getElem_toArray, List.getElem_cons_succ, List.getElem_cons_zero, Act.put, List.setIfInBounds_toArray, List.set_cons_zero, List.set_cons_succ])
      refine wpAnyH_take (i := 6) (oi := _) (v := ?_) rfl (by kernel_rfl) (by kernel_rfl) (by kernel_rfl) (fun _ _ _ h => h) (Or.inl ⟨by rfl, ?_⟩) hHeld ?_
      rotate_left
      · (intro w hSw; (try dsimp only at hSw); first | (go_simp; done) | (go_simp; with_reducible rfl))
      (try simp only [List.getElem_toArray, List.getElem_cons_succ, List.getElem_cons_zero, Act.put, List.setIfInBounds_toArray, List.set_cons_zero, List.set_cons_succ])
      refine wpAnyH_take (i := 7) (oi := _) (v := ?_) rfl (by kernel_rfl) (by kernel_rfl) (by kernel_rfl) (fun _ _ _ h => h) (Or.inl ⟨by rfl, ?_⟩) hHeld ?_
      rotate_left
      · (intro w hSw; (try dsimp only at hSw); first | (go_simp; done) | (go_simp; with_reducible rfl))
      (try simp only [List.getElem_toArray, List.getElem_cons_succ, List.getElem_cons_zero, Act.put, List.setIfInBounds_toArray, List.set_cons_zero, List.set_cons_succ])
      refine wpAnyH_take (i := 8) (oi := _) (v := ?_) rfl (by kernel_rfl) (by kernel_rfl) (by kernel_rfl) (fun _ _ _ h => h) (Or.inl ⟨by rfl, ?_⟩) hHeld ?_
      rotate_left
      · (intro w hSw; (try dsimp only at hSw); first | (go_simp; done) | (go_simp; with_reducible rfl))
      (try simp only [List.getElem_toArray, List.getElem_cons_succ, List.getElem_cons_zero, Act.put, List.setIfInBounds_toArray, List.set_cons_zero, List.set_cons_succ])
      refine wpAnyH_take (i := 9) (oi := _) (v := ?_) rfl (by kernel_rfl) (by kernel_rfl) (by kernel_rfl) (fun _ _ _ h => h) (Or.inl ⟨by rfl, ?_⟩) hHeld ?_
      rotate_left
      · (intro w hSw; (try dsimp only at hSw); first | (go_simp; done) | (go_simp; with_reducible rfl))
      (try simp only [List.getElem_toArray, List.getElem_cons_succ, List.getElem_cons_zero, Act.put, List.setIfInBounds_toArray, List.set_cons_zero, List.set_cons_succ])
      refine wpAnyH_take (i := 11) (oi := _) (v := ?_) rfl (by kernel_rfl) (by kernel_rfl) (by kernel_rfl) (fun _ _ _ h => h) (Or.inl ⟨by rfl, ?_⟩) hHeld ?_
      rotate_left
      · (intro w hSw; (try dsimp only at hSw); first | (go_simp; done) | (go_simp; with_reducible rfl))
      (try simp only [List.getElem_toArray, List.getElem_cons_succ, List.getElem_cons_zero, Act.put, List.setIfInBounds_toArray, List.set_cons_zero, List.set_cons_succ])
      refine wpAnyH_take (i := 12) (oi := _) (v := ?_) rfl (by kernel_rfl) (by kernel_rfl) (by kernel_rfl) (fun _ _ _ h => h) (Or.inl ⟨by rfl, ?_⟩) hHeld ?_
      rotate_left
      · (intro w hSw; (try dsimp only at hSw); first | (go_simp; done) | (go_simp; with_reducible rfl))
      (try simp only [List.getElem_toArray, List.getElem_cons_succ, List.getElem_cons_zero, Act.put, List.setIfInBounds_toArray, List.set_cons_zero, List.set_cons_succ])
      refine wpAnyH_take (i := 13) (oi := _) (v := ?_) rfl (by kernel_rfl) (by kernel_rfl) (by kernel_rfl) (fun _ _ _ h => h) (Or.inl ⟨by rfl, ?_⟩) hHeld ?_
      rotate_left
      · (intro w hSw; (try dsimp only at hSw); first | (go_simp; done) | (go_simp; with_reducible rfl))
      (try simp only [List.getElem_toArray, List.getElem_cons_succ, List.getElem_cons_zero, Act.put, List.setIfInBounds_toArray, List.set_cons_zero, List.set_cons_succ])
      refine wpAnyH_ready (rs := [10, 14]) (by kernel_rfl) (by simp) ?_
      refine (AllReadyH.cons (o := _) rfl (fun K hK => ?_) (AllReadyH.cons (o := _) rfl (fun K hK => ?_) AllReadyH.nil))
      · refine wp_load_part 52 (.tmp 21) rfl g (s1) (s1 * 32) (Nat.mul_comm _ _) rfl t (y) _ HRD.out HLE1.out Try.underlying52 rfl frame_32 ?_
        refine hK.out _ _ hHeld (fun hHeld => ?_)
        clear hK K
        (try simp only [List.getElem_toArray, List.getElem_cons_succ, List.getElem_cons_zero, Act.put, List.setIfInBounds_toArray, List.set_cons_zero, List.set_cons_succ])
        refine wpAnyH_ready (rs := [14]) (by kernel_rfl) (by simp) ?_
        refine (AllReadyH.cons (o := _) rfl (fun K hK => ?_) AllReadyH.nil)
        refine wp_load_part 52 (.tmp 25) rfl g (s) (s * 32) (Nat.mul_comm _ _) rfl t (y) _ HRD.out HLE2.out Try.underlying52 rfl frame_32 ?_
        refine hK.out _ _ hHeld (fun hHeld => ?_)
        clear hK K
        (try simp only [List.getElem_toArray, List.getElem_cons_succ, List.getElem_cons_zero, Act.put, List.setIfInBounds_toArray, List.set_cons_zero, List.set_cons_succ])
        refine wpAnyH_ready (rs := [15]) (by kernel_rfl) (by simp) ?_
        refine (AllReadyH.cons (o := _) rfl (fun K hK => ?_) AllReadyH.nil)
        go_simp
        refine (HC.out _).mono ?_
        rintro e w20 ⟨rfl, hb⟩
        go_wp2_with fail
        have hN := hHeld.trans (hb.mono (Nat.le_of_lt (Row.lt HRD.out)))
        have HR20 := Lib.hid (Row.box HRD.out hb)
        clear HRD
        clear hHeld hb
        refine hK.out _ _ hN (fun hHeld => ?_)
        clear hN hK K
        (try simp only [List.getElem_toArray, List.getElem_cons_succ, List.getElem_cons_zero, Act.put, List.setIfInBounds_toArray, List.set_cons_zero, List.set_cons_succ])
        refine wpAnyH_take (i := 16) (oi := _) (v := ?_) rfl (by kernel_rfl) (by kernel_rfl) (by kernel_rfl) (fun _ _ _ h => h) (Or.inl ⟨by rfl, ?_⟩) hHeld ?_
        rotate_left
        · (intro w hSw; (try dsimp only at hSw); first | (go_simp; done) | (go_simp; with_reducible rfl))
        (try simp only [List.getElem_toArray, List.getElem_cons_succ, List.getElem_cons_zero, Act.put, List.setIfInBounds_toArray, List.set_cons_zero, List.set_cons_succ])
        refine wpAnyH_take (i := 17) (oi := _) (v := ?_) rfl (by kernel_rfl) (by kernel_rfl) (by kernel_rfl) (fun _ _ _ h => h) (Or.inl ⟨by rfl, ?_⟩) hHeld ?_
        rotate_left
        · (intro w hSw; (try dsimp only at hSw); first | (go_simp; done) | (go_simp; with_reducible rfl))
        (try simp only [List.getElem_toArray, List.getElem_cons_succ, List.getElem_cons_zero, Act.put, List.setIfInBounds_toArray, List.set_cons_zero, List.set_cons_succ])
        refine wpAnyH_take (i := 18) (oi := _) (v := ?_) rfl (by kernel_rfl) (by kernel_rfl) (by kernel_rfl) (fun _ _ _ h => h) (Or.inl ⟨by rfl, ?_⟩) hHeld ?_
        rotate_left
        · (intro w hSw; (try dsimp only at hSw); first | (go_simp; done) | (go_simp; with_reducible rfl))
        (try simp only [List.getElem_toArray, List.getElem_cons_succ, List.getElem_cons_zero, Act.put, List.setIfInBounds_toArray, List.set_cons_zero, List.set_cons_succ])
        refine wpAnyH_take (i := 19) (oi := _) (v := ?_) rfl (by kernel_rfl) (by kernel_rfl) (by kernel_rfl) (fun _ _ _ h => h) (Or.inl ⟨by rfl, ?_⟩) hHeld ?_
        rotate_left
        · (intro w hSw; (try dsimp only at hSw); first | (go_simp; done) | (go_simp; with_reducible rfl))
        (try simp only [List.getElem_toArray, List.getElem_cons_succ, List.getElem_cons_zero, Act.put, List.setIfInBounds_toArray, List.set_cons_zero, List.set_cons_succ])
        refine wpAnyH_ready (rs := [20]) (by kernel_rfl) (by simp) ?_
        refine (AllReadyH.cons (o := _) rfl (fun K hK => ?_) AllReadyH.nil)
        refine wp_store_part 52 (.tmp 30) (.tmp 28) rfl g (s1) (s1 * 32) (Nat.mul_comm _ _) (A) rfl rfl t (y) HR20.out HLE1.out HLA.out frame_32 ?_
        refine hK.out _ _ (below_setRow hHeld (Nat.le_refl _) _) (fun hHeld => ?_)
        clear hK K
        have hNew : Row (w20.setRow g (iCells (putb (y) (s1) (A)))) g t (iCells (putb (y) (s1) (A))) := Row.setRow HR20.out _
        clear HR20
        have HR21 := Lib.hid hNew
        clear hNew
        generalize w20.setRow g (iCells (putb (y) (s1) (A))) = w21 at *
        (try simp only [List.getElem_toArray, List.getElem_cons_succ, List.getElem_cons_zero, Act.put])
        refine wpAnyH_take (i := 21) (oi := _) (v := ?_) rfl (by kernel_rfl) (by kernel_rfl) (by kernel_rfl) (fun _ _ _ h => h) (Or.inl ⟨by rfl, ?_⟩) hHeld ?_
        rotate_left
        · (intro w hSw; (try dsimp only at hSw); first | (go_simp; done) | (go_simp; with_reducible rfl))
        (try simp only [List.getElem_toArray, List.getElem_cons_succ, List.getElem_cons_zero, Act.put, List.setIfInBounds_toArray, List.set_cons_zero, List.set_cons_succ])
        refine wpAnyH_ready (rs := [22]) (by kernel_rfl) (by simp) ?_
        refine (AllReadyH.cons (o := _) rfl (fun K hK => ?_) AllReadyH.nil)
        refine wp_store_part 52 (.tmp 31) (.tmp 29) rfl g (s) (s * 32) (Nat.mul_comm _ _) (B) rfl rfl t (putb (y) (s1) (A)) HR21.out (by rw [putb_len]; exact HLE2.out) HLB.out frame_32 ?_
        refine hK.out _ _ (below_setRow hHeld (Nat.le_refl _) _) (fun hHeld => ?_)
        clear hK K
        have hNew : Row (w21.setRow g (iCells (putb (putb (y) (s1) (A)) (s) (B)))) g t (iCells (putb (putb (y) (s1) (A)) (s) (B))) := Row.setRow HR21.out _
        clear HR21
        have HR22 := Lib.hid hNew
        clear hNew
        generalize w21.setRow g (iCells (putb (putb (y) (s1) (A)) (s) (B))) = w22 at *
        (try simp only [List.getElem_toArray, List.getElem_cons_succ, List.getElem_cons_zero, Act.put])
        refine wpAnyH_done (by kernel_rfl) ?_ _
        have hr := HR22.out
        rw [HPS.out] at hr
        clear HR22
        have HR := Lib.hid hr
        have HB2 := Lib.hid hHeld
        clear hr hHeld HB
        go_wp2
        go_roundw
        case rel => exact ⟨s + 1, by omega, by have := HLT.out; omega, by go_num, HR.out, HB2.out⟩
        case measure =>
          have := HLT.out
          simp only [intOf]
          omega
      · refine wp_load_part 52 (.tmp 25) rfl g (s) (s * 32) (Nat.mul_comm _ _) rfl t (y) _ HRD.out HLE2.out Try.underlying52 rfl frame_32 ?_
        refine hK.out _ _ hHeld (fun hHeld => ?_)
        clear hK K
        (try simp only [List.getElem_toArray, List.getElem_cons_succ, List.getElem_cons_zero, Act.put, List.setIfInBounds_toArray, List.set_cons_zero, List.set_cons_succ])
        refine wpAnyH_ready (rs := [10]) (by kernel_rfl) (by simp) ?_
        refine (AllReadyH.cons (o := _) rfl (fun K hK => ?_) AllReadyH.nil)
        refine wp_load_part 52 (.tmp 21) rfl g (s1) (s1 * 32) (Nat.mul_comm _ _) rfl t (y) _ HRD.out HLE1.out Try.underlying52 rfl frame_32 ?_
        refine hK.out _ _ hHeld (fun hHeld => ?_)
        clear hK K
        (try simp only [List.getElem_toArray, List.getElem_cons_succ, List.getElem_cons_zero, Act.put, List.setIfInBounds_toArray, List.set_cons_zero, List.set_cons_succ])
        refine wpAnyH_ready (rs := [15]) (by kernel_rfl) (by simp) ?_
        refine (AllReadyH.cons (o := _) rfl (fun K hK => ?_) AllReadyH.nil)
        go_simp
        refine (HC.out _).mono ?_
        rintro e w23 ⟨rfl, hb⟩
        go_wp2_with fail
        have hN := hHeld.trans (hb.mono (Nat.le_of_lt (Row.lt HRD.out)))
        have HR23 := Lib.hid (Row.box HRD.out hb)
        clear HRD
        clear hHeld hb
        refine hK.out _ _ hN (fun hHeld => ?_)
        clear hN hK K
        (try simp only [List.getElem_toArray, List.getElem_cons_succ, List.getElem_cons_zero, Act.put, List.setIfInBounds_toArray, List.set_cons_zero, List.set_cons_succ])
        refine wpAnyH_take (i := 16) (oi := _) (v := ?_) rfl (by kernel_rfl) (by kernel_rfl) (by kernel_rfl) (fun _ _ _ h => h) (Or.inl ⟨by rfl, ?_⟩) hHeld ?_
        rotate_left
        · (intro w hSw; (try dsimp only at hSw); first | (go_simp; done) | (go_simp; with_reducible rfl))
        (try simp only [List.getElem_toArray, List.getElem_cons_succ, List.getElem_cons_zero, Act.put, List.setIfInBounds_toArray, List.set_cons_zero, List.set_cons_succ])
        refine wpAnyH_take (i := 17) (oi := _) (v := ?_) rfl (by kernel_rfl) (by kernel_rfl) (by kernel_rfl) (fun _ _ _ h => h) (Or.inl ⟨by rfl, ?_⟩) hHeld ?_
        rotate_left
        · (intro w hSw; (try dsimp only at hSw); first | (go_simp; done) | (go_simp; with_reducible rfl))
        (try simp only [List.getElem_toArray, List.getElem_cons_succ, List.getElem_cons_zero, Act.put, List.setIfInBounds_toArray, List.set_cons_zero, List.set_cons_succ])
        refine wpAnyH_take (i := 18) (oi := _) (v := ?_) rfl (by kernel_rfl) (by kernel_rfl) (by kernel_rfl) (fun _ _ _ h => h) (Or.inl ⟨by rfl, ?_⟩) hHeld ?_
        rotate_left
        · (intro w hSw; (try dsimp only at hSw); first | (go_simp; done) | (go_simp; with_reducible rfl))
        (try simp only [List.getElem_toArray, List.getElem_cons_succ, List.getElem_cons_zero, Act.put, List.setIfInBounds_toArray, List.set_cons_zero, List.set_cons_succ])
        refine wpAnyH_take (i := 19) (oi := _) (v := ?_) rfl (by kernel_rfl) (by kernel_rfl) (by kernel_rfl) (fun _ _ _ h => h) (Or.inl ⟨by rfl, ?_⟩) hHeld ?_
        rotate_left
        · (intro w hSw; (try dsimp only at hSw); first | (go_simp; done) | (go_simp; with_reducible rfl))
        (try simp only [List.getElem_toArray, List.getElem_cons_succ, List.getElem_cons_zero, Act.put, List.setIfInBounds_toArray, List.set_cons_zero, List.set_cons_succ])
        refine wpAnyH_ready (rs := [20]) (by kernel_rfl) (by simp) ?_
        refine (AllReadyH.cons (o := _) rfl (fun K hK => ?_) AllReadyH.nil)
        refine wp_store_part 52 (.tmp 30) (.tmp 28) rfl g (s1) (s1 * 32) (Nat.mul_comm _ _) (A) rfl rfl t (y) HR23.out HLE1.out HLA.out frame_32 ?_
        refine hK.out _ _ (below_setRow hHeld (Nat.le_refl _) _) (fun hHeld => ?_)
        clear hK K
        have hNew : Row (w23.setRow g (iCells (putb (y) (s1) (A)))) g t (iCells (putb (y) (s1) (A))) := Row.setRow HR23.out _
        clear HR23
        have HR24 := Lib.hid hNew
        clear hNew
        generalize w23.setRow g (iCells (putb (y) (s1) (A))) = w24 at *
        (try simp only [List.getElem_toArray, List.getElem_cons_succ, List.getElem_cons_zero, Act.put])
        refine wpAnyH_take (i := 21) (oi := _) (v := ?_) rfl (by kernel_rfl) (by kernel_rfl) (by kernel_rfl) (fun _ _ _ h => h) (Or.inl ⟨by rfl, ?_⟩) hHeld ?_
        rotate_left
        · (intro w hSw; (try dsimp only at hSw); first | (go_simp; done) | (go_simp; with_reducible rfl))
        (try simp only [List.getElem_toArray, List.getElem_cons_succ, List.getElem_cons_zero, Act.put, List.setIfInBounds_toArray, List.set_cons_zero, List.set_cons_succ])
        refine wpAnyH_ready (rs := [22]) (by kernel_rfl) (by simp) ?_
        refine (AllReadyH.cons (o := _) rfl (fun K hK => ?_) AllReadyH.nil)
        refine wp_store_part 52 (.tmp 31) (.tmp 29) rfl g (s) (s * 32) (Nat.mul_comm _ _) (B) rfl rfl t (putb (y) (s1) (A)) HR24.out (by rw [putb_len]; exact HLE2.out) HLB.out frame_32 ?_
        refine hK.out _ _ (below_setRow hHeld (Nat.le_refl _) _) (fun hHeld => ?_)
        clear hK K
        have hNew : Row (w24.setRow g (iCells (putb (putb (y) (s1) (A)) (s) (B)))) g t (iCells (putb (putb (y) (s1) (A)) (s) (B))) := Row.setRow HR24.out _
        clear HR24
        have HR25 := Lib.hid hNew
        clear hNew
        generalize w24.setRow g (iCells (putb (putb (y) (s1) (A)) (s) (B))) = w25 at *
        (try simp only [List.getElem_toArray, List.getElem_cons_succ, List.getElem_cons_zero, Act.put])
        refine wpAnyH_done (by kernel_rfl) ?_ _
        have hr := HR25.out
        rw [HPS.out] at hr
        clear HR25
        have HR := Lib.hid hr
        have HB2 := Lib.hid hHeld
        clear hr hHeld HB
        go_wp2
        go_roundw
        case rel => exact ⟨s + 1, by omega, by have := HLT.out; omega, by go_num, HR.out, HB2.out⟩
        case measure =>
          have := HLT.out
          simp only [intOf]
          omega
    · have hz := HZ.out s hge
      have hr := HR.out
      rw [hz] at hr
      clear HR hz
      have HR := Lib.hid hr
      have hge : ¬ ((s : Int) < (n : Int)) := by omega
      clear hr HZ HBD HP
      go_wp2_with fail
      go_end0
      exact ⟨rfl, HR.out, HB.out⟩
end Go.Proofs.Ytpfdjddjoclldaa
