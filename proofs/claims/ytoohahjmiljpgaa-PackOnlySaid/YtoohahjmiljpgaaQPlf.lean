/-
  PackOnly, walked. Conditions: what pack's Lay, Read and Peek answer, and the reference's Count.
-/
import Derived.Test.YtoohahjmiljpgaaQS17
import Derived.Test.YtoohahjmiljpgaaQCra
import Derived.Test.YtoohahjmiljpgaaQS18
import Derived.Test.YtoohahjmiljpgaaQS21
namespace Go.Proofs.Ytoohahjmiljpgaa
open Go.RowKit
open M
set_option maxRecDepth 100000 in
set_option maxHeartbeats 4000000 in
theorem only19_law (HL : LayOk) (HRe : RedOk) (HPe : PekOk) (HCt : CtOk) (s : ByteArray) (w : World) :
    Calls Try.prog 4 #[.string s] w fun e w' => e = .returned (.bool true) ∧ Below w.heap.size w w' := by
  have HAW := Lib.hid fun w => awake19_any HL HCt w
  have HB : Hid (Below w.heap.size w w) := Lib.hid (Below.refl _ _)
  by_cases hl : s.size > 200
  · have d1 : decide ((s.size : Int) > 200) = true := decide_eq_true (by omega)
    have d2 : decide (200 < (s.size : Int)) = true := decide_eq_true (by omega)
    have d3 : decide (200 < s.size) = true := decide_eq_true hl
    go_enter Try.func4, Try.ntmps4
    go_wp2_with fail
    refine (HAW.out _).mono ?_
    rintro e w2 ⟨rfl, hb⟩
    have HB := Lib.hid (HB.out.trans (hb.mono HB.out.size))
    clear hb
    go_wp2_with fail
    refine (HAW.out _).mono ?_
    rintro e w3 ⟨rfl, hb⟩
    have HB := Lib.hid (HB.out.trans (hb.mono HB.out.size))
    clear hb
    go_wp2_with fail
    go_ret
    exact ⟨rfl, HB.out⟩
  · have d1 : decide ((s.size : Int) > 200) = false := decide_eq_false (by omega)
    have d2 : decide (200 < (s.size : Int)) = false := decide_eq_false (by omega)
    have d3 : decide (200 < s.size) = false := decide_eq_false hl
    by_cases h2 : s.size < 2
    · obtain ⟨U, hU⟩ : ∃ U, s = U := ⟨_, rfl⟩
      subst hU
      have hU2 : s.size ≤ 200 := by omega
      have e2 : decide ((s.size : Int) ≥ 2) = false := decide_eq_false (by omega)
      have e3 : decide (2 ≤ s.size) = false := decide_eq_false (by omega)
      have e4 : decide (2 ≤ (s.size : Int)) = false := decide_eq_false (by omega)
      have HRD := Lib.hid fun w => HRe s w hU2
      have HPK := Lib.hid fun w => HPe s w hU2
      have HBAD : Hid (¬ (12 ≤ s.size ∧ s.size ≤ 24) → e19 s = 1 ∧ p19 s = pk0 ∧ (if e19 s = 0 then (fr19 s : Int) else 0) = 0 ∧ decide (e19 s = 0) = false) := Lib.hid fun h => by
        have e : e19 s = 1 := if_neg h
        have p : p19 s = pk0 := by unfold p19; rw [e]; rfl
        rw [e, p]
        exact ⟨rfl, rfl, rfl, rfl⟩
      have HIN : Hid (12 ≤ s.size ∧ s.size ≤ 24 → so19 s = true → (e19 s = 3 ∧ p19 s = pk0 ∧ (if e19 s = 0 then (fr19 s : Int) else 0) = 0 ∧ decide (e19 s = 0) = false) ∨ (e19 s = 0 ∧ p19 s = (fr19 s : Int) :: sh19 s ∧ (if e19 s = 0 then (fr19 s : Int) else 0) = (fr19 s : Int) ∧ decide (e19 s = 0) = true ∧ ∀ w, Calls Try.prog 10 #[.agg (iCells ((fr19 s : Int) :: sh19 s)), .int .i64 (s.size : Int)] w fun e w' => e = .returned (.tuple #[.string s, .int .i64 0]) ∧ Below w.heap.size w w')) := Lib.hid fun h hso => by
        cases hf : fo19 s
        · have e : e19 s = 3 := by unfold e19; rw [if_pos h, if_pos hso, if_neg (by rw [hf]; exact Bool.false_ne_true)]
          have p : p19 s = pk0 := by unfold p19; rw [e]; rfl
          rw [e, p]
          exact Or.inl ⟨rfl, rfl, rfl, rfl⟩
        · have e : e19 s = 0 := by unfold e19; rw [if_pos h, if_pos hso, if_pos hf]
          have p : p19 s = (fr19 s : Int) :: sh19 s := by unfold p19; rw [if_pos e]
          obtain ⟨o1, o2⟩ := ly_only s e
          have hfr := fr19_lt s
          obtain ⟨l1, l2⟩ := laE_in (fr19 s) s.size (sh19 s) h (by omega) o1
          refine Or.inr ⟨e, p, if_pos e, decide_eq_true e, fun w => ?_⟩
          have hla := HL (fr19 s) (sh19 s) s.size w (sh19_len s)
          rw [l1, l2, o2] at hla
          exact hla
      have hpl : (p19 s).length = 41 := by
        unfold p19
        split
        · rw [List.length_cons, sh19_len]
        · unfold pk0; rw [List.length_replicate]
      have HF := Lib.hid fun _ : Unit => sh19_len s
      obtain ⟨P, hP⟩ : ∃ P, p19 s = P := ⟨_, rfl⟩
      obtain ⟨pn, hpn⟩ : ∃ P, (if e19 s = 0 then (fr19 s : Int) else 0) = P := ⟨_, rfl⟩
      obtain ⟨pb, hpb⟩ : ∃ P, decide (e19 s = 0) = P := ⟨_, rfl⟩
      rw [hpn, hpb] at HPK HBAD HIN
      obtain ⟨E, hE⟩ : ∃ E, e19 s = E := ⟨_, rfl⟩
      rw [hP, hE] at HRD HBAD HIN
      rw [hP] at hpl
      have HPS := Lib.hid (pkt_size P hpl)
      have HPX := Lib.hid (pkt_same zp41 P zp41_length hpl)
      have hz := pkt_zero
      clear hP hpn hpb hE hpl
      clear hU2
      go_enter Try.func4, Try.ntmps4
      go_wp2_with fail
      refine (HAW.out _).mono ?_
      rintro e w2 ⟨rfl, hb⟩
      have HB := Lib.hid (HB.out.trans (hb.mono HB.out.size))
      clear hb
      go_wp2_with fail
      refine (HRD.out _).mono ?_
      rintro e w3 ⟨rfl, hb⟩
      have HB := Lib.hid (HB.out.trans (hb.mono HB.out.size))
      clear hb
      have HN : Hid (Row (w3.alloc (.cells (iCells zp41) 35)) w3.heap.size 35 (iCells zp41)) := Lib.hid (heap_alloc_new _ _)
      go_upto_region 7 with (refine wpList_store_row rfl 35 (.tmp 4) (.tmp 44) rfl w3.heap.size (iCells P) rfl rfl 35 (iCells zp41) HN.out HPS.out HPX.out (iCells_one _) ?_)
      have HGS := Lib.hid HB.out.size
      have HB := Lib.hid (below_laid HB.out (.cells (iCells zp41) 35) (iCells P))
      have HK := Lib.hid (Row.setRow HN.out (iCells P))
      generalize (w3.alloc (.cells (iCells zp41) 35)).setRow w3.heap.size (iCells P) = w4 at *
      obtain ⟨gk, hg⟩ : ∃ g, w3.heap.size = g := ⟨_, rfl⟩
      rw [hg] at HK HGS  ⊢
      clear hg HN
      go_wp2_with fail
      refine (HPK.out _).mono ?_
      rintro e w5 ⟨rfl, hb⟩
      have HK := Lib.hid (HK.out.box hb)
      have HB := Lib.hid (HB.out.trans (hb.mono HB.out.size))
      clear hb
      clear HRD HPK
      by_cases hz1 : s.size < 12
      · have d1 : decide ((s.size : Int) < 12) = true := decide_eq_true (by omega)
        have d2 : decide (s.size < 12) = true := decide_eq_true hz1
        obtain ⟨rfl, rfl, rfl, rfl⟩ := HBAD.out (by omega)
        go_wp2_with fail
        go_ret
        exact ⟨rfl, HB.out⟩
      · omega
    · obtain ⟨n, hn⟩ : ∃ n, s.size = n + 2 := ⟨s.size - 2, by omega⟩
      have hw : (s.size : Int) - 2 = (n : Int) := by omega
      have hw6 : wrap64 (n : Int) = (n : Int) := by rw [wrap64]; omega
      have hn2 : (n : Int) ≤ 198 := by omega
      have hnI : (n : Int) ≤ (s.size : Int) := by omega
      have hnn : n ≤ s.size := by omega
      have e2 : decide ((s.size : Int) ≥ 2) = true := decide_eq_true (by omega)
      have e3 : decide (2 ≤ s.size) = true := decide_eq_true (by omega)
      have e4 : decide (2 ≤ (s.size : Int)) = true := decide_eq_true (by omega)
      obtain ⟨S, hS⟩ : ∃ S, s.extract 0 n = S := ⟨_, rfl⟩
      have hSn : S.size = n := by rw [← hS, ByteArray.size_extract]; omega
      have HSM := Lib.hid fun w => rsum_any 65535 S w (by omega)
      have HUU : Hid (∀ U, S ++ ld15 (sm15 65535 (bl S)) = U → U.size ≤ 200 ∧ so19 U = true) := Lib.hid fun U hU => by
        have e := sl_text S
        rw [hU] at e
        have hsz : U.size = n + 2 := by rw [e, ofB_size, sl_len]; have : (bl S).length = S.size := rfl; omega
        refine ⟨by omega, ?_⟩
        unfold so19
        rw [e, bl_ofB, sl_zero]
        rfl
      obtain ⟨X, hX⟩ : ∃ X, sm15 65535 (bl S) = X := ⟨_, rfl⟩
      have hX5 : X < 65536 := by rw [← hX]; exact sm15_lt _ _
      rw [hX] at HSM HUU
      obtain ⟨a, b, hab, k1, k2, k3, k4⟩ := ld15_parts X
      rw [hab] at HUU
      obtain ⟨T, hT⟩ : ∃ T, ofB [a, b] = T := ⟨_, rfl⟩
      have s2 : T.size = 2 := by rw [← hT]; rfl
      rw [hT] at HUU
      obtain ⟨U, hU⟩ : ∃ U, S ++ T = U := ⟨_, rfl⟩
      obtain ⟨hU2, hso⟩ := HUU.out U hU
      have HSO := Lib.hid hso
      have s1 : S.size ≤ 1000 := by omega
      have HRD := Lib.hid fun w => HRe U w hU2
      have HPK := Lib.hid fun w => HPe U w hU2
      have HBAD : Hid (¬ (12 ≤ U.size ∧ U.size ≤ 24) → e19 U = 1 ∧ p19 U = pk0 ∧ (if e19 U = 0 then (fr19 U : Int) else 0) = 0 ∧ decide (e19 U = 0) = false) := Lib.hid fun h => by
        have e : e19 U = 1 := if_neg h
        have p : p19 U = pk0 := by unfold p19; rw [e]; rfl
        rw [e, p]
        exact ⟨rfl, rfl, rfl, rfl⟩
      have HIN : Hid (12 ≤ U.size ∧ U.size ≤ 24 → so19 U = true → (e19 U = 3 ∧ p19 U = pk0 ∧ (if e19 U = 0 then (fr19 U : Int) else 0) = 0 ∧ decide (e19 U = 0) = false) ∨ (e19 U = 0 ∧ p19 U = (fr19 U : Int) :: sh19 U ∧ (if e19 U = 0 then (fr19 U : Int) else 0) = (fr19 U : Int) ∧ decide (e19 U = 0) = true ∧ ∀ w, Calls Try.prog 10 #[.agg (iCells ((fr19 U : Int) :: sh19 U)), .int .i64 (U.size : Int)] w fun e w' => e = .returned (.tuple #[.string U, .int .i64 0]) ∧ Below w.heap.size w w')) := Lib.hid fun h hso => by
        cases hf : fo19 U
        · have e : e19 U = 3 := by unfold e19; rw [if_pos h, if_pos hso, if_neg (by rw [hf]; exact Bool.false_ne_true)]
          have p : p19 U = pk0 := by unfold p19; rw [e]; rfl
          rw [e, p]
          exact Or.inl ⟨rfl, rfl, rfl, rfl⟩
        · have e : e19 U = 0 := by unfold e19; rw [if_pos h, if_pos hso, if_pos hf]
          have p : p19 U = (fr19 U : Int) :: sh19 U := by unfold p19; rw [if_pos e]
          obtain ⟨o1, o2⟩ := ly_only U e
          have hfr := fr19_lt U
          obtain ⟨l1, l2⟩ := laE_in (fr19 U) U.size (sh19 U) h (by omega) o1
          refine Or.inr ⟨e, p, if_pos e, decide_eq_true e, fun w => ?_⟩
          have hla := HL (fr19 U) (sh19 U) U.size w (sh19_len U)
          rw [l1, l2, o2] at hla
          exact hla
      have hpl : (p19 U).length = 41 := by
        unfold p19
        split
        · rw [List.length_cons, sh19_len]
        · unfold pk0; rw [List.length_replicate]
      have HF := Lib.hid fun _ : Unit => sh19_len U
      obtain ⟨P, hP⟩ : ∃ P, p19 U = P := ⟨_, rfl⟩
      obtain ⟨pn, hpn⟩ : ∃ P, (if e19 U = 0 then (fr19 U : Int) else 0) = P := ⟨_, rfl⟩
      obtain ⟨pb, hpb⟩ : ∃ P, decide (e19 U = 0) = P := ⟨_, rfl⟩
      rw [hpn, hpb] at HPK HBAD HIN
      obtain ⟨E, hE⟩ : ∃ E, e19 U = E := ⟨_, rfl⟩
      rw [hP, hE] at HRD HBAD HIN
      rw [hP] at hpl
      have HPS := Lib.hid (pkt_size P hpl)
      have HPX := Lib.hid (pkt_same zp41 P zp41_length hpl)
      have hz := pkt_zero
      clear hP hpn hpb hE hpl
      clear hX hso HUU hab hSn hU2 hn h2 hl
      go_enter Try.func4, Try.ntmps4
      go_wp2_with fail
      refine (HAW.out _).mono ?_
      rintro e w2 ⟨rfl, hb⟩
      have HB := Lib.hid (HB.out.trans (hb.mono HB.out.size))
      clear hb
      go_wp2_with fail
      refine (HSM.out _).mono ?_
      rintro e w3 ⟨rfl, hb⟩
      have HB := Lib.hid (HB.out.trans (hb.mono HB.out.size))
      clear hb
      have kc := conv_two w3.drew w3.heap.size a b 5 rfl
      rw [hT] at kc
      have kc2 : (convert 44 9 (.slice (some ⟨w3.heap.size, 0, none⟩) 2 2)).run Try.prog (w3.alloc (.cells #[.int .u8 (ub a), .int .u8 (ub b)] 5)).drew = .ok (.string T) (w3.alloc (.cells #[.int .u8 (ub a), .int .u8 (ub b)] 5)).drew := kc
      have HB := Lib.hid (below_drew1 (HB.out.alloc HB.out.size (.cells #[.int .u8 (ub a), .int .u8 (ub b)] 5)))
      clear kc
      go_wp2_with fail
      go_region
      clear kc2 hw hw6 hn2 hnI hnn e2 e3 e4 d1 d2 d3 hS k1 k2 k3 k4 hT s2 hU s1 hX5 HSM HAW
      generalize (w3.alloc (.cells #[.int .u8 (ub a), .int .u8 (ub b)] 5)).drew = w9 at *
      go_wp2_with fail
      refine (HRD.out _).mono ?_
      rintro e w10 ⟨rfl, hb⟩
      have HB := Lib.hid (HB.out.trans (hb.mono HB.out.size))
      clear hb
      have HN : Hid (Row (w10.alloc (.cells (iCells zp41) 35)) w10.heap.size 35 (iCells zp41)) := Lib.hid (heap_alloc_new _ _)
      go_upto_region 7 with (refine wpList_store_row rfl 35 (.tmp 4) (.tmp 44) rfl w10.heap.size (iCells P) rfl rfl 35 (iCells zp41) HN.out HPS.out HPX.out (iCells_one _) ?_)
      have HGS := Lib.hid HB.out.size
      have HB := Lib.hid (below_laid HB.out (.cells (iCells zp41) 35) (iCells P))
      have HK := Lib.hid (Row.setRow HN.out (iCells P))
      generalize (w10.alloc (.cells (iCells zp41) 35)).setRow w10.heap.size (iCells P) = w11 at *
      obtain ⟨gk, hg⟩ : ∃ g, w10.heap.size = g := ⟨_, rfl⟩
      rw [hg] at HK HGS  ⊢
      clear hg HN
      go_wp2_with fail
      refine (HPK.out _).mono ?_
      rintro e w12 ⟨rfl, hb⟩
      have HK := Lib.hid (HK.out.box hb)
      have HB := Lib.hid (HB.out.trans (hb.mono HB.out.size))
      clear hb
      clear HRD HPK
      by_cases hz1 : U.size < 12
      · have d1 : decide ((U.size : Int) < 12) = true := decide_eq_true (by omega)
        have d2 : decide (U.size < 12) = true := decide_eq_true hz1
        obtain ⟨rfl, rfl, rfl, rfl⟩ := HBAD.out (by omega)
        go_wp2_with fail
        go_ret
        exact ⟨rfl, HB.out⟩
      · have d1 : decide ((U.size : Int) < 12) = false := decide_eq_false (by omega)
        have d2 : decide (U.size < 12) = false := decide_eq_false hz1
        by_cases hz2 : U.size > 24
        · have d3 : decide ((U.size : Int) > 24) = true := decide_eq_true (by omega)
          have d4 : decide (24 < (U.size : Int)) = true := decide_eq_true (by omega)
          have d5 : decide (24 < U.size) = true := decide_eq_true hz2
          obtain ⟨rfl, rfl, rfl, rfl⟩ := HBAD.out (by omega)
          go_wp2_with fail
          go_ret
          exact ⟨rfl, HB.out⟩
        · have d3 : decide ((U.size : Int) > 24) = false := decide_eq_false (by omega)
          have d4 : decide (24 < (U.size : Int)) = false := decide_eq_false (by omega)
          have d5 : decide (24 < U.size) = false := decide_eq_false hz2
          rcases HIN.out (by omega) HSO.out with ⟨rfl, rfl, rfl, rfl⟩ | ⟨rfl, rfl, rfl, rfl, hla⟩
          · have hEQ : ∀ w, (Op.equalIn 10000 35 (.agg (iCells pk0)) (.agg (iCells zp41))).run Try.prog w = .ok true w := fun w => packet_eq pk0 zp41 (by decide) zp41_length w
            go_wp2_with (refine g_load_row (by rfl) 35 (.tmp 4) rfl gk rfl 35 (iCells pk0) (0, 0) _ HK.out Try.underlying35 rfl HPS.out ?_)
            go_ret
            exact ⟨rfl, HB.out⟩
          · have HLA := Lib.hid hla
            clear hla HBAD HIN
            obtain ⟨S, hS⟩ : ∃ S, (fr19 U : Int) :: sh19 U = S := ⟨_, rfl⟩
            have c00 : S.getD 0 0 = (fr19 U : Int) := by rw [← hS]; rfl
            have hS41 : 0 < S.length := by rw [← hS, List.length_cons]; omega
            rw [hS] at HK HLA HPS HPX
            go_wp2_with (refine wpList_load_row rfl 35 (.tmp 4) rfl gk rfl 35 (iCells S) (0, 0) _ HK.out Try.underlying35 rfl HPS.out ?_)
            refine (HLA.out _).mono ?_
            rintro e w13 ⟨rfl, hb⟩
            have HK := Lib.hid (HK.out.box hb)
            have HB := Lib.hid (HB.out.trans (hb.mono HB.out.size))
            clear hb
            have c0 := i_at HK.out 0 hS41
            rw [c00] at c0
            have huu : (U.toList == U.toList) = true := beq_self_eq_true _
            go_wp2_with fail
            go_ret
            exact ⟨rfl, HB.out⟩
end Go.Proofs.Ytoohahjmiljpgaa
