/-
  The law LoadChecks holds: a number is read just if its check is its payload's. Conditions: none but those of the row.
-/
import Derived.Test.YtmfnjjkbfabonaaDoorQ14
import Derived.Test.YtmfnjjkbfabonaaDoorTie
import Derived.Test.YtmfnjjkbfabonaaDoorCards
import Derived.SevenTiedAt

/- The walk of the law LoadChecks. Conditions: a key has 16 bytes; the signs lie as the program's text lays them. -/
namespace Go.Proofs.YtmfnjjkbfabonaaDoor
open Go.RowKit
open M
attribute [local go_sem] un_beq un_bne

set_option maxRecDepth 100000 in
set_option maxHeartbeats 1000000 in
theorem checks_any (k : List UInt8) (x : BitVec 64) (w : World) (hk : k.length = 16) (h : Signs w) :
    Calls Tryd.prog 4 #[.agg (byteCells k), .int .u64 (un x)] w fun e w' => e = .returned (.bool true) ∧ Below w.heap.size w w' := by
  have hb0 : Below w.heap.size w (w.alloc (.cells (byteCells k) 23)) := (Below.refl _ _).alloc (Nat.le_refl _) _
  have HB_0 := Lib.hid hb0
  have HG_0 := Lib.hid (h.below hb0 h.lt)
  have HK_0 : Hid (Row (w.alloc (.cells (byteCells k) 23)) w.heap.size 23 (byteCells k)) := heap_alloc_new _ _
  have HI := Lib.hid (key_info k hk)
  have HA := Lib.hid fun W (hs : Signs W) => awake_any W hs
  have HR := Lib.hid fun W (hs : Signs W) => read_any k x W hk hs
  have hlt : x.toNat % 281474976710656 < 281474976710656 := Nat.mod_lt _ (by decide)
  have HC := Lib.hid fun W => check_ref k (x.toNat % 281474976710656) W hk hlt
  have hyes := rd_yes k x
  have hno := rd_no k x
  have hx : un x % 281474976710656 = ((x.toNat % 281474976710656 : Nat) : Int) := by unfold un; omega
  have hx2 : (un x).tmod 281474976710656 = ((x.toNat % 281474976710656 : Nat) : Int) := by rw [Int.tmod_eq_emod_of_nonneg (un_nonneg x)]; exact hx
  have hd : un x / 281474976710656 = ((x.toNat / 281474976710656 : Nat) : Int) := by unfold un; omega
  have hd2 : (un x).tdiv 281474976710656 = ((x.toNat / 281474976710656 : Nat) : Int) := by rw [Int.tdiv_eq_ediv_of_nonneg (un_nonneg x)]; exact hd
  have hxl : x.toNat / 281474976710656 < 65536 := by have := x.isLt; omega
  have hcl := chk_lt k (x.toNat % 281474976710656)
  have HBD := un_bd x
  clear h hb0
  generalize x.toNat % 281474976710656 = p at *
  generalize x.toNat / 281474976710656 = q at *
  generalize chk k p = c at *
  have h1 : IntKind.i64.wrap (p : Int) = p := by rw [IntKind.wrap_i64]; omega
  have h2 : IntKind.u64.wrap (p : Int) = p := by rw [IntKind.wrap_u64]; omega
  have h3 : IntKind.u64.wrap (c : Int) = c := by rw [IntKind.wrap_u64]; omega
  have h4 : IntKind.u64.wrap (q : Int) = q := by rw [IntKind.wrap_u64]; omega
  by_cases hq : q = c
  · have hv := hyes hq
    subst hq
    rw [hv.1, hv.2] at HR
    clear hv hyes hno
    go_enter Tryd.func4, Tryd.ntmps4
    go_wp2_with fail
    refine (HA.out _ HG_0.out).mono ?_
    rintro e w1 ⟨rfl, hb⟩
    have HB_1 := Lib.hid (HB_0.out.trans (hb.mono HB_0.out.size))
    have HK_1 := Lib.hid (HK_0.out.box hb)
    have HG_1 := Lib.hid (HG_0.out.below hb HG_0.out.lt)
    clear hb HB_0 HK_0 HG_0
    go_wp2_with (first
        | (refine wpList_load_row rfl 23 (.tmp 2) rfl w.heap.size rfl 23 (byteCells k) (0, 0) _ HK_1.out Tryd.underlying23 rfl HI.out ?_))
    refine (HR.out _ HG_1.out).mono ?_
    rintro e w2 ⟨rfl, hb⟩
    have HB_2 := Lib.hid (HB_1.out.trans (hb.mono HB_1.out.size))
    have HK_2 := Lib.hid (HK_1.out.box hb)
    have HG_2 := Lib.hid (HG_1.out.below hb HG_1.out.lt)
    clear hb HB_1 HK_1 HG_1
    go_wp2_with (first
        | (refine wpList_load_row rfl 23 (.tmp 2) rfl w.heap.size rfl 23 (byteCells k) (0, 0) _ HK_2.out Tryd.underlying23 rfl HI.out ?_))
    refine (HC.out _).mono ?_
    rintro e w3 ⟨rfl, hb⟩
    have HB_3 := Lib.hid (HB_2.out.trans (hb.mono HB_2.out.size))
    clear hb HB_2 
    go_wp2
    go_ret
    exact ⟨rfl, HB_3.out⟩
  · have hv := hno hq
    have hq2 : ((q : Int) != (c : Int)) = true := by rw [bne_iff_ne]; omega
    have hq3 : ¬ (q : Int) = (c : Int) := by omega
    rw [hv.1, hv.2] at HR
    clear hv hyes hno hq
    go_enter Tryd.func4, Tryd.ntmps4
    go_wp2_with fail
    refine (HA.out _ HG_0.out).mono ?_
    rintro e w1 ⟨rfl, hb⟩
    have HB_1 := Lib.hid (HB_0.out.trans (hb.mono HB_0.out.size))
    have HK_1 := Lib.hid (HK_0.out.box hb)
    have HG_1 := Lib.hid (HG_0.out.below hb HG_0.out.lt)
    clear hb HB_0 HK_0 HG_0
    go_wp2_with (first
        | (refine wpList_load_row rfl 23 (.tmp 2) rfl w.heap.size rfl 23 (byteCells k) (0, 0) _ HK_1.out Tryd.underlying23 rfl HI.out ?_))
    refine (HR.out _ HG_1.out).mono ?_
    rintro e w2 ⟨rfl, hb⟩
    have HB_2 := Lib.hid (HB_1.out.trans (hb.mono HB_1.out.size))
    have HK_2 := Lib.hid (HK_1.out.box hb)
    have HG_2 := Lib.hid (HG_1.out.below hb HG_1.out.lt)
    clear hb HB_1 HK_1 HG_1
    go_wp2_with (first
        | (refine wpList_load_row rfl 23 (.tmp 2) rfl w.heap.size rfl 23 (byteCells k) (0, 0) _ HK_2.out Tryd.underlying23 rfl HI.out ?_))
    refine (HC.out _).mono ?_
    rintro e w3 ⟨rfl, hb⟩
    have HB_3 := Lib.hid (HB_2.out.trans (hb.mono HB_2.out.size))
    clear hb HB_2 
    go_wp2
    go_ret
    exact ⟨rfl, HB_3.out⟩
end Go.Proofs.YtmfnjjkbfabonaaDoor

/- The law LoadChecks holds: a number is read just if its check is its payload's. Conditions: none but those of the row. -/
namespace Go.Proofs.YtmfnjjkbfabonaaDoor.loadChecks
open Go.ChangeShapes Go.WideShapes Go.ChangeAt Go.RowKit
open Go.ChangeMaps (open_string shut_string)
open M

set_option maxRecDepth 100000 in
theorem lifted (os : Os) (started : os.Started) (H : Type) (enc : TypeId × Value → H) :
    ReturnsInHanded {} Tryd.checked os 4 .any (fun w args => (Rows.loadChecksSpec.pre enc Tryd.prog Tryd.f4 [] false w args ∧ laidMetH Tryd.prog laidL w) ∧ sizedMet enc Tryd.prog Tryd.f4 (OpenSpec.ofChange Rows.loadChecksSpec) false w args)
      (Rows.loadChecksSpec.post enc Tryd.prog Tryd.f4 false true false false) := by
  refine returnsInHanded_of_change_and (C := Tryd.checked) (X := fun w _ => laidMetH Tryd.prog laidL w) (fun _ _ _ hh h => h.of_heap hh) own started (by kernel_rfl) Tryd.func4
    (ChangeSpec.witness_shaped (enc := enc) (C := Tryd.checked) (os := os) (X := fun w _ => laidMetH Tryd.prog laidL w) false (World.doorLaid Tryd.prog 400 os) #[.agg (Array.replicate 16 (.int .u8 0)), .int .u64 0] 8 rfl (World.shaped_of_RefB (by kernel_rfl) (by kernel_rfl)) (by kernel_rfl) (by kernel_rfl) (by kernel_rfl) (door_met os _)) ?_
  intro W base args ds gs before hval0 hW _ _ hL _
  have hval : ∀ (j : Nat) t v, Tryd.f4.params[j]? = some t → args[j]? = some v → Value.okWide Tryd.prog W .any base t v := hval0
  have hW' := hW
  obtain ⟨p, q, hA0, hV, rfl, hfz, hnd⟩ := hW
  have hA : DataW.TrodAll enc Tryd.prog W 0 (fun _ => true) true Tryd.f4.params.toList args.toList ds p := hA0
  rw [Tryd.params4] at hA hval
  obtain ⟨v0, vs0, d0, ds0, p0, q0, hargs, rfl, rfl, h0, r0⟩ := trodAll_cons hA
  obtain ⟨v1, vs1, d1, ds1, p1, q1, rfl, rfl, rfl, h1, r1⟩ := trodAll_cons r0
  obtain ⟨rfl, rfl, rfl⟩ := trodAll_nil r1
  obtain rfl : args = #[v0, v1] := by cases args; simp_all
  obtain ⟨rfl, rfl⟩ := trodVars_none hV
  obtain ⟨a0, k0, rfl, rfl, rfl, w0⟩ := open_key (hval 0 23 v0 rfl rfl) h0
  obtain ⟨n1, rfl, rfl, rfl, w1⟩ := open_int Tryd.underlying36 (hval 1 36 v1 rfl rfl) h1
  obtain ⟨a1, rfl⟩ := word_of_wf w1
  have hS := signs_of hL
  clear hA0 hval0
  refine (checks_any a0 a1 W k0 hS).mono fun e W' ⟨he, bel⟩ => ?_
  subst he
  exact ⟨_, rfl, _, _, _, [], _, [], hW', trodAll_mk1 (shut_bool Tryd.underlying4 _), (trodAll_cons_mk (w0 _ _ _ _) (trodAll_cons_mk (shut_int Tryd.underlying36 w1) trodAll_mk0)), rfl, bel.frame _, fun h => by cases h⟩

theorem row_holds : Rows.LoadChecksSaid :=
  OpenClaim.holds_of_wide 4 Tryd.f4 rfl rfl rfl rfl rfl rfl rfl ⟨rfl, rfl, rfl, rfl, rfl⟩ rfl rfl rfl rfl rfl (by kernel_rfl) Tryd.func4 (by kernel_rfl)
    (of_decide_eq_true (by kernel_rfl)) (by unfold Func.isWrapper; first | (rw [if_pos (by decide +kernel)]; kernel_rfl) | (rw [if_neg (by decide +kernel)]; exact ⟨rfl, rfl⟩))
    (fun os started H enc _ => lifted os started H enc)

theorem proved : Rows.LoadChecksCardSaid :=
  Claim7.holds_tied_plain_at .later [] [.data] true Rows.loadChecksCard.stood.harness false
    row_holds (fun _ h => by cases h) (by kernel_rfl) (fun _ h => by cases h) loadChecks_row_tie rfl ⟨rfl, rfl⟩ (by kernel_rfl) rfl
    (fun f fn hf hfn => by
      obtain rfl : f = 4 := Option.some.inj ((show Tryd.prog.funcNamed Rows.loadChecksRow.func = some 4 by kernel_rfl).symm.trans hf) |>.symm
      obtain rfl : fn = Tryd.f4 := (Option.some.inj (Tryd.func4.symm.trans hfn)).symm
      exact ⟨by kernel_rfl, fun j t ht => by
        rw [Tryd.params4] at ht
        have hm : t ∈ [23, 36] := by simpa using Array.mem_of_getElem? ht
        have hall : ([23, 36].all fun u => !Tryd.prog.wantsStandIn u) = true := by kernel_rfl
        exact (show Tryd.prog.wantsStandIn t = false by simpa using List.all_eq_true.1 hall t hm)⟩)
    (by kernel_rfl)
#print axioms proved
end Go.Proofs.YtmfnjjkbfabonaaDoor.loadChecks
