/-
  PackHeads holds at every frame number, eight steps, two times eight numbers and size: it returns true, and its arguments read as before. No conditions.
-/
import Derived.Test.YtoohahjmiljpgaaQPle
import Derived.Test.YtoohahjmiljpgaaQWkj
import Derived.Test.YtoohahjmiljpgaaQIxe
import Derived.Test.YtoohahjmiljpgaaQS5
import Derived.Test.YtoohahjmiljpgaaQS13
import Derived.Test.YtoohahjmiljpgaaRows
import Derived.ProofKit
import Derived.OpenShut
import Derived.ShutString
import Derived.Stop.Joined
namespace Go.Proofs.Ytoohahjmiljpgaa.packHeads
open Go.ChangeShapes Go.WideShapes Go.ChangeAt Go.RowKit
open Go.ChangeMaps (open_string shut_string)
open M

theorem own : ownKnob Try.prog.godebug = none := by kernel_rfl

set_option maxRecDepth 100000 in
theorem lifted (os : Os) (started : os.Started) (H : Type) (enc : TypeId × Value → H) :
    ReturnsInHanded {} Try.checked os 7 .any (Rows.packHeadsSpec.pre6 enc Try.prog Try.f7 Rows.packHeadsRow.domain false)
      (Rows.packHeadsSpec.post enc Try.prog Try.f7 false true false false) := by
  refine returnsInHanded_of_change (C := Try.checked) own started (by kernel_rfl) Try.func7
    (ChangeSpec.witness6 (enc := enc) (C := Try.checked) false ⟨#[], #[.int .u16 0, .agg (iCells (List.replicate 8 0)), .agg (vCells (List.replicate 8 0)), .agg (vCells (List.replicate 8 0)), .int .u8 0], []⟩ 8 (by kernel_rfl) (by kernel_rfl) (by kernel_rfl) (by kernel_rfl)) ?_
  intro W base args ds gs before hval0 hW hcnd _
  have hval : ∀ (j : Nat) t v, Try.f7.params[j]? = some t → args[j]? = some v → Value.okWide Try.prog W .any base t v := hval0
  have hW' := hW
  obtain ⟨p, q, hA0, hV, rfl, hfz, hnd⟩ := hW
  have hA : DataW.TrodAll enc Try.prog W 0 (fun _ => true) true Try.f7.params.toList args.toList ds p := hA0
  rw [Try.params7] at hA hval
  obtain ⟨v0, vs0, d0, ds0, p0, q0, hargs, rfl, rfl, h0, r0⟩ := trodAll_cons hA
  obtain ⟨v1, vs1, d1, ds1, p1, q1, rfl, rfl, rfl, h1, r1⟩ := trodAll_cons r0
  obtain ⟨v2, vs2, d2, ds2, p2, q2, rfl, rfl, rfl, h2, r2⟩ := trodAll_cons r1
  obtain ⟨v3, vs3, d3, ds3, p3, q3, rfl, rfl, rfl, h3, r3⟩ := trodAll_cons r2
  obtain ⟨v4, vs4, d4, ds4, p4, q4, rfl, rfl, rfl, h4, r4⟩ := trodAll_cons r3
  obtain ⟨rfl, rfl, rfl⟩ := trodAll_nil r4
  obtain rfl : args = #[v0, v1, v2, v3, v4] := by cases args; simp_all
  obtain ⟨rfl, rfl⟩ := trodVars_none hV
  obtain ⟨n0, rfl, rfl, rfl, w0⟩ := open_int Try.underlying22 (hval 0 22 v0 rfl rfl) h0
  obtain ⟨a1, k1, rfl, rfl, rfl, b1, w1⟩ := open_n8 (hval 1 23 v1 rfl rfl) h1
  obtain ⟨a2, k2, rfl, b2⟩ := open_v8 (hval 2 25 v2 rfl rfl) h2
  obtain ⟨a3, k3, rfl, b3⟩ := open_v8 (hval 3 25 v3 rfl rfl) h3
  obtain ⟨n4, rfl, rfl, rfl, w4⟩ := open_int Try.underlying5 (hval 4 5 v4 rfl rfl) h4
  obtain ⟨a4, rfl⟩ := byte_of_wf w4
  clear hA0 hval0
  obtain ⟨m0, rfl⟩ : ∃ m : Nat, n0 = (m : Int) := ⟨n0.toNat, by have := Go.bounds_u16 w0; omega⟩
  refine (heads19_law layOk19 ctOk m0 a1 a2 a3 a4 W (by have := Go.bounds_u16 w0; omega) k1 k2 k3 b2 b3).mono fun e W' ⟨he, bel⟩ => ?_
  subst he
  exact ⟨_, rfl, _, _, _, [], _, [], hW', trodAll_mk1 (shut_bool Try.underlying4 _), (trodAll_cons_mk (shut_int Try.underlying22 w0) (trodAll_cons_mk (w1 _ _ _ _) (trodAll_cons_mk (trod_below (by kernel_rfl) (by decide) h2 (fun p hp => hW'.lt p (by simp [hp])) bel) (trodAll_cons_mk (trod_below (by kernel_rfl) (by decide) h3 (fun p hp => hW'.lt p (by simp [hp])) bel) (trodAll_cons_mk (shut_int Try.underlying5 w4) trodAll_mk0))))), rfl, bel.frame _, fun h => by cases h⟩

theorem over : Rows.packHeadsRow.holds Try.pinned (OpenSpec.ofChange Rows.packHeadsSpec) :=
  OpenClaim.holds_of_wide 7 Try.f7 rfl rfl rfl rfl rfl rfl rfl ⟨rfl, rfl, rfl, rfl, rfl⟩ rfl rfl rfl rfl rfl (by kernel_rfl) Try.func7 (by kernel_rfl)
    (of_decide_eq_true (by kernel_rfl)) (by unfold Func.isWrapper; first | (rw [if_pos (by decide +kernel)]; kernel_rfl) | (rw [if_neg (by decide +kernel)]; exact ⟨rfl, rfl⟩))
    (fun os started H enc _ => lifted os started H enc)

theorem proved : Rows.PackHeadsSaid := over
#print axioms proved
end Go.Proofs.Ytoohahjmiljpgaa.packHeads
