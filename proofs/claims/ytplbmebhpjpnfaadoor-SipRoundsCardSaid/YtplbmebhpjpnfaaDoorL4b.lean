/-
  The walk of the law SipRounds.
-/
import Derived.Test.YtplbmebhpjpnfaaDoorL4
namespace Go.Proofs.YtplbmebhpjpnfaaDoor
open Go.RowKit
open M
attribute [local go_sem] un_add un_sub un_xor un_or un_nonneg un_beq un_bne cells4 eq30V eqV_self eqV_round

set_option maxHeartbeats 4000000 in
theorem rounds_walk (v u : V4) (w : World) (h : Signs w) :
    Calls Tryd.prog 4 #[.agg (cells4 v), .agg (cells4 u)] w fun e w' => e = .returned (.bool true) ∧ Below w.heap.size w w' := by
  have HG := Lib.hid h
  clear h
  go_enter Tryd.func4, Tryd.ntmps4
  go_upto_region 1 with fail
  have h0 : At4 ((w.alloc (.cells (cells4 v) 30)).alloc (.cells (cells4 u) 30)) w.heap.size v ∧ At4 ((w.alloc (.cells (cells4 v) 30)).alloc (.cells (cells4 u) 30)) (w.heap.size + 1) u ∧
      Below w.heap.size w ((w.alloc (.cells (cells4 v) 30)).alloc (.cells (cells4 u) 30)) := by
    have e1 : Row ((w.alloc (.cells (cells4 v) 30)).alloc (.cells (cells4 u) 30)) w.heap.size 30 (cells4 v) := heap_alloc2_old _ _ _
    have e2 : Row ((w.alloc (.cells (cells4 v) 30)).alloc (.cells (cells4 u) 30)) (w.heap.size + 1) 30 (cells4 u) := heap_alloc2_new _ _ _
    exact ⟨⟨e1.c0, e1.c1, e1.c2, e1.c3⟩, ⟨e2.c0, e2.c1, e2.c2, e2.c3⟩, ((Below.refl _ _).alloc (Nat.le_refl _) _).alloc (by simp) _⟩
  generalize hW : (w.alloc (.cells #[Value.int .u64 (un v.a), .int .u64 (un v.b), .int .u64 (un v.c), .int .u64 (un v.d)] 30)).alloc (.cells #[Value.int .u64 (un u.a), .int .u64 (un u.b), .int .u64 (un u.c), .int .u64 (un u.d)] 30) = W0
  have h1 : At4 W0 w.heap.size v ∧ At4 W0 (w.heap.size + 1) u ∧ Below w.heap.size w W0 := by rw [← hW]; exact h0
  clear h0 hW
  obtain ⟨hp, hq, hb0⟩ := h1
  have HP := Lib.hid hp
  have HQ := Lib.hid hq
  have HB0 := Lib.hid hb0
  generalize w.heap.size + 1 = q at *
  clear hb0 hp hq
  go_cut [5, 6] (fun x y wx => ∃ g k : Nat, x = .pointer (some ⟨g, 0, none⟩) ∧ y = .pointer (some ⟨k, 0, none⟩) ∧ At4 wx g v.round ∧ At4 wx k u.round ∧ Below W0.heap.size W0 wx)
  case first =>
    have K0 := Lib.hid (Below.refl W0.heap.size W0)
    go_region_held3 (fun w' => (w'.cell? ⟨w.heap.size, 0, none⟩ = some (.int .u64 (un v.a)) ∧ w'.cell? ⟨w.heap.size, 1, none⟩ = some (.int .u64 (un v.b)) ∧ w'.cell? ⟨w.heap.size, 2, none⟩ = some (.int .u64 (un v.c)) ∧ w'.cell? ⟨w.heap.size, 3, none⟩ = some (.int .u64 (un v.d))) ∧
        w'.cell? ⟨q, 0, none⟩ = some (.int .u64 (un u.a)) ∧ w'.cell? ⟨q, 1, none⟩ = some (.int .u64 (un u.b)) ∧ w'.cell? ⟨q, 2, none⟩ = some (.int .u64 (un u.c)) ∧ w'.cell? ⟨q, 3, none⟩ = some (.int .u64 (un u.d)))
      (exact two4 HP.out HQ.out (by go_grown))
      (first
        | (go_at_call 14; refine (Round_any v _).mono ?_; rintro e w1 ⟨rfl, hb⟩; have J1 : Below W0.heap.size W0 w1 := Below.trans (by go_grown) (hb.mono (by go_size)); have z1 := J1.size; have y1 := hb.size; (try have x1 : W0.heap.size < w1.heap.size := by (try simp at y1); omega); (try have x2 : W0.heap.size + 1 < w1.heap.size := by (try simp at y1); omega); clear y1; obtain ⟨hc1, hf1⟩ := below_rules hb; clear hb)
        | (go_at_call 14; refine (Round_any u _).mono ?_; rintro e w2 ⟨rfl, hb⟩; have J2 : Below W0.heap.size W0 w2 := Below.trans (by go_grown) (hb.mono (by go_size)); have z2 := J2.size; have y2 := hb.size; (try have x3 : W0.heap.size < w2.heap.size := by (try simp at y2); omega); (try have x4 : W0.heap.size + 1 < w2.heap.size := by (try simp at y2); omega); (try have x5 : w1.heap.size < w2.heap.size := by (try simp at y2); omega); (try have x6 : w1.heap.size + 1 < w2.heap.size := by (try simp at y2); omega); clear y2; obtain ⟨hc2, hf2⟩ := below_rules hb; clear hb))
    all_goals
      go_wp2_with fail
      go_meet
      exact ⟨_, _, rfl, rfl, ⟨by (go_simp <;> exact World.cell?_setCell_same' _ _ _ (by go_simp)), by (go_simp <;> exact World.cell?_setCell_same' _ _ _ (by go_simp)), by (go_simp <;> exact World.cell?_setCell_same' _ _ _ (by go_simp)), by (go_simp <;> exact World.cell?_setCell_same' _ _ _ (by go_simp))⟩, ⟨by (go_simp <;> exact World.cell?_setCell_same' _ _ _ (by go_simp)), by (go_simp <;> exact World.cell?_setCell_same' _ _ _ (by go_simp)), by (go_simp <;> exact World.cell?_setCell_same' _ _ _ (by go_simp)), by (go_simp <;> exact World.cell?_setCell_same' _ _ _ (by go_simp))⟩, by go_grown⟩
  case rest =>
    obtain ⟨g, k, rfl, rfl, hg, hk, hb⟩ := hcut
    have HP1 := Lib.hid (HP.out.below hb HP.out.lt)
    have HQ1 := Lib.hid (HQ.out.below hb HQ.out.lt)
    have HG1 := Lib.hid hg
    have HK1 := Lib.hid hk
    have HB1 := Lib.hid (HB0.out.trans (hb.mono HB0.out.size))
    have HS1 := Lib.hid (HG.out.below (HB1.out.drew) HG.out.lt)
    clear hg hk hb HP HQ HB0 HG
    go_upto_region 2 with fail
    have K0 := Lib.hid (Below.refl wc.heap.size wc)
    go_region_held3 (fun w' => (w'.cell? ⟨w.heap.size, 0, none⟩ = some (.int .u64 (un v.a)) ∧ w'.cell? ⟨w.heap.size, 1, none⟩ = some (.int .u64 (un v.b)) ∧ w'.cell? ⟨w.heap.size, 2, none⟩ = some (.int .u64 (un v.c)) ∧ w'.cell? ⟨w.heap.size, 3, none⟩ = some (.int .u64 (un v.d))) ∧
        (w'.cell? ⟨q, 0, none⟩ = some (.int .u64 (un u.a)) ∧ w'.cell? ⟨q, 1, none⟩ = some (.int .u64 (un u.b)) ∧ w'.cell? ⟨q, 2, none⟩ = some (.int .u64 (un u.c)) ∧ w'.cell? ⟨q, 3, none⟩ = some (.int .u64 (un u.d))) ∧
        (w'.cell? ⟨g, 0, none⟩ = some (.int .u64 (un v.round.a)) ∧ w'.cell? ⟨g, 1, none⟩ = some (.int .u64 (un v.round.b)) ∧ w'.cell? ⟨g, 2, none⟩ = some (.int .u64 (un v.round.c)) ∧ w'.cell? ⟨g, 3, none⟩ = some (.int .u64 (un v.round.d))) ∧
        w'.cell? ⟨k, 0, none⟩ = some (.int .u64 (un u.round.a)) ∧ w'.cell? ⟨k, 1, none⟩ = some (.int .u64 (un u.round.b)) ∧ w'.cell? ⟨k, 2, none⟩ = some (.int .u64 (un u.round.c)) ∧ w'.cell? ⟨k, 3, none⟩ = some (.int .u64 (un u.round.d)))
      (exact four4 HP1.out HQ1.out HG1.out HK1.out (by go_grown))
      (first
        | (go_at_call 9; refine (awake_any _ HS1.out).mono ?_; rintro e w1 ⟨rfl, hb⟩; have J1 : Below wc.heap.size wc w1 := Below.trans (by go_grown) (hb.mono (by go_size)); have z1 := J1.size; clear hb)
        | (go_at_call_of 15 (Value.int .u64 (un v.round.a)); refine (back_any v.round _).mono ?_; rintro e w2 ⟨rfl, hb⟩; rw [V4.back_round]; have J2 : Below wc.heap.size wc w2 := Below.trans (by go_grown) (hb.mono (by go_size)); have z2 := J2.size; clear hb)
        | (go_at_call_of 15 (Value.int .u64 (un u.round.a)); refine (back_any u.round _).mono ?_; rintro e w3 ⟨rfl, hb⟩; rw [V4.back_round]; have J3 : Below wc.heap.size wc w3 := Below.trans (by go_grown) (hb.mono (by go_size)); have z3 := J3.size; clear hb)
        | (go_at_call 16; refine (refRound_any v _).mono ?_; rintro e w4 ⟨rfl, hb⟩; have J4 : Below wc.heap.size wc w4 := Below.trans (by go_grown) (hb.mono (by go_size)); have z4 := J4.size; clear hb))
    go_wp2
    go_ret
    exact ⟨rfl, HB1.out.trans (J4.mono HB1.out.size)⟩
end Go.Proofs.YtplbmebhpjpnfaaDoor
