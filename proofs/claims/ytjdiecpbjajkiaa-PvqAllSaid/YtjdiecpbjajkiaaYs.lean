/-
  PvqAll, walked. No conditions.
-/
import Derived.Test.YtjdiecpbjajkiaaYr
import Derived.Test.YtjdiecpbjajkiaaYn
namespace Go.Proofs.Ytjdiecpbjajkiaa
open Go.RowKit
open M
/-- The i-th of lists of four, in one row. -/
theorem flat_get : ∀ (L : List (List Int)) (_ : ∀ v ∈ L, v.length = 4) (i : Nat) (v : List Int), L[i]? = some v → ∀ p, p < 4 → L.flatten.getD (4 * i + p) 0 = v.getD p 0
  | [], _, _, _, h, _, _ => by simp at h
  | u :: L, hl, 0, v, h, p, hp => by
    obtain rfl : u = v := by simpa using h
    have hu := hl u (List.mem_cons_self ..)
    rw [List.flatten_cons, List.getD_eq_getElem?_getD, List.getD_eq_getElem?_getD, List.getElem?_append_left (by omega), Nat.mul_zero, Nat.zero_add]
  | u :: L, hl, i + 1, v, h, p, hp => by
    have hu := hl u (List.mem_cons_self ..)
    have ih := flat_get L (fun v hv => hl v (List.mem_cons_of_mem _ hv)) i v (by simpa using h) p hp
    rw [List.flatten_cons, List.getD_eq_getElem?_getD, List.getElem?_append_right (by omega), hu, show 4 * (i + 1) + p - 4 = 4 * i + p by omega, ← List.getD_eq_getElem?_getD, ih]
theorem al_mem (n k : Nat) : ∀ v ∈ al13 n k, v.length = n := fun v hv => by
  obtain ⟨i, hi, rfl⟩ := List.getElem_of_mem hv
  have h1 : i < cn13 n k := by rw [← al_len]; exact hi
  have h2 := al_get n k i h1
  rw [List.getElem?_eq_getElem hi] at h2
  injection h2 with h2
  rw [h2]
  exact (vc_all n k i h1).1
theorem al_flat (k i : Nat) (h : i < cn13 4 k) (p : Nat) (hp : p < 4) : (al13 4 k).flatten.getD (4 * i + p) 0 = (vc13 4 k i).getD p 0 :=
  flat_get (al13 4 k) (al_mem 4 k) i _ (al_get 4 k i h) p hp
theorem al_flat_len (k : Nat) : (al13 4 k).flatten.length = 4 * cn13 4 k := by
  have : ∀ (L : List (List Int)) (_ : ∀ v ∈ L, v.length = 4), L.flatten.length = 4 * L.length := by
    intro L
    induction L with
    | nil => intro _; rfl
    | cons u L ih =>
      intro h
      rw [List.flatten_cons, List.length_append, ih (fun v hv => h v (List.mem_cons_of_mem _ hv)), h u (List.mem_cons_self ..), List.length_cons]
      omega
  rw [this _ (al_mem 4 k), al_len]
set_option maxRecDepth 100000 in
set_option maxHeartbeats 1000000 in
theorem all_law (a : UInt8) (z : Int) (w : World) (hz : 0 ≤ z ∧ z ≤ 4294967295) :
    Calls Try.prog 5 #[.int .u8 (ub a), .int .u32 z] w fun e w' => e = .returned (.bool true) ∧ Below w.heap.size w w' := by
  obtain ⟨ha1, ha2⟩ := ub_bd a
  obtain ⟨hz1, hz2⟩ := hz
  generalize ub a = x at *
  obtain ⟨q, hq⟩ : ∃ q : Nat, x % 9 = q := ⟨(x % 9).toNat, by omega⟩
  have hqI : (q : Int) ≤ 8 := by omega
  have HAW := Lib.hid awake_any
  have RA := Lib.hid fun w => all_any q w (by omega)
  have C1 := Lib.hid fun w => count_at 4 (q : Int) 4 q w rfl rfl (by omega) (by omega)
  have hcb := cn_big 4 q (by omega) (by omega)
  have hcp : 1 ≤ cn13 4 q := cn_pos 3 q
  obtain ⟨A, hA1, hA2, hA3⟩ := u32_mod z (cn13 4 q) hz1 (by omega)
  have V1 := Lib.hid fun w => vector_at 4 (q : Int) (A : Int) 4 q A w rfl rfl rfl (by omega) (by omega) hA3
  obtain ⟨g1, g2, g3⟩ := vc_all 4 q A hA3
  obtain ⟨p1, p2, p3⟩ := pu_vc 4 q A (by omega) (by omega) hA3
  have HFL := Lib.hid fun p hp => al_flat q A hA3 p hp
  have HLE := Lib.hid (al_flat_len q)
  rw [al_len] at RA
  have HL1 := Lib.hid fun _ : Unit => g1
  have P2 := Lib.hid fun _ : Unit => p2
  have P3 := Lib.hid fun _ : Unit => p3
  obtain ⟨V, hV⟩ : ∃ V, vc13 4 q A = V := ⟨_, rfl⟩
  rw [hV] at V1 HFL HL1 P2 P3
  obtain ⟨F, hF⟩ : ∃ F, (al13 4 q).flatten = F := ⟨_, rfl⟩
  rw [hF] at RA HFL HLE
  obtain ⟨c, hc⟩ : ∃ c, cn13 4 q = c := ⟨_, rfl⟩
  rw [hc] at C1 RA HLE hcb hcp hA1 hA2 hA3
  have hcI : (c : Int) ≠ 0 := by omega
  have hcpI : (0 : Int) < (c : Int) := by omega
  have hAc : (A : Int) < (c : Int) := by omega
  have HA3 := Lib.hid hA3
  clear hV hF hc g1 g2 g3 p1 p2 p3 hcp hA3
  go_enter Try.func5, Try.ntmps5
  go_wp2_with fail
  refine (HAW.out w).mono ?_
  rintro e w1 ⟨rfl, hb⟩
  have HB1 := Lib.hid hb
  clear hb
  go_wp2_with fail
  refine (RA.out w1).mono ?_
  rintro e w2 ⟨⟨v2, rfl, hown⟩, hb⟩
  obtain ⟨g, cap, rfl, hg1, hg2⟩ := own13_form hown (by have := HA3.out; omega)
  have HO := Lib.hid hown
  have HG := Lib.hid hg2
  have HB2 := Lib.hid (HB1.out.trans (hb.mono HB1.out.size))
  clear hb HB1 hown hg1 hg2 RA
  go_wp2_with fail
  refine (C1.out w2).mono ?_
  rintro e w3 ⟨rfl, hb⟩
  have HO3 := Lib.hid (own13_stay HO.out hb)
  have HB3 := Lib.hid (HB2.out.trans (hb.mono HB2.out.size))
  have HG3 := Lib.hid (Nat.lt_of_lt_of_le HG.out hb.size)
  clear hb HB2 HO HG C1
  go_wp2_with fail
  refine (V1.out w3).mono ?_
  rintro e w4 ⟨⟨a1, cap1, rfl, hi1⟩, hb⟩
  obtain ⟨b1, o1, rfl, hl1, hc1⟩ := ints_cells hi1 (HL1.out ()) (by decide)
  have HC1 := Lib.hid hc1
  have HL4 := Lib.hid hl1
  have HO4 := Lib.hid (own13_stay HO3.out hb)
  have HB4 := Lib.hid (HB3.out.trans (hb.mono HB3.out.size))
  have HG4 := Lib.hid (Nat.lt_of_lt_of_le HG3.out hb.size)
  clear hb HB3 hi1 hc1 hl1 HO3 HG3 V1
  have HCF := Lib.hid fun p (hp : p < 4) => (own13_at HO4.out (4 * A + p) (by rw [HLE.out]; have := HA3.out; omega)).trans (congrArg (fun t => some (Value.int .i64 t)) (HFL.out p hp))
  have HIN : IntsAt w4 (.slice (some ⟨g, A * 4, none⟩) 4 4) V := ⟨_, 4, by rw [HL1.out ()], fun _ => ⟨g, A * 4, rfl, HG4.out, fun i hi => by rw [Nat.mul_comm A 4]; exact HCF.out i (by rw [HL1.out ()] at hi; exact hi)⟩⟩
  have HX := index_any V _ w4 HIN (by rw [HL1.out ()]; unfold maxLen; omega)
  rw [P2.out (), P3.out ()] at HX
  have HXX := Lib.hid HX
  clear HX HIN P2 P3
  go_wp2_with fail
  refine HXX.out.mono ?_
  rintro e w5 ⟨rfl, hb⟩
  have k0 := (hb.cell (p := ⟨b1, o1 + 0, none⟩) HL4.out).trans (HC1.out 0 (by decide))
  have k1 := (hb.cell (p := ⟨b1, o1 + 1, none⟩) HL4.out).trans (HC1.out 1 (by decide))
  have k2 := (hb.cell (p := ⟨b1, o1 + 2, none⟩) HL4.out).trans (HC1.out 2 (by decide))
  have k3 := (hb.cell (p := ⟨b1, o1 + 3, none⟩) HL4.out).trans (HC1.out 3 (by decide))
  have d0 := (hb.cell (p := ⟨g, 4 * A + 0, none⟩) HG4.out).trans (HCF.out 0 (by decide))
  have d1 := (hb.cell (p := ⟨g, 4 * A + 1, none⟩) HG4.out).trans (HCF.out 1 (by decide))
  have d2 := (hb.cell (p := ⟨g, 4 * A + 2, none⟩) HG4.out).trans (HCF.out 2 (by decide))
  have d3 := (hb.cell (p := ⟨g, 4 * A + 3, none⟩) HG4.out).trans (HCF.out 3 (by decide))
  have HB5 := Lib.hid (HB4.out.trans (hb.mono HB4.out.size))
  generalize V.getD 0 0 = y0 at *
  generalize V.getD 1 0 = y1 at *
  generalize V.getD 2 0 = y2 at *
  generalize V.getD 3 0 = y3 at *
  rw [Nat.add_zero] at k0
  rw [Nat.add_zero, Nat.mul_comm 4 A] at d0
  rw [Nat.mul_comm 4 A] at d1 d2 d3
  clear hb HB4 HXX HC1 HCF HO4 HFL HLE HL1
  go_wp2_with fail
  refine wp_region_still_lit (by kernel_rfl) (by kernel_rfl) ?_
  repeat still_step
  refine wpStill_nil ?_
  rw [show ({ w5 with drawn := w5.drawn + 1 } : World) = w5.drew from rfl]
  have HB6 := Lib.hid (below_drew1 HB5.out)
  clear k0 k1 k2 k3 d0 d1 d2 d3
  generalize w5.drew = w6 at *
  go_wp2
  go_ret
  exact ⟨rfl, HB6.out⟩
end Go.Proofs.Ytjdiecpbjajkiaa
