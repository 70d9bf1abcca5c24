/-
  The walk of the law PulseExact. No conditions.
-/
import Derived.Test.YtnjohdgdmnkjlaaSj
namespace Go.Proofs.Ytnjohdgdmnkjlaa
open Go.RowKit
open M
theorem fl4_exact (V : List Int) (G : Int) (n : Nat) (hG : 1 ≤ G) (hl : V.length = 4) (hp : pl13 V = n) : fl4 (fun i => (cf14 V G).getD i 0) G n = V := by
  have e : (fun i => (cf14 V G).getD i 0) = fun i => V.getD i 0 * G := by funext i; exact cf14_get V G i
  have h := fun i hi => fnd_exact (fun i => V.getD i 0) G hG n (by rw [← pl_four V hl, hp]) i hi
  rw [e]
  unfold fl4
  rw [h 0 (by omega), h 1 (by omega), h 2 (by omega), h 3 (by omega)]
  obtain ⟨a, b, c, d, rfl⟩ := four_list V hl
  rfl
theorem dis_same (V : List Int) (G : Int) : dis (fun i => (cf14 V G).getD i 0) (fun i => V.getD i 0) G = 0 := by
  have e : (fun i => (cf14 V G).getD i 0) = fun i => V.getD i 0 * G := by funext i; exact cf14_get V G i
  rw [e]
  unfold dis s4
  simp only [Int.sub_self]
  rfl
theorem array_four (a : Option Addr) (cap : Nat) (w : World) : (Instr.arrayAt 26 (.slice a 4 cap)).run Try.prog w = .ok (.pointer a) w := by
  simp [Instr.arrayAt, run_underlying Try.underlying26]
set_option maxRecDepth 100000 in
set_option maxHeartbeats 2000000 in
theorem exact_law (a b : UInt8) (z : Int) (w : World) (hz : 0 ≤ z ∧ z ≤ 4294967295) :
    Calls Try.prog 5 #[.int .u8 (ub a), .int .u32 z, .int .u8 (ub b)] w fun e w' => e = .returned (.bool true) ∧ Below w.heap.size w w' := by
  obtain ⟨ha1, ha2⟩ := ub_bd a
  obtain ⟨hb1, hb2⟩ := ub_bd b
  obtain ⟨hz1, hz2⟩ := hz
  generalize ub a = x at *
  generalize ub b = y at *
  obtain ⟨q, hq⟩ : ∃ m : Nat, x % 13 = m := ⟨(x % 13).toNat, by omega⟩
  obtain ⟨s, hs⟩ : ∃ m : Nat, y % 16 = m := ⟨(y % 16).toNat, by omega⟩
  have hsN : s ≤ 15 := by omega
  have hqN : q ≤ 12 := by omega
  have hGb := pow15 s hsN
  have HAW := Lib.hid awake14_any
  have hcn : 0 < cn13 4 q := by
    rcases Nat.eq_zero_or_pos (cn13 4 q) with h | h
    · exact absurd (cn_null 4 q h).1 (by omega)
    · exact h
  obtain ⟨A, hA1, hA2, hA3⟩ := u32_mod z (cn13 4 q) hz1 hcn
  have HCN := Lib.hid fun w => count_at (4 : Int) (q : Int) 4 q w rfl rfl (by omega) (by omega)
  have HVE := Lib.hid fun w => vector_at (4 : Int) (q : Int) (A : Int) 4 q A w rfl rfl rfl (by omega) (by omega) hA3
  obtain ⟨hV1, hV2, _⟩ := vc_all 4 q A hA3
  have hcb := cn_big 4 q (by omega) (by omega)
  obtain ⟨V, hV⟩ : ∃ V, vc13 4 q A = V := ⟨_, rfl⟩
  rw [hV] at HVE hV1 hV2
  have hVb := vec_bd V q hV1 hV2 hqN
  have hCO := fun w => coefs_any V s w hV1 hsN hVb
  have hCl : (cf14 V ((2 : Int) ^ s)).length = 4 := by rw [cf14_len, hV1]
  have hCb : ∀ j, j < 4 → -1048576 ≤ (cf14 V ((2 : Int) ^ s)).getD j 0 ∧ (cf14 V ((2 : Int) ^ s)).getD j 0 ≤ 1048576 := fun j hj => by
    rw [cf14_get]
    have h1 := hVb j hj
    have h2 : V.getD j 0 * (2 : Int) ^ s ≤ 12 * (2 : Int) ^ s := Int.mul_le_mul_of_nonneg_right h1.2 (by omega)
    have h3 : -12 * (2 : Int) ^ s ≤ V.getD j 0 * (2 : Int) ^ s := Int.mul_le_mul_of_nonneg_right h1.1 (by omega)
    omega
  have hFD := fun w => find_any (cf14 V ((2 : Int) ^ s)) s q w hCl hsN hqN hCb
  rw [fl4_exact V ((2 : Int) ^ s) q hGb.2 hV1 hV2] at hFD
  have hDI := fun w => distance_any (cf14 V ((2 : Int) ^ s)) V s w hCl hV1 hsN hCb hVb
  rw [dis_same] at hDI
  have hEQ := pulses_eq V V hV1 hV1
  rw [beq_self_eq_true] at hEQ
  have HVL := Lib.hid hV1
  obtain ⟨C, hC⟩ : ∃ C, cf14 V ((2 : Int) ^ s) = C := ⟨_, rfl⟩
  rw [hC] at hCO hCl hFD hDI
  clear hC hCb hV2 hVb hGb hV
  obtain ⟨v0, v1, v2, v3, rfl⟩ := four_list V hV1
  obtain ⟨k0, k1, k2, k3, rfl⟩ := four_list C hCl
  have HCO : Hid (∀ w, Calls Try.prog 16 #[.agg #[.int .i64 v0, .int .i64 v1, .int .i64 v2, .int .i64 v3], .int .i64 (s : Int)] w fun e w' => e = .returned (.agg #[.int .i64 k0, .int .i64 k1, .int .i64 k2, .int .i64 k3]) ∧ Below w.heap.size w w') := Lib.hid hCO
  have HFD : Hid (∀ w, Calls Try.prog 9 #[.agg #[.int .i64 k0, .int .i64 k1, .int .i64 k2, .int .i64 k3], .int .i64 (s : Int), .int .i64 (q : Int)] w fun e w' => e = .returned (.tuple #[.agg #[.int .i64 v0, .int .i64 v1, .int .i64 v2, .int .i64 v3], .int .i64 0]) ∧ Below w.heap.size w w') := Lib.hid hFD
  have HDI : Hid (∀ w, Calls Try.prog 13 #[.agg #[.int .i64 k0, .int .i64 k1, .int .i64 k2, .int .i64 k3], .agg #[.int .i64 v0, .int .i64 v1, .int .i64 v2, .int .i64 v3], .int .i64 (s : Int)] w fun e w' => e = .returned (.int .i64 0) ∧ Below w.heap.size w w') := Lib.hid hDI
  have heq : ∀ w, (Op.equalIn 10000 26 (.agg #[.int .i64 v0, .int .i64 v1, .int .i64 v2, .int .i64 v3]) (.agg #[.int .i64 v0, .int .i64 v1, .int .i64 v2, .int .i64 v3])).run Try.prog w = .ok true w := hEQ
  have hz0 : ∀ w, (zeroValue 22).run Try.prog w = .ok (.agg #[.int .i64 0, .int .i64 0, .int .i64 0, .int .i64 0]) w := four_zero
  have hz3 : ∀ w, (zeroValue 26).run Try.prog w = .ok (.agg #[.int .i64 0, .int .i64 0, .int .i64 0, .int .i64 0]) w := pulses_zero
  have hsI : (s : Int) < 16 := by omega
  have hqI : (q : Int) < 13 := by omega
  obtain ⟨cn, hcne⟩ : ∃ cn, cn13 4 q = cn := ⟨_, rfl⟩
  rw [hcne] at HCN hcb hA1 hA2 hcn
  have hcI : (cn : Int) ≠ 0 := by omega
  have hcp : (0 : Int) < (cn : Int) := by omega
  have hcz : ((cn : Int) == 0) = false := by rw [beq_eq_false_iff_ne]; omega
  clear hCO hFD hDI hEQ hV1 hCl hA3 hcne hsN hqN
  go_enter Try.func5, Try.ntmps5
  go_wp2_with fail
  refine (HAW.out _).mono ?_
  rintro e w1 ⟨rfl, hb⟩
  have HB := Lib.hid hb
  clear hb
  go_upto_region 4 with fail
  rw [hs, hq]
  clear hs hq ha1 ha2 hb1 hb2
  go_wp2_with fail
  refine (HCN.out _).mono ?_
  rintro e w2 ⟨rfl, hb⟩
  have HB := Lib.hid (HB.out.trans (hb.mono HB.out.size))
  clear hb HCN
  go_wp2_with fail
  refine (HVE.out _).mono ?_
  rintro e w8 ⟨⟨a1, cap1, rfl, hi1⟩, hb⟩
  have HB := Lib.hid (HB.out.trans (hb.mono HB.out.size))
  obtain ⟨b1, o1, rfl, hl1, hc1⟩ := ints_cells hi1 HVL.out (by omega)
  have d0 := hc1 0 (by omega)
  have d1 := hc1 1 (by omega)
  have d2 := hc1 2 (by omega)
  have d3 := hc1 3 (by omega)
  simp only [List.getD_cons_zero, List.getD_cons_succ, Nat.add_zero] at d0 d1 d2 d3
  clear hb HVE hi1 hl1 hc1 hcI hcp hcz hA1 hA2 hcb hcn
  have hat := fun w => array_four (some ⟨b1, o1, none⟩) cap1 w
  go_wp2_with fail
  have HRV : Hid (Row (w8.alloc (.cells #[.int .i64 v0, .int .i64 v1, .int .i64 v2, .int .i64 v3] 26)) w8.heap.size 26 #[.int .i64 v0, .int .i64 v1, .int .i64 v2, .int .i64 v3]) := Lib.hid (heap_alloc_new _ _)
  have HB := Lib.hid (HB.out.alloc HB.out.size (.cells #[.int .i64 v0, .int .i64 v1, .int .i64 v2, .int .i64 v3] 26))
  refine (HCO.out _).mono ?_
  rintro e w9 ⟨rfl, hb⟩
  have HRV := Lib.hid (HRV.out.box hb)
  have HB := Lib.hid (HB.out.trans (hb.mono HB.out.size))
  obtain ⟨g1, hg1⟩ : ∃ g, w8.heap.size = g := ⟨_, rfl⟩
  rw [hg1] at HRV ⊢
  clear hb hg1 HCO d0 d1 d2 d3 hat
  go_wp2_with fail
  have HRC : Hid (Row (w9.alloc (.cells #[.int .i64 k0, .int .i64 k1, .int .i64 k2, .int .i64 k3] 22)) w9.heap.size 22 #[.int .i64 k0, .int .i64 k1, .int .i64 k2, .int .i64 k3]) := Lib.hid (heap_alloc_new _ _)
  have HRV := Lib.hid (HRV.out.alloc (.cells #[.int .i64 k0, .int .i64 k1, .int .i64 k2, .int .i64 k3] 22))
  have HB := Lib.hid (HB.out.alloc HB.out.size (.cells #[.int .i64 k0, .int .i64 k1, .int .i64 k2, .int .i64 k3] 22))
  refine (HFD.out _).mono ?_
  rintro e w10 ⟨rfl, hb⟩
  have HRV := Lib.hid (HRV.out.box hb)
  have HRC := Lib.hid (HRC.out.box hb)
  have HB := Lib.hid (HB.out.trans (hb.mono HB.out.size))
  obtain ⟨g2, hg2⟩ : ∃ g, w9.heap.size = g := ⟨_, rfl⟩
  rw [hg2] at HRC ⊢
  clear hb hg2 HFD
  have a0 := fun o => cell_of_row _ _ 0 _ _ _ (HRV.out.alloc o)
  have a1' := fun o => cell_of_row _ _ 1 _ _ _ (HRV.out.alloc o)
  have a2 := fun o => cell_of_row _ _ 2 _ _ _ (HRV.out.alloc o)
  have a3 := fun o => cell_of_row _ _ 3 _ _ _ (HRV.out.alloc o)
  have c0 := fun o => cell_of_row _ _ 0 _ _ _ (HRC.out.alloc o)
  have c1 := fun o => cell_of_row _ _ 1 _ _ _ (HRC.out.alloc o)
  have c2 := fun o => cell_of_row _ _ 2 _ _ _ (HRC.out.alloc o)
  have c3 := fun o => cell_of_row _ _ 3 _ _ _ (HRC.out.alloc o)
  have HBA := Lib.hid fun o => HB.out.alloc HB.out.size o
  go_wp2_with fail
  refine (HDI.out _).mono ?_
  rintro e w11 ⟨rfl, hb⟩
  have HB := Lib.hid ((HBA.out _).trans (hb.mono (HBA.out _).size))
  clear hb a0 a1' a2 a3 c0 c1 c2 c3 HBA
  go_wp2_with fail
  go_ret
  exact ⟨rfl, HB.out⟩
end Go.Proofs.Ytnjohdgdmnkjlaa
