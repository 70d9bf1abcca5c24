/-
  The contract of layer 5's reference Encode. No conditions.
-/
import Derived.Test.YtbokecpcefcimaaJb
import Derived.Test.YtbokecpcefcimaaHz
namespace Go.Proofs.Ytbokecpcefcimaa
open Go.RowKit
open M

/-- What is left of a number that is halved again and again. -/
def sh (x : BitVec 64) (j : Nat) : BitVec 64 := BitVec.ofNat 64 (x.toNat / 2 ^ j)
theorem un_sh (x : BitVec 64) (j : Nat) : un (sh x j) = (x.toNat / 2 ^ j : Nat) := by
  have h := x.isLt
  have : x.toNat / 2 ^ j ≤ x.toNat := Nat.div_le_self _ _
  unfold sh; exact un_lit _ (by omega)
theorem sh_zero (x : BitVec 64) : sh x 0 = x := un_inj.1 (by rw [un_sh, Nat.pow_zero, Nat.div_one]; rfl)
theorem sh_half (x : BitVec 64) (j : Nat) : un (sh x j) / 2 = un (sh x (j + 1)) := by
  rw [un_sh, un_sh, Nat.pow_succ, ← Nat.div_div_eq_div_mul]; omega
theorem sh_bit (x : BitVec 64) (j : Nat) : un (sh x j) % 2 = ((x.getLsbD j).toNat : Nat) := by
  rw [un_sh]
  show _ = (((x.toNat.testBit j).toNat : Nat) : Int)
  rw [Nat.testBit_eq_decide_div_mod_eq]
  have e : ((x.toNat / 2 ^ j : Nat) : Int) % 2 = ((x.toNat / 2 ^ j % 2 : Nat) : Int) := by omega
  rw [e]
  rcases Nat.mod_two_eq_zero_or_one (x.toNat / 2 ^ j) with h | h <;> rw [h] <;> rfl
theorem wp_set (l : List Bool) (i : Nat) (b : Bool) : wp (l.set i b) = (wp l).set i b.toNat := by unfold wp; rw [List.map_set]
theorem ej_at (x : BitVec 64) (j : Nat) (h : j < 64) : (ej x j).getD (63 + j) false = false := by
  unfold ej
  rw [tab_getD _ _ _ _ (by omega), if_neg (by omega)]
theorem ej_same (x : BitVec 64) (j : Nat) (h : j < 64) (hb : x.getLsbD j = false) : ej x (j + 1) = ej x j := by
  have e := ej_set x j
  have e2 := set_self (ej x j) (63 + j)
  rw [ej_at x j h] at e2
  rw [hb, e2] at e
  exact e.symm
theorem wp_ej (x : BitVec 64) : wp (ej x 64) = r0 (xb x) := by
  apply ext_getD
  · rw [wp_length, ej_length, r0_length _ (xb_length x)]
  · intro i hi
    rw [wp_length, ej_length] at hi
    have e : (wp (ej x 64)).getD i 0 = ((ej x 64).getD i false).toNat := by
      unfold wp
      rw [List.getD_eq_getElem?_getD, List.getD_eq_getElem?_getD, List.getElem?_map, List.getElem?_eq_getElem (show i < (ej x 64).length by rw [ej_length]; exact hi)]
      rfl
    rw [e, ej_rb]
    unfold rb
    rw [ob_getD]
    show ((r0 (xb x)).getD i 0 == 1).toNat = _
    have := r0_bits (xb x) i
    generalize (r0 (xb x)).getD i 0 = a at *
    rcases Nat.le_one_iff_eq_zero_or_eq_one.1 this with rfl | rfl <;> rfl
/-- A word whose first bits are another one's. -/
def lj (A W : List Bool) (j : Nat) : List Bool := (List.range 127).map fun i => if i < j then A.getD i false else W.getD i false
theorem lj_length (A W : List Bool) (j : Nat) : (lj A W j).length = 127 := by unfold lj; rw [List.length_map, List.length_range]
theorem lj_zero (A W : List Bool) (h : W.length = 127) : lj A W 0 = W := by
  unfold lj
  rw [tab_congr 127 _ (fun i => W.getD i false) (fun i _ => if_neg (by omega)), tab_of W false 127 h]
theorem lj_set (A W : List Bool) (j : Nat) : (lj A W j).set j (A.getD j false) = lj A W (j + 1) := by
  unfold lj
  apply tab_set
  · rw [if_pos (by omega)]
  · intro i e
    rcases Nat.lt_or_ge i j with h1 | h1
    · rw [if_pos h1, if_pos (by omega)]
    · rw [if_neg (by omega), if_neg (by omega)]
theorem lj_end (A W : List Bool) (hA : A.length = 127) (hW : W.length = 127) : lj A W 63 = A.take 63 ++ W.drop 63 := by
  apply bext _ _ (by rw [lj_length, List.length_append, List.length_take, List.length_drop, hA, hW]; rfl)
  intro i hi
  rw [lj_length] at hi
  unfold lj
  rw [tab_getD _ _ _ _ hi]
  by_cases h : i < 63
  · rw [if_pos h, List.getD_eq_getElem?_getD, List.getD_eq_getElem?_getD, List.getElem?_append_left (by rw [List.length_take, hA]; omega), List.getElem?_take, if_pos h]
  · rw [if_neg h, List.getD_eq_getElem?_getD, List.getD_eq_getElem?_getD, List.getElem?_append_right (by rw [List.length_take, hA]; omega), List.length_take, hA, List.getElem?_drop]
    congr 2
    omega

set_option maxRecDepth 100000 in
set_option maxHeartbeats 1000000 in
theorem encode_ref (x : BitVec 64) (w : World) :
    Calls Try.prog 10 #[.int .u64 (un x)] w fun e w' => e = .returned (.agg (boolCells (cwd x))) ∧ Below w.heap.size w w' := by
  have hz := arr_zero
  have hzn := num_zero
  have HEL := Lib.hid (ej_length x)
  go_enter Try.func10, Try.ntmps10
  go_wp2
  clear hz hzn
  have HZ0 : Hid (Row (((w.alloc (.cells (boolCells w0) 25)).alloc (.cells (boolCells w0) 25)).alloc (.cells (natCells n0) 47)) w.heap.size 25 (boolCells w0)) := Row.alloc (heap_alloc2_old _ _ _) _
  have HW0 : Hid (Row (((w.alloc (.cells (boolCells w0) 25)).alloc (.cells (boolCells w0) 25)).alloc (.cells (natCells n0) 47)) (w.heap.size + 1) 25 (boolCells (ej x 0))) := by unfold Hid; rw [ej_zero]; exact Row.alloc (heap_alloc2_new _ _ _) _
  have HR0 : Hid (Row (((w.alloc (.cells (boolCells w0) 25)).alloc (.cells (boolCells w0) 25)).alloc (.cells (natCells n0) 47)) (w.heap.size + 2) 47 (natCells (wp (ej x 0)))) := by
    unfold Hid; rw [ej_zero, show wp w0 = n0 by unfold wp w0 n0; rw [List.map_replicate]; rfl]; exact row_new _ _ (by simp) _ _
  have HB0 : Hid (Below w.heap.size w (((w.alloc (.cells (boolCells w0) 25)).alloc (.cells (boolCells w0) 25)).alloc (.cells (natCells n0) 47))) := (((Below.refl _ _).alloc (Nat.le_refl _) _).alloc (by simp) _).alloc (by simp; omega) _
  generalize (((w.alloc (.cells (boolCells w0) 25)).alloc (.cells (boolCells w0) 25)).alloc (.cells (natCells n0) 47)) = w1 at *
  rw [show w.heap.size + 1 + 1 = w.heap.size + 2 from rfl]
  have HSZ := Lib.hid (sh_zero x)
  rw [← HSZ.out]
  generalize hy0 : sh x 0 = y0
  go_loopw [0, 5] (fun v i wr => ∃ k : Nat, k ≤ 64 ∧ i = .int .i64 k ∧ v = .int .u64 (un (sh x k)) ∧ Row wr w.heap.size 25 (boolCells w0) ∧ Row wr (w.heap.size + 1) 25 (boolCells (ej x k)) ∧ Row wr (w.heap.size + 2) 47 (natCells (wp (ej x k))) ∧ Below w.heap.size w wr) (fun _ i _ => 64 - (intOf i).toNat)
  case atStart => exact ⟨0, by omega, rfl, by rw [hy0], HZ0.out, HW0.out, HR0.out, HB0.out⟩
  case round =>
    clear HZ0 HW0 HR0 HB0 hy0
    obtain ⟨k, hk, rfl, rfl, h0, h1, h2, h3⟩ := hrel
    have HZ := Lib.hid h0
    have HW := Lib.hid h1
    have HR := Lib.hid h2
    have HB := Lib.hid h3
    clear h0 h1 h2 h3
    by_cases hlt : k < 64
    · have hbit := sh_bit x k
      have hhalf := sh_half x k
      have HS := Lib.hid fun _ : Unit => ej_set x k
      have HSM := Lib.hid fun _ : Unit => ej_same x k hlt
      have c1 := word_at HW.out (63 + k) (by rw [HEL.out]; omega)
      have c2 := nat_at HR.out (63 + k) (by rw [wp_length, HEL.out]; omega)
      have f1 := HW.out.free (63 + k)
      have f2 : (wr.setCell ⟨w.heap.size + 1, 63 + k, none⟩ (.bool true)).frozen? ⟨w.heap.size + 2, 63 + k, none⟩ = false := Row.free (HR.out.far (p := ⟨w.heap.size + 1, 63 + k, none⟩) (by simp) _) _
      have c3 : (wr.setCell ⟨w.heap.size + 1, 63 + k, none⟩ (.bool true)).cell? ⟨w.heap.size + 2, 63 + k, none⟩ = _ := nat_at (HR.out.far (p := ⟨w.heap.size + 1, 63 + k, none⟩) (by simp) _) (63 + k) (by rw [wp_length, HEL.out]; omega)
      generalize x.getLsbD k = b at *
      generalize (wp (ej x k)).getD (63 + k) 0 = nn at *
      generalize (ej x k).getD (63 + k) false = bb at *
      have hu := un_bd (sh x k)
      have hu2 := un_bd (sh x (k + 1))
      generalize hY : sh x k = Y at *
      generalize hY2 : sh x (k + 1) = Y2 at *
      have hm1 : (un Y).tmod 2 = (b.toNat : Nat) := by rw [Int.tmod_eq_emod_of_nonneg hu.1]; exact hbit
      have hd1 : (un Y).tdiv 2 = un Y2 := by rw [Int.tdiv_eq_ediv_of_nonneg hu.1]; exact hhalf
      have hw1 : IntKind.u64.wrap (un Y2) = un Y2 := by rw [IntKind.wrap_u64]; omega
      have hu3 : 0 ≤ un Y := hu.1
      have HY2 := Lib.hid fun _ : Unit => hY2
      clear hu hu2 hY hY2
      cases b
      · have hm2 : (un Y % 2 == 1) = false := by rw [hbit]; rfl
        have hm3 : ((un Y).tmod 2 == 1) = false := by rw [hm1]; rfl
        go_wp2
        go_roundw
        case rel => exact ⟨k + 1, by omega, by go_num, by rw [HY2.out ()], HZ.out, by rw [HSM.out () rfl]; exact HW.out, by rw [HSM.out () rfl]; exact HR.out, HB.out⟩
        case measure => simp [intOf] <;> omega
      · have hm2 : (un Y % 2 == 1) = true := by rw [hbit]; rfl
        have hm3 : ((un Y).tmod 2 == 1) = true := by rw [hm1]; rfl
        go_wp2
        go_roundw
        case rel =>
          refine ⟨k + 1, by omega, by go_num, by rw [HY2.out ()], (HZ.out.far (p := ⟨w.heap.size + 1, 63 + k, none⟩) (by simp) _).far (p := ⟨w.heap.size + 2, 63 + k, none⟩) (by simp) _, ?_, ?_, (HB.out.setCell (p := ⟨w.heap.size + 1, 63 + k, none⟩) (by simp) _).setCell (p := ⟨w.heap.size + 2, 63 + k, none⟩) (by simp) _⟩
          · rw [← HS.out (), ← boolCells_set]
            exact (HW.out.set (63 + k) _).far (p := ⟨w.heap.size + 2, 63 + k, none⟩) (by simp) _
          · rw [← HS.out (), wp_set, ← natCells_set]
            exact (HR.out.far (p := ⟨w.heap.size + 1, 63 + k, none⟩) (by simp) _).set (63 + k) _
        case measure => simp [intOf] <;> omega
    · obtain rfl : k = 64 := by omega
      have HWE := Lib.hid fun _ : Unit => wp_ej x
      rw [HWE.out ()] at HR
      have HWD := Lib.hid fun _ : Unit => ej_drop x
      have HWL : Hid ((ej x 64).length = 127) := HEL.out 64
      have hul := xb_length x
      have HEND := Lib.hid fun _ : Unit => rb_end (xb x) (ej x 64) (ej_drop x)
      have HCW : Hid (Unit → cwd x = enc (xb x)) := fun _ => rfl
      rw [← HCW.out ()] at HEND
      have HCL := Lib.hid fun _ : Unit => cwd_length x
      have HRD := Lib.hid fun d hd => rd_all (r0 (xb x)) (r0_length _ (xb_length x)) (r0_bits _) d hd
      clear HWE HWD HCW hul hlt hk HEL HSZ
      generalize ej x 64 = W at *
      obtain ⟨cw, hcw⟩ : ∃ l, cwd x = l := ⟨_, rfl⟩
      rw [hcw] at HEND HCL
      have HCX := Lib.hid fun _ : Unit => hcw
      clear hcw
      unfold rb at HEND
      generalize r0 (xb x) = R0 at *
      go_wp2_with fail
      have hs2 := HR.out.lt
      have hw0 := HB.out.size
      refine (gen_ref _).mono ?_
      rintro e w2 ⟨b, hbs, rfl, hg, hb⟩
      have HZ2 := Lib.hid (HZ.out.box hb)
      have HW2 := Lib.hid (HW.out.box hb)
      have HR2 : Hid (Row w2 (w.heap.size + 2) 47 (natCells (rd R0 0))) := HR.out.box hb
      have HB2 := Lib.hid (HB.out.trans (hb.mono HB.out.size))
      have HG := Lib.hid hg
      have hbr : w.heap.size + 2 < b := by omega
      clear hg hb HZ HW HR HB hs2 hbs hw0
      go_wp2
      go_loopw [7] (fun i wr => ∃ d : Nat, d ≤ 64 ∧ i = .int .i64 (126 - (d : Int)) ∧ Row wr (w.heap.size + 2) 47 (natCells (rd R0 d)) ∧ Only (w.heap.size + 2) w2 wr) (fun i _ => (intOf i).toNat + 1 - 63)
      case atStart => exact ⟨0, by omega, rfl, HR2.out, Only.refl _ _⟩
      case round =>
        clear HR2
        obtain ⟨d, hd, rfl, hr, ho⟩ := hrel
        have HR := Lib.hid hr
        have HO := Lib.hid ho
        clear hr ho
        by_cases hlt : d < 64
        · obtain ⟨j, hj⟩ : ∃ j, d + j = 63 := ⟨63 - d, by omega⟩
          obtain ⟨h1, h2, _, _⟩ := HRD.out d hd
          have HRN := Lib.hid (HRD.out (d + 1) (by omega))
          have hb := h2 (126 - d)
          have c0 := nat_at HR.out (126 - d) (by rw [h1]; omega)
          have HS : Hid (Unit → rd R0 (d + 1) = if (rd R0 d).getD (126 - d) 0 = 1 then addk (rd R0 d) (63 - d) genT 64 else rd R0 d) := fun _ => rfl
          rw [show 63 - d = j by omega] at HS
          have HAB := Lib.hid fun k hk => addk_bit (rd R0 d) j k (by rw [h1]; exact hk) h2
          have HAL : Hid (∀ k, (addk (rd R0 d) j genT k).length = 127) := by intro k; rw [addk_length, h1]
          have HA0 : Hid (addk (rd R0 d) j genT 0 = rd R0 d) := rfl
          have HAS : Hid (∀ k, addk (rd R0 d) j genT (k + 1) = (addk (rd R0 d) j genT k).set (j + k) ((addk (rd R0 d) j genT k).getD (j + k) 0 ^^^ genT.getD k 0)) := fun _ => rfl
          clear h1 h2
          generalize (rd R0 d).getD (126 - d) 0 = n at *
          rw [show (126 - (d : Int)) = (j : Int) + 63 by omega]
          rw [show 126 - d = j + 63 by omega] at c0
          have hj63 : j ≤ 63 := by omega
          generalize rd R0 d = R at *
          by_cases hn : n = 1
          · subst hn
            go_wp2
            go_loopw [8] (fun i wr => ∃ k : Nat, k ≤ 64 ∧ i = .int .i64 k ∧ Row wr (w.heap.size + 2) 47 (natCells (addk R j genT k)) ∧ Only (w.heap.size + 2) w2 wr) (fun i _ => 64 - (intOf i).toNat)
            case atStart => exact ⟨0, by omega, rfl, by rw [HA0.out]; exact HR.out, HO.out⟩
            case round =>
              clear HR HO c0
              obtain ⟨k, hk, rfl, hr, ho⟩ := hrel
              have HR := Lib.hid hr
              have HO := Lib.hid ho
              clear hr ho
              by_cases hlt2 : k < 64
              · have c1 := nat_at HR.out (j + k) (by rw [HAL.out]; omega)
                have c2 : wr.cell? ⟨b, k, none⟩ = some (.int .i64 (genT.getD k 0 : Nat)) := by
                  rw [World.cell?_of_block (HO.out.block b (by omega))]
                  exact nat_at HG.out k (by rw [gen_length]; exact hlt2)
                have f1 := HR.out.free (j + k)
                have b1 := HAB.out k (by omega) (j + k)
                have b2 := gen_bits k
                have HS2 := Lib.hid fun _ : Unit => HAS.out k
                generalize genT.getD k 0 = g at *
                generalize (addk R j genT k).getD (j + k) 0 = v at *
                have hxor := i64_xor_nat v g (by omega) (by omega)
                go_wp2
                go_region
                go_wp2
                go_roundw
                case rel =>
                  refine ⟨k + 1, by omega, by go_num, ?_, (HO.out.setCell (j + k) none _).drew⟩
                  rw [HS2.out (), ← natCells_set]
                  exact Row.drewN (HR.out.set (j + k) _) 1
                case measure => simp [intOf] <;> omega
              · obtain rfl : k = 64 := by omega
                go_wp2
                go_roundw
                case rel => exact ⟨d + 1, by omega, by congr 1; omega, by rw [HS.out (), if_pos (by trivial)]; exact HR.out, HO.out⟩
                case measure => simp [intOf] <;> omega
          · have e0 : (((n : Nat) : Int) == 1) = false := by rw [beq_eq_false_iff_ne]; omega
            have e0' : (n == 1) = false := by rw [beq_eq_false_iff_ne]; omega
            have HN := Lib.hid hn
            clear hn
            go_wp2
            go_roundw
            case rel => exact ⟨d + 1, by omega, by congr 1; omega, by rw [HS.out (), if_neg HN.out]; exact HR.out, HO.out⟩
            case measure => simp [intOf] <;> omega
        · obtain rfl : d = 64 := by omega
          have HZ3 : Hid (Row wr w.heap.size 25 (boolCells w0)) := (HO.out.block w.heap.size (by omega)).trans HZ2.out
          have HW3 : Hid (Row wr (w.heap.size + 1) 25 (boolCells W)) := (HO.out.block (w.heap.size + 1) (by omega)).trans HW2.out
          have HB3 : Hid (Below w.heap.size w wr) := HB2.out.trans (HO.out.below (by omega))
          have HRL := Lib.hid (HRD.out 64 (by omega)).1
          have HLE := Lib.hid fun _ : Unit => lj_end (ob (rd R0 64)) W (by rw [ob_length, HRL.out]) HWL.out
          rw [HEND.out ()] at HLE
          have HL0 := Lib.hid fun _ : Unit => lj_zero (ob (rd R0 64)) W HWL.out
          rw [← HL0.out ()] at HW3
          clear HL0 HZ2 HW2 HB2 HO HG HRD HEND hbr hlt hd
          generalize rd R0 64 = R at *
          go_wp2
          go_loopw [9] (fun i wr => ∃ k : Nat, k ≤ 63 ∧ i = .int .i64 k ∧ Row wr (w.heap.size + 1) 25 (boolCells (lj (ob R) W k)) ∧ Row wr (w.heap.size + 2) 47 (natCells R) ∧ Row wr w.heap.size 25 (boolCells w0) ∧ Below w.heap.size w wr) (fun i _ => 63 - (intOf i).toNat)
          case atStart => exact ⟨0, by omega, rfl, HW3.out, HR.out, HZ3.out, HB3.out⟩
          case round =>
            clear HW3 HR HZ3 HB3
            obtain ⟨k, hk, rfl, h1, h2, h3, h4⟩ := hrel
            have HW := Lib.hid h1
            have HR := Lib.hid h2
            have HZ := Lib.hid h3
            have HB := Lib.hid h4
            clear h1 h2 h3 h4
            by_cases hlt : k < 63
            · have c0 := nat_at HR.out k (by rw [HRL.out]; omega)
              have c1 := word_at HW.out k (by rw [lj_length]; omega)
              have f1 := HW.out.free k
              have HS := Lib.hid fun _ : Unit => lj_set (ob R) W k
              have hob : (ob R).getD k false = (((R.getD k 0 : Nat) : Int) == 1) := by
                rw [ob_getD, Bool.eq_iff_iff, beq_iff_eq, beq_iff_eq]; omega
              obtain ⟨n, hn⟩ : ∃ n, R.getD k 0 = n := ⟨_, rfl⟩
              rw [hn] at c0 hob
              obtain ⟨y, hy⟩ : ∃ y, (((n : Nat) : Int) == 1) = y := ⟨_, rfl⟩
              rw [hob, hy] at HS
              clear hob hn
              go_wp2
              go_roundw
              case rel =>
                refine ⟨k + 1, by omega, by go_num, ?_, HR.out.far (p := ⟨w.heap.size + 1, k, none⟩) (by simp) _, HZ.out.far (p := ⟨w.heap.size + 1, k, none⟩) (by simp) _, HB.out.setCell (p := ⟨w.heap.size + 1, k, none⟩) (by simp) _⟩
                rw [← HS.out (), ← boolCells_set]
                exact HW.out.set k _
              case measure => simp [intOf] <;> omega
            · obtain rfl : k = 63 := by omega
              rw [HLE.out ()] at HW
              have HSA := Lib.hid fun _ : Unit => arr_size cw (HCL.out ())
              have HS0 : Hid (Unit → (boolCells w0).size = (boolCells cw).size) := by intro _; rw [boolCells_size, boolCells_size, w0_length, HCL.out ()]
              go_wp2_with (first
                | (refine wpList_store_row rfl 25 (.tmp 2) (.tmp 66) rfl w.heap.size (boolCells cw) rfl rfl 25 (boolCells w0) HZ.out (HSA.out ()) (HS0.out ()) (boolCells_one cw) ?_)
                | (refine wpList_load_row rfl 25 (.tmp 3) rfl (w.heap.size + 1) rfl 25 (boolCells cw) (0, 0) _ HW.out Try.underlying25 rfl (HSA.out ()) ?_))
              refine bodyPost_ret (v := .agg (boolCells cw)) (results_cell_row Try.results10 _ _ w.heap.size 25 (boolCells cw) (0, 0) _ rfl (Row.setRow HZ.out _) Try.underlying25 rfl (HSA.out ())) rfl ⟨by rw [HCX.out ()], below_setRow HB.out (Nat.le_refl _) _⟩
end Go.Proofs.Ytbokecpcefcimaa
