/-
  Contracts and plain facts that the laws share, part 14; each piece is headed by what it holds and its conditions.
-/
import Derived.Test.YtmfnjjkbfabonaaDoorQ13
import Derived.Test.YtmfnjjkbfabonaaDoorQ06
import Derived.Test.YtmfnjjkbfabonaaDoorQ02
import Derived.Test.YtmfnjjkbfabonaaDoorRows
import Derived.ProofKit
import Derived.LaidMore
import Derived.OpenShut
import Derived.ShutString
import Derived.Stop.Joined
import Derived.Lib.LaidTab

/- The contract of layer 5's reference Encode. No conditions. -/
namespace Go.Proofs.YtmfnjjkbfabonaaDoor
open Go.RowKit
open M

/-- What is left of a number that is halved again and again. -/
def sh (x : BitVec 64) (j : Nat) : BitVec 64 := BitVec.ofNat 64 (x.toNat / 2 ^ j)
theorem un_sh (x : BitVec 64) (j : Nat) : un (sh x j) = (x.toNat / 2 ^ j : Nat) := by
  have h := x.isLt
  have : x.toNat / 2 ^ j ≤ x.toNat := Nat.div_le_self _ _
  unfold sh; exact un_lit _ (by omega)
theorem sh_zero (x : BitVec 64) : sh x 0 = x := un_inj.1 (by rw [un_sh, Nat.pow_zero, Nat.div_one]; rfl)
theorem sh_half (x : BitVec 64) (j : Nat) : un (sh x j) / 2 = un (sh x (j + 1)) := by
  rw [un_sh, un_sh, Nat.pow_succ, ← Nat.div_div_eq_div_mul]; omega
theorem sh_bit (x : BitVec 64) (j : Nat) : un (sh x j) % 2 = ((x.getLsbD j).toNat : Nat) := by
  rw [un_sh]
  show _ = (((x.toNat.testBit j).toNat : Nat) : Int)
  rw [Nat.testBit_eq_decide_div_mod_eq]
  have e : ((x.toNat / 2 ^ j : Nat) : Int) % 2 = ((x.toNat / 2 ^ j % 2 : Nat) : Int) := by omega
  rw [e]
  rcases Nat.mod_two_eq_zero_or_one (x.toNat / 2 ^ j) with h | h <;> rw [h] <;> rfl
theorem wp_set (l : List Bool) (i : Nat) (b : Bool) : wp (l.set i b) = (wp l).set i b.toNat := by unfold wp; rw [List.map_set]
theorem ej_at (x : BitVec 64) (j : Nat) (h : j < 64) : (ej x j).getD (63 + j) false = false := by
  unfold ej
  rw [tab_getD _ _ _ _ (by omega), if_neg (by omega)]
theorem ej_same (x : BitVec 64) (j : Nat) (h : j < 64) (hb : x.getLsbD j = false) : ej x (j + 1) = ej x j := by
  have e := ej_set x j
  have e2 := set_self (ej x j) (63 + j)
  rw [ej_at x j h] at e2
  rw [hb, e2] at e
  exact e.symm
theorem wp_ej (x : BitVec 64) : wp (ej x 64) = r0 (xb x) := by
  apply ext_getD
  · rw [wp_length, ej_length, r0_length _ (xb_length x)]
  · intro i hi
    rw [wp_length, ej_length] at hi
    have e : (wp (ej x 64)).getD i 0 = ((ej x 64).getD i false).toNat := by
      unfold wp
      rw [List.getD_eq_getElem?_getD, List.getD_eq_getElem?_getD, List.getElem?_map, List.getElem?_eq_getElem (show i < (ej x 64).length by rw [ej_length]; exact hi)]
      rfl
    rw [e, ej_rb]
    unfold rb
    rw [ob_getD]
    show ((r0 (xb x)).getD i 0 == 1).toNat = _
    have := r0_bits (xb x) i
    generalize (r0 (xb x)).getD i 0 = a at *
    rcases Nat.le_one_iff_eq_zero_or_eq_one.1 this with rfl | rfl <;> rfl
/-- A word whose first bits are another one's. -/
def lj (A W : List Bool) (j : Nat) : List Bool := (List.range 127).map fun i => if i < j then A.getD i false else W.getD i false
theorem lj_length (A W : List Bool) (j : Nat) : (lj A W j).length = 127 := by unfold lj; rw [List.length_map, List.length_range]
theorem lj_zero (A W : List Bool) (h : W.length = 127) : lj A W 0 = W := by
  unfold lj
  rw [tab_congr 127 _ (fun i => W.getD i false) (fun i _ => if_neg (by omega)), tab_of W false 127 h]
theorem lj_set (A W : List Bool) (j : Nat) : (lj A W j).set j (A.getD j false) = lj A W (j + 1) := by
  unfold lj
  apply tab_set
  · rw [if_pos (by omega)]
  · intro i e
    rcases Nat.lt_or_ge i j with h1 | h1
    · rw [if_pos h1, if_pos (by omega)]
    · rw [if_neg (by omega), if_neg (by omega)]
theorem lj_end (A W : List Bool) (hA : A.length = 127) (hW : W.length = 127) : lj A W 63 = A.take 63 ++ W.drop 63 := by
  apply bext _ _ (by rw [lj_length, List.length_append, List.length_take, List.length_drop, hA, hW]; rfl)
  intro i hi
  rw [lj_length] at hi
  unfold lj
  rw [tab_getD _ _ _ _ hi]
  by_cases h : i < 63
  · rw [if_pos h, List.getD_eq_getElem?_getD, List.getD_eq_getElem?_getD, List.getElem?_append_left (by rw [List.length_take, hA]; omega), List.getElem?_take, if_pos h]
  · rw [if_neg h, List.getD_eq_getElem?_getD, List.getD_eq_getElem?_getD, List.getElem?_append_right (by rw [List.length_take, hA]; omega), List.length_take, hA, List.getElem?_drop]
    congr 2
    omega

set_option maxRecDepth 100000 in
set_option maxHeartbeats 1000000 in
theorem encode_ref (x : BitVec 64) (w : World) :
    Calls Tryd.prog 20 #[.int .u64 (un x)] w fun e w' => e = .returned (.agg (boolCells (cwd x))) ∧ Below w.heap.size w w' := by
  have hz := arr_zero
  have hzn := num_zero
  have HEL := Lib.hid (ej_length x)
  go_enter Tryd.func20, Tryd.ntmps20
  go_wp2
  clear hz hzn
  have HZ0 : Hid (Row (((w.alloc (.cells (boolCells w0) 26)).alloc (.cells (boolCells w0) 26)).alloc (.cells (natCells n0) 30)) w.heap.size 26 (boolCells w0)) := Row.alloc (heap_alloc2_old _ _ _) _
  have HW0 : Hid (Row (((w.alloc (.cells (boolCells w0) 26)).alloc (.cells (boolCells w0) 26)).alloc (.cells (natCells n0) 30)) (w.heap.size + 1) 26 (boolCells (ej x 0))) := by unfold Hid; rw [ej_zero]; exact Row.alloc (heap_alloc2_new _ _ _) _
  have HR0 : Hid (Row (((w.alloc (.cells (boolCells w0) 26)).alloc (.cells (boolCells w0) 26)).alloc (.cells (natCells n0) 30)) (w.heap.size + 2) 30 (natCells (wp (ej x 0)))) := by
    unfold Hid; rw [ej_zero, show wp w0 = n0 by unfold wp w0 n0; rw [List.map_replicate]; rfl]; exact row_new _ _ (by simp) _ _
  have HB0 : Hid (Below w.heap.size w (((w.alloc (.cells (boolCells w0) 26)).alloc (.cells (boolCells w0) 26)).alloc (.cells (natCells n0) 30))) := (((Below.refl _ _).alloc (Nat.le_refl _) _).alloc (by simp) _).alloc (by simp; omega) _
  generalize (((w.alloc (.cells (boolCells w0) 26)).alloc (.cells (boolCells w0) 26)).alloc (.cells (natCells n0) 30)) = w1 at *
  rw [show w.heap.size + 1 + 1 = w.heap.size + 2 from rfl]
  have HSZ := Lib.hid (sh_zero x)
  rw [← HSZ.out]
  generalize hy0 : sh x 0 = y0
  go_loopw [0, 5] (fun v i wr => ∃ k : Nat, k ≤ 64 ∧ i = .int .i64 k ∧ v = .int .u64 (un (sh x k)) ∧ Row wr w.heap.size 26 (boolCells w0) ∧ Row wr (w.heap.size + 1) 26 (boolCells (ej x k)) ∧ Row wr (w.heap.size + 2) 30 (natCells (wp (ej x k))) ∧ Below w.heap.size w wr) (fun _ i _ => 64 - (intOf i).toNat)
  case atStart => exact ⟨0, by omega, rfl, by rw [hy0], HZ0.out, HW0.out, HR0.out, HB0.out⟩
  case round =>
    clear HZ0 HW0 HR0 HB0 hy0
    obtain ⟨k, hk, rfl, rfl, h0, h1, h2, h3⟩ := hrel
    have HZ := Lib.hid h0
    have HW := Lib.hid h1
    have HR := Lib.hid h2
    have HB := Lib.hid h3
    clear h0 h1 h2 h3
    by_cases hlt : k < 64
    · have hbit := sh_bit x k
      have hhalf := sh_half x k
      have HS := Lib.hid fun _ : Unit => ej_set x k
      have HSM := Lib.hid fun _ : Unit => ej_same x k hlt
      have c1 := word_at HW.out (63 + k) (by rw [HEL.out]; omega)
      have c2 := nat_at HR.out (63 + k) (by rw [wp_length, HEL.out]; omega)
      have f1 := HW.out.free (63 + k)
      have f2 : (wr.setCell ⟨w.heap.size + 1, 63 + k, none⟩ (.bool true)).frozen? ⟨w.heap.size + 2, 63 + k, none⟩ = false := Row.free (HR.out.far (p := ⟨w.heap.size + 1, 63 + k, none⟩) (by simp) _) _
      have c3 : (wr.setCell ⟨w.heap.size + 1, 63 + k, none⟩ (.bool true)).cell? ⟨w.heap.size + 2, 63 + k, none⟩ = _ := nat_at (HR.out.far (p := ⟨w.heap.size + 1, 63 + k, none⟩) (by simp) _) (63 + k) (by rw [wp_length, HEL.out]; omega)
      generalize x.getLsbD k = b at *
      generalize (wp (ej x k)).getD (63 + k) 0 = nn at *
      generalize (ej x k).getD (63 + k) false = bb at *
      have hu := un_bd (sh x k)
      have hu2 := un_bd (sh x (k + 1))
      generalize hY : sh x k = Y at *
      generalize hY2 : sh x (k + 1) = Y2 at *
      have hm1 : (un Y).tmod 2 = (b.toNat : Nat) := by rw [Int.tmod_eq_emod_of_nonneg hu.1]; exact hbit
      have hd1 : (un Y).tdiv 2 = un Y2 := by rw [Int.tdiv_eq_ediv_of_nonneg hu.1]; exact hhalf
      have hw1 : IntKind.u64.wrap (un Y2) = un Y2 := by rw [IntKind.wrap_u64]; omega
      have hu3 : 0 ≤ un Y := hu.1
      have HY2 := Lib.hid fun _ : Unit => hY2
      clear hu hu2 hY hY2
      cases b
      · have hm2 : (un Y % 2 == 1) = false := by rw [hbit]; rfl
        have hm3 : ((un Y).tmod 2 == 1) = false := by rw [hm1]; rfl
        go_wp2
        go_roundw
        case rel => exact ⟨k + 1, by omega, by go_num, by rw [HY2.out ()], HZ.out, by rw [HSM.out () rfl]; exact HW.out, by rw [HSM.out () rfl]; exact HR.out, HB.out⟩
        case measure => simp [intOf] <;> omega
      · have hm2 : (un Y % 2 == 1) = true := by rw [hbit]; rfl
        have hm3 : ((un Y).tmod 2 == 1) = true := by rw [hm1]; rfl
        go_wp2
        go_roundw
        case rel =>
          refine ⟨k + 1, by omega, by go_num, by rw [HY2.out ()], (HZ.out.far (p := ⟨w.heap.size + 1, 63 + k, none⟩) (by simp) _).far (p := ⟨w.heap.size + 2, 63 + k, none⟩) (by simp) _, ?_, ?_, (HB.out.setCell (p := ⟨w.heap.size + 1, 63 + k, none⟩) (by simp) _).setCell (p := ⟨w.heap.size + 2, 63 + k, none⟩) (by simp) _⟩
          · rw [← HS.out (), ← boolCells_set]
            exact (HW.out.set (63 + k) _).far (p := ⟨w.heap.size + 2, 63 + k, none⟩) (by simp) _
          · rw [← HS.out (), wp_set, ← natCells_set]
            exact (HR.out.far (p := ⟨w.heap.size + 1, 63 + k, none⟩) (by simp) _).set (63 + k) _
        case measure => simp [intOf] <;> omega
    · obtain rfl : k = 64 := by omega
      have HWE := Lib.hid fun _ : Unit => wp_ej x
      rw [HWE.out ()] at HR
      have HWD := Lib.hid fun _ : Unit => ej_drop x
      have HWL : Hid ((ej x 64).length = 127) := HEL.out 64
      have hul := xb_length x
      have HEND := Lib.hid fun _ : Unit => rb_end (xb x) (ej x 64) (ej_drop x)
      have HCW : Hid (Unit → cwd x = enc (xb x)) := fun _ => rfl
      rw [← HCW.out ()] at HEND
      have HCL := Lib.hid fun _ : Unit => cwd_length x
      have HRD := Lib.hid fun d hd => rd_all (r0 (xb x)) (r0_length _ (xb_length x)) (r0_bits _) d hd
      clear HWE HWD HCW hul hlt hk HEL HSZ
      generalize ej x 64 = W at *
      obtain ⟨cw, hcw⟩ : ∃ l, cwd x = l := ⟨_, rfl⟩
      rw [hcw] at HEND HCL
      have HCX := Lib.hid fun _ : Unit => hcw
      clear hcw
      unfold rb at HEND
      generalize r0 (xb x) = R0 at *
      go_wp2_with fail
      have hs2 := HR.out.lt
      have hw0 := HB.out.size
      refine (gen_ref _).mono ?_
      rintro e w2 ⟨b, hbs, rfl, hg, hb⟩
      have HZ2 := Lib.hid (HZ.out.box hb)
      have HW2 := Lib.hid (HW.out.box hb)
      have HR2 : Hid (Row w2 (w.heap.size + 2) 30 (natCells (rd R0 0))) := HR.out.box hb
      have HB2 := Lib.hid (HB.out.trans (hb.mono HB.out.size))
      have HG := Lib.hid hg
      have hbr : w.heap.size + 2 < b := by omega
      clear hg hb HZ HW HR HB hs2 hbs hw0
      go_wp2
      go_loopw [7] (fun i wr => ∃ d : Nat, d ≤ 64 ∧ i = .int .i64 (126 - (d : Int)) ∧ Row wr (w.heap.size + 2) 30 (natCells (rd R0 d)) ∧ Only (w.heap.size + 2) w2 wr) (fun i _ => (intOf i).toNat + 1 - 63)
      case atStart => exact ⟨0, by omega, rfl, HR2.out, Only.refl _ _⟩
      case round =>
        clear HR2
        obtain ⟨d, hd, rfl, hr, ho⟩ := hrel
        have HR := Lib.hid hr
        have HO := Lib.hid ho
        clear hr ho
        by_cases hlt : d < 64
        · obtain ⟨j, hj⟩ : ∃ j, d + j = 63 := ⟨63 - d, by omega⟩
          obtain ⟨h1, h2, _, _⟩ := HRD.out d hd
          have HRN := Lib.hid (HRD.out (d + 1) (by omega))
          have hb := h2 (126 - d)
          have c0 := nat_at HR.out (126 - d) (by rw [h1]; omega)
          have HS : Hid (Unit → rd R0 (d + 1) = if (rd R0 d).getD (126 - d) 0 = 1 then addk (rd R0 d) (63 - d) genT 64 else rd R0 d) := fun _ => rfl
          rw [show 63 - d = j by omega] at HS
          have HAB := Lib.hid fun k hk => addk_bit (rd R0 d) j k (by rw [h1]; exact hk) h2
          have HAL : Hid (∀ k, (addk (rd R0 d) j genT k).length = 127) := by intro k; rw [addk_length, h1]
          have HA0 : Hid (addk (rd R0 d) j genT 0 = rd R0 d) := rfl
          have HAS : Hid (∀ k, addk (rd R0 d) j genT (k + 1) = (addk (rd R0 d) j genT k).set (j + k) ((addk (rd R0 d) j genT k).getD (j + k) 0 ^^^ genT.getD k 0)) := fun _ => rfl
          clear h1 h2
          generalize (rd R0 d).getD (126 - d) 0 = n at *
          rw [show (126 - (d : Int)) = (j : Int) + 63 by omega]
          rw [show 126 - d = j + 63 by omega] at c0
          have hj63 : j ≤ 63 := by omega
          generalize rd R0 d = R at *
          by_cases hn : n = 1
          · subst hn
            go_wp2
            go_loopw [8] (fun i wr => ∃ k : Nat, k ≤ 64 ∧ i = .int .i64 k ∧ Row wr (w.heap.size + 2) 30 (natCells (addk R j genT k)) ∧ Only (w.heap.size + 2) w2 wr) (fun i _ => 64 - (intOf i).toNat)
            case atStart => exact ⟨0, by omega, rfl, by rw [HA0.out]; exact HR.out, HO.out⟩
            case round =>
              clear HR HO c0
              obtain ⟨k, hk, rfl, hr, ho⟩ := hrel
              have HR := Lib.hid hr
              have HO := Lib.hid ho
              clear hr ho
              by_cases hlt2 : k < 64
              · have c1 := nat_at HR.out (j + k) (by rw [HAL.out]; omega)
                have c2 : wr.cell? ⟨b, k, none⟩ = some (.int .i64 (genT.getD k 0 : Nat)) := by
                  rw [World.cell?_of_block (HO.out.block b (by omega))]
                  exact nat_at HG.out k (by rw [gen_length]; exact hlt2)
                have f1 := HR.out.free (j + k)
                have b1 := HAB.out k (by omega) (j + k)
                have b2 := gen_bits k
                have HS2 := Lib.hid fun _ : Unit => HAS.out k
                generalize genT.getD k 0 = g at *
                generalize (addk R j genT k).getD (j + k) 0 = v at *
                have hxor := i64_xor_nat v g (by omega) (by omega)
                go_wp2
                go_region
                go_wp2
                go_roundw
                case rel =>
                  refine ⟨k + 1, by omega, by go_num, ?_, (HO.out.setCell (j + k) none _).drew⟩
                  rw [HS2.out (), ← natCells_set]
                  exact Row.drewN (HR.out.set (j + k) _) 1
                case measure => simp [intOf] <;> omega
              · obtain rfl : k = 64 := by omega
                go_wp2
                go_roundw
                case rel => exact ⟨d + 1, by omega, by congr 1; omega, by rw [HS.out (), if_pos (by trivial)]; exact HR.out, HO.out⟩
                case measure => simp [intOf] <;> omega
          · have e0 : (((n : Nat) : Int) == 1) = false := by rw [beq_eq_false_iff_ne]; omega
            have e0' : (n == 1) = false := by rw [beq_eq_false_iff_ne]; omega
            have HN := Lib.hid hn
            clear hn
            go_wp2
            go_roundw
            case rel => exact ⟨d + 1, by omega, by congr 1; omega, by rw [HS.out (), if_neg HN.out]; exact HR.out, HO.out⟩
            case measure => simp [intOf] <;> omega
        · obtain rfl : d = 64 := by omega
          have HZ3 : Hid (Row wr w.heap.size 26 (boolCells w0)) := (HO.out.block w.heap.size (by omega)).trans HZ2.out
          have HW3 : Hid (Row wr (w.heap.size + 1) 26 (boolCells W)) := (HO.out.block (w.heap.size + 1) (by omega)).trans HW2.out
          have HB3 : Hid (Below w.heap.size w wr) := HB2.out.trans (HO.out.below (by omega))
          have HRL := Lib.hid (HRD.out 64 (by omega)).1
          have HLE := Lib.hid fun _ : Unit => lj_end (ob (rd R0 64)) W (by rw [ob_length, HRL.out]) HWL.out
          rw [HEND.out ()] at HLE
          have HL0 := Lib.hid fun _ : Unit => lj_zero (ob (rd R0 64)) W HWL.out
          rw [← HL0.out ()] at HW3
          clear HL0 HZ2 HW2 HB2 HO HG HRD HEND hbr hlt hd
          generalize rd R0 64 = R at *
          go_wp2
          go_loopw [9] (fun i wr => ∃ k : Nat, k ≤ 63 ∧ i = .int .i64 k ∧ Row wr (w.heap.size + 1) 26 (boolCells (lj (ob R) W k)) ∧ Row wr (w.heap.size + 2) 30 (natCells R) ∧ Row wr w.heap.size 26 (boolCells w0) ∧ Below w.heap.size w wr) (fun i _ => 63 - (intOf i).toNat)
          case atStart => exact ⟨0, by omega, rfl, HW3.out, HR.out, HZ3.out, HB3.out⟩
          case round =>
            clear HW3 HR HZ3 HB3
            obtain ⟨k, hk, rfl, h1, h2, h3, h4⟩ := hrel
            have HW := Lib.hid h1
            have HR := Lib.hid h2
            have HZ := Lib.hid h3
            have HB := Lib.hid h4
            clear h1 h2 h3 h4
            by_cases hlt : k < 63
            · have c0 := nat_at HR.out k (by rw [HRL.out]; omega)
              have c1 := word_at HW.out k (by rw [lj_length]; omega)
              have f1 := HW.out.free k
              have HS := Lib.hid fun _ : Unit => lj_set (ob R) W k
              have hob : (ob R).getD k false = (((R.getD k 0 : Nat) : Int) == 1) := by
                rw [ob_getD, Bool.eq_iff_iff, beq_iff_eq, beq_iff_eq]; omega
              obtain ⟨n, hn⟩ : ∃ n, R.getD k 0 = n := ⟨_, rfl⟩
              rw [hn] at c0 hob
              obtain ⟨y, hy⟩ : ∃ y, (((n : Nat) : Int) == 1) = y := ⟨_, rfl⟩
              rw [hob, hy] at HS
              clear hob hn
              go_wp2
              go_roundw
              case rel =>
                refine ⟨k + 1, by omega, by go_num, ?_, HR.out.far (p := ⟨w.heap.size + 1, k, none⟩) (by simp) _, HZ.out.far (p := ⟨w.heap.size + 1, k, none⟩) (by simp) _, HB.out.setCell (p := ⟨w.heap.size + 1, k, none⟩) (by simp) _⟩
                rw [← HS.out (), ← boolCells_set]
                exact HW.out.set k _
              case measure => simp [intOf] <;> omega
            · obtain rfl : k = 63 := by omega
              rw [HLE.out ()] at HW
              have HSA := Lib.hid fun _ : Unit => arr_size cw (HCL.out ())
              have HS0 : Hid (Unit → (boolCells w0).size = (boolCells cw).size) := by intro _; rw [boolCells_size, boolCells_size, w0_length, HCL.out ()]
              go_wp2_with (first
                | (refine wpList_store_row rfl 26 (.tmp 2) (.tmp 66) rfl w.heap.size (boolCells cw) rfl rfl 26 (boolCells w0) HZ.out (HSA.out ()) (HS0.out ()) (boolCells_one cw) ?_)
                | (refine wpList_load_row rfl 26 (.tmp 3) rfl (w.heap.size + 1) rfl 26 (boolCells cw) (0, 0) _ HW.out Tryd.underlying26 rfl (HSA.out ()) ?_))
              refine bodyPost_ret (v := .agg (boolCells cw)) (results_cell_row Tryd.results20 _ _ w.heap.size 26 (boolCells cw) (0, 0) _ rfl (Row.setRow HZ.out _) Tryd.underlying26 rfl (HSA.out ())) rfl ⟨by rw [HCX.out ()], below_setRow HB.out (Nat.le_refl _) _⟩
end Go.Proofs.YtmfnjjkbfabonaaDoor

/- The contracts of layer 7's reference: May, Check, Word. Conditions: numbers are int's; a key has 16 bytes. -/
namespace Go.Proofs.YtmfnjjkbfabonaaDoor
open Go.RowKit
open M
attribute [local go_sem] un_beq un_bne

theorem may_int (p : Int) (w : World) :
    Calls Tryd.prog 17 #[.int .i64 p] w fun e w' => e = .returned (.bool (decide (0 ≤ p ∧ p < 281474976710656))) ∧ w = w' := by
  by_cases h0 : 0 ≤ p
  · by_cases h1 : p < 281474976710656
    · rw [decide_eq_true ⟨h0, h1⟩]
      go_enter Tryd.func17, Tryd.ntmps17
      go_wp2
      go_ret
      exact ⟨by first | rfl | simp [h1], rfl⟩
    · rw [decide_eq_false (by omega)]
      go_enter Tryd.func17, Tryd.ntmps17
      go_wp2
      go_ret
      exact ⟨by first | rfl | simp [h1], rfl⟩
  · rw [decide_eq_false (by omega)]
    go_enter Tryd.func17, Tryd.ntmps17
    go_wp2
    go_ret
    exact ⟨by first | rfl | simp [h0], rfl⟩

theorem conv_byte (W : World) (g : Nat) (b : UInt8) (t : TypeId) (hg : W.heap.size = g) :
    (convert 24 9 (.slice (some ⟨g, 0, none⟩) 1 1)).run Tryd.prog (W.alloc (.cells #[.int .u8 (ub b)] t)) = .ok (.string (ofB [b])) (W.alloc (.cells #[.int .u8 (ub b)] t)) := by
  subst hg
  exact run_conv _ W.heap.size 0 1 1 [b] rfl fun i hi => by
    obtain rfl : i = 0 := by simp at hi; omega
    exact cell_of_row _ _ _ _ _ _ (row_new W _ rfl #[.int .u8 (ub b)] t)
set_option maxRecDepth 100000 in
set_option maxHeartbeats 1000000 in
theorem check_ref (k : List UInt8) (p : Nat) (w : World) (hk : k.length = 16) (hp : p < 281474976710656) :
    Calls Tryd.prog 15 #[.agg (byteCells k), .int .i64 p] w fun e w' => e = .returned (.int .i64 (chk k p : Nat)) ∧ Below w.heap.size w w' := by
  have HI := Lib.hid (key_info k hk)
  have HZ := Lib.hid fun _ : Unit => pq_zero p
  go_enter Tryd.func15, Tryd.ntmps15
  go_wp2
  go_loopw [1, 5, 6] (fun v s i wr => ∃ j : Nat, j ≤ 6 ∧ i = .int .i64 j ∧ v = .int .i64 (pq p j : Nat) ∧ s = .string (ofB (payP p j)) ∧ Row wr w.heap.size 23 (byteCells k) ∧ Below w.heap.size w wr) (fun _ _ i _ => 6 - (intOf i).toNat)
  case atStart => exact ⟨0, Nat.zero_le _, rfl, by rw [HZ.out ()], rfl, heap_alloc_new _ _, (Below.refl _ _).alloc (Nat.le_refl _) _⟩
  case round =>
    obtain ⟨j, hj, rfl, rfl, rfl, hr, hb⟩ := hrel
    have HR := Lib.hid hr
    have HB := Lib.hid hb
    clear hr hb
    by_cases hlt : j < 6
    · have hle := pq_le p j
      have hrt := pq_rest p j
      have HQ := Lib.hid fun _ : Unit => pq_quo p j
      have HS := Lib.hid (payP_succ p j hlt)
      have hbd := ub_bd (pb p j)
      have hpl := payP_length p j
      obtain ⟨b, hbb⟩ : ∃ b, pb p j = b := ⟨_, rfl⟩
      obtain ⟨s, hss⟩ : ∃ s, ofB (payP p j) = s := ⟨_, rfl⟩
      have hsl : s.size ≤ 6 := by rw [← hss, ofB_size]; exact hpl
      obtain ⟨y, hyy⟩ : ∃ y, pq p j = y := ⟨_, rfl⟩
      rw [hbb] at hbd HS hrt
      rw [hss] at HS ⊢
      rw [hyy] at hle hrt HQ ⊢
      have hq : (y : Int) % 256 = ub b := by unfold ub; omega
      have hq2 : (y : Int).tmod 256 = ub b := by rw [Int.tmod_eq_emod_of_nonneg (by omega)]; exact hq
      have hy2 : IntKind.u8.wrap (ub b) = ub b := by rw [IntKind.wrap_u8']; omega
      have kc := conv_byte wr wr.heap.size b 5 rfl
      have hsz : ¬ 9223372036854775807 < s.size + (ofB [b]).size := by
        rw [ofB_size]
        simp only [List.length_singleton]; omega
      clear hyy hbb hss hrt hpl
      go_wp2
      go_roundw
      case rel => exact ⟨j + 1, by omega, by go_num, by rw [← HQ.out ()]; first | rfl | go_num, by rw [← HS.out], HR.out.alloc _, HB.out.alloc HB.out.size _⟩
      case measure => simp [intOf]; omega
    · obtain rfl : j = 6 := by omega
      have hm : ((sum k (payB p)).toNat % 65536 : Nat) = chk k p := rfl
      have hlc := chk_lt k p
      have HSM : Hid (∀ W, Calls Tryd.prog 24 #[.agg (byteCells k), .string (ofB (payP p 6))] W fun e w'' => e = .returned (.int .u64 (un (sum k (payB p)))) ∧ Below W.heap.size W w'') :=
        fun W => refSum_any k (ofB (payB p)) W hk (by rw [ofB_size, payB_length]; omega)
      have hsb := un_bd (sum k (payB p))
      have hs1 : un (sum k (payB p)) % 65536 = (chk k p : Int) := by rw [← hm]; unfold un; omega
      have hs2 : (un (sum k (payB p))).tmod 65536 = (chk k p : Int) := by rw [Int.tmod_eq_emod_of_nonneg hsb.1]; exact hs1
      have hw1 : IntKind.i64.wrap (chk k p : Int) = (chk k p : Int) := by rw [IntKind.wrap_i64]; omega
      have hw2 : IntKind.u64.wrap (chk k p : Int) = (chk k p : Int) := by rw [IntKind.wrap_u64]; omega
      clear hm
      generalize sum k (payB p) = s at *
      obtain ⟨c, hcc⟩ : ∃ c, chk k p = c := ⟨_, rfl⟩
      rw [hcc] at hlc hs1 hs2 hw1 hw2
      have HCK := Lib.hid fun _ : Unit => hcc
      clear hcc
      go_wp2_with (refine wpList_load_row rfl 23 (.tmp 2) rfl w.heap.size rfl 23 (byteCells k) (0, 0) _ HR.out Tryd.underlying23 rfl HI.out ?_)
      refine (HSM.out _).mono ?_
      rintro e w1 ⟨rfl, hb⟩
      have HB2 := Lib.hid (HB.out.trans (hb.mono HB.out.size))
      clear hb HSM HB
      go_wp2
      go_ret
      exact ⟨ret_eq (by rw [HCK.out ()]), HB2.out⟩
set_option maxRecDepth 100000 in
theorem word_ref (k : List UInt8) (p : Nat) (w : World) (hk : k.length = 16) (hp : p < 281474976710656) :
    Calls Tryd.prog 9 #[.agg (byteCells k), .int .i64 p] w fun e w' => e = .returned (.agg (boolCells (cwd (num7 k p)))) ∧ Below w.heap.size w w' := by
  have HI := Lib.hid (key_info k hk)
  have hb0 : Below w.heap.size w ((w.alloc (.cells (byteCells k) 23)).alloc (.cells (boolCells w0) 26)) := ((Below.refl _ _).alloc (Nat.le_refl _) _).alloc (by simp) _
  have HB := Lib.hid hb0
  have HK : Hid (Row ((w.alloc (.cells (byteCells k) 23)).alloc (.cells (boolCells w0) 26)) w.heap.size 23 (byteCells k)) := heap_alloc2_old _ _ _
  have H0 : Hid (Row ((w.alloc (.cells (byteCells k) 23)).alloc (.cells (boolCells w0) 26)) (w.heap.size + 1) 26 (boolCells w0)) := heap_alloc2_new _ _ _
  have HC := Lib.hid fun W => check_ref k p W hk hp
  have HE := Lib.hid (encode_ref (num7 k p))
  have hun := un_num7 k p hp
  have hlc := chk_lt k p
  have HL := Lib.hid (cwd_length (num7 k p))
  generalize cwd (num7 k p) = c at *
  generalize num7 k p = x at *
  generalize chk k p = q at *
  have HS := Lib.hid fun _ : Unit => arr_size c HL.out
  have HSS : Hid (Unit → (boolCells w0).size = (boolCells c).size) := by intro _; rw [boolCells_size, boolCells_size, w0_length, HL.out]
  have h1 : IntKind.u64.wrap (p : Int) = p := by rw [IntKind.wrap_u64]; omega
  have h2 : IntKind.u64.wrap (q : Int) = q := by rw [IntKind.wrap_u64]; omega
  have h3 : IntKind.u64.wrap (281474976710656 * (q : Int)) = 281474976710656 * (q : Int) := by rw [IntKind.wrap_u64]; omega
  have h4 : IntKind.u64.wrap ((p : Int) + 281474976710656 * (q : Int)) = (p : Int) + 281474976710656 * (q : Int) := by rw [IntKind.wrap_u64]; omega
  have HE2 : Hid (∀ W, Calls Tryd.prog 20 #[.int .u64 ((p : Int) + 281474976710656 * (q : Int))] W fun e w' => e = .returned (.agg (boolCells c)) ∧ Below W.heap.size W w') := by
    intro W
    have := HE.out W
    rwa [hun] at this
  clear hb0 HE hun
  have hz := arr_zero
  go_enter Tryd.func9, Tryd.ntmps9
  go_wp2_with (refine wpList_load_row rfl 23 (.tmp 2) rfl w.heap.size rfl 23 (byteCells k) (0, 0) _ HK.out Tryd.underlying23 rfl HI.out ?_)
  refine (HC.out _).mono ?_
  rintro e w1 ⟨rfl, hb⟩
  have HB1 := Lib.hid (HB.out.trans (hb.mono HB.out.size))
  have H1 := Lib.hid (H0.out.box hb)
  clear hb HB H0 HK HC
  go_wp2_with fail
  refine (HE2.out _).mono ?_
  rintro e w2 ⟨rfl, hb⟩
  have HB2 := Lib.hid (HB1.out.trans (hb.mono HB1.out.size))
  have H2 := Lib.hid (H1.out.box hb)
  clear hb HB1 H1 HE2
  go_wp2_with (first
    | (refine wpList_store_row rfl 26 (.tmp 4) (.tmp 13) rfl (w.heap.size + 1) (boolCells c) rfl rfl 26 (boolCells w0) H2.out (HS.out ()) (HSS.out ()) (boolCells_one c) ?_)
    | (refine bodyPost_ret (v := .agg (boolCells c)) (results_cell_row Tryd.results9 _ _ (w.heap.size + 1) 26 (boolCells c) (0, 0) _ rfl (Row.setRow H2.out _) Tryd.underlying26 rfl (HS.out ())) rfl ⟨rfl, below_setRow HB2.out (by omega) _⟩))
end Go.Proofs.YtmfnjjkbfabonaaDoor

/- The contract of layer 7's laws' awake: the document's example, and a payload. Condition: the signs lie as the program's text lays them. -/
namespace Go.Proofs.YtmfnjjkbfabonaaDoor
open Go.RowKit
open M
attribute [local go_sem] un_beq un_bne

/-- The key of zeros, and no votes. -/
def k0 : List UInt8 := List.replicate 16 0
theorem k0_length : k0.length = 16 := by unfold k0; rw [List.length_replicate]
theorem key_zero_info : (Tryd.prog.info? 23).map (fun i => (i.zero, i.size)) = some (some (.agg (byteCells k0)), 16) := by kernel_rfl
theorem key_zero (w : World) : (zeroValue 23).run Tryd.prog w = .ok (.agg (byteCells k0)) w := (zero_of_info key_zero_info).1 w
def v0 : List Int := List.replicate 127 0
theorem v0_length : v0.length = 127 := by unfold v0; rw [List.length_replicate]
theorem votes_zero_info : (Tryd.prog.info? 30).map (fun i => (i.zero, i.size)) = some (some (.agg (intCells v0)), 127) := by kernel_rfl
theorem votes_zero (w : World) : (zeroValue 30).run Tryd.prog w = .ok (.agg (intCells v0)) w := (zero_of_info votes_zero_info).1 w
theorem v0_getD (i : Nat) : v0.getD i 0 = 0 := by
  unfold v0
  rw [List.getD_eq_getElem?_getD, List.getElem?_replicate]
  split <;> rfl
theorem v0_dh : dh v0 = List.replicate 127 true := by unfold dh v0; rw [List.map_replicate]; rfl
/-- Of no votes Take tells that there are too many errors. -/
theorem tk_zero (k : List UInt8) (a b : Int) (h : Tk k v0 a b) : b = 5 := by
  obtain ⟨y, n, ha, ⟨rfl, _, _⟩ | ⟨_, _, h⟩⟩ := h
  · rcases ha with ⟨_, h2⟩ | ⟨h2, _⟩
    · have := far_holes (dw v0) (dh v0) (cwd y) (by rw [dh_length, v0_length])
      have hc : (dh v0).count true = 127 := by rw [v0_dh, List.count_replicate]; rfl
      omega
    · omega
  · exact h
set_option maxRecDepth 100000 in
set_option maxHeartbeats 1000000 in
theorem awake_any (w : World) (h : Signs w) :
    Calls Tryd.prog 8 #[] w fun e w' => e = .returned (.bool true) ∧ Below w.heap.size w w' := by
  have hz := word_zero
  have hzk := key_zero
  have hzv := votes_zero
  have HI := Lib.hid (key_info k0 k0_length)
  have HK : Hid (Row (w.alloc (.cells (byteCells k0) 23)) w.heap.size 23 (byteCells k0)) := heap_alloc_new _ _
  have HB := Lib.hid ((Below.refl w.heap.size w).alloc (Nat.le_refl _) (.cells (byteCells k0) 23))
  have HG := Lib.hid (h.below HB.out h.lt)
  have HT := Lib.hid fun W (hs : Signs W) => take_votes k0 v0 W k0_length v0_length hs
  have HY : Hid (∀ W, Signs W → Calls Tryd.prog 16 #[.agg (byteCells k0), .int .i64 5] W fun e w' => e = .returned (.tuple #[.agg (boolCells (cwd (num7 k0 5))), .int .i64 0]) ∧ Below W.heap.size W w') :=
    fun W hs => lay_ok k0 5 W k0_length (by decide) hs
  have HT5 := Lib.hid fun a b => tk_zero k0 a b
  have HL := Lib.hid (cwd_length (num7 k0 5))
  have HIS := Lib.hid fun W => is_any (cwd (num7 k0 5)) W (cwd_length _)
  rw [isCw_cwd] at HIS
  generalize cwd (num7 k0 5) = c at *
  have HS := Lib.hid fun _ : Unit => word_size c HL.out
  have HSS : Hid (Unit → (boolCells w0).size = (boolCells c).size) := by intro _; rw [boolCells_size, boolCells_size, w0_length, HL.out]
  clear h
  go_enter Tryd.func8, Tryd.ntmps8
  go_wp2_with (refine wpList_load_row rfl 23 (.tmp 1) rfl w.heap.size rfl 23 (byteCells k0) (0, 0) _ HK.out Tryd.underlying23 rfl HI.out ?_)
  refine (HT.out _ HG.out).mono ?_
  rintro e w1 ⟨a, b, rfl, htk, hb⟩
  obtain rfl := HT5.out _ _ htk
  have HB1 := Lib.hid (HB.out.trans (hb.mono HB.out.size))
  have HG1 := Lib.hid (HG.out.below hb HG.out.lt)
  have HK1 := Lib.hid (HK.out.box hb)
  clear hb HB HG HK HT htk HT5
  go_wp2_with (refine wpList_load_row rfl 23 (.tmp 1) rfl w.heap.size rfl 23 (byteCells k0) (0, 0) _ HK1.out Tryd.underlying23 rfl HI.out ?_)
  refine (HY.out _ HG1.out).mono ?_
  rintro e w2 ⟨rfl, hb⟩
  have HB2 := Lib.hid (HB1.out.trans (hb.mono HB1.out.size))
  clear hb HB1 HG1 HK1 HY
  have H0 : Hid (Row (w2.alloc (.cells (boolCells w0) 40)) w2.heap.size 40 (boolCells w0)) := heap_alloc_new _ _
  go_upto_region 4 with (refine wpList_store_row rfl 40 (.tmp 4) (.tmp 15) rfl w2.heap.size (boolCells c) rfl rfl 40 (boolCells w0) H0.out (HS.out ()) (HSS.out ()) (boolCells_one c) ?_)
  have HR : Hid (Row ((w2.alloc (.cells (boolCells w0) 40)).setRow w2.heap.size (boolCells c)) w2.heap.size 40 (boolCells c)) := Row.setRow H0.out _
  have HB3 : Hid (Below w.heap.size w ((w2.alloc (.cells (boolCells w0) 40)).setRow w2.heap.size (boolCells c))) := below_setRow (HB2.out.alloc HB2.out.size _) HB2.out.size _
  clear H0 HB2
  generalize (w2.alloc (.cells (boolCells w0) 40)).setRow w2.heap.size (boolCells c) = w3 at *
  generalize w2.heap.size = g at *
  go_wp2_with (refine wpList_load_guard (by rfl) 40 (.tmp 4) rfl g rfl 40 (boolCells c) (0, 0) _ HR.out Tryd.underlying40 rfl (HS.out ()) ?_)
  refine (HIS.out _).mono ?_
  rintro e w4 ⟨rfl, hb⟩
  have HB4 := Lib.hid (HB3.out.trans (hb.mono HB3.out.size))
  clear hb
  go_wp2
  go_ret
  exact ⟨rfl, HB4.out⟩
end Go.Proofs.YtmfnjjkbfabonaaDoor

/- Plain facts of layer 7's laws: votes that say a word, one by one; what Take answers of them; a payload's lowest 48 bits. No program is named here. No conditions but those that each fact names. -/
namespace Go.Proofs.YtmfnjjkbfabonaaDoor
open Go.RowKit
open M

theorem and48 (p : Int) : bits .and .i64 p 281474976710655 = ((p % 281474976710656).toNat : Int) := by
  have h1 : ((BitVec.ofInt 64 p).toNat : Int) = p % 18446744073709551616 := by
    rw [BitVec.toNat_ofInt]
    have := Int.emod_nonneg p (show (18446744073709551616 : Int) ≠ 0 by decide)
    show ((p % 18446744073709551616).toNat : Int) = _
    omega
  have h2 : (BitVec.ofInt 64 p &&& BitVec.ofInt 64 281474976710655).toNat = (BitVec.ofInt 64 p).toNat % 281474976710656 := by
    rw [BitVec.toNat_and]
    exact Nat.and_two_pow_sub_one_eq_mod _ 48
  show IntKind.i64.wrap ((BitVec.ofInt 64 p &&& BitVec.ofInt 64 281474976710655).toNat : Int) = _
  rw [h2, IntKind.wrap_i64]
  omega
theorem mod48_lt (p : Int) : (p % 281474976710656).toNat < 281474976710656 := by omega
theorem w0_getD (i : Nat) : w0.getD i false = false := by
  unfold w0
  rw [List.getD_eq_getElem?_getD, List.getElem?_replicate]
  split <;> rfl
/-- A vote that says a bit. -/
def sayv (w h : List Bool) (t : Int) (i : Nat) : Int := if h.getD i false = true then 0 else if w.getD i false = true then -(1 + t * i) else 1 + t * i
def sayj (w h : List Bool) (t : Int) (j : Nat) : List Int := (List.range 127).map fun i => if i < j then sayv w h t i else 0
theorem sayj_length (w h : List Bool) (t : Int) (j : Nat) : (sayj w h t j).length = 127 := by unfold sayj; rw [List.length_map, List.length_range]
theorem sayj_zero (w h : List Bool) (t : Int) : sayj w h t 0 = v0 := by
  unfold sayj v0
  rw [tab_congr 127 _ (fun _ => 0) fun i _ => if_neg (by omega)]
  rfl
theorem sayj_set (w h : List Bool) (t : Int) (j : Nat) (v : Int) (hv : sayv w h t j = v) : (sayj w h t j).set j v = sayj w h t (j + 1) := by
  unfold sayj
  apply tab_set
  · rw [if_pos (by omega), hv]
  · intro i e
    rcases Nat.lt_or_ge i j with h | h
    · rw [if_pos h, if_pos (by omega)]
    · rw [if_neg (by omega), if_neg (by omega)]
theorem sayj_done (w h : List Bool) (t : Int) : sayj w h t 127 = say w h t 127 := by
  unfold sayj
  rw [tab_congr 127 _ (sayv w h t) fun i hi => if_pos hi]
  rfl
theorem sayj_at (w h : List Bool) (t : Int) (j : Nat) (hj : j < 127) : (sayj w h t j).getD j 0 = 0 := by
  unfold sayj
  rw [tab_getD _ _ _ _ hj, if_neg (by omega)]
theorem sayk (c : List Bool) (i : Nat) (b : Bool) (hb : c.getD i false = b) : sayv c w0 0 i = if b = true then -1 else 1 := by
  unfold sayv
  rw [w0_getD, if_neg (by simp), hb]
  cases b <;> simp
/-- What Take answers of votes that say a word, some of it, or all. -/
theorem tk_say (o : List UInt8) (w h : List Bool) (t : Int) (ht : 0 ≤ t) (hh : h.length = 127) (a b : Int) (k : Tk o (say w h t 127) a b) :
    ∃ y n, Am w h y n ∧ ((n = 0 ∧ a = rdv o y ∧ b = rde o y) ∨ (n = 5 ∧ a = 0 ∧ b = 5)) := by
  obtain ⟨y, n, ha, hr⟩ := k
  rw [say_dh w h t ht hh] at ha
  refine ⟨y, n, ?_, hr⟩
  have hf : ∀ c, farN (dw (say w h t 127)) h c 127 = farN w h c 127 := fun c => far_cong _ _ h c (fun i hi => say_dw w h t ht i hi) 127 (by omega)
  rcases ha with ⟨h1, h2⟩ | ⟨h1, h2, h3⟩
  · exact Or.inl ⟨h1, by rw [← hf]; exact h2⟩
  · exact Or.inr ⟨h1, h2, fun y => by rw [← hf]; exact h3 y⟩
theorem rd_other (k o : List UInt8) (p : Nat) (hp : p < 281474976710656) : (chk k p = chk o p → rdv o (num7 k p) = p ∧ rde o (num7 k p) = 0) ∧ (chk k p ≠ chk o p → rdv o (num7 k p) = 0 ∧ rde o (num7 k p) = 6) := by
  have hs := num7_split k p hp
  constructor
  · intro e
    have := rd_yes o (num7 k p) (by rw [hs.1, hs.2]; exact e)
    rw [hs.1] at this
    exact this
  · intro e
    exact rd_no o (num7 k p) (by rw [hs.1, hs.2]; exact e)
/-- LoadKeys: what was laid under one key, taken under another one. -/
theorem tk_keys (k o : List UInt8) (p : Nat) (hp : p < 281474976710656) (a b : Int) (h : Tk o (say (cwd (num7 k p)) w0 0 127) a b) :
    (chk k p = chk o p → a = p ∧ b = 0) ∧ (chk k p ≠ chk o p → a = 0 ∧ b = 6) := by
  obtain ⟨y, n, ha, hr⟩ := tk_say o _ w0 0 (by omega) w0_length a b h
  have hself := far_self (cwd (num7 k p)) w0 w0_length
  rw [w0_count] at hself
  obtain ⟨rfl, rfl⟩ := am_reach _ w0 (num7 k p) y n ha (by omega)
  have hro := rd_other k o p hp
  rcases hr with ⟨_, rfl, rfl⟩ | ⟨h, _⟩
  · exact hro
  · omega
/-- LoadTakes: what was laid, with errors and holes. -/
theorem tk_takes (k : List UInt8) (p : Nat) (hp : p < 281474976710656) (w h : List Bool) (t : Int) (ht : 0 ≤ t) (hh : h.length = 127) (a b : Int) (hk : Tk k (say w h t 127) a b) :
    (farN w h (cwd (num7 k p)) 127 ≤ 20 → a = p ∧ b = 0) ∧
    (¬ farN w h (cwd (num7 k p)) 127 ≤ 20 → (b = 5 ∧ a = 0) ∨ (b = 6 ∧ a = 0) ∨ (b = 0 ∧ ∃ q : Nat, a = q ∧ q ≠ p ∧ q < 281474976710656 ∧ farN w h (cwd (num7 k q)) 127 ≤ 20)) := by
  obtain ⟨y, n, ha, hr⟩ := tk_say k w h t ht hh a b hk
  constructor
  · intro hf
    obtain ⟨rfl, rfl⟩ := am_reach w h (num7 k p) y n ha hf
    rcases hr with ⟨_, rfl, rfl⟩ | ⟨h, _⟩
    · exact rd_num7 k p hp
    · omega
  · intro hf
    rcases hr with ⟨rfl, rfl, rfl⟩ | ⟨_, rfl, rfl⟩
    · rcases ha with ⟨_, h2⟩ | ⟨h2, _⟩
      · rcases rd_cases k y with ⟨e1, q, hq, e2, e3⟩ | ⟨e1, e2, _⟩
        · right; right
          refine ⟨e1, q, e2, ?_, hq, by rw [e3]; exact h2⟩
          rintro rfl
          rw [e3] at hf
          exact hf h2
        · right; left
          exact ⟨e1, e2⟩
      · omega
    · left; exact ⟨rfl, rfl⟩
end Go.Proofs.YtmfnjjkbfabonaaDoor

/- What the rows of layer 2 share: that the signs lie where the program's text lays them, out of the rows' own condition; a start that meets it; a key handed in by value, taken apart and put together. No conditions. -/
namespace Go.Proofs.YtmfnjjkbfabonaaDoor
open Go.ChangeShapes Go.WideShapes Go.ChangeAt Go.RowKit
open M

theorem own : ownKnob Tryd.prog.godebug = none := by kernel_rfl

def laidL : List (String × DataW Unit) := Rows.loadTakesRow.laid
def signsName : String := match laidL with | x :: _ => x.1 | [] => ""
theorem gSigns : Tryd.prog.globalNamed signsName = some 0 := by kernel_rfl
theorem tSigns : (Tryd.prog.globals[0]?).map (·.type) = some 70 := by kernel_rfl
theorem cells27 : Tryd.prog.cellsOf 36 = 1 := by kernel_rfl
theorem cells30 : Tryd.prog.cellsOf 70 = 4 := by kernel_rfl

theorem signs_of {W : World} (h : laidMetH Tryd.prog laidL W) : Signs W := by
  rw [MakeChecks.laidMetH_plain _ _ _ (by kernel_rfl)] at h
  have h' : laidMet Tryd.prog ((signsName, Lib.tabData .u64 [8317987319222330741, 7237128888997146477, 7816392313619706465, 8387220255154660723]) :: []) W := h
  have hT := Lib.tabIs_of_head gSigns tSigns Tryd.underlying70 Tryd.underlying36 cells27 cells30 h'
  have e0 := un_lit 8317987319222330741 (by decide)
  have e1 := un_lit 7237128888997146477 (by decide)
  have e2 := un_lit 7816392313619706465 (by decide)
  have e3 := un_lit 8387220255154660723 (by decide)
  refine ⟨?_, ?_, ?_, ?_⟩
  · rw [e0]; exact hT.cell gSigns 0 (by decide)
  · rw [e1]; exact hT.cell gSigns 1 (by decide)
  · rw [e2]; exact hT.cell gSigns 2 (by decide)
  · rw [e3]; exact hT.cell gSigns 3 (by decide)

/-- The door's own heap meets the condition. -/
theorem door_met (os : Os) (args : Array Value) : laidMetH Tryd.prog laidL ((World.doorLaid Tryd.prog 400 os).forCall (fun _ _ => 0) ⟨#[], args, []⟩).memory :=
  laidMetH_of_parts3 (fuel := 8) (laidMet_of_run' 8 (by kernel_rfl) (by kernel_rfl)) (by kernel_rfl) (by kernel_rfl)


section
variable {H : Type} {enc : TypeId × Value → H} {P : Program} {w : World} {base b0 : Nat} {spare : Nat → Bool} {held : Bool} {r : Reach}

theorem open_arr {n : Nat} {t e : TypeId} {k : IntKind} {v : Value} {d : DataW H} {p : List MemPlace} (ht : P.underlying t = some (.array n e)) (he : P.underlying e = some (.int k)) (hce : P.cellsOf e = 1) (hct : P.cellsOf t = n)
    (hv : Value.okWide P w r b0 t v) (h : DataW.Trod enc P w base spare held t v d p) :
    ∃ zs : List Int, zs.length = n ∧ v = .agg (zs.map (Value.int k)).toArray ∧ d = .agg (zs.map fun z => .lit (.int k z)) ∧ p = [] ∧ ∀ z ∈ zs, (Lit.int k z).wf = true := by
  obtain ⟨cs, rfl, hsz, _⟩ : ∃ cs, v = .agg cs ∧ cs.size = P.cellsOf t ∧ Row.okWide P w r b0 t cs := by simpa [Value.okWide, ht] using hv
  obtain ⟨fuel, hf⟩ := h
  obtain ⟨xs, m, _, hx, _, hl, hat⟩ := DataW.trod_array ht hf
  obtain ⟨l⟩ := cs
  have hll : l.length = n := by rw [← hct, ← hsz]; simp
  have key : ∀ i (hi : i < n), ∃ z, l[i]'(by omega) = .int k z ∧ xs[i]'(by omega) = (.lit (.int k z), []) ∧ (Lit.int k z).wf = true := by
    intro i hi
    have h1 := hat i hi
    rw [List.getElem?_eq_getElem (by omega), hce, Nat.mul_one] at h1
    obtain ⟨z, e1, e2, e3⟩ := DataW.trod_int he h1
    have e4 : ((Value.agg ⟨l⟩).cells.toList.drop i).take 1 = [l[i]'(by omega)] := by
      show (l.drop i).take 1 = _
      rw [List.drop_eq_getElem_cons (by omega)]; rfl
    rw [e4] at e1
    exact ⟨z, by simpa using e1, e2, e3⟩
  have hl2 : l = (l.map intOf).map (Value.int k) := by
    apply List.ext_getElem (by simp)
    intro i h1 h2
    obtain ⟨z, e1, _⟩ := key i (by omega)
    simp [e1, intOf]
  have hxs : xs = (l.map intOf).map fun z => ((.lit (.int k z) : DataW H), ([] : List MemPlace)) := by
    apply List.ext_getElem (by simp; omega)
    intro i h1 h2
    obtain ⟨z, e1, e2, _⟩ := key i (by omega)
    simp [e1, e2, intOf]
  simp only [Prod.mk.injEq] at hx
  refine ⟨l.map intOf, by simpa using hll, by rw [← hl2], by rw [hx.1, hxs]; simp, ?_, ?_⟩
  · rw [hx.2, hxs]; simp
  · intro z hz
    obtain ⟨i, hi, rfl⟩ := List.getElem_of_mem hz
    obtain ⟨z, e1, _, e3⟩ := key i (by simpa [hll] using hi)
    simpa [e1, intOf] using e3

theorem shut_arr {n : Nat} {t e : TypeId} {k : IntKind} (ht : P.underlying t = some (.array n e)) (he : P.underlying e = some (.int k)) (hce : P.cellsOf e = 1) (hct : P.cellsOf t = n)
    (zs : List Int) (hl : zs.length = n) (hwf : ∀ z ∈ zs, (Lit.int k z).wf = true) :
    DataW.Trod enc P w base spare held t (.agg (zs.map (Value.int k)).toArray) (.agg (zs.map fun z => .lit (.int k z))) [] := by
  refine ⟨2, ?_⟩
  unfold DataW.trod
  rw [ht]
  have hm : ((List.range n).mapM fun i => DataW.trod enc P w base spare held 1 e (((zs.map (Value.int k)).drop (i * P.cellsOf e)).take (P.cellsOf e))) = some (zs.map fun z => ((.lit (.int k z) : DataW H), ([] : List MemPlace))) := by
    have hr : (List.range n).mapM (fun i => DataW.trod enc P w base spare held 1 e (((zs.map (Value.int k)).drop (i * P.cellsOf e)).take (P.cellsOf e))) = (List.range n).mapM (fun i => (zs.map fun z => ((.lit (.int k z) : DataW H), ([] : List MemPlace)))[i]?) := by
      have hcongr : ∀ (L : List Nat), (∀ i ∈ L, i < n) → L.mapM (fun i => DataW.trod enc P w base spare held 1 e (((zs.map (Value.int k)).drop (i * P.cellsOf e)).take (P.cellsOf e))) = L.mapM (fun i => (zs.map fun z => ((.lit (.int k z) : DataW H), ([] : List MemPlace)))[i]?) := by
        intro L
        induction L with
        | nil => intro _; rfl
        | cons a L ih =>
          intro hL
          have ha : a < zs.length := by rw [hl]; exact hL a (by simp)
          have e1 : DataW.trod enc P w base spare held 1 e (((zs.map (Value.int k)).drop (a * P.cellsOf e)).take (P.cellsOf e)) = (zs.map fun z => ((.lit (.int k z) : DataW H), ([] : List MemPlace)))[a]? := by
            rw [hce, Nat.mul_one, List.drop_eq_getElem_cons (by simpa using ha)]
            simp [DataW.trod, he, ha, hwf _ (List.getElem_mem ha)]
          rw [List.mapM_cons, List.mapM_cons, e1, ih (fun i hi => hL i (by simp [hi]))]
      exact hcongr _ (fun i hi => by simpa using hi)
    rw [hr]
    have hlen : (zs.map fun z => ((.lit (.int k z) : DataW H), ([] : List MemPlace))).length = n := by simpa using hl
    generalize (zs.map fun z => ((.lit (.int k z) : DataW H), ([] : List MemPlace))) = ys at *
    have hall : ∀ (m j : Nat), j + m = ys.length → (List.range' j m).mapM (fun i => ys[i]?) = some (ys.drop j) := by
      intro m
      induction m with
      | zero => intro j hj; rw [List.drop_of_length_le (by omega)]; rfl
      | succ m ih =>
        intro j hj
        rw [List.range'_succ, List.mapM_cons, List.getElem?_eq_getElem (by omega), ih (j + 1) (by omega), List.drop_eq_getElem_cons (l := ys) (i := j) (by omega)]
        rfl
    have := hall n 0 (by omega)
    rwa [← List.range_eq_range', List.drop_zero] at this
  show (if (zs.map (Value.int k)).length = P.cellsOf t then _ else none) = _
  rw [if_pos (by rw [hct]; simpa using hl)]
  have e2 : (Value.agg (zs.map (Value.int k)).toArray).cells.toList = zs.map (Value.int k) := by simp [Value.cells]
  rw [e2, hm]
  simp
end

theorem cells22 : Tryd.prog.cellsOf 23 = 16 := by kernel_rfl
theorem cells5 : Tryd.prog.cellsOf 5 = 1 := by kernel_rfl

section
variable {H : Type} {enc : TypeId × Value → H} {W : World} {base b0 : Nat} {spare : Nat → Bool} {held : Bool} {r : Reach}
set_option maxRecDepth 100000 in
theorem open_key {v : Value} {d : DataW H} {p : List MemPlace} (hv : Value.okWide Tryd.prog W r b0 23 v) (h : DataW.Trod enc Tryd.prog W base spare held 23 v d p) :
    ∃ x : List UInt8, x.length = 16 ∧ v = .agg (byteCells x) ∧ d = .agg (x.map fun y => .lit (.int .u8 (ub y))) ∧ p = [] ∧
      ∀ (W' : World) (b : Nat) (sp : Nat → Bool) (hd : Bool), DataW.Trod enc Tryd.prog W' b sp hd 23 (.agg (byteCells x)) (.agg (x.map fun y => .lit (.int .u8 (ub y)))) [] := by
  obtain ⟨zs, hl, rfl, rfl, rfl, hwf⟩ := open_arr Tryd.underlying23 Tryd.underlying5 cells5 cells22 hv h
  obtain ⟨x, rfl⟩ : ∃ x : List UInt8, zs = x.map ub := by
    clear hl hv h
    induction zs with
    | nil => exact ⟨[], rfl⟩
    | cons z zs ih =>
      obtain ⟨y, rfl⟩ := byte_of_wf (hwf z (by simp))
      obtain ⟨x, rfl⟩ := ih (fun z hz => hwf z (by simp [hz]))
      exact ⟨y :: x, rfl⟩
  have e1 : (x.map ub).map (Value.int .u8) = x.map fun b => Value.int .u8 (b.toNat : Int) := by rw [List.map_map]; rfl
  have e2 : ((x.map ub).map fun z => (DataW.lit (.int .u8 z) : DataW H)) = x.map fun y => .lit (.int .u8 (ub y)) := by rw [List.map_map]; rfl
  refine ⟨x, by simpa using hl, by rw [e1]; rfl, by rw [e2], rfl, fun W' b sp hd => ?_⟩
  have := shut_arr (enc := enc) (w := W') (base := b) (spare := sp) (held := hd) Tryd.underlying23 Tryd.underlying5 cells5 cells22 (x.map ub) hl hwf
  rw [e1, e2] at this
  exact this
end
end Go.Proofs.YtmfnjjkbfabonaaDoor
