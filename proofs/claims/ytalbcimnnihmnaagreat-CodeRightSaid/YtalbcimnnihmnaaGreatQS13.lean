/-
  Contracts and plain facts that the laws share; each piece is headed by what it holds and its conditions.
-/
import Derived.Test.YtalbcimnnihmnaaGreatQS11
import Derived.Test.YtalbcimnnihmnaaGreatQS12
import Derived.Test.YtalbcimnnihmnaaGreatQS7
import Derived.Test.YtalbcimnnihmnaaGreatQS5
import Derived.Test.YtalbcimnnihmnaaGreatQS9
import Derived.Test.YtalbcimnnihmnaaGreatQS10
import Derived.Deep.WholeRow
import Derived.Lib.QuietBelow
import Derived.StillTailTactics
import Derived.Deep.Cut

/- pvq's Pulses. Conditions: lists of numbers as they lie. -/
namespace Go.Proofs.YtalbcimnnihmnaaGreat
open Go.RowKit
open M
set_option maxRecDepth 100000 in
theorem pulses_any (l : List Int) (v : Value) (w : World) (hv : IntsAt w v l) (hl : l.length ≤ maxLen) :
    Calls Tryz.prog 10 #[v] w fun e w' => e = .returned (.int .i64 (pu13 l : Nat)) ∧ w' = w := by
  obtain ⟨a, cap, rfl, hcell⟩ := hv
  have HLO := Lib.hid (pu_long l)
  have HIN := Lib.hid (pu_in l)
  have HFAR := Lib.hid (pu_far l)
  have HTK := Lib.hid (pl_take l)
  have HFU : Hid (pl13 (l.take l.length) = pl13 l) := Lib.hid (by rw [List.take_length])
  have hLB : (l.length : Int) ≤ 9223372036854775807 := by unfold maxLen at hl; omega
  obtain ⟨L, hL⟩ : ∃ L, l.length = L := ⟨_, rfl⟩
  rw [hL] at hcell HLO HIN HFAR HTK HFU hLB ⊢
  clear hL hl
  obtain ⟨p, hp⟩ : ∃ p, pu13 l = p := ⟨_, rfl⟩
  rw [hp] at HLO HIN HFAR ⊢
  clear hp
  by_cases h8 : 8 < L
  · obtain rfl := HLO.out h8
    clear hcell HLO HIN HFAR HTK HFU
    go_enter Tryz.func10, Tryz.ntmps10
    go_wp2
    go_ret
    exact ⟨rfl, rfl⟩
  · have HP := Lib.hid (HIN.out (by omega))
    clear HLO HIN
    have h8I : ¬ (8 : Int) < (L : Int) := by omega
    go_enter Tryz.func10, Tryz.ntmps10
    go_wp2
    go_loop [3, 11] (fun s i => ∃ k q : Nat, k ≤ L ∧ i = .int .i64 k ∧ s = .int .i64 q ∧ q = pl13 (l.take k) ∧ q ≤ 12 * k) (fun _ i => L - (intOf i).toNat)
    case atStart => exact ⟨0, 0, by omega, rfl, rfl, rfl, by omega⟩
    case round =>
      obtain ⟨k, q, hk, rfl, rfl, hq, hqb⟩ := hrel
      rcases Nat.lt_or_ge k L with hlt | hge
      · obtain ⟨b, off, rfl, hbs, hcs⟩ := hcell (by omega)
        have c0 := hcs k hlt
        have HF := Lib.hid (HFAR.out k hlt)
        have HT := Lib.hid (HTK.out k hlt)
        have HQ := Lib.hid hq
        have hL8 : L ≤ 8 := by omega
        clear hcs hcell hbs hq
        obtain ⟨x, hx⟩ : ∃ x, l.getD k 0 = x := ⟨_, rfl⟩
        rw [hx] at c0 HF HT
        clear hx
        by_cases h1 : x < -12
        · obtain rfl := HF.out (Or.inl h1)
          clear HF HT HFAR HTK HFU HP HQ
          go_wp2
          go_ret
          exact ⟨rfl, rfl⟩
        · by_cases h2 : x > 12
          · obtain rfl := HF.out (Or.inr h2)
            clear HF HT HFAR HTK HFU HP HQ
            go_wp2
            go_ret
            exact ⟨rfl, rfl⟩
          · have hwa : wrap64 ((q : Int) + (x.natAbs : Int)) = ((q + x.natAbs : Nat) : Int) := by rw [wrap64]; omega
            have hna : x.natAbs ≤ 12 := by omega
            clear HF HFAR
            go_wp2_with fail
            refine (size_any x w (by omega) (by omega)).mono ?_
            rintro e w1 ⟨rfl, rfl⟩
            go_wp2_with fail
            have hkk : wrap64 ((k : Int) + 1) = ((k + 1 : Nat) : Int) := by rw [wrap64]; omega
            go_round
            case rel => exact ⟨k + 1, q + x.natAbs, hlt, by go_num, by go_num, by rw [HT.out, ← HQ.out], by omega⟩
            case measure => simp [intOf] <;> omega
      · obtain rfl : k = L := by omega
        have HQ := Lib.hid (hq.trans HFU.out)
        clear hcell hq HFU HTK HFAR
        by_cases h3 : 13 < q
        · go_wp2
          go_ret
          exact ⟨by rw [HP.out, ← HQ.out]; exact ret_eq (by omega), rfl⟩
        · go_wp2
          go_ret
          exact ⟨by rw [HP.out, ← HQ.out]; exact ret_eq (by omega), rfl⟩
end Go.Proofs.YtalbcimnnihmnaaGreat

/- A shape's band as a list, and how many pulses it has, as the program's Pulses tells. Conditions: 12 pulses at most. -/
namespace Go.Proofs.YtalbcimnnihmnaaGreat
open Go.RowKit
open M
theorem pts_ints {w : World} {g : Nat} {t : TypeId} {S : List Int} (hr : Row w g t (iCells S)) (hS : S.length = 40) (b : Nat) (hb : b < 8) : IntsAt w (.slice (some ⟨g, 8 + b * 4, none⟩) 4 4) (sys S b) := by
  refine ⟨_, 4, rfl, fun _ => ⟨g, 8 + b * 4, rfl, Row.lt hr, fun i hi => ?_⟩⟩
  have h4 : i < 4 := hi
  rw [i_at hr (8 + b * 4 + i) (by omega)]
  unfold sys
  rw [pto_getD _ _ _ _ h4]
theorem pulses_sys {w : World} {g : Nat} {t : TypeId} {S : List Int} (hr : Row w g t (iCells S)) (hS : S.length = 40) (b k : Nat) (hb : b < 8) (hk : pl13 (sys S b) = k) (h12 : k ≤ 12) :
    Calls Tryz.prog 10 #[.slice (some ⟨g, 8 + b * 4, none⟩) 4 4] w fun e w' => e = .returned (.int .i64 (k : Int)) ∧ w' = w := by
  have h := pulses_any (sys S b) _ w (pts_ints hr hS b hb) (by show 4 ≤ maxLen; unfold maxLen; omega)
  have e : pu13 (sys S b) = k := by
    rw [pu_in (sys S b) (show 4 ≤ 8 by decide), hk]
    omega
  rw [e] at h
  exact h
end Go.Proofs.YtalbcimnnihmnaaGreat

/- Whole arrays that are read, in statements that draw their order and in guarded operations. No program is named here. No conditions. -/
namespace Go.Proofs.YtalbcimnnihmnaaGreat
open Go.RowKit
open M
/-- A whole array is read in a statement that draws its order and changes nothing that was there. -/
theorem q_load_row {P : Program} {C : World → Prop} {a : Act} {o : Oper} {K : Act → Prop} (ty : TypeId) (x : Operand) (ho : o.op = .load ty x) (g : Nat) (hx : a.eval x = .pointer (some ⟨g, 0, none⟩)) (t : TypeId) (cs : Array Value) (fr : Nat × Nat) (d : TypeDesc)
    (hC : ∀ w, C w → w.heap[g]? = some (.cells cs t fr)) (hu : P.underlying ty = some d) (hd : (match d with | .struct _ | .array _ _ => true | _ => false) = true) (hi : (P.info? ty).map (·.size) = some cs.size)
    (hk : K (a.put o.dst (.agg cs))) : o.quiet P a C K :=
  ⟨_, fun w hw => by
    unfold Oper.quietAt execOp
    simp only [ho, hx, Instr.loadAt, Instr.sureAddr, Sem.run_bind, Sem.run_pure, Result.andThen_ok, run_loadVar_row w g t ty cs fr d (hC w hw) hu hd hi]
    exact ⟨rfl, rfl⟩, hk⟩
/-- A whole array is read in a guarded operation whose turn it is. -/
theorem g_load_row {P : Program} {ops : Array Oper} {rest : List Oper} {o : Oper} {a : Act} {w : World} {Q : Exit → Act → World → Prop} (hw : Region.wanted o (yielded ops a.tmps) = true) (ty : TypeId) (x : Operand) (ho : o.op = .load ty x)
    (g : Nat) (hx : a.eval x = .pointer (some ⟨g, 0, none⟩)) (t : TypeId) (cs : Array Value) (fr : Nat × Nat) (d : TypeDesc) (hg : w.heap[g]? = some (.cells cs t fr))
    (hu : P.underlying ty = some d) (hd : (match d with | .struct _ | .array _ _ => true | _ => false) = true) (hi : (P.info? ty).map (·.size) = some cs.size)
    (h : wpList P ops Q rest (a.put o.dst (.agg cs)) w) : wpList P ops Q (o :: rest) a w := by
  unfold wpList
  rw [if_pos hw]
  exact Or.inl (wp_load_row ty x ho g hx t cs fr d hg hu hd hi h)
end Go.Proofs.YtalbcimnnihmnaaGreat

/- Layer 20's laws, what they share: what code's functions are to answer (as conditions), frames by value, a band's pulses as a slice, awake. Conditions: what code's Shape and give's Bits answer. -/
namespace Go.Proofs.YtalbcimnnihmnaaGreat
open Go.RowKit
open M
def ShaOk : Prop := ∀ (f : List Int) (z : Int) (w : World), f.length = 32 → Calls Tryz.prog 5 #[.agg (iCells f), .int .i64 z] w fun e w' => e = .returned (.tuple #[.agg (iCells (shI f z)), .int .i64 (shE z)]) ∧ Below w.heap.size w w'
theorem side_8n : (Tryz.prog.info? 25).map (·.size) = some 8 := by kernel_rfl
theorem aw20_k : (List.range 8).map (kk20 (cg20 z20) 32) = [2, 2, 2, 2, 1, 1, 1, 1] := by decide +kernel
theorem aw20_s : pto (sh20 z20 32) 0 8 = zs8 := by
  have h : sds (sh20 z20 32) = zs8 := by
    rw [sds_sh]
    decide +kernel
  exact h
/-- So many pulses in the first b bands. -/
def su20 (b : Nat) : Nat := (([2, 2, 2, 2, 1, 1, 1, 1] : List Nat).take b).sum
set_option maxRecDepth 100000 in
set_option maxHeartbeats 1000000 in
theorem awake20_any (HS : ShaOk) (HZ : BizOk) (w : World) : Calls Tryz.prog 4 #[] w fun e w' => e = .returned (.bool true) ∧ Below w.heap.size w w' := by
  have HSH : Hid (∀ w, Calls Tryz.prog 5 #[.agg (iCells z20), .int .i64 12] w fun e w' => e = .returned (.tuple #[.agg (iCells (sh20 z20 32)), .int .i64 0]) ∧ Below w.heap.size w w') := Lib.hid fun w => HS z20 12 w z20_len
  have HBZ : Hid (∀ w, Calls Tryz.prog 11 #[.int .i64 12] w fun e w' => e = .returned (.int .i64 32) ∧ Below w.heap.size w w') := Lib.hid fun w => HZ 12 w
  have HPK : Hid (∀ b, b < 8 → ∃ k : Nat, pl13 (sys (sh20 z20 32) b) = k ∧ k ≤ 12 ∧ su20 (b + 1) = su20 b + k ∧ su20 (b + 1) ≤ 12) := Lib.hid fun b hb => by
    have e : kk20 (cg20 z20) 32 b = ([2, 2, 2, 2, 1, 1, 1, 1] : List Nat).getD b 0 := by
      rw [← aw20_k, List.getD_eq_getElem?_getD, List.getElem?_map, List.getElem?_range hb]
      rfl
    refine ⟨_, pl_sh z20 32 b hb, kk_le _ _ _ hb, ?_⟩
    rw [e]
    rcases (show b = 0 ∨ b = 1 ∨ b = 2 ∨ b = 3 ∨ b = 4 ∨ b = 5 ∨ b = 6 ∨ b = 7 by omega) with rfl | rfl | rfl | rfl | rfl | rfl | rfl | rfl <;> decide
  have hsl := sh20_len z20 32
  have hpt := aw20_s
  obtain ⟨S, hS⟩ : ∃ S, sh20 z20 32 = S := ⟨_, rfl⟩
  rw [hS] at HSH HPK hsl hpt
  have HSL := Lib.hid hsl
  have HSZ := Lib.hid (s40_size S hsl)
  have HSX := Lib.hid (s40_same z40 S z40_length hsl)
  have HPT := Lib.hid hpt
  have hz := fra_zero
  have hz2 := s40_zero
  have hz3 := sds_zero
  have HEQ : Hid (∀ w, (Op.equalIn 10000 25 (.agg (iCells zs8)) (.agg (iCells zs8))).run Tryz.prog w = .ok true w) := Lib.hid fun w => by
    have := sds_eq zs8 zs8 zs8_length zs8_length w
    rw [beq_self_eq_true] at this
    exact this
  have HB : Hid (Below w.heap.size w w) := Lib.hid (Below.refl _ _)
  clear hS hsl hpt
  go_enter Tryz.func4, Tryz.ntmps4
  go_wp2_with fail
  refine (HSH.out _).mono ?_
  rintro e w2 ⟨rfl, hb⟩
  have HB := Lib.hid (HB.out.trans (hb.mono HB.out.size))
  clear hb
  have HN : Hid (Row (w2.alloc (.cells (iCells z40) 30)) w2.heap.size 30 (iCells z40)) := Lib.hid (heap_alloc_new _ _)
  go_upto_region 2 with (refine wpList_store_row rfl 30 (.tmp 1) (.tmp 8) rfl w2.heap.size (iCells S) rfl rfl 30 (iCells z40) HN.out HSZ.out HSX.out (iCells_one _) ?_)
  have HB := Lib.hid (below_laid HB.out (.cells (iCells z40) 30) (iCells S))
  have HR := Lib.hid (Row.setRow HN.out (iCells S))
  generalize (w2.alloc (.cells (iCells z40) 30)).setRow w2.heap.size (iCells S) = w3 at *
  obtain ⟨g, hg⟩ : ∃ g, w2.heap.size = g := ⟨_, rfl⟩
  rw [hg] at HR ⊢
  clear hg HN
  go_wp2_with fail
  go_loop [3, 4] (fun nn bb => ∃ (b s : Nat), b ≤ 8 ∧ bb = .int .i64 (b : Int) ∧ nn = .int .i64 (s : Int) ∧ s = su20 b ∧ s ≤ 12) (fun _ bb => 8 - (intOf bb).toNat)
  case atStart => exact ⟨0, 0, by omega, rfl, rfl, rfl, by omega⟩
  case round =>
    obtain ⟨b, s, hb8, rfl, rfl, hs, hs12⟩ := hrel
    rcases Nat.lt_or_ge b 8 with hlt | hge
    · obtain ⟨k, hk, hk12, hst, hsb⟩ := HPK.out b hlt
      have HPU := Lib.hid (pulses_sys HR.out HSL.out b k hlt hk hk12)
      have HI := Lib.hid hlt
      have hbI : (b : Int) < 8 := by omega
      have hsI : (s : Int) ≤ 12 := by omega
      have hkI : (k : Int) ≤ 12 := by omega
      have HST := Lib.hid (show s + k = su20 (b + 1) by rw [hst, hs])
      have HSB := Lib.hid (show s + k ≤ 12 by rw [hs, ← hst]; exact hsb)
      clear hb8 hlt hk hk12 hst hs hs12 hsb
      go_wp2_with fail
      refine HPU.out.mono ?_
      rintro e w5 ⟨rfl, rfl⟩
      go_wp2_with fail
      go_round
      case rel => exact ⟨b + 1, s + k, HI.out, by go_num, by go_num, HST.out, HSB.out⟩
      case measure =>
        have := HI.out
        simp [intOf] <;> omega
    · obtain rfl : b = 8 := by omega
      obtain rfl : s = 12 := by rw [hs]; decide
      have hEQ := HEQ.out
      clear hb8 hge hs hs12
      go_wp2_with (refine g_load_pto (by rfl) 25 (.tmp 24) rfl g 0 8 rfl 30 S _ HR.out (by rw [HSL.out]; decide) Tryz.underlying25 rfl side_8n ?_; rw [HPT.out])
      refine (HBZ.out _).mono ?_
      rintro e w6 ⟨rfl, hb⟩
      have HB := Lib.hid (HB.out.trans (hb.mono HB.out.size))
      clear hb
      go_wp2_with fail
      go_ret
      exact ⟨rfl, HB.out⟩
/-- What Coefs answers. -/
def CofOk : Prop := ∀ (l : List Int) (w : World), l.length = 40 → Calls Tryz.prog 9 #[.agg (iCells l)] w fun e w' => e = .returned (.agg (iCells (cf20 l))) ∧ Below w.heap.size w w'
end Go.Proofs.YtalbcimnnihmnaaGreat
