/-
  The reference's Pulses of layer 18. Conditions: right steps, up to 2^20 bits; what the reference's Count answers.
-/
import Derived.Test.YtoohahjmiljpgaaQS7
import Derived.Test.YtoohahjmiljpgaaQS11
import Derived.Deep.WholeRow
import Derived.Deep.QuietTactic
import Derived.BigQuiet
namespace Go.Proofs.Ytoohahjmiljpgaa
open Go.RowKit
open M
def e13z : List Int := List.replicate 13 0
theorem e8_info : (Try.prog.info? 23).map (fun i => (i.zero, i.size)) = some (some (.agg (iCells e8z)), 8) := by kernel_rfl
theorem e13_info : (Try.prog.info? 82).map (fun i => (i.zero, i.size)) = some (some (.agg (iCells e13z)), 13) := by kernel_rfl
theorem e8_zero (w : World) : (zeroValue 23).run Try.prog w = .ok (.agg (iCells e8z)) w := (zero_of_info e8_info).1 w
theorem e13_zero (w : World) : (zeroValue 82).run Try.prog w = .ok (.agg (iCells e13z)) w := (zero_of_info e13_info).1 w
theorem e8_size (l : List Int) (h : l.length = 8) : (Try.prog.info? 23).map (·.size) = some (iCells l).size := by
  rw [iCells_size, h]; exact (zero_of_info e8_info).2
/-- Costs, as far as j. -/
def cl18 (j : Nat) : List Int := (List.range 13).map fun i => if i < j then (btc i : Int) else 0
theorem cl18_len (j : Nat) : (cl18 j).length = 13 := by simp [cl18]
theorem cl18_zero : cl18 0 = e13z := by decide
theorem cl18_set (j : Nat) : (cl18 j).set j (btc j : Int) = cl18 (j + 1) := by
  apply List.ext_getElem
  · simp [cl18]
  · intro i h1 h2
    simp only [cl18, List.getElem_set, List.getElem_map, List.getElem_range]
    by_cases e : j = i
    · subst e; rw [if_pos rfl, if_pos (by omega)]
    · rw [if_neg e]
      by_cases e2 : i < j
      · rw [if_pos e2, if_pos (by omega)]
      · rw [if_neg e2, if_neg (by omega)]
theorem cl18_at (i : Nat) (h : i < 13) : (cl18 13).getD i 0 = (btc i : Int) := by
  simp only [cl18, List.getD_eq_getElem?_getD, List.getElem?_map, List.getElem?_range h, Option.map_some, Option.getD_some]
  rw [if_pos h]
/-- Who is next, as a number: -1 of nobody. -/
def ob18 : Option Nat → Int
  | none => -1
  | some a => a
/-- What the cells of a list of eight hold together. -/
def ms18 (g : Nat) (w : World) : Nat := sum8 fun b => match w.cell? ⟨g, b, none⟩ with
  | some (.int _ z) => z.toNat
  | _ => 0
theorem ms18_row {w : World} {g : Nat} {t : TypeId} {k : Nat → Nat} (h : Row w g t (iCells (kl18 k))) : ms18 g w = sum8 k := by
  have hc : ∀ b, b < 8 → w.cell? ⟨g, b, none⟩ = some (.int .i64 (k b : Int)) := fun b hb => by
    rw [i_at h b (by rw [kl18_len]; exact hb), kl18_at k b hb]
  unfold ms18 sum8
  simp only [hc 0 (by omega), hc 1 (by omega), hc 2 (by omega), hc 3 (by omega), hc 4 (by omega), hc 5 (by omega), hc 6 (by omega), hc 7 (by omega), Int.toNat_natCast]
theorem sum_mor (k : Nat → Nat) (a : Nat) (ha : a < 8) : sum8 (mor k a) = sum8 k + 1 := sum8_mor k a ha id 1 rfl
theorem gvn_none (s : Nat → Int) (k : Nat → Nat) (l f : Nat) (h : bst s k l 8 = none) : (gvn s k l f).1 = k := by
  cases f with
  | zero => rfl
  | succ f => unfold gvn; rw [h]
theorem gvn_some (s : Nat → Int) (k : Nat → Nat) (l f a : Nat) (h : bst s k l 8 = some a) : gvn s k l (f + 1) = gvn s (mor k a) (l - inc (k a)) f := by
  conv => lhs; unfold gvn
  rw [h]
theorem bst_no (s : Nat → Int) (k : Nat → Nat) (l n : Nat) (h : cang k l n = false) : bst s k l (n + 1) = bst s k l n := by
  conv => lhs; unfold bst
  cases bst s k l n with
  | none => simp [h]
  | some a => simp [h]
theorem bst_first (s : Nat → Int) (k : Nat → Nat) (l n : Nat) (h : cang k l n = true) (hb : bst s k l n = none) : bst s k l (n + 1) = some n := by
  conv => lhs; unfold bst
  rw [hb]
  simp [h]
theorem bst_more (s : Nat → Int) (k : Nat → Nat) (l n a : Nat) (h : cang k l n = true) (hb : bst s k l n = some a) (hg : s a - k a < s n - k n) : bst s k l (n + 1) = some n := by
  conv => lhs; unfold bst
  rw [hb]
  simp [h, hg]
theorem bst_stay (s : Nat → Int) (k : Nat → Nat) (l n a : Nat) (hb : bst s k l n = some a) (hg : ¬ s a - k a < s n - k n) : bst s k l (n + 1) = some a := by
  conv => lhs; unfold bst
  rw [hb]
  simp only
  rw [if_neg (fun e => hg e.2)]
set_option maxRecDepth 100000 in
set_option maxHeartbeats 2000000 in
theorem rgive_any (HC : CtOk) (l : List Int) (n : Nat) (w : World) (hl : l.length = 8) (hr : ∀ j, j < 8 → 0 ≤ l.getD j 0 ∧ l.getD j 0 ≤ 15) (hn : n ≤ 1048576) :
    Calls Try.prog 17 #[.agg (iCells l), .int .i64 (n : Int)] w fun e w' => e = .returned (.agg (iCells (kl18 (giv (fun b => l.getD b 0) n)))) ∧ Below w.heap.size w w' := by
  have HL := Lib.hid hl
  have HRT := Lib.hid hr
  have HBT := Lib.hid fun k w hk => rbits_any HC k w hk
  have hz8 := e8_zero
  have hz13 := e13_zero
  have HR2 : Hid (Row (((w.alloc (.cells (iCells l) 23)).alloc (.cells (iCells e8z) 23)).alloc (.cells (iCells e13z) 82)) w.heap.size 23 (iCells l)) := Lib.hid ((Row.alloc (heap_alloc_new _ _) _).alloc _)
  have HR4 : Hid (Row (((w.alloc (.cells (iCells l) 23)).alloc (.cells (iCells e8z) 23)).alloc (.cells (iCells e13z) 82)) (w.heap.size + 1) 23 (iCells e8z)) := Lib.hid (Row.alloc (row_new _ _ (by simp) _ _) _)
  have HR5 : Hid (Row (((w.alloc (.cells (iCells l) 23)).alloc (.cells (iCells e8z) 23)).alloc (.cells (iCells e13z) 82)) (w.heap.size + 1 + 1) 82 (iCells e13z)) := Lib.hid (row_new _ _ (by simp) _ _)
  have HB : Hid (Below w.heap.size w (((w.alloc (.cells (iCells l) 23)).alloc (.cells (iCells e8z) 23)).alloc (.cells (iCells e13z) 82))) := Lib.hid ((((Below.refl _ _).alloc (Nat.le_refl _) _).alloc (by simp) _).alloc (by simp; omega) _)
  have hnI : (n : Int) ≤ 1048576 := by omega
  clear hl hr hn HC
  go_enter Try.func17, Try.ntmps17
  go_wp2_with fail
  generalize ((w.alloc (.cells (iCells l) 23)).alloc (.cells (iCells e8z) 23)).alloc (.cells (iCells e13z) 82) = w1 at *
  obtain ⟨g, hg⟩ : ∃ g, w.heap.size = g := ⟨_, rfl⟩
  have HG := Lib.hid fun _ : Unit => hg
  rw [hg] at HR2 HR4 HR5
  rw [hg]
  clear hg hz13
  go_loopw [6] (fun ii wr => ∃ (k : Nat), k ≤ 13 ∧ ii = .int .i64 k ∧ Row wr g 23 (iCells l) ∧ Row wr (g + 1) 23 (iCells e8z) ∧ Row wr (g + 1 + 1) 82 (iCells (cl18 k)) ∧ Below w.heap.size w wr) (fun ii _ => 13 - (intOf ii).toNat)
  case atStart => exact ⟨0, by omega, rfl, HR2.out, HR4.out, by rw [cl18_zero]; exact HR5.out, HB.out⟩
  case round =>
    clear HR2 HR4 HR5 HB
    obtain ⟨k, hk, rfl, hr2, hr4, hr5, hb⟩ := hrel
    have HR2 := Lib.hid hr2
    have HR4 := Lib.hid hr4
    have HR5 := Lib.hid hr5
    have HB := Lib.hid hb
    rcases Nat.lt_or_ge k 13 with hlt | hge
    · have hkI : (k : Int) < 13 := by omega
      have RB := Lib.hid fun w => HBT.out k w (by omega)
      have HK := Lib.hid hlt
      clear hk hlt hr2 hr4 hr5 hb
      go_wp2_with fail
      refine (RB.out _).mono ?_
      rintro e w2 ⟨rfl, hb⟩
      have HR2 := Lib.hid (HR2.out.box hb)
      have HR4 := Lib.hid (HR4.out.box hb)
      have HR5 := Lib.hid (HR5.out.box hb)
      have HB := Lib.hid (HB.out.trans (hb.mono HB.out.size))
      have c0 := i_at HR5.out k (by rw [cl18_len]; exact HK.out)
      have f0 := HR5.out.free k
      clear hb RB
      go_wp2_with fail
      go_roundw
      case rel => exact ⟨k + 1, HK.out, by go_num, HR2.out.far (p := ⟨g + 1 + 1, k, none⟩) (by simp; omega) _, HR4.out.far (p := ⟨g + 1 + 1, k, none⟩) (by simp) _, by rw [← cl18_set, ← iCells_set]; exact HR5.out.set k _, Below.setCell HB.out (p := ⟨g + 1 + 1, k, none⟩) (by have := HG.out (); simp only; omega) _⟩
      case measure =>
        have := HK.out
        simp [intOf] <;> omega
    · obtain rfl : k = 13 := by omega
      clear hk hge hr2 hr4 hr5 hb HBT
      go_wp2_with fail
      have HR7 : Hid (Row (wr.alloc (.cells (iCells e8z) 23)) wr.heap.size 23 (iCells e8z)) := Lib.hid (heap_alloc_new _ _)
      have HNE : Hid (g ≠ wr.heap.size ∧ g + 1 ≠ wr.heap.size ∧ g + 1 + 1 ≠ wr.heap.size ∧ g ≤ wr.heap.size) := Lib.hid (by
        have h1 := HR5.out.lt
        omega)
      have HR2 := Lib.hid (HR2.out.alloc (.cells (iCells e8z) 23))
      have HR4 := Lib.hid (HR4.out.alloc (.cells (iCells e8z) 23))
      have HR5 := Lib.hid (HR5.out.alloc (.cells (iCells e8z) 23))
      have HB := Lib.hid (HB.out.alloc HB.out.size (.cells (iCells e8z) 23))
      generalize wr.alloc (.cells (iCells e8z) 23) = w5 at *
      obtain ⟨g7, hg7⟩ : ∃ g, wr.heap.size = g := ⟨_, rfl⟩
      rw [hg7] at HR7 HNE ⊢
      clear hg7 hz8
      rw [show ((13 : Nat) : Int) = 13 from rfl]
      obtain ⟨S, hS⟩ : ∃ S : Nat → Int, (fun b => l.getD b 0) = S := ⟨_, rfl⟩
      have HSS := Lib.hid fun _ : Unit => hS
      have HSJ := Lib.hid (show ∀ j, j < 8 → l.getD j 0 = S j ∧ 0 ≤ S j ∧ S j ≤ 15 from fun j hj => by
        have h1 := HRT.out j hj
        have h2 : l.getD j 0 = S j := congrFun hS j
        rw [h2] at h1
        exact ⟨h2, h1⟩)
      clear hS
      go_loopw [1] (fun bb wr => ∃ (K : Nat → Nat) (lf f : Nat), bb = .int .i64 (lf : Int) ∧ lf ≤ n ∧ (gvn S K lf f).1 = giv S n ∧ 97 ≤ f + sum8 K ∧ (∀ b, b < 8 → K b ≤ 12) ∧ Row wr g 23 (iCells l) ∧ Row wr (g + 1) 23 (iCells e8z) ∧ Row wr (g + 1 + 1) 82 (iCells (cl18 13)) ∧ Row wr g7 23 (iCells (kl18 K)) ∧ Below w.heap.size w wr) (fun _ wr => 97 - ms18 g7 wr)
      case atStart => exact ⟨fun _ => 0, n, 97, rfl, Nat.le_refl _, rfl, by omega, fun b _ => Nat.zero_le _, HR2.out, HR4.out, HR5.out, by rw [kl18_zero]; exact HR7.out, HB.out⟩
      case round =>
        clear HR2 HR4 HR5 HR7 HB
        obtain ⟨K, lf, f, rfl, hlf, hgv, hf97, hK, hr2, hr4, hr5, hr7, hb⟩ := hrel
        have HMS := Lib.hid (ms18_row hr7)
        have HGV := Lib.hid hgv
        have HF := Lib.hid hf97
        have HK := Lib.hid hK
        have HLF := Lib.hid hlf
        have HR2 := Lib.hid hr2
        have HR4 := Lib.hid hr4
        have HR5 := Lib.hid hr5
        have HR7 := Lib.hid hr7
        have HB := Lib.hid hb
        have hlI : (lf : Int) ≤ 1048576 := by omega
        clear hlf hgv hf97 hK hr2 hr4 hr5 hr7 hb
        go_wp2_with fail
        go_loopw [8, 9] (fun bb ii wr => ∃ (k : Nat), k ≤ 8 ∧ ii = .int .i64 k ∧ bb = .int .i64 (ob18 (bst S K lf k)) ∧ Row wr g 23 (iCells l) ∧ Row wr (g + 1) 23 (iCells e8z) ∧ Row wr (g + 1 + 1) 82 (iCells (cl18 13)) ∧ Row wr g7 23 (iCells (kl18 K)) ∧ Below w.heap.size w wr) (fun _ ii _ => 8 - (intOf ii).toNat)
        case atStart => exact ⟨0, by omega, rfl, rfl, HR2.out, HR4.out, HR5.out, HR7.out, HB.out⟩
        case round =>
          clear HR2 HR4 HR5 HR7 HB
          obtain ⟨k, hk, rfl, rfl, hr2, hr4, hr5, hr7, hb⟩ := hrel
          have HR2 := Lib.hid hr2
          have HR4 := Lib.hid hr4
          have HR5 := Lib.hid hr5
          have HR7 := Lib.hid hr7
          have HB := Lib.hid hb
          rcases Nat.lt_or_ge k 8 with hlt | hge
          · have hkI : (k : Int) < 8 := by omega
            have c7 := i_at hr7 k (by rw [kl18_len]; exact hlt)
            rw [kl18_at K k hlt] at c7
            have hq12 := HK.out k hlt
            have HKK := Lib.hid hlt
            obtain ⟨hsk, hs0, hs15⟩ := HSJ.out k hlt
            have c2 := i_at hr2 k (by rw [HL.out]; exact hlt)
            rw [hsk] at c2
            clear hr2 hr4 hr7 hb hk hlt hsk
            obtain ⟨q, hq⟩ : ∃ q, K k = q := ⟨_, rfl⟩
            have HQ := Lib.hid fun _ : Unit => hq
            rw [hq] at c7 hq12
            by_cases hq1 : q < 12
            · have cq := i_at hr5 q (by rw [cl18_len]; omega)
              have cq1 := i_at hr5 (q + 1) (by rw [cl18_len]; omega)
              rw [cl18_at q (by omega)] at cq
              rw [cl18_at (q + 1) (by omega)] at cq1
              have hinc := btc_inc q hq1
              have hb1 := btc_bd q
              have hb2 := btc_bd (q + 1)
              have HCI := Lib.hid (cang_iff K lf k)
              obtain ⟨q1, hq1e⟩ : ∃ q1, q + 1 = q1 := ⟨_, rfl⟩
              rw [hq1e] at cq1 hinc hb2
              obtain ⟨u, hu⟩ : ∃ u, btc q = u := ⟨_, rfl⟩
              obtain ⟨v, hv⟩ : ∃ v, btc q1 = v := ⟨_, rfl⟩
              obtain ⟨ic, hic⟩ : ∃ ic, inc q = ic := ⟨_, rfl⟩
              rw [hu] at cq hinc hb1
              rw [hv] at cq1 hinc hb2
              rw [hic] at hinc
              have e1 : IntKind.i64.wrap ((q : Int) + 1) = (q1 : Int) := by rw [IntKind.wrap_i64]; omega
              have e2 : IntKind.i64.wrap ((v : Int) - (u : Int)) = (ic : Int) := by rw [hinc, IntKind.wrap_i64]; omega
              have hqI : (q : Int) < 12 := by omega
              have hqd : decide ((q : Int) < 12) = true := decide_eq_true hqI
              have hq13 : (q : Int) < 13 := by omega
              have hq113 : (q1 : Int) < 13 := by omega
              have HIC := Lib.hid (show ic = inc (K k) by rw [hq, hic])
              have HQ12 := Lib.hid (show K k < 12 by omega)
              clear hq hq1e hu hv hic hinc hb1 hb2 hr5 hq12 hq1
              by_cases hcan : ic ≤ lf
              · have HC := Lib.hid (show cang K lf k = true from HCI.out.2 ⟨HQ12.out, by rw [← HIC.out]; exact hcan⟩)
                have hcd : decide (ic ≤ lf) = true := decide_eq_true hcan
                clear hcan
                cases hbs : bst S K lf k with
                | none =>
                  have HN := Lib.hid (bst_first S K lf k HC.out hbs)
                  have hneg : decide ((-1 : Int) < 0) = true := by decide
                  rw [show ob18 none = -1 from rfl]
                  clear hbs
                  go_wp2_with fail
                  go_big_quiet (fail)
                  go_wp2_with fail
                  go_roundw
                  case rel => exact ⟨k + 1, HKK.out, by go_num, by rw [HN.out]; rfl, Row.drewN HR2.out _, Row.drewN HR4.out _, Row.drewN HR5.out _, Row.drewN HR7.out _, Below.drewN HB.out _⟩
                  case measure =>
                    have := HKK.out
                    simp [intOf] <;> omega
                | some a =>
                  have ha := bst_lt S K lf k a hbs
                  have hk8 := HKK.out
                  have d2 := i_at HR2.out a (by rw [HL.out]; omega)
                  have d7 := i_at HR7.out a (by rw [kl18_len]; omega)
                  obtain ⟨hsa, ha0, ha15⟩ := HSJ.out a (by omega)
                  have hka := HK.out a (by omega)
                  rw [hsa] at d2
                  rw [kl18_at K a (by omega)] at d7
                  have haI : (a : Int) < 8 := by omega
                  have hna : decide ((a : Int) < 0) = false := decide_eq_false (by omega)
                  have hq12 := HQ12.out
                  have hqq := HQ.out ()
                  rw [hqq] at hq12
                  obtain ⟨p1, hp1⟩ : ∃ p1, S k - (q : Int) = p1 := ⟨_, rfl⟩
                  obtain ⟨p2, hp2⟩ : ∃ p2, S a - (K a : Int) = p2 := ⟨_, rfl⟩
                  have e3 : IntKind.i64.wrap (S k - (q : Int)) = p1 := by rw [hp1, IntKind.wrap_i64]; omega
                  have e4 : IntKind.i64.wrap (S a - (K a : Int)) = p2 := by rw [hp2, IntKind.wrap_i64]; omega
                  have HP := Lib.hid (show S k - (K k : Int) = p1 by rw [hqq, hp1])
                  have HP2 := Lib.hid hp2
                  have HBS := Lib.hid hbs
                  rw [show ob18 (some a) = (a : Int) from rfl]
                  clear hbs ha hk8 hsa hqq hp1 hp2 hq12
                  obtain ⟨ka, hkae⟩ : ∃ ka, K a = ka := ⟨_, rfl⟩
                  rw [hkae] at d7 e4 hka
                  clear hkae
                  by_cases hgt : p2 < p1
                  · have HN := Lib.hid (bst_more S K lf k a HC.out HBS.out (by rw [HP.out, HP2.out]; exact hgt))
                    have hgd : decide (p2 < p1) = true := decide_eq_true hgt
                    clear hgt
                    go_wp2_with fail
                    go_big_quiet (fail)
                    go_wp2_with fail
                    go_roundw
                    case rel => exact ⟨k + 1, HKK.out, by go_num, by rw [HN.out]; rfl, Row.drewN HR2.out _, Row.drewN HR4.out _, Row.drewN HR5.out _, Row.drewN HR7.out _, Below.drewN HB.out _⟩
                    case measure =>
                      have := HKK.out
                      simp [intOf] <;> omega
                  · have HN := Lib.hid (bst_stay S K lf k a HBS.out (by rw [HP.out, HP2.out]; exact hgt))
                    have hgd : decide (p2 < p1) = false := decide_eq_false hgt
                    clear hgt
                    go_wp2_with fail
                    go_big_quiet (fail)
                    go_wp2_with fail
                    go_roundw
                    case rel => exact ⟨k + 1, HKK.out, by go_num, by rw [HN.out]; rfl, Row.drewN HR2.out _, Row.drewN HR4.out _, Row.drewN HR5.out _, Row.drewN HR7.out _, Below.drewN HB.out _⟩
                    case measure =>
                      have := HKK.out
                      simp [intOf] <;> omega
              · have HN := Lib.hid (bst_no S K lf k (by
                  cases hc : cang K lf k with
                  | false => rfl
                  | true => exact absurd (by rw [HIC.out]; exact (HCI.out.1 hc).2) hcan))
                have hcd : decide (ic ≤ lf) = false := decide_eq_false hcan
                obtain ⟨z, hz⟩ : ∃ z, ob18 (bst S K lf k) = z := ⟨_, rfl⟩
                have HZ := Lib.hid fun _ : Unit => hz
                rw [hz]
                clear hcan hz
                go_wp2_with fail
                go_big_quiet (fail)
                go_wp2_with fail
                go_roundw
                case rel => exact ⟨k + 1, HKK.out, by go_num, by rw [HN.out, HZ.out ()], Row.drewN HR2.out _, Row.drewN HR4.out _, Row.drewN HR5.out _, Row.drewN HR7.out _, Below.drewN HB.out _⟩
                case measure =>
                  have := HKK.out
                  simp [intOf] <;> omega
            · have HN := Lib.hid (bst_no S K lf k (by
                  cases hc : cang K lf k with
                  | false => rfl
                  | true => exact absurd (by rw [← HQ.out ()]; exact ((cang_iff K lf k).1 hc).1) hq1))
              have hqd : decide ((q : Int) < 12) = false := decide_eq_false (by omega)
              obtain ⟨z, hz⟩ : ∃ z, ob18 (bst S K lf k) = z := ⟨_, rfl⟩
              have HZ := Lib.hid fun _ : Unit => hz
              rw [hz]
              clear hq1 hz hr5 hq12 hq
              go_wp2_with fail
              go_big_quiet (fail)
              go_wp2_with fail
              go_roundw
              case rel => exact ⟨k + 1, HKK.out, by go_num, by rw [HN.out, HZ.out ()], Row.drewN HR2.out _, Row.drewN HR4.out _, Row.drewN HR5.out _, Row.drewN HR7.out _, Below.drewN HB.out _⟩
              case measure =>
                have := HKK.out
                simp [intOf] <;> omega
          · obtain rfl : k = 8 := by omega
            have HMS2 := Lib.hid (ms18_row hr7)
            clear hk hge hr2 hr4 hr5 hr7 hb
            cases hbs : bst S K lf 8 with
            | none =>
              rw [show ob18 none = -1 from rfl]
              have HBS := Lib.hid hbs
              have HSK := Lib.hid (e8_size (kl18 K) (kl18_len K))
              have HSE := Lib.hid (show (iCells e8z).size = (iCells (kl18 K)).size by rw [iCells_size, iCells_size, kl18_len]; rfl)
              clear hbs
              go_wp2_with (first
                | (refine wpList_load_row rfl 23 (.tmp 7) rfl g7 rfl 23 (iCells (kl18 K)) (0, 0) _ HR7.out Try.underlying23 rfl HSK.out ?_)
                | (refine wpList_store_row rfl 23 (.tmp 4) (.tmp 66) rfl (g + 1) (iCells (kl18 K)) rfl rfl 23 (iCells e8z) HR4.out HSK.out HSE.out (iCells_one _) ?_))
              refine bodyPost_ret (v := .agg (iCells (kl18 K))) (results_cell_row Try.results17 _ _ (g + 1) 23 (iCells (kl18 K)) (0, 0) _ rfl (Row.setRow HR4.out _) Try.underlying23 rfl HSK.out) rfl ⟨?_, below_setRow HB.out (by have := HG.out (); omega) _⟩
              have h1 := HGV.out
              rw [gvn_none S K lf f HBS.out] at h1
              rw [HSS.out (), ← h1]
            | some a =>
              have hbo := bst_some S K lf 8 a hbs
              have HA := Lib.hid hbo.1
              have hcg := (cang_iff K lf a).1 hbo.2.1
              have d7 := i_at HR7.out a (by rw [kl18_len]; exact hbo.1)
              rw [kl18_at K a hbo.1] at d7
              have haI : (a : Int) < 8 := by have := hbo.1; omega
              have hna : decide ((a : Int) < 0) = false := decide_eq_false (by omega)
              obtain ⟨ka, hka⟩ : ∃ ka, K a = ka := ⟨_, rfl⟩
              have HKA := Lib.hid hka
              rw [hka] at d7 hcg
              have HCG := Lib.hid hcg
              obtain ⟨hk12, hil⟩ := hcg
              have cq := i_at HR5.out ka (by rw [cl18_len]; omega)
              have cq1 := i_at HR5.out (ka + 1) (by rw [cl18_len]; omega)
              rw [cl18_at ka (by omega)] at cq
              rw [cl18_at (ka + 1) (by omega)] at cq1
              have hinc := btc_inc ka hk12
              have hb1 := btc_bd ka
              have hb2 := btc_bd (ka + 1)
              obtain ⟨q1, hq1e⟩ : ∃ q1, ka + 1 = q1 := ⟨_, rfl⟩
              have HQ1 := Lib.hid fun _ : Unit => hq1e
              rw [hq1e] at cq1 hinc hb2
              obtain ⟨u, hu⟩ : ∃ u, btc ka = u := ⟨_, rfl⟩
              obtain ⟨v, hv⟩ : ∃ v, btc q1 = v := ⟨_, rfl⟩
              obtain ⟨lfn, hlfn⟩ : ∃ m, lf - inc ka = m := ⟨_, rfl⟩
              have HLN := Lib.hid fun _ : Unit => hlfn
              rw [hu] at cq hinc hb1
              rw [hv] at cq1 hinc hb2
              obtain ⟨tt, htt⟩ : ∃ tt, (lf : Int) - (v : Int) = tt := ⟨_, rfl⟩
              have e1 : IntKind.i64.wrap ((ka : Int) + 1) = (q1 : Int) := by rw [IntKind.wrap_i64]; omega
              have e2 : IntKind.i64.wrap ((lf : Int) - (v : Int)) = tt := by rw [htt, IntKind.wrap_i64]; omega
              have e3 : IntKind.i64.wrap (tt + (u : Int)) = (lfn : Int) := by rw [IntKind.wrap_i64]; omega
              have hq13 : (ka : Int) < 13 := by omega
              have hq113 : (q1 : Int) < 13 := by omega
              have HBS := Lib.hid hbs
              rw [show ob18 (some a) = (a : Int) from rfl]
              clear hbs hbo hka hk12 hil hinc hb1 hb2 hq1e hu hv hlfn htt
              go_wp2_with fail
              go_big_quiet (fail)
              have HR2 := Lib.hid (Row.drewN HR2.out nq)
              have HR4 := Lib.hid (Row.drewN HR4.out nq)
              have HR5 := Lib.hid (Row.drewN HR5.out nq)
              have HR7 := Lib.hid (Row.drewN HR7.out nq)
              have HB := Lib.hid (Below.drewN HB.out nq)
              clear d7 cq cq1
              generalize wr.drewN nq = w9 at *
              have d7 := i_at HR7.out a (by rw [kl18_len]; exact HA.out)
              rw [kl18_at K a HA.out, HKA.out] at d7
              have f7 := HR7.out.free a
              have HROW := Lib.hid (show Row (w9.setCell ⟨g7, a, none⟩ (.int .i64 (q1 : Int))) g7 23 (iCells (kl18 (mor K a))) by
                have h := HR7.out.set a (.int .i64 (q1 : Int))
                rw [iCells_set, ← HQ1.out (), ← HKA.out, kl18_set] at h
                rw [← HQ1.out (), ← HKA.out]
                exact h)
              have HSM := Lib.hid (sum_mor K a HA.out)
              have HS96 := Lib.hid (sum8_le K HK.out)
              go_wp2_with fail
              go_roundw
              case rel =>
                obtain ⟨f2, rfl⟩ : ∃ f2, f = f2 + 1 := ⟨f - 1, by have h1 := HF.out; have h2 := HS96.out; omega⟩
                refine ⟨mor K a, lfn, f2, rfl, ?_, ?_, ?_, ?_, HR2.out.far (p := ⟨g7, a, none⟩) HNE.out.1 _, HR4.out.far (p := ⟨g7, a, none⟩) HNE.out.2.1 _, HR5.out.far (p := ⟨g7, a, none⟩) HNE.out.2.2.1 _, HROW.out, Below.setCell HB.out (p := ⟨g7, a, none⟩) (by have h1 := HG.out (); have h2 := HNE.out.2.2.2; simp only; omega) _⟩
                · have h1 := HLN.out ()
                  have h2 := HLF.out
                  omega
                · have h1 := gvn_some S K lf f2 a HBS.out
                  rw [HKA.out, HLN.out ()] at h1
                  rw [← h1]
                  exact HGV.out
                · have h1 := HF.out
                  have h2 := HSM.out
                  omega
                · intro b hb
                  unfold mor
                  have h1 := HK.out b hb
                  have h2 := HCG.out.1
                  have h3 := HKA.out
                  split
                  · subst b
                    omega
                  · exact h1
              case measure =>
                rw [ms18_row HROW.out, HMS.out, HSM.out]
                have := HS96.out
                omega
end Go.Proofs.Ytoohahjmiljpgaa
