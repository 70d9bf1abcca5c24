/-
  Contracts and plain facts that the laws share; each piece is headed by what it holds and its conditions.
-/
import Derived.Test.YtoohahjmiljpgaaQS4
import Derived.Test.YtoohahjmiljpgaaQS2
import Derived.Test.YtoohahjmiljpgaaQS15
import Derived.Test.YtoohahjmiljpgaaQS16
import Derived.Test.YtoohahjmiljpgaaQS17
import Derived.Test.YtoohahjmiljpgaaQRfe
import Derived.Test.YtoohahjmiljpgaaQS11
import Derived.Deep.WholeRow
import Derived.Deep.QuietTactic
import Derived.BigQuiet
import Derived.Lib.QuietBelow

/- Plain facts of layer 18: bands on the way to their pulses, in a heap; what its first one tells of who is next. No program is named here. No conditions but those that each fact names. -/
namespace Go.Proofs.Ytoohahjmiljpgaa.M
/-- A band on the way: which one, its step, how many pulses it has. -/
def fk18 (p : Nat × Int × Nat) : Int × Nat := ((p.2.2 : Int) - p.2.1, p.1)
def lt18 (p q : Nat × Int × Nat) : Bool := ltE (fk18 p) (fk18 q)
theorem lt18_ls : Ls lt18 := ⟨fun _ _ h => ltE_ls.1 _ _ h, fun _ _ _ h k => ltE_ls.2 _ _ _ h k⟩
theorem lt18_ne (p q : Nat × Int × Nat) (h : p.2.1 - (p.2.2 : Int) ≠ q.2.1 - (q.2.2 : Int)) : lt18 p q = decide (p.2.1 - (p.2.2 : Int) > q.2.1 - (q.2.2 : Int)) := by
  unfold lt18 ltE fk18
  simp only
  congr 1
  simp only [eq_iff_iff]
  omega
theorem lt18_eq (p q : Nat × Int × Nat) (h : p.2.1 - (p.2.2 : Int) = q.2.1 - (q.2.2 : Int)) : lt18 p q = decide (p.1 < q.1) := by
  unfold lt18 ltE fk18
  simp only
  congr 1
  simp only [eq_iff_iff]
  omega
theorem lt18_false (p q : Nat × Int × Nat) : lt18 p q = false ↔ ¬ (p.2.1 - (p.2.2 : Int) > q.2.1 - (q.2.2 : Int) ∨ (p.2.1 - (p.2.2 : Int) = q.2.1 - (q.2.2 : Int) ∧ p.1 < q.1)) := by
  unfold lt18 fk18
  rw [ltE_false]
  simp only
  omega
/-- Which bands are in the heap, as far as pulses are given. -/
structure In18 (s : Nat → Int) (k : Nat → Nat) (l : Nat) (L : List (Nat × Int × Nat)) : Prop where
  is : ∀ p ∈ L, p.1 < 8 ∧ p.2.1 = s p.1 ∧ p.2.2 = k p.1
  all : ∀ b, b < 8 → cang k l b = true → ∃ p ∈ L, p.1 = b
  one : (L.map (·.1)).Nodup
theorem In18.perm {s : Nat → Int} {k : Nat → Nat} {l : Nat} {L R : List (Nat × Int × Nat)} (H : In18 s k l L) (h : L.Perm R) : In18 s k l R :=
  ⟨fun p hp => H.is p (h.mem_iff.2 hp), fun b hb hc => by
    obtain ⟨p, h1, h2⟩ := H.all b hb hc
    exact ⟨p, h.mem_iff.1 h1, h2⟩, (h.map _).nodup_iff.1 H.one⟩
/-- At first all eight. -/
def q18 (s : Nat → Int) : List (Nat × Int × Nat) := (List.range 8).map fun b => (b, s b, 0)
theorem q18_len (s : Nat → Int) : (q18 s).length = 8 := by simp [q18]
theorem q18_next (s : Nat → Int) (k : Nat) (h : k < 8) : (q18 s).take (k + 1) = (q18 s).take k ++ [(k, s k, 0)] := by
  have h2 : k = 0 ∨ k = 1 ∨ k = 2 ∨ k = 3 ∨ k = 4 ∨ k = 5 ∨ k = 6 ∨ k = 7 := by omega
  rcases h2 with rfl | rfl | rfl | rfl | rfl | rfl | rfl | rfl <;> rfl
theorem q18_in (s : Nat → Int) (l : Nat) : In18 s (fun _ => 0) l (q18 s) := by
  refine ⟨fun p hp => ?_, fun b hb _ => ⟨(b, s b, 0), ?_, rfl⟩, ?_⟩
  · simp only [q18, List.mem_map, List.mem_range] at hp
    obtain ⟨b, hb, rfl⟩ := hp
    exact ⟨hb, rfl, rfl⟩
  · simp only [q18, List.mem_map, List.mem_range]
    exact ⟨b, hb, rfl⟩
  · have e : (q18 s).map (·.1) = List.range 8 := by
      simp only [q18, List.map_map]
      exact List.map_id _
    rw [e]
    exact List.nodup_range
/-- What stands first, and can: it is next. -/
theorem In18.next {s : Nat → Int} {k : Nat → Nat} {l : Nat} {L : List (Nat × Int × Nat)} (H : In18 s k l L) (d : Nat × Int × Nat) (h0 : 0 < L.length) (hh : Hp lt18 d L L.length 0) (hc : cang k l (L.getD 0 d).1 = true) : bst s k l 8 = some (L.getD 0 d).1 := by
  obtain ⟨h1, h2, h3⟩ := H.is _ (getD_mem13 L d 0 h0)
  refine bst_one s k l 8 _ h1 hc fun b hb hcb => ?_
  obtain ⟨p, hp, rfl⟩ := H.all b hb hcb
  obtain ⟨j, hj, rfl⟩ := mem_getD L d p hp
  have h := hp_least lt18 lt18_ls d L L.length hh j hj
  obtain ⟨g1, g2, g3⟩ := H.is _ hp
  rw [lt18_false] at h
  rw [← g2, ← g3, ← h2, ← h3]
  omega
theorem In18.tail {s : Nat → Int} {k : Nat → Nat} {l : Nat} {x : Nat × Int × Nat} {R : List (Nat × Int × Nat)} (H : In18 s k l (x :: R)) : x.1 ∉ R.map (·.1) ∧ (R.map (·.1)).Nodup := by
  have h := H.one
  rw [List.map_cons, List.nodup_cons] at h
  exact h
/-- .. and can't: it is out. -/
theorem In18.out {s : Nat → Int} {k : Nat → Nat} {l : Nat} {x : Nat × Int × Nat} {R : List (Nat × Int × Nat)} (H : In18 s k l (x :: R)) (hc : cang k l x.1 = false) : In18 s k l R := by
  refine ⟨fun p hp => H.is p (List.mem_cons_of_mem _ hp), fun b hb hcb => ?_, H.tail.2⟩
  obtain ⟨p, hp, rfl⟩ := H.all b hb hcb
  rcases List.mem_cons.1 hp with rfl | hp
  · rw [hc] at hcb; cases hcb
  · exact ⟨p, hp, rfl⟩
/-- It has one more, and is put in again. -/
theorem In18.more {s : Nat → Int} {k : Nat → Nat} {l l' : Nat} {x : Nat × Int × Nat} {R : List (Nat × Int × Nat)} (H : In18 s k l (x :: R)) (hl : l' ≤ l) : In18 s (mor k x.1) l' (R ++ [(x.1, x.2.1, x.2.2 + 1)]) := by
  obtain ⟨h1, h2⟩ := H.tail
  have hx := H.is x (List.mem_cons_self ..)
  refine ⟨fun p hp => ?_, fun b hb hcb => ?_, ?_⟩
  · rcases List.mem_append.1 hp with hp | hp
    · have := H.is p (List.mem_cons_of_mem _ hp)
      have hne : p.1 ≠ x.1 := fun e => h1 (by rw [← e]; exact List.mem_map_of_mem hp)
      unfold mor
      rw [if_neg hne]
      exact this
    · rw [List.mem_singleton.1 hp]
      unfold mor
      simp only [if_true]
      exact ⟨hx.1, hx.2.1, by rw [hx.2.2]⟩
  · by_cases e : b = x.1
    · exact ⟨_, List.mem_append_right _ (List.mem_singleton.2 rfl), e.symm⟩
    · have hm : mor k x.1 b = k b := by unfold mor; rw [if_neg e]
      obtain ⟨p, hp, rfl⟩ := H.all b hb (cang_falls k (mor k x.1) l l' b hm hl hcb)
      rcases List.mem_cons.1 hp with rfl | hp
      · exact absurd rfl e
      · exact ⟨p, List.mem_append_left _ hp, rfl⟩
  · rw [List.map_append, List.nodup_append]
    refine ⟨h2, by simp, fun a ha b hb => ?_⟩
    simp only [List.map_cons, List.map_nil, List.mem_singleton] at hb
    subst hb
    rintro rfl
    exact h1 ha
/-- Nothing is in it: all are given. -/
theorem In18.none {s : Nat → Int} {k : Nat → Nat} {l : Nat} (H : In18 s k l []) (f : Nat) : gvn s k l f = (k, l) := by
  have hb : bst s k l 8 = Option.none := (bst_none s k l 8).2 fun b hb => by
    cases h : cang k l b with
    | false => rfl
    | true =>
      obtain ⟨p, hp, _⟩ := H.all b hb h
      cases hp
  cases f with
  | zero => rfl
  | succ f => unfold gvn; rw [hb]
theorem gvn_one (s : Nat → Int) (k : Nat → Nat) (l f a : Nat) (h : bst s k l 8 = some a) : gvn s k l (f + 1) = gvn s (mor k a) (l - inc (k a)) f := by
  conv => lhs; unfold gvn
  rw [h]
/-- How many pulses more there could be. -/
theorem sum8_more (k : Nat → Nat) (a : Nat) (ha : a < 8) : sum8 (mor k a) = sum8 k + 1 := sum8_mor k a ha (fun x => x) 1 rfl
end Go.Proofs.Ytoohahjmiljpgaa.M

/- give's Bits, allCosts and more. Conditions: what pvq's Bits answers; up to 12 pulses. -/
namespace Go.Proofs.Ytoohahjmiljpgaa
open Go.RowKit
open M
theorem index_i8 (l : List Int) (hl : l.length = 8) (k : Nat) (hk : k < 8) (w : World) :
    (Instr.index 23 (.agg (iCells l)) (.int .i64 k)).run Try.prog w = .ok (.int .i64 (l.getD k 0)) w := by
  obtain ⟨i, hi, _, _, _⟩ := info_parts int_info
  have c := iCells_get l k (by omega)
  simp [Instr.index, run_underlying Try.underlying23, asIntOf, hk, run_sizeOf w hi, cells_intS, c, go_sem]
/-- What the first bands cost. -/
def ps18 (k : Nat → Nat) : Nat → Nat
  | 0 => 0
  | n + 1 => ps18 k n + btc (k n)
theorem ps18_all (k : Nat → Nat) : ps18 k 8 = cst8 k := by simp [ps18, cst8, sum8]
theorem ps18_bd (k : Nat → Nat) (n : Nat) : ps18 k n ≤ 13 * n := by
  induction n with
  | zero => exact Nat.le_refl _
  | succ n ih => have := btc_bd (k n); unfold ps18; omega
theorem bizOk : BizOk := by
  intro n w
  by_cases h1 : n < 12
  · have e : bz18 n = 0 := if_neg (by omega)
    rw [e]
    clear e
    go_enter Try.func32, Try.ntmps32
    go_wp2
    go_ret
    exact ⟨rfl, Below.refl _ _⟩
  · by_cases h2 : n > 24
    · have e : bz18 n = 0 := if_neg (by omega)
      rw [e]
      clear e
      go_enter Try.func32, Try.ntmps32
      go_wp2
      go_ret
      exact ⟨rfl, Below.refl _ _⟩
    · have e : bz18 n = 8 * n - 64 := if_pos (by omega)
      have e1 : wrap64 (8 * n) = 8 * n := by rw [wrap64]; omega
      have e2 : wrap64 (8 * n - 64) = 8 * n - 64 := by rw [wrap64]; omega
      rw [e]
      clear e
      go_enter Try.func32, Try.ntmps32
      go_wp2
      go_ret
      exact ⟨rfl, Below.refl _ _⟩
/-- What pulses cost, as far as p of them. -/
def co18 (p : Nat) : List Int := (List.range 13).map fun i => if i < p then (btc i : Int) else 0
theorem co18_len (p : Nat) : (co18 p).length = 13 := by simp [co18]
theorem co18_at (p i : Nat) (h : i < 13) (h2 : i < p) : (co18 p).getD i 0 = (btc i : Int) := by
  simp only [co18, List.getD_eq_getElem?_getD, List.getElem?_map, List.getElem?_range h, Option.map_some, Option.getD_some]
  rw [if_pos h2]
theorem co18_put (p : Nat) : (co18 p).set p (btc p : Int) = co18 (p + 1) := by
  apply List.ext_getElem
  · simp [co18]
  · intro i h1 h2
    simp only [co18, List.getElem_set, List.getElem_map, List.getElem_range]
    by_cases e : p = i
    · subst e; rw [if_pos rfl, if_pos (by omega)]
    · rw [if_neg e]
      by_cases e2 : i < p
      · rw [if_pos e2, if_pos (by omega)]
      · rw [if_neg e2, if_neg (by omega)]
def cz18 : List Int := List.replicate 13 0
theorem co18_zero : co18 0 = cz18 := by decide +kernel
theorem costs_info : (Try.prog.info? 101).map (fun i => (i.zero, i.size)) = some (some (.agg (iCells cz18)), 13) := by kernel_rfl
theorem costs_zero (w : World) : (zeroValue 101).run Try.prog w = .ok (.agg (iCells cz18)) w := (zero_of_info costs_info).1 w
theorem costs_size (l : List Int) (h : l.length = 13) : (Try.prog.info? 101).map (·.size) = some (iCells l).size := by
  rw [iCells_size, h]; exact (zero_of_info costs_info).2
set_option maxRecDepth 100000 in
theorem allcosts_any (HV : BvOk) (w : World) : Calls Try.prog 59 #[] w fun e w' => e = .returned (.agg (iCells (co18 13))) ∧ Below w.heap.size w w' := by
  have hz := costs_zero
  have HVC := Lib.hid HV
  have HR0 : Hid (Row ((w.alloc (.cells (iCells cz18) 101)).alloc (.cells (iCells cz18) 101)) w.heap.size 101 (iCells cz18)) := Lib.hid (Row.alloc (heap_alloc_new _ _) _)
  have HR1 : Hid (Row ((w.alloc (.cells (iCells cz18) 101)).alloc (.cells (iCells cz18) 101)) (w.heap.size + 1) 101 (iCells cz18)) := Lib.hid (row_new _ _ (by simp) _ _)
  have HB : Hid (Below w.heap.size w ((w.alloc (.cells (iCells cz18) 101)).alloc (.cells (iCells cz18) 101))) := Lib.hid (((Below.refl _ _).alloc (Nat.le_refl _) _).alloc (by simp) _)
  have HC0 := Lib.hid co18_zero
  clear HV
  go_enter Try.func59, Try.ntmps59
  go_wp2_with fail
  generalize (w.alloc (.cells (iCells cz18) 101)).alloc (.cells (iCells cz18) 101) = w1 at *
  obtain ⟨g, hg⟩ : ∃ g, w.heap.size = g := ⟨_, rfl⟩
  have HG := Lib.hid fun _ : Unit => hg
  rw [hg] at HR0 HR1 HB ⊢
  clear hg hz
  go_loopw [3] (fun ii wr => ∃ (n : Nat), n ≤ 13 ∧ ii = .int .i64 n ∧ Row wr (g + 1) 101 (iCells (co18 n)) ∧ Row wr g 101 (iCells cz18) ∧ Below g w wr) (fun ii _ => 13 - (intOf ii).toNat)
  case atStart => exact ⟨0, by omega, rfl, by rw [HC0.out]; exact HR1.out, HR0.out, HB.out⟩
  case round =>
    clear HR0 HR1 HB
    obtain ⟨n, hn, rfl, hr1, hr0, hb⟩ := hrel
    have HR1 := Lib.hid hr1
    have HR0 := Lib.hid hr0
    have HB := Lib.hid hb
    rcases Nat.lt_or_ge n 13 with hlt | hge
    · have HV1 := Lib.hid fun w => HVC.out n w (by omega)
      have HPUT := Lib.hid (co18_put n)
      obtain ⟨c, hc⟩ : ∃ c, btc n = c := ⟨_, rfl⟩
      rw [hc] at HV1 HPUT
      have HK := Lib.hid hlt
      have hnI : (n : Int) < 13 := by omega
      clear hn hr1 hr0 hb hc
      go_wp2_with fail
      refine (HV1.out _).mono ?_
      rintro e w2 ⟨rfl, hb⟩
      have hr2 := HR1.out.box hb
      have HR1 := Lib.hid hr2
      have HR0 := Lib.hid (HR0.out.box hb)
      have HB := Lib.hid (HB.out.trans (hb.mono (by have := HB.out.size; rw [HG.out ()] at this; exact this)))
      have c0 := i_at hr2 n (by rw [co18_len]; exact hlt)
      have f0 := hr2.free n
      clear hb HV1 hr2 hlt
      go_wp2_with fail
      go_roundw
      case rel => exact ⟨n + 1, HK.out, by go_num, by rw [← HPUT.out, ← iCells_set]; exact HR1.out.set n _, HR0.out.far (p := ⟨g + 1, n, none⟩) (by simp only; omega) _, Below.setCell HB.out (p := ⟨g + 1, n, none⟩) (by simp only; omega) _⟩
      case measure =>
        have := HK.out
        simp [intOf] <;> omega
    · obtain rfl : n = 13 := by omega
      have HSF := Lib.hid (costs_size (co18 13) (co18_len _))
      have HSX : Hid ((iCells cz18).size = (iCells (co18 13)).size) := Lib.hid (by rw [iCells_size, iCells_size, co18_len]; simp [cz18])
      clear hn hge hr1 hr0 hb
      go_wp2_with (first
        | (refine wpList_load_row rfl 101 (.tmp 1) rfl (g + 1) rfl 101 (iCells (co18 13)) (0, 0) _ HR1.out Try.underlying101 rfl HSF.out ?_)
        | (refine wpList_store_row rfl 101 (.tmp 0) (.tmp 11) rfl g (iCells (co18 13)) rfl rfl 101 (iCells cz18) HR0.out HSF.out HSX.out (iCells_one _) ?_))
      refine bodyPost_ret (v := .agg (iCells (co18 13))) (results_cell_row Try.results59 _ _ g 101 (iCells (co18 13)) (0, 0) _ rfl (Row.setRow HR0.out _) Try.underlying101 rfl HSF.out) rfl ⟨rfl, by rw [HG.out ()]; exact below_setRow HB.out (Nat.le_refl _) _⟩
/-- Whether one more can be had. -/
def mo18 (k l : Nat) : Bool := decide (k < 12) && decide (inc k ≤ l)
def pr18 (k : Nat) : Nat := if k < 12 then inc k else 0
theorem mo18_cang (k : Nat → Nat) (l b : Nat) : cang k l b = mo18 (k b) l := rfl
set_option maxRecDepth 100000 in
theorem more_any (g k l : Nat) (w : World) (hr : Row w g 101 (iCells (co18 13))) (hk : k ≤ 12) :
    Calls Try.prog 63 #[.pointer (some ⟨g, 0, none⟩), .int .i64 (k : Int), .int .i64 (l : Int)] w fun e w' => e = .returned (.tuple #[.int .i64 (pr18 k : Nat), .bool (mo18 k l)]) ∧ Below w.heap.size w w' := by
  rcases Nat.lt_or_ge k 12 with hlt | hge
  · have c0 := i_at hr k (by rw [co18_len]; omega)
    have c1 := i_at hr (k + 1) (by rw [co18_len]; omega)
    rw [co18_at 13 k (by omega) (by omega)] at c0
    rw [co18_at 13 (k + 1) (by omega) (by omega)] at c1
    have e1 := btc_inc k hlt
    have hb1 := btc_bd k
    have hb2 := btc_bd (k + 1)
    have e2 : pr18 k = inc k := if_pos hlt
    have e3 : mo18 k l = decide (inc k ≤ l) := by unfold mo18; rw [decide_eq_true hlt, Bool.true_and]
    rw [e2, e3]
    obtain ⟨a, ha⟩ : ∃ a, btc k = a := ⟨_, rfl⟩
    obtain ⟨b, hb⟩ : ∃ b, btc (k + 1) = b := ⟨_, rfl⟩
    obtain ⟨c, hc⟩ : ∃ c, inc k = c := ⟨_, rfl⟩
    rw [ha] at c0 e1 hb1
    rw [hb] at c1 e1 hb2
    rw [hc] at e1 ⊢
    have e4 : IntKind.i64.wrap ((b : Int) - (a : Int)) = (c : Int) := by rw [e1]; exact wi_id _ (by omega) (by omega)
    obtain ⟨k1, hk1⟩ : ∃ k1, k + 1 = k1 := ⟨_, rfl⟩
    have e5 : (k : Int) + 1 = (k1 : Int) := by omega
    have e6 : IntKind.i64.wrap ((k : Int) + 1) = (k1 : Int) := by rw [e5]; exact wi_id _ (by omega) (by omega)
    have e7 : IntKind.i64.wrap (k1 : Int) = (k1 : Int) := wi_id _ (by omega) (by omega)
    have hkI : (k : Int) < 13 := by omega
    have hk1I : (k1 : Int) < 13 := by omega
    have hk12 : (k : Int) < 12 := by omega
    rw [hk1] at c1
    have hge : ¬ (12 : Int) ≤ (k : Int) := by omega
    clear e2 e3 ha hb hc e1 hb1 hb2 hk1 hr hk hlt
    go_enter Try.func63, Try.ntmps63
    go_wp2_with fail
    go_quiet (fail)
    go_wp2_with fail
    go_ret2
    exact ⟨rfl, Below.drewN (Below.refl _ _) _⟩
  · obtain rfl : k = 12 := by omega
    have e2 : pr18 12 = 0 := rfl
    have e3 : mo18 12 l = false := by unfold mo18; rw [decide_eq_false (by omega), Bool.false_and]
    rw [e2, e3]
    clear e2 e3
    go_enter Try.func63, Try.ntmps63
    go_wp2
    go_ret2
    exact ⟨rfl, Below.refl _ _⟩
end Go.Proofs.Ytoohahjmiljpgaa
