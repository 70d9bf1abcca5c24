/-
  mid's Join. Conditions: up to 4096 middles and sides, as they lie.
-/
import Derived.Test.YtpfdjddjoclldaaRCg
import Derived.Test.YtpfdjddjoclldaaRCa
import Derived.Deep.RegionWith
namespace Go.Proofs.Ytpfdjddjoclldaa
open Go.RowKit
open M
/-- The first or the second of two. -/
def fst2 {α : Type} (a b : α) (i : Nat) : α := if i = 0 then a else b
theorem two_cell12 (w : World) (u v : Value) (i : Nat) (hi : i < 2) : (w.alloc (.cells #[u, v] 27)).cell? ⟨w.heap.size, i, none⟩ = some (fst2 u v i) := by
  have h := cell_of_row (w.alloc (.cells #[u, v] 27)) w.heap.size i _ _ (0, 0) (row_new w _ rfl #[u, v] 27)
  rw [h]
  rcases (show i = 0 ∨ i = 1 by omega) with rfl | rfl <;> rfl
theorem two_lists {w : World} {u v : Value} {l r : List Int} (m : Int) (hu : IntsAt w u l) (hv : IntsAt w v r) (hl : l.length ≤ 4096) (hr : r.length ≤ 4096) (h0 : 0 ≤ m) (h1 : m ≤ 9223372036854775807) :
    Calls Try.prog 21 #[.int .i64 m, .slice (some ⟨w.heap.size, 0, none⟩) 2 2] (w.alloc (.cells #[u, v] 27)) fun e w' => e = .returned (.bool (l.any (byd m) || r.any (byd m))) ∧ Below w.heap.size w w' := by
  have hb : Below w.heap.size w (w.alloc (.cells #[u, v] 27)) := (Below.refl _ _).alloc (Nat.le_refl _) _
  have h := beyond12_any m 2 w.heap.size (fst2 u v) (fst2 l r) (w.alloc (.cells #[u, v] 27)) (by decide) (by rw [World.size_alloc]; omega) (two_cell12 w u v) (fun i _ => by
    unfold fst2
    split
    · exact hu.below hb
    · exact hv.below hb) (fun i _ => by unfold fst2 maxLen; split <;> omega) h0 h1
  rw [show (List.range 2).any (fun i => (fst2 l r i).any (byd m)) = (l.any (byd m) || r.any (byd m)) by simp [List.range_succ, fst2]] at h
  refine h.mono ?_
  rintro e w' ⟨rfl, hb2⟩
  exact ⟨rfl, hb.trans (hb2.mono hb.size)⟩
theorem both_put12 {w w2 : World} {B g : Nat} {t : TypeId} {a a1 a2 : List Int} (h0 : Row w2 g t (iCells a)) (hb : Below B w w2) (hB : B ≤ g) (d k : Nat) (p q : Int) (ha : a.set d p = a1) (hbb : a1.set k q = a2) :
    Row ((w2.setCell ⟨g, d, none⟩ (.int .i64 p)).setCell ⟨g, k, none⟩ (.int .i64 q)).drew g t (iCells a2) ∧ Below B w ((w2.setCell ⟨g, d, none⟩ (.int .i64 p)).setCell ⟨g, k, none⟩ (.int .i64 q)).drew := by
  subst ha hbb
  rw [← iCells_set, ← iCells_set]
  exact ⟨Row.drewN ((h0.set d _).set k _) 1, below_drew1 ((hb.setCell (p := ⟨g, d, none⟩) hB _).setCell (p := ⟨g, k, none⟩) hB _)⟩
set_option maxRecDepth 100000 in
set_option maxHeartbeats 1000000 in
theorem join_uneven (m s : List Int) (u v : Value) (w : World) (hu : IntsAt w u m) (hv : IntsAt w v s) (ho : m.length ≠ s.length) :
    Calls Try.prog 14 #[u, v] w fun e w' => e = .returned (.tuple #[.slice none 0 0, .int .i64 1]) ∧ w = w' := by
  obtain ⟨a, cap, rfl, _⟩ := hu
  obtain ⟨b, cap2, rfl, _⟩ := hv
  obtain ⟨L, hL⟩ : ∃ L, m.length = L := ⟨_, rfl⟩
  obtain ⟨K, hK⟩ : ∃ K, s.length = K := ⟨_, rfl⟩
  rw [hL] at ho ⊢
  rw [hK] at ho ⊢
  clear hL hK
  have e1 : ((L : Int) == (K : Int)) = false := by rw [beq_eq_false_iff_ne]; omega
  have e2 : ¬ ((L : Int) = (K : Int)) := by omega
  go_enter Try.func14, Try.ntmps14
  go_wp2_with fail
  go_ret2
  exact ⟨rfl, rfl⟩
set_option maxRecDepth 100000 in
set_option maxHeartbeats 1000000 in
theorem join_far (m s : List Int) (u v : Value) (w : World) (hu : IntsAt w u m) (hv : IntsAt w v s) (hm : m.length ≤ 4096) (ho : m.length = s.length) (hf : (m.any (byd 16777216) || s.any (byd 16777216)) = true) :
    Calls Try.prog 14 #[u, v] w fun e w' => e = .returned (.tuple #[.slice none 0 0, .int .i64 7]) ∧ Below w.heap.size w w' := by
  have HC := Lib.hid (two_lists 16777216 hu hv hm (by omega) (by omega) (by omega))
  rw [hf] at HC
  obtain ⟨a, cap, rfl, _⟩ := hu
  obtain ⟨b, cap2, rfl, _⟩ := hv
  rw [← ho] at HC ⊢
  obtain ⟨L, hL⟩ : ∃ L, m.length = L := ⟨_, rfl⟩
  rw [hL] at hm HC ⊢
  clear hL hf ho
  go_enter Try.func14, Try.ntmps14
  go_wp2_with fail
  refine HC.out.mono ?_
  rintro e w1 ⟨rfl, hb⟩
  have HB := Lib.hid hb
  clear hb HC
  go_wp2_with fail
  go_ret2
  exact ⟨rfl, HB.out⟩
theorem far_no (m : Int) (l : List Int) (h : ∀ x ∈ l, -m ≤ x ∧ x ≤ m) : l.any (byd m) = false := by
  rw [List.any_eq_false]
  intro x hx
  have := h x hx
  simp only [byd, decide_eq_true_eq]
  omega
set_option maxRecDepth 100000 in
set_option maxHeartbeats 2000000 in
theorem join_in (m s : List Int) (n : Nat) (u v : Value) (w : World) (hu : IntsAt w u m) (hv : IntsAt w v s) (hm : m.length = n) (hs : s.length = n) (hn : n ≤ 4096) (hr1 : ∀ x ∈ m, -16777216 ≤ x ∧ x ≤ 16777216) (hr2 : ∀ x ∈ s, -16777216 ≤ x ∧ x ≤ 16777216) :
    Calls Try.prog 14 #[u, v] w fun e w' => (∃ g, w.heap.size ≤ g ∧ e = .returned (.tuple #[.slice (some ⟨g, 0, none⟩) (2 * n) (2 * n), .int .i64 0]) ∧ Row w' g 3 (iCells (joi m s))) ∧ Below w.heap.size w w' := by
  have HC := Lib.hid (two_lists 16777216 hu hv (by omega) (by omega) (by omega) (by omega))
  rw [far_no _ _ hr1, far_no _ _ hr2] at HC
  have HG1 := Lib.hid fun p => M.getD_bd m 16777216 (by decide) hr1 p
  have HG2 := Lib.hid fun p => M.getD_bd s 16777216 (by decide) hr2 p
  have HF := Lib.hid fun _ : Unit => show upk (2 * n) (jn12 m s) (2 * n) = joi m s by rw [upk_full _ _ _ (Nat.le_refl _), ← hm]; rfl
  have HE := Lib.hid (jn12_even m s)
  have HO := Lib.hid (jn12_odd m s)
  obtain ⟨a, cap, rfl, hc1⟩ := hu
  obtain ⟨b, cap2, rfl, hc2⟩ := hv
  rw [hm] at HC hc1 ⊢
  rw [hs] at HC hc2 ⊢
  have HC1 := Lib.hid hc1
  have HC2 := Lib.hid hc2
  clear hm hs hr1 hr2 hc1 hc2
  obtain ⟨L, hL⟩ : ∃ L, 2 * n = L := ⟨_, rfl⟩
  have hnI : (2 : Int) * (n : Int) = (L : Int) := by omega
  have hLb : L ≤ 8192 := by omega
  have HL := Lib.hid fun _ : Unit => hL
  rw [hL] at HF ⊢
  have hwn : IntKind.i64.wrap (L : Int) = L := by rw [IntKind.wrap_i64]; omega
  have hmk := fun w => make_int12 L (by omega) w
  clear hL
  generalize jn12 m s = F at *
  go_enter Try.func14, Try.ntmps14
  go_wp2_with fail
  refine HC.out.mono ?_
  rintro e w1 ⟨rfl, hb⟩
  have hR0 : Row (w1.alloc (.cells (iCells (List.replicate L 0)) 3)) w1.heap.size 3 (iCells (upk L F 0)) := by rw [upk_zero]; exact heap_alloc_new _ _
  have HR0 := Lib.hid hR0
  have HB0 : Hid (Below w.heap.size w (w1.alloc (.cells (iCells (List.replicate L 0)) 3))) := Lib.hid (hb.alloc hb.size _)
  have HGE := Lib.hid hb.size
  clear hb HC hR0
  go_wp2_with fail
  clear hmk hwn
  obtain ⟨g, hg⟩ : ∃ g, w1.heap.size = g := ⟨_, rfl⟩
  generalize w1.alloc (.cells (iCells (List.replicate L 0)) 3) = w2 at *
  rw [hg] at HR0 HGE ⊢
  clear hg
  go_loopw [23] (fun ii wr => ∃ k : Nat, k ≤ n ∧ ii = .int .i64 k ∧ Row wr g 3 (iCells (upk L F (2 * k))) ∧ Below w.heap.size w wr) (fun ii _ => n - (intOf ii).toNat)
  case atStart => exact ⟨0, by omega, rfl, HR0.out, HB0.out⟩
  case round =>
    clear HR0 HB0
    obtain ⟨k, hk, rfl, h1, h2⟩ := hrel
    have HR := Lib.hid h1
    have HB := Lib.hid h2
    clear h1 h2
    rcases Nat.lt_or_ge k n with hlt | hge
    · obtain ⟨bm, offm, rfl, hbs, hcs⟩ := HC1.out (by omega)
      obtain ⟨bs, offs, rfl, hbs2, hcs2⟩ := HC2.out (by omega)
      have hk2 : 2 * k + 1 < L := by have := HL.out (); omega
      have c0 := (HB.out.cell (p := ⟨bm, offm + k, none⟩) hbs).trans (hcs k hlt)
      have c1 := (HB.out.cell (p := ⟨bs, offs + k, none⟩) hbs2).trans (hcs2 k hlt)
      have g0 := HG1.out k
      have g1 := HG2.out k
      have d0 := i_at HR.out (2 * k) (by rw [upk_len]; omega)
      have d1 := i_at HR.out (2 * k + 1) (by rw [upk_len]; omega)
      have f0 := fun i => Row.free HR.out i
      have s0 := upk_step L (2 * k) F
      have s1 := upk_step L (2 * k + 1) F
      rw [HE.out k] at s0
      rw [HO.out k] at s1
      obtain ⟨x, hx⟩ : ∃ x, m.getD k 0 = x := ⟨_, rfl⟩
      obtain ⟨y, hy⟩ : ∃ y, s.getD k 0 = y := ⟨_, rfl⟩
      rw [hx] at c0 g0 s0 s1
      rw [hy] at c1 g1 s0 s1
      have HQ := Lib.hid fun w => back12_any x y w (by omega) (by omega) (by omega) (by omega)
      obtain ⟨q, hq⟩ : ∃ q, mdb x y = q := ⟨_, rfl⟩
      rw [hq] at s0 s1 HQ
      obtain ⟨p1, p2⟩ := q
      dsimp only at s0 s1 HQ
      rw [show 2 * k + 1 + 1 = 2 * (k + 1) by omega] at s1
      obtain ⟨j, hj⟩ : ∃ j, 2 * k = j := ⟨_, rfl⟩
      obtain ⟨j1, hj1⟩ : ∃ j1, j + 1 = j1 := ⟨_, rfl⟩
      rw [hj] at d0 d1 hk2 s0 s1 HR
      rw [hj1] at d1 hk2 s0 s1
      have S0 := Lib.hid s0
      have S1 := Lib.hid s1
      have e5 : (2 : Int) * (k : Int) = (j : Int) := by omega
      have e6 : (j : Int) + 1 = (j1 : Int) := by omega
      have e7 : IntKind.i64.wrap (j : Int) = j := by rw [IntKind.wrap_i64]; omega
      have e8 : IntKind.i64.wrap (j1 : Int) = j1 := by rw [IntKind.wrap_i64]; omega
      have hkI : (k : Int) < (n : Int) := by omega
      have hjI : (j : Int) < (L : Int) := by omega
      have hj1I : (j1 : Int) < (L : Int) := by omega
      have hne1 : j ≠ j1 := by omega
      have hne2 : j1 ≠ j := by omega
      have HK := Lib.hid hlt
      clear g0 g1 hx hy s0 s1 hq hj hj1 hk2 hk hcs hbs hcs2 hbs2
      go_wp2_with fail
      go_region_with (go_at_call 11; refine (HQ.out _).mono ?_; rintro e w2 ⟨rfl, rfl⟩)
      all_goals
        clear d0 d1 f0
        obtain ⟨q1, q2⟩ := both_put12 HR.out HB.out HGE.out j j1 p1 p2 S0.out S1.out
        have HQ1 := Lib.hid q1
        have HQ2 := Lib.hid q2
        clear q1 q2
        generalize ((wr.setCell ⟨g, j, none⟩ (.int .i64 p1)).setCell ⟨g, j1, none⟩ (.int .i64 p2)).drew = w3 at *
        go_wp2
        go_roundw
        case rel => exact ⟨k + 1, HK.out, by go_num, HQ1.out, HQ2.out⟩
        case measure =>
          have := HK.out
          simp only [intOf]
          omega
    · obtain rfl : k = n := by omega
      have hr := HR.out
      rw [HL.out (), HF.out ()] at hr
      have HR := Lib.hid hr
      clear hr hk hge
      go_wp2_with fail
      go_ret2
      exact ⟨⟨g, HGE.out, rfl, HR.out⟩, HB.out⟩
end Go.Proofs.Ytpfdjddjoclldaa
