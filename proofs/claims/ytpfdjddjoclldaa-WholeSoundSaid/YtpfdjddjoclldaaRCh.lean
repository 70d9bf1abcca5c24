/-
  mid's Split. Conditions: up to 4096 numbers, as they lie.
-/
import Derived.Test.YtpfdjddjoclldaaRCg
import Derived.Test.YtpfdjddjoclldaaRCa
import Derived.Deep.RegionWith
import Derived.Deep.Cut
import Derived.OwnWalk
namespace Go.Proofs.Ytpfdjddjoclldaa
open Go.RowKit
open M
theorem two_made (w : World) (a b : Array Value) (t : TypeId) : Row ((w.alloc (.cells a t)).alloc (.cells b t)).drew w.heap.size t a ∧ Row ((w.alloc (.cells a t)).alloc (.cells b t)).drew (w.heap.size + 1) t b ∧ Below w.heap.size w ((w.alloc (.cells a t)).alloc (.cells b t)).drew := by
  have r0 : Row (w.alloc (.cells a t)) w.heap.size t a := row_new w _ rfl _ _
  have r1 : Row ((w.alloc (.cells a t)).alloc (.cells b t)) (w.heap.size + 1) t b := row_new _ _ (by simp) _ _
  exact ⟨Row.drewN (r0.alloc _) 1, Row.drewN r1 1, below_drew1 (((Below.refl _ _).alloc (Nat.le_refl _) _).alloc (by simp) _)⟩
/-- Both numbers put, each into its block. -/
theorem pair_put12 {w w2 : World} {B g0 g1 : Nat} {t : TypeId} {a b a1 b1 : List Int} (h0 : Row w2 g0 t (iCells a)) (h1 : Row w2 g1 t (iCells b)) (hb : Below B w w2) (hne : g0 ≠ g1) (hB : B ≤ g0 ∧ B ≤ g1) (d k : Nat) (p q : Int) (ha : a.set d p = a1) (hbb : b.set k q = b1) :
    Row ((w2.setCell ⟨g0, d, none⟩ (.int .i64 p)).setCell ⟨g1, k, none⟩ (.int .i64 q)).drew g0 t (iCells a1) ∧ Row ((w2.setCell ⟨g0, d, none⟩ (.int .i64 p)).setCell ⟨g1, k, none⟩ (.int .i64 q)).drew g1 t (iCells b1) ∧
    Below B w ((w2.setCell ⟨g0, d, none⟩ (.int .i64 p)).setCell ⟨g1, k, none⟩ (.int .i64 q)).drew := by
  subst ha hbb
  rw [← iCells_set, ← iCells_set]
  exact ⟨Row.drewN ((h0.set d _).far (p := ⟨g1, k, none⟩) hne _) 1, Row.drewN ((h1.far (p := ⟨g0, d, none⟩) (Ne.symm hne) _).set k _) 1, below_drew1 ((hb.setCell (p := ⟨g0, d, none⟩) hB.1 _).setCell (p := ⟨g1, k, none⟩) hB.2 _)⟩
theorem one_cell12 (w : World) (v : Value) (i : Nat) (hi : i < 1) : (w.alloc (.cells #[v] 27)).cell? ⟨w.heap.size, i, none⟩ = some v := by
  obtain rfl : i = 0 := by omega
  exact box_cell12 w _ _
theorem one_list {w : World} {v : Value} {l : List Int} (m : Int) (hv : IntsAt w v l) (hl : l.length ≤ 4096) (h0 : 0 ≤ m) (h1 : m ≤ 9223372036854775807) :
    Calls Try.prog 21 #[.int .i64 m, .slice (some ⟨w.heap.size, 0, none⟩) 1 1] (w.alloc (.cells #[v] 27)) fun e w' => e = .returned (.bool (l.any (byd m))) ∧ Below w.heap.size w w' := by
  have hb : Below w.heap.size w (w.alloc (.cells #[v] 27)) := (Below.refl _ _).alloc (Nat.le_refl _) _
  have h := beyond12_any m 1 w.heap.size (fun _ => v) (fun _ => l) (w.alloc (.cells #[v] 27)) (by decide) (by rw [World.size_alloc]; omega) (one_cell12 w v) (fun i _ => hv.below hb) (fun i _ => by unfold maxLen; omega) h0 h1
  rw [show (List.range 1).any (fun _ => l.any (byd m)) = l.any (byd m) by simp [List.range_succ]] at h
  refine h.mono ?_
  rintro e w' ⟨rfl, hb2⟩
  exact ⟨rfl, hb.trans (hb2.mono hb.size)⟩
set_option maxRecDepth 100000 in
set_option maxHeartbeats 1000000 in
theorem split_odd (l : List Int) (v : Value) (w : World) (hv : IntsAt w v l) (hl : l.length ≤ 4096) (ho : l.length % 2 = 1) :
    Calls Try.prog 13 #[v] w fun e w' => e = .returned (.tuple #[.slice none 0 0, .slice none 0 0, .int .i64 1]) ∧ w = w' := by
  obtain ⟨a, cap, rfl, _⟩ := hv
  obtain ⟨L, hL⟩ : ∃ L, l.length = L := ⟨_, rfl⟩
  rw [hL] at hl ho ⊢
  clear hL
  have e1 : (L : Int).tmod 2 = 1 := by rw [Int.tmod_eq_emod_of_nonneg (by omega)]; omega
  have e2 : (L : Int) % 2 = 1 := by omega
  go_enter Try.func13, Try.ntmps13
  go_wp2_with fail
  go_ret3
  exact ⟨rfl, rfl⟩
set_option maxRecDepth 100000 in
set_option maxHeartbeats 1000000 in
theorem split_far (l : List Int) (v : Value) (w : World) (hv : IntsAt w v l) (hl : l.length ≤ 4096) (ho : l.length % 2 = 0) (hf : l.any (byd 1048576) = true) :
    Calls Try.prog 13 #[v] w fun e w' => e = .returned (.tuple #[.slice none 0 0, .slice none 0 0, .int .i64 7]) ∧ Below w.heap.size w w' := by
  have HC := Lib.hid (one_list 1048576 hv hl (by omega) (by omega))
  rw [hf] at HC
  obtain ⟨a, cap, rfl, _⟩ := hv
  obtain ⟨L, hL⟩ : ∃ L, l.length = L := ⟨_, rfl⟩
  rw [hL] at hl ho HC ⊢
  clear hL hf
  have e1 : (L : Int).tmod 2 = 0 := by rw [Int.tmod_eq_emod_of_nonneg (by omega)]; omega
  have e2 : (L : Int) % 2 = 0 := by omega
  go_enter Try.func13, Try.ntmps13
  go_wp2_with fail
  refine HC.out.mono ?_
  rintro e w1 ⟨rfl, hb⟩
  have HB := Lib.hid hb
  clear hb HC
  go_wp2_with fail
  go_ret3
  exact ⟨rfl, HB.out⟩
set_option maxRecDepth 100000 in
set_option maxHeartbeats 2000000 in
theorem split_in (l : List Int) (n : Nat) (v : Value) (w : World) (hv : IntsAt w v l) (hl : l.length ≤ 4096) (hn : l.length = 2 * n) (hr : ∀ x ∈ l, -1048576 ≤ x ∧ x ≤ 1048576) :
    Calls Try.prog 13 #[v] w fun e w' => (∃ gm gs, gm ≠ gs ∧ w.heap.size ≤ gm ∧ w.heap.size ≤ gs ∧ e = .returned (.tuple #[.slice (some ⟨gm, 0, none⟩) n n, .slice (some ⟨gs, 0, none⟩) n n, .int .i64 0]) ∧
      Row w' gm 3 (iCells (mids l)) ∧ Row w' gs 3 (iCells (sids l))) ∧ Below w.heap.size w w' := by
  have hf : l.any (byd 1048576) = false := by
    rw [List.any_eq_false]
    intro x hx
    have := hr x hx
    simp only [byd, decide_eq_true_eq]
    omega
  have HC := Lib.hid (one_list 1048576 hv hl (by omega) (by omega))
  rw [hf] at HC
  have HGB := Lib.hid fun p => M.getD_bd l 1048576 (by decide) hr p
  have HV := Lib.hid hv
  have HM := Lib.hid fun _ : Unit => show (List.range n).map (fun i => (pr12 l i).1) = mids l by unfold mids; rw [hn, Nat.mul_div_cancel_left n (by decide)]
  have HS := Lib.hid fun _ : Unit => show (List.range n).map (fun i => (pr12 l i).2) = sids l by unfold sids; rw [hn, Nat.mul_div_cancel_left n (by decide)]
  obtain ⟨a, cap, rfl, hcell⟩ := hv
  rw [hn] at hl hcell HC HV ⊢
  have HCELL := Lib.hid hcell
  clear hf hr hn hcell
  obtain ⟨L, hL⟩ : ∃ L, 2 * n = L := ⟨_, rfl⟩
  have hnI : (2 : Int) * (n : Int) = (L : Int) := by omega
  rw [hL] at hl HC HV HCELL ⊢
  have HL := Lib.hid fun _ : Unit => hL
  have e1 : (L : Int).tmod 2 = 0 := by rw [Int.tmod_eq_emod_of_nonneg (by omega)]; omega
  have e2 : (L : Int) % 2 = 0 := by omega
  have e3 : (L : Int).tdiv 2 = (n : Int) := by rw [Int.tdiv_eq_ediv_of_nonneg (by omega)]; omega
  have e4 : (L : Int) / 2 = (n : Int) := by omega
  have hwn : IntKind.i64.wrap (n : Int) = n := by rw [IntKind.wrap_i64]; omega
  have hmk := fun w => make_int12 n (by omega) w
  clear hL
  go_enter Try.func13, Try.ntmps13
  go_wp2_with fail
  refine HC.out.mono ?_
  rintro e w1 ⟨rfl, hb⟩
  have HB := Lib.hid hb
  clear hb HC
  go_wp2_with fail
  have HTM := Lib.hid (two_made w1 (iCells (List.replicate n 0)) (iCells (List.replicate n 0)) 3)
  have HUZ := Lib.hid (upk_zero n)
  go_cut [5, 6] from 15 (fun a b wx => ∃ gm gs, gm ≠ gs ∧ w.heap.size ≤ gm ∧ w.heap.size ≤ gs ∧ a = .slice (some ⟨gm, 0, none⟩) n n ∧ b = .slice (some ⟨gs, 0, none⟩) n n ∧ Row wx gm 3 (iCells (upk n (fun i => (pr12 l i).1) 0)) ∧ Row wx gs 3 (iCells (upk n (fun i => (pr12 l i).2) 0)) ∧ Below w.heap.size w wx)
  case first =>
    go_region_with (fail)
    all_goals
      go_wp2_with fail
      go_meet
      first
        | exact ⟨w1.heap.size, w1.heap.size + 1, by omega, HB.out.size, Nat.le_succ_of_le HB.out.size, rfl, rfl, by rw [HUZ.out]; exact HTM.out.1, by rw [HUZ.out]; exact HTM.out.2.1, HB.out.trans (HTM.out.2.2.mono HB.out.size)⟩
        | exact ⟨w1.heap.size + 1, w1.heap.size, by omega, Nat.le_succ_of_le HB.out.size, HB.out.size, rfl, rfl, by rw [HUZ.out]; exact HTM.out.2.1, by rw [HUZ.out]; exact HTM.out.1, HB.out.trans (HTM.out.2.2.mono HB.out.size)⟩
  case rest =>
    obtain ⟨gm, gs, hne, hm, hs, rfl, rfl, r1, r2, hb⟩ := hcut
    have HB1 := Lib.hid hb
    have HR1 := Lib.hid r1
    have HR2 := Lib.hid r2
    have HG := Lib.hid (And.intro hne (And.intro hm hs))
    clear HB hmk hwn hb r1 r2 hne hm hs HTM HUZ
    have hnb : (n : Int) ≤ 4096 := by omega
    go_wp2_with fail
    go_loopw [25] (fun ii wr => ∃ k : Nat, k ≤ n ∧ ii = .int .i64 k ∧ Row wr gm 3 (iCells (upk n (fun i => (pr12 l i).1) k)) ∧ Row wr gs 3 (iCells (upk n (fun i => (pr12 l i).2) k)) ∧ Below w.heap.size w wr) (fun ii _ => n - (intOf ii).toNat)
    case atStart => exact ⟨0, by omega, rfl, HR1.out, HR2.out, HB1.out⟩
    case round =>
      clear HR1 HR2 HB1
      obtain ⟨k, hk, rfl, h1, h2, h3⟩ := hrel
      have HR := Lib.hid h1
      have HT := Lib.hid h2
      have HB := Lib.hid h3
      clear h1 h2 h3
      rcases Nat.lt_or_ge k n with hlt | hge
      · obtain ⟨b, off, rfl, hbs, hcs⟩ := HCELL.out (by have := HL.out (); omega)
        have hk2 : 2 * k + 1 < L := by have := HL.out (); omega
        have c0 := (HB.out.cell (p := ⟨b, off + 2 * k, none⟩) hbs).trans (hcs (2 * k) (by omega))
        have c1 := (HB.out.cell (p := ⟨b, off + (2 * k + 1), none⟩) hbs).trans (hcs (2 * k + 1) hk2)
        have g0 := HGB.out (2 * k)
        have g1 := HGB.out (2 * k + 1)
        have d0 := i_at HR.out k (by rw [upk_len]; exact hlt)
        have d1 := i_at HT.out k (by rw [upk_len]; exact hlt)
        have f0 := fun i => Row.free HR.out i
        have f1 := fun i => Row.free HT.out i
        have s0 := upk_step n k (fun i => (pr12 l i).1)
        have s1 := upk_step n k (fun i => (pr12 l i).2)
        have hp : pr12 l k = mdl (l.getD (2 * k) 0) (l.getD (2 * k + 1) 0) := rfl
        obtain ⟨x, hx⟩ : ∃ x, l.getD (2 * k) 0 = x := ⟨_, rfl⟩
        obtain ⟨y, hy⟩ : ∃ y, l.getD (2 * k + 1) 0 = y := ⟨_, rfl⟩
        rw [hx] at c0 g0 hp
        rw [hy] at c1 g1 hp
        have HO := Lib.hid fun w => of_any x y w (by omega) (by omega) (by omega) (by omega)
        rw [hp] at s0 s1
        obtain ⟨q, hq⟩ : ∃ q, mdl x y = q := ⟨_, rfl⟩
        rw [hq] at s0 s1 HO
        obtain ⟨p1, p2⟩ := q
        dsimp only at s0 s1 HO
        have S0 := Lib.hid s0
        have S1 := Lib.hid s1
        obtain ⟨j, hj⟩ : ∃ j, 2 * k = j := ⟨_, rfl⟩
        obtain ⟨j1, hj1⟩ : ∃ j1, j + 1 = j1 := ⟨_, rfl⟩
        rw [hj] at c0 c1 hk2
        rw [hj1] at c1 hk2
        have e5 : (2 : Int) * (k : Int) = (j : Int) := by omega
        have e6 : (j : Int) + 1 = (j1 : Int) := by omega
        have e7 : IntKind.i64.wrap (j : Int) = j := by rw [IntKind.wrap_i64]; omega
        have e8 : IntKind.i64.wrap (j1 : Int) = j1 := by rw [IntKind.wrap_i64]; omega
        have hkI : (k : Int) < (n : Int) := by omega
        have hjI : (j : Int) < (L : Int) := by omega
        have hj1I : (j1 : Int) < (L : Int) := by omega
        have hne1 : gm ≠ gs := HG.out.1
        have hne2 : gs ≠ gm := Ne.symm HG.out.1
        have HK := Lib.hid hlt
        clear g0 g1 hp hx hy s0 s1 hq hj hj1 hk2 hk hcs hbs
        go_wp2_with fail
        go_region_with (go_at_call 10; refine (HO.out _).mono ?_; rintro e w2 ⟨rfl, rfl⟩)
        all_goals
          clear d0 d1 f0 f1
          obtain ⟨q1, q2, q3⟩ := pair_put12 HR.out HT.out HB.out HG.out.1 HG.out.2 k k p1 p2 S0.out S1.out
          have HQ1 := Lib.hid q1
          have HQ2 := Lib.hid q2
          have HQ3 := Lib.hid q3
          clear q1 q2 q3
          generalize ((wr.setCell ⟨gm, k, none⟩ (.int .i64 p1)).setCell ⟨gs, k, none⟩ (.int .i64 p2)).drew = w3 at *
          go_wp2
          go_roundw
          case rel => exact ⟨k + 1, HK.out, by go_num, HQ1.out, HQ2.out, HQ3.out⟩
          case measure =>
            have := HK.out
            simp only [intOf]
            omega
      · obtain rfl : k = n := by omega
        have hr := HR.out
        have ht := HT.out
        rw [upk_full _ _ _ (Nat.le_refl _), HM.out ()] at hr
        rw [upk_full _ _ _ (Nat.le_refl _), HS.out ()] at ht
        have HR := Lib.hid hr
        have HT := Lib.hid ht
        clear hr ht hk hge
        go_wp2_with fail
        go_ret3
        exact ⟨⟨gm, gs, HG.out.1, HG.out.2.1, HG.out.2.2, rfl, HR.out, HT.out⟩, HB.out⟩
end Go.Proofs.Ytpfdjddjoclldaa
