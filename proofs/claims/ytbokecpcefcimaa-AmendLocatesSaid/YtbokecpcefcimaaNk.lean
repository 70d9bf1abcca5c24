/-
  The contract of layer 6's Locate. Condition: the numbers lie where they can be read.
-/
import Derived.Test.YtbokecpcefcimaaNh
import Derived.Test.YtbokecpcefcimaaNj
namespace Go.Proofs.Ytbokecpcefcimaa
open Go.RowKit
open M

/-- What Locate answers. -/
def Loc (xs : List Int) (ok : Bool) (ps : List Nat) : Prop :=
  (ok = true ∧ ∃ u : List Bool, u.length = 127 ∧ u.count true ≤ 10 ∧ castL (syn u) = xs ∧ ps = pos u 127) ∨
  (ok = false ∧ ps = [] ∧ ∀ u : List Bool, u.length = 127 → u.count true ≤ 10 → castL (syn u) ≠ xs)
theorem castL_inj (a b : List Nat) (h : castL a = castL b) : a = b := by
  unfold castL at h
  have hl : a.length = b.length := by
    have := congrArg List.length h
    simpa using this
  apply List.ext_getElem hl
  intro i h1 h2
  have h3 := congrArg (fun l => l.getD i 0) h
  simp only [List.getD_eq_getElem?_getD, List.getElem?_map, List.getElem?_eq_getElem h1, List.getElem?_eq_getElem h2, Option.map_some, Option.getD_some] at h3
  omega
theorem syn_els (e : List Bool) : Els (syn e) := by
  intro c hc
  unfold syn sj at hc
  obtain ⟨i, _, rfl⟩ := List.mem_map.1 hc
  show (if i < 20 then ev (E (i + 1)) (wp e) else 0) < 128
  split
  · exact ev_lt _ (E_any _) _ (wp_els e)
  · omega
theorem prp_syn (e : List Bool) : prp (castL (syn e)) = true := by
  rw [prp_in]
  refine ⟨by rw [castL_length, syn_length], fun i _ => ?_⟩
  rw [castL_getD]
  have := (syn_els e).getD i
  omega
theorem prp_nats (xs : List Int) (h : prp xs = true) : ∃ l : List Nat, castL l = xs ∧ Els l ∧ l.length = 20 := by
  obtain ⟨h1, h2⟩ := (prp_in xs).1 h
  refine ⟨xs.map Int.toNat, ?_, ?_, by rw [List.length_map, h1]⟩
  · unfold castL
    rw [List.map_map]
    conv => rhs; rw [← List.map_id xs]
    apply List.map_congr_left
    intro a ha
    obtain ⟨i, hi, rfl⟩ := List.getElem_of_mem ha
    have := h2 i hi
    rw [List.getD_eq_getElem?_getD, List.getElem?_eq_getElem hi] at this
    simp only [Option.getD_some] at this
    simp only [Function.comp_apply, id_eq]
    omega
  · intro c hc
    obtain ⟨a, ha, rfl⟩ := List.mem_map.1 hc
    obtain ⟨i, hi, rfl⟩ := List.getElem_of_mem ha
    have := h2 i hi
    rw [List.getD_eq_getElem?_getD, List.getElem?_eq_getElem hi] at this
    simp only [Option.getD_some] at this
    omega
theorem take_next (l : List Nat) (k : Nat) (h : k < l.length) : l.take k ++ [l.getD k 0] = l.take (k + 1) := by
  rw [List.take_succ_eq_append_getElem h, List.getD_eq_getElem?_getD, List.getElem?_eq_getElem h]; rfl
theorem IntsAt.nil (w : World) : IntsAt w (.slice none 0 0) (castL []) := ⟨none, 0, rfl, fun h => by simp [castL] at h⟩
/-- slices.Equal of syndromes and of a list as long. -/
theorem equal_any (g : Nat) (a : Option Addr) (cap : Nat) (s l : List Nat) (w : World) (hs : s.length = 20) (hl : l.length = 20) (hr : Row w g 3 (natCells s))
    (ha : 0 < 20 → ∃ b off, a = some ⟨b, off, none⟩ ∧ b < w.heap.size ∧ ∀ i, i < 20 → w.cell? ⟨b, off + i, none⟩ = some (.int .i64 ((castL l).getD i 0))) :
    Calls Try.prog 33 #[.slice (some ⟨g, 0, none⟩) 20 20, .slice a 20 cap] w fun e w' => e = .returned (.bool (decide (s = l))) ∧ Qt w w' := by
  obtain ⟨b, off, rfl, _, hc⟩ := ha (by omega)
  have k := Any.slices_Equal_int laysEq g 0 20 20 b off 20 cap (castL s) (castL l) w (by rw [castL_length, hs]; omega) (by rw [castL_length, hl]; omega) (by omega) (by omega)
    (fun j hj => by
      rw [castL_length] at hj
      rw [Nat.zero_add, nat_at hr j hj, castL_getD])
    (fun j hj => by
      rw [castL_length, hl] at hj
      exact hc j hj)
  refine Calls.mono k ?_
  rintro e w' ⟨rfl, q, rfl⟩
  refine ⟨?_, q, rfl⟩
  congr 2
  have e1 : (castL s).take 20 = castL s := by rw [← hs, ← castL_length s, List.take_length]
  have e2 : (castL l).take 20 = castL l := by rw [← hl, ← castL_length l, List.take_length]
  rw [e1, e2, Bool.eq_iff_iff, beq_iff_eq, decide_eq_true_iff]
  exact ⟨castL_inj s l, fun h => by rw [h]⟩

set_option maxRecDepth 100000 in
set_option maxHeartbeats 2000000 in
theorem locate_any (xs : List Int) (v : Value) (w : World) (h : IntsAt w v xs) :
    Calls Try.prog 18 #[v] w fun e w' => ∃ r ok ps, e = .returned (.tuple #[r, .bool ok]) ∧ IntsAt w' r (castL ps) ∧ Loc xs ok ps ∧ Below w.heap.size w w' := by
  have HP := Lib.hid fun W => proper_any xs v W
  have HI := Lib.hid h
  obtain ⟨a, cap, rfl, hcells⟩ := h
  by_cases hp : prp xs = true
  · obtain ⟨l, hl, hels, hlen⟩ := prp_nats xs hp
    rw [hp] at HP
    subst hl
    rw [castL_length, hlen] at hcells HP HI ⊢
    have HC := Lib.hid hcells
    have HELS := Lib.hid hels
    have HLEN := Lib.hid hlen
    obtain ⟨S, hS⟩ : ∃ S : Nat → Nat, S = fun n => l.getD n 0 := ⟨_, rfl⟩
    have HSG : Hid (∀ n, l.getD n 0 = S n) := fun n => by rw [hS]
    have HSL : Hid (∀ n, S n < 128) := fun n => by rw [hS]; exact hels.getD n
    clear hcells hels hlen hS hp
    go_enter Try.func18, Try.ntmps18
    go_wp2_with fail
    refine (HP.out _ HI.out).mono ?_
    rintro e w1 ⟨rfl, rfl⟩
    go_wp2_with fail
    refine (newFinder_any _ S).mono ?_
    rintro e w1 ⟨q, f, rfl, hf, hb⟩
    have HF := Lib.hid hf
    have HB := Lib.hid hb
    clear hf hb HP
    go_wp2
    go_loopw [17] (fun i wr => ∃ k : Nat, k ≤ 20 ∧ i = .int .i64 (k : Nat) ∧ Find wr w.heap.size q f S (l.take k) ∧ Below w.heap.size w wr) (fun i _ => 20 - (intOf i).toNat)
    case atStart => exact ⟨0, by omega, rfl, HF.out, HB.out⟩
    case round =>
      clear HF HB
      obtain ⟨k, hk, rfl, h1, h2⟩ := hrel
      have HF := Lib.hid h1
      have HB := Lib.hid h2
      clear h1 h2
      by_cases hlt : k < 20
      · obtain ⟨b0, off, rfl, hbw, hcc⟩ := HC.out (by omega)
        have hcj := hcc k hlt
        rw [castL_getD] at hcj
        have c0 : wr.cell? ⟨b0, off + k, none⟩ = some (.int .i64 (l.getD k 0 : Nat)) := (HB.out.cell (p := ⟨b0, off + k, none⟩) hbw).trans hcj
        have HN := Lib.hid (take_next l k (by have := HLEN.out; omega))
        have HS : Hid (S (l.take k).length = l.getD k 0) := by
          unfold Hid
          rw [List.length_take, HLEN.out, Nat.min_eq_left (by omega), HSG.out]
        have HT : Hid ((l.take k).length ≤ 100) := by
          unfold Hid
          rw [List.length_take, HLEN.out]
          omega
        generalize l.getD k 0 = s at *
        clear hcc hcj
        go_wp2_with fail
        refine (take_any w.heap.size q f s S (l.take k) _ HF.out HSL.out HS.out HT.out).mono ?_
        rintro e w2 ⟨rfl, hf, hb⟩
        have HF2 := Lib.hid hf
        have HB2 := Lib.hid (HB.out.trans hb)
        clear hf hb c0
        rw [HN.out] at HF2
        go_wp2
        go_roundw
        case rel => exact ⟨k + 1, by omega, by go_num, HF2.out, HB2.out⟩
        case measure => simp [intOf] <;> omega
      · obtain rfl : k = 20 := by omega
        have hff := HF.out
        rw [show l.take 20 = l by rw [← HLEN.out, List.take_length]] at hff
        obtain ⟨vt, vp, vo, L, b, gp, go, m, P, O, C, B, hD⟩ := hff
        have hbm := hD.bm
        rw [HLEN.out] at hbm
        have HFO : Hid (∀ u : List Bool, u.length = 127 → u.count true ≤ 10 → castL (syn u) = castL l → L ≤ 10 ∧ zw P = u) := by
          intro u hu hc hs
          have hs2 := castL_inj _ _ hs
          exact found S C B L m b P hbm hD.cP hD.elP u hu hc fun i hi => by rw [← HSG.out i]; exact syn_seq l u hs2 i hi
        have HFW : Hid ((zw P).count true ≤ L) := zw_few S C L 20 P hbm.gen hD.cP hD.elP
        have HPL : Hid (P.length ≤ 1000) := by have := hD.lp.2; have := HLEN.out; unfold Hid; omega
        have HROW := Lib.hid hD.row
        have HFD := Lib.hid hD.fd
        have HPO := Lib.hid hD.poly
        have HPE := Lib.hid hD.elP
        have hLN := hD.bm.len
        rw [HLEN.out] at hLN
        clear hbm hD HF
        obtain ⟨c0, c1, c2, c3, c4, c5⟩ := fin_cells HROW.out
        by_cases hL : L ≤ 10
        · have hL2 : ¬ (10 < (L : Int)) := by omega
          have hL3 : ¬ ((L : Int) > 10) := by omega
          have hz := word_zero
          go_wp2_with fail
          clear c0 c1 c2 c3 c4 c5 hL2 hL3
          refine (places_any P q f gp L b vt vp vo _ HPE.out HPL.out HROW.out HPO.out HFD.out).mono ?_
          rintro e w2 ⟨pv, rfl, hown, hb⟩
          have HB2 := Lib.hid (HB.out.trans (hb.mono HB.out.size))
          rw [plN_pos P 127 (by omega)] at hown
          have hul := zw_length P
          obtain ⟨u, hu⟩ : ∃ u, zw P = u := ⟨_, rfl⟩
          rw [hu] at hown hul HFW HFO
          have HUL := Lib.hid hul
          have HIN := Lib.hid (own_ints hown)
          have HFL := Lib.hid (flips_all u hul)
          have HFEW := Lib.hid (pos_few u 127)
          have HPLT := Lib.hid (pos_lt u 127)
          obtain ⟨ps, hps⟩ : ∃ ps, pos u 127 = ps := ⟨_, rfl⟩
          have HPS := Lib.hid fun _ : Unit => hps
          rw [hps] at HIN HFL HFEW HPLT
          clear hown hb HB hu hul hps HROW HFD HPO
          go_wp2_with fail
          clear hz
          refine (flip_any w0 ps pv _ w0_length HPLT.out (by have := HFEW.out; omega) HIN.out).mono ?_
          rintro e w3 ⟨rfl, hb⟩
          rw [HFL.out]
          have HB3 := Lib.hid (HB2.out.trans (hb.mono HB2.out.size))
          have HIN3 := Lib.hid (HIN.out.below hb)
          clear hb HB2 HIN
          go_wp2_with fail
          refine (syn_any u _ HUL.out).mono ?_
          rintro e w4 ⟨g, hg, rfl, hr, hb⟩
          have HB4 := Lib.hid (HB3.out.trans (hb.mono HB3.out.size))
          have HIN4 := Lib.hid (HIN3.out.below hb)
          have HR4 := Lib.hid hr
          clear hb hr hg HB3 HIN3
          have HC4 : Hid (0 < 20 → ∃ b off, a = some ⟨b, off, none⟩ ∧ b < w4.heap.size ∧ ∀ i, i < 20 → w4.cell? ⟨b, off + i, none⟩ = some (.int .i64 ((castL l).getD i 0))) := by
            intro h0
            obtain ⟨b0, off, h1, h2, h3⟩ := HC.out h0
            exact ⟨b0, off, h1, Nat.lt_of_lt_of_le h2 HB4.out.size, fun i hi => (HB4.out.cell (p := ⟨b0, off + i, none⟩) h2).trans (h3 i hi)⟩
          go_wp2_with fail
          refine (equal_any g a cap (syn u) l _ (syn_length u) HLEN.out HR4.out HC4.out).mono ?_
          rintro e w5 ⟨rfl, nq, rfl⟩
          have HB5 : Hid (Below w.heap.size w (w4.drewN nq)) := Below.drewN HB4.out nq
          have HIN5 : Hid (IntsAt (w4.drewN nq) pv (castL ps)) := HIN4.out
          generalize w4.drewN nq = w5 at *
          clear HC4 HR4 HIN4 HB4 w4
          by_cases he : syn u = l
          · have HE := Lib.hid fun _ : Unit => he
            rw [show decide (syn u = l) = true by rw [decide_eq_true_iff]; exact he]
            clear he
            go_wp2
            go_ret2
            exact ⟨pv, true, ps, rfl, HIN5.out, Or.inl ⟨rfl, u, HUL.out, by have := HFW.out; omega, by rw [HE.out ()], (HPS.out ()).symm⟩, HB5.out⟩
          · have HE := Lib.hid he
            rw [show decide (syn u = l) = false by rw [decide_eq_false_iff_not]; exact he]
            clear he
            go_wp2
            go_ret2
            refine ⟨_, false, [], rfl, IntsAt.nil _, Or.inr ⟨rfl, rfl, fun u' h1 h2 h3 => ?_⟩, HB5.out⟩
            have := (HFO.out u' h1 h2 h3).2
            rw [← this] at h3
            exact HE.out (castL_inj _ _ h3)
        · have hL2 : (L : Int) > 10 := by omega
          have HL := Lib.hid hL
          clear hL
          go_wp2
          go_ret2
          exact ⟨_, false, [], rfl, IntsAt.nil _, Or.inr ⟨rfl, rfl, fun u h1 h2 h3 => absurd (HFO.out u h1 h2 h3).1 HL.out⟩, HB.out⟩
  · have hpf : prp xs = false := by cases h : prp xs with
      | false => rfl
      | true => exact absurd h hp
    have HN : Hid (∀ u : List Bool, u.length = 127 → u.count true ≤ 10 → castL (syn u) ≠ xs) := by
      intro u _ _ e
      rw [← e, prp_syn] at hpf
      cases hpf
    rw [hpf] at HP
    clear hcells hp hpf
    go_enter Try.func18, Try.ntmps18
    go_wp2_with fail
    refine (HP.out _ HI.out).mono ?_
    rintro e w1 ⟨rfl, rfl⟩
    go_wp2
    go_ret2
    exact ⟨_, false, [], rfl, IntsAt.nil _, Or.inr ⟨rfl, rfl, HN.out⟩, Below.refl _ _⟩
end Go.Proofs.Ytbokecpcefcimaa
