/-
  Contracts and plain facts that the laws share, part 11; each piece is headed by what it holds and its conditions.
-/
import Derived.Test.YtmfnjjkbfabonaaDoorQ08
import Derived.Test.YtmfnjjkbfabonaaDoorQ10
import Derived.Deep.Cut

/- The contract of layer 6's Locate. Condition: the numbers lie where they can be read. -/
namespace Go.Proofs.YtmfnjjkbfabonaaDoor
open Go.RowKit
open M

/-- What Locate answers. -/
def Loc (xs : List Int) (ok : Bool) (ps : List Nat) : Prop :=
  (ok = true ∧ ∃ u : List Bool, u.length = 127 ∧ u.count true ≤ 10 ∧ castL (syn u) = xs ∧ ps = pos u 127) ∨
  (ok = false ∧ ps = [] ∧ ∀ u : List Bool, u.length = 127 → u.count true ≤ 10 → castL (syn u) ≠ xs)
theorem castL_inj (a b : List Nat) (h : castL a = castL b) : a = b := by
  unfold castL at h
  have hl : a.length = b.length := by
    have := congrArg List.length h
    simpa using this
  apply List.ext_getElem hl
  intro i h1 h2
  have h3 := congrArg (fun l => l.getD i 0) h
  simp only [List.getD_eq_getElem?_getD, List.getElem?_map, List.getElem?_eq_getElem h1, List.getElem?_eq_getElem h2, Option.map_some, Option.getD_some] at h3
  omega
theorem syn_els (e : List Bool) : Els (syn e) := by
  intro c hc
  unfold syn sj at hc
  obtain ⟨i, _, rfl⟩ := List.mem_map.1 hc
  show (if i < 20 then ev (E (i + 1)) (wp e) else 0) < 128
  split
  · exact ev_lt _ (E_any _) _ (wp_els e)
  · omega
theorem prp_syn (e : List Bool) : prp (castL (syn e)) = true := by
  rw [prp_in]
  refine ⟨by rw [castL_length, syn_length], fun i _ => ?_⟩
  rw [castL_getD]
  have := (syn_els e).getD i
  omega
theorem prp_nats (xs : List Int) (h : prp xs = true) : ∃ l : List Nat, castL l = xs ∧ Els l ∧ l.length = 20 := by
  obtain ⟨h1, h2⟩ := (prp_in xs).1 h
  refine ⟨xs.map Int.toNat, ?_, ?_, by rw [List.length_map, h1]⟩
  · unfold castL
    rw [List.map_map]
    conv => rhs; rw [← List.map_id xs]
    apply List.map_congr_left
    intro a ha
    obtain ⟨i, hi, rfl⟩ := List.getElem_of_mem ha
    have := h2 i hi
    rw [List.getD_eq_getElem?_getD, List.getElem?_eq_getElem hi] at this
    simp only [Option.getD_some] at this
    simp only [Function.comp_apply, id_eq]
    omega
  · intro c hc
    obtain ⟨a, ha, rfl⟩ := List.mem_map.1 hc
    obtain ⟨i, hi, rfl⟩ := List.getElem_of_mem ha
    have := h2 i hi
    rw [List.getD_eq_getElem?_getD, List.getElem?_eq_getElem hi] at this
    simp only [Option.getD_some] at this
    omega
theorem take_next (l : List Nat) (k : Nat) (h : k < l.length) : l.take k ++ [l.getD k 0] = l.take (k + 1) := by
  rw [List.take_succ_eq_append_getElem h, List.getD_eq_getElem?_getD, List.getElem?_eq_getElem h]; rfl
theorem IntsAt.nil (w : World) : IntsAt w (.slice none 0 0) (castL []) := ⟨none, 0, rfl, fun h => by simp [castL] at h⟩
/-- slices.Equal of syndromes and of a list as long. -/
theorem equal_any (g : Nat) (a : Option Addr) (cap : Nat) (s l : List Nat) (w : World) (hs : s.length = 20) (hl : l.length = 20) (hr : Row w g 3 (natCells s))
    (ha : 0 < 20 → ∃ b off, a = some ⟨b, off, none⟩ ∧ b < w.heap.size ∧ ∀ i, i < 20 → w.cell? ⟨b, off + i, none⟩ = some (.int .i64 ((castL l).getD i 0))) :
    Calls Tryd.prog 59 #[.slice (some ⟨g, 0, none⟩) 20 20, .slice a 20 cap] w fun e w' => e = .returned (.bool (decide (s = l))) ∧ Qt w w' := by
  obtain ⟨b, off, rfl, _, hc⟩ := ha (by omega)
  have k := Any.slices_Equal_int laysEq g 0 20 20 b off 20 cap (castL s) (castL l) w (by rw [castL_length, hs]; omega) (by rw [castL_length, hl]; omega) (by omega) (by omega)
    (fun j hj => by
      rw [castL_length] at hj
      rw [Nat.zero_add, nat_at hr j hj, castL_getD])
    (fun j hj => by
      rw [castL_length, hl] at hj
      exact hc j hj)
  refine Calls.mono k ?_
  rintro e w' ⟨rfl, q, rfl⟩
  refine ⟨?_, q, rfl⟩
  congr 2
  have e1 : (castL s).take 20 = castL s := by rw [← hs, ← castL_length s, List.take_length]
  have e2 : (castL l).take 20 = castL l := by rw [← hl, ← castL_length l, List.take_length]
  rw [e1, e2, Bool.eq_iff_iff, beq_iff_eq, decide_eq_true_iff]
  exact ⟨castL_inj s l, fun h => by rw [h]⟩

set_option maxRecDepth 100000 in
set_option maxHeartbeats 2000000 in
theorem locate_any (xs : List Int) (v : Value) (w : World) (h : IntsAt w v xs) :
    Calls Tryd.prog 33 #[v] w fun e w' => ∃ r ok ps, e = .returned (.tuple #[r, .bool ok]) ∧ IntsAt w' r (castL ps) ∧ Loc xs ok ps ∧ Below w.heap.size w w' := by
  have HP := Lib.hid fun W => proper_any xs v W
  have HI := Lib.hid h
  obtain ⟨a, cap, rfl, hcells⟩ := h
  by_cases hp : prp xs = true
  · obtain ⟨l, hl, hels, hlen⟩ := prp_nats xs hp
    rw [hp] at HP
    subst hl
    rw [castL_length, hlen] at hcells HP HI ⊢
    have HC := Lib.hid hcells
    have HELS := Lib.hid hels
    have HLEN := Lib.hid hlen
    obtain ⟨S, hS⟩ : ∃ S : Nat → Nat, S = fun n => l.getD n 0 := ⟨_, rfl⟩
    have HSG : Hid (∀ n, l.getD n 0 = S n) := fun n => by rw [hS]
    have HSL : Hid (∀ n, S n < 128) := fun n => by rw [hS]; exact hels.getD n
    clear hcells hels hlen hS hp
    go_enter Tryd.func33, Tryd.ntmps33
    go_wp2_with fail
    refine (HP.out _ HI.out).mono ?_
    rintro e w1 ⟨rfl, rfl⟩
    go_wp2_with fail
    refine (newFinder_any _ S).mono ?_
    rintro e w1 ⟨q, f, rfl, hf, hb⟩
    have HF := Lib.hid hf
    have HB := Lib.hid hb
    clear hf hb HP
    go_wp2
    go_loopw [17] (fun i wr => ∃ k : Nat, k ≤ 20 ∧ i = .int .i64 (k : Nat) ∧ Find wr w.heap.size q f S (l.take k) ∧ Below w.heap.size w wr) (fun i _ => 20 - (intOf i).toNat)
    case atStart => exact ⟨0, by omega, rfl, HF.out, HB.out⟩
    case round =>
      clear HF HB
      obtain ⟨k, hk, rfl, h1, h2⟩ := hrel
      have HF := Lib.hid h1
      have HB := Lib.hid h2
      clear h1 h2
      by_cases hlt : k < 20
      · obtain ⟨b0, off, rfl, hbw, hcc⟩ := HC.out (by omega)
        have hcj := hcc k hlt
        rw [castL_getD] at hcj
        have c0 : wr.cell? ⟨b0, off + k, none⟩ = some (.int .i64 (l.getD k 0 : Nat)) := (HB.out.cell (p := ⟨b0, off + k, none⟩) hbw).trans hcj
        have HN := Lib.hid (take_next l k (by have := HLEN.out; omega))
        have HS : Hid (S (l.take k).length = l.getD k 0) := by
          unfold Hid
          rw [List.length_take, HLEN.out, Nat.min_eq_left (by omega), HSG.out]
        have HT : Hid ((l.take k).length ≤ 100) := by
          unfold Hid
          rw [List.length_take, HLEN.out]
          omega
        generalize l.getD k 0 = s at *
        clear hcc hcj
        go_wp2_with fail
        refine (take_any w.heap.size q f s S (l.take k) _ HF.out HSL.out HS.out HT.out).mono ?_
        rintro e w2 ⟨rfl, hf, hb⟩
        have HF2 := Lib.hid hf
        have HB2 := Lib.hid (HB.out.trans hb)
        clear hf hb c0
        rw [HN.out] at HF2
        go_wp2
        go_roundw
        case rel => exact ⟨k + 1, by omega, by go_num, HF2.out, HB2.out⟩
        case measure => simp [intOf] <;> omega
      · obtain rfl : k = 20 := by omega
        have hff := HF.out
        rw [show l.take 20 = l by rw [← HLEN.out, List.take_length]] at hff
        obtain ⟨vt, vp, vo, L, b, gp, go, m, P, O, C, B, hD⟩ := hff
        have hbm := hD.bm
        rw [HLEN.out] at hbm
        have HFO : Hid (∀ u : List Bool, u.length = 127 → u.count true ≤ 10 → castL (syn u) = castL l → L ≤ 10 ∧ zw P = u) := by
          intro u hu hc hs
          have hs2 := castL_inj _ _ hs
          exact found S C B L m b P hbm hD.cP hD.elP u hu hc fun i hi => by rw [← HSG.out i]; exact syn_seq l u hs2 i hi
        have HFW : Hid ((zw P).count true ≤ L) := zw_few S C L 20 P hbm.gen hD.cP hD.elP
        have HPL : Hid (P.length ≤ 1000) := by have := hD.lp.2; have := HLEN.out; unfold Hid; omega
        have HROW := Lib.hid hD.row
        have HFD := Lib.hid hD.fd
        have HPO := Lib.hid hD.poly
        have HPE := Lib.hid hD.elP
        have hLN := hD.bm.len
        rw [HLEN.out] at hLN
        clear hbm hD HF
        obtain ⟨c0, c1, c2, c3, c4, c5⟩ := fin_cells HROW.out
        by_cases hL : L ≤ 10
        · have hL2 : ¬ (10 < (L : Int)) := by omega
          have hL3 : ¬ ((L : Int) > 10) := by omega
          have hz := word_zero
          go_wp2_with fail
          clear c0 c1 c2 c3 c4 c5 hL2 hL3
          refine (places_any P q f gp L b vt vp vo _ HPE.out HPL.out HROW.out HPO.out HFD.out).mono ?_
          rintro e w2 ⟨pv, rfl, hown, hb⟩
          have HB2 := Lib.hid (HB.out.trans (hb.mono HB.out.size))
          rw [plN_pos P 127 (by omega)] at hown
          have hul := zw_length P
          obtain ⟨u, hu⟩ : ∃ u, zw P = u := ⟨_, rfl⟩
          rw [hu] at hown hul HFW HFO
          have HUL := Lib.hid hul
          have HIN := Lib.hid (own_ints hown)
          have HFL := Lib.hid (flips_all u hul)
          have HFEW := Lib.hid (pos_few u 127)
          have HPLT := Lib.hid (pos_lt u 127)
          obtain ⟨ps, hps⟩ : ∃ ps, pos u 127 = ps := ⟨_, rfl⟩
          have HPS := Lib.hid fun _ : Unit => hps
          rw [hps] at HIN HFL HFEW HPLT
          clear hown hb HB hu hul hps HROW HFD HPO
          go_wp2_with fail
          clear hz
          refine (flip_any w0 ps pv _ w0_length HPLT.out (by have := HFEW.out; omega) HIN.out).mono ?_
          rintro e w3 ⟨rfl, hb⟩
          rw [HFL.out]
          have HB3 := Lib.hid (HB2.out.trans (hb.mono HB2.out.size))
          have HIN3 := Lib.hid (HIN.out.below hb)
          clear hb HB2 HIN
          go_wp2_with fail
          refine (syn_any u _ HUL.out).mono ?_
          rintro e w4 ⟨g, hg, rfl, hr, hb⟩
          have HB4 := Lib.hid (HB3.out.trans (hb.mono HB3.out.size))
          have HIN4 := Lib.hid (HIN3.out.below hb)
          have HR4 := Lib.hid hr
          clear hb hr hg HB3 HIN3
          have HC4 : Hid (0 < 20 → ∃ b off, a = some ⟨b, off, none⟩ ∧ b < w4.heap.size ∧ ∀ i, i < 20 → w4.cell? ⟨b, off + i, none⟩ = some (.int .i64 ((castL l).getD i 0))) := by
            intro h0
            obtain ⟨b0, off, h1, h2, h3⟩ := HC.out h0
            exact ⟨b0, off, h1, Nat.lt_of_lt_of_le h2 HB4.out.size, fun i hi => (HB4.out.cell (p := ⟨b0, off + i, none⟩) h2).trans (h3 i hi)⟩
          go_wp2_with fail
          refine (equal_any g a cap (syn u) l _ (syn_length u) HLEN.out HR4.out HC4.out).mono ?_
          rintro e w5 ⟨rfl, nq, rfl⟩
          have HB5 : Hid (Below w.heap.size w (w4.drewN nq)) := Below.drewN HB4.out nq
          have HIN5 : Hid (IntsAt (w4.drewN nq) pv (castL ps)) := HIN4.out
          generalize w4.drewN nq = w5 at *
          clear HC4 HR4 HIN4 HB4 w4
          by_cases he : syn u = l
          · have HE := Lib.hid fun _ : Unit => he
            rw [show decide (syn u = l) = true by rw [decide_eq_true_iff]; exact he]
            clear he
            go_wp2
            go_ret2
            exact ⟨pv, true, ps, rfl, HIN5.out, Or.inl ⟨rfl, u, HUL.out, by have := HFW.out; omega, by rw [HE.out ()], (HPS.out ()).symm⟩, HB5.out⟩
          · have HE := Lib.hid he
            rw [show decide (syn u = l) = false by rw [decide_eq_false_iff_not]; exact he]
            clear he
            go_wp2
            go_ret2
            refine ⟨_, false, [], rfl, IntsAt.nil _, Or.inr ⟨rfl, rfl, fun u' h1 h2 h3 => ?_⟩, HB5.out⟩
            have := (HFO.out u' h1 h2 h3).2
            rw [← this] at h3
            exact HE.out (castL_inj _ _ h3)
        · have hL2 : (L : Int) > 10 := by omega
          have HL := Lib.hid hL
          clear hL
          go_wp2
          go_ret2
          exact ⟨_, false, [], rfl, IntsAt.nil _, Or.inr ⟨rfl, rfl, fun u h1 h2 h3 => absurd (HFO.out u h1 h2 h3).1 HL.out⟩, HB.out⟩
  · have hpf : prp xs = false := by cases h : prp xs with
      | false => rfl
      | true => exact absurd h hp
    have HN : Hid (∀ u : List Bool, u.length = 127 → u.count true ≤ 10 → castL (syn u) ≠ xs) := by
      intro u _ _ e
      rw [← e, prp_syn] at hpf
      cases hpf
    rw [hpf] at HP
    clear hcells hp hpf
    go_enter Tryd.func33, Tryd.ntmps33
    go_wp2_with fail
    refine (HP.out _ HI.out).mono ?_
    rintro e w1 ⟨rfl, rfl⟩
    go_wp2
    go_ret2
    exact ⟨_, false, [], rfl, IntsAt.nil _, Or.inr ⟨rfl, rfl, HN.out⟩, Below.refl _ _⟩
end Go.Proofs.YtmfnjjkbfabonaaDoor

/- Plain facts for layer 6: what Amend answers. No program is named here. No conditions. -/
namespace Go.Proofs.YtmfnjjkbfabonaaDoor
open Go.RowKit
open M

/-- What Amend answers of a word and holes: a number, and 0, or 5. -/
def Am (l h : List Bool) (x : BitVec 64) (n : Int) : Prop :=
  (n = 0 ∧ farN l h (cwd x) 127 ≤ 20) ∨ (n = 5 ∧ x = 0 ∧ ∀ y, 20 < farN l h (cwd y) 127)
theorem flips_wxN (F u : List Bool) (hF : F.length = 127) (j : Nat) (hj : j ≤ 127) : flips F (pos u j) = (List.range 127).map fun i => if i < j then F.getD i false != u.getD i false else F.getD i false := by
  induction j with
  | zero =>
    show F = _
    rw [tab_congr 127 _ (fun i => F.getD i false) (fun i _ => if_neg (by omega)), tab_of _ false 127 hF]
  | succ j ih =>
    have ih := ih (by omega)
    unfold pos
    by_cases hb : u.getD j false = true
    · rw [if_pos hb, flips_snoc, ih]
      unfold M.flip
      rw [tab_getD _ _ _ _ (by omega), if_neg (by omega)]
      apply tab_set
      · rw [if_pos (by omega), hb]
        cases F.getD j false <;> rfl
      · intro i e
        rcases Nat.lt_or_ge i j with h1 | h1
        · rw [if_pos h1, if_pos (by omega)]
        · rw [if_neg (by omega), if_neg (by omega)]
    · rw [if_neg hb, ih]
      apply tab_congr
      intro i _
      by_cases e : i = j
      · subst e
        rw [if_neg (by omega), if_pos (by omega)]
        cases h : u.getD i false
        · cases F.getD i false <;> rfl
        · exact absurd h hb
      · rcases Nat.lt_or_ge i j with h1 | h1
        · rw [if_pos h1, if_pos (by omega)]
        · rw [if_neg (by omega), if_neg (by omega)]
/-- A word with the bits changed at another word's places is their sum. -/
theorem flips_wx (F u : List Bool) (hF : F.length = 127) (hu : u.length = 127) : flips F (pos u 127) = wx F u := by
  rw [flips_wxN F u hF 127 (by omega)]
  apply bext _ _ (by rw [List.length_map, List.length_range, wx_length _ _ (by omega), hF])
  intro i hi
  rw [List.length_map, List.length_range] at hi
  rw [tab_getD _ _ _ _ hi, if_pos hi, wx_getD _ _ _ (by omega)]
theorem syn_of_sq (a b : List Bool) (h : ∀ n, n < 20 → sq a n = sq b n) : syn a = syn b := by
  unfold syn sj
  apply tab_congr
  intro i hi
  rw [if_pos hi, if_pos hi]
  exact h i hi
theorem sq_of_syn (a b : List Bool) (h : syn a = syn b) (n : Nat) (hn : n < 20) : sq a n = sq b n := by
  have h1 := syn_getD a n hn
  rw [h, syn_getD b n hn] at h1
  exact h1.symm
theorem amend_cw (F u : List Bool) (hF : F.length = 127) (hu : u.length = 127) (h : castL (syn u) = castL (syn F)) : Cw (wx F u) := by
  intro i h1 h2
  rw [ev_wx _ (E_any _) F u (by omega)]
  have := sq_of_syn _ _ (castL_inj _ _ h) (i - 1) (by omega)
  unfold sq at this
  rw [show i - 1 + 1 = i by omega] at this
  rw [this, Nat.xor_self]
theorem amend_no1 (F : List Bool) (hF : F.length = 127) (h : ∀ u : List Bool, u.length = 127 → u.count true ≤ 10 → castL (syn u) ≠ castL (syn F)) (c : List Bool) (hc : c.length = 127) (kc : Cw c) : 10 < dst F c := by
  rcases Nat.lt_or_ge 10 (dst F c) with h1 | h1
  · exact h1
  · exfalso
    refine h (wx F c) (by rw [wx_length _ _ (by omega), hF]) h1 ?_
    rw [syn_of_sq (wx F c) F fun n hn => sq_err F c hF hc kc n hn]
theorem amend_no2 (F u : List Bool) (hF : F.length = 127) (hu : u.length = 127) (hn : u.count true ≤ 10) (h : castL (syn u) = castL (syn F)) (c : List Bool) (hc : c.length = 127) (kc : Cw c) (hd : dst F c ≤ 10) : wx F u = c := by
  have e : u = wx F c := by
    refine sq_one u (wx F c) hu (by rw [wx_length _ _ (by omega), hF]) hn hd fun n hn => ?_
    rw [sq_err F c hF hc kc n hn]
    exact sq_of_syn _ _ (castL_inj _ _ h) n hn
  rw [e]
  exact wx_wx F c (by omega)
/-- What is known of the codewords once k fillings have been tried. -/
def NF (l h : List Bool) (k : Nat) : Prop := ∀ y, farN l h (cwd y) 127 ≤ 20 → (1 ≤ k → 10 < dst (M.fill l h false) (cwd y)) ∧ (2 ≤ k → 10 < dst (M.fill l h true) (cwd y))
theorem nf_zero (l h : List Bool) : NF l h 0 := fun _ _ => ⟨fun h => by omega, fun h => by omega⟩
theorem nf_next (l h : List Bool) (k : Nat) (b : Bool) (hk : b = decide (k = 1)) (hk2 : k < 2) (hn : NF l h k) (ht : ∀ y, farN l h (cwd y) 127 ≤ 20 → 10 < dst (M.fill l h b) (cwd y)) : NF l h (k + 1) := by
  intro y hy
  have h1 := hn y hy
  have h2 := ht y hy
  have hk3 : k = 0 ∨ k = 1 := by omega
  rcases hk3 with rfl | rfl
  · have hb : b = false := by rw [hk]; rfl
    rw [hb] at h2
    exact ⟨fun _ => h2, fun h => by omega⟩
  · have hb : b = true := by rw [hk]; rfl
    rw [hb] at h2
    exact ⟨fun _ => h1.1 (by omega), fun _ => h2⟩
theorem nf_end (l h : List Bool) (hn : NF l h 2) (y : BitVec 64) : 20 < farN l h (cwd y) 127 := by
  rcases Nat.lt_or_ge 20 (farN l h (cwd y) 127) with h1 | h1
  · exact h1
  · exfalso
    have h2 := hn y h1
    have h3 := h2.1 (by omega)
    have h4 := h2.2 (by omega)
    rcases fill_few l h (cwd y) (cwd_length y) h1 with h5 | h5 <;> omega
/-- Found, and near: it is the codeword of what it tells. -/
theorem am_found (l h F u : List Bool) (hF : F.length = 127) (hu : u.length = 127) (hs : castL (syn u) = castL (syn F)) (hn : farN l h (wx F u) 127 ≤ 20) : Am l h (told (wx F u)) 0 := by
  have hl : (wx F u).length = 127 := by rw [wx_length _ _ (by omega), hF]
  have hc := cw_told (wx F u) hl (amend_cw F u hF hu hs)
  exact Or.inl ⟨rfl, by rw [← hc]; exact hn⟩
theorem far_holes (l h c : List Bool) (hh : h.length = 127) : h.count true ≤ farN l h c 127 := by
  have := far_all l h c hh
  omega
theorem loc_few (xs : List Int) (ok : Bool) (ps : List Nat) (h : Loc xs ok ps) : (∀ i ∈ ps, i < 127) ∧ ps.length ≤ 1000 := by
  rcases h with ⟨_, u, _, _, _, rfl⟩ | ⟨_, rfl, _⟩
  · exact ⟨pos_lt u 127, by have := pos_few u 127; omega⟩
  · exact ⟨fun i hi => (by cases hi), (by simp)⟩
end Go.Proofs.YtmfnjjkbfabonaaDoor

/- The contract of layer 6's Amend. Condition: words have 127 bits. -/
namespace Go.Proofs.YtmfnjjkbfabonaaDoor
open Go.RowKit
open M

set_option maxRecDepth 100000 in
set_option maxHeartbeats 4000000 in
theorem amend_any (l h : List Bool) (w : World) (hl : l.length = 127) (hh : h.length = 127) :
    Calls Tryd.prog 22 #[.agg (boolCells l), .agg (boolCells h)] w fun e w' => ∃ x n, e = .returned (.tuple #[.int .u64 (un x), .int .i64 n]) ∧ Am l h x n ∧ Below w.heap.size w w' := by
  have r0 : Row ((w.alloc (.cells (boolCells l) 40)).alloc (.cells (boolCells h) 40)) w.heap.size 40 (boolCells l) := (row_new w _ rfl _ _).alloc _
  have r1 : Row ((w.alloc (.cells (boolCells l) 40)).alloc (.cells (boolCells h) 40)) (w.heap.size + 1) 40 (boolCells h) := row_new _ _ (by simp) _ _
  have HB0 : Hid (Below w.heap.size w ((w.alloc (.cells (boolCells l) 40)).alloc (.cells (boolCells h) 40))) := ((Below.refl _ _).alloc (Nat.le_refl _) _).alloc (by simp) _
  have HR0 := Lib.hid r0
  have HR1 := Lib.hid r1
  have HL := Lib.hid hl
  have HH := Lib.hid hh
  have HSL := Lib.hid fun _ : Unit => word_size l hl
  have HSH := Lib.hid fun _ : Unit => word_size h hh
  have HMANY : Hid (20 < h.count true → Am l h 0 5) := fun k => Or.inr ⟨rfl, rfl, fun y => Nat.lt_of_lt_of_le k (far_holes l h _ hh)⟩
  have hcl := count_le h
  have HFILL := Lib.hid fun (b : Bool) (W : World) => fill_any l h b W hl hh
  clear r0 r1 hl hh
  go_enter Tryd.func22, Tryd.ntmps22
  go_wp2_with (first
    | (refine wpList_load_row rfl 40 (.tmp 3) rfl (w.heap.size + 1) rfl 40 (boolCells h) (0, 0) _ HR1.out Tryd.underlying40 rfl (HSH.out ()) ?_))
  refine (count_any h _ HH.out).mono ?_
  rintro e w2 ⟨rfl, hb⟩
  have HB2 := Lib.hid (HB0.out.trans (hb.mono HB0.out.size))
  have HL2 := Lib.hid (HR0.out.box hb)
  have HH2 := Lib.hid (HR1.out.box hb)
  clear hb HR0 HR1 HB0
  rw [HH.out] at hcl
  obtain ⟨n, hn⟩ : ∃ n, h.count true = n := ⟨_, rfl⟩
  rw [hn] at HMANY hcl ⊢
  clear hn
  by_cases h20 : 20 < n
  · have h20' : (n : Int) > 20 := by omega
    go_wp2
    go_ret2
    exact ⟨0, 5, rfl, HMANY.out h20, HB2.out⟩
  · have h20' : ¬ ((n : Int) > 20) := by omega
    have h20'' : ¬ (20 < (n : Int)) := by omega
    go_wp2
    clear h20' h20''
    have hs2 := HB2.out.size
    have HV : Hid (Row (w2.alloc (.cells #[.bool false, .bool true] 4)) w2.heap.size 4 #[.bool false, .bool true]) := heap_alloc_new _ _
    have HL3 := Lib.hid (HL2.out.alloc (.cells #[.bool false, .bool true] 4))
    have HH3 := Lib.hid (HH2.out.alloc (.cells #[.bool false, .bool true] 4))
    have HB3 := Lib.hid (HB2.out.alloc hs2 (.cells #[.bool false, .bool true] 4))
    clear HL2 HH2 HB2 hs2
    generalize w2.heap.size = gv at *
    generalize w2.alloc (.cells #[.bool false, .bool true] 4) = w3 at *
    go_loopw [17] (fun i wr => ∃ k : Nat, k ≤ 2 ∧ i = .int .i64 (k : Nat) ∧ Row wr w.heap.size 40 (boolCells l) ∧ Row wr (w.heap.size + 1) 40 (boolCells h) ∧ Row wr gv 4 #[.bool false, .bool true] ∧ NF l h k ∧ Below w.heap.size w wr) (fun i _ => 2 - (intOf i).toNat)
    case atStart => exact ⟨0, by omega, rfl, HL3.out, HH3.out, HV.out, nf_zero l h, HB3.out⟩
    case round =>
      clear HL3 HH3 HV HB3
      obtain ⟨k, hk, rfl, h1, h2, h3, h4, h5⟩ := hrel
      have HLR := Lib.hid h1
      have HHR := Lib.hid h2
      have HV := Lib.hid h3
      have HNF := Lib.hid h4
      have HB := Lib.hid h5
      clear h1 h2 h3 h4 h5
      by_cases hlt : k < 2
      · have c0 : wr.cell? ⟨gv, k, none⟩ = some (.bool (decide (k = 1))) := by
          rw [cell_of_row _ _ _ _ _ _ HV.out]
          have hk3 : k = 0 ∨ k = 1 := by omega
          rcases hk3 with rfl | rfl <;> rfl
        obtain ⟨b, hb⟩ : ∃ b, decide (k = 1) = b := ⟨_, rfl⟩
        rw [hb] at c0
        have HNX := Lib.hid (nf_next l h k b hb.symm hlt HNF.out)
        clear hb
        go_wp2_with (first
            | (refine wpList_load_row rfl 40 (.tmp 2) rfl w.heap.size rfl 40 (boolCells l) (0, 0) _ HLR.out Tryd.underlying40 rfl (HSL.out ()) ?_)
            | (refine wpList_load_row rfl 40 (.tmp 3) rfl (w.heap.size + 1) rfl 40 (boolCells h) (0, 0) _ HHR.out Tryd.underlying40 rfl (HSH.out ()) ?_))
        clear c0
        have hFl := fill_length l h b
        refine (HFILL.out b _).mono ?_
        rintro e w4 ⟨rfl, hb⟩
        have HL4 := Lib.hid (HLR.out.box hb)
        have HH4 := Lib.hid (HHR.out.box hb)
        have HV4 := Lib.hid (HV.out.box hb)
        have HB4 := Lib.hid (HB.out.trans (hb.mono HB.out.size))
        clear hb HLR HHR HV HB
        obtain ⟨F, hF⟩ : ∃ F, M.fill l h b = F := ⟨_, rfl⟩
        rw [hF] at HNX hFl ⊢
        have HFE := Lib.hid fun _ : Unit => hF
        have HFL := Lib.hid hFl
        have HSF := Lib.hid fun _ : Unit => word_size F hFl
        have HS0 : Hid (Unit → (boolCells w0).size = (boolCells F).size) := by intro _; rw [boolCells_size, boolCells_size, w0_length, HFL.out]
        clear hF hFl
        have hz := word_zero
        have H0 : Hid (Row (w4.alloc (.cells (boolCells w0) 40)) w4.heap.size 40 (boolCells w0)) := heap_alloc_new _ _
        go_upto_region 7 with (first
            | (refine wpList_store_row rfl 40 (.tmp 8) (.tmp 24) rfl w4.heap.size (boolCells F) rfl rfl 40 (boolCells w0) H0.out (HSF.out ()) (HS0.out ()) (boolCells_one F) ?_))
        have hg4 := HB4.out.size
        have hl4 := HL4.out.lt
        have hh4 := HH4.out.lt
        have hv4 := HV4.out.lt
        have HF5 : Hid (Row ((w4.alloc (.cells (boolCells w0) 40)).setRow w4.heap.size (boolCells F)) w4.heap.size 40 (boolCells F)) := Row.setRow H0.out _
        have HL5 : Hid (Row ((w4.alloc (.cells (boolCells w0) 40)).setRow w4.heap.size (boolCells F)) w.heap.size 40 (boolCells l)) := (setRow_other _ _ _ _ (by omega)).trans (HL4.out.alloc _)
        have HH5 : Hid (Row ((w4.alloc (.cells (boolCells w0) 40)).setRow w4.heap.size (boolCells F)) (w.heap.size + 1) 40 (boolCells h)) := (setRow_other _ _ _ _ (by omega)).trans (HH4.out.alloc _)
        have HV5 : Hid (Row ((w4.alloc (.cells (boolCells w0) 40)).setRow w4.heap.size (boolCells F)) gv 4 #[.bool false, .bool true]) := (setRow_other _ _ _ _ (by omega)).trans (HV4.out.alloc _)
        have HB5 : Hid (Below w.heap.size w ((w4.alloc (.cells (boolCells w0) 40)).setRow w4.heap.size (boolCells F))) := below_setRow (HB4.out.alloc hg4 _) hg4 _
        clear hz H0 HS0 HL4 HH4 HV4 HB4 hg4 hl4 hh4 hv4
        generalize (w4.alloc (.cells (boolCells w0) 40)).setRow w4.heap.size (boolCells F) = w5 at *
        generalize w4.heap.size = g8 at *
        go_wp2_with (first
            | (refine wpList_load_row rfl 40 (.tmp 8) rfl g8 rfl 40 (boolCells F) (0, 0) _ HF5.out Tryd.underlying40 rfl (HSF.out ()) ?_))
        refine (syn_any F _ HFL.out).mono ?_
        rintro e w6 ⟨g, hg, rfl, hr, hb⟩
        have HR6 := Lib.hid (row_ints (cap := 20) hr (syn_length F))
        have HF6 := Lib.hid (HF5.out.box hb)
        have HL6 := Lib.hid (HL5.out.box hb)
        have HH6 := Lib.hid (HH5.out.box hb)
        have HV6 := Lib.hid (HV5.out.box hb)
        have HB6 := Lib.hid (HB5.out.trans (hb.mono HB5.out.size))
        clear hg hr hb HF5 HL5 HH5 HV5 HB5
        go_wp2_with fail
        refine (locate_any (castL (syn F)) _ _ HR6.out).mono ?_
        rintro e w7 ⟨r, ok, ps, rfl, hin, hloc, hb⟩
        have HIN := Lib.hid hin
        have HLOC := Lib.hid hloc
        have HF7 := Lib.hid (HF6.out.box hb)
        have HL7 := Lib.hid (HL6.out.box hb)
        have HH7 := Lib.hid (HH6.out.box hb)
        have HV7 := Lib.hid (HV6.out.box hb)
        have HB7 := Lib.hid (HB6.out.trans (hb.mono HB6.out.size))
        clear hin hloc hb HF6 HL6 HH6 HV6 HB6 HR6
        go_wp2_with (first
            | (refine wpList_load_row rfl 40 (.tmp 8) rfl g8 rfl 40 (boolCells F) (0, 0) _ HF7.out Tryd.underlying40 rfl (HSF.out ()) ?_))
        refine (flip_any F ps r _ HFL.out (loc_few _ _ _ HLOC.out).1 (loc_few _ _ _ HLOC.out).2 HIN.out).mono ?_
        rintro e w8 ⟨rfl, hb⟩
        have HF8 := Lib.hid (HF7.out.box hb)
        have HL8 := Lib.hid (HL7.out.box hb)
        have HH8 := Lib.hid (HH7.out.box hb)
        have HV8 := Lib.hid (HV7.out.box hb)
        have HB8 := Lib.hid (HB7.out.trans (hb.mono HB7.out.size))
        clear hb HF7 HL7 HH7 HV7 HB7 HIN
        have hGl := flips_length F ps
        rw [HFL.out] at hGl
        obtain ⟨G, hG⟩ : ∃ G, flips F ps = G := ⟨_, rfl⟩
        rw [hG] at hGl ⊢
        have HGE := Lib.hid fun _ : Unit => hG
        have HGL := Lib.hid hGl
        have HSG := Lib.hid fun _ : Unit => word_size G hGl
        have HS0 : Hid (Unit → (boolCells w0).size = (boolCells G).size) := by intro _; rw [boolCells_size, boolCells_size, w0_length, HGL.out]
        clear hG hGl
        have hz := word_zero
        have H0 : Hid (Row (w8.alloc (.cells (boolCells w0) 40)) w8.heap.size 40 (boolCells w0)) := heap_alloc_new _ _
        go_upto_region 9 with (first
            | (refine wpList_store_row rfl 40 (.tmp 11) (.tmp 33) rfl w8.heap.size (boolCells G) rfl rfl 40 (boolCells w0) H0.out (HSG.out ()) (HS0.out ()) (boolCells_one G) ?_))
        have hg4 := HB8.out.size
        have hl4 := HL8.out.lt
        have hh4 := HH8.out.lt
        have hv4 := HV8.out.lt
        have HG9 : Hid (Row ((w8.alloc (.cells (boolCells w0) 40)).setRow w8.heap.size (boolCells G)) w8.heap.size 40 (boolCells G)) := Row.setRow H0.out _
        have HL9 : Hid (Row ((w8.alloc (.cells (boolCells w0) 40)).setRow w8.heap.size (boolCells G)) w.heap.size 40 (boolCells l)) := (setRow_other _ _ _ _ (by omega)).trans (HL8.out.alloc _)
        have HH9 : Hid (Row ((w8.alloc (.cells (boolCells w0) 40)).setRow w8.heap.size (boolCells G)) (w.heap.size + 1) 40 (boolCells h)) := (setRow_other _ _ _ _ (by omega)).trans (HH8.out.alloc _)
        have HV9 : Hid (Row ((w8.alloc (.cells (boolCells w0) 40)).setRow w8.heap.size (boolCells G)) gv 4 #[.bool false, .bool true]) := (setRow_other _ _ _ _ (by omega)).trans (HV8.out.alloc _)
        have HB9 : Hid (Below w.heap.size w ((w8.alloc (.cells (boolCells w0) 40)).setRow w8.heap.size (boolCells G))) := below_setRow (HB8.out.alloc hg4 _) hg4 _
        clear hz H0 HS0 HL8 HH8 HV8 HB8 hg4 hl4 hh4 hv4 HF8
        generalize (w8.alloc (.cells (boolCells w0) 40)).setRow w8.heap.size (boolCells G) = w9 at *
        generalize w8.heap.size = g9 at *
        cases ok
        · have HLN : Hid (∀ u : List Bool, u.length = 127 → u.count true ≤ 10 → castL (syn u) ≠ castL (syn F)) := by
            rcases HLOC.out with ⟨h1, _⟩ | ⟨_, _, h1⟩
            · cases h1
            · exact h1
          go_wp2
          go_roundw
          case rel =>
            exact ⟨k + 1, by omega, by go_num, HL9.out, HH9.out, HV9.out, HNX.out fun y hy => amend_no1 F HFL.out HLN.out (cwd y) (cwd_length y) (cwd_cw y), HB9.out⟩
          case measure => simp [intOf] <;> omega
        · have HLY : Hid (∃ u : List Bool, u.length = 127 ∧ u.count true ≤ 10 ∧ castL (syn u) = castL (syn F) ∧ ps = pos u 127) := by
            rcases HLOC.out with ⟨_, h1⟩ | ⟨h1, _⟩
            · exact h1
            · cases h1
          obtain ⟨u, hu1, hu2, hu3, hu4⟩ := HLY.out
          have HGW : Hid (Unit → G = wx F u) := by
            intro _
            rw [← HGE.out (), hu4]
            exact flips_wx F u HFL.out hu1
          have HU1 := Lib.hid hu1
          have HU2 := Lib.hid hu2
          have HU3 := Lib.hid fun _ : Unit => hu3
          clear hu1 hu2 hu3 hu4 HLY
          have HWI := Lib.hid fun W => within_any l h G W HL.out HH.out HGL.out
          have HIF := Lib.hid fun W => info_any G W HGL.out
          have HRES : Hid (farN l h G 127 ≤ 20 → Am l h (told G) 0) := by
            intro hn
            rw [HGW.out ()] at hn ⊢
            exact am_found l h F u HFL.out HU1.out (HU3.out ()) hn
          have HNO : Hid (¬ (farN l h G 127 ≤ 20) → NF l h (k + 1)) := by
            intro hn
            refine HNX.out fun y hy => ?_
            rcases Nat.lt_or_ge 10 (dst F (cwd y)) with h1 | h1
            · exact h1
            · exfalso
              have e := amend_no2 F u HFL.out HU1.out HU2.out (HU3.out ()) (cwd y) (cwd_length y) (cwd_cw y) h1
              rw [HGW.out (), e] at hn
              exact hn hy
          obtain ⟨z, hz⟩ : ∃ z, farN l h G 127 = z := ⟨_, rfl⟩
          rw [hz] at HRES HNO HWI
          clear hz
          go_wp2_with (first
              | (refine wpList_load_guard (by rfl) 40 (.tmp 2) rfl w.heap.size rfl 40 (boolCells l) (0, 0) _ HL9.out Tryd.underlying40 rfl (HSL.out ()) ?_)
              | (refine wpList_load_guard (by rfl) 40 (.tmp 3) rfl (w.heap.size + 1) rfl 40 (boolCells h) (0, 0) _ HH9.out Tryd.underlying40 rfl (HSH.out ()) ?_)
              | (refine wpList_load_guard (by rfl) 40 (.tmp 11) rfl g9 rfl 40 (boolCells G) (0, 0) _ HG9.out Tryd.underlying40 rfl (HSG.out ()) ?_))
          refine (HWI.out _).mono ?_
          rintro e w10 ⟨rfl, hb⟩
          have HG10 := Lib.hid (HG9.out.box hb)
          have HL10 := Lib.hid (HL9.out.box hb)
          have HH10 := Lib.hid (HH9.out.box hb)
          have HV10 := Lib.hid (HV9.out.box hb)
          have HB10 := Lib.hid (HB9.out.trans (hb.mono HB9.out.size))
          clear hb HG9 HL9 HH9 HV9 HB9
          by_cases hz : z ≤ 20
          · have HZ := Lib.hid hz
            rw [show decide (z ≤ 20) = true by rw [decide_eq_true_iff]; exact hz]
            clear hz
            go_wp2_with (first
                | (refine wpList_load_row rfl 40 (.tmp 11) rfl g9 rfl 40 (boolCells G) (0, 0) _ HG10.out Tryd.underlying40 rfl (HSG.out ()) ?_))
            refine (HIF.out _).mono ?_
            rintro e w11 ⟨rfl, hb⟩
            have HB11 := Lib.hid (HB10.out.trans (hb.mono HB10.out.size))
            clear hb
            go_wp2
            go_ret2
            exact ⟨_, 0, rfl, HRES.out HZ.out, HB11.out⟩
          · have HZ := Lib.hid hz
            rw [show decide (z ≤ 20) = false by rw [decide_eq_false_iff_not]; exact hz]
            clear hz
            go_wp2
            go_roundw
            case rel => exact ⟨k + 1, by omega, by go_num, HL10.out, HH10.out, HV10.out, HNO.out HZ.out, HB10.out⟩
            case measure => simp [intOf] <;> omega
      · obtain rfl : k = 2 := by omega
        go_wp2
        go_ret2
        exact ⟨0, 5, rfl, Or.inr ⟨rfl, rfl, nf_end l h HNF.out⟩, HB.out⟩
end Go.Proofs.YtmfnjjkbfabonaaDoor

/- The contracts of the reference's Spoil, Holes, Far. Conditions: words have 127 bits; no more than 1000 bytes, which lie where they can be read. -/
namespace Go.Proofs.YtmfnjjkbfabonaaDoor
open Go.RowKit
open M

/-- The places that bytes stand for. -/
def plc6 (xs : List Int) : List Nat := xs.map fun n => (n % 127).toNat
theorem plc6_length (xs : List Int) : (plc6 xs).length = xs.length := by simp [plc6]
theorem plc6_getD (xs : List Int) (j : Nat) (h : j < xs.length) : (plc6 xs).getD j 0 = (xs.getD j 0 % 127).toNat := by
  unfold plc6
  rw [List.getD_eq_getElem?_getD, List.getD_eq_getElem?_getD, List.getElem?_map, List.getElem?_eq_getElem h]; rfl
/-- A word with marks at places. -/
def mk6 (x : List Bool) : List Nat → List Bool
  | [] => x
  | i :: is => mk6 (x.set i true) is
theorem mk6_length (x : List Bool) (is : List Nat) : (mk6 x is).length = x.length := by
  induction is generalizing x with
  | nil => rfl
  | cons i is ih => show (mk6 (x.set i true) is).length = _; rw [ih, List.length_set]
theorem mk6_snoc (x : List Bool) (is : List Nat) (i : Nat) : mk6 x (is ++ [i]) = (mk6 x is).set i true := by
  induction is generalizing x with
  | nil => rfl
  | cons k is ih => exact ih (x.set k true)
theorem mk6_take (x : List Bool) (is : List Nat) (j : Nat) (h : j < is.length) : mk6 x (is.take (j + 1)) = (mk6 x (is.take j)).set (is.getD j 0) true := by
  rw [List.take_succ_eq_append_getElem h, mk6_snoc, List.getD_eq_getElem?_getD, List.getElem?_eq_getElem h]; rfl
theorem store_atA (w : World) (g : Nat) (old l : List Bool) (ho : old.length = 127) (h : l.length = 127) (hg : Row w g 26 (boolCells old)) :
    (storeCells ⟨g, 0, none⟩ (boolCells l).toList 0).run Tryd.prog w = .ok () (w.setRow g (boolCells l)) := by
  have hi := arr_size l h
  have := run_storeVar_row (P := Tryd.prog) w g 26 26 (boolCells old) (boolCells l) hg hi (by rw [boolCells_size, boolCells_size, ho, h]) (boolCells_one l)
  cases hq : Tryd.prog.info? 26 with
  | none => simp [hq] at hi
  | some i =>
    have hs : (boolCells l).size = i.size := by simp [hq] at hi; omega
    simpa [storeVar, sizeOf, typeInfo, hq, Value.cells, hs] using this

set_option maxRecDepth 100000 in
set_option maxHeartbeats 1000000 in
theorem spoil_any (l : List Bool) (xs : List Int) (v : Value) (w : World) (hl : l.length = 127) (hx : xs.length ≤ 1000) (hp : ∀ p ∈ xs, 0 ≤ p ∧ p ≤ 255) (h : BytesAt w v xs) :
    Calls Tryd.prog 10 #[.agg (boolCells l), v] w fun e w' => e = .returned (.agg (boolCells (flips l (plc6 xs)))) ∧ Below w.heap.size w w' := by
  have hz := arr_zero
  have r0 : Row ((w.alloc (.cells (boolCells l) 26)).alloc (.cells (boolCells w0) 26)) w.heap.size 26 (boolCells l) := (row_new w _ rfl _ _).alloc _
  have r2 : Row ((w.alloc (.cells (boolCells l) 26)).alloc (.cells (boolCells w0) 26)) (w.heap.size + 1) 26 (boolCells w0) := row_new _ _ (by simp) _ _
  have HB0 : Hid (Below w.heap.size w ((w.alloc (.cells (boolCells l) 26)).alloc (.cells (boolCells w0) 26))) := ((Below.refl _ _).alloc (Nat.le_refl _) _).alloc (by simp) _
  have HR0 := Lib.hid r0
  have HR2 := Lib.hid r2
  obtain ⟨a, cap, rfl, hcells⟩ := h
  have HC := Lib.hid hcells
  have HP := Lib.hid hp
  have HPG := Lib.hid (plc6_getD xs)
  have HFT := Lib.hid (fun j (hj : j < xs.length) => flips_take6 l (plc6 xs) j (by rw [plc6_length]; exact hj))
  have HLL : Hid (∀ j, (flips l ((plc6 xs).take j)).length = 127) := fun j => by rw [flips_length, hl]
  have hfl := flips_length l (plc6 xs)
  rw [hl] at hfl
  have HDN : Hid (flips l ((plc6 xs).take xs.length) = flips l (plc6 xs)) := by unfold Hid; rw [← plc6_length xs, List.take_length]
  obtain ⟨c, hc⟩ : ∃ c, flips l (plc6 xs) = c := ⟨_, rfl⟩
  rw [hc] at HDN hfl ⊢
  have HSC := Lib.hid (arr_size c hfl)
  have HCL := Lib.hid hfl
  clear r0 r2 hl hc hfl hcells hp
  go_enter Tryd.func10, Tryd.ntmps10
  go_wp2
  clear hz
  generalize (w.alloc (.cells (boolCells l) 26)).alloc (.cells (boolCells w0) 26) = w1 at *
  go_loopw [5] (fun i wr => ∃ k : Nat, k ≤ xs.length ∧ i = .int .i64 (k : Nat) ∧ Row wr w.heap.size 26 (boolCells (flips l ((plc6 xs).take k))) ∧ Row wr (w.heap.size + 1) 26 (boolCells w0) ∧ Below w.heap.size w wr) (fun i _ => xs.length - (intOf i).toNat)
  case atStart => exact ⟨0, by omega, rfl, HR0.out, HR2.out, HB0.out⟩
  case round =>
    clear HR0 HR2 HB0
    obtain ⟨j, hj, rfl, h1, h2, h3⟩ := hrel
    have HR := Lib.hid h1
    have HZ := Lib.hid h2
    have HB := Lib.hid h3
    clear h1 h2 h3
    by_cases hlt : j < xs.length
    · obtain ⟨b, off, rfl, hbw, hcc⟩ := HC.out (by omega)
      have hcj := hcc j hlt
      have HK := Lib.hid (HPG.out j hlt)
      have HF := Lib.hid (HFT.out j hlt)
      obtain ⟨n, hn⟩ : ∃ n, xs.getD j 0 = n := ⟨_, rfl⟩
      have hnok : 0 ≤ n ∧ n ≤ 255 := by
        have e : xs.getD j 0 = xs[j] := by rw [List.getD_eq_getElem?_getD, List.getElem?_eq_getElem hlt]; rfl
        rw [← hn, e]; exact HP.out _ (List.getElem_mem _)
      rw [hn] at hcj HK
      obtain ⟨k, hk⟩ : ∃ k : Nat, (n % 127).toNat = k := ⟨_, rfl⟩
      rw [hk] at HK
      have hk2 : n % 127 = (k : Int) := by omega
      have hk3 : n.tmod 127 = (k : Int) := by rw [Int.tmod_eq_emod_of_nonneg hnok.1]; exact hk2
      have hk4 : k < 127 := by omega
      have hk5 : (k : Int) < 127 := by omega
      have hk6 : ¬ (k : Int) < 0 := by omega
      have c0 : wr.cell? ⟨b, off + j, none⟩ = some (.int .u8 n) := (HB.out.cell (p := ⟨b, off + j, none⟩) hbw).trans hcj
      have c1 := word_at HR.out k (by rw [HLL.out]; exact hk4)
      have f1 := HR.out.free k
      obtain ⟨y, hy⟩ : ∃ y, (flips l ((plc6 xs).take j)).getD k false = y := ⟨_, rfl⟩
      rw [hy] at c1
      have HY := Lib.hid hy
      obtain ⟨n0, n255⟩ := hnok
      have hji : (j : Int) < (xs.length : Int) := by omega
      clear hcc hcj hn hy HC hk
      go_wp2
      go_region
      go_wp2
      go_roundw
      case rel =>
        refine ⟨j + 1, by omega, by go_num, ?_, Row.drewN (HZ.out.far (p := ⟨w.heap.size, k, none⟩) (by show w.heap.size + 1 ≠ w.heap.size; omega) _) 1, below_drew1 (HB.out.setCell (p := ⟨w.heap.size, k, none⟩) (by show w.heap.size ≤ w.heap.size; omega) _)⟩
        rw [HF.out, HK.out]
        unfold M.flip
        rw [HY.out, ← boolCells_set]
        exact Row.drewN (HR.out.set k _) 1
      case measure => simp [intOf] <;> omega
    · obtain rfl : j = xs.length := by omega
      have HRC : Hid (Row wr w.heap.size 26 (boolCells c)) := by rw [← HDN.out]; exact HR.out
      have hsz := boolCells_size c
      rw [HCL.out] at hsz
      have hst := store_atA wr (w.heap.size + 1) w0 c w0_length HCL.out HZ.out
      go_wp2_with (refine wpList_load_row rfl 26 (.tmp 2) rfl w.heap.size rfl 26 (boolCells c) (0, 0) _ HRC.out Tryd.underlying26 rfl HSC.out ?_)
      refine bodyPost_ret (v := .agg (boolCells c)) (results_cell_row Tryd.results10 _ _ (w.heap.size + 1) 26 (boolCells c) (0, 0) _ rfl (Row.setRow HZ.out _) Tryd.underlying26 rfl HSC.out) rfl ⟨rfl, below_setRow HB.out (by omega) _⟩

set_option maxRecDepth 100000 in
set_option maxHeartbeats 1000000 in
theorem holes_any (xs : List Int) (v : Value) (w : World) (hx : xs.length ≤ 1000) (hp : ∀ p ∈ xs, 0 ≤ p ∧ p ≤ 255) (h : BytesAt w v xs) :
    Calls Tryd.prog 11 #[v] w fun e w' => e = .returned (.agg (boolCells (mk6 w0 (plc6 xs)))) ∧ Below w.heap.size w w' := by
  have hz := arr_zero
  have r0 : Row ((w.alloc (.cells (boolCells w0) 26)).alloc (.cells (boolCells w0) 26)) w.heap.size 26 (boolCells w0) := (row_new w _ rfl _ _).alloc _
  have r2 : Row ((w.alloc (.cells (boolCells w0) 26)).alloc (.cells (boolCells w0) 26)) (w.heap.size + 1) 26 (boolCells w0) := row_new _ _ (by simp) _ _
  have HB0 : Hid (Below w.heap.size w ((w.alloc (.cells (boolCells w0) 26)).alloc (.cells (boolCells w0) 26))) := ((Below.refl _ _).alloc (Nat.le_refl _) _).alloc (by simp) _
  have HR0 := Lib.hid r0
  have HR2 := Lib.hid r2
  obtain ⟨a, cap, rfl, hcells⟩ := h
  have HC := Lib.hid hcells
  have HP := Lib.hid hp
  have HPG := Lib.hid (plc6_getD xs)
  have HFT := Lib.hid (fun j (hj : j < xs.length) => mk6_take w0 (plc6 xs) j (by rw [plc6_length]; exact hj))
  have HLL : Hid (∀ j, (mk6 w0 ((plc6 xs).take j)).length = 127) := fun j => by rw [mk6_length, w0_length]
  have hfl := mk6_length w0 (plc6 xs)
  rw [w0_length] at hfl
  have HDN : Hid (mk6 w0 ((plc6 xs).take xs.length) = mk6 w0 (plc6 xs)) := by unfold Hid; rw [← plc6_length xs, List.take_length]
  obtain ⟨c, hc⟩ : ∃ c, mk6 w0 (plc6 xs) = c := ⟨_, rfl⟩
  rw [hc] at HDN hfl ⊢
  have HSC := Lib.hid (arr_size c hfl)
  have HCL := Lib.hid hfl
  clear r0 r2 hc hfl hcells hp
  go_enter Tryd.func11, Tryd.ntmps11
  go_wp2
  clear hz
  generalize (w.alloc (.cells (boolCells w0) 26)).alloc (.cells (boolCells w0) 26) = w1 at *
  go_loopw [4] (fun i wr => ∃ k : Nat, k ≤ xs.length ∧ i = .int .i64 (k : Nat) ∧ Row wr w.heap.size 26 (boolCells w0) ∧ Row wr (w.heap.size + 1) 26 (boolCells (mk6 w0 ((plc6 xs).take k))) ∧ Below w.heap.size w wr) (fun i _ => xs.length - (intOf i).toNat)
  case atStart => exact ⟨0, by omega, rfl, HR0.out, HR2.out, HB0.out⟩
  case round =>
    clear HR0 HR2 HB0
    obtain ⟨j, hj, rfl, h1, h2, h3⟩ := hrel
    have HZ := Lib.hid h1
    have HR := Lib.hid h2
    have HB := Lib.hid h3
    clear h1 h2 h3
    by_cases hlt : j < xs.length
    · obtain ⟨b, off, rfl, hbw, hcc⟩ := HC.out (by omega)
      have hcj := hcc j hlt
      have HK := Lib.hid (HPG.out j hlt)
      have HF := Lib.hid (HFT.out j hlt)
      obtain ⟨n, hn⟩ : ∃ n, xs.getD j 0 = n := ⟨_, rfl⟩
      have hnok : 0 ≤ n ∧ n ≤ 255 := by
        have e : xs.getD j 0 = xs[j] := by rw [List.getD_eq_getElem?_getD, List.getElem?_eq_getElem hlt]; rfl
        rw [← hn, e]; exact HP.out _ (List.getElem_mem _)
      rw [hn] at hcj HK
      obtain ⟨k, hk⟩ : ∃ k : Nat, (n % 127).toNat = k := ⟨_, rfl⟩
      rw [hk] at HK
      have hk2 : n % 127 = (k : Int) := by omega
      have hk3 : n.tmod 127 = (k : Int) := by rw [Int.tmod_eq_emod_of_nonneg hnok.1]; exact hk2
      have hk4 : k < 127 := by omega
      have hk5 : (k : Int) < 127 := by omega
      have hk6 : ¬ (k : Int) < 0 := by omega
      have c0 : wr.cell? ⟨b, off + j, none⟩ = some (.int .u8 n) := (HB.out.cell (p := ⟨b, off + j, none⟩) hbw).trans hcj
      have c1 := word_at HR.out k (by rw [HLL.out]; exact hk4)
      have f1 := HR.out.free k
      generalize (mk6 w0 ((plc6 xs).take j)).getD k false = y at *
      obtain ⟨n0, n255⟩ := hnok
      have hji : (j : Int) < (xs.length : Int) := by omega
      clear hcc hcj hn HC hk
      go_wp2
      go_roundw
      case rel =>
        refine ⟨j + 1, by omega, by go_num, HZ.out.far (p := ⟨w.heap.size + 1, k, none⟩) (by show w.heap.size ≠ w.heap.size + 1; omega) _, ?_, HB.out.setCell (p := ⟨w.heap.size + 1, k, none⟩) (by show w.heap.size ≤ w.heap.size + 1; omega) _⟩
        rw [HF.out, HK.out, ← boolCells_set]
        exact HR.out.set k _
      case measure => simp [intOf] <;> omega
    · obtain rfl : j = xs.length := by omega
      have HRC : Hid (Row wr (w.heap.size + 1) 26 (boolCells c)) := by rw [← HDN.out]; exact HR.out
      have hsz := boolCells_size c
      rw [HCL.out] at hsz
      have hst := store_atA wr w.heap.size w0 c w0_length HCL.out HZ.out
      go_wp2_with (refine wpList_load_row rfl 26 (.tmp 3) rfl (w.heap.size + 1) rfl 26 (boolCells c) (0, 0) _ HRC.out Tryd.underlying26 rfl HSC.out ?_)
      refine bodyPost_ret (v := .agg (boolCells c)) (results_cell_row Tryd.results11 _ _ w.heap.size 26 (boolCells c) (0, 0) _ rfl (Row.setRow HZ.out _) Tryd.underlying26 rfl HSC.out) rfl ⟨rfl, below_setRow HB.out (Nat.le_refl _) _⟩

set_option maxRecDepth 100000 in
set_option maxHeartbeats 1000000 in
theorem far_any (l h c : List Bool) (w : World) (hl : l.length = 127) (hh : h.length = 127) (hc : c.length = 127) :
    Calls Tryd.prog 13 #[.agg (boolCells l), .agg (boolCells h), .agg (boolCells c)] w fun e w' => e = .returned (.int .i64 (farN l h c 127 : Nat)) ∧ Below w.heap.size w w' := by
  have r0 : Row (((w.alloc (.cells (boolCells l) 26)).alloc (.cells (boolCells h) 26)).alloc (.cells (boolCells c) 26)) w.heap.size 26 (boolCells l) := ((row_new w _ rfl _ _).alloc _).alloc _
  have r1 : Row (((w.alloc (.cells (boolCells l) 26)).alloc (.cells (boolCells h) 26)).alloc (.cells (boolCells c) 26)) (w.heap.size + 1) 26 (boolCells h) := (row_new _ _ (by simp) _ _).alloc _
  have r2 : Row (((w.alloc (.cells (boolCells l) 26)).alloc (.cells (boolCells h) 26)).alloc (.cells (boolCells c) 26)) (w.heap.size + 1 + 1) 26 (boolCells c) := row_new _ _ (by simp) _ _
  have HB0 : Hid (Below w.heap.size w (((w.alloc (.cells (boolCells l) 26)).alloc (.cells (boolCells h) 26)).alloc (.cells (boolCells c) 26))) := (((Below.refl _ _).alloc (Nat.le_refl _) _).alloc (by simp) _).alloc (by simp; omega) _
  have HR0 := Lib.hid r0
  have HR1 := Lib.hid r1
  have HR2 := Lib.hid r2
  have HL := Lib.hid hl
  have HH := Lib.hid hh
  have HC := Lib.hid hc
  clear r0 r1 r2 hl hh hc
  go_enter Tryd.func13, Tryd.ntmps13
  go_wp2
  generalize ((w.alloc (.cells (boolCells l) 26)).alloc (.cells (boolCells h) 26)).alloc (.cells (boolCells c) 26) = w1 at *
  go_loopw [7, 8] (fun x i wr => ∃ k : Nat, k ≤ 127 ∧ i = .int .i64 (k : Nat) ∧ x = .int .i64 (farN l h c k : Nat) ∧ Row wr w.heap.size 26 (boolCells l) ∧ Row wr (w.heap.size + 1) 26 (boolCells h) ∧ Row wr (w.heap.size + 1 + 1) 26 (boolCells c) ∧ Below w.heap.size w wr) (fun _ i _ => 127 - (intOf i).toNat)
  case atStart => exact ⟨0, by omega, rfl, rfl, HR0.out, HR1.out, HR2.out, HB0.out⟩
  case round =>
    clear HR0 HR1 HR2 HB0
    obtain ⟨k, hk, rfl, rfl, h1, h2, h3, h4⟩ := hrel
    have HA := Lib.hid h1
    have HB := Lib.hid h2
    have HD := Lib.hid h3
    have HBB := Lib.hid h4
    clear h1 h2 h3 h4
    by_cases hlt : k < 127
    · have c0 := word_at HA.out k (by have := HL.out; omega)
      have c1 := word_at HB.out k (by have := HH.out; omega)
      have c2 := word_at HD.out k (by have := HC.out; omega)
      have HS : Hid (farN l h c (k + 1) = farN l h c k + far1 (l.getD k false) (h.getD k false) (c.getD k false)) := rfl
      have hle := farN_le l h c k
      obtain ⟨d, hd⟩ : ∃ d, farN l h c k = d := ⟨_, rfl⟩
      rw [hd] at HS hle ⊢
      generalize l.getD k false = x at *
      generalize h.getD k false = y at *
      generalize c.getD k false = z at *
      clear hd
      cases y
      · cases x <;> cases z
        all_goals
          go_wp2
          go_quiet (fail)
          go_wp2
          go_roundw
          case rel => exact ⟨k + 1, by omega, by go_num, by rw [HS.out]; simp [far1], HA.out.drewN _, HB.out.drewN _, HD.out.drewN _, Below.drewN HBB.out _⟩
          case measure => simp [intOf] <;> omega
      · go_wp2
        go_roundw
        case rel => exact ⟨k + 1, by omega, by go_num, by rw [HS.out]; simp [far1], HA.out, HB.out, HD.out, HBB.out⟩
        case measure => simp [intOf] <;> omega
    · obtain rfl : k = 127 := by omega
      go_wp2
      go_ret
      exact ⟨rfl, HBB.out⟩
end Go.Proofs.YtmfnjjkbfabonaaDoor
