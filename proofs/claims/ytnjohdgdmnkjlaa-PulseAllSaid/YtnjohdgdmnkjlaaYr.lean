/-
  The reference's All: all vectors of four, in order. Conditions: up to 8 pulses.
-/
import Derived.Test.YtnjohdgdmnkjlaaYq
import Derived.StillTailTactics
import Derived.Deep.RegionHeld3
namespace Go.Proofs.Ytnjohdgdmnkjlaa
open Go.RowKit
open M
theorem four_new (w : World) (g : Nat) (hg : w.heap.size = g) (a b c d : Int) (t : TypeId) : ∀ p, p < 4 → (w.alloc (.cells #[.int .i64 a, .int .i64 b, .int .i64 c, .int .i64 d] t)).cell? ⟨g, p, none⟩ = some (.int .i64 ([a, b, c, d].getD p 0)) := fun p hp =>
  i_at (show Row (w.alloc (.cells #[.int .i64 a, .int .i64 b, .int .i64 c, .int .i64 d] t)) g t (iCells [a, b, c, d]) from row_new w g hg _ t) p hp
theorem flat_one (X Y : List (List Int)) (v : List Int) : (X ++ (Y ++ [v])).flatten = (X ++ Y).flatten ++ v := by simp
theorem flat_two (X Y : List (List Int)) (u v : List Int) : (X ++ (Y ++ [u, v])).flatten = (X ++ Y).flatten ++ u ++ v := by simp
theorem flat_len1 (X Y : List (List Int)) (v : List Int) : (X ++ (Y ++ [v])).length = (X ++ Y).length + 1 := by simp [Nat.add_assoc]
theorem flat_len2 (X Y : List (List Int)) (u v : List Int) : (X ++ (Y ++ [u, v])).length = (X ++ Y).length + 2 := by simp [Nat.add_assoc]
theorem alloc_le (w : World) (o : Obj) (B : Nat) (h : B ≤ w.heap.size) : B ≤ (w.alloc o).heap.size := by simp; omega
theorem wi_small (x : Int) (h1 : -1000000 ≤ x) (h2 : x ≤ 1000000) : IntKind.i64.wrap x = x := by rw [IntKind.wrap_i64]; omega
set_option maxRecDepth 100000 in
set_option maxHeartbeats 4000000 in
theorem all_any (k : Nat) (w : World) (hk : k ≤ 8) :
    Calls Try.prog 14 #[.int .i64 (k : Int)] w fun e w' => (∃ v, e = .returned v ∧ w'.ownsRow w.heap.size 22 4 v (al13 4 k).length (iV (al13 4 k).flatten)) ∧ Below w.heap.size w w' := by
  have hkI : (k : Int) ≤ 8 := by omega
  have HFULL := Lib.hid (ao_full k)
  obtain ⟨B, hB⟩ : ∃ B, w.heap.size = B := ⟨_, rfl⟩
  have HBB := Lib.hid fun _ : Unit => hB
  have HB0 := Lib.hid (show Below B w w by rw [← hB]; exact Below.refl _ _)
  rw [hB]
  go_enter Try.func14, Try.ntmps14
  go_wp2_with (at_builtin; refine wpList_append_one rfl _ _ 31 3 Try.underlying31 one_parts rfl B (.slice none 0 0) 0 [] 0 rfl (own13_none _ B 1 3) B rfl (one_new w B hB (.int .i64 0) 3 0 _ rfl) (by decide) ?c1 ?_)
  case c1 => rw [← hB]; simp
  intro v1 w1 hown1 hb1 hg1
  rw [show ([0] : List Int) = o13 (2 * 0 + 1) from rfl] at hown1
  have HO := Lib.hid hown1
  have HB1 := Lib.hid ((HB0.out.alloc (by rw [hB]; exact Nat.le_refl _) (.cells #[.int .i64 0] 3)).trans hb1)
  clear hown1 hb1 hg1 HB0
  go_wp2_with fail
  go_loopw [4, 5] (fun vv xx wr => ∃ (y n : Nat) (v : Value), y ≤ k ∧ vv = v ∧ xx = .int .i64 ((y + 1 : Nat) : Int) ∧ n = 2 * y + 1 ∧ wr.ownsRow B 3 1 v n (iV (o13 (2 * y + 1))) ∧ Below B w wr) (fun _ xx _ => k + 1 - (intOf xx).toNat)
  case atStart => exact ⟨0, 1, v1, Nat.zero_le _, rfl, rfl, rfl, HO.out, HB1.out⟩
  case round =>
    clear HO HB1
    obtain ⟨y, n, v, hy, rfl, rfl, hn, hown, hbw⟩ := hrel
    have HN := Lib.hid hn
    have HO := Lib.hid hown
    have HB1 := Lib.hid hbw
    have hBs : B ≤ wr.heap.size := by rw [← hB]; exact hbw.size
    clear hn hown hbw
    obtain ⟨y1, hy1⟩ : ∃ y1, y + 1 = y1 := ⟨_, rfl⟩
    rw [hy1]
    have HY1 := Lib.hid hy1
    rcases Nat.lt_or_ge y k with hlt | hge
    · have hyI : (y1 : Int) ≤ (k : Int) := by omega
      have hn6 : n ≤ 1000000 := by have := HN.out; omega
      have HS1 := Lib.hid (o13_odd y)
      have HS2 := Lib.hid (o13_even y)
      rw [hy1] at HS1 HS2
      clear hy1 hy
      obtain ⟨g, hg⟩ : ∃ g, wr.heap.size = g := ⟨_, rfl⟩
      go_wp2_with (at_builtin; refine wpList_append_one rfl _ _ 31 3 Try.underlying31 one_parts rfl B _ n _ (y1 : Int) rfl (HO.out.alloc _) g rfl (one_new wr g hg (.int .i64 (y1 : Int)) 3 0 _ rfl) hn6 ?c1 ?_)
      case c1 => simp; omega
      intro v2 w2 hown2 hb2 hg2
      rw [HS1.out] at hown2
      have hbw := (HB1.out.alloc hBs (.cells #[.int .i64 (y1 : Int)] 3)).trans hb2
      have HO2 := Lib.hid hown2
      have HB2 := Lib.hid hbw
      have hBs2 : B ≤ w2.heap.size := by rw [← hB]; exact hbw.size
      have hn7 : n + 1 ≤ 1000000 := by have := HN.out; omega
      clear hown2 hb2 hg2 hbw HO HB1 hg hBs
      obtain ⟨g2, hg2⟩ : ∃ g, w2.heap.size = g := ⟨_, rfl⟩
      have hne : wrap64 (-(y1 : Int)) = -(y1 : Int) := wr_is _ _ rfl (by omega) (by omega)
      go_wp2_with (at_builtin; refine wpList_append_one rfl _ _ 31 3 Try.underlying31 one_parts rfl B _ (n + 1) _ (-(y1 : Int)) rfl (HO2.out.alloc _) g2 rfl (one_new w2 g2 hg2 (.int .i64 (-(y1 : Int))) 3 0 _ rfl) hn7 ?c1 ?_)
      case c1 => simp; omega
      intro v3 w3 hown3 hb3 hg3
      rw [HS2.out] at hown3
      have hbw := (HB2.out.alloc hBs2 (.cells #[.int .i64 (-(y1 : Int))] 3)).trans hb3
      have HO3 := Lib.hid hown3
      have HB3 := Lib.hid hbw
      clear hown3 hb3 hg3 hbw HO2 HB2 hg2 hBs2 hne
      have hy1b : (y1 : Int) ≤ 8 := by omega
      go_wp2_with fail
      go_roundw
      case rel => exact ⟨y1, n + 1 + 1, _, by have := HY1.out; omega, rfl, by go_num, by have := HN.out; have := HY1.out; omega, HO3.out, HB3.out⟩
      case measure => exact ms13 (k + 1) y1 (by omega)
    · obtain rfl : y = k := by omega
      obtain ⟨go, cap, rfl, hgo1, hgo2⟩ := own13_form HO.out (by have := HN.out; omega)
      rw [← HN.out] at HO
      have HNO := Lib.hid fun p (hp : p < n) => o13_at n p hp
      have hyI : ¬ (y1 : Int) ≤ (y : Int) := by omega
      have hnI : (n : Int) ≤ 17 := by have := HN.out; omega
      clear hy1 hy hge hBs
      go_wp2_with fail
      go_loopw [3, 6] (fun vv aa wa => ∃ (a N : Nat) (v : Value), a ≤ n ∧ vv = v ∧ aa = .int .i64 a ∧ N = (ao13 y a).length ∧ N ≤ 578 * a ∧ wa.ownsRow B 22 4 v N (iV (ao13 y a).flatten) ∧ wa.ownsRow B 3 1 (.slice (some ⟨go, 0, none⟩) n cap) n (iV (o13 n)) ∧ Below B w wa) (fun _ aa _ => n - (intOf aa).toNat)
      case atStart => exact ⟨0, 0, _, Nat.zero_le _, rfl, rfl, rfl, Nat.le_refl _, own13_none _ _ _ _, HO.out, HB1.out⟩
      case round =>
        clear HO HB1
        obtain ⟨a, N, v, ha, rfl, rfl, hN, hNB, hF, hO, hB1⟩ := hrel
        rcases Nat.lt_or_ge a n with hlt | hge
        · have HF := Lib.hid hF
          have HO := Lib.hid hO
          have HB1 := Lib.hid hB1
          have HNN := Lib.hid hN
          have HNB := Lib.hid hNB
          have HA := Lib.hid hlt
          have haI : (a : Int) < (n : Int) := by omega
          clear hF hO hB1 ha hN hNB
          go_wp2_with fail
          go_loopw [3, 7] (fun vv bb wb => ∃ (b N : Nat) (v : Value), b ≤ n ∧ vv = v ∧ bb = .int .i64 b ∧ N = (ao13 y a ++ bo13 y a b).length ∧ N ≤ 578 * a + 34 * b ∧ wb.ownsRow B 22 4 v N (iV (ao13 y a ++ bo13 y a b).flatten) ∧ wb.ownsRow B 3 1 (.slice (some ⟨go, 0, none⟩) n cap) n (iV (o13 n)) ∧ Below B w wb) (fun _ bb _ => n - (intOf bb).toNat)
          case atStart => exact ⟨0, N, _, Nat.zero_le _, rfl, rfl, by rw [show bo13 y a 0 = [] from rfl, List.append_nil]; exact HNN.out, HNB.out, by rw [show bo13 y a 0 = [] from rfl, List.append_nil]; exact HF.out, HO.out, HB1.out⟩
          case round =>
            clear HO HB1 HF HNN HNB
            obtain ⟨b, N, v, hb, rfl, rfl, hN, hNB, hF, hO, hB1⟩ := hrel
            rcases Nat.lt_or_ge b n with hltb | hgeb
            · have HF := Lib.hid hF
              have HO := Lib.hid hO
              have HB1 := Lib.hid hB1
              have HNN := Lib.hid hN
              have HNB := Lib.hid hNB
              have HBL := Lib.hid hltb
              have hbI : (b : Int) < (n : Int) := by omega
              clear hF hO hB1 hb hN hNB
              go_wp2_with fail
              go_loopw [3, 8] (fun vv cc wc => ∃ (c N : Nat) (v : Value), c ≤ n ∧ vv = v ∧ cc = .int .i64 c ∧ N = (ao13 y a ++ bo13 y a b ++ co13 y a b c).length ∧ N ≤ 578 * a + 34 * b + 2 * c ∧ wc.ownsRow B 22 4 v N (iV (ao13 y a ++ bo13 y a b ++ co13 y a b c).flatten) ∧ wc.ownsRow B 3 1 (.slice (some ⟨go, 0, none⟩) n cap) n (iV (o13 n)) ∧ Below B w wc) (fun _ cc _ => n - (intOf cc).toNat)
              case atStart => exact ⟨0, N, _, Nat.zero_le _, rfl, rfl, by rw [show co13 y a b 0 = [] from rfl, List.append_nil]; exact HNN.out, HNB.out, by rw [show co13 y a b 0 = [] from rfl, List.append_nil]; exact HF.out, HO.out, HB1.out⟩
              case round =>
                clear HO HB1 HF HNN HNB
                obtain ⟨c, N, v, hc, rfl, rfl, hN, hNB, hF, hO, hB1⟩ := hrel
                rcases Nat.lt_or_ge c n with hltc | hgec
                · have ca := own13_at hO a (by rw [o13_len]; omega)
                  have cb := own13_at hO b (by rw [o13_len]; omega)
                  have cc := own13_at hO c (by rw [o13_len]; omega)
                  rw [HNO.out a HA.out] at ca
                  rw [HNO.out b HBL.out] at cb
                  rw [HNO.out c hltc] at cc
                  have HCO := Lib.hid (show co13 y a b (c + 1) = co13 y a b c ++ ce13 y a b c from rfl)
                  have HC0 := Lib.hid (ce_no y a b c)
                  have HC1 := Lib.hid (ce_zero y a b c)
                  have HC2 := Lib.hid (ce_two y a b c)
                  have ba := unr_bd a (by omega)
                  have bb := unr_bd b (by omega)
                  have bc := unr_bd c (by omega)
                  have RA := fun w => rsize_any (unr a) w (by omega) (by omega)
                  have RB := fun w => rsize_any (unr b) w (by omega) (by omega)
                  have RC := fun w => rsize_any (unr c) w (by omega) (by omega)
                  rw [unr_sz] at RA RB RC
                  have hsa : sz a ≤ 9 := by unfold sz; omega
                  have hsb : sz b ≤ 9 := by unfold sz; omega
                  have hsc : sz c ≤ 9 := by unfold sz; omega
                  have HF := Lib.hid hF
                  have HO := Lib.hid hO
                  have HB1 := Lib.hid hB1
                  have HNN := Lib.hid hN
                  have HNB := Lib.hid hNB
                  have HCL := Lib.hid hltc
                  have hcI : (c : Int) < (n : Int) := by omega
                  obtain ⟨sa, hsa'⟩ : ∃ s, sz a = s := ⟨_, rfl⟩
                  obtain ⟨sb, hsb'⟩ : ∃ s, sz b = s := ⟨_, rfl⟩
                  obtain ⟨sc, hsc'⟩ : ∃ s, sz c = s := ⟨_, rfl⟩
                  obtain ⟨xa, hxa⟩ : ∃ x, unr a = x := ⟨_, rfl⟩
                  obtain ⟨xb, hxb⟩ : ∃ x, unr b = x := ⟨_, rfl⟩
                  obtain ⟨xc, hxc⟩ : ∃ x, unr c = x := ⟨_, rfl⟩
                  rw [hsa', hsb', hsc'] at HC0 HC1 HC2
                  rw [hxa, hxb, hxc] at HC1 HC2
                  rw [hxa] at ca RA
                  rw [hxb] at cb RB
                  rw [hxc] at cc RC
                  rw [hsa'] at RA hsa
                  rw [hsb'] at RB hsb
                  rw [hsc'] at RC hsc
                  obtain ⟨l1, hl1⟩ : ∃ l1, (y : Int) - (sa : Int) = l1 := ⟨_, rfl⟩
                  obtain ⟨l2, hl2⟩ : ∃ l2, l1 - (sb : Int) = l2 := ⟨_, rfl⟩
                  obtain ⟨l3, hl3⟩ : ∃ l3, l2 - (sc : Int) = l3 := ⟨_, rfl⟩
                  have HL3 := Lib.hid (show l3 = (y : Int) - (sa : Int) - (sb : Int) - (sc : Int) by omega)
                  have e1 : IntKind.i64.wrap ((y : Int) - (sa : Int)) = l1 := by rw [hl1]; exact wi_small _ (by omega) (by omega)
                  have e2 : IntKind.i64.wrap (l1 - (sb : Int)) = l2 := by rw [hl2]; exact wi_small _ (by omega) (by omega)
                  have e3 : IntKind.i64.wrap (l2 - (sc : Int)) = l3 := by rw [hl3]; exact wi_small _ (by omega) (by omega)
                  have hl3b : -100 ≤ l3 ∧ l3 ≤ 100 := by omega
                  have HXA := Lib.hid hxa
                  have HXB := Lib.hid hxb
                  have HXC := Lib.hid hxc
                  clear hF hO hB1 hc hN hNB hsa' hsb' hsc' hxa hxb hxc ba bb bc hl1 hl2 hl3 hsa hsb hsc
                  go_wp2_with fail
                  refine wp_region_still_tail 19 (by kernel_rfl) (by kernel_rfl) ?_
                  simp only [List.take_succ_cons, List.take_zero, List.drop_succ_cons, List.drop_zero]
                  repeat still_step
                  still_call (RA _)
                  repeat still_step
                  still_call (RB _)
                  repeat still_step
                  still_call (RC _)
                  repeat still_step
                  refine wpStill_nil ?_
                  change wpList _ _ _ _ _ wr.drew
                  have HF := Lib.hid (show wr.drew.ownsRow B 22 4 u3 N (iV (ao13 y a ++ bo13 y a b ++ co13 y a b c).flatten) from HF.out)
                  have HO := Lib.hid (show wr.drew.ownsRow B 3 1 (.slice (some ⟨go, 0, none⟩) n cap) n (iV (o13 n)) from HO.out)
                  have HB1 := Lib.hid (below_drew1 HB1.out)
                  have ca : wr.drew.cell? ⟨go, a, none⟩ = some (.int .i64 xa) := ca
                  have cb : wr.drew.cell? ⟨go, b, none⟩ = some (.int .i64 xb) := cb
                  have cc : wr.drew.cell? ⟨go, c, none⟩ = some (.int .i64 xc) := cc
                  clear RA RB RC e1 e2 e3
                  have HSO : Hid (∀ u : World, u.ownsRow B 3 1 (.slice (some ⟨go, 0, none⟩) n cap) n (iV (o13 n)) → u.cell? ⟨go, a, none⟩ = some (.int .i64 xa) ∧ u.cell? ⟨go, b, none⟩ = some (.int .i64 xb) ∧ u.cell? ⟨go, c, none⟩ = some (.int .i64 xc)) := Lib.hid fun u hu => by
                    have ga := own13_at hu a (by rw [o13_len]; exact HA.out)
                    have gb := own13_at hu b (by rw [o13_len]; exact HBL.out)
                    have gc := own13_at hu c (by rw [o13_len]; exact HCL.out)
                    rw [HNO.out a HA.out, HXA.out] at ga
                    rw [HNO.out b HBL.out, HXB.out] at gb
                    rw [HNO.out c HCL.out, HXC.out] at gc
                    exact ⟨ga, gb, gc⟩
                  obtain ⟨FL, hFL⟩ : ∃ FL, (ao13 y a ++ bo13 y a b ++ co13 y a b c).flatten = FL := ⟨_, rfl⟩
                  rw [hFL] at HF
                  have HFL := Lib.hid fun _ : Unit => hFL
                  clear hFL
                  generalize wr.drew = w5 at *
                  rcases Int.lt_trichotomy l3 0 with h3 | h3 | h3
                  · have HCE := Lib.hid (HC0.out (by have := HL3.out; omega))
                    clear ca cb cc HC0 HC1 HC2
                    go_wp2_with fail
                    go_roundw
                    case rel => exact ⟨c + 1, N, _, HCL.out, rfl, by go_num, by rw [HCO.out, HCE.out, List.append_nil]; exact HNN.out, by have := HNB.out; omega, by rw [HCO.out, HCE.out, List.append_nil, HFL.out ()]; exact HF.out, HO.out, HB1.out⟩
                    case measure => exact ms13 n c HCL.out
                  · have HCE := Lib.hid (HC1.out (by have := HL3.out; omega))
                    subst h3
                    clear HC0 HC1 HC2
                    have HF := Lib.hid (show w5.drew.ownsRow B 22 4 u3 N (iV FL) from HF.out)
                    have HO := Lib.hid (show w5.drew.ownsRow B 3 1 (.slice (some ⟨go, 0, none⟩) n cap) n (iV (o13 n)) from HO.out)
                    have HB1 := Lib.hid (below_drew1 HB1.out)
                    have hBs : B ≤ w5.drew.heap.size := by rw [← hB]; exact HB1.out.size
                    have hN6 : N ≤ 1000000 := by have := HNB.out; omega
                    go_wp2_with fail
                    go_region_held3 (fun u : World => u.cell? ⟨go, a, none⟩ = some (.int .i64 xa) ∧ u.cell? ⟨go, b, none⟩ = some (.int .i64 xb) ∧ u.cell? ⟨go, c, none⟩ = some (.int .i64 xc)) (first | go_keep | exact HSO.out _ (HO.out.alloc _) | exact HSO.out _ hO2)
                      ((refine step_append_four (by rfl) _ _ 37 22 Try.underlying37 four_parts rfl B _ (N) _ [xa, xb, xc, 0] rfl (HF.out.alloc _) _ rfl (four_new _ _ rfl xa xb xc 0 _) rfl hN6 (alloc_le _ _ _ hBs) ?_; intro v7 w7 hown2 hb2 hg2; have hO2 := own13_apart (HO.out.alloc _) (by decide) (HF.out.alloc _) hg2))
                    have hbw := (HB1.out.alloc hBs (.cells #[.int .i64 xa, .int .i64 xb, .int .i64 xc, .int .i64 0] 22)).trans hb2
                    have HF := Lib.hid hown2
                    have HO := Lib.hid hO2
                    have HB1 := Lib.hid hbw
                    clear hown2 hO2 hbw hb2 hg2 hBs hN6 ca cb cc
                    go_wp2_with fail
                    go_roundw
                    case rel => exact ⟨c + 1, N + 1, _, HCL.out, rfl, by go_num, by rw [HCO.out, HCE.out, flat_len1, ← HNN.out], by have := HNB.out; omega, by rw [HCO.out, HCE.out, flat_one, HFL.out ()]; exact HF.out, HO.out, HB1.out⟩
                    case measure => exact ms13 n c HCL.out
                  · obtain ⟨z, rfl⟩ : ∃ z : Nat, l3 = z := ⟨l3.toNat, by omega⟩
                    have HCE := Lib.hid (HC2.out z (by have := HL3.out; omega) (by omega))
                    have hzI : (z : Int) ≤ 100 := hl3b.2
                    have hz0 : (0 : Int) < (z : Int) := h3
                    have hzw : IntKind.i64.wrap (-(z : Int)) = -(z : Int) := wi_small _ (by omega) (by omega)
                    clear HC0 HC1 HC2 h3
                    have HF := Lib.hid (show w5.drew.ownsRow B 22 4 u3 N (iV FL) from HF.out)
                    have HO := Lib.hid (show w5.drew.ownsRow B 3 1 (.slice (some ⟨go, 0, none⟩) n cap) n (iV (o13 n)) from HO.out)
                    have HB1 := Lib.hid (below_drew1 HB1.out)
                    have hBs : B ≤ w5.drew.heap.size := by rw [← hB]; exact HB1.out.size
                    have hN6 : N ≤ 1000000 := by have := HNB.out; omega
                    go_wp2_with fail
                    go_region_held3 (fun u : World => u.cell? ⟨go, a, none⟩ = some (.int .i64 xa) ∧ u.cell? ⟨go, b, none⟩ = some (.int .i64 xb) ∧ u.cell? ⟨go, c, none⟩ = some (.int .i64 xc)) (first | go_keep | exact HSO.out _ (HO.out.alloc _) | exact HSO.out _ hO2)
                      ((refine step_append_four (by rfl) _ _ 37 22 Try.underlying37 four_parts rfl B _ (N) _ [xa, xb, xc, (z : Int)] rfl (HF.out.alloc _) _ rfl (four_new _ _ rfl xa xb xc (z : Int) _) rfl hN6 (alloc_le _ _ _ hBs) ?_; intro v7 w7 hown2 hb2 hg2; have hO2 := own13_apart (HO.out.alloc _) (by decide) (HF.out.alloc _) hg2))
                    have hbw := (HB1.out.alloc hBs (.cells #[.int .i64 xa, .int .i64 xb, .int .i64 xc, .int .i64 (z : Int)] 22)).trans hb2
                    have HF := Lib.hid hown2
                    have HO := Lib.hid hO2
                    have HB1 := Lib.hid hbw
                    clear hown2 hO2 hbw hb2 hg2 hBs hN6 ca cb cc
                    have ca := (HSO.out _ HO.out).1
                    have cb := (HSO.out _ HO.out).2.1
                    have cc := (HSO.out _ HO.out).2.2
                    go_wp2_with fail
                    have HF := Lib.hid (show w7.drew.ownsRow B 22 4 v7 (N + 1) (iV (FL ++ [xa, xb, xc, (z : Int)])) from HF.out)
                    have HO := Lib.hid (show w7.drew.ownsRow B 3 1 (.slice (some ⟨go, 0, none⟩) n cap) n (iV (o13 n)) from HO.out)
                    have HB1 := Lib.hid (below_drew1 HB1.out)
                    have hBs : B ≤ w7.drew.heap.size := by rw [← hB]; exact HB1.out.size
                    have hN6 : N + 1 ≤ 1000000 := by have := HNB.out; omega
                    go_region_held3 (fun u : World => u.cell? ⟨go, a, none⟩ = some (.int .i64 xa) ∧ u.cell? ⟨go, b, none⟩ = some (.int .i64 xb) ∧ u.cell? ⟨go, c, none⟩ = some (.int .i64 xc)) (first | go_keep | exact HSO.out _ (HO.out.alloc _) | exact HSO.out _ hO2)
                      ((refine step_append_four (by rfl) _ _ 37 22 Try.underlying37 four_parts rfl B _ (N + 1) _ [xa, xb, xc, (-(z : Int))] rfl (HF.out.alloc _) _ rfl (four_new _ _ rfl xa xb xc (-(z : Int)) _) rfl hN6 (alloc_le _ _ _ hBs) ?_; intro v8 w8 hown2 hb2 hg2; have hO2 := own13_apart (HO.out.alloc _) (by decide) (HF.out.alloc _) hg2))
                    have hbw := (HB1.out.alloc hBs (.cells #[.int .i64 xa, .int .i64 xb, .int .i64 xc, .int .i64 (-(z : Int))] 22)).trans hb2
                    have HF := Lib.hid hown2
                    have HO := Lib.hid hO2
                    have HB1 := Lib.hid hbw
                    clear hown2 hO2 hbw hb2 hg2 hBs hN6 ca cb cc
                    go_wp2_with fail
                    go_roundw
                    case rel => exact ⟨c + 1, N + 1 + 1, _, HCL.out, rfl, by go_num, by rw [HCO.out, HCE.out, flat_len2, ← HNN.out], by have := HNB.out; omega, by rw [HCO.out, HCE.out, flat_two, HFL.out ()]; exact HF.out, HO.out, HB1.out⟩
                    case measure => exact ms13 n c HCL.out
                · obtain rfl : c = n := by omega
                  have HF := Lib.hid hF
                  have HO := Lib.hid hO
                  have HB1 := Lib.hid hB1
                  have HNN := Lib.hid hN
                  have HNB := Lib.hid hNB
                  have HBO := Lib.hid (show bo13 y a (b + 1) = bo13 y a b ++ co13 y a b (2 * y + 1) from rfl)
                  clear hF hO hB1 hc hgec hN hNB
                  go_wp2_with fail
                  go_roundw
                  case rel => exact ⟨b + 1, N, _, HBL.out, rfl, by go_num, by rw [HBO.out, ← HN.out, ← List.append_assoc]; exact HNN.out, by have := HNB.out; omega, by rw [HBO.out, ← HN.out, ← List.append_assoc]; exact HF.out, HO.out, HB1.out⟩
                  case measure => exact ms13 c b HBL.out
            · obtain rfl : b = n := by omega
              have HF := Lib.hid hF
              have HO := Lib.hid hO
              have HB1 := Lib.hid hB1
              have HNN := Lib.hid hN
              have HNB := Lib.hid hNB
              have HAO := Lib.hid (show ao13 y (a + 1) = ao13 y a ++ bo13 y a (2 * y + 1) from rfl)
              clear hF hO hB1 hb hgeb hN hNB
              go_wp2_with fail
              go_roundw
              case rel => exact ⟨a + 1, N, _, HA.out, rfl, by go_num, by rw [HAO.out, ← HN.out]; exact HNN.out, by have := HNB.out; omega, by rw [HAO.out, ← HN.out]; exact HF.out, HO.out, HB1.out⟩
              case measure => exact ms13 b a HA.out
        · obtain rfl : a = n := by omega
          have HB1 := Lib.hid hB1
          rw [hN, HN.out, HFULL.out] at hF
          have HF := Lib.hid hF
          clear hF hO hB1 ha hge hN hNB
          go_wp2
          go_ret
          exact ⟨⟨_, rfl, HF.out⟩, HB1.out⟩
end Go.Proofs.Ytnjohdgdmnkjlaa
