/-
  The walk of the law BitsAppend. Conditions: the arguments lie as they were opened.
-/
import Derived.Test.YtnhbbdfjeaflcaaBk
import Derived.Deep.RegionHeld3
namespace Go.Proofs.Ytnhbbdfjeaflcaa
open Go.RowKit
open M

theorem bt_left (A bs : List Bool) (j : Nat) (h : j < A.length) : bt (A ++ bs) j = bt A j := by
  unfold bt; rw [List.getD_eq_getElem?_getD, List.getD_eq_getElem?_getD, List.getElem?_append_left h]
theorem bt_right (A bs : List Bool) (j : Nat) : bt (A ++ bs) (A.length + j) = bt bs j := by
  unfold bt; rw [List.getD_eq_getElem?_getD, List.getD_eq_getElem?_getD, List.getElem?_append_right (by omega)]
  congr 3; omega
theorem pack_app (A bs : List Bool) (n : Nat) (h : A.length = 8 * n) : pack (A ++ bs) = pack A ++ pack bs := by
  have e : ((A ++ bs).length + 7) / 8 = n + (bs.length + 7) / 8 := by rw [List.length_append, h]; omega
  have e2 : (A.length + 7) / 8 = n := by omega
  unfold pack
  rw [e, e2]
  unfold packN
  rw [List.range_add, List.map_append, List.map_map]
  congr 1
  · apply List.map_congr_left
    intro i hi
    have : i < n := by simpa using hi
    unfold byteAt
    rw [bt_left _ _ _ (by omega), bt_left _ _ _ (by omega), bt_left _ _ _ (by omega), bt_left _ _ _ (by omega), bt_left _ _ _ (by omega), bt_left _ _ _ (by omega), bt_left _ _ _ (by omega), bt_left _ _ _ (by omega)]
  · apply List.map_congr_left
    intro i _
    show UInt8.ofNat (byteAt (A ++ bs) (n + i)) = _
    have key : ∀ k, 8 * (n + i) + k = A.length + (8 * i + k) := by intro k; omega
    unfold byteAt
    rw [key, key, key, key, key, key, key, key, bt_right, bt_right, bt_right, bt_right, bt_right, bt_right, bt_right, bt_right]
theorem pack_bytes (l : List UInt8) : pack (readB l 0 (8 * l.length)) = l := by
  apply List.ext_getElem (by rw [pack_length, readB_length]; omega)
  intro i h1 h2
  have h3 : i < l.length := h2
  have e := packN_get (readB l 0 (8 * l.length)) (((readB l 0 (8 * l.length)).length + 7) / 8) i (by rw [readB_length]; omega)
  have e2 : (pack (readB l 0 (8 * l.length)))[i]? = some (UInt8.ofNat (byteAt (readB l 0 (8 * l.length)) i)) := e
  rw [List.getElem?_eq_getElem h1] at e2
  rw [Option.some.inj e2]
  apply UInt8.toNat_inj.1
  rw [UInt8.toNat_ofNat_of_lt' (byteAt_lt _ _)]
  apply Nat.eq_of_testBit_eq
  intro q
  by_cases hq : q < 8
  · have := byteAt_bit (readB l 0 (8 * l.length)) i (7 - q) (by omega)
    rw [show 7 - (7 - q) = q by omega] at this
    rw [this, List.getD_eq_getElem?_getD, List.getElem?_eq_getElem (by rw [readB_length]; omega)]
    simp only [readB, List.getElem_map, List.getElem_range, Option.getD_some, sb]
    rw [show (0 + (8 * i + (7 - q))) / 8 = i by omega, show 7 - (0 + (8 * i + (7 - q))) % 8 = q by omega, List.getD_eq_getElem?_getD, List.getElem?_eq_getElem h3]
    rfl
  · have a1 : byteAt (readB l 0 (8 * l.length)) i < 2 ^ q := Nat.lt_of_lt_of_le (byteAt_lt _ _) (Nat.pow_le_pow_right (n := 2) (i := 8) (by decide) (by omega))
    have a2 : l[i].toNat < 2 ^ q := Nat.lt_of_lt_of_le l[i].toNat_lt (Nat.pow_le_pow_right (n := 2) (i := 8) (by decide) (by omega))
    rw [Nat.testBit_lt_two_pow a1, Nat.testBit_lt_two_pow a2]
theorem ofB_append (l m : List UInt8) : ofB (l ++ m) = ofB l ++ ofB m := by
  apply bl_inj; rw [bl_append]; rfl
def putP (ks : List (Int × Int)) : List Bool := ks.flatMap fun p => if fitsP p then bitsP p else []
theorem putP_take (xs : List (Int × Int)) (j : Nat) (h : j < xs.length) : putP (xs.take (j + 1)) = putP (xs.take j) ++ (if fitsP (xs.getD j (0, 0)) then bitsP (xs.getD j (0, 0)) else []) := by
  have e : xs.getD j (0, 0) = xs[j] := by rw [List.getD_eq_getElem?_getD, List.getElem?_eq_getElem h]; rfl
  unfold putP
  rw [List.take_succ_eq_append_getElem h, List.flatMap_append, List.flatMap_singleton, e]
theorem putP_le (ks : List (Int × Int)) : (putP ks).length ≤ 56 * ks.length := by
  induction ks with
  | nil => exact Nat.le_refl _
  | cons p ks ih =>
    have e : putP (p :: ks) = (if fitsP p then bitsP p else []) ++ putP ks := by simp [putP]
    rw [e, List.length_append, List.length_cons]
    have : (if fitsP p then bitsP p else []).length ≤ 56 := by
      cases hf : fitsP p
      · simp
      · unfold fitsP at hf
        have h3 := of_decide_eq_true hf
        have : (bitsP p).length = p.2.toNat := bitsOf_length _ _
        simp only [if_true]
        omega
    omega
theorem new2_l (w : World) : Wr ((w.alloc (.cells #[.slice none 0 0, .int .i64 0] 27)).alloc (.cells #[.slice none 0 0, .int .i64 0] 27)) (w.heap.size + 2) w.heap.size (.slice none 0 0) [] :=
  ⟨heap_alloc2_old _ _ _, World.ownsRow_nil _ _ _ _, by omega⟩
theorem new2_r (w : World) : Wr ((w.alloc (.cells #[.slice none 0 0, .int .i64 0] 27)).alloc (.cells #[.slice none 0 0, .int .i64 0] 27)) (w.heap.size + 2) (w.heap.size + 1) (.slice none 0 0) [] :=
  ⟨heap_alloc2_new _ _ _, World.ownsRow_nil _ _ _ _, by omega⟩

set_option maxHeartbeats 3000000 in
theorem append_walk (s : ByteArray) (xs : List (Int × Int)) (l : Value) (w : World) (hs : s.size ≤ 300) (hl : xs.length ≤ 60) (h : NumsAt w l xs) :
    Calls Try.prog 9 #[.string s, l] w fun e w' => e = .returned (.bool true) ∧ Below w.heap.size w w' := by
  obtain ⟨a, lcap, rfl, hcells⟩ := h
  have HC := Lib.hid hcells
  clear hcells
  go_enter Try.func9, Try.ntmps9
  go_wp2_with fail
  refine (awake_any _).mono ?_
  rintro e w1 ⟨rfl, hb⟩
  have HB1 := Lib.hid hb
  have hw1 := hb.size
  clear hb
  go_wp2
  have HT0 := Lib.hid (Two.mk (new2_l w1) (new2_r w1) (by omega) (fun k hk => by simp [Value.ownBlock] at hk))
  have HB2 : Hid (Below w.heap.size w ((w1.alloc (.cells #[.slice none 0 0, .int .i64 0] 27)).alloc (.cells #[.slice none 0 0, .int .i64 0] 27))) := (HB1.out.alloc hw1 _).alloc (by simp; omega) _
  clear HB1
  obtain ⟨g, hg⟩ : ∃ g, w1.heap.size = g := ⟨_, rfl⟩
  rw [hg] at HT0 ⊢
  go_loopw [7] (fun i wr => ∃ j : Nat, j ≤ s.size ∧ i = .int .i64 j ∧ (∃ v, Two wr (g + 2) g v (readB (bl s) 0 (8 * j)) (g + 1) (.slice none 0 0) []) ∧ Below w.heap.size w wr) (fun i _ => s.size - (intOf i).toNat)
  case atStart => exact ⟨0, Nat.zero_le _, rfl, ⟨_, HT0.out⟩, HB2.out⟩
  case round =>
    clear HT0 HB2
    obtain ⟨j, hj, rfl, ⟨v, ht⟩, hb⟩ := hrel
    have HT := Lib.hid ht
    have HB := Lib.hid hb
    have hwr := hb.size
    have hgr := ht.r.row.lt
    clear ht hb
    by_cases hlt : j < s.size
    · have HRB := Lib.hid (readB_bytes (bl s) j)
      have hq : (bl s).getD j 0 = s[j] := bl_at s j hlt
      rw [hq] at HRB
      have hji : (j : Int) < (s.size : Int) := by omega
      have hx : s[j].toNat < 256 := s[j].toNat_lt
      clear hq
      go_wp2_with fail
      refine (put_ok s[j].toNat 8 (readB (bl s) 0 (8 * j)) (g + 2) g v _ (by decide) hx (by rw [readB_length]; omega) (by omega) HT.out.l).mono ?_
      rintro e w2 ⟨rfl, v2, h2, m2⟩
      rw [← HRB.out] at h2
      have HT2 := Lib.hid (HT.out.left h2 m2)
      have HB3 := Lib.hid (HB.out.trans (HT.out.l.floor (F := w.heap.size) m2 (by omega) HB.out.size))
      clear h2 m2 HT HB HRB
      go_wp2
      go_roundw
      case rel => exact ⟨j + 1, by omega, by go_num, ⟨v2, HT2.out⟩, HB3.out⟩
      case measure => simp [intOf]; omega
    · obtain rfl : j = s.size := by omega
      have HPK : Hid (ofB (pack (readB (bl s) 0 (8 * s.size))) = s) := by
        unfold Hid
        have := pack_bytes (bl s)
        rw [bl_length] at this
        rw [this, ofB_bl]
      go_wp2_with fail
      refine (bytes_wr _ _ _ _ _ HT.out.l).mono ?_
      rintro e w2 ⟨rfl, rfl⟩
      rw [HPK.out]
      go_wp2_with fail
      refine (bits_wr _ _ _ _ _ HT.out.l).mono ?_
      rintro e w3 ⟨rfl, rfl⟩
      rw [readB_length]
      go_wp2
      go_loopw [8] (fun i wr2 => ∃ j : Nat, j ≤ xs.length ∧ i = .int .i64 j ∧ (∃ v1 v2, Two wr2 (g + 2) g v1 (readB (bl s) 0 (8 * s.size) ++ putP (xs.take j)) (g + 1) v2 (putP (xs.take j))) ∧ Below w.heap.size w wr2) (fun i _ => xs.length - (intOf i).toNat)
      case atStart => exact ⟨0, Nat.zero_le _, rfl, ⟨v, _, by simpa [putP] using HT.out⟩, HB.out⟩
      case round =>
        clear HT HB
        obtain ⟨j, hj2, rfl, ⟨v1, v2, ht⟩, hb⟩ := hrel
        have HT := Lib.hid ht
        have HB := Lib.hid hb
        have hwr2 := hb.size
        have hgr2 := ht.r.row.lt
        clear ht hb
        by_cases hlt2 : j < xs.length
        · have HF := Lib.hid (putP_take xs j hlt2)
          have hpl : (putP (xs.take j)).length ≤ 3360 := Nat.le_trans (putP_le _) (by rw [List.length_take]; omega)
          obtain ⟨b, off, rfl, hbw, hcc⟩ := HC.out (by omega)
          have hcj := hcc j hlt2
          obtain ⟨p, hp⟩ : ∃ p, xs.getD j (0, 0) = p := ⟨_, rfl⟩
          rw [hp] at hcj HF
          have hji : (j : Int) < (xs.length : Int) := by omega
          clear hcc hp
          obtain ⟨px, pn⟩ := p
          have HCW := Lib.hid hcj
          clear hcj HC
          dsimp only at HCW
          obtain ⟨tl, htl⟩ : ∃ tl, putP (xs.take j) = tl := ⟨_, rfl⟩
          rw [htl] at HT HF hpl
          obtain ⟨c, hc⟩ : ∃ c : Int, (if pn < 0 ∨ 56 < pn then (1 : Int) else if fitsP (px, pn) = true then 0 else 7) = c := ⟨_, rfl⟩
          have HCC := Lib.hid hc
          clear htl hc
          go_wp2_with fail
          refine wp_region_held_drew (S := fun W : World => W.cell? ⟨b, off + j * 2, none⟩ = some (.int .i64 px) ∧ W.cell? ⟨b, off + j * 2 + 1, none⟩ = some (.int .i64 pn)) (by kernel_rfl) ⟨(HB.out.cell (p := ⟨b, off + j * 2, none⟩) hbw).trans HCW.out.1, (HB.out.cell (p := ⟨b, off + j * 2 + 1, none⟩) hbw).trans HCW.out.2⟩ (fun hHeld => ?_)
          refine wpAnyH_take (i := 0) (oi := _) (v := ?_) rfl (by kernel_rfl) (by kernel_rfl) (by kernel_rfl) (fun _ _ _ h => h) (Or.inl ⟨by rfl, ?_⟩) hHeld ?_
          rotate_left
          · (intro w hSw; obtain ⟨s0, s1⟩ := hSw; first | (go_simp; done) | (go_simp; with_reducible rfl))
          (try simp only [List.getElem_toArray, List.getElem_cons_zero, Act.put, List.setIfInBounds_toArray, List.set_cons_zero, List.set_cons_succ])
          refine wpAnyH_take (i := 1) (oi := _) (v := ?_) rfl (by kernel_rfl) (by kernel_rfl) (by kernel_rfl) (fun _ _ _ h => h) (Or.inl ⟨by rfl, ?_⟩) hHeld ?_
          rotate_left
          · (intro w hSw; obtain ⟨s0, s1⟩ := hSw; first | (go_simp; done) | (go_simp; with_reducible rfl))
          (try simp only [List.getElem_toArray, List.getElem_cons_succ, List.getElem_cons_zero, Act.put, List.setIfInBounds_toArray, List.set_cons_zero, List.set_cons_succ])
          refine wpAnyH_take (i := 2) (oi := _) (v := ?_) rfl (by kernel_rfl) (by kernel_rfl) (by kernel_rfl) (fun _ _ _ h => h) (Or.inl ⟨by rfl, ?_⟩) hHeld ?_
          rotate_left
          · (intro w hSw; obtain ⟨s0, s1⟩ := hSw; first | (go_simp; done) | (go_simp; with_reducible rfl))
          (try simp only [List.getElem_toArray, List.getElem_cons_succ, List.getElem_cons_zero, Act.put, List.setIfInBounds_toArray, List.set_cons_zero, List.set_cons_succ])
          refine wpAnyH_take (i := 3) (oi := _) (v := ?_) rfl (by kernel_rfl) (by kernel_rfl) (by kernel_rfl) (fun _ _ _ h => h) (Or.inl ⟨by rfl, ?_⟩) hHeld ?_
          rotate_left
          · (intro w hSw; obtain ⟨s0, s1⟩ := hSw; first | (go_simp; done) | (go_simp; with_reducible rfl))
          (try simp only [List.getElem_toArray, List.getElem_cons_succ, List.getElem_cons_zero, Act.put, List.setIfInBounds_toArray, List.set_cons_zero, List.set_cons_succ])
          refine wpAnyH_take (i := 4) (oi := _) (v := ?_) rfl (by kernel_rfl) (by kernel_rfl) (by kernel_rfl) (fun _ _ _ h => h) (Or.inl ⟨by rfl, ?_⟩) hHeld ?_
          rotate_left
          · (intro w hSw; obtain ⟨s0, s1⟩ := hSw; first | (go_simp; done) | (go_simp; with_reducible rfl))
          (try simp only [List.getElem_toArray, List.getElem_cons_succ, List.getElem_cons_zero, Act.put, List.setIfInBounds_toArray, List.set_cons_zero, List.set_cons_succ])
          refine wpAnyH_take (i := 5) (oi := _) (v := ?_) rfl (by kernel_rfl) (by kernel_rfl) (by kernel_rfl) (fun _ _ _ h => h) (Or.inl ⟨by rfl, ?_⟩) hHeld ?_
          rotate_left
          · (intro w hSw; obtain ⟨s0, s1⟩ := hSw; first | (go_simp; done) | (go_simp; with_reducible rfl))
          (try simp only [List.getElem_toArray, List.getElem_cons_succ, List.getElem_cons_zero, Act.put, List.setIfInBounds_toArray, List.set_cons_zero, List.set_cons_succ])
          refine wpAnyH_take (i := 6) (oi := _) (v := ?_) rfl (by kernel_rfl) (by kernel_rfl) (by kernel_rfl) (fun _ _ _ h => h) (Or.inl ⟨by rfl, ?_⟩) hHeld ?_
          rotate_left
          · (intro w hSw; obtain ⟨s0, s1⟩ := hSw; first | (go_simp; done) | (go_simp; with_reducible rfl))
          (try simp only [List.getElem_toArray, List.getElem_cons_succ, List.getElem_cons_zero, Act.put, List.setIfInBounds_toArray, List.set_cons_zero, List.set_cons_succ])
          refine wpAnyH_take (i := 7) (oi := _) (v := ?_) rfl (by kernel_rfl) (by kernel_rfl) (by kernel_rfl) (fun _ _ _ h => h) (Or.inl ⟨by rfl, ?_⟩) hHeld ?_
          rotate_left
          · (intro w hSw; obtain ⟨s0, s1⟩ := hSw; first | (go_simp; done) | (go_simp; with_reducible rfl))
          (try simp only [List.getElem_toArray, List.getElem_cons_succ, List.getElem_cons_zero, Act.put, List.setIfInBounds_toArray, List.set_cons_zero, List.set_cons_succ])
          refine wpAnyH_take (i := 8) (oi := _) (v := ?_) rfl (by kernel_rfl) (by kernel_rfl) (by kernel_rfl) (fun _ _ _ h => h) (Or.inl ⟨by rfl, ?_⟩) hHeld ?_
          rotate_left
          · (intro w hSw; obtain ⟨s0, s1⟩ := hSw; first | (go_simp; done) | (go_simp; with_reducible rfl))
          (try simp only [List.getElem_toArray, List.getElem_cons_succ, List.getElem_cons_zero, Act.put, List.setIfInBounds_toArray, List.set_cons_zero, List.set_cons_succ])
          refine wpAnyH_take (i := 9) (oi := _) (v := ?_) rfl (by kernel_rfl) (by kernel_rfl) (by kernel_rfl) (fun _ _ _ h => h) (Or.inl ⟨by rfl, ?_⟩) hHeld ?_
          rotate_left
          · (intro w hSw; obtain ⟨s0, s1⟩ := hSw; first | (go_simp; done) | (go_simp; with_reducible rfl))
          (try simp only [List.getElem_toArray, List.getElem_cons_succ, List.getElem_cons_zero, Act.put, List.setIfInBounds_toArray, List.set_cons_zero, List.set_cons_succ])
          refine wpAnyH_take (i := 10) (oi := _) (v := ?_) rfl (by kernel_rfl) (by kernel_rfl) (by kernel_rfl) (fun _ _ _ h => h) (Or.inl ⟨by rfl, ?_⟩) hHeld ?_
          rotate_left
          · (intro w hSw; obtain ⟨s0, s1⟩ := hSw; first | (go_simp; done) | (go_simp; with_reducible rfl))
          (try simp only [List.getElem_toArray, List.getElem_cons_succ, List.getElem_cons_zero, Act.put, List.setIfInBounds_toArray, List.set_cons_zero, List.set_cons_succ])
          refine wpAnyH_take (i := 12) (oi := _) (v := ?_) rfl (by kernel_rfl) (by kernel_rfl) (by kernel_rfl) (fun _ _ _ h => h) (Or.inl ⟨by rfl, ?_⟩) hHeld ?_
          rotate_left
          · (intro w hSw; obtain ⟨s0, s1⟩ := hSw; first | (go_simp; done) | (go_simp; with_reducible rfl))
          (try simp only [List.getElem_toArray, List.getElem_cons_succ, List.getElem_cons_zero, Act.put, List.setIfInBounds_toArray, List.set_cons_zero, List.set_cons_succ])
          refine wpAnyH_take (i := 13) (oi := _) (v := ?_) rfl (by kernel_rfl) (by kernel_rfl) (by kernel_rfl) (fun _ _ _ h => h) (Or.inl ⟨by rfl, ?_⟩) hHeld ?_
          rotate_left
          · (intro w hSw; obtain ⟨s0, s1⟩ := hSw; first | (go_simp; done) | (go_simp; with_reducible rfl))
          (try simp only [List.getElem_toArray, List.getElem_cons_succ, List.getElem_cons_zero, Act.put, List.setIfInBounds_toArray, List.set_cons_zero, List.set_cons_succ])
          refine wpAnyH_take (i := 14) (oi := _) (v := ?_) rfl (by kernel_rfl) (by kernel_rfl) (by kernel_rfl) (fun _ _ _ h => h) (Or.inl ⟨by rfl, ?_⟩) hHeld ?_
          rotate_left
          · (intro w hSw; obtain ⟨s0, s1⟩ := hSw; first | (go_simp; done) | (go_simp; with_reducible rfl))
          (try simp only [List.getElem_toArray, List.getElem_cons_succ, List.getElem_cons_zero, Act.put, List.setIfInBounds_toArray, List.set_cons_zero, List.set_cons_succ])
          refine wpAnyH_take (i := 15) (oi := _) (v := ?_) rfl (by kernel_rfl) (by kernel_rfl) (by kernel_rfl) (fun _ _ _ h => h) (Or.inl ⟨by rfl, ?_⟩) hHeld ?_
          rotate_left
          · (intro w hSw; obtain ⟨s0, s1⟩ := hSw; first | (go_simp; done) | (go_simp; with_reducible rfl))
          (try simp only [List.getElem_toArray, List.getElem_cons_succ, List.getElem_cons_zero, Act.put, List.setIfInBounds_toArray, List.set_cons_zero, List.set_cons_succ])
          refine wpAnyH_take (i := 16) (oi := _) (v := ?_) rfl (by kernel_rfl) (by kernel_rfl) (by kernel_rfl) (fun _ _ _ h => h) (Or.inl ⟨by rfl, ?_⟩) hHeld ?_
          rotate_left
          · (intro w hSw; obtain ⟨s0, s1⟩ := hSw; first | (go_simp; done) | (go_simp; with_reducible rfl))
          (try simp only [List.getElem_toArray, List.getElem_cons_succ, List.getElem_cons_zero, Act.put, List.setIfInBounds_toArray, List.set_cons_zero, List.set_cons_succ])
          refine wpAnyH_take (i := 17) (oi := _) (v := ?_) rfl (by kernel_rfl) (by kernel_rfl) (by kernel_rfl) (fun _ _ _ h => h) (Or.inl ⟨by rfl, ?_⟩) hHeld ?_
          rotate_left
          · (intro w hSw; obtain ⟨s0, s1⟩ := hSw; first | (go_simp; done) | (go_simp; with_reducible rfl))
          (try simp only [List.getElem_toArray, List.getElem_cons_succ, List.getElem_cons_zero, Act.put, List.setIfInBounds_toArray, List.set_cons_zero, List.set_cons_succ])
          refine wpAnyH_take (i := 18) (oi := _) (v := ?_) rfl (by kernel_rfl) (by kernel_rfl) (by kernel_rfl) (fun _ _ _ h => h) (Or.inl ⟨by rfl, ?_⟩) hHeld ?_
          rotate_left
          · (intro w hSw; obtain ⟨s0, s1⟩ := hSw; first | (go_simp; done) | (go_simp; with_reducible rfl))
          (try simp only [List.getElem_toArray, List.getElem_cons_succ, List.getElem_cons_zero, Act.put, List.setIfInBounds_toArray, List.set_cons_zero, List.set_cons_succ])
          refine wpAnyH_take (i := 19) (oi := _) (v := ?_) rfl (by kernel_rfl) (by kernel_rfl) (by kernel_rfl) (fun _ _ _ h => h) (Or.inl ⟨by rfl, ?_⟩) hHeld ?_
          rotate_left
          · (intro w hSw; obtain ⟨s0, s1⟩ := hSw; first | (go_simp; done) | (go_simp; with_reducible rfl))
          (try simp only [List.getElem_toArray, List.getElem_cons_succ, List.getElem_cons_zero, Act.put, List.setIfInBounds_toArray, List.set_cons_zero, List.set_cons_succ])
          refine wpAnyH_take (i := 20) (oi := _) (v := ?_) rfl (by kernel_rfl) (by kernel_rfl) (by kernel_rfl) (fun _ _ _ h => h) (Or.inl ⟨by rfl, ?_⟩) hHeld ?_
          rotate_left
          · (intro w hSw; obtain ⟨s0, s1⟩ := hSw; first | (go_simp; done) | (go_simp; with_reducible rfl))
          (try simp only [List.getElem_toArray, List.getElem_cons_succ, List.getElem_cons_zero, Act.put, List.setIfInBounds_toArray, List.set_cons_zero, List.set_cons_succ])
          refine wpAnyH_take (i := 21) (oi := _) (v := ?_) rfl (by kernel_rfl) (by kernel_rfl) (by kernel_rfl) (fun _ _ _ h => h) (Or.inl ⟨by rfl, ?_⟩) hHeld ?_
          rotate_left
          · (intro w hSw; obtain ⟨s0, s1⟩ := hSw; first | (go_simp; done) | (go_simp; with_reducible rfl))
          (try simp only [List.getElem_toArray, List.getElem_cons_succ, List.getElem_cons_zero, Act.put, List.setIfInBounds_toArray, List.set_cons_zero, List.set_cons_succ])
          refine wpAnyH_take (i := 22) (oi := _) (v := ?_) rfl (by kernel_rfl) (by kernel_rfl) (by kernel_rfl) (fun _ _ _ h => h) (Or.inl ⟨by rfl, ?_⟩) hHeld ?_
          rotate_left
          · (intro w hSw; obtain ⟨s0, s1⟩ := hSw; first | (go_simp; done) | (go_simp; with_reducible rfl))
          (try simp only [List.getElem_toArray, List.getElem_cons_succ, List.getElem_cons_zero, Act.put, List.setIfInBounds_toArray, List.set_cons_zero, List.set_cons_succ])
          refine wpAnyH_ready (rs := [11]) (by kernel_rfl) (by simp) ?_
          refine AllReadyH.cons (o := _) rfl (fun K hK => ?_) AllReadyH.nil
          go_simp
          refine (put_any px pn _ (g + 2) g v1 _ (by rw [List.length_append, readB_length]; omega) (by simp; omega) HT.out.drew.l).mono ?_
          rintro e w3 ⟨rfl, v3, h3, m3⟩
          rw [HCC.out]
          have HT2 := Lib.hid (HT.out.drew.left h3 m3)
          have HB3 := Lib.hid ((below_drew1 HB.out).trans (HT.out.drew.l.floor (F := w.heap.size) m3 (by omega) (below_drew1 HB.out).size))
          clear h3 m3
          go_wp2_with fail
          refine hK.out _ _ ⟨(HB3.out.cell (p := ⟨b, off + j * 2, none⟩) hbw).trans HCW.out.1, (HB3.out.cell (p := ⟨b, off + j * 2 + 1, none⟩) hbw).trans HCW.out.2⟩ (fun hHeld => ?_)
          clear hK K
          (try simp only [List.getElem_toArray, List.getElem_cons_succ, List.getElem_cons_zero, Act.put, List.setIfInBounds_toArray, List.set_cons_zero, List.set_cons_succ])
          refine wpAnyH_ready (rs := [23]) (by kernel_rfl) (by simp) ?_
          refine AllReadyH.cons (o := _) rfl (fun K hK => ?_) AllReadyH.nil
          go_simp
          refine (put_any px pn _ (g + 2) (g + 1) v2 _ (by omega) (by have := HT2.out.r.row.lt; omega) HT2.out.r).mono ?_
          rintro e w4 ⟨rfl, v4, h4, m4⟩
          rw [HCC.out]
          have HT3 := Lib.hid (HT2.out.right h4 m4)
          have HB4 := Lib.hid (HB3.out.trans (HT2.out.r.floor (F := w.heap.size) m4 (by omega) HB3.out.size))
          clear h4 m4
          go_wp2_with fail
          refine hK.out _ _ ⟨(HB4.out.cell (p := ⟨b, off + j * 2, none⟩) hbw).trans HCW.out.1, (HB4.out.cell (p := ⟨b, off + j * 2 + 1, none⟩) hbw).trans HCW.out.2⟩ (fun hHeld => ?_)
          clear hK K
          (try simp only [List.getElem_toArray, List.getElem_cons_succ, List.getElem_cons_zero, Act.put, List.setIfInBounds_toArray, List.set_cons_zero, List.set_cons_succ])
          refine wpAnyH_take (i := 24) (oi := _) (v := ?_) rfl (by kernel_rfl) (by kernel_rfl) (by kernel_rfl) (fun _ _ _ h => h) (Or.inl ⟨by rfl, ?_⟩) hHeld ?_
          rotate_left
          · (intro w hSw; obtain ⟨s0, s1⟩ := hSw; first | (go_simp; done) | (go_simp; with_reducible rfl))
          (try simp only [List.getElem_toArray, List.getElem_cons_succ, List.getElem_cons_zero, Act.put, List.setIfInBounds_toArray, List.set_cons_zero, List.set_cons_succ])
          refine wpAnyH_done (by kernel_rfl) ?_ _
          go_wp2
          go_roundw
          case rel => exact ⟨j + 1, by omega, by go_num, ⟨v3, v4, by rw [HF.out, ← List.append_assoc]; exact HT3.out⟩, HB4.out⟩
          case measure => simp [intOf]; omega
        · obtain rfl : j = xs.length := by omega
          rw [List.take_length] at HT
          have HE : Hid (ofB (pack (readB (bl s) 0 (8 * s.size) ++ putP xs)) = s ++ ofB (pack (putP xs))) := by
            unfold Hid
            rw [pack_app _ _ s.size (by rw [readB_length]), ofB_append, HPK.out]
          go_wp2_with fail
          refine (bytes_wr _ _ _ _ _ HT.out.l).mono ?_
          rintro e w4 ⟨rfl, rfl⟩
          go_wp2_with fail
          refine (bytes_wr _ _ _ _ _ HT.out.r).mono ?_
          rintro e w5 ⟨rfl, rfl⟩
          rw [HE.out]
          obtain ⟨s2, hs2⟩ : ∃ s2, ofB (pack (putP xs)) = s2 := ⟨_, rfl⟩
          have hs2z : s2.size ≤ 1000 := by
            have h1 : (putP xs).length ≤ 3360 := Nat.le_trans (putP_le _) (by omega)
            rw [← hs2, ofB_size, pack_length]; omega
          rw [hs2]
          have hcat : s.size + s2.size ≤ 9223372036854775807 := by omega
          have hcat2 : s.size + s2.size ≤ maxLen := by unfold maxLen; omega
          go_wp2_with fail
          refine (bits_wr _ _ _ _ _ HT.out.l).mono ?_
          rintro e w6 ⟨rfl, rfl⟩
          rw [List.length_append, readB_length]
          go_wp2_with fail
          refine (bits_wr _ _ _ _ _ HT.out.r).mono ?_
          rintro e w7 ⟨rfl, rfl⟩
          have hpl : (putP xs).length ≤ 3360 := Nat.le_trans (putP_le _) (by omega)
          go_wp2
          go_ret
          exact ⟨rfl, HB.out⟩

set_option maxHeartbeats 1000000 in
theorem append_big (s : ByteArray) (xs : List (Int × Int)) (l : Value) (w : World) (hl : 300 < s.size ∨ s.size ≤ 300 ∧ 60 < xs.length) (hm : xs.length ≤ maxLen) (hms : s.size ≤ maxLen) (h : NumsAt w l xs) :
    Calls Try.prog 9 #[.string s, l] w fun e w' => e = .returned (.bool true) ∧ Below w.heap.size w w' := by
  unfold maxLen at hm hms
  obtain ⟨a, lcap, rfl, _⟩ := h
  rcases hl with hl | ⟨hl0, hl⟩
  · have hl' : (300 : Int) < (s.size : Int) := by omega
    go_enter Try.func9, Try.ntmps9
    go_wp2_with fail
    refine (awake_any _).mono ?_
    rintro e w1 ⟨rfl, hb⟩
    have HB := Lib.hid hb
    clear hb
    go_wp2_with fail
    refine (awake_any _).mono ?_
    rintro e w2 ⟨rfl, hb⟩
    have HB2 := Lib.hid (HB.out.trans (hb.mono HB.out.size))
    clear hb
    go_wp2
    go_ret
    exact ⟨rfl, HB2.out⟩
  · have hl' : (60 : Int) < (xs.length : Int) := by omega
    go_enter Try.func9, Try.ntmps9
    go_wp2_with fail
    refine (awake_any _).mono ?_
    rintro e w1 ⟨rfl, hb⟩
    have HB := Lib.hid hb
    clear hb
    go_wp2_with fail
    refine (awake_any _).mono ?_
    rintro e w2 ⟨rfl, hb⟩
    have HB2 := Lib.hid (HB.out.trans (hb.mono HB.out.size))
    clear hb
    go_wp2
    go_ret
    exact ⟨rfl, HB2.out⟩
theorem append_law (s : ByteArray) (xs : List (Int × Int)) (l : Value) (w : World) (hm : xs.length ≤ maxLen) (hms : s.size ≤ maxLen) (h : NumsAt w l xs) :
    Calls Try.prog 9 #[.string s, l] w fun e w' => e = .returned (.bool true) ∧ Below w.heap.size w w' := by
  by_cases h1 : s.size ≤ 300
  · by_cases h2 : xs.length ≤ 60
    · exact append_walk s xs l w h1 h2 h
    · exact append_big s xs l w (Or.inr ⟨h1, by omega⟩) hm hms h
  · exact append_big s xs l w (Or.inl (by omega)) hm hms h
end Go.Proofs.Ytnhbbdfjeaflcaa
