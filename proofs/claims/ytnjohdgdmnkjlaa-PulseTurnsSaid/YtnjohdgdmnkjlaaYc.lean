/-
  pvq's Count, Pulses. Conditions: lists of numbers as they lie.
-/
import Derived.Test.YtnjohdgdmnkjlaaYb
import Derived.Test.YtnjohdgdmnkjlaaFj
namespace Go.Proofs.Ytnjohdgdmnkjlaa
open Go.RowKit
open M
theorem counts_put (w : World) : (storeCells ⟨w.heap.size, 0, none⟩ (iCells (tf13 117)).toList 0).run Try.prog (w.alloc (.cells (iCells tz13) 55)) = .ok () (w.alloc (.cells (iCells (tf13 117)) 55)) :=
  run_storeCells_new w _ _ _ (counts_size (tf13 117) (tf_len 117)) (by rw [iCells_size, iCells_size, tf_len]; rfl) (iCells_one (tf13 117))
/-- Counts of any numbers. -/
def cnI (n k : Int) : Int := if th13 n k then (cn13 n.toNat k.toNat : Int) else 0
theorem cnI_in (n k : Nat) (hn : n ≤ 8) (hk : k ≤ 12) : cnI n k = (cn13 n k : Int) := by
  have h : th13 n k = true := decide_eq_true (by omega)
  rw [cnI, h, if_pos rfl, Int.toNat_natCast, Int.toNat_natCast]
theorem cnI_out (n k : Int) (h : th13 n k = false) : cnI n k = 0 := by
  rw [cnI, h]; rfl
theorem th_in {n k : Int} (h : th13 n k = true) : ∃ a b : Nat, n = a ∧ k = b ∧ a ≤ 8 ∧ b ≤ 12 := by
  have := of_decide_eq_true h
  exact ⟨n.toNat, k.toNat, by omega, by omega, by omega, by omega⟩
set_option maxRecDepth 100000 in
theorem count_any (n k : Int) (w : World) :
    Calls Try.prog 12 #[.int .i64 n, .int .i64 k] w fun e w' => e = .returned (.int .i64 (cnI n k)) ∧ Below w.heap.size w w' := by
  have HT := there_any n k w
  cases ht : th13 n k
  · have HO := Lib.hid (cnI_out n k ht)
    rw [ht] at HT
    clear ht
    go_enter Try.func12, Try.ntmps12
    go_wp2_with fail
    refine HT.mono ?_
    rintro e w1 ⟨rfl, rfl⟩
    go_wp2
    go_ret
    exact ⟨by rw [HO.out]; rfl, Below.refl _ _⟩
  · obtain ⟨a, b, rfl, rfl, ha, hb⟩ := th_in ht
    have HO := Lib.hid (cnI_in a b ha hb)
    rw [ht] at HT
    clear ht
    go_enter Try.func12, Try.ntmps12
    go_wp2_with fail
    refine HT.mono ?_
    rintro e w1 ⟨rfl, rfl⟩
    go_wp2_with fail
    refine (counts_any w1).mono ?_
    rintro e w2 ⟨rfl, hb2⟩
    have hz := counts_zero w2
    have hst := counts_put w2
    have hsz : (iCells (tf13 117)).size = 117 := by rw [iCells_size, tf_len]
    have hr : Row (w2.alloc (.cells (iCells (tf13 117)) 55)) w2.heap.size 55 (iCells (tf13 117)) := heap_alloc_new _ _
    have c0 := i_at hr (a * 13 + b) (by rw [tf_len]; omega)
    rw [tf_cell _ _ _ (by omega) (by omega) (by omega)] at c0
    have HB := Lib.hid (hb2.alloc hb2.size (.cells (iCells (tf13 117)) 55))
    have haI : (a : Int) < 9 := by omega
    have hbI : (b : Int) < 13 := by omega
    generalize (cn13 a b : Int) = c at *
    clear hr hb2 ha hb
    go_wp2
    go_ret
    exact ⟨by rw [HO.out]; rfl, HB.out⟩
theorem pl_app (l m : List Int) : pl13 (l ++ m) = pl13 l + pl13 m := by
  induction l with
  | nil => simp [pl13]
  | cons x r ih => rw [List.cons_append]; show x.natAbs + _ = x.natAbs + _ + _; rw [ih]; omega
theorem pl_take (l : List Int) (k : Nat) (h : k < l.length) : pl13 (l.take (k + 1)) = pl13 (l.take k) + (l.getD k 0).natAbs := by
  rw [List.take_add_one, List.getD_eq_getElem?_getD, List.getElem?_eq_getElem h, pl_app]
  rfl
theorem pl_one (l : List Int) (k : Nat) (h : k < l.length) : (l.getD k 0).natAbs ≤ pl13 l := by
  have h1 := pl_take l k h
  have h2 := pl_app (l.take (k + 1)) (l.drop (k + 1))
  rw [List.take_append_drop] at h2
  omega
/-- How many pulses, as Pulses tells. -/
def pu13 (l : List Int) : Nat := if l.length ≤ 8 then min (pl13 l) 13 else 13
theorem pu_far (l : List Int) (k : Nat) (h : k < l.length) (h2 : l.getD k 0 < -12 ∨ l.getD k 0 > 12) : pu13 l = 13 := by
  have := pl_one l k h
  unfold pu13
  split <;> omega
theorem pu_long (l : List Int) (h : 8 < l.length) : pu13 l = 13 := if_neg (by omega)
theorem pu_in (l : List Int) (h : l.length ≤ 8) : pu13 l = min (pl13 l) 13 := if_pos h
set_option maxRecDepth 100000 in
theorem pulses_any (l : List Int) (v : Value) (w : World) (hv : IntsAt w v l) (hl : l.length ≤ maxLen) :
    Calls Try.prog 10 #[v] w fun e w' => e = .returned (.int .i64 (pu13 l : Nat)) ∧ w' = w := by
  obtain ⟨a, cap, rfl, hcell⟩ := hv
  have HLO := Lib.hid (pu_long l)
  have HIN := Lib.hid (pu_in l)
  have HFAR := Lib.hid (pu_far l)
  have HTK := Lib.hid (pl_take l)
  have HFU : Hid (pl13 (l.take l.length) = pl13 l) := Lib.hid (by rw [List.take_length])
  have hLB : (l.length : Int) ≤ 9223372036854775807 := by unfold maxLen at hl; omega
  obtain ⟨L, hL⟩ : ∃ L, l.length = L := ⟨_, rfl⟩
  rw [hL] at hcell HLO HIN HFAR HTK HFU hLB ⊢
  clear hL hl
  obtain ⟨p, hp⟩ : ∃ p, pu13 l = p := ⟨_, rfl⟩
  rw [hp] at HLO HIN HFAR ⊢
  clear hp
  by_cases h8 : 8 < L
  · obtain rfl := HLO.out h8
    clear hcell HLO HIN HFAR HTK HFU
    go_enter Try.func10, Try.ntmps10
    go_wp2
    go_ret
    exact ⟨rfl, rfl⟩
  · have HP := Lib.hid (HIN.out (by omega))
    clear HLO HIN
    have h8I : ¬ (8 : Int) < (L : Int) := by omega
    go_enter Try.func10, Try.ntmps10
    go_wp2
    go_loop [3, 11] (fun s i => ∃ k q : Nat, k ≤ L ∧ i = .int .i64 k ∧ s = .int .i64 q ∧ q = pl13 (l.take k) ∧ q ≤ 12 * k) (fun _ i => L - (intOf i).toNat)
    case atStart => exact ⟨0, 0, by omega, rfl, rfl, rfl, by omega⟩
    case round =>
      obtain ⟨k, q, hk, rfl, rfl, hq, hqb⟩ := hrel
      rcases Nat.lt_or_ge k L with hlt | hge
      · obtain ⟨b, off, rfl, hbs, hcs⟩ := hcell (by omega)
        have c0 := hcs k hlt
        have HF := Lib.hid (HFAR.out k hlt)
        have HT := Lib.hid (HTK.out k hlt)
        have HQ := Lib.hid hq
        have hL8 : L ≤ 8 := by omega
        clear hcs hcell hbs hq
        obtain ⟨x, hx⟩ : ∃ x, l.getD k 0 = x := ⟨_, rfl⟩
        rw [hx] at c0 HF HT
        clear hx
        by_cases h1 : x < -12
        · obtain rfl := HF.out (Or.inl h1)
          clear HF HT HFAR HTK HFU HP HQ
          go_wp2
          go_ret
          exact ⟨rfl, rfl⟩
        · by_cases h2 : x > 12
          · obtain rfl := HF.out (Or.inr h2)
            clear HF HT HFAR HTK HFU HP HQ
            go_wp2
            go_ret
            exact ⟨rfl, rfl⟩
          · have hwa : wrap64 ((q : Int) + (x.natAbs : Int)) = ((q + x.natAbs : Nat) : Int) := by rw [wrap64]; omega
            have hna : x.natAbs ≤ 12 := by omega
            clear HF HFAR
            go_wp2_with fail
            refine (size_any x w (by omega) (by omega)).mono ?_
            rintro e w1 ⟨rfl, rfl⟩
            go_wp2_with fail
            have hkk : wrap64 ((k : Int) + 1) = ((k + 1 : Nat) : Int) := by rw [wrap64]; omega
            go_round
            case rel => exact ⟨k + 1, q + x.natAbs, hlt, by go_num, by go_num, by rw [HT.out, ← HQ.out], by omega⟩
            case measure => simp [intOf] <;> omega
      · obtain rfl : k = L := by omega
        have HQ := Lib.hid (hq.trans HFU.out)
        clear hcell hq HFU HTK HFAR
        by_cases h3 : 13 < q
        · go_wp2
          go_ret
          exact ⟨by rw [HP.out, ← HQ.out]; exact ret_eq (by omega), rfl⟩
        · go_wp2
          go_ret
          exact ⟨by rw [HP.out, ← HQ.out]; exact ret_eq (by omega), rfl⟩
end Go.Proofs.Ytnjohdgdmnkjlaa
