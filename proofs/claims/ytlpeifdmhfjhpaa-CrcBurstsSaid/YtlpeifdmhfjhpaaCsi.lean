/-
  Layer 15, plain: what Open answers of bytes, by their bits; bits changed one by one within sixteen. No conditions but those that each fact names.
-/
import Derived.Test.YtlpeifdmhfjhpaaCse
import Derived.Test.YtlpeifdmhfjhpaaCsg
namespace Go.Proofs.Ytlpeifdmhfjhpaa
open Go.RowKit
open M
/-- A sum, as it is at first. -/
def r15 : BitVec 16 := BitVec.ofNat 16 ((65535 : Int) % 65536).toNat
theorem sm_r15 (l : List UInt8) : sm15 65535 l = (crun r15 (tbt l)).toNat := rfl
theorem ext_take (L : List UInt8) (n : Nat) : (ofB L).extract 0 n = ofB (L.take n) := by
  apply bl_inj
  rw [bl_extract, bl_ofB, bl_ofB, List.drop_zero, Nat.sub_zero]
theorem last_two (L : List UInt8) (n : Nat) (h : L.length = n + 2) : L = L.take n ++ [L.getD n 0, L.getD (n + 1) 0] := getD_ext8 _ _ (by simp [h]) fun j hj => by
  by_cases a : j < n
  · rw [gD_left _ _ _ _ (by simp; omega), gD_take _ _ _ _ a]
  · rw [gD_right _ _ _ _ (by simp; omega), show (L.take n).length = n by simp; omega]
    rcases (show j = n ∨ j = n + 1 by omega) with rfl | rfl
    · rw [Nat.sub_self]; rfl
    · rw [show n + 1 - n = 1 by omega]; rfl
theorem sealed_iff (L : List UInt8) (n : Nat) (h : L.length = n + 2) : (ofB L).extract n (ofB L).size = ld15 (sm15 65535 (bl ((ofB L).extract 0 n))) ↔ crun r15 (tbt L) = 0 := by
  have e := last_two L n h
  have hsz : (ofB L).size = n + 2 := by rw [ofB_size, h]
  have e2 : (ofB L).extract n (ofB L).size = ofB [L.getD n 0, L.getD (n + 1) 0] := by
    apply bl_inj
    rw [bl_extract, bl_ofB, bl_ofB, hsz]
    generalize L.getD n 0 = a at *
    generalize L.getD (n + 1) 0 = b at *
    have hl : (L.take n).length = n := by simp; omega
    rw [e, List.drop_append_of_le_length (by omega), List.drop_of_length_le (by omega), List.nil_append]
    exact List.take_of_length_le (by simp <;> omega)
  rw [e2, ext_take, bl_ofB, ld_same _ _ _ (sm15_bd _ _), sm_r15]
  generalize L.getD n 0 = a at *
  generalize L.getD (n + 1) 0 = b at *
  rw [e, List.take_append_of_le_length (by simp; omega), List.take_of_length_le (l := L.take n) (by simp; omega), tbt_app, crun_append]
  exact (open_two _ a b).symm
theorem open_sealed (L : List UInt8) (n : Nat) (h : L.length = n + 2) (e : crun r15 (tbt L) = 0) : opT (ofB L) = ofB (L.take n) ∧ opE (ofB L) = 0 := by
  rw [← ext_take]
  exact op_yes (ofB L) n (by rw [ofB_size, h]) ((sealed_iff L n h).2 e)
theorem open_spoilt (L : List UInt8) (n : Nat) (h : L.length = n + 2) (e : ¬ crun r15 (tbt L) = 0) : opT (ofB L) = ByteArray.empty ∧ opE (ofB L) = 4 :=
  op_no (ofB L) n (by rw [ofB_size, h]) fun k => e ((sealed_iff L n h).1 k)
/-- Bytes with their sum behind them. -/
def sl15 (l : List UInt8) : List UInt8 := l ++ [UInt8.ofNat (sm15 65535 l / 256), UInt8.ofNat (sm15 65535 l % 256)]
theorem sl_len (l : List UInt8) : (sl15 l).length = l.length + 2 := by simp [sl15]
theorem sl_zero (l : List UInt8) : crun r15 (tbt (sl15 l)) = 0 := by
  unfold sl15
  rw [tbt_app, crun_append, sm_r15]
  exact sealed_two _
theorem sl_text (s : ByteArray) : s ++ ld15 (sm15 65535 (bl s)) = ofB (sl15 (bl s)) := bl_inj (by rw [bl_append, bl_ofB]; rfl)
theorem sl_take (l : List UInt8) : (sl15 l).take l.length = l := by simp [sl15]
/-- Whether a bit is changed. -/
def ct15 (N c f i : Nat) : Bool := c.testBit i && decide (f + i < 8 * N)
/-- A byte's bit. -/
def mk15 (p : Nat) : UInt8 := UInt8.ofNat (128 / 2 ^ (p % 8))
theorem mk_nat (p : Nat) : (mk15 p).toNat = 2 ^ (7 - p % 8) := by
  unfold mk15
  have h : p % 8 < 8 := Nat.mod_lt _ (by decide)
  generalize p % 8 = r at *
  rcases (show r = 0 ∨ r = 1 ∨ r = 2 ∨ r = 3 ∨ r = 4 ∨ r = 5 ∨ r = 6 ∨ r = 7 by omega) with rfl | rfl | rfl | rfl | rfl | rfl | rfl | rfl <;> rfl
/-- The first i of sixteen bits changed, from f on. -/
def fl15 (L : List UInt8) (c f : Nat) : Nat → List UInt8
  | 0 => L
  | i + 1 => if ct15 L.length c f i then (fl15 L c f i).set ((f + i) / 8) ((fl15 L c f i).getD ((f + i) / 8) 0 ^^^ mk15 (f + i)) else fl15 L c f i
/-- Whether any was. -/
def to15 (N c f : Nat) : Nat → Bool
  | 0 => false
  | i + 1 => if ct15 N c f i then true else to15 N c f i
theorem fl_len (L : List UInt8) (c f i : Nat) : (fl15 L c f i).length = L.length := by
  induction i with
  | zero => rfl
  | succ i ih =>
    unfold fl15
    split
    · rw [List.length_set, ih]
    · exact ih
/-- Whether the j-th bit was changed. -/
def ch15 (N c f i j : Nat) : Bool := decide (f ≤ j) && decide (j < f + i) && ct15 N c f (j - f)
theorem ch_step (N c f i j : Nat) : ch15 N c f (i + 1) j = (ch15 N c f i j || (decide (j = f + i) && ct15 N c f i)) := by
  unfold ch15
  by_cases a : f ≤ j
  · by_cases b : j < f + i
    · rw [decide_eq_true a, decide_eq_true b, decide_eq_true (show j < f + (i + 1) by omega), decide_eq_false (show ¬ j = f + i by omega)]
      simp
    · by_cases d : j = f + i
      · subst d
        rw [decide_eq_true a, decide_eq_false b, decide_eq_true (show f + i < f + (i + 1) by omega), Nat.add_sub_cancel_left]
        simp
      · rw [decide_eq_true a, decide_eq_false b, decide_eq_false (show ¬ j < f + (i + 1) by omega), decide_eq_false d]
        simp
  · rw [decide_eq_false a, decide_eq_false (show ¬ j = f + i by omega)]
    simp
theorem fl_bit (L : List UInt8) (c f i j : Nat) (hj : j < 8 * L.length) : (tbt (fl15 L c f i)).getD j false = ((tbt L).getD j false != ch15 L.length c f i j) := by
  induction i with
  | zero =>
    have : ch15 L.length c f 0 j = false := by
      unfold ch15
      by_cases a : f ≤ j
      · rw [decide_eq_false (show ¬ j < f + 0 by omega)]; simp
      · rw [decide_eq_false a]; simp
    rw [this]
    simp [fl15]
  | succ i ih =>
    rw [ch_step]
    unfold fl15
    by_cases hc : ct15 L.length c f i = true
    · rw [if_pos hc, hc]
      have hp : f + i < 8 * (fl15 L c f i).length := by
        unfold ct15 at hc
        rw [Bool.and_eq_true, decide_eq_true_eq] at hc
        rw [fl_len]; exact hc.2
      rw [tbt_flip _ _ _ hp (mk_nat _), getD_setB _ _ _ _ (by rw [tbt_len]; exact hp)]
      by_cases e : f + i = j
      · subst e
        rw [if_pos rfl, ih]
        have h0 : ch15 L.length c f i (f + i) = false := by
          unfold ch15
          rw [decide_eq_false (show ¬ f + i < f + i by omega)]
          simp
        rw [h0, decide_eq_true rfl]
        simp
      · rw [if_neg e, ih, decide_eq_false (show ¬ j = f + i by omega)]
        simp
    · rw [if_neg hc, ih]
      have : ct15 L.length c f i = false := by simpa using hc
      rw [this]
      simp
theorem to_any (N c f i : Nat) (h : to15 N c f i = true) : ∃ k, k < i ∧ ct15 N c f k = true := by
  induction i with
  | zero => exact absurd h (by simp [to15])
  | succ i ih =>
    unfold to15 at h
    by_cases hc : ct15 N c f i = true
    · exact ⟨i, by omega, hc⟩
    · rw [if_neg hc] at h
      obtain ⟨k, h1, h2⟩ := ih h
      exact ⟨k, by omega, h2⟩
theorem fl_none (L : List UInt8) (c f i : Nat) (h : to15 L.length c f i = false) : fl15 L c f i = L := by
  induction i with
  | zero => rfl
  | succ i ih =>
    unfold to15 at h
    by_cases hc : ct15 L.length c f i = true
    · rw [if_pos hc] at h; exact absurd h (by simp)
    · rw [if_neg hc] at h
      unfold fl15
      rw [if_neg hc]
      exact ih h
/-- A burst is told. -/
theorem burst_told (L : List UInt8) (c f : Nat) (h : crun r15 (tbt L) = 0) (ht : to15 L.length c f 16 = true) : ¬ crun r15 (tbt (fl15 L c f 16)) = 0 := by
  intro h2
  have hl : (tbt L).length = (tbt (fl15 L c f 16)).length := by rw [tbt_len, tbt_len, fl_len]
  have e := burst_same r15 (tbt L) (tbt (fl15 L c f 16)) f hl (fun j hj hn => by
    rw [fl_bit L c f 16 j (by rwa [tbt_len] at hj)]
    have : ch15 L.length c f 16 j = false := by
      unfold ch15
      rcases hn with hn | hn
      · rw [decide_eq_false (show ¬ f ≤ j by omega)]; simp
      · rw [decide_eq_false (show ¬ j < f + 16 by omega)]; simp
    rw [this]
    simp) h h2
  obtain ⟨k, hk, hc⟩ := to_any _ _ _ _ ht
  have hp : f + k < 8 * L.length := by
    unfold ct15 at hc
    rw [Bool.and_eq_true, decide_eq_true_eq] at hc
    exact hc.2
  have hb := fl_bit L c f 16 (f + k) hp
  rw [← e] at hb
  have : ch15 L.length c f 16 (f + k) = true := by
    unfold ch15
    rw [decide_eq_true (show f ≤ f + k by omega), decide_eq_true (show f + k < f + 16 by omega), Nat.add_sub_cancel_left, hc]
    rfl
  rw [this] at hb
  cases hx : (tbt L).getD (f + k) false <;> rw [hx] at hb <;> simp at hb
end Go.Proofs.Ytlpeifdmhfjhpaa
