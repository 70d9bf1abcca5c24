/-
  The contracts of layer 3's Reader: New, Left, ask, join, allZero, Get, Zeros. Conditions: the Reader lies in a block of its own; texts are no longer than 2^40 bytes.
-/
import Derived.Test.YtnhbbdfjeaflcaaBg
import Derived.Test.YtnhbbdfjeaflcaaBi
namespace Go.Proofs.Ytnhbbdfjeaflcaa
open Go.RowKit
open M

/-- A Reader, as it lies. -/
def rdCells (s : ByteArray) (a : Nat) : Array Value := #[.string s, .int .i64 (a : Nat)]
def Rd (w : World) (g : Nat) (s : ByteArray) (a : Nat) : Prop := Row w g 54 (rdCells s a)
theorem Rd.c0 {w : World} {g : Nat} {s : ByteArray} {a : Nat} (h : Rd w g s a) : w.cell? ⟨g, 0, none⟩ = some (.string s) := cell_of_row _ _ _ _ _ _ h
theorem Rd.c1 {w : World} {g : Nat} {s : ByteArray} {a : Nat} (h : Rd w g s a) : w.cell? ⟨g, 1, none⟩ = some (.int .i64 (a : Nat)) := cell_of_row _ _ _ _ _ _ h
theorem bl_at (s : ByteArray) (q : Nat) (h : q < s.size) : (bl s).getD q 0 = s[q] := by
  unfold bl
  rw [List.getD_eq_getElem?_getD, List.getElem?_eq_getElem (by simpa using h)]
  rfl
def sh (n : Nat) : Nat := 7 - n % 8
theorem sh_int (n : Nat) : (sh n : Int) = 7 - (n : Int) % 8 := by unfold sh; omega

theorem shift_any (n : Nat) (w : World) (hn : n ≤ 1152921504606846976) :
    Calls Try.prog 28 #[.int .i64 n] w fun e w' => e = .returned (.int .i64 (sh n : Nat)) ∧ w = w' := by
  have HS := Lib.hid (sh_int n)
  go_enter Try.func28, Try.ntmps28
  go_wp2
  go_ret
  exact ⟨ret_eq (by rw [HS.out]), rfl⟩

theorem left_rd (s : ByteArray) (a g : Nat) (w : World) (hs : s.size ≤ 1099511627776) (ha : a ≤ 8 * s.size) (h : Rd w g s a) :
    Calls Try.prog 16 #[.pointer (some ⟨g, 0, none⟩)] w fun e w' => e = .returned (.int .i64 ((8 * s.size - a : Nat) : Int)) ∧ ∃ n, w' = w.drewN n := by
  have c0 := h.c0
  have c1 := h.c1
  clear h
  go_enter Try.func16, Try.ntmps16
  go_wp2
  go_quiet (fail)
  go_wp2
  go_ret
  exact ⟨ret_eq (by omega), _, rfl⟩

theorem ask_any (s : ByteArray) (a g : Nat) (w : World) (hs : s.size ≤ 1099511627776) (ha : a < 8 * s.size) (h : Rd w g s a) :
    Calls Try.prog 26 #[.pointer (some ⟨g, 0, none⟩)] w fun e w' => e = .returned (.int .i64 ((sb (bl s) a).toNat : Nat)) ∧ Only g w w' ∧ Rd w' g s (a + 1) := by
  have c0 := h.c0
  have c1 := h.c1
  have f0 := fun j => Row.free h j
  have H := Lib.hid h
  obtain ⟨q, hq⟩ : ∃ q, a / 8 = q := ⟨_, rfl⟩
  have hq1 : (q : Int) < (s.size : Int) := by omega
  have hq2 : IntKind.i64.wrap ((a : Int) / 8) = (q : Int) := (IntWalk.i64_in _ (by omega)).trans (by omega)
  have HQ := Lib.hid hq
  clear h hq
  go_enter Try.func26, Try.ntmps26
  go_wp2
  go_quiet (first | (go_at_call 28; exact Calls.quiet_of_same ((shift_any a _ (by omega)).mono fun _ _ h => ⟨h.1, h.2.symm⟩)))
  go_wp2
  go_ret
  refine ⟨ret_eq ?_, ((Only.refl g w).drewN nq).setCell 1 none _, ?_⟩
  · have e1 : (bl s).getD (a / 8) 0 = s[q]'(by omega) := by rw [HQ.out]; exact bl_at s q (by omega)
    rw [byte_walk _ (sh a) (s[q]'(by omega)).toNat_lt (by unfold sh; omega)]
    unfold sb sh
    rw [e1]
  · exact (Row.set (Row.drewN H.out nq) 1 _)

theorem join_any' (n : Nat) (s : ByteArray) (a g : Nat) (w : World) (hn : n ≤ 56) (hs : s.size ≤ 1099511627776) (ha : a + n ≤ 8 * s.size) (h : Rd w g s a) :
    Calls Try.prog 25 #[.int .i64 n, .func (.func 26) #[.pointer (some ⟨g, 0, none⟩)] #[]] w fun e w' => e = .returned (.int .i64 (numOf (readB (bl s) a n) : Nat)) ∧ Only g w w' ∧ Rd w' g s (a + n) := by
  have H := Lib.hid h
  clear h
  go_enter Try.func25, Try.ntmps25
  go_wp2
  go_loopw [5, 7] (fun x i wr => ∃ k : Nat, k ≤ n ∧ i = .int .i64 k ∧ x = .int .i64 (numOf (readB (bl s) a k) : Nat) ∧ Only g w wr ∧ Rd wr g s (a + k)) (fun _ i _ => n - (intOf i).toNat)
  case atStart => exact ⟨0, Nat.zero_le _, rfl, rfl, Only.refl g w, H.out⟩
  case round =>
    obtain ⟨k, hk, rfl, rfl, ho, hr⟩ := hrel
    have HO := Lib.hid ho
    have HR := Lib.hid hr
    have hx : numOf (readB (bl s) a k) < 72057594037927936 := Nat.lt_of_lt_of_le (numOf_lt _) (by rw [readB_length]; exact Nat.pow_le_pow_right (by decide) (show k ≤ 56 by omega))
    have HS : Hid (numOf (readB (bl s) a (k + 1)) = 2 * numOf (readB (bl s) a k) + (sb (bl s) (a + k)).toNat) := by unfold Hid; rw [readB_succ, numOf_app]
    obtain ⟨x, hxx⟩ : ∃ x, numOf (readB (bl s) a k) = x := ⟨_, rfl⟩
    obtain ⟨b, hbb⟩ : ∃ b, sb (bl s) (a + k) = b := ⟨_, rfl⟩
    rw [hxx] at hx
    have HW := Lib.hid (join_walk x b (by omega))
    clear ho hr
    by_cases hlt : k < n
    · rw [hxx]
      have HE := Lib.hid (And.intro hxx hbb)
      clear hxx hbb
      go_wp2_with (go_at_call 26; refine (ask_any s (a + k) g _ hs (by omega) HR.out).mono ?_; rintro e w' ⟨rfl, ho, hr⟩)
      go_roundw
      case rel => exact ⟨k + 1, by omega, by go_num, by rw [HS.out, HE.out.1, HE.out.2, HW.out], HO.out.trans ho, hr⟩
      case measure => simp [intOf]; omega
    · obtain rfl : k = n := by omega
      go_wp2
      go_ret
      exact ⟨rfl, HO.out, HR.out⟩

def allz (l : List Bool) : Bool := l.all fun b => !b
theorem allz_app (l : List Bool) (b : Bool) : allz (l ++ [b]) = (allz l && !b) := by simp [allz]
theorem readB_split (s : List UInt8) (a n k : Nat) (h : k < n) : readB s a n = readB s a k ++ sb s (a + k) :: readB s (a + k + 1) (n - k - 1) := by
  conv => lhs; rw [show n = k + 1 + (n - k - 1) by omega, readB_add, readB_succ]
  simp [Nat.add_assoc]
theorem bit_ne (b : Bool) : (((b.toNat : Nat) : Int) != 0) = b := by cases b <;> rfl

theorem allZero_any (n : Nat) (s : ByteArray) (a g : Nat) (w : World) (hs : s.size ≤ 1099511627776) (ha : a + n ≤ 8 * s.size) (h : Rd w g s a) :
    Calls Try.prog 27 #[.int .i64 n, .func (.func 26) #[.pointer (some ⟨g, 0, none⟩)] #[]] w fun e w' => e = .returned (.bool (allz (readB (bl s) a n))) ∧ Only g w w' := by
  have H := Lib.hid h
  clear h
  go_enter Try.func27, Try.ntmps27
  go_wp2
  go_loopw [6] (fun i wr => ∃ k : Nat, k ≤ n ∧ i = .int .i64 k ∧ allz (readB (bl s) a k) = true ∧ Only g w wr ∧ Rd wr g s (a + k)) (fun i _ => n - (intOf i).toNat)
  case atStart => exact ⟨0, Nat.zero_le _, rfl, rfl, Only.refl g w, H.out⟩
  case round =>
    obtain ⟨k, hk, rfl, hz, ho, hr⟩ := hrel
    have HZ := Lib.hid hz
    have HO := Lib.hid ho
    have HR := Lib.hid hr
    clear hz ho hr
    by_cases hlt : k < n
    · rcases hb : sb (bl s) (a + k)
      · have HB := Lib.hid hb
        have hn : (((sb (bl s) (a + k)).toNat : Nat) : Int) = 0 := by rw [hb]; rfl
        clear hb
        go_wp2_with (go_at_call 26; refine (ask_any s (a + k) g _ hs (by omega) HR.out).mono ?_; rintro e w' ⟨rfl, ho, hr⟩; rw [hn])
        go_roundw
        case rel => exact ⟨k + 1, by omega, by go_num, by rw [readB_succ, allz_app, HZ.out, HB.out]; rfl, HO.out.trans ho, hr⟩
        case measure => simp [intOf]; omega
      · have HB := Lib.hid hb
        have hn : (((sb (bl s) (a + k)).toNat : Nat) : Int) = 1 := by rw [hb]; rfl
        clear hb
        go_wp2_with (go_at_call 26; refine (ask_any s (a + k) g _ hs (by omega) HR.out).mono ?_; rintro e w' ⟨rfl, ho, hr⟩; rw [hn])
        go_ret
        refine ⟨?_, HO.out.trans ho⟩
        rw [readB_split _ _ _ _ hlt, HB.out]
        simp [allz]
    · obtain rfl : k = n := by omega
      go_wp2
      go_ret
      exact ⟨by rw [HZ.out]; rfl, HO.out⟩

theorem new_any (s : ByteArray) (w : World) :
    Calls Try.prog 12 #[.string s] w fun e w' => e = .returned (.pointer (some ⟨w.heap.size, 0, none⟩)) ∧ Below w.heap.size w w' ∧ Rd w' w.heap.size s 0 := by
  go_enter Try.func12, Try.ntmps12
  go_wp2
  go_ret
  exact ⟨rfl, (Below.refl _ _).alloc (Nat.le_refl _) _, heap_alloc_new _ _⟩

theorem get_ok (n : Nat) (s : ByteArray) (a g : Nat) (w : World) (hn : n ≤ 56) (hs : s.size ≤ 1099511627776) (ha : a + n ≤ 8 * s.size) (h : Rd w g s a) :
    Calls Try.prog 14 #[.pointer (some ⟨g, 0, none⟩), .int .i64 n] w fun e w' => e = .returned (.tuple #[.int .i64 (numOf (readB (bl s) a n) : Nat), .int .i64 0]) ∧ Only g w w' ∧ Rd w' g s (a + n) := by
  have H := Lib.hid h
  clear h
  go_enter Try.func14, Try.ntmps14
  go_wp2_with fail
  refine (left_rd s a g _ hs (by omega) H.out).mono ?_
  rintro e w1 ⟨rfl, m, rfl⟩
  go_wp2_with fail
  refine (join_any' n s a g _ hn hs ha (H.out.drewN m)).mono ?_
  rintro e w2 ⟨rfl, ho, hr⟩
  have HO := Lib.hid (((Only.refl g w).drewN m).trans ho)
  have HR := Lib.hid hr
  clear ho hr
  go_wp2
  go_ret2
  exact ⟨rfl, HO.out, HR.out⟩

theorem get_short (n : Nat) (s : ByteArray) (a g : Nat) (w : World) (hn : n ≤ 56) (hs : s.size ≤ 1099511627776) (ha : a ≤ 8 * s.size) (hf : 8 * s.size < a + n) (h : Rd w g s a) :
    Calls Try.prog 14 #[.pointer (some ⟨g, 0, none⟩), .int .i64 n] w fun e w' => e = .returned (.tuple #[.int .i64 0, .int .i64 2]) ∧ Only g w w' ∧ Rd w' g s a := by
  have H := Lib.hid h
  clear h
  go_enter Try.func14, Try.ntmps14
  go_wp2_with fail
  refine (left_rd s a g _ hs (by omega) H.out).mono ?_
  rintro e w1 ⟨rfl, m, rfl⟩
  go_wp2
  go_ret2
  exact ⟨rfl, (Only.refl g w).drewN m, H.out.drewN m⟩

theorem get_arg (n : Int) (p : Value) (w : World) (hn : n < 0 ∨ 56 < n) :
    Calls Try.prog 14 #[p, .int .i64 n] w fun e w' => e = .returned (.tuple #[.int .i64 0, .int .i64 1]) ∧ w' = w := by
  by_cases h0 : n < 0
  · go_enter Try.func14, Try.ntmps14
    go_wp2
    go_ret2
    exact ⟨rfl, rfl⟩
  · have h1 : 56 < n := by omega
    go_enter Try.func14, Try.ntmps14
    go_wp2
    go_ret2
    exact ⟨rfl, rfl⟩

theorem get_nil (n : Nat) (w : World) (hn : n ≤ 56) :
    Calls Try.prog 14 #[.pointer none, .int .i64 n] w fun e w' => e = .returned (.tuple #[.int .i64 0, .int .i64 2]) ∧ w' = w := by
  go_enter Try.func14, Try.ntmps14
  go_wp2
  go_ret2
  exact ⟨rfl, rfl⟩
theorem left_nil (w : World) :
    Calls Try.prog 16 #[.pointer none] w fun e w' => e = .returned (.int .i64 0) ∧ w' = w := by
  go_enter Try.func16, Try.ntmps16
  go_wp2
  go_ret
  exact ⟨rfl, rfl⟩
theorem zeros_nil (w : World) :
    Calls Try.prog 17 #[.pointer none] w fun e w' => e = .returned (.bool true) ∧ w' = w := by
  go_enter Try.func17, Try.ntmps17
  go_wp2
  go_ret
  exact ⟨rfl, rfl⟩

theorem zeros_rd (s : ByteArray) (a g : Nat) (w : World) (hs : s.size ≤ 1099511627776) (ha : a ≤ 8 * s.size) (h : Rd w g s a) :
    Calls Try.prog 17 #[.pointer (some ⟨g, 0, none⟩)] w fun e w' => e = .returned (.bool (allz (readB (bl s) a (8 * s.size - a)))) ∧ Below w.heap.size w w' := by
  have H := Lib.hid h
  have c0 := h.c0
  have c1 := h.c1
  clear h
  go_enter Try.func17, Try.ntmps17
  have HN : Hid (Rd (w.alloc (.cells (rdCells s a) 54)) w.heap.size s a) := heap_alloc_new _ _
  have HB : Hid (Below w.heap.size w (w.alloc (.cells (rdCells s a) 54))) := (Below.refl _ _).alloc (Nat.le_refl _) _
  go_wp2_with fail
  refine (left_rd s a w.heap.size _ hs ha HN.out).mono ?_
  rintro e w1 ⟨rfl, m, rfl⟩
  go_wp2_with fail
  refine (allZero_any (8 * s.size - a) s a w.heap.size _ hs (by omega) (HN.out.drewN m)).mono ?_
  rintro e w2 ⟨rfl, ho⟩
  have HC := Lib.hid ((Below.drewN HB.out m).trans (ho.below (Nat.le_refl _)))
  clear ho
  go_wp2
  go_ret
  exact ⟨rfl, HC.out⟩
end Go.Proofs.Ytnhbbdfjeaflcaa
