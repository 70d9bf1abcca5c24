/-
  Contracts and plain facts that the laws share; each piece is headed by what it holds and its conditions.
-/
import Derived.Test.YtalbcimnnihmnaaGreatQS5
import Derived.Test.YtalbcimnnihmnaaGreatQS1
import Derived.Laws.BitsAllLaws
import Derived.IntWalk
import Derived.Handy
import Derived.StillTailTactics

/- What the walks of layers with texts of bytes share besides (on XBh): a slice of bytes made a string. No conditions. -/
namespace Go.Proofs.YtalbcimnnihmnaaGreat
open Go.RowKit
open M

theorem run_conv (w : World) (g off cap n : Nat) (l : List UInt8) (hn : l.length = n) (h : ∀ i (hi : i < l.length), w.cell? ⟨g, off + i, none⟩ = some (.int .u8 (l[i].toNat : Int))) :
    (convert 57 9 (.slice (some ⟨g, off, none⟩) n cap)).run Tryz.prog w = .ok (.string (ofB l)) w := by
  have := run_convert_bytes_arg (P := Tryz.prog) w 57 5 Tryz.underlying57 Tryz.underlying5 g off n cap (l.map fun b => (b.toNat : Int)) (by simpa using hn)
    (fun i hi => by
      have hi' : i < l.length := by omega
      rw [h i hi']
      simp [hi']) 9 Tryz.underlying9
  rw [this]
  rw [strOfNums_ofB]
theorem byte_info : (Tryz.prog.info? 5).map (fun i => (i.zero, i.size, i.bytes)) = some (some (.int .u8 0), 1, 1) := by kernel_rfl
end Go.Proofs.YtalbcimnnihmnaaGreat

/- int's and, or, xor, shifts on natural numbers, as the model has them. No function of the program is named here. No conditions. -/
namespace Go.Proofs.YtalbcimnnihmnaaGreat
open Go.RowKit
open M
theorem ofInt_i64 (a : Nat) (ha : a < 9223372036854775808) : (BitVec.ofInt 64 (a : Int)).toNat = a := ofInt_u64 a (by omega)
theorem i64_and_nat (a b : Nat) (ha : a < 9223372036854775808) (hb : b < 9223372036854775808) : bits .and .i64 (a : Int) (b : Int) = ((a &&& b : Nat) : Int) := by
  have hx : a &&& b < 2 ^ 63 := Nat.and_lt_two_pow _ (by omega)
  show IntKind.i64.wrap ((BitVec.ofInt 64 (a : Int) &&& BitVec.ofInt 64 (b : Int)).toNat : Int) = _
  rw [BitVec.toNat_and, ofInt_i64 a ha, ofInt_i64 b hb, IntKind.wrap_i64]
  omega
theorem i64_or_nat (a b : Nat) (ha : a < 9223372036854775808) (hb : b < 9223372036854775808) : bits .or .i64 (a : Int) (b : Int) = ((a ||| b : Nat) : Int) := by
  have hx : a ||| b < 2 ^ 63 := Nat.or_lt_two_pow (by omega) (by omega)
  show IntKind.i64.wrap ((BitVec.ofInt 64 (a : Int) ||| BitVec.ofInt 64 (b : Int)).toNat : Int) = _
  rw [BitVec.toNat_or, ofInt_i64 a ha, ofInt_i64 b hb, IntKind.wrap_i64]
  omega
theorem i64_xor_nat (a b : Nat) (ha : a < 9223372036854775808) (hb : b < 9223372036854775808) : bits .xor .i64 (a : Int) (b : Int) = ((a ^^^ b : Nat) : Int) := by
  have hx : a ^^^ b < 2 ^ 63 := Nat.xor_lt_two_pow (by omega) (by omega)
  show IntKind.i64.wrap ((BitVec.ofInt 64 (a : Int) ^^^ BitVec.ofInt 64 (b : Int)).toNat : Int) = _
  rw [BitVec.toNat_xor, ofInt_i64 a ha, ofInt_i64 b hb, IntKind.wrap_i64]
  omega
theorem div_pow (c k : Nat) : (c : Int) / 2 ^ k = ((c / 2 ^ k : Nat) : Int) := by
  rw [Int.natCast_ediv, Int.natCast_pow]; rfl
theorem bit_walk (c k : Nat) (hc : c < 9223372036854775808) : bits .and .i64 ((c : Int) / 2 ^ k) 1 = ((c.testBit k).toNat : Int) := by
  have h2 : c / 2 ^ k ≤ c := Nat.div_le_self _ _
  rw [div_pow, show (1 : Int) = ((1 : Nat) : Int) from rfl, i64_and_nat _ _ (by omega) (by decide), Nat.and_one_is_mod, Nat.testBit_eq_decide_div_mod_eq]
  rcases Nat.mod_two_eq_zero_or_one (c / 2 ^ k) with h | h <;> simp [h]
theorem byte_walk (c k : Nat) (hc : c < 256) (hk : k ≤ 7) : bits .and .i64 (wrap64 (c : Int) / 2 ^ min k 64) 1 = ((c.testBit k).toNat : Int) := by
  rw [IntWalk.wrap64_in _ (by omega), Nat.min_eq_left (by omega), bit_walk c k (by omega)]
theorem or_bit (x : Nat) (b : Bool) : (2 * x) ||| b.toNat = 2 * x + b.toNat := by
  cases b
  · simp
  · show 2 * x ||| 1 = 2 * x + 1
    have := Nat.shiftLeft_add_eq_or_of_lt (i := 1) (b := 1) (by decide) x
    rw [Nat.shiftLeft_eq] at this
    rw [show 2 * x = x * 2 ^ 1 by omega]
    exact this.symm
theorem join_walk (x : Nat) (b : Bool) (hx : x < 4611686018427387904) : bits .or .i64 ((x : Int) * 2) ((b.toNat : Nat) : Int) = ((2 * x + b.toNat : Nat) : Int) := by
  have : b.toNat ≤ 1 := by cases b <;> decide
  rw [show (x : Int) * 2 = ((2 * x : Nat) : Int) by omega, i64_or_nat _ _ (by omega) (by omega), or_bit]
end Go.Proofs.YtalbcimnnihmnaaGreat

/- The contracts of layer 3's Reader: New, Left, ask, join, allZero, Get, Zeros. Conditions: the Reader lies in a block of its own; texts are no longer than 2^40 bytes. -/
namespace Go.Proofs.YtalbcimnnihmnaaGreat
open Go.RowKit
open M

/-- A Reader, as it lies. -/
def rdCells (s : ByteArray) (a : Nat) : Array Value := #[.string s, .int .i64 (a : Nat)]
def Rdr (w : World) (g : Nat) (s : ByteArray) (a : Nat) : Prop := Row w g 102 (rdCells s a)
theorem Rdr.c0 {w : World} {g : Nat} {s : ByteArray} {a : Nat} (h : Rdr w g s a) : w.cell? ⟨g, 0, none⟩ = some (.string s) := cell_of_row _ _ _ _ _ _ h
theorem Rdr.c1 {w : World} {g : Nat} {s : ByteArray} {a : Nat} (h : Rdr w g s a) : w.cell? ⟨g, 1, none⟩ = some (.int .i64 (a : Nat)) := cell_of_row _ _ _ _ _ _ h
theorem bl_at3 (s : ByteArray) (q : Nat) (h : q < s.size) : (bl s).getD q 0 = s[q] := by
  unfold bl
  rw [List.getD_eq_getElem?_getD, List.getElem?_eq_getElem (by simpa using h)]
  rfl
def sh (n : Nat) : Nat := 7 - n % 8
theorem sh_int (n : Nat) : (sh n : Int) = 7 - (n : Int) % 8 := by unfold sh; omega

theorem shift_any (n : Nat) (w : World) (hn : n ≤ 1152921504606846976) :
    Calls Tryz.prog 74 #[.int .i64 n] w fun e w' => e = .returned (.int .i64 (sh n : Nat)) ∧ w = w' := by
  have HS := Lib.hid (sh_int n)
  go_enter Tryz.func74, Tryz.ntmps74
  go_wp2
  go_ret
  exact ⟨ret_eq (by rw [HS.out]), rfl⟩

theorem left_rd (s : ByteArray) (a g : Nat) (w : World) (hs : s.size ≤ 1099511627776) (ha : a ≤ 8 * s.size) (h : Rdr w g s a) :
    Calls Tryz.prog 58 #[.pointer (some ⟨g, 0, none⟩)] w fun e w' => e = .returned (.int .i64 ((8 * s.size - a : Nat) : Int)) ∧ ∃ n, w' = w.drewN n := by
  have c0 := h.c0
  have c1 := h.c1
  clear h
  go_enter Tryz.func58, Tryz.ntmps58
  go_wp2
  go_quiet (fail)
  go_wp2
  go_ret
  exact ⟨ret_eq (by omega), _, rfl⟩

theorem ask_any (s : ByteArray) (a g : Nat) (w : World) (hs : s.size ≤ 1099511627776) (ha : a < 8 * s.size) (h : Rdr w g s a) :
    Calls Tryz.prog 60 #[.pointer (some ⟨g, 0, none⟩)] w fun e w' => e = .returned (.int .i64 ((sb (bl s) a).toNat : Nat)) ∧ Only g w w' ∧ Rdr w' g s (a + 1) := by
  have c0 := h.c0
  have c1 := h.c1
  have f0 := fun j => Row.free h j
  have H := Lib.hid h
  obtain ⟨q, hq⟩ : ∃ q, a / 8 = q := ⟨_, rfl⟩
  have hq1 : (q : Int) < (s.size : Int) := by omega
  have hq2 : IntKind.i64.wrap ((a : Int) / 8) = (q : Int) := (IntWalk.i64_in _ (by omega)).trans (by omega)
  have HQ := Lib.hid hq
  clear h hq
  go_enter Tryz.func60, Tryz.ntmps60
  go_wp2
  go_quiet (first | (go_at_call 74; exact Calls.quiet_of_same ((shift_any a _ (by omega)).mono fun _ _ h => ⟨h.1, h.2.symm⟩)))
  go_wp2
  go_ret
  refine ⟨ret_eq ?_, ((Only.refl g w).drewN nq).setCell 1 none _, ?_⟩
  · have e1 : (bl s).getD (a / 8) 0 = s[q]'(by omega) := by rw [HQ.out]; exact bl_at3 s q (by omega)
    rw [byte_walk _ (sh a) (s[q]'(by omega)).toNat_lt (by unfold sh; omega)]
    unfold sb sh
    rw [e1]
  · exact (Row.set (Row.drewN H.out nq) 1 _)

theorem join_any' (n : Nat) (s : ByteArray) (a g : Nat) (w : World) (hn : n ≤ 56) (hs : s.size ≤ 1099511627776) (ha : a + n ≤ 8 * s.size) (h : Rdr w g s a) :
    Calls Tryz.prog 59 #[.int .i64 n, .func (.func 60) #[.pointer (some ⟨g, 0, none⟩)] #[]] w fun e w' => e = .returned (.int .i64 (numOf (readB (bl s) a n) : Nat)) ∧ Only g w w' ∧ Rdr w' g s (a + n) := by
  have H := Lib.hid h
  clear h
  go_enter Tryz.func59, Tryz.ntmps59
  go_wp2
  go_loopw [5, 7] (fun x i wr => ∃ k : Nat, k ≤ n ∧ i = .int .i64 k ∧ x = .int .i64 (numOf (readB (bl s) a k) : Nat) ∧ Only g w wr ∧ Rdr wr g s (a + k)) (fun _ i _ => n - (intOf i).toNat)
  case atStart => exact ⟨0, Nat.zero_le _, rfl, rfl, Only.refl g w, H.out⟩
  case round =>
    obtain ⟨k, hk, rfl, rfl, ho, hr⟩ := hrel
    have HO := Lib.hid ho
    have HR := Lib.hid hr
    have hx : numOf (readB (bl s) a k) < 72057594037927936 := Nat.lt_of_lt_of_le (numOf_lt _) (by rw [readB_length]; exact Nat.pow_le_pow_right (by decide) (show k ≤ 56 by omega))
    have HS : Hid (numOf (readB (bl s) a (k + 1)) = 2 * numOf (readB (bl s) a k) + (sb (bl s) (a + k)).toNat) := by unfold Hid; rw [readB_succ, numOf_app]
    obtain ⟨x, hxx⟩ : ∃ x, numOf (readB (bl s) a k) = x := ⟨_, rfl⟩
    obtain ⟨b, hbb⟩ : ∃ b, sb (bl s) (a + k) = b := ⟨_, rfl⟩
    rw [hxx] at hx
    have HW := Lib.hid (join_walk x b (by omega))
    clear ho hr
    by_cases hlt : k < n
    · rw [hxx]
      have HE := Lib.hid (And.intro hxx hbb)
      clear hxx hbb
      go_wp2_with (go_at_call 60; refine (ask_any s (a + k) g _ hs (by omega) HR.out).mono ?_; rintro e w' ⟨rfl, ho, hr⟩)
      go_roundw
      case rel => exact ⟨k + 1, by omega, by go_num, by rw [HS.out, HE.out.1, HE.out.2, HW.out], HO.out.trans ho, hr⟩
      case measure => simp [intOf]; omega
    · obtain rfl : k = n := by omega
      go_wp2
      go_ret
      exact ⟨rfl, HO.out, HR.out⟩

def allz (l : List Bool) : Bool := l.all fun b => !b
theorem allz_app (l : List Bool) (b : Bool) : allz (l ++ [b]) = (allz l && !b) := by simp [allz]
theorem readB_split (s : List UInt8) (a n k : Nat) (h : k < n) : readB s a n = readB s a k ++ sb s (a + k) :: readB s (a + k + 1) (n - k - 1) := by
  conv => lhs; rw [show n = k + 1 + (n - k - 1) by omega, readB_add, readB_succ]
  simp [Nat.add_assoc]
theorem bit_ne (b : Bool) : (((b.toNat : Nat) : Int) != 0) = b := by cases b <;> rfl

theorem allZero_any (n : Nat) (s : ByteArray) (a g : Nat) (w : World) (hs : s.size ≤ 1099511627776) (ha : a + n ≤ 8 * s.size) (h : Rdr w g s a) :
    Calls Tryz.prog 62 #[.int .i64 n, .func (.func 60) #[.pointer (some ⟨g, 0, none⟩)] #[]] w fun e w' => e = .returned (.bool (allz (readB (bl s) a n))) ∧ Only g w w' := by
  have H := Lib.hid h
  clear h
  go_enter Tryz.func62, Tryz.ntmps62
  go_wp2
  go_loopw [6] (fun i wr => ∃ k : Nat, k ≤ n ∧ i = .int .i64 k ∧ allz (readB (bl s) a k) = true ∧ Only g w wr ∧ Rdr wr g s (a + k)) (fun i _ => n - (intOf i).toNat)
  case atStart => exact ⟨0, Nat.zero_le _, rfl, rfl, Only.refl g w, H.out⟩
  case round =>
    obtain ⟨k, hk, rfl, hz, ho, hr⟩ := hrel
    have HZ := Lib.hid hz
    have HO := Lib.hid ho
    have HR := Lib.hid hr
    clear hz ho hr
    by_cases hlt : k < n
    · rcases hb : sb (bl s) (a + k)
      · have HB := Lib.hid hb
        have hn : (((sb (bl s) (a + k)).toNat : Nat) : Int) = 0 := by rw [hb]; rfl
        clear hb
        go_wp2_with (go_at_call 60; refine (ask_any s (a + k) g _ hs (by omega) HR.out).mono ?_; rintro e w' ⟨rfl, ho, hr⟩; rw [hn])
        go_roundw
        case rel => exact ⟨k + 1, by omega, by go_num, by rw [readB_succ, allz_app, HZ.out, HB.out]; rfl, HO.out.trans ho, hr⟩
        case measure => simp [intOf]; omega
      · have HB := Lib.hid hb
        have hn : (((sb (bl s) (a + k)).toNat : Nat) : Int) = 1 := by rw [hb]; rfl
        clear hb
        go_wp2_with (go_at_call 60; refine (ask_any s (a + k) g _ hs (by omega) HR.out).mono ?_; rintro e w' ⟨rfl, ho, hr⟩; rw [hn])
        go_ret
        refine ⟨?_, HO.out.trans ho⟩
        rw [readB_split _ _ _ _ hlt, HB.out]
        simp [allz]
    · obtain rfl : k = n := by omega
      go_wp2
      go_ret
      exact ⟨by rw [HZ.out]; rfl, HO.out⟩

theorem new_any (s : ByteArray) (w : World) :
    Calls Tryz.prog 27 #[.string s] w fun e w' => e = .returned (.pointer (some ⟨w.heap.size, 0, none⟩)) ∧ Below w.heap.size w w' ∧ Rdr w' w.heap.size s 0 := by
  go_enter Tryz.func27, Tryz.ntmps27
  go_wp2
  go_ret
  exact ⟨rfl, (Below.refl _ _).alloc (Nat.le_refl _) _, heap_alloc_new _ _⟩

theorem get_ok (n : Nat) (s : ByteArray) (a g : Nat) (w : World) (hn : n ≤ 56) (hs : s.size ≤ 1099511627776) (ha : a + n ≤ 8 * s.size) (h : Rdr w g s a) :
    Calls Tryz.prog 29 #[.pointer (some ⟨g, 0, none⟩), .int .i64 n] w fun e w' => e = .returned (.tuple #[.int .i64 (numOf (readB (bl s) a n) : Nat), .int .i64 0]) ∧ Only g w w' ∧ Rdr w' g s (a + n) := by
  have H := Lib.hid h
  clear h
  go_enter Tryz.func29, Tryz.ntmps29
  go_wp2_with fail
  refine (left_rd s a g _ hs (by omega) H.out).mono ?_
  rintro e w1 ⟨rfl, m, rfl⟩
  go_wp2_with fail
  refine (join_any' n s a g _ hn hs ha (H.out.drewN m)).mono ?_
  rintro e w2 ⟨rfl, ho, hr⟩
  have HO := Lib.hid (((Only.refl g w).drewN m).trans ho)
  have HR := Lib.hid hr
  clear ho hr
  go_wp2
  go_ret2
  exact ⟨rfl, HO.out, HR.out⟩

theorem get_short (n : Nat) (s : ByteArray) (a g : Nat) (w : World) (hn : n ≤ 56) (hs : s.size ≤ 1099511627776) (ha : a ≤ 8 * s.size) (hf : 8 * s.size < a + n) (h : Rdr w g s a) :
    Calls Tryz.prog 29 #[.pointer (some ⟨g, 0, none⟩), .int .i64 n] w fun e w' => e = .returned (.tuple #[.int .i64 0, .int .i64 2]) ∧ Only g w w' ∧ Rdr w' g s a := by
  have H := Lib.hid h
  clear h
  go_enter Tryz.func29, Tryz.ntmps29
  go_wp2_with fail
  refine (left_rd s a g _ hs (by omega) H.out).mono ?_
  rintro e w1 ⟨rfl, m, rfl⟩
  go_wp2
  go_ret2
  exact ⟨rfl, (Only.refl g w).drewN m, H.out.drewN m⟩

theorem get_arg (n : Int) (p : Value) (w : World) (hn : n < 0 ∨ 56 < n) :
    Calls Tryz.prog 29 #[p, .int .i64 n] w fun e w' => e = .returned (.tuple #[.int .i64 0, .int .i64 1]) ∧ w' = w := by
  by_cases h0 : n < 0
  · go_enter Tryz.func29, Tryz.ntmps29
    go_wp2
    go_ret2
    exact ⟨rfl, rfl⟩
  · have h1 : 56 < n := by omega
    go_enter Tryz.func29, Tryz.ntmps29
    go_wp2
    go_ret2
    exact ⟨rfl, rfl⟩

theorem get_nil (n : Nat) (w : World) (hn : n ≤ 56) :
    Calls Tryz.prog 29 #[.pointer none, .int .i64 n] w fun e w' => e = .returned (.tuple #[.int .i64 0, .int .i64 2]) ∧ w' = w := by
  go_enter Tryz.func29, Tryz.ntmps29
  go_wp2
  go_ret2
  exact ⟨rfl, rfl⟩
theorem left_nil (w : World) :
    Calls Tryz.prog 58 #[.pointer none] w fun e w' => e = .returned (.int .i64 0) ∧ w' = w := by
  go_enter Tryz.func58, Tryz.ntmps58
  go_wp2
  go_ret
  exact ⟨rfl, rfl⟩
theorem zeros_nil (w : World) :
    Calls Tryz.prog 31 #[.pointer none] w fun e w' => e = .returned (.bool true) ∧ w' = w := by
  go_enter Tryz.func31, Tryz.ntmps31
  go_wp2
  go_ret
  exact ⟨rfl, rfl⟩

theorem zeros_rd (s : ByteArray) (a g : Nat) (w : World) (hs : s.size ≤ 1099511627776) (ha : a ≤ 8 * s.size) (h : Rdr w g s a) :
    Calls Tryz.prog 31 #[.pointer (some ⟨g, 0, none⟩)] w fun e w' => e = .returned (.bool (allz (readB (bl s) a (8 * s.size - a)))) ∧ Below w.heap.size w w' := by
  have H := Lib.hid h
  have c0 := h.c0
  have c1 := h.c1
  clear h
  go_enter Tryz.func31, Tryz.ntmps31
  have HN : Hid (Rdr (w.alloc (.cells (rdCells s a) 102)) w.heap.size s a) := heap_alloc_new _ _
  have HB : Hid (Below w.heap.size w (w.alloc (.cells (rdCells s a) 102))) := (Below.refl _ _).alloc (Nat.le_refl _) _
  go_wp2_with fail
  refine (left_rd s a w.heap.size _ hs ha HN.out).mono ?_
  rintro e w1 ⟨rfl, m, rfl⟩
  go_wp2_with fail
  refine (allZero_any (8 * s.size - a) s a w.heap.size _ hs (by omega) (HN.out.drewN m)).mono ?_
  rintro e w2 ⟨rfl, ho⟩
  have HC := Lib.hid ((Below.drewN HB.out m).trans (ho.below (Nat.le_refl _)))
  clear ho
  go_wp2
  go_ret
  exact ⟨rfl, HC.out⟩
end Go.Proofs.YtalbcimnnihmnaaGreat

/- The contracts of layer 3's Writer: lay, split, Put, Bits, Bytes. Conditions: the Writer lies in a block of its own, its bytes in another one; no more than 2^40 bits. -/
namespace Go.Proofs.YtalbcimnnihmnaaGreat
open Go.RowKit
open M

/-- A Writer, as it lies. -/
def wrCells (v : Value) (n : Nat) : Array Value := #[v, .int .i64 (n : Nat)]
structure Wr (w : World) (B g : Nat) (v : Value) (bs : List Bool) : Prop where
  row : Row w g 59 (wrCells v bs.length)
  own : w.ownsRow B 5 1 v (pack bs).length (byteCells (pack bs)).toList
  lt : g < B
/-- Nothing has turned but block g, the old row's block, and what is new; the row's block is the old one or new. -/
structure Moved (w w' : World) (g : Nat) (v v' : Value) : Prop where
  os : w'.os = w.os
  tape : w'.tape = w.tape
  output : w'.output = w.output
  size : w.heap.size ≤ w'.heap.size
  block : ∀ k, k < w.heap.size → k ≠ g → some k ≠ v.ownBlock → w'.heap[k]? = w.heap[k]?
  own : v'.ownBlock = v.ownBlock ∨ ∃ k, v'.ownBlock = some k ∧ w.heap.size ≤ k
theorem Moved.refl (w : World) (g : Nat) (v : Value) : Moved w w g v v := ⟨rfl, rfl, rfl, Nat.le_refl _, fun _ _ _ _ => rfl, Or.inl rfl⟩
theorem Moved.trans {a b c : World} {g : Nat} {u v x : Value} (h : Moved a b g u v) (k : Moved b c g v x) : Moved a c g u x := by
  refine ⟨k.os.trans h.os, k.tape.trans h.tape, k.output.trans h.output, Nat.le_trans h.size k.size, fun i hi hg hu => ?_, ?_⟩
  · refine (k.block i (Nat.lt_of_lt_of_le hi h.size) hg ?_).trans (h.block i hi hg hu)
    rcases h.own with e | ⟨m, e, hm⟩
    · rw [e]; exact hu
    · rw [e]; intro e2; injection e2 with e2; omega
  · rcases k.own with e | ⟨m, e, hm⟩
    · rw [e]
      exact h.own
    · exact Or.inr ⟨m, e, Nat.le_trans h.size hm⟩
theorem Moved.below {w w' : World} {B g : Nat} {v v' : Value} (h : Moved w w' g v v') (hg : B ≤ g) (hv : ∀ k, v.ownBlock = some k → B ≤ k) (hB : B ≤ w.heap.size) : Below B w w' :=
  ⟨h.os, h.tape, h.output, h.size, fun k hk => h.block k (by omega) (by omega) (fun e => by have := hv k e.symm; omega)⟩

theorem or_walk (x : Nat) (b : Bool) (L : Nat) (hx : x < 256) : bits .or .u8 (x : Int) (IntKind.u8.wrap (IntKind.i64.wrap (((b.toNat : Nat) : Int) * 2 ^ min (sh L) 64))) = ((x ||| (b.toNat <<< (7 - L % 8)) : Nat) : Int) := by
  have h0 : min (sh L) 64 = 7 - L % 8 := by unfold sh; omega
  rw [h0]
  have h1 : b.toNat <<< (7 - L % 8) < 256 := by
    rw [Nat.shiftLeft_eq]
    have : 2 ^ (7 - L % 8) ≤ 2 ^ 7 := Nat.pow_le_pow_right (by decide) (by omega)
    cases b <;> simp <;> omega
  have e : ((b.toNat : Nat) : Int) * 2 ^ (7 - L % 8) = ((b.toNat <<< (7 - L % 8) : Nat) : Int) := by
    rw [Nat.shiftLeft_eq, Int.natCast_mul, Int.natCast_pow]; rfl
  rw [e]
  generalize b.toNat <<< (7 - L % 8) = y at *
  rw [IntWalk.i64_in _ (by omega), show IntKind.u8.wrap (y : Int) = (y : Int) by rw [IntKind.wrap_u8]; omega, u8_or_nat x y hx h1]
theorem own_set {w : World} {B n cap g : Nat} {e : TypeId} {xs : List Value} (h : w.ownsRow B e 1 (.slice (some ⟨g, 0, none⟩) n cap) n xs) (i : Nat) (u : Value) :
    (w.setCell ⟨g, i, none⟩ u).ownsRow B e 1 (.slice (some ⟨g, 0, none⟩) n cap) n (xs.set i u) := by
  refine ⟨by rw [List.length_set]; exact h.1, ?_⟩
  rcases h.2 with ⟨h0, _⟩ | ⟨g', cap', cur, hv, hb, hr, hc, hm, hs, ht⟩
  · cases h0
  · simp only [Value.slice.injEq, Option.some.injEq, Addr.mk.injEq, and_true, true_and] at hv
    obtain ⟨rfl, rfl⟩ := hv
    refine Or.inr ⟨g, cap, cur.setIfInBounds i u, rfl, hb, heap_setCell_same _ _ _ _ _ _ hr, hc, hm, by simpa using hs, ?_⟩
    rw [Array.toList_setIfInBounds, List.take_set, ht]
theorem own_drew3 {w : World} {B n : Nat} {e : TypeId} {v : Value} {xs : List Value} (h : w.ownsRow B e 1 v n xs) : w.drew.ownsRow B e 1 v n xs := h

theorem byteCells_set (l : List UInt8) (i n : Nat) (hn : n < 256) : (byteCells l).toList.set i (.int .u8 (n : Int)) = (byteCells (l.set i (UInt8.ofNat n))).toList := by
  unfold byteCells
  rw [List.map_set, UInt8.toNat_ofNat_of_lt' hn]
theorem lay_end (bs : List Bool) (b : Bool) {B g g1 cap q L x : Nat} {v : Value} {w w2 : World}
    (HR : Row w2 g 59 (wrCells (.slice (some ⟨g1, 0, none⟩) (q + 1) cap) bs.length))
    (HO : w2.ownsRow B 5 1 (.slice (some ⟨g1, 0, none⟩) (q + 1) cap) (q + 1) (byteCells (packN bs (q + 1))).toList)
    (HM : Moved w w2 g v (.slice (some ⟨g1, 0, none⟩) (q + 1) cap)) (hne : g ≠ g1) (hq : bs.length / 8 = q) (hL : bs.length = L) (hx : byteAt bs q = x) (hlt : g < B) :
    ∃ v', Wr (((w2.setCell ⟨g1, q, none⟩ (.int .u8 ((x ||| (b.toNat <<< (7 - L % 8)) : Nat) : Int))).setCell ⟨g, 1, none⟩ (.int .i64 ((L : Int) + 1))).drew) B g v' (bs ++ [b]) ∧
      Moved w (((w2.setCell ⟨g1, q, none⟩ (.int .u8 ((x ||| (b.toNat <<< (7 - L % 8)) : Nat) : Int))).setCell ⟨g, 1, none⟩ (.int .i64 ((L : Int) + 1))).drew) g v v' := by
  have hX : (x ||| (b.toNat <<< (7 - L % 8))) < 256 := by
    have h1 : b.toNat <<< (7 - L % 8) < 2 ^ 8 := by
      rw [Nat.shiftLeft_eq]
      have : 2 ^ (7 - L % 8) ≤ 2 ^ 7 := Nat.pow_le_pow_right (by decide) (by omega)
      cases b <;> simp <;> omega
    have h2 : x < 2 ^ 8 := by rw [← hx]; exact byteAt_lt _ _
    exact Nat.or_lt_two_pow h2 h1
  have hpk : (byteCells (packN bs (q + 1))).toList.set q (.int .u8 ((x ||| (b.toNat <<< (7 - L % 8)) : Nat) : Int)) = (byteCells (pack (bs ++ [b]))).toList := by
    rw [byteCells_set _ _ _ hX, ← pack_lay bs b, hq, hL, hx]
  have hlen : (pack (bs ++ [b])).length = q + 1 := by rw [pack_length]; simp; omega
  refine ⟨.slice (some ⟨g1, 0, none⟩) (q + 1) cap, ⟨?_, ?_, hlt⟩, HM.trans ⟨rfl, rfl, rfl, by simp [World.setCell, World.drew], fun k hk h1 h2 => ?_, Or.inl rfl⟩⟩
  · have := (HR.far (p := ⟨g1, q, none⟩) hne (.int .u8 ((x ||| (b.toNat <<< (7 - L % 8)) : Nat) : Int))).set 1 (.int .i64 ((L : Int) + 1))
    have e : (wrCells (.slice (some ⟨g1, 0, none⟩) (q + 1) cap) bs.length).setIfInBounds 1 (.int .i64 ((L : Int) + 1)) = wrCells (.slice (some ⟨g1, 0, none⟩) (q + 1) cap) (bs ++ [b]).length := by
      simp [wrCells, hL]
    rw [e] at this
    exact this
  · rw [hlen, ← hpk]
    exact ownsRow_setCell_below (own_set HO q _) (a := ⟨g, 1, none⟩) hlt _
  · refine (Below.heap_setCell _ _ _ _ h1).trans (Below.heap_setCell _ _ _ _ (fun e => h2 ?_))
    rw [e]; rfl

set_option maxHeartbeats 1000000 in
set_option maxRecDepth 100000 in
theorem lay_open (bs : List Bool) (b : Bool) (B g : Nat) (v : Value) (w : World) (hl : bs.length ≤ 1099511627776) (hB : B ≤ w.heap.size) (h8 : bs.length % 8 = 0) (h : Wr w B g v bs) :
    Calls Tryz.prog 53 #[.pointer (some ⟨g, 0, none⟩), .int .i64 (b.toNat : Nat)] w fun e w' => e = .returned (.tuple #[]) ∧ ∃ v', Wr w' B g v' (bs ++ [b]) ∧ Moved w w' g v v' := by
  obtain ⟨i0, hi0, hz0, hz1, hz2⟩ := info_parts byte_info
  have HI := Lib.hid (And.intro hi0 (And.intro hz0 (And.intro hz1 hz2)))
  clear hi0 hz0 hz1 hz2
  have H := Lib.hid h
  have c0 : w.cell? ⟨g, 0, none⟩ = some v := cell_of_row _ _ _ _ _ _ h.row
  have c1 : w.cell? ⟨g, 1, none⟩ = some (.int .i64 (bs.length : Nat)) := cell_of_row _ _ _ _ _ _ h.row
  have f0 := fun j => h.row.free j
  have hlt : g < w.heap.size := h.row.lt
  have h8' : ((bs.length : Nat) : Int) % 8 = 0 := by omega
  clear h
  go_enter Tryz.func53, Tryz.ntmps53
  go_wp2_with (at_builtin; refine wpList_append_lies _ rfl _ _ 57 rfl B 5 i0 (.int .u8 0) 1 1 Tryz.underlying57 HI.out.1 HI.out.2.1 HI.out.2.2.1 HI.out.2.2.2 rfl (by decide) _ _ _ rfl (H.out.own.alloc _) ⟨w.heap.size, 0, none⟩ 1 1 [.int .u8 0] rfl rfl (one_new _ _ rfl _ _) one_cell (by decide) ?c3 ?c4 ?c5 _ rfl ?_)
  case c3 => rw [pack_length]; unfold maxLen; omega
  case c4 => rw [pack_length]; omega
  case c5 => simp; omega
  intro g1 cap w1 hown hgrow hg1 hlt1
  obtain ⟨q, hq⟩ : ∃ q, bs.length / 8 = q := ⟨_, rfl⟩
  have hpl : (pack bs).length = q := by rw [pack_length]; omega
  rw [hpl] at hown
  have hcs : (byteCells (pack bs)).toList ++ [Value.int .u8 0] = (byteCells (packN bs (q + 1))).toList := by
    rw [← hq, ← pack_open bs h8]; simp [byteCells]
  rw [hcs] at hown
  have hr1 : Row w1 g 59 (wrCells v bs.length) := (H.out.row.alloc _).grown hgrow (by simp; omega) (own_ne H.out.own g H.out.lt)
  have hgne : g ≠ g1 := by
    rcases hg1 with e | e
    · have := own_ge H.out.own g1 e; have := H.out.lt; omega
    · omega
  have e0 : w1.cell? ⟨g, 0, none⟩ = some v := cell_of_row _ _ _ _ _ _ hr1
  have e0f : w1.frozen? ⟨g, 0, none⟩ = false := hr1.free 0
  have HW2 : Hid (Row (w1.setCell ⟨g, 0, none⟩ (.slice (some ⟨g1, 0, none⟩) (q + 1) cap)) g 59 (wrCells (.slice (some ⟨g1, 0, none⟩) (q + 1) cap) bs.length) ∧
      (w1.setCell ⟨g, 0, none⟩ (.slice (some ⟨g1, 0, none⟩) (q + 1) cap)).ownsRow B 5 1 (.slice (some ⟨g1, 0, none⟩) (q + 1) cap) (q + 1) (byteCells (packN bs (q + 1))).toList ∧
      Moved w (w1.setCell ⟨g, 0, none⟩ (.slice (some ⟨g1, 0, none⟩) (q + 1) cap)) g v (.slice (some ⟨g1, 0, none⟩) (q + 1) cap)) := by
    refine ⟨hr1.set 0 _, ownsRow_setCell_below hown (by exact H.out.lt) _, ?_⟩
    refine ⟨hgrow.os, hgrow.tape, hgrow.output, ?_, fun k hk hkg hkv => ?_, ?_⟩
    · have := hgrow.size; simp [World.setCell] at this ⊢; omega
    · exact (Below.heap_setCell _ _ _ _ hkg).trans ((hgrow.block k (by simp; omega) hkv).trans (Below.heap_alloc w _ k hk))
    · rcases hg1 with e | e
      · exact Or.inl e.symm
      · exact Or.inr ⟨g1, rfl, by omega⟩
  rw [hpl]
  clear hown hgrow hg1 hcs hr1 hpl
  go_wp2_with fail
  obtain ⟨HR, HO, HM⟩ := HW2.out
  generalize w1.setCell ⟨g, 0, none⟩ (.slice (some ⟨g1, 0, none⟩) (q + 1) cap) = w2 at *
  have d0 : w2.cell? ⟨g, 0, none⟩ = some (.slice (some ⟨g1, 0, none⟩) (q + 1) cap) := cell_of_row _ _ _ _ _ _ HR
  have d1 : w2.cell? ⟨g, 1, none⟩ = some (.int .i64 (bs.length : Nat)) := cell_of_row _ _ _ _ _ _ HR
  have d2 : w2.cell? ⟨g1, q, none⟩ = some (.int .u8 (byteAt bs q : Nat)) := by
    obtain ⟨g', cap', hv, _, _, hc⟩ := own_cells HO (by omega)
    simp only [Value.slice.injEq, Option.some.injEq, Addr.mk.injEq, and_true, true_and] at hv
    obtain ⟨rfl, rfl⟩ := hv
    rw [hc q (by omega), Array.getElem?_toList, byteCells_get _ _ (by rw [packN_length]; omega)]
    have := packN_get bs (q + 1) q (by omega)
    rw [List.getElem?_eq_getElem (by rw [packN_length]; omega)] at this
    rw [Option.some.inj this, UInt8.toNat_ofNat_of_lt' (byteAt_lt _ _)]
  have df : ∀ j, w2.frozen? ⟨g, j, none⟩ = false := fun j => HR.free j
  have dg : ∀ j, w2.frozen? ⟨g1, j, none⟩ = false := by
    rcases HO.2 with ⟨h0, _⟩ | ⟨g', cap', cur, hv, hb, hr, _⟩
    · cases h0
    · simp only [Value.slice.injEq, Option.some.injEq, Addr.mk.injEq, and_true, true_and] at hv
      obtain ⟨rfl, rfl⟩ := hv
      exact fun j => frozen_of_row _ _ _ _ _ hr
  have HHR := Lib.hid HR
  have HHO := Lib.hid HO
  have HHM := Lib.hid HM
  obtain ⟨L, hL⟩ : ∃ L, bs.length = L := ⟨_, rfl⟩
  obtain ⟨x, hx⟩ : ∃ x, byteAt bs q = x := ⟨_, rfl⟩
  have hor := or_walk x b L (by rw [← hx]; exact byteAt_lt _ _)
  have hwq : IntKind.i64.wrap (q : Int) = (q : Int) := IntWalk.i64_in _ (by omega)
  have hq0 : (q : Int) < (q : Int) + 1 := by omega
  have HORR := Lib.hid hor
  have HLX := Lib.hid (And.intro hL hx)
  rw [hL] at d1
  rw [hx] at d2
  clear HR HO HM hor c0 c1 f0 e0 e0f HW2 hx
  go_still_tail 22, (by kernel_rfl)
  still_call ((shift_any L _ (by omega)).mono fun _ _ h => ⟨h.1, h.2.symm⟩)
  repeat still_step
  refine wpStill_nil ?_
  change wpList _ _ _ _ _ w2.drew
  rw [HORR.out]
  go_wp2
  go_end0
  exact ⟨rfl, lay_end bs b HHR.out HHO.out HHM.out hgne hq HLX.out.1 HLX.out.2 H.out.lt⟩

set_option maxHeartbeats 1000000 in
set_option maxRecDepth 100000 in
theorem lay_mid (bs : List Bool) (b : Bool) (B g : Nat) (v : Value) (w : World) (hl : bs.length ≤ 1099511627776) (h8 : bs.length % 8 ≠ 0) (h : Wr w B g v bs) :
    Calls Tryz.prog 53 #[.pointer (some ⟨g, 0, none⟩), .int .i64 (b.toNat : Nat)] w fun e w' => e = .returned (.tuple #[]) ∧ ∃ v', Wr w' B g v' (bs ++ [b]) ∧ Moved w w' g v v' := by
  obtain ⟨q, hq⟩ : ∃ q, bs.length / 8 = q := ⟨_, rfl⟩
  have hpl : (pack bs).length = q + 1 := by rw [pack_length]; omega
  have hpk : pack bs = packN bs (q + 1) := by rw [← hq]; exact pack_mid bs h8
  have H := Lib.hid h
  obtain ⟨HR, HO, hgB⟩ := h
  rw [hpl, hpk] at HO
  obtain ⟨g1, cap, rfl, hb1, hlt1, hcc⟩ := own_cells HO (by omega)
  clear hcc
  have hgne : g ≠ g1 := by omega
  have HM := Moved.refl w g (.slice (some ⟨g1, 0, none⟩) (q + 1) cap)
  have h8' : ((bs.length : Nat) : Int) % 8 ≠ 0 := by omega
  have h8b : ((((bs.length : Nat) : Int) % 8) == 0) = false := by rw [beq_eq_false_iff_ne]; exact h8'
  clear hpl hpk
  have d0 : w.cell? ⟨g, 0, none⟩ = some (.slice (some ⟨g1, 0, none⟩) (q + 1) cap) := cell_of_row _ _ _ _ _ _ HR
  have d1 : w.cell? ⟨g, 1, none⟩ = some (.int .i64 (bs.length : Nat)) := cell_of_row _ _ _ _ _ _ HR
  have d2 : w.cell? ⟨g1, q, none⟩ = some (.int .u8 (byteAt bs q : Nat)) := by
    obtain ⟨g', cap', hv, _, _, hc⟩ := own_cells HO (by omega)
    simp only [Value.slice.injEq, Option.some.injEq, Addr.mk.injEq, and_true, true_and] at hv
    obtain ⟨rfl, rfl⟩ := hv
    rw [hc q (by omega), Array.getElem?_toList, byteCells_get _ _ (by rw [packN_length]; omega)]
    have := packN_get bs (q + 1) q (by omega)
    rw [List.getElem?_eq_getElem (by rw [packN_length]; omega)] at this
    rw [Option.some.inj this, UInt8.toNat_ofNat_of_lt' (byteAt_lt _ _)]
  have df : ∀ j, w.frozen? ⟨g, j, none⟩ = false := fun j => HR.free j
  have dg : ∀ j, w.frozen? ⟨g1, j, none⟩ = false := by
    rcases HO.2 with ⟨h0, _⟩ | ⟨g', cap', cur, hv, hb, hr, _⟩
    · cases h0
    · simp only [Value.slice.injEq, Option.some.injEq, Addr.mk.injEq, and_true, true_and] at hv
      obtain ⟨rfl, rfl⟩ := hv
      exact fun j => frozen_of_row _ _ _ _ _ hr
  have HHR := Lib.hid HR
  have HHO := Lib.hid HO
  have HHM := Lib.hid HM
  obtain ⟨L, hL⟩ : ∃ L, bs.length = L := ⟨_, rfl⟩
  obtain ⟨x, hx⟩ : ∃ x, byteAt bs q = x := ⟨_, rfl⟩
  have hor := or_walk x b L (by rw [← hx]; exact byteAt_lt _ _)
  have hwq : IntKind.i64.wrap (q : Int) = (q : Int) := IntWalk.i64_in _ (by omega)
  have hq0 : (q : Int) < (q : Int) + 1 := by omega
  have HORR := Lib.hid hor
  have HLX := Lib.hid (And.intro hL hx)
  rw [hL] at d1
  rw [hx] at d2
  clear HR HO HM hor hx
  rw [hL] at h8b
  go_enter Tryz.func53, Tryz.ntmps53
  go_wp2_with fail
  go_still_tail 22, (by kernel_rfl)
  still_call ((shift_any L _ (by omega)).mono fun _ _ h => ⟨h.1, h.2.symm⟩)
  repeat still_step
  refine wpStill_nil ?_
  change wpList _ _ _ _ _ w.drew
  rw [HORR.out]
  go_wp2
  go_end0
  exact ⟨rfl, lay_end bs b HHR.out HHO.out HHM.out hgne hq HLX.out.1 HLX.out.2 H.out.lt⟩

theorem lay_any (bs : List Bool) (b : Bool) (B g : Nat) (v : Value) (w : World) (hl : bs.length ≤ 1099511627776) (hB : B ≤ w.heap.size) (h : Wr w B g v bs) :
    Calls Tryz.prog 53 #[.pointer (some ⟨g, 0, none⟩), .int .i64 (b.toNat : Nat)] w fun e w' => e = .returned (.tuple #[]) ∧ ∃ v', Wr w' B g v' (bs ++ [b]) ∧ Moved w w' g v v' := by
  by_cases h8 : bs.length % 8 = 0
  · exact lay_open bs b B g v w hl hB h8 h
  · exact lay_mid bs b B g v w hl h8 h

theorem nat_shr (x k : Nat) : (x : Int) / 2 ^ k = ((x / 2 ^ k : Nat) : Int) := div_pow x k

theorem split3_any (x n : Nat) (bs : List Bool) (B g : Nat) (v : Value) (w : World) (hn : n ≤ 56) (hx : x < 72057594037927936) (hl : bs.length + 56 ≤ 1099511627776) (hB : B ≤ w.heap.size) (h : Wr w B g v bs) :
    Calls Tryz.prog 52 #[.int .i64 x, .int .i64 n, .func (.func 53) #[.pointer (some ⟨g, 0, none⟩)] #[]] w fun e w' => e = .returned (.tuple #[]) ∧ ∃ v', Wr w' B g v' (bs ++ bitsOf x n) ∧ Moved w w' g v v' := by
  have H := Lib.hid h
  clear h
  go_enter Tryz.func52, Tryz.ntmps52
  go_wp2
  go_loopw [6] (fun i wr => ∃ k : Nat, k ≤ n ∧ i = .int .i64 ((n : Int) - 1 - k) ∧ ∃ v', Wr wr B g v' (bs ++ (bitsOf x n).take k) ∧ Moved w wr g v v') (fun i _ => (intOf i + 1).toNat)
  case atStart => exact ⟨0, Nat.zero_le _, by congr 1; omega, v, by simpa using H.out, Moved.refl _ _ _⟩
  case round =>
    obtain ⟨k, hk, rfl, v1, hw, hm⟩ := hrel
    have HW := Lib.hid hw
    have HM := Lib.hid hm
    clear hw hm
    by_cases hlt : k < n
    · obtain ⟨i, hi⟩ : ∃ i : Nat, n - 1 - k = i := ⟨_, rfl⟩
      have hi2 : (n : Int) - 1 - k = (i : Int) := by omega
      rw [hi2]
      have HI := Lib.hid (bit_walk x i (by omega))
      have HT := Lib.hid (bitsOf_take x n k hlt)
      have hi3 : min i 64 = i := by omega
      go_wp2_with fail
      rw [HI.out]
      refine (lay_any (bs ++ (bitsOf x n).take k) (x.testBit i) B g v1 _ (by rw [List.length_append, List.length_take, bitsOf_length]; omega) (by have := HM.out.size; omega) HW.out).mono ?_
      rintro e w' ⟨rfl, v2, hw2, hm2⟩
      have HW2 := Lib.hid hw2
      have HM2 := Lib.hid hm2
      clear hw2 hm2
      go_wp2
      go_roundw
      case rel => exact ⟨k + 1, by omega, by congr 1; omega, v2, by rw [HT.out, hi, ← List.append_assoc]; exact HW2.out, HM.out.trans HM2.out⟩
      case measure => simp [intOf]
    · obtain rfl : k = n := by omega
      rw [show (k : Int) - 1 - k = -1 by omega]
      go_wp2
      go_end0
      exact ⟨rfl, v1, by have := HW.out; rwa [List.take_of_length_le (by rw [bitsOf_length]; omega)] at this, HM.out⟩
end Go.Proofs.YtalbcimnnihmnaaGreat
