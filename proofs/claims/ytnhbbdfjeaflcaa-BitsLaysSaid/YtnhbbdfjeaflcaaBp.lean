/-
  The contracts of layer 3's Put, Bits, Bytes, and the law's awake. Conditions: as the Writer's.
-/
import Derived.Test.YtnhbbdfjeaflcaaBw
namespace Go.Proofs.Ytnhbbdfjeaflcaa
open Go.RowKit
open M

theorem shr_zero (x n : Nat) (h : x < 2 ^ n) : (x : Int) / 2 ^ n = 0 := by
  rw [div_pow, Nat.div_eq_of_lt h]; rfl
theorem pow56 (x n : Nat) (hn : n ≤ 56) (h : x < 2 ^ n) : x < 72057594037927936 :=
  Nat.lt_of_lt_of_le h (Nat.pow_le_pow_right (n := 2) (j := 56) (by decide) hn)

theorem put_ok (x n : Nat) (bs : List Bool) (B g : Nat) (v : Value) (w : World) (hn : n ≤ 56) (hx : x < 2 ^ n) (hl : bs.length + 56 ≤ 1099511627776) (hB : B ≤ w.heap.size) (h : Wr w B g v bs) :
    Calls Try.prog 11 #[.pointer (some ⟨g, 0, none⟩), .int .i64 x, .int .i64 n] w fun e w' => e = .returned (.int .i64 0) ∧ ∃ v', Wr w' B g v' (bs ++ bitsOf x n) ∧ Moved w w' g v v' := by
  have H := Lib.hid h
  have hx6 := pow56 x n hn hx
  have hz : (x : Int) / 2 ^ n = 0 := shr_zero x n hx
  clear h hx
  go_enter Try.func11, Try.ntmps11
  go_wp2_with fail
  refine (split_any x n bs B g v _ hn hx6 hl hB H.out).mono ?_
  rintro e w' ⟨rfl, v', hw, hm⟩
  have R := Lib.hid (And.intro hw hm)
  clear hw hm
  go_wp2
  go_ret
  exact ⟨rfl, v', R.out.1, R.out.2⟩

theorem put_arg (x n : Int) (p : Option Addr) (w : World) (hn : n < 0 ∨ 56 < n) :
    Calls Try.prog 11 #[.pointer p, .int .i64 x, .int .i64 n] w fun e w' => e = .returned (.int .i64 1) ∧ w' = w := by
  rcases p with _ | p
  · go_enter Try.func11, Try.ntmps11
    go_wp2
    go_ret
    exact ⟨rfl, rfl⟩
  · by_cases h0 : n < 0
    · go_enter Try.func11, Try.ntmps11
      go_wp2
      go_ret
      exact ⟨rfl, rfl⟩
    · have h1 : 56 < n := by omega
      go_enter Try.func11, Try.ntmps11
      go_wp2
      go_ret
      exact ⟨rfl, rfl⟩
theorem put_nil (x n : Int) (w : World) :
    Calls Try.prog 11 #[.pointer none, .int .i64 x, .int .i64 n] w fun e w' => e = .returned (.int .i64 1) ∧ w' = w := by
  go_enter Try.func11, Try.ntmps11
  go_wp2
  go_ret
  exact ⟨rfl, rfl⟩

theorem shr_some (x : Int) (n : Nat) (h : (2 : Int) ^ n ≤ x) : x / 2 ^ n ≠ 0 := by
  have hp : (0 : Int) < 2 ^ n := Int.pow_pos (by decide)
  have := Int.le_ediv_of_mul_le hp (show 1 * (2 : Int) ^ n ≤ x by omega)
  omega
theorem put_range (x : Int) (n : Nat) (p : Addr) (w : World) (hn : n ≤ 56) (hx : x < 0 ∨ (2 : Int) ^ n ≤ x) :
    Calls Try.prog 11 #[.pointer (some p), .int .i64 x, .int .i64 n] w fun e w' => e = .returned (.int .i64 7) ∧ w' = w := by
  have HX := Lib.hid hx
  clear hx
  by_cases h0 : x < 0
  · go_enter Try.func11, Try.ntmps11
    go_wp2
    go_ret
    exact ⟨rfl, rfl⟩
  · have hz : x / 2 ^ n ≠ 0 := shr_some x n (HX.out.resolve_left h0)
    have hzb : (x / 2 ^ n != 0) = true := by rw [bne_iff_ne]; exact hz
    go_enter Try.func11, Try.ntmps11
    go_wp2
    go_ret
    exact ⟨rfl, rfl⟩

theorem bits_wr (bs : List Bool) (B g : Nat) (v : Value) (w : World) (h : Wr w B g v bs) :
    Calls Try.prog 15 #[.pointer (some ⟨g, 0, none⟩)] w fun e w' => e = .returned (.int .i64 (bs.length : Nat)) ∧ w' = w := by
  have c1 : w.cell? ⟨g, 1, none⟩ = some (.int .i64 (bs.length : Nat)) := cell_of_row _ _ _ _ _ _ h.row
  clear h
  go_enter Try.func15, Try.ntmps15
  go_wp2
  go_ret
  exact ⟨rfl, rfl⟩
theorem bits_nil (w : World) :
    Calls Try.prog 15 #[.pointer none] w fun e w' => e = .returned (.int .i64 0) ∧ w' = w := by
  go_enter Try.func15, Try.ntmps15
  go_wp2
  go_ret
  exact ⟨rfl, rfl⟩
theorem bytes_nil (w : World) :
    Calls Try.prog 13 #[.pointer none] w fun e w' => e = .returned (.string (ofB [])) ∧ w' = w := by
  go_enter Try.func13, Try.ntmps13
  go_wp2
  go_ret
  exact ⟨rfl, rfl⟩
theorem bytes_wr (bs : List Bool) (B g : Nat) (v : Value) (w : World) (h : Wr w B g v bs) :
    Calls Try.prog 13 #[.pointer (some ⟨g, 0, none⟩)] w fun e w' => e = .returned (.string (ofB (pack bs))) ∧ w' = w := by
  have c0 : w.cell? ⟨g, 0, none⟩ = some v := cell_of_row _ _ _ _ _ _ h.row
  by_cases hp : (pack bs).length = 0
  · have he : pack bs = [] := List.eq_nil_of_length_eq_zero hp
    rcases h.own.2 with ⟨rfl, _⟩ | ⟨g1, cap, cur, rfl, hb, hr, hc, hm, hs, ht⟩
    · have hv := run_convert_bytes_nil (P := Try.prog) w 25 5 Try.underlying25 Try.underlying5 0 0 9 Try.underlying9
      rw [he]
      clear h
      go_enter Try.func13, Try.ntmps13
      go_wp2
      go_ret
      exact ⟨rfl, rfl⟩
    · have hv := run_conv w g1 0 cap 0 [] rfl (fun i hi => by simp at hi)
      rw [hp] at c0
      rw [he]
      clear h hb hr hc hm hs ht
      go_enter Try.func13, Try.ntmps13
      go_wp2
      go_ret
      exact ⟨rfl, rfl⟩
  · obtain ⟨g1, cap, rfl, hb, hlt, hc⟩ := own_cells h.own (by omega)
    have hv := run_conv w g1 0 cap (pack bs).length (pack bs) rfl (fun i hi => by rw [Nat.zero_add, hc i hi, Array.getElem?_toList, byteCells_get _ _ hi])
    clear h hc
    go_enter Try.func13, Try.ntmps13
    go_wp2
    go_ret
    exact ⟨rfl, rfl⟩

/-- A new Writer. -/
theorem wr_new (w : World) (B g : Nat) (hg : w.heap.size = g) (hB : g < B) : Wr (w.alloc (.cells #[.slice none 0 0, .int .i64 0] 27)) B g (.slice none 0 0) [] :=
  ⟨row_new w g hg _ _, World.ownsRow_nil _ _ _ _, hB⟩

set_option maxHeartbeats 1000000 in
theorem awake_any (w : World) : Calls Try.prog 10 #[] w fun e w' => e = .returned (.bool true) ∧ Below w.heap.size w w' := by
  have H0 : Hid (Wr (w.alloc (.cells #[.slice none 0 0, .int .i64 0] 27)) (w.heap.size + 1) w.heap.size (.slice none 0 0) []) := wr_new w _ _ rfl (by omega)
  have HB0 : Hid (Below w.heap.size w (w.alloc (.cells #[.slice none 0 0, .int .i64 0] 27))) := (Below.refl _ _).alloc (Nat.le_refl _) _
  go_enter Try.func10, Try.ntmps10
  go_wp2_with fail
  refine (put_ok 5 3 [] (w.heap.size + 1) w.heap.size _ _ (by decide) (by decide) (by decide) (by simp) H0.out).mono ?_
  rintro e w1 ⟨rfl, v1, h1, m1⟩
  have H1 := Lib.hid h1
  have HB1 := Lib.hid (HB0.out.trans (m1.below (B := w.heap.size) (Nat.le_refl _) (fun k hk => by simp [Value.ownBlock] at hk) (by simp)))
  clear h1 m1
  go_wp2_with fail
  refine (put_ok 1 1 ([] ++ bitsOf 5 3) (w.heap.size + 1) w.heap.size _ _ (by decide) (by decide) (by decide) ?_ H1.out).mono ?_
  · have := H1.out.row.lt; omega
  rintro e w2 ⟨rfl, v2, h2, m2⟩
  have H2 := Lib.hid h2
  have HB2 := Lib.hid (HB1.out.trans (m2.below (B := w.heap.size) (Nat.le_refl _) (fun k hk => by have := own_ge H1.out.own k hk; omega) HB1.out.size))
  clear h2 m2
  go_wp2_with fail
  refine (bytes_wr _ _ _ _ _ H2.out).mono ?_
  rintro e w3 ⟨rfl, rfl⟩
  rw [show ofB (pack ([] ++ bitsOf 5 3 ++ bitsOf 1 1)) = ⟨#[176]⟩ by decide]
  go_wp2_with fail
  refine (bits_wr _ _ _ _ _ H2.out).mono ?_
  rintro e w4 ⟨rfl, rfl⟩
  rw [show (([] : List Bool) ++ bitsOf 5 3 ++ bitsOf 1 1).length = 4 by decide]
  go_wp2
  go_ret
  exact ⟨rfl, HB2.out⟩

set_option maxHeartbeats 1000000 in
theorem nil_walk (n : Int) (w : World) (h0 : 0 ≤ n) (h1 : n < 256) : Calls Try.prog 7 #[.int .u8 n] w fun e w' => e = .returned (.bool true) ∧ Below w.heap.size w w' := by
  obtain ⟨k, rfl⟩ : ∃ k : Nat, n = k := ⟨n.toNat, by omega⟩
  go_enter Try.func7, Try.ntmps7
  go_wp2_with fail
  rw [show ((k : Int) % 57) = ((k % 57 : Nat) : Int) by omega]
  refine (get_nil (k % 57) _ (by omega)).mono ?_
  rintro e w1 ⟨rfl, rfl⟩
  go_wp2_with fail
  refine (awake_any _).mono ?_
  rintro e w2 ⟨rfl, hb⟩
  have HB := Lib.hid hb
  clear hb
  go_wp2_with fail
  refine (put_nil _ _ _).mono ?_
  rintro e w3 ⟨rfl, rfl⟩
  go_wp2_with fail
  refine (bits_nil _).mono ?_
  rintro e w4 ⟨rfl, rfl⟩
  go_wp2_with fail
  refine (bytes_nil _).mono ?_
  rintro e w5 ⟨rfl, rfl⟩
  rw [show ofB [] = ⟨#[]⟩ from rfl]
  go_wp2_with fail
  refine (left_nil _).mono ?_
  rintro e w6 ⟨rfl, rfl⟩
  go_wp2_with fail
  refine (zeros_nil _).mono ?_
  rintro e w7 ⟨rfl, rfl⟩
  go_wp2
  go_ret
  exact ⟨rfl, HB.out⟩

theorem own_at {w w' : World} {B n size : Nat} {e : TypeId} {v : Value} {xs : List Value} (h : w.ownsRow B e size v n xs) (hb : ∀ k, v.ownBlock = some k → w'.heap[k]? = w.heap[k]?) : w'.ownsRow B e size v n xs := by
  refine ⟨h.1, ?_⟩
  rcases h.2 with h0 | ⟨g, cap, cur, rfl, hg, hr, h1⟩
  · exact Or.inl h0
  · exact Or.inr ⟨g, cap, cur, rfl, hg, (hb g rfl).trans hr, h1⟩
theorem own_lt {w : World} {B n size : Nat} {e : TypeId} {v : Value} {xs : List Value} (h : w.ownsRow B e size v n xs) (k : Nat) (hk : v.ownBlock = some k) : B ≤ k ∧ k < w.heap.size := h.lt k hk
theorem Wr.stays {w w' : World} {B g1 g2 : Nat} {v1 v1' v2 : Value} {bs1 bs2 : List Bool} (h : Wr w B g2 v2 bs2) (h1 : Wr w B g1 v1 bs1) (m : Moved w w' g1 v1 v1') (hne : g1 ≠ g2) (hd : ∀ k, v2.ownBlock = some k → v1.ownBlock ≠ some k) : Wr w' B g2 v2 bs2 := by
  refine ⟨?_, own_at h.own fun k hk => ?_, h.lt⟩
  · exact (m.block g2 h.row.lt (fun e => hne e.symm) (own_ne h1.own g2 h.lt)).trans h.row
  · have := own_lt h.own k hk
    have := h1.lt
    exact m.block k (by omega) (by omega) (fun e => hd k hk e.symm)
/-- Two Writers, apart. -/
structure Two (w : World) (B g1 : Nat) (v1 : Value) (bs1 : List Bool) (g2 : Nat) (v2 : Value) (bs2 : List Bool) : Prop where
  l : Wr w B g1 v1 bs1
  r : Wr w B g2 v2 bs2
  ne : g1 ≠ g2
  apart : ∀ k, v2.ownBlock = some k → v1.ownBlock ≠ some k
theorem Two.symm {w : World} {B g1 g2 : Nat} {v1 v2 : Value} {bs1 bs2 : List Bool} (h : Two w B g1 v1 bs1 g2 v2 bs2) : Two w B g2 v2 bs2 g1 v1 bs1 :=
  ⟨h.r, h.l, fun e => h.ne e.symm, fun k h1 h2 => h.apart k h2 h1⟩
theorem Two.left {w w' : World} {B g1 g2 : Nat} {v1 v1' v2 : Value} {bs1 bs1' bs2 : List Bool} (h : Two w B g1 v1 bs1 g2 v2 bs2) (h1 : Wr w' B g1 v1' bs1') (m : Moved w w' g1 v1 v1') : Two w' B g1 v1' bs1' g2 v2 bs2 := by
  refine ⟨h1, h.r.stays h.l m h.ne h.apart, h.ne, fun k hk => ?_⟩
  have h2 := own_lt h.r.own k hk
  rcases m.own with e | ⟨j, e, hj⟩
  · rw [e]; exact h.apart k hk
  · rw [e]; intro e2; injection e2 with e2; omega
theorem Two.right {w w' : World} {B g1 g2 : Nat} {v1 v2 v2' : Value} {bs1 bs2 bs2' : List Bool} (h : Two w B g1 v1 bs1 g2 v2 bs2) (h2 : Wr w' B g2 v2' bs2') (m : Moved w w' g2 v2 v2') : Two w' B g1 v1 bs1 g2 v2' bs2' :=
  (h.symm.left h2 m).symm
theorem Wr.drew {w : World} {B g : Nat} {v : Value} {bs : List Bool} (h : Wr w B g v bs) : Wr w.drew B g v bs := ⟨h.row, h.own, h.lt⟩
theorem Two.drew {w : World} {B g1 g2 : Nat} {v1 v2 : Value} {bs1 bs2 : List Bool} (h : Two w B g1 v1 bs1 g2 v2 bs2) : Two w.drew B g1 v1 bs1 g2 v2 bs2 := ⟨h.l.drew, h.r.drew, h.ne, h.apart⟩
/-- What a Writer's call does, seen from a floor beneath it. -/
theorem Wr.floor {w w' : World} {B F g : Nat} {v v' : Value} {bs : List Bool} (h : Wr w B g v bs) (m : Moved w w' g v v') (hF : F ≤ g) (hw : F ≤ w.heap.size) : Below F w w' :=
  m.below hF (fun k hk => by have := own_ge h.own k hk; have := h.lt; omega) hw
end Go.Proofs.Ytnhbbdfjeaflcaa
