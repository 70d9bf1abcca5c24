/-
  The contracts of layer 3's Writer: lay, split, Put, Bits, Bytes. Conditions: the Writer lies in a block of its own, its bytes in another one; no more than 2^40 bits.
-/
import Derived.Test.YtnhbbdfjeaflcaaBr
import Derived.StillTailTactics
namespace Go.Proofs.Ytnhbbdfjeaflcaa
open Go.RowKit
open M

/-- A Writer, as it lies. -/
def wrCells (v : Value) (n : Nat) : Array Value := #[v, .int .i64 (n : Nat)]
structure Wr (w : World) (B g : Nat) (v : Value) (bs : List Bool) : Prop where
  row : Row w g 27 (wrCells v bs.length)
  own : w.ownsRow B 5 1 v (pack bs).length (byteCells (pack bs)).toList
  lt : g < B
/-- Nothing has turned but block g, the old row's block, and what is new; the row's block is the old one or new. -/
structure Moved (w w' : World) (g : Nat) (v v' : Value) : Prop where
  os : w'.os = w.os
  tape : w'.tape = w.tape
  output : w'.output = w.output
  size : w.heap.size ≤ w'.heap.size
  block : ∀ k, k < w.heap.size → k ≠ g → some k ≠ v.ownBlock → w'.heap[k]? = w.heap[k]?
  own : v'.ownBlock = v.ownBlock ∨ ∃ k, v'.ownBlock = some k ∧ w.heap.size ≤ k
theorem Moved.refl (w : World) (g : Nat) (v : Value) : Moved w w g v v := ⟨rfl, rfl, rfl, Nat.le_refl _, fun _ _ _ _ => rfl, Or.inl rfl⟩
theorem Moved.trans {a b c : World} {g : Nat} {u v x : Value} (h : Moved a b g u v) (k : Moved b c g v x) : Moved a c g u x := by
  refine ⟨k.os.trans h.os, k.tape.trans h.tape, k.output.trans h.output, Nat.le_trans h.size k.size, fun i hi hg hu => ?_, ?_⟩
  · refine (k.block i (Nat.lt_of_lt_of_le hi h.size) hg ?_).trans (h.block i hi hg hu)
    rcases h.own with e | ⟨m, e, hm⟩
    · rw [e]; exact hu
    · rw [e]; intro e2; injection e2 with e2; omega
  · rcases k.own with e | ⟨m, e, hm⟩
    · rw [e]
      exact h.own
    · exact Or.inr ⟨m, e, Nat.le_trans h.size hm⟩
theorem Moved.below {w w' : World} {B g : Nat} {v v' : Value} (h : Moved w w' g v v') (hg : B ≤ g) (hv : ∀ k, v.ownBlock = some k → B ≤ k) (hB : B ≤ w.heap.size) : Below B w w' :=
  ⟨h.os, h.tape, h.output, h.size, fun k hk => h.block k (by omega) (by omega) (fun e => by have := hv k e.symm; omega)⟩

theorem or_walk (x : Nat) (b : Bool) (L : Nat) (hx : x < 256) : bits .or .u8 (x : Int) (IntKind.u8.wrap (IntKind.i64.wrap (((b.toNat : Nat) : Int) * 2 ^ min (sh L) 64))) = ((x ||| (b.toNat <<< (7 - L % 8)) : Nat) : Int) := by
  have h0 : min (sh L) 64 = 7 - L % 8 := by unfold sh; omega
  rw [h0]
  have h1 : b.toNat <<< (7 - L % 8) < 256 := by
    rw [Nat.shiftLeft_eq]
    have : 2 ^ (7 - L % 8) ≤ 2 ^ 7 := Nat.pow_le_pow_right (by decide) (by omega)
    cases b <;> simp <;> omega
  have e : ((b.toNat : Nat) : Int) * 2 ^ (7 - L % 8) = ((b.toNat <<< (7 - L % 8) : Nat) : Int) := by
    rw [Nat.shiftLeft_eq, Int.natCast_mul, Int.natCast_pow]; rfl
  rw [e]
  generalize b.toNat <<< (7 - L % 8) = y at *
  rw [IntWalk.i64_in _ (by omega), show IntKind.u8.wrap (y : Int) = (y : Int) by rw [IntKind.wrap_u8]; omega, u8_or_nat x y hx h1]
theorem own_set {w : World} {B n cap g : Nat} {e : TypeId} {xs : List Value} (h : w.ownsRow B e 1 (.slice (some ⟨g, 0, none⟩) n cap) n xs) (i : Nat) (u : Value) :
    (w.setCell ⟨g, i, none⟩ u).ownsRow B e 1 (.slice (some ⟨g, 0, none⟩) n cap) n (xs.set i u) := by
  refine ⟨by rw [List.length_set]; exact h.1, ?_⟩
  rcases h.2 with ⟨h0, _⟩ | ⟨g', cap', cur, hv, hb, hr, hc, hm, hs, ht⟩
  · cases h0
  · simp only [Value.slice.injEq, Option.some.injEq, Addr.mk.injEq, and_true, true_and] at hv
    obtain ⟨rfl, rfl⟩ := hv
    refine Or.inr ⟨g, cap, cur.setIfInBounds i u, rfl, hb, heap_setCell_same _ _ _ _ _ _ hr, hc, hm, by simpa using hs, ?_⟩
    rw [Array.toList_setIfInBounds, List.take_set, ht]
theorem own_drew {w : World} {B n : Nat} {e : TypeId} {v : Value} {xs : List Value} (h : w.ownsRow B e 1 v n xs) : w.drew.ownsRow B e 1 v n xs := h

theorem byteCells_set (l : List UInt8) (i n : Nat) (hn : n < 256) : (byteCells l).toList.set i (.int .u8 (n : Int)) = (byteCells (l.set i (UInt8.ofNat n))).toList := by
  unfold byteCells
  rw [List.map_set, UInt8.toNat_ofNat_of_lt' hn]
theorem lay_end (bs : List Bool) (b : Bool) {B g g1 cap q L x : Nat} {v : Value} {w w2 : World}
    (HR : Row w2 g 27 (wrCells (.slice (some ⟨g1, 0, none⟩) (q + 1) cap) bs.length))
    (HO : w2.ownsRow B 5 1 (.slice (some ⟨g1, 0, none⟩) (q + 1) cap) (q + 1) (byteCells (packN bs (q + 1))).toList)
    (HM : Moved w w2 g v (.slice (some ⟨g1, 0, none⟩) (q + 1) cap)) (hne : g ≠ g1) (hq : bs.length / 8 = q) (hL : bs.length = L) (hx : byteAt bs q = x) (hlt : g < B) :
    ∃ v', Wr (((w2.setCell ⟨g1, q, none⟩ (.int .u8 ((x ||| (b.toNat <<< (7 - L % 8)) : Nat) : Int))).setCell ⟨g, 1, none⟩ (.int .i64 ((L : Int) + 1))).drew) B g v' (bs ++ [b]) ∧
      Moved w (((w2.setCell ⟨g1, q, none⟩ (.int .u8 ((x ||| (b.toNat <<< (7 - L % 8)) : Nat) : Int))).setCell ⟨g, 1, none⟩ (.int .i64 ((L : Int) + 1))).drew) g v v' := by
  have hX : (x ||| (b.toNat <<< (7 - L % 8))) < 256 := by
    have h1 : b.toNat <<< (7 - L % 8) < 2 ^ 8 := by
      rw [Nat.shiftLeft_eq]
      have : 2 ^ (7 - L % 8) ≤ 2 ^ 7 := Nat.pow_le_pow_right (by decide) (by omega)
      cases b <;> simp <;> omega
    have h2 : x < 2 ^ 8 := by rw [← hx]; exact byteAt_lt _ _
    exact Nat.or_lt_two_pow h2 h1
  have hpk : (byteCells (packN bs (q + 1))).toList.set q (.int .u8 ((x ||| (b.toNat <<< (7 - L % 8)) : Nat) : Int)) = (byteCells (pack (bs ++ [b]))).toList := by
    rw [byteCells_set _ _ _ hX, ← pack_lay bs b, hq, hL, hx]
  have hlen : (pack (bs ++ [b])).length = q + 1 := by rw [pack_length]; simp; omega
  refine ⟨.slice (some ⟨g1, 0, none⟩) (q + 1) cap, ⟨?_, ?_, hlt⟩, HM.trans ⟨rfl, rfl, rfl, by simp [World.setCell, World.drew], fun k hk h1 h2 => ?_, Or.inl rfl⟩⟩
  · have := (HR.far (p := ⟨g1, q, none⟩) hne (.int .u8 ((x ||| (b.toNat <<< (7 - L % 8)) : Nat) : Int))).set 1 (.int .i64 ((L : Int) + 1))
    have e : (wrCells (.slice (some ⟨g1, 0, none⟩) (q + 1) cap) bs.length).setIfInBounds 1 (.int .i64 ((L : Int) + 1)) = wrCells (.slice (some ⟨g1, 0, none⟩) (q + 1) cap) (bs ++ [b]).length := by
      simp [wrCells, hL]
    rw [e] at this
    exact this
  · rw [hlen, ← hpk]
    exact ownsRow_setCell_below (own_set HO q _) (a := ⟨g, 1, none⟩) hlt _
  · refine (Below.heap_setCell _ _ _ _ h1).trans (Below.heap_setCell _ _ _ _ (fun e => h2 ?_))
    rw [e]; rfl

set_option maxHeartbeats 1000000 in
theorem lay_open (bs : List Bool) (b : Bool) (B g : Nat) (v : Value) (w : World) (hl : bs.length ≤ 1099511627776) (hB : B ≤ w.heap.size) (h8 : bs.length % 8 = 0) (h : Wr w B g v bs) :
    Calls Try.prog 24 #[.pointer (some ⟨g, 0, none⟩), .int .i64 (b.toNat : Nat)] w fun e w' => e = .returned (.tuple #[]) ∧ ∃ v', Wr w' B g v' (bs ++ [b]) ∧ Moved w w' g v v' := by
  obtain ⟨i0, hi0, hz0, hz1, hz2⟩ := info_parts byte_info
  have HI := Lib.hid (And.intro hi0 (And.intro hz0 (And.intro hz1 hz2)))
  clear hi0 hz0 hz1 hz2
  have H := Lib.hid h
  have c0 : w.cell? ⟨g, 0, none⟩ = some v := cell_of_row _ _ _ _ _ _ h.row
  have c1 : w.cell? ⟨g, 1, none⟩ = some (.int .i64 (bs.length : Nat)) := cell_of_row _ _ _ _ _ _ h.row
  have f0 := fun j => h.row.free j
  have hlt : g < w.heap.size := h.row.lt
  have h8' : ((bs.length : Nat) : Int) % 8 = 0 := by omega
  clear h
  go_enter Try.func24, Try.ntmps24
  go_wp2_with (at_builtin; refine wpList_append_lies _ rfl _ _ 25 rfl B 5 i0 (.int .u8 0) 1 1 Try.underlying25 HI.out.1 HI.out.2.1 HI.out.2.2.1 HI.out.2.2.2 rfl (by decide) _ _ _ rfl (H.out.own.alloc _) ⟨w.heap.size, 0, none⟩ 1 1 [.int .u8 0] rfl rfl (one_new _ _ rfl _ _) one_cell (by decide) ?c3 ?c4 ?c5 _ rfl ?_)
  case c3 => rw [pack_length]; unfold maxLen; omega
  case c4 => rw [pack_length]; omega
  case c5 => simp; omega
  intro g1 cap w1 hown hgrow hg1 hlt1
  obtain ⟨q, hq⟩ : ∃ q, bs.length / 8 = q := ⟨_, rfl⟩
  have hpl : (pack bs).length = q := by rw [pack_length]; omega
  rw [hpl] at hown
  have hcs : (byteCells (pack bs)).toList ++ [Value.int .u8 0] = (byteCells (packN bs (q + 1))).toList := by
    rw [← hq, ← pack_open bs h8]; simp [byteCells]
  rw [hcs] at hown
  have hr1 : Row w1 g 27 (wrCells v bs.length) := (H.out.row.alloc _).grown hgrow (by simp; omega) (own_ne H.out.own g H.out.lt)
  have hgne : g ≠ g1 := by
    rcases hg1 with e | e
    · have := own_ge H.out.own g1 e; have := H.out.lt; omega
    · omega
  have e0 : w1.cell? ⟨g, 0, none⟩ = some v := cell_of_row _ _ _ _ _ _ hr1
  have e0f : w1.frozen? ⟨g, 0, none⟩ = false := hr1.free 0
  have HW2 : Hid (Row (w1.setCell ⟨g, 0, none⟩ (.slice (some ⟨g1, 0, none⟩) (q + 1) cap)) g 27 (wrCells (.slice (some ⟨g1, 0, none⟩) (q + 1) cap) bs.length) ∧
      (w1.setCell ⟨g, 0, none⟩ (.slice (some ⟨g1, 0, none⟩) (q + 1) cap)).ownsRow B 5 1 (.slice (some ⟨g1, 0, none⟩) (q + 1) cap) (q + 1) (byteCells (packN bs (q + 1))).toList ∧
      Moved w (w1.setCell ⟨g, 0, none⟩ (.slice (some ⟨g1, 0, none⟩) (q + 1) cap)) g v (.slice (some ⟨g1, 0, none⟩) (q + 1) cap)) := by
    refine ⟨hr1.set 0 _, ownsRow_setCell_below hown (by exact H.out.lt) _, ?_⟩
    refine ⟨hgrow.os, hgrow.tape, hgrow.output, ?_, fun k hk hkg hkv => ?_, ?_⟩
    · have := hgrow.size; simp [World.setCell] at this ⊢; omega
    · exact (Below.heap_setCell _ _ _ _ hkg).trans ((hgrow.block k (by simp; omega) hkv).trans (Below.heap_alloc w _ k hk))
    · rcases hg1 with e | e
      · exact Or.inl e.symm
      · exact Or.inr ⟨g1, rfl, by omega⟩
  rw [hpl]
  clear hown hgrow hg1 hcs hr1 hpl
  go_wp2_with fail
  obtain ⟨HR, HO, HM⟩ := HW2.out
  generalize w1.setCell ⟨g, 0, none⟩ (.slice (some ⟨g1, 0, none⟩) (q + 1) cap) = w2 at *
  have d0 : w2.cell? ⟨g, 0, none⟩ = some (.slice (some ⟨g1, 0, none⟩) (q + 1) cap) := cell_of_row _ _ _ _ _ _ HR
  have d1 : w2.cell? ⟨g, 1, none⟩ = some (.int .i64 (bs.length : Nat)) := cell_of_row _ _ _ _ _ _ HR
  have d2 : w2.cell? ⟨g1, q, none⟩ = some (.int .u8 (byteAt bs q : Nat)) := by
    obtain ⟨g', cap', hv, _, _, hc⟩ := own_cells HO (by omega)
    simp only [Value.slice.injEq, Option.some.injEq, Addr.mk.injEq, and_true, true_and] at hv
    obtain ⟨rfl, rfl⟩ := hv
    rw [hc q (by omega), Array.getElem?_toList, byteCells_get _ _ (by rw [packN_length]; omega)]
    have := packN_get bs (q + 1) q (by omega)
    rw [List.getElem?_eq_getElem (by rw [packN_length]; omega)] at this
    rw [Option.some.inj this, UInt8.toNat_ofNat_of_lt' (byteAt_lt _ _)]
  have df : ∀ j, w2.frozen? ⟨g, j, none⟩ = false := fun j => HR.free j
  have dg : ∀ j, w2.frozen? ⟨g1, j, none⟩ = false := by
    rcases HO.2 with ⟨h0, _⟩ | ⟨g', cap', cur, hv, hb, hr, _⟩
    · cases h0
    · simp only [Value.slice.injEq, Option.some.injEq, Addr.mk.injEq, and_true, true_and] at hv
      obtain ⟨rfl, rfl⟩ := hv
      exact fun j => frozen_of_row _ _ _ _ _ hr
  have HHR := Lib.hid HR
  have HHO := Lib.hid HO
  have HHM := Lib.hid HM
  obtain ⟨L, hL⟩ : ∃ L, bs.length = L := ⟨_, rfl⟩
  obtain ⟨x, hx⟩ : ∃ x, byteAt bs q = x := ⟨_, rfl⟩
  have hor := or_walk x b L (by rw [← hx]; exact byteAt_lt _ _)
  have hwq : IntKind.i64.wrap (q : Int) = (q : Int) := IntWalk.i64_in _ (by omega)
  have hq0 : (q : Int) < (q : Int) + 1 := by omega
  have HORR := Lib.hid hor
  have HLX := Lib.hid (And.intro hL hx)
  rw [hL] at d1
  rw [hx] at d2
  clear HR HO HM hor c0 c1 f0 e0 e0f HW2 hx
  go_still_tail 22, (by kernel_rfl)
  still_call ((shift_any L _ (by omega)).mono fun _ _ h => ⟨h.1, h.2.symm⟩)
  repeat still_step
  refine wpStill_nil ?_
  change wpList _ _ _ _ _ w2.drew
  rw [HORR.out]
  go_wp2
  go_end0
  exact ⟨rfl, lay_end bs b HHR.out HHO.out HHM.out hgne hq HLX.out.1 HLX.out.2 H.out.lt⟩

set_option maxHeartbeats 1000000 in
theorem lay_mid (bs : List Bool) (b : Bool) (B g : Nat) (v : Value) (w : World) (hl : bs.length ≤ 1099511627776) (h8 : bs.length % 8 ≠ 0) (h : Wr w B g v bs) :
    Calls Try.prog 24 #[.pointer (some ⟨g, 0, none⟩), .int .i64 (b.toNat : Nat)] w fun e w' => e = .returned (.tuple #[]) ∧ ∃ v', Wr w' B g v' (bs ++ [b]) ∧ Moved w w' g v v' := by
  obtain ⟨q, hq⟩ : ∃ q, bs.length / 8 = q := ⟨_, rfl⟩
  have hpl : (pack bs).length = q + 1 := by rw [pack_length]; omega
  have hpk : pack bs = packN bs (q + 1) := by rw [← hq]; exact pack_mid bs h8
  have H := Lib.hid h
  obtain ⟨HR, HO, hgB⟩ := h
  rw [hpl, hpk] at HO
  obtain ⟨g1, cap, rfl, hb1, hlt1, hcc⟩ := own_cells HO (by omega)
  clear hcc
  have hgne : g ≠ g1 := by omega
  have HM := Moved.refl w g (.slice (some ⟨g1, 0, none⟩) (q + 1) cap)
  have h8' : ((bs.length : Nat) : Int) % 8 ≠ 0 := by omega
  have h8b : ((((bs.length : Nat) : Int) % 8) == 0) = false := by rw [beq_eq_false_iff_ne]; exact h8'
  clear hpl hpk
  have d0 : w.cell? ⟨g, 0, none⟩ = some (.slice (some ⟨g1, 0, none⟩) (q + 1) cap) := cell_of_row _ _ _ _ _ _ HR
  have d1 : w.cell? ⟨g, 1, none⟩ = some (.int .i64 (bs.length : Nat)) := cell_of_row _ _ _ _ _ _ HR
  have d2 : w.cell? ⟨g1, q, none⟩ = some (.int .u8 (byteAt bs q : Nat)) := by
    obtain ⟨g', cap', hv, _, _, hc⟩ := own_cells HO (by omega)
    simp only [Value.slice.injEq, Option.some.injEq, Addr.mk.injEq, and_true, true_and] at hv
    obtain ⟨rfl, rfl⟩ := hv
    rw [hc q (by omega), Array.getElem?_toList, byteCells_get _ _ (by rw [packN_length]; omega)]
    have := packN_get bs (q + 1) q (by omega)
    rw [List.getElem?_eq_getElem (by rw [packN_length]; omega)] at this
    rw [Option.some.inj this, UInt8.toNat_ofNat_of_lt' (byteAt_lt _ _)]
  have df : ∀ j, w.frozen? ⟨g, j, none⟩ = false := fun j => HR.free j
  have dg : ∀ j, w.frozen? ⟨g1, j, none⟩ = false := by
    rcases HO.2 with ⟨h0, _⟩ | ⟨g', cap', cur, hv, hb, hr, _⟩
    · cases h0
    · simp only [Value.slice.injEq, Option.some.injEq, Addr.mk.injEq, and_true, true_and] at hv
      obtain ⟨rfl, rfl⟩ := hv
      exact fun j => frozen_of_row _ _ _ _ _ hr
  have HHR := Lib.hid HR
  have HHO := Lib.hid HO
  have HHM := Lib.hid HM
  obtain ⟨L, hL⟩ : ∃ L, bs.length = L := ⟨_, rfl⟩
  obtain ⟨x, hx⟩ : ∃ x, byteAt bs q = x := ⟨_, rfl⟩
  have hor := or_walk x b L (by rw [← hx]; exact byteAt_lt _ _)
  have hwq : IntKind.i64.wrap (q : Int) = (q : Int) := IntWalk.i64_in _ (by omega)
  have hq0 : (q : Int) < (q : Int) + 1 := by omega
  have HORR := Lib.hid hor
  have HLX := Lib.hid (And.intro hL hx)
  rw [hL] at d1
  rw [hx] at d2
  clear HR HO HM hor hx
  rw [hL] at h8b
  go_enter Try.func24, Try.ntmps24
  go_wp2_with fail
  go_still_tail 22, (by kernel_rfl)
  still_call ((shift_any L _ (by omega)).mono fun _ _ h => ⟨h.1, h.2.symm⟩)
  repeat still_step
  refine wpStill_nil ?_
  change wpList _ _ _ _ _ w.drew
  rw [HORR.out]
  go_wp2
  go_end0
  exact ⟨rfl, lay_end bs b HHR.out HHO.out HHM.out hgne hq HLX.out.1 HLX.out.2 H.out.lt⟩

theorem lay_any (bs : List Bool) (b : Bool) (B g : Nat) (v : Value) (w : World) (hl : bs.length ≤ 1099511627776) (hB : B ≤ w.heap.size) (h : Wr w B g v bs) :
    Calls Try.prog 24 #[.pointer (some ⟨g, 0, none⟩), .int .i64 (b.toNat : Nat)] w fun e w' => e = .returned (.tuple #[]) ∧ ∃ v', Wr w' B g v' (bs ++ [b]) ∧ Moved w w' g v v' := by
  by_cases h8 : bs.length % 8 = 0
  · exact lay_open bs b B g v w hl hB h8 h
  · exact lay_mid bs b B g v w hl h8 h

theorem nat_shr (x k : Nat) : (x : Int) / 2 ^ k = ((x / 2 ^ k : Nat) : Int) := div_pow x k

theorem split_any (x n : Nat) (bs : List Bool) (B g : Nat) (v : Value) (w : World) (hn : n ≤ 56) (hx : x < 72057594037927936) (hl : bs.length + 56 ≤ 1099511627776) (hB : B ≤ w.heap.size) (h : Wr w B g v bs) :
    Calls Try.prog 23 #[.int .i64 x, .int .i64 n, .func (.func 24) #[.pointer (some ⟨g, 0, none⟩)] #[]] w fun e w' => e = .returned (.tuple #[]) ∧ ∃ v', Wr w' B g v' (bs ++ bitsOf x n) ∧ Moved w w' g v v' := by
  have H := Lib.hid h
  clear h
  go_enter Try.func23, Try.ntmps23
  go_wp2
  go_loopw [6] (fun i wr => ∃ k : Nat, k ≤ n ∧ i = .int .i64 ((n : Int) - 1 - k) ∧ ∃ v', Wr wr B g v' (bs ++ (bitsOf x n).take k) ∧ Moved w wr g v v') (fun i _ => (intOf i + 1).toNat)
  case atStart => exact ⟨0, Nat.zero_le _, by congr 1; omega, v, by simpa using H.out, Moved.refl _ _ _⟩
  case round =>
    obtain ⟨k, hk, rfl, v1, hw, hm⟩ := hrel
    have HW := Lib.hid hw
    have HM := Lib.hid hm
    clear hw hm
    by_cases hlt : k < n
    · obtain ⟨i, hi⟩ : ∃ i : Nat, n - 1 - k = i := ⟨_, rfl⟩
      have hi2 : (n : Int) - 1 - k = (i : Int) := by omega
      rw [hi2]
      have HI := Lib.hid (bit_walk x i (by omega))
      have HT := Lib.hid (bitsOf_take x n k hlt)
      have hi3 : min i 64 = i := by omega
      go_wp2_with fail
      rw [HI.out]
      refine (lay_any (bs ++ (bitsOf x n).take k) (x.testBit i) B g v1 _ (by rw [List.length_append, List.length_take, bitsOf_length]; omega) (by have := HM.out.size; omega) HW.out).mono ?_
      rintro e w' ⟨rfl, v2, hw2, hm2⟩
      have HW2 := Lib.hid hw2
      have HM2 := Lib.hid hm2
      clear hw2 hm2
      go_wp2
      go_roundw
      case rel => exact ⟨k + 1, by omega, by congr 1; omega, v2, by rw [HT.out, hi, ← List.append_assoc]; exact HW2.out, HM.out.trans HM2.out⟩
      case measure => simp [intOf]
    · obtain rfl : k = n := by omega
      rw [show (k : Int) - 1 - k = -1 by omega]
      go_wp2
      go_end0
      exact ⟨rfl, v1, by have := HW.out; rwa [List.take_of_length_le (by rw [bitsOf_length]; omega)] at this, HM.out⟩
end Go.Proofs.Ytnhbbdfjeaflcaa
