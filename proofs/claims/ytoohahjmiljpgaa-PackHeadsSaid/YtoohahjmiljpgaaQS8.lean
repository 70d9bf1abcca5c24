/-
  Contracts and plain facts that the laws share; each piece is headed by what it holds and its conditions.
-/
import Derived.Test.YtoohahjmiljpgaaQS7
import Derived.Test.YtoohahjmiljpgaaQS2
import Derived.Test.YtoohahjmiljpgaaQS5
import Derived.Laws.AppendOwn
import Derived.Laws.AppendOwnNone
import Derived.Laws.OwnMore

/- A slice of the call's own to which a number is appended. Conditions: those that each fact names. -/
namespace Go.Proofs.Ytoohahjmiljpgaa
open Go.RowKit
open M
theorem own13_apart {w w' : World} {base base' g cap n m size : Nat} {e e' : TypeId} {xs ys : List Value} {v : Value} (h : w.ownsRow base e size (.slice (some ⟨g, 0, none⟩) n cap) n xs) (hne : e ≠ e') {size' : Nat} (ho : w.ownsRow base' e' size' v m ys) (hg : w.grownBy w' v.ownBlock) :
    w'.ownsRow base e size (.slice (some ⟨g, 0, none⟩) n cap) n xs := by
  rcases h.2 with ⟨h1, _⟩ | ⟨g', cap', cur, h1, hbs, hr, hnc, hcm, hsz, htk⟩
  · simp at h1
  · simp only [Value.slice.injEq, Option.some.injEq, Addr.mk.injEq, and_true, true_and] at h1
    obtain ⟨rfl, rfl⟩ := h1
    refine ⟨h.1, .inr ⟨g, cap, cur, rfl, hbs, Row.grown hr hg (Row.lt hr) ?_, hnc, hcm, hsz, htk⟩⟩
    intro he
    rcases ho.2 with ⟨rfl, _⟩ | ⟨g2, cap2, cur2, rfl, _, hr2, _⟩
    · simp [Value.ownBlock] at he
    · simp only [Value.ownBlock, Option.some.injEq] at he
      subst he
      rw [hr] at hr2
      injection hr2 with hr2
      injection hr2 with _ hr2 _
      exact hne hr2
theorem own13_stay {w w' : World} {base n size : Nat} {e : TypeId} {v : Value} {xs : List Value} (h : w.ownsRow base e size v n xs) (hb : Below w.heap.size w w') : w'.ownsRow base e size v n xs := by
  refine ⟨h.1, ?_⟩
  rcases h.2 with h0 | ⟨g, cap, cur, h1, h2, h3, h4⟩
  · exact Or.inl h0
  · exact Or.inr ⟨g, cap, cur, h1, h2, (hb.block g (Row.lt h3)).trans h3, h4⟩
theorem own13_form {w : World} {base size n : Nat} {e : TypeId} {v : Value} {xs : List Value} (h : w.ownsRow base e size v n xs) (h0 : 0 < n) :
    ∃ g cap, v = .slice (some ⟨g, 0, none⟩) n cap ∧ base ≤ g ∧ g < w.heap.size := by
  rcases h.2 with ⟨_, h1⟩ | ⟨g, cap, cur, h1, h2, h3, h4⟩
  · omega
  · exact ⟨g, cap, h1, h2, Row.lt h3⟩
theorem own13_at {w : World} {base g cap n size : Nat} {e : TypeId} {l : List Int} (h : w.ownsRow base e size (.slice (some ⟨g, 0, none⟩) n cap) n (iV l)) (p : Nat) (hp : p < l.length) : w.cell? ⟨g, p, none⟩ = some (.int .i64 (l.getD p 0)) := by
  have hl : (iV l).length = n * size := h.1
  rw [iV_len] at hl
  rcases h.2 with ⟨h1, _⟩ | ⟨g', cap', cur, h1, hbs, hr, hnc, hcm, hsz, htk⟩
  · simp at h1
  · simp only [Value.slice.injEq, Option.some.injEq, Addr.mk.injEq, and_true, true_and] at h1
    obtain ⟨rfl, rfl⟩ := h1
    rw [cell_of_row _ _ _ _ _ _ hr, ← iV_get l p hp, ← htk, List.getElem?_take, if_pos (by omega), Array.getElem?_toList]
theorem own13_none (w : World) (base size : Nat) (e : TypeId) : w.ownsRow base e size (.slice none 0 0) 0 (iV []) := ⟨by simp [iV], Or.inl ⟨rfl, rfl⟩⟩
theorem one_parts : ∃ i, Try.prog.info? 3 = some i ∧ i.zero = some (.int .i64 0) ∧ i.size = 1 ∧ i.bytes = 8 := info_parts int_info
section
variable {P : Program}
/-- One number more. -/
theorem wpList_append_one {ops : Array Oper} {rest : List Oper} {o : Oper} {a : Act} {w : World} {Q : Exit → Act → World → Prop} (hgd : o.guard = none) (s x : Operand) (S E : TypeId) (hS : P.underlying S = some (.slice E))
    (hE : ∃ i, P.info? E = some i ∧ i.zero = some (.int .i64 0) ∧ i.size = 1 ∧ i.bytes = 8)
    (ho : o.op = .call { callee := .builtin .append, args := #[s, x], argTypes := #[S, S] })
    (base : Nat) (v : Value) (n : Nat) (l : List Int) (z : Int) (hs : a.eval s = v) (hown : w.ownsRow base E 1 v n (iV l)) (g : Nat) (hx : a.eval x = .slice (some ⟨g, 0, none⟩) 1 1) (hf : w.cell? ⟨g, 0, none⟩ = some (.int .i64 z))
    (hn : n ≤ 1000000) (hbase : base ≤ w.heap.size)
    (h : ∀ v' w', w'.ownsRow base E 1 v' (n + 1) (iV (l ++ [z])) → Below base w w' → w.grownBy w' v.ownBlock → wpList P ops Q rest (a.put o.dst v') w') : wpList P ops Q (o :: rest) a w := by
  obtain ⟨i0, hi1, hi2, hi3, hi4⟩ := hE
  refine wpList_append_own w hgd s x S ho base E i0 (.int .i64 0) 1 8 hS hi1 hi2 hi3 hi4 rfl (by decide) v n (iV l) hs hown ⟨g, 0, none⟩ 1 1 (iV [z]) hx (by rw [iV_len]; rfl) ?_ (iV_one [z]) (by unfold maxLen; omega) (by omega) hbase ?_
  · intro j u hu
    have hj : j < 1 := by
      have := (List.getElem?_eq_some_iff.1 hu).1
      rwa [iV_len] at this
    obtain rfl : j = 0 := by omega
    rw [show (⟨g, 0, none⟩ : Addr).add 0 = ⟨g, 0, none⟩ by simp [Addr.add], hf, ← hu]
    rfl
  · intro v' w' hown' hgrow _
    exact h v' w' (by rw [iV_app]; exact hown') ((Below.refl _ _).grown hgrow hbase (fun k hk => own_ge hown k hk)) hgrow
end
end Go.Proofs.Ytoohahjmiljpgaa

/- What the reference's Sum of layer 15 reckons, bit by bit. Conditions: those that each fact names. -/
namespace Go.Proofs.Ytoohahjmiljpgaa
open Go.RowKit
open M
/-- A bit as a number; the p-th bit of bytes, the highest of each first. -/
def bI15 (b : Bool) : Int := if b then 1 else 0
def bt15 (l : List UInt8) (p : Nat) : Bool := (l.getD (p / 8) 0).toNat / 2 ^ (7 - p % 8) % 2 == 1
def bts15 (l : List UInt8) (n : Nat) : List Int := (List.range n).map fun p => bI15 (bt15 l p)
theorem bts_len (l : List UInt8) (n : Nat) : (bts15 l n).length = n := by simp [bts15]
theorem bts_snoc (l : List UInt8) (n : Nat) : bts15 l (n + 1) = bts15 l n ++ [bI15 (bt15 l n)] := by simp [bts15, List.range_succ]
theorem bt_num (l : List UInt8) (k j : Nat) (hj : j < 8) : bI15 (bt15 l (8 * k + j)) = (((l.getD k 0).toNat / (128 / 2 ^ j) % 2 : Nat) : Int) := by
  unfold bt15 bI15
  rw [show (8 * k + j) / 8 = k by omega, show (8 * k + j) % 8 = j by omega]
  have : (2 : Nat) ^ (7 - j) = 128 / 2 ^ j := by
    rcases (by omega : j = 0 ∨ j = 1 ∨ j = 2 ∨ j = 3 ∨ j = 4 ∨ j = 5 ∨ j = 6 ∨ j = 7) with h | h | h | h | h | h | h | h <;> subst h <;> rfl
  rw [this]
  generalize (l.getD k 0).toNat / (128 / 2 ^ j) = x
  by_cases h : x % 2 = 1
  · simp [h]
  · have : x % 2 = 0 := by omega
    simp [this]
theorem tm15 (r : Int) : (0 ≤ r.tmod 65536 → r.tmod 65536 = r % 65536) ∧ (r.tmod 65536 < 0 → r.tmod 65536 + 65536 = r % 65536) := by
  by_cases h : 0 ≤ r
  · rw [Int.tmod_eq_emod_of_nonneg h]
    omega
  · have : r.tmod 65536 = -((-r) % 65536) := by
      rw [← Int.tmod_eq_emod_of_nonneg (show 0 ≤ -r by omega), Int.neg_tmod, Int.neg_neg]
    rw [this]
    omega
def qj15 (j : Nat) : Nat := 128 / 2 ^ j
theorem qj_step (j : Nat) : qj15 (j + 1) = qj15 j / 2 := by
  unfold qj15
  rw [Nat.div_div_eq_div_mul, Nat.pow_succ]
theorem qj_pos (j : Nat) (h : j < 8) : 1 ≤ qj15 j ∧ qj15 j ≤ 128 := by
  unfold qj15
  rcases (by omega : j = 0 ∨ j = 1 ∨ j = 2 ∨ j = 3 ∨ j = 4 ∨ j = 5 ∨ j = 6 ∨ j = 7) with h | h | h | h | h | h | h | h <;> subst h <;> decide
theorem qj_end : qj15 8 = 0 := by decide
theorem bit_run (s : ByteArray) (l : List UInt8) (k j q m : Nat) (hl : bl s = l) (hk : k < s.size) (hj : j < 8) (hq : q = qj15 j) (hm : m = 8 * k + j) :
    ∃ x y z u : Nat, s[k]!.toNat = x ∧ wrap64 (x : Int) = (x : Int) ∧ (x : Int).tdiv (q : Int) = (y : Int) ∧ wrap64 (y : Int) = (y : Int) ∧ (y : Int).tmod 2 = (z : Int) ∧ (q : Int).tdiv 2 = (u : Int) ∧ wrap64 (u : Int) = (u : Int) ∧ bI15 (bt15 l m) = (z : Int) ∧ u = qj15 (j + 1) ∧ u < q := by
  have hqb := qj_pos j hj
  rw [← hq] at hqb
  have hx0 : l.getD k 0 = s[k]! := by
    rw [← hl, getElem!_pos s k hk]
    show s.data.toList.getD k 0 = s[k]
    rw [List.getD_eq_getElem?_getD, List.getElem?_eq_getElem (by simpa using hk)]
    rfl
  have hbt := bt_num l k j hj
  rw [show 128 / 2 ^ j = q from hq.symm, ← hm, hx0] at hbt
  have hxb := s[k]!.toNat_lt
  refine ⟨s[k]!.toNat, s[k]!.toNat / q, s[k]!.toNat / q % 2, q / 2, rfl, ?_, ?_, ?_, ?_, ?_, ?_, hbt, ?_, ?_⟩
  · rw [wrap64]; omega
  · rw [Int.tdiv_eq_ediv_of_nonneg (by omega), Int.natCast_ediv]
  · have := Nat.div_le_self s[k]!.toNat q
    generalize s[k]!.toNat / q = y at *
    rw [wrap64]; omega
  · generalize s[k]!.toNat / q = y at *
    rw [Int.tmod_eq_emod_of_nonneg (by omega)]; omega
  · rw [Int.tdiv_eq_ediv_of_nonneg (by omega)]; omega
  · rw [wrap64]; omega
  · rw [qj_step, hq]
  · omega
theorem ms15 (u q : Nat) (h : u < q) : (intOf (.int .i64 (u : Int))).toNat < (intOf (.int .i64 (q : Int))).toNat := by
  simpa [intOf] using h
end Go.Proofs.Ytoohahjmiljpgaa

/- What the reference's Sum of layer 15 reckons: the first sixteen bits made one with the register's, the division, the sixteen bits that are left. Conditions: those that each fact names. -/
namespace Go.Proofs.Ytoohahjmiljpgaa
open Go.RowKit
open M
/-- A text's bits. -/
def tb15 (l : List UInt8) (n : Nat) : List Bool := (List.range n).map (bt15 l)
theorem tb_len (l : List UInt8) (n : Nat) : (tb15 l n).length = n := by simp [tb15]
/-- Bits as numbers. -/
def bm15 (L : List Bool) : List Int := L.map bI15
theorem bm_len (L : List Bool) : (bm15 L).length = L.length := by simp [bm15]
theorem bts_bm (l : List UInt8) (n : Nat) : bts15 l n = bm15 (tb15 l n) := by simp [bts15, bm15, tb15]
theorem bm_app (L : List Bool) (n : Nat) : bm15 L ++ List.replicate n 0 = bm15 (L ++ List.replicate n false) := by
  simp [bm15, bI15]
theorem bm_get (L : List Bool) (j : Nat) : (bm15 L).getD j 0 = bI15 (L.getD j false) := by
  simp only [bm15, List.getD_eq_getElem?_getD, List.getElem?_map]
  cases L[j]? <;> simp [bI15]
theorem bm_set (L : List Bool) (j : Nat) (b : Bool) : (bm15 L).set j (bI15 b) = bm15 (L.set j b) := by
  simp [bm15, List.map_set]
theorem bI_bd (b : Bool) : 0 ≤ bI15 b ∧ bI15 b ≤ 1 := by cases b <;> simp [bI15]
theorem bI_not (b : Bool) : 1 - bI15 b = bI15 (!b) := by cases b <;> rfl
/-- The first i of the first sixteen made one with the register's. -/
def xa15 (R : BitVec 16) (L : List Bool) (i : Nat) : List Bool := (List.range L.length).map fun k => if k < i then (L.getD k false != R.getLsbD (15 - k)) else L.getD k false
theorem xa_len (R : BitVec 16) (L : List Bool) (i : Nat) : (xa15 R L i).length = L.length := by simp [xa15]
theorem getD_ext (L M : List Bool) (h : L.length = M.length) (k : ∀ j, j < L.length → L.getD j false = M.getD j false) : L = M := by
  apply List.ext_getElem h
  intro j h1 h2
  have := k j h1
  rw [List.getD_eq_getElem?_getD, List.getD_eq_getElem?_getD, List.getElem?_eq_getElem h1, List.getElem?_eq_getElem h2] at this
  simpa using this
theorem xa_at (R : BitVec 16) (L : List Bool) (i k : Nat) (h : k < L.length) : (xa15 R L i).getD k false = if k < i then (L.getD k false != R.getLsbD (15 - k)) else L.getD k false := by
  simp only [xa15, List.getD_eq_getElem?_getD, List.getElem?_map, List.getElem?_range h, Option.map_some, Option.getD_some]
theorem xa_zero (R : BitVec 16) (L : List Bool) : xa15 R L 0 = L := getD_ext _ _ (xa_len R L 0) fun j hj => by
  rw [xa_at _ _ _ _ (by rwa [xa_len] at hj), if_neg (by omega)]
theorem xa_full (R : BitVec 16) (L : List Bool) : xa15 R L 16 = xw R L := getD_ext _ _ (by rw [xa_len, xw_len]) fun j hj => by
  rw [xa_len] at hj
  rw [xa_at _ _ _ _ hj, xw_at _ _ _ hj]
  by_cases h : j < 16
  · rw [if_pos h, show decide (j < 16) = true from decide_eq_true h, Bool.true_and]
  · rw [if_neg h, show decide (j < 16) = false from decide_eq_false h, Bool.false_and]
    cases L.getD j false <;> rfl
theorem getD_setB (L : List Bool) (i j : Nat) (b : Bool) (h : i < L.length) : (L.set i b).getD j false = if i = j then b else L.getD j false := by
  rw [List.getD_eq_getElem?_getD, List.getElem?_set]
  by_cases e : i = j
  · subst e; simp [h]
  · simp [e, List.getD_eq_getElem?_getD]
theorem xa_step (R : BitVec 16) (L : List Bool) (i : Nat) (h : i < L.length) : (xa15 R L i).set i (L.getD i false != R.getLsbD (15 - i)) = xa15 R L (i + 1) := getD_ext _ _ (by simp [xa_len]) fun j hj => by
  have hj2 : j < L.length := by simpa [xa_len] using hj
  rw [getD_setB _ _ _ _ (by rw [xa_len]; exact h), xa_at _ _ _ _ hj2, xa_at _ _ _ _ hj2]
  by_cases e : i = j
  · subst e
    rw [if_pos rfl, if_pos (by omega)]
  · rw [if_neg e]
    by_cases h2 : j < i
    · rw [if_pos h2, if_pos (by omega)]
    · rw [if_neg h2, if_neg (by omega)]
/-- A register's bit, by division. -/
theorem reg_bit (r0 i : Nat) (h : i < 16) (b : Bool) : (bI15 b + ((r0 / 2 ^ (15 - i) : Nat) : Int)) % 2 = bI15 (b != (BitVec.ofNat 16 r0).getLsbD (15 - i)) := by
  have hb : (BitVec.ofNat 16 r0).getLsbD (15 - i) = decide (r0 / 2 ^ (15 - i) % 2 = 1) := by
    rw [BitVec.getLsbD_ofNat, Nat.testBit_eq_decide_div_mod_eq]
    simp; intro _; omega
  rw [hb]
  generalize r0 / 2 ^ (15 - i) = x
  rcases Nat.mod_two_eq_zero_or_one x with h0 | h0 <;> cases b <;> simp [bI15, h0] <;> omega
/-- One step of the division, where its bit is 1. -/
theorem dv_one (R : BitVec 16) (l : List Bool) (i : Nat) (h : i < l.length) (hb : (dv15 R l i).getD i false = true) :
    (((((dv15 R l i).set i false).set (i + 4) (!(dv15 R l i).getD (i + 4) false)).set (i + 11) (!(dv15 R l i).getD (i + 11) false)).set (i + 16) (!(dv15 R l i).getD (i + 16) false)) = dv15 R l (i + 1) := by
  obtain ⟨b, h1, h2⟩ := dv_next R l i h
  rw [hb] at h1
  subst h1
  have hl := dv_len R l i (by omega)
  refine getD_ext _ _ (by simp [hl, dv_len R l (i + 1) (by omega)]) fun j hj => ?_
  have hj2 : j < l.length + 16 := by simpa [hl] using hj
  rw [getD_setB _ _ _ _ (by simp [hl]; omega), getD_setB _ _ _ _ (by simp [hl]; omega), getD_setB _ _ _ _ (by simp [hl]; omega), getD_setB _ _ _ _ (by rw [hl]; omega), h2 j hj2]
  by_cases e0 : j = i
  · subst e0
    rw [if_neg (by omega), if_neg (by omega), if_neg (by omega), if_pos rfl, if_pos rfl]
  · rw [if_neg e0]
    by_cases e1 : j = i + 4
    · subst e1; rw [if_neg (by omega), if_neg (by omega), if_pos rfl]; simp
    · by_cases e2 : j = i + 11
      · subst e2; rw [if_neg (by omega), if_pos rfl]; simp
      · by_cases e3 : j = i + 16
        · subst e3; rw [if_pos rfl]; simp
        · rw [if_neg (by omega), if_neg (by omega), if_neg (by omega), if_neg (by omega)]
          have : (j == i + 4 || j == i + 11 || j == i + 16) = false := by simp; omega
          rw [this]; simp
/-- .. where it is 0. -/
theorem dv_none (R : BitVec 16) (l : List Bool) (i : Nat) (h : i < l.length) (hb : (dv15 R l i).getD i false = false) : dv15 R l i = dv15 R l (i + 1) := by
  obtain ⟨b, h1, h2⟩ := dv_next R l i h
  rw [hb] at h1
  subst h1
  have hl := dv_len R l i (by omega)
  refine getD_ext _ _ (by rw [hl, dv_len R l (i + 1) (by omega)]) fun j hj => ?_
  rw [h2 j (by rwa [hl] at hj)]
  by_cases e0 : j = i
  · subst e0; rw [if_pos rfl, hb]
  · rw [if_neg e0, Bool.false_and]
    cases (dv15 R l i).getD j false <;> rfl
theorem iV_set15 (l : List Int) (i : Nat) (x : Int) : (iV l).set i (.int .i64 x) = iV (l.set i x) := by simp [iV, List.map_set]
theorem pw15 (k : Nat) (h : k < 15) : (2 : Nat) ^ (15 - k) / 2 = 2 ^ (15 - (k + 1)) := by
  have : 15 - k = (15 - (k + 1)) + 1 := by omega
  rw [this, Nat.pow_succ, Nat.mul_div_cancel _ (by decide)]
theorem pw15_bd (k : Nat) : 1 ≤ (2 : Nat) ^ (15 - k) ∧ (2 : Nat) ^ (15 - k) ≤ 32768 :=
  ⟨Nat.one_le_two_pow, Nat.pow_le_pow_right (n := 2) (by decide) (show 15 - k ≤ 15 by omega)⟩
/-- The highest k bits. -/
theorem top_step (x : BitVec 16) (k : Nat) (h : k < 16) : 2 * (x.toNat / 2 ^ (16 - k)) + (bI15 (x.getLsbD (15 - k))).toNat = x.toNat / 2 ^ (16 - (k + 1)) := by
  have e : 16 - k = (15 - k) + 1 := by omega
  have e2 : 16 - (k + 1) = 15 - k := by omega
  rw [e, e2, Nat.pow_succ, ← Nat.div_div_eq_div_mul, BitVec.getLsbD, Nat.testBit_eq_decide_div_mod_eq]
  generalize x.toNat / 2 ^ (15 - k) = y
  by_cases h2 : y % 2 = 1
  · simp [bI15, h2]; omega
  · simp [bI15, h2]; omega
/-- What the sum of bytes is, r being what it is at first. -/
def sm15 (r : Int) (l : List UInt8) : Nat := (crun (BitVec.ofNat 16 (r % 65536).toNat) (tb15 l (8 * l.length))).toNat
end Go.Proofs.Ytoohahjmiljpgaa

/- What the walks of layers with texts of bytes share besides (on XBh): a slice of bytes made a string. No conditions. -/
namespace Go.Proofs.Ytoohahjmiljpgaa
open Go.RowKit
open M

theorem run_conv (w : World) (g off cap n : Nat) (l : List UInt8) (hn : l.length = n) (h : ∀ i (hi : i < l.length), w.cell? ⟨g, off + i, none⟩ = some (.int .u8 (l[i].toNat : Int))) :
    (convert 44 9 (.slice (some ⟨g, off, none⟩) n cap)).run Try.prog w = .ok (.string (ofB l)) w := by
  have := run_convert_bytes_arg (P := Try.prog) w 44 5 Try.underlying44 Try.underlying5 g off n cap (l.map fun b => (b.toNat : Int)) (by simpa using hn)
    (fun i hi => by
      have hi' : i < l.length := by omega
      rw [h i hi']
      simp [hi']) 9 Try.underlying9
  rw [this]
  rw [strOfNums_ofB]
theorem byte_info : (Try.prog.info? 5).map (fun i => (i.zero, i.size, i.bytes)) = some (some (.int .u8 0), 1, 1) := by kernel_rfl
end Go.Proofs.Ytoohahjmiljpgaa
